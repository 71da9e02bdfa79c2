/- The document's own sums, differences and rests. Conditions: the arguments are of 64 bits. -/
import Derived.Test.YtokfkckfclnoaaaGreatDoorDecRefCalls
namespace Go.Proofs.YtokfkckfclnoaaaGreatDoor
open Go.RowKit

theorem there_fresh (w : World) (b : Bool) (n : Int) : (w.alloc (.cells #[.bool false, .int .u64 0, .int .u64 0, .int .u64 0, .int .u64 0, .int .u64 0, .int .u64 0, .int .u64 0, .int .u64 0, .int .u64 0, .int .u64 0, .int .u64 0, .int .u64 0] 55)).there w.heap.size 0 (intC b (digs 12 n)).size := by
  have h := heap_alloc_new w (.cells #[.bool false, .int .u64 0, .int .u64 0, .int .u64 0, .int .u64 0, .int .u64 0, .int .u64 0, .int .u64 0, .int .u64 0, .int .u64 0, .int .u64 0, .int .u64 0, .int .u64 0] 55)
  rw [zero13] at h
  exact there_five h
theorem row_fresh (w : World) (b : Bool) (n : Int) : ((w.alloc (.cells #[.bool false, .int .u64 0, .int .u64 0, .int .u64 0, .int .u64 0, .int .u64 0, .int .u64 0, .int .u64 0, .int .u64 0, .int .u64 0, .int .u64 0, .int .u64 0, .int .u64 0] 55)).setCells w.heap.size 0 (intC b (digs 12 n)).toList).heap[w.heap.size]? = some (.cells (intC b (digs 12 n)) 55 (0, 0)) := by
  have h := heap_alloc_new w (.cells #[.bool false, .int .u64 0, .int .u64 0, .int .u64 0, .int .u64 0, .int .u64 0, .int .u64 0, .int .u64 0, .int .u64 0, .int .u64 0, .int .u64 0, .int .u64 0, .int .u64 0] 55)
  exact setCells_whole h (by rw [big_size]; rfl)
theorem size_big (b : Bool) (n : Int) : Hid ((Tryz.prog.info? 55).map (·.size) = some (intC b (digs 12 n)).size) := by
  show _ = _
  rw [big_size]; exact Tryz.info48
/-- A number that stands in a block of its own. -/
def Row (g : Nat) (b : Bool) (n : Int) (w : World) : Prop := w.heap[g]? = some (.cells (intC b (digs 12 n)) 55 (0, 0))
theorem Row.lt {g : Nat} {b : Bool} {n : Int} {w : World} (h : Row g b n w) : g < w.heap.size := by
  by_cases hl : g < w.heap.size
  · exact hl
  · have h2 : w.heap[g]? = some (.cells (intC b (digs 12 n)) 55 (0, 0)) := h
    rw [Array.getElem?_eq_none (Nat.le_of_not_lt hl)] at h2; cases h2
theorem Row.old {g : Nat} {b : Bool} {n : Int} {w w1 : World} (h : Row g b n w) (hb : Below w.heap.size w w1) : Row g b n w1 := (hb.block g h.lt).trans h
theorem Row.alloc {g : Nat} {b : Bool} {n : Int} {w : World} (h : Row g b n w) (o : Obj) : Row g b n (w.alloc o) := (heap_alloc_old w o h.lt).trans h
theorem Row.far {g : Nat} {b : Bool} {n : Int} {w : World} (h : Row g b n w) (k : Nat) (hk : g ≠ k) (o : Nat) (vs : List Value) : Row g b n (w.setCells k o vs) := (setCells_heap_other k g hk vs o w).trans h
theorem Row.far1 {g : Nat} {b : Bool} {n : Int} {w : World} (h : Row g b n w) (a : Addr) (hk : g ≠ a.block) (v : Value) : Row g b n (w.setCell a v) := (heap_setCell_other w _ _ _ (by simp; omega)).trans h
theorem Row.sign {g : Nat} {b c : Bool} {n : Int} {w : World} (h : Row g b n w) : Row g c n (w.setCell ⟨g, 0, none⟩ (.bool c)) := by
  have := heap_setCell_same w g 0 _ _ (.bool c) h
  rw [intC_sign] at this
  exact this
theorem Row.cell0 {g : Nat} {b : Bool} {n : Int} {w : World} (h : Row g b n w) : w.cell? ⟨g, 0, none⟩ = some (.bool b) ∧ w.frozen? ⟨g, 0, none⟩ = false :=
  ⟨by rw [cell_of_row w _ _ _ _ _ h]; rfl, frozen_of_row w _ _ _ _ h⟩
theorem ofC (n : Int) (w : World) (h0 : -9223372036854775808 ≤ n) (h1 : n ≤ 9223372036854775807) :
    Calls Tryz.prog 35 #[.int .i64 n] w fun e w' => e = .returned (.agg (intC (decide (n < 0)) (digs 12 (n.natAbs : Int)))) ∧ Below w.heap.size w w' := ofB n w h0 h1

set_option maxHeartbeats 4000000 in
set_option maxRecDepth 100000 in
theorem refAdd_walk (a b u v r er : Int) (sa sb : Bool) (w : World) (hu : 0 ≤ u ∧ u < wide 12) (hv : 0 ≤ v ∧ v < wide 12)
    (k1 : ∀ w, Calls Tryz.prog 35 #[.int .i64 a] w fun e w' => e = .returned (.agg (intC sa (digs 12 u))) ∧ Below w.heap.size w w')
    (k2 : ∀ w, Calls Tryz.prog 35 #[.int .i64 b] w fun e w' => e = .returned (.agg (intC sb (digs 12 v))) ∧ Below w.heap.size w w')
    (k3 : sa = sb → ∀ w, Calls Tryz.prog 36 #[.agg (intC sa (digs 12 (u + v)))] w fun e w' => e = .returned (.tuple #[.int .i64 r, .int .i64 er]) ∧ Below w.heap.size w w')
    (k4 : sa ≠ sb → u < v → ∀ w, Calls Tryz.prog 36 #[.agg (intC sb (digs 12 (v - u)))] w fun e w' => e = .returned (.tuple #[.int .i64 r, .int .i64 er]) ∧ Below w.heap.size w w')
    (k5 : sa ≠ sb → ¬ u < v → ∀ w, Calls Tryz.prog 36 #[.agg (intC sa (digs 12 (u - v)))] w fun e w' => e = .returned (.tuple #[.int .i64 r, .int .i64 er]) ∧ Below w.heap.size w w') :
    Calls Tryz.prog 15 #[.int .i64 a, .int .i64 b] w fun e w' => e = .returned (.tuple #[.int .i64 r, .int .i64 er]) ∧ Below w.heap.size w w' := by
  have HV := Lib.hid (And.intro hu hv)
  clear hu hv
  go_enter Tryz.func15, Tryz.ntmps15
  go_upto_region 1 with fail
  go_cut [6] (fun s6 wx => ∃ g6 : Nat, s6 = .pointer (some ⟨g6, 0, none⟩) ∧ w.heap.size ≤ g6 ∧ Hid (Row g6 sa u wx) ∧ Hid (Below w.heap.size w wx))
  case first =>
    go_wp2_with (first
      | (go_at_call 35; refine (k1 _).mono ?_; rintro e w1 ⟨rfl, hb1⟩)
      | (with_reducible refine wpList_store_mid rfl 55 _ _ rfl w1.heap.size 0 (intC sa (digs 12 u)) rfl rfl (there_fresh _ _ _) (size_big _ _).out (intC_one _ _) ?_))
    go_meet
    case rel => exact ⟨w1.heap.size, rfl, hb1.size, row_fresh _ _ _, below_setCells hb1.size _ _ (hb1.alloc hb1.size _)⟩
  case rest =>
    obtain ⟨g6, rfl, hg6, HR6, HB⟩ := hcut
    clear k1
    go_upto_region 2 with fail
    go_cut [7] (fun s7 wx => ∃ g7 : Nat, s7 = .pointer (some ⟨g7, 0, none⟩) ∧ g6 < g7 ∧ Hid (Row g6 sa u wx) ∧ Hid (Row g7 sb v wx) ∧ Hid (Below w.heap.size w wx))
    case first =>
      go_wp2_with (first
        | (go_at_call 35; refine (k2 _).mono ?_; rintro e w1 ⟨rfl, hb1⟩)
        | (with_reducible refine wpList_store_mid rfl 55 _ _ rfl w1.heap.size 0 (intC sb (digs 12 v)) rfl rfl (there_fresh _ _ _) (size_big _ _).out (intC_one _ _) ?_))
      go_meet
      case rel =>
        have h1 := HR6.out.old hb1
        have hB1 := HB.out.trans (hb1.mono HB.out.size)
        exact ⟨w1.heap.size, rfl, h1.lt, (h1.alloc _).far _ (Nat.ne_of_lt h1.lt) _ _, row_fresh _ _ _, below_setCells hB1.size _ _ (hB1.alloc hB1.size _)⟩
    case rest =>
      clear HR6 HB k2
      obtain ⟨g7, rfl, hg7, HR6, HR7, HB⟩ := hcut
      obtain ⟨c6, f6⟩ := HR6.out.cell0
      obtain ⟨c7, f7⟩ := HR7.out.cell0
      by_cases hs : sa = sb
      · subst hs
        have k3' := k3 rfl
        clear k3 k4 k5 f6 f7
        go_wp2
        go_loopg [8, 9] 12 (fun n c i wr => ∃ (done done2 rest rest2 : List Int) (x : Int), i = .int .i64 done.length ∧ c = .int .u64 x ∧ Hid (n + done.length = 12) ∧ done.length ≤ 12 ∧ Hid (done.length + rest.length = 12) ∧ Hid (done2.length = done.length ∧ rest2.length = rest.length) ∧ Hid (addL (digs 12 u) (digs 12 v) 0 = done ++ addL rest rest2 x) ∧ Hid (fig32 rest) ∧ Hid (fig32 rest2) ∧ 0 ≤ x ∧ x ≤ 1 ∧ Hid (wr.heap[g6]? = some (.cells (intC sa (done ++ rest)) 55 (0, 0))) ∧ Hid (wr.heap[g7]? = some (.cells (intC sa (done2 ++ rest2)) 55 (0, 0))) ∧ Hid (Below w.heap.size w wr))
        case atStart =>
          exact ⟨[], [], digs 12 u, digs 12 v, 0, rfl, rfl, rfl, by simp, by show 0 + _ = 12; rw [digs_length], ⟨rfl, by rw [digs_length, digs_length]⟩, rfl, digs_fig 12 u, digs_fig 12 v, by omega, by omega, HR6.out, HR7.out, HB.out⟩
        case round =>
          clear HR6 HR7 HB c6 c7
          obtain ⟨done, done2, rest, rest2, x, rfl, rfl, HN, hdl, HSS, HS2, HT, HR, HR2, hx0, hx1, HX, HY, HB⟩ := hrel
          by_cases hlt : done.length < 12
          · obtain ⟨p, rest', rfl⟩ : ∃ d r, rest = d :: r := by
              cases rest with
              | nil => have := HSS.out; simp at this; omega
              | cons d r => exact ⟨d, r, rfl⟩
            obtain ⟨e, rest2', rfl⟩ : ∃ d r, rest2 = d :: r := by
              cases rest2 with
              | nil => have := HS2.out.2; simp at this
              | cons d r => exact ⟨d, r, rfl⟩
            obtain ⟨hp0, hp1⟩ := HR.out p (by simp)
            obtain ⟨he0, he1⟩ := HR2.out e (by simp)
            have HR3 : Hid (fig32 rest') := fun e he => HR.out e (by simp [he])
            have HR4 : Hid (fig32 rest2') := fun e he => HR2.out e (by simp [he])
            have hc : wr.cell? ⟨g6, 1 + done.length, none⟩ = some (.int .u64 p) := by
              rw [cell_of_row wr _ _ _ _ _ HX.out]; exact intC_at sa done rest' p
            have hc2 : wr.cell? ⟨g7, 1 + done.length, none⟩ = some (.int .u64 e) := by
              rw [cell_of_row wr _ _ _ _ _ HY.out, ← HS2.out.1]; exact intC_at sa done2 rest2' e
            have hk1 : (0 : Int) ≤ (done.length : Int) ∧ (done.length : Int) < 12 := by omega
            have HL := Lib.hid hlt
            have hW1 : IntKind.u64.wrap (x + p) = x + p := IntWalk.u64_in _ (by omega)
            have hW2 : IntKind.u64.wrap (x + p + e) = x + p + e := IntWalk.u64_in _ (by omega)
            go_wp2_with fail
            go_quiet (fail)
            clear hW1 hW2 hc hc2
            obtain ⟨y, hy⟩ : ∃ y, y = x + p + e := ⟨_, rfl⟩
            have hy0 : 0 ≤ y := by omega
            have hy1 : y < 8589934592 := by omega
            rw [← hy]
            have HV2 := Lib.hid hy
            clear hy
            have hfr2 : (wr.drewN nq).frozen? ⟨g6, 1 + done.length, none⟩ = false := frozen_of_row (wr.drewN nq) _ _ _ _ HX.out
            obtain ⟨cv, hcv⟩ : ∃ cv, (wr.drewN nq).cell? ⟨g6, 1 + done.length, none⟩ = some cv := ⟨.int .u64 p, by
              show wr.cell? ⟨g6, 1 + done.length, none⟩ = _
              rw [cell_of_row wr _ _ _ _ _ HX.out]; exact intC_at sa done rest' p⟩
            go_wp2
            go_roundg (gk - 1)
            case measure => have h1 := HN.out; have h2 := HL.out; omega
            case rel =>
              refine ⟨done ++ [y % 4294967296], done2 ++ [e], rest', rest2', y / 4294967296, ?_, rfl, ?_, ?_, ?_, ?_, ?_, HR3, HR4, by omega, by omega, ?_, ?_, ?_⟩
              · rw [List.length_append]; go_num
              · show _ = _
                rw [List.length_append]; have h1 := HN.out; have h2 := HL.out; simp; omega
              · rw [List.length_append]; exact HL.out
              · show (done ++ [y % 4294967296]).length + rest'.length = 12
                have := HSS.out
                rw [List.length_append]; simp at this ⊢; omega
              · have := HS2.out
                exact ⟨by simp [this.1], by simpa using this.2⟩
              · show addL (digs 12 u) (digs 12 v) 0 = (done ++ [y % 4294967296]) ++ addL rest' rest2' (y / 4294967296)
                rw [HT.out, addL, HV2.out]; simp
              · have h1 : (wr.drewN nq).heap[g6]? = _ := HX.out
                have := heap_setCell_same (wr.drewN nq) g6 (1 + done.length) _ _ (.int .u64 (y % 4294967296)) h1
                rw [intC_set] at this
                exact this
              · show ((wr.drewN nq).setCell _ _).heap[g7]? = _
                rw [heap_setCell_other _ _ _ _ (by simp; omega)]
                have := HY.out
                rw [List.append_assoc]
                exact this
              · exact (HB.out.trans (⟨rfl, rfl, rfl, Nat.le_refl _, fun _ _ => rfl⟩ : Below w.heap.size wr (wr.drewN nq))).setCell (by simp; omega) _
          · have hr0 : rest = [] := by
              cases rest with
              | nil => rfl
              | cons d r => have := HSS.out; simp at this; omega
            subst hr0
            have hr1 : rest2 = [] := List.eq_nil_of_length_eq_zero HS2.out.2
            subst hr1
            have hdone : done = digs 12 (u + v) := by
              have := HT.out
              rw [addL_digs, Int.add_zero] at this
              simpa [addL] using this.symm
            have r6 : wr.heap[g6]? = some (.cells (intC sa (digs 12 (u + v))) 55 (0, 0)) := by rw [HX.out, List.append_nil, hdone]
            clear HX HY hdone
            go_wp2_with (first
              | (with_reducible refine wpList_load_row rfl 55 _ rfl g6 rfl 55 _ (0, 0) _ r6 Tryz.underlying55 rfl (size_big _ _).out ?_)
              | (go_at_call 36; refine (k3' _).mono ?_; rintro e w1 ⟨rfl, hb1⟩))
            go_ret2
            exact ⟨rfl, HB.out.trans (hb1.mono HB.out.size)⟩
      · have hs2 : (sa == sb) = false := beq_eq_false_iff_ne.2 hs
        have hd6 : g6 ≠ g7 := by omega
        obtain ⟨lt, hlt⟩ : ∃ lt : Bool, lt = decide (u < v) := ⟨_, rfl⟩
        have k8 : ∀ w, Calls Tryz.prog 37 #[.agg (intC sa (digs 12 u)), .agg (intC sb (digs 12 v))] w fun e w' => e = .returned (.bool lt) ∧ Below w.heap.size w w' := fun w => by
          rw [hlt]
          exact lessB sa sb u v w HV.out.1.1 HV.out.1.2 HV.out.2.1 HV.out.2.2
        have HS := Lib.hid hs
        have HLT := Lib.hid hlt
        clear k3 hs f6 f7 hlt
        go_upto_region 12 with fail
        go_cut [10] (fun s10 wx => s10 = .bool lt ∧ Hid (Row g6 sa u wx) ∧ Hid (Row g7 sb v wx) ∧ Hid (Below w.heap.size w wx))
        case first =>
          have r6 : wc.heap[g6]? = some (.cells (intC sa (digs 12 u)) 55 (0, 0)) := HR6.out
          have r7 : wc.heap[g7]? = some (.cells (intC sb (digs 12 v)) 55 (0, 0)) := HR7.out
          go_wp2_with (first
            | (with_reducible refine wpList_load_row rfl 55 _ rfl g6 rfl 55 _ (0, 0) _ r6 Tryz.underlying55 rfl (size_big _ _).out ?_)
            | (with_reducible refine wpList_load_row rfl 55 _ rfl g7 rfl 55 _ (0, 0) _ r7 Tryz.underlying55 rfl (size_big _ _).out ?_)
            | (go_at_call 37; refine (k8 _).mono ?_; rintro e w1 ⟨rfl, hb1⟩))
          go_meet
          case rel => exact ⟨rfl, HR6.out.old hb1, HR7.out.old hb1, HB.out.trans (hb1.mono HB.out.size)⟩
        case rest =>
          clear HR6 HR7 HB k8 c6 c7
          obtain ⟨rfl, HR6, HR7, HB⟩ := hcut
          cases lt with
          | true =>
            have k6 := k4 HS.out (of_decide_eq_true HLT.out.symm)
            have k7 := fun w => minusB sb sa v u w
            clear k4 k5
            unfold big at k7
            go_upto_region 14 with fail
            go_cut [11] (fun s11 wx => ∃ g11 : Nat, s11 = .pointer (some ⟨g11, 0, none⟩) ∧ g7 < g11 ∧ Hid (Row g7 sb v wx) ∧ Hid (Row g11 sb (v - u) wx) ∧ Hid (Below w.heap.size w wx))
            case first =>
              have r6 : wc.heap[g6]? = some (.cells (intC sa (digs 12 u)) 55 (0, 0)) := HR6.out
              have r7 : wc.heap[g7]? = some (.cells (intC sb (digs 12 v)) 55 (0, 0)) := HR7.out
              go_wp2_with (first
                | (with_reducible refine wpList_load_row rfl 55 _ rfl g6 rfl 55 _ (0, 0) _ r6 Tryz.underlying55 rfl (size_big _ _).out ?_)
                | (with_reducible refine wpList_load_row rfl 55 _ rfl g7 rfl 55 _ (0, 0) _ r7 Tryz.underlying55 rfl (size_big _ _).out ?_)
                | (go_at_call 38; refine (k7 _).mono ?_; rintro e w1 ⟨rfl, hb1⟩)
                | (with_reducible refine wpList_store_mid rfl 55 _ _ rfl w1.heap.size 0 (intC sb (digs 12 (v - u))) rfl rfl (there_fresh _ _ _) (size_big _ _).out (intC_one _ _) ?_))
              go_meet
              case rel =>
                have h1 := HR7.out.old hb1
                have hB1 := HB.out.trans (hb1.mono HB.out.size)
                exact ⟨w1.heap.size, rfl, h1.lt, (h1.alloc _).far _ (Nat.ne_of_lt h1.lt) _ _, row_fresh _ _ _, below_setCells hB1.size _ _ (hB1.alloc hB1.size _)⟩
            case rest =>
              clear HR6 HR7 HB k7
              obtain ⟨g11, rfl, hg11, HR7, HR11, HB⟩ := hcut
              obtain ⟨c7, f7⟩ := HR7.out.cell0
              obtain ⟨c11, f11⟩ := HR11.out.cell0
              have r11 := HR11.out.sign (c := sb)
              have r11' : (wc.setCell ⟨g11, 0, none⟩ (.bool sb)).heap[g11]? = some (.cells (intC sb (digs 12 (v - u))) 55 (0, 0)) := r11
              clear r11
              go_wp2_with (first
                | (with_reducible refine wpList_load_row rfl 55 _ rfl g11 rfl 55 _ (0, 0) _ r11' Tryz.underlying55 rfl (size_big _ _).out ?_)
                | (go_at_call 36; refine (k6 _).mono ?_; rintro e w1 ⟨rfl, hb1⟩))
              go_ret2
              have hB2 := HB.out.setCell (p := ⟨g11, 0, none⟩) (by simp; omega) (.bool sb)
              exact ⟨rfl, hB2.trans (hb1.mono hB2.size)⟩
          | false =>
            have k6 := k5 HS.out (of_decide_eq_false HLT.out.symm)
            have k7 := fun w => minusB sa sb u v w
            clear k4 k5
            unfold big at k7
            go_upto_region 17 with fail
            go_cut [12] (fun s12 wx => ∃ g12 : Nat, s12 = .pointer (some ⟨g12, 0, none⟩) ∧ g6 < g12 ∧ Hid (Row g6 sa u wx) ∧ Hid (Row g12 sa (u - v) wx) ∧ Hid (Below w.heap.size w wx))
            case first =>
              have r6 : wc.heap[g6]? = some (.cells (intC sa (digs 12 u)) 55 (0, 0)) := HR6.out
              have r7 : wc.heap[g7]? = some (.cells (intC sb (digs 12 v)) 55 (0, 0)) := HR7.out
              go_wp2_with (first
                | (with_reducible refine wpList_load_row rfl 55 _ rfl g6 rfl 55 _ (0, 0) _ r6 Tryz.underlying55 rfl (size_big _ _).out ?_)
                | (with_reducible refine wpList_load_row rfl 55 _ rfl g7 rfl 55 _ (0, 0) _ r7 Tryz.underlying55 rfl (size_big _ _).out ?_)
                | (go_at_call 38; refine (k7 _).mono ?_; rintro e w1 ⟨rfl, hb1⟩)
                | (with_reducible refine wpList_store_mid rfl 55 _ _ rfl w1.heap.size 0 (intC sa (digs 12 (u - v))) rfl rfl (there_fresh _ _ _) (size_big _ _).out (intC_one _ _) ?_))
              go_meet
              case rel =>
                have h1 := HR6.out.old hb1
                have hB1 := HB.out.trans (hb1.mono HB.out.size)
                exact ⟨w1.heap.size, rfl, h1.lt, (h1.alloc _).far _ (Nat.ne_of_lt h1.lt) _ _, row_fresh _ _ _, below_setCells hB1.size _ _ (hB1.alloc hB1.size _)⟩
            case rest =>
              clear HR6 HR7 HB k7
              obtain ⟨g12, rfl, hg12, HR6, HR12, HB⟩ := hcut
              obtain ⟨c6, f6⟩ := HR6.out.cell0
              obtain ⟨c12, f12⟩ := HR12.out.cell0
              have r12' : (wc.setCell ⟨g12, 0, none⟩ (.bool sa)).heap[g12]? = some (.cells (intC sa (digs 12 (u - v))) 55 (0, 0)) := HR12.out.sign (c := sa)
              go_wp2_with (first
                | (with_reducible refine wpList_load_row rfl 55 _ rfl g12 rfl 55 _ (0, 0) _ r12' Tryz.underlying55 rfl (size_big _ _).out ?_)
                | (go_at_call 36; refine (k6 _).mono ?_; rintro e w1 ⟨rfl, hb1⟩))
              go_ret2
              have hB2 := HB.out.setCell (p := ⟨g12, 0, none⟩) (by simp; omega) (.bool sa)
              exact ⟨rfl, hB2.trans (hb1.mono hB2.size)⟩

theorem sgn_add (a b : Int) (ha : -9223372036854775808 ≤ a ∧ a ≤ 9223372036854775807) (hb : -9223372036854775808 ≤ b ∧ b ≤ 9223372036854775807) :
    (decide (a < 0) = decide (b < 0) → ∀ w, Calls Tryz.prog 36 #[.agg (intC (decide (a < 0)) (digs 12 ((a.natAbs : Int) + (b.natAbs : Int))))] w fun e w' => e = .returned (.tuple #[.int .i64 (into (a + b)).1, .int .i64 (into (a + b)).2]) ∧ Below w.heap.size w w') ∧
    (decide (a < 0) ≠ decide (b < 0) → (a.natAbs : Int) < (b.natAbs : Int) → ∀ w, Calls Tryz.prog 36 #[.agg (intC (decide (b < 0)) (digs 12 ((b.natAbs : Int) - (a.natAbs : Int))))] w fun e w' => e = .returned (.tuple #[.int .i64 (into (a + b)).1, .int .i64 (into (a + b)).2]) ∧ Below w.heap.size w w') ∧
    (decide (a < 0) ≠ decide (b < 0) → ¬ (a.natAbs : Int) < (b.natAbs : Int) → ∀ w, Calls Tryz.prog 36 #[.agg (intC (decide (a < 0)) (digs 12 ((a.natAbs : Int) - (b.natAbs : Int))))] w fun e w' => e = .returned (.tuple #[.int .i64 (into (a + b)).1, .int .i64 (into (a + b)).2]) ∧ Below w.heap.size w w') := by
  refine ⟨fun h w => ?_, fun h hl w => ?_, fun h hl w => ?_⟩
  · have hv : (a.natAbs : Int) + (b.natAbs : Int) = ((a.natAbs + b.natAbs : Nat) : Int) := by omega
    rw [hv]
    refine backV _ _ _ w (small_wide (by omega)) ?_
    by_cases h1 : a < 0
    · have h2 : b < 0 := by rw [decide_eq_true h1] at h; exact of_decide_eq_true h.symm
      rw [decide_eq_true h1]; show -((a.natAbs + b.natAbs : Nat) : Int) = a + b; omega
    · have h2 : ¬ b < 0 := by rw [decide_eq_false h1] at h; exact of_decide_eq_false h.symm
      rw [decide_eq_false h1]; show ((a.natAbs + b.natAbs : Nat) : Int) = a + b; omega
  · have hv : (b.natAbs : Int) - (a.natAbs : Int) = ((b.natAbs - a.natAbs : Nat) : Int) := by omega
    rw [hv]
    refine backV _ _ _ w (small_wide (by omega)) ?_
    by_cases h1 : b < 0
    · have h2 : ¬ a < 0 := fun h2 => h (by rw [decide_eq_true h1, decide_eq_true h2])
      rw [decide_eq_true h1]; show -((b.natAbs - a.natAbs : Nat) : Int) = a + b; omega
    · have h2 : a < 0 := by
        by_cases h2 : a < 0
        · exact h2
        · exact absurd (by rw [decide_eq_false h1, decide_eq_false h2]) h
      rw [decide_eq_false h1]; show ((b.natAbs - a.natAbs : Nat) : Int) = a + b; omega
  · have hv : (a.natAbs : Int) - (b.natAbs : Int) = ((a.natAbs - b.natAbs : Nat) : Int) := by omega
    rw [hv]
    refine backV _ _ _ w (small_wide (by omega)) ?_
    by_cases h1 : a < 0
    · have h2 : ¬ b < 0 := fun h2 => h (by rw [decide_eq_true h1, decide_eq_true h2])
      rw [decide_eq_true h1]; show -((a.natAbs - b.natAbs : Nat) : Int) = a + b; omega
    · have h2 : b < 0 := by
        by_cases h2 : b < 0
        · exact h2
        · exact absurd (by rw [decide_eq_false h1, decide_eq_false h2]) h
      rw [decide_eq_false h1]; show ((a.natAbs - b.natAbs : Nat) : Int) = a + b; omega
theorem refAdd_any (a b : Int) (w : World) (ha : -9223372036854775808 ≤ a ∧ a ≤ 9223372036854775807) (hb : -9223372036854775808 ≤ b ∧ b ≤ 9223372036854775807) :
    Calls Tryz.prog 15 #[.int .i64 a, .int .i64 b] w fun e w' => e = intoE (a + b) ∧ Below w.heap.size w w' := by
  obtain ⟨k3, k4, k5⟩ := sgn_add a b ha hb
  exact refAdd_walk a b (a.natAbs : Int) (b.natAbs : Int) _ _ _ _ w ⟨by omega, small_wide (by omega)⟩ ⟨by omega, small_wide (by omega)⟩ (fun w => ofC a w ha.1 ha.2) (fun w => ofC b w hb.1 hb.2) k3 k4 k5
end Go.Proofs.YtokfkckfclnoaaaGreatDoor
