/- Packed texts: DecRefDiv. What each of them proves stands above its theorems; the conditions stand in these. -/
import Derived.Deep.Cut
import Derived.Deep.CutBlock
import Derived.Deep.DeepCutAuto
import Derived.Deep.RegionLaw
import Derived.Test.YtbodnhpjfdnjfaaGreatDoorE17
namespace Go.Proofs.YtbodnhpjfdnjfaaGreatDoor
open Go.RowKit

/-- The five blocks of a division: both numbers, the result, the quotient, the rest. -/
def DivW (g0 g1 g2 g3 g4 : Nat) (A C Z X R : Array Value) (w : World) : Prop :=
  w.heap[g0]? = some (.cells A 119 (0, 0)) ∧ w.heap[g1]? = some (.cells C 119 (0, 0)) ∧ w.heap[g2]? = some (.cells Z 119 (0, 0)) ∧ w.heap[g3]? = some (.cells X 119 (0, 0)) ∧ w.heap[g4]? = some (.cells R 119 (0, 0))
def Five (g0 g1 g2 g3 g4 : Nat) : Prop := g0 < g1 ∧ g1 < g2 ∧ g2 < g3 ∧ g3 < g4
theorem DivW.old {g0 g1 g2 g3 g4 : Nat} {A C Z X R : Array Value} {w w1 : World} (h : DivW g0 g1 g2 g3 g4 A C Z X R w) (hb : Below w.heap.size w w1) : DivW g0 g1 g2 g3 g4 A C Z X R w1 := by
  have hl : ∀ {g : Nat} {o : Obj}, w.heap[g]? = some o → w1.heap[g]? = some o := by
    intro g o hg
    have hl : g < w.heap.size := by
      by_cases hl : g < w.heap.size
      · exact hl
      · rw [Array.getElem?_eq_none (Nat.le_of_not_lt hl)] at hg; cases hg
    exact (hb.block g hl).trans hg
  exact ⟨hl h.1, hl h.2.1, hl h.2.2.1, hl h.2.2.2.1, hl h.2.2.2.2⟩
theorem setCells_heap_other (g k : Nat) (h : k ≠ g) : ∀ (vs : List Value) (o : Nat) (w : World), (w.setCells g o vs).heap[k]? = w.heap[k]?
  | [], _, _ => rfl
  | v :: vs, o, w => by
    rw [World.setCells, setCells_heap_other g k h vs (o + 1) _]
    exact heap_setCell_other w _ _ _ (by simp; omega)
theorem DivW.putX {g0 g1 g2 g3 g4 : Nat} {A C Z X R : Array Value} {w : World} (h : DivW g0 g1 g2 g3 g4 A C Z X R w) (hd : Five g0 g1 g2 g3 g4) (k : Nat) (v : Value) : DivW g0 g1 g2 g3 g4 A C Z (X.setIfInBounds k v) R (w.setCell ⟨g3, k, none⟩ v) := by
  obtain ⟨d0, d1, d2, d3⟩ := hd
  have ho : ∀ {g : Nat} {o : Obj}, g ≠ g3 → w.heap[g]? = some o → (w.setCell ⟨g3, k, none⟩ v).heap[g]? = some o := fun hne hg => (heap_setCell_other w _ _ _ (by simp; omega)).trans hg
  exact ⟨ho (by omega) h.1, ho (by omega) h.2.1, ho (by omega) h.2.2.1, heap_setCell_same w g3 k _ _ v h.2.2.2.1, ho (by omega) h.2.2.2.2⟩
theorem DivW.putR {g0 g1 g2 g3 g4 : Nat} {A C Z X R R2 : Array Value} {w : World} (h : DivW g0 g1 g2 g3 g4 A C Z X R w) (hd : Five g0 g1 g2 g3 g4) (hs : R2.size = R.size) : DivW g0 g1 g2 g3 g4 A C Z X R2 (w.setCells g4 0 R2.toList) := by
  obtain ⟨d0, d1, d2, d3⟩ := hd
  have ho : ∀ {g : Nat} {o : Obj}, g ≠ g4 → w.heap[g]? = some o → (w.setCells g4 0 R2.toList).heap[g]? = some o := fun hne hg => (setCells_heap_other g4 _ hne _ _ _).trans hg
  exact ⟨ho (by omega) h.1, ho (by omega) h.2.1, ho (by omega) h.2.2.1, ho (by omega) h.2.2.2.1, setCells_whole h.2.2.2.2 hs⟩
theorem intC_put (b : Bool) (L : List Int) (j : Nat) (v : Int) : (intC b L).setIfInBounds (1 + j) (.int .u64 v) = intC b (L.set j v) := by
  apply Array.toList_inj.1
  unfold intC
  rw [Array.toList_setIfInBounds, Nat.add_comm 1 j]
  simp [List.map_set]
theorem intC_get {b : Bool} {L : List Int} {j : Nat} {v : Int} (h : L[j]? = some v) : (intC b L)[1 + j]? = some (.int .u64 v) := by
  unfold intC
  rw [Nat.add_comm 1 j]
  simp [h]

theorem there_five {g : Nat} {t : TypeId} {w : World} {b c : Bool} {n m : Int} (h : w.heap[g]? = some (.cells (intC b (digs 12 n)) t (0, 0))) : w.there g 0 (intC c (digs 12 m)).size := by
  have := there_whole h
  rw [big_size] at *
  exact this
set_option maxHeartbeats 8000000 in
set_option maxRecDepth 100000 in
theorem div_walk (b b2 sg : Bool) (n m : Int) (w : World) (hsg : (!(b == b2)) = sg) (hn0 : 0 ≤ n) (hn1 : n < wide 12) (hm0 : 0 < m) (hm1 : m * 2 < wide 12) :
    Calls Tryz.prog 102 #[.agg (intC b (digs 12 n)), .agg (intC b2 (digs 12 m))] w fun e w' => e = .returned (.agg (intC sg (digs 12 (n / m)))) ∧ Below w.heap.size w w' := by
  have HM := Lib.hid (And.intro hm0 (And.intro hm1 (And.intro hn0 hn1)))
  clear hm0 hm1 hn0 hn1
  obtain ⟨A, hA⟩ : ∃ A, A = intC b (digs 12 n) := ⟨_, rfl⟩
  obtain ⟨C, hC⟩ : ∃ A, A = intC b2 (digs 12 m) := ⟨_, rfl⟩
  obtain ⟨q, hq⟩ : ∃ q, q = n / m := ⟨_, rfl⟩
  rw [← hA, ← hC, ← hq]
  have hA0 : A[0]? = some (.bool b) := by rw [hA]; simp [intC]
  have hC0 : C[0]? = some (.bool b2) := by rw [hC]; simp [intC]
  have HA := Lib.hid hA
  have HC := Lib.hid hC
  have HQ := Lib.hid hq
  clear hA hC hq
  go_enter Tryz.func102, Tryz.ntmps102
  go_upto_region 0 with fail
  go_cut [2, 3, 4] (fun s2 s3 s4 wx => ∃ g0 g1 g2 : Nat, s2 = .pointer (some ⟨g0, 0, none⟩) ∧ s3 = .pointer (some ⟨g1, 0, none⟩) ∧ s4 = .pointer (some ⟨g2, 0, none⟩) ∧ Hid (w.heap.size ≤ g0 ∧ g0 < g1 ∧ g1 < g2 ∧ g2 < wx.heap.size) ∧ Hid (wx.heap[g0]? = some (.cells A 119 (0, 0))) ∧ Hid (wx.heap[g1]? = some (.cells C 119 (0, 0))) ∧ Hid (wx.heap[g2]? = some (.cells (intC false (digs 12 0)) 119 (0, 0))) ∧ Hid (Below w.heap.size w wx))
  case first =>
    go_wp2
    go_meet
    case rel =>
      refine ⟨_, _, _, rfl, rfl, rfl, ⟨Nat.le_refl _, by omega, by omega, by simp⟩, ?_, ?_, ?_, (((Below.refl _ _).alloc (Nat.le_refl _) _).alloc (by simp) _).alloc (by simp; omega) _⟩
      · show _ = _
        rw [heap_alloc_old _ _ (by simp; omega), heap_alloc2_old]
      · show _ = _
        rw [heap_alloc_old _ _ (by simp), heap_alloc2_new]
      · show _ = _
        rw [← zero13]
        exact stands_at2 w _ _ _
  case rest =>
    obtain ⟨g0, g1, g2, rfl, rfl, rfl, HG, HRA, HRC, HRZ, HB⟩ := hcut
    have hcA : wc.cell? ⟨g0, 0, none⟩ = some (.bool b) := by rw [cell_of_row wc _ _ _ _ _ HRA.out]; exact hA0
    have hcC : wc.cell? ⟨g1, 0, none⟩ = some (.bool b2) := by rw [cell_of_row wc _ _ _ _ _ HRC.out]; exact hC0
    go_upto_region 1 with fail
    go_cut [5] (fun s5 wx => ∃ g3 : Nat, s5 = .pointer (some ⟨g3, 0, none⟩) ∧ Hid (g2 < g3 ∧ g3 < wx.heap.size) ∧ Hid (wx.heap[g0]? = some (.cells A 119 (0, 0)) ∧ wx.heap[g1]? = some (.cells C 119 (0, 0)) ∧ wx.heap[g2]? = some (.cells (intC false (digs 12 0)) 119 (0, 0)) ∧ wx.heap[g3]? = some (.cells (intC sg (List.replicate 12 0)) 119 (0, 0))) ∧ Hid (Below w.heap.size w wx))
    case first =>
      go_wp2
      go_meet
      case rel =>
        have h3 := HG.out
        refine ⟨wc.heap.size, rfl, ⟨h3.2.2.2, by simp⟩, ⟨?_, ?_, ?_, ?_⟩, HB.out.alloc HB.out.size _⟩
        · rw [heap_alloc_old _ _ (by omega)]; exact HRA.out
        · rw [heap_alloc_old _ _ (by omega)]; exact HRC.out
        · rw [heap_alloc_old _ _ (by omega)]; exact HRZ.out
        · rw [heap_alloc_new]
          first | rfl | (rw [hsg]; rfl)
    case rest =>
      clear hcA hcC
      have HG1 := HG
      clear HG HRA HRC HRZ HB
      obtain ⟨g3, rfl, HG3, HR, HB⟩ := hcut
      go_upto_region 2 with fail
      go_cut [6] (fun s6 wx => ∃ g4 : Nat, s6 = .pointer (some ⟨g4, 0, none⟩) ∧ Hid (g3 < g4) ∧ Hid (DivW g0 g1 g2 g3 g4 A C (intC false (digs 12 0)) (intC sg (List.replicate 12 0)) (intC false (digs 12 0)) wx) ∧ Hid (Below w.heap.size w wx))
      case first =>
        go_wp2
        go_meet
        case rel =>
          have h3 := HG3.out
          have h1 := HG1.out
          obtain ⟨r0, r1, r2, r3⟩ := HR.out
          refine ⟨wc.heap.size, rfl, h3.2, ⟨?_, ?_, ?_, ?_, ?_⟩, HB.out.alloc HB.out.size _⟩
          · rw [heap_alloc_old _ _ (by omega)]; exact r0
          · rw [heap_alloc_old _ _ (by omega)]; exact r1
          · rw [heap_alloc_old _ _ (by omega)]; exact r2
          · rw [heap_alloc_old _ _ (by omega)]; exact r3
          · rw [heap_alloc_new, ← zero13]
      case rest =>
        have HD : Hid (w.heap.size ≤ g0 ∧ w.heap.size ≤ g2 ∧ w.heap.size ≤ g3) := by have h3 := HG3.out; have h1 := HG1.out; exact ⟨by omega, by omega, by omega⟩
        clear HR HB
        obtain ⟨g4, rfl, HG4, HW, HB⟩ := hcut
        have HF : Hid (Five g0 g1 g2 g3 g4) := by have h3 := HG3.out; have h1 := HG1.out; have h4 := HG4.out; exact ⟨by omega, by omega, by omega, by omega⟩
        have HD4 : Hid (w.heap.size ≤ g4) := by have h3 := HD.out; have h4 := HG4.out; show _ ≤ _; omega
        clear HG1 HG3 HG4
        go_wp2
        go_loopg [7] 384 (fun k s7 wr => k ≤ 384 ∧ s7 = .int .i64 ((k : Int) - 1) ∧ Hid (DivW g0 g1 g2 g3 g4 A C (intC false (digs 12 0)) (intC sg (xL q k)) (intC false (digs 12 (restL n m k))) wr) ∧ Hid (Below w.heap.size w wr))
        case atStart => exact ⟨Nat.le_refl _, rfl, by rw [xL_start, rest_start n m HM.out.1 HM.out.2.2.1 HM.out.2.2.2]; exact HW.out, HB.out⟩
        case round =>
          clear HW HB
          obtain ⟨hk, rfl, HW, HB⟩ := hrel
          cases gk with
          | zero =>
            have hk1 : ((0 : Nat) : Int) - 1 = -1 := rfl
            rw [hk1]
            clear hk1
            rw [xL_end] at HW
            have r3 := HW.out.2.2.2.1
            have r2 := HW.out.2.2.1
            have hSQ : Hid ((Tryz.prog.info? 119).map (·.size) = some (intC sg (digs 12 q)).size) := by show _ = _; rw [big_size]; exact Tryz.info48
            have R2 := Lib.hid r2
            clear r2
            go_wp2_with (first
              | (with_reducible refine wpList_load_row rfl 119 _ rfl g3 rfl 119 _ (0, 0) _ r3 Tryz.underlying119 rfl hSQ.out ?_)
              | (with_reducible refine wpList_store_mid rfl 119 _ _ rfl g2 0 (intC sg (digs 12 q)) rfl rfl (there_five R2.out) hSQ.out (intC_one _ _) ?_))
            refine bodyPost_ret (v := .agg (intC sg (digs 12 q))) (results_cell_row (p := 4) (ty := 119) Tryz.results102 _ _ g2 119 _ (0, 0) _ rfl (setCells_whole R2.out (by rw [big_size, big_size])) Tryz.underlying119 rfl hSQ.out) rfl ⟨rfl, ?_⟩
            exact below_setCells HD.out.2.1 _ _ HB.out
          | succ k =>
            have hk1 : ((k + 1 : Nat) : Int) - 1 = (k : Int) := by omega
            rw [hk1]
            clear hk1
            have hk2 : k < 384 := by omega
            obtain ⟨j, hj⟩ : ∃ j, j = k / 32 := ⟨_, rfl⟩
            obtain ⟨s, hs⟩ : ∃ s, s = k % 32 := ⟨_, rfl⟩
            have hj0 : (0 : Int) ≤ (j : Int) ∧ (j : Int) < 12 := by omega
            have hs0 : (0 : Int) ≤ (s : Int) ∧ (s : Int) < 32 := by omega
            have hdj : ((k : Int)).tdiv 32 = (j : Int) := by rw [Int.tdiv_eq_ediv_of_nonneg (by omega)]; omega
            have hms : ((k : Int)).tmod 32 = (s : Int) := by rw [Int.tmod_eq_emod_of_nonneg (by omega)]; omega
            have HJ := Lib.hid hj
            have HS := Lib.hid hs
            clear hj hs
            obtain ⟨d, hd⟩ : ∃ d : Int, d = n / 2 ^ (32 * j) % 4294967296 := ⟨_, rfl⟩
            have hd0 : 0 ≤ d ∧ d ≤ 4294967295 := by omega
            have HDd := Lib.hid hd
            clear hd
            obtain ⟨bit, hbit⟩ : ∃ bit, bit = n / 2 ^ k % 2 := ⟨_, rfl⟩
            have hb0 : 0 ≤ bit ∧ bit ≤ 1 := by omega
            have HBit := Lib.hid hbit
            clear hbit
            obtain ⟨R, hR⟩ : ∃ R, R = restL n m (k + 1) := ⟨_, rfl⟩
            rw [← hR] at HW
            have HRr := Lib.hid hR
            clear hR
            go_upto_block 1 with fail
            go_cut [] (fun wx => DivW g0 g1 g2 g3 g4 A C (intC false (digs 12 0)) (intC sg (xL q k)) (intC false (digs 12 (restL n m k))) wx ∧ Below w.heap.size w wx)
            case first =>
              go_upto_region 6 with fail
              go_cut [] (fun wx => DivW g0 g1 g2 g3 g4 A C (intC false (digs 12 0)) (intC sg (xL q (k + 1))) (intC false (digs 12 (R * 2 + bit))) wx ∧ Below w.heap.size w wx)
              case first =>
                have hc : wr.cell? ⟨g0, 1 + j, none⟩ = some (.int .u64 d) := by
                  rw [cell_of_row wr _ _ _ _ _ HW.out.1, HA.out]
                  exact intC_get (by rw [digs_get 12 n j (by omega), HDd.out])
                obtain ⟨r0, r1, r2, r3, r4, r5, r6, r7, r8, r9, r10, r11, hRS⟩ := explicit12 (digs 12 R) (digs_length 12 R)
                have hrow : Stands g4 #[.bool false, .int .u64 r0, .int .u64 r1, .int .u64 r2, .int .u64 r3, .int .u64 r4, .int .u64 r5, .int .u64 r6, .int .u64 r7, .int .u64 r8, .int .u64 r9, .int .u64 r10, .int .u64 r11] 119 wr := by
                  show wr.heap[g4]? = _
                  rw [HW.out.2.2.2.2]; unfold intC; rw [hRS]; rfl
                have hcells := stands_cells hrow
                obtain ⟨ha0, hf0, ha1, hf1, ha2, hf2, ha3, hf3, ha4, hf4, ha5, hf5, ha6, hf6, ha7, hf7, ha8, hf8, ha9, hf9, ha10, hf10, ha11, hf11, ha12, hf12⟩ := hcells
                have hWj : IntKind.i64.wrap (j : Int) = (j : Int) := IntWalk.i64_in _ (by omega)
                have hWs : IntKind.i64.wrap (s : Int) = (s : Int) := IntWalk.i64_in _ (by omega)
                have hTj : ((j : Int)).toNat = j := by omega
                have hbt : (d / 2 ^ min (IntKind.u64.wrap (s : Int)).toNat 64).tmod 2 = bit := by
                  have h1 : min (IntKind.u64.wrap (s : Int)).toNat 64 = s := by simp only [IntKind.wrap_u64]; omega
                  rw [h1, HS.out, HBit.out]
                  exact bit_of n d k (by rw [HDd.out, HJ.out])
                have k1 := fun w => timesB false R 2 bit w (by omega) (by omega) (by omega) (by omega)
                obtain ⟨z0, z1, z2, z3, z4, z5, z6, z7, z8, z9, z10, z11, hZS⟩ := explicit12 (digs 12 (R * 2 + bit)) (digs_length 12 (R * 2 + bit))
                have hbR : big false R = .agg #[.bool false, .int .u64 r0, .int .u64 r1, .int .u64 r2, .int .u64 r3, .int .u64 r4, .int .u64 r5, .int .u64 r6, .int .u64 r7, .int .u64 r8, .int .u64 r9, .int .u64 r10, .int .u64 r11] := by unfold big intC; rw [hRS]; rfl
                have hbZ : big false (R * 2 + bit) = .agg #[.bool false, .int .u64 z0, .int .u64 z1, .int .u64 z2, .int .u64 z3, .int .u64 z4, .int .u64 z5, .int .u64 z6, .int .u64 z7, .int .u64 z8, .int .u64 z9, .int .u64 z10, .int .u64 z11] := by unfold big intC; rw [hZS]; rfl
                rw [hbR, hbZ] at k1
                have HZS := Lib.hid hZS
                have HRow := Lib.hid (show Stands _ _ _ wr.drew from hrow)
                clear hZS hRS hbR hbZ hrow hd0
                go_region_law (first
                  | (go_simp; go_at_call 154; with_reducible refine (k1 _).mono ?_; rintro e w1 ⟨rfl, hb1⟩; (have hst : Stands _ _ _ w1 := stands_old HRow.out hb1); (have hh := stands_cells hst); obtain ⟨qa0, qf0, qa1, qf1, qa2, qf2, qa3, qf3, qa4, qf4, qa5, qf5, qa6, qf6, qa7, qf7, qa8, qf8, qa9, qf9, qa10, qf10, qa11, qf11, qa12, qf12⟩ := hh))
                all_goals
                  have hW1 : DivW g0 g1 g2 g3 g4 A C (intC false (digs 12 0)) (intC sg (xL q (k + 1))) (intC false (digs 12 R)) w1 := DivW.old (w := wr.drew) HW.out hb1
                  have hW3 := hW1.putR (R2 := #[.bool false, .int .u64 z0, .int .u64 z1, .int .u64 z2, .int .u64 z3, .int .u64 z4, .int .u64 z5, .int .u64 z6, .int .u64 z7, .int .u64 z8, .int .u64 z9, .int .u64 z10, .int .u64 z11]) HF.out (by rw [big_size]; rfl)
                  have hb3 : Below w.heap.size w (((((((((((((w1.setCell ⟨g4, 0, none⟩ (.bool false)).setCell ⟨g4, 1, none⟩ (.int .u64 z0)).setCell ⟨g4, 2, none⟩ (.int .u64 z1)).setCell ⟨g4, 3, none⟩ (.int .u64 z2)).setCell ⟨g4, 4, none⟩ (.int .u64 z3)).setCell ⟨g4, 5, none⟩ (.int .u64 z4)).setCell ⟨g4, 6, none⟩ (.int .u64 z5)).setCell ⟨g4, 7, none⟩ (.int .u64 z6)).setCell ⟨g4, 8, none⟩ (.int .u64 z7)).setCell ⟨g4, 9, none⟩ (.int .u64 z8)).setCell ⟨g4, 10, none⟩ (.int .u64 z9)).setCell ⟨g4, 11, none⟩ (.int .u64 z10)).setCell ⟨g4, 12, none⟩ (.int .u64 z11)) := below_set13 (HB.out.drew.trans (hb1.mono HB.out.size)) HD4.out
                  have hW4 : DivW g0 g1 g2 g3 g4 A C (intC false (digs 12 0)) (intC sg (xL q (k + 1))) #[.bool false, .int .u64 z0, .int .u64 z1, .int .u64 z2, .int .u64 z3, .int .u64 z4, .int .u64 z5, .int .u64 z6, .int .u64 z7, .int .u64 z8, .int .u64 z9, .int .u64 z10, .int .u64 z11] (((((((((((((w1.setCell ⟨g4, 0, none⟩ (.bool false)).setCell ⟨g4, 1, none⟩ (.int .u64 z0)).setCell ⟨g4, 2, none⟩ (.int .u64 z1)).setCell ⟨g4, 3, none⟩ (.int .u64 z2)).setCell ⟨g4, 4, none⟩ (.int .u64 z3)).setCell ⟨g4, 5, none⟩ (.int .u64 z4)).setCell ⟨g4, 6, none⟩ (.int .u64 z5)).setCell ⟨g4, 7, none⟩ (.int .u64 z6)).setCell ⟨g4, 8, none⟩ (.int .u64 z7)).setCell ⟨g4, 9, none⟩ (.int .u64 z8)).setCell ⟨g4, 10, none⟩ (.int .u64 z9)).setCell ⟨g4, 11, none⟩ (.int .u64 z10)).setCell ⟨g4, 12, none⟩ (.int .u64 z11)) := hW3
                  generalize (((((((((((((w1.setCell ⟨g4, 0, none⟩ (.bool false)).setCell ⟨g4, 1, none⟩ (.int .u64 z0)).setCell ⟨g4, 2, none⟩ (.int .u64 z1)).setCell ⟨g4, 3, none⟩ (.int .u64 z2)).setCell ⟨g4, 4, none⟩ (.int .u64 z3)).setCell ⟨g4, 5, none⟩ (.int .u64 z4)).setCell ⟨g4, 6, none⟩ (.int .u64 z5)).setCell ⟨g4, 7, none⟩ (.int .u64 z6)).setCell ⟨g4, 8, none⟩ (.int .u64 z7)).setCell ⟨g4, 9, none⟩ (.int .u64 z8)).setCell ⟨g4, 10, none⟩ (.int .u64 z9)).setCell ⟨g4, 11, none⟩ (.int .u64 z10)).setCell ⟨g4, 12, none⟩ (.int .u64 z11)) = W3 at hW4 hb3 ⊢
                  clear ha0 hf0 qa0 qf0 ha1 hf1 qa1 qf1 ha2 hf2 qa2 qf2 ha3 hf3 qa3 qf3 ha4 hf4 qa4 qf4 ha5 hf5 qa5 qf5 ha6 hf6 qa6 qf6 ha7 hf7 qa7 qf7 ha8 hf8 qa8 qf8 ha9 hf9 qa9 qf9 ha10 hf10 qa10 qf10 ha11 hf11 qa11 qf11 ha12 hf12 qa12 qf12 hst k1 hb1 hc hW3 hW1
                  go_wp2_with fail
                  go_meet
                  case rel =>
                    refine ⟨?_, hb3⟩
                    have h : intC false (digs 12 (R * 2 + bit)) = #[.bool false, .int .u64 z0, .int .u64 z1, .int .u64 z2, .int .u64 z3, .int .u64 z4, .int .u64 z5, .int .u64 z6, .int .u64 z7, .int .u64 z8, .int .u64 z9, .int .u64 z10, .int .u64 z11] := by unfold intC; rw [HZS.out]; rfl
                    rw [h]; exact hW4
              case rest =>
                obtain ⟨hW2, hB2⟩ := hcut
                have HW2 := Lib.hid hW2
                have HB2 := Lib.hid hB2
                clear hW2 hB2 HW HB
                obtain ⟨p, hp⟩ : ∃ p, p = word q (k + 1) j := ⟨_, rfl⟩
                have hp0 : 0 ≤ p ∧ p ≤ 2147483647 := by
                  rw [hp, HJ.out]; exact word_bounds q k
                have HP := Lib.hid hp
                clear hp
                obtain ⟨R2, hR2⟩ : ∃ R2, R2 = R * 2 + bit := ⟨_, rfl⟩
                rw [← hR2] at HW2
                have HR2 := Lib.hid hR2
                clear hR2 hd0 hb0 hms hs0
                go_upto_region 7 with fail
                go_cut [] (fun wx => DivW g0 g1 g2 g3 g4 A C (intC false (digs 12 0)) (intC sg ((xL q (k + 1)).set j (p * 2))) (intC false (digs 12 R2)) wx ∧ Below w.heap.size w wx)
                case first =>
                  have hc : wc.cell? ⟨g3, 1 + j, none⟩ = some (.int .u64 p) := by
                    rw [cell_of_row wc _ _ _ _ _ HW2.out.2.2.2.1]
                    exact intC_get (by rw [xL_get q (k + 1) j (by omega), HP.out])
                  have hf : wc.frozen? ⟨g3, 1 + j, none⟩ = false := frozen_of_row wc _ _ _ _ HW2.out.2.2.2.1
                  go_wp2
                  go_meet
                  case rel =>
                    have h := HW2.out.putX HF.out (1 + j) (.int .u64 (p * 2))
                    rw [intC_put] at h
                    exact ⟨h, HB2.out.setCell HD.out.2.2 _⟩
                case rest =>
                  obtain ⟨hW3, hB3⟩ := hcut
                  have HW3 := Lib.hid hW3
                  have HB3 := Lib.hid hB3
                  clear hW3 hB3 HW2 HB2
                  obtain ⟨lt, hlt⟩ : ∃ lt : Bool, lt = decide (R2 < m) := ⟨_, rfl⟩
                  have hRb : 0 ≤ R2 ∧ R2 < wide 12 := by
                    have h1 := rest_bounds n m (k + 1) HM.out.1
                    rw [← HRr.out] at h1
                    have h2 := HR2.out
                    have h3 := HBit.out
                    have h4 := HM.out.2.1
                    omega
                  have hmb : 0 ≤ m ∧ m < wide 12 := by have := HM.out; omega
                  have k8 : ∀ w, Calls Tryz.prog 106 #[.agg (intC false (digs 12 R2)), .agg C] w fun e w' => e = .returned (.bool lt) ∧ Below w.heap.size w w' := fun w => by
                    rw [hlt, HC.out]
                    exact lessB false b2 R2 m w hRb.1 hRb.2 hmb.1 hmb.2
                  have k10 : ∀ w, Calls Tryz.prog 107 #[.agg (intC false (digs 12 R2)), .agg C] w fun e w' => e = .returned (.agg (intC false (digs 12 (R2 - m)))) ∧ Below w.heap.size w w' := fun w => by
                    rw [HC.out]
                    exact minusB false b2 R2 m w
                  have HLT := Lib.hid hlt
                  have hSR : Hid ((Tryz.prog.info? 119).map (·.size) = some (intC false (digs 12 R2)).size) := by show _ = _; rw [big_size]; exact Tryz.info48
                  have hSM : Hid ((Tryz.prog.info? 119).map (·.size) = some (intC false (digs 12 (R2 - m))).size) := by show _ = _; rw [big_size]; exact Tryz.info48
                  have hSC : Hid ((Tryz.prog.info? 119).map (·.size) = some C.size) := by show _ = _; rw [HC.out, big_size]; exact Tryz.info48
                  clear hlt hRb hmb
                  go_upto_region 8 with fail
                  go_cut [8] (fun s8 wx => s8 = .bool lt ∧ DivW g0 g1 g2 g3 g4 A C (intC false (digs 12 0)) (intC sg ((xL q (k + 1)).set j (p * 2))) (intC false (digs 12 R2)) wx ∧ Below w.heap.size w wx)
                  case first =>
                    have r4 := HW3.out.2.2.2.2
                    have r1 := HW3.out.2.1
                    go_wp2_with (first
                      | (with_reducible refine wpList_load_row rfl 119 _ rfl g4 rfl 119 _ (0, 0) _ r4 Tryz.underlying119 rfl hSR.out ?_)
                      | (with_reducible refine wpList_load_row rfl 119 _ rfl g1 rfl 119 _ (0, 0) _ r1 Tryz.underlying119 rfl hSC.out ?_)
                      | (go_at_call 106; refine (k8 _).mono ?_; rintro e w1 ⟨rfl, hb1⟩))
                    go_meet
                    case rel => exact ⟨rfl, HW3.out.old hb1, HB3.out.trans (hb1.mono HB3.out.size)⟩
                  case rest =>
                    obtain ⟨rfl, hW4, hB4⟩ := hcut
                    have HW4 := Lib.hid hW4
                    have HB4 := Lib.hid hB4
                    clear hW4 hB4 HW3 HB3 k8
                    go_upto_if 46 with fail
                    have hst := div_step n m k HM.out.1
                    rw [← HRr.out, ← HBit.out, ← HR2.out, ← HQ.out] at hst
                    cases lt with
                    | true =>
                      have hR3 : R2 < m := of_decide_eq_true HLT.out.symm
                      obtain ⟨e1, e2⟩ := hst.1 hR3
                      have e3 : (xL q (k + 1)).set j (p * 2) = xL q k := by
                        rw [HJ.out]
                        refine xL_step q _ k hk2 ?_
                        rw [e2, HP.out, HJ.out]; omega
                      have HE := Lib.hid (And.intro e1 e3)
                      clear hst e1 e2 e3 hR3
                      go_wp2
                      go_meet
                      case rel =>
                        rw [HE.out.1, ← HE.out.2]
                        exact ⟨HW4.out, HB4.out⟩
                    | false =>
                      have hR3 : ¬ R2 < m := of_decide_eq_false HLT.out.symm
                      obtain ⟨e1, e2⟩ := hst.2 hR3
                      have e3 : (xL q (k + 1)).set j (p * 2 + 1) = xL q k := by
                        rw [HJ.out]
                        refine xL_step q _ k hk2 ?_
                        rw [e2, HP.out, HJ.out]; omega
                      have HE := Lib.hid (And.intro e1 e3)
                      clear hst e1 e2 e3 hR3
                      go_upto_region 10 with fail
                      go_cut [] (fun wx => DivW g0 g1 g2 g3 g4 A C (intC false (digs 12 0)) (intC sg ((xL q (k + 1)).set j (p * 2))) (intC false (digs 12 (R2 - m))) wx ∧ Below w.heap.size w wx)
                      case first =>
                        have r4 := HW4.out.2.2.2.2
                        have r1 := HW4.out.2.1
                        go_wp2_with (first
                          | (with_reducible refine wpList_load_row rfl 119 _ rfl g4 rfl 119 _ (0, 0) _ r4 Tryz.underlying119 rfl hSR.out ?_)
                          | (with_reducible refine wpList_load_row rfl 119 _ rfl g1 rfl 119 _ (0, 0) _ r1 Tryz.underlying119 rfl hSC.out ?_)
                          | (go_at_call 107; refine (k10 _).mono ?_; rintro e w1 ⟨rfl, hb1⟩; have HW5 := Lib.hid (HW4.out.old hb1); have HB5 := Lib.hid (HB4.out.trans (hb1.mono HB4.out.size)); have r5 := Lib.hid (HW4.out.old hb1).2.2.2.2)
                          | (with_reducible refine wpList_store_mid rfl 119 _ _ rfl g4 0 (intC false (digs 12 (R2 - m))) rfl rfl (there_five r5.out) hSM.out (intC_one _ _) ?_))
                        go_meet
                        case rel => exact ⟨HW5.out.putR HF.out (by rw [big_size, big_size]), below_setCells HD4.out _ _ HB5.out⟩
                      case rest =>
                        obtain ⟨hW6, hB6⟩ := hcut
                        have HW6 := Lib.hid hW6
                        have HB6 := Lib.hid hB6
                        clear hW6 hB6 HW4 HB4 k10
                        have hc : wc.cell? ⟨g3, 1 + j, none⟩ = some (.int .u64 (p * 2)) := by
                          rw [cell_of_row wc _ _ _ _ _ HW6.out.2.2.2.1]
                          exact intC_get (by rw [List.getElem?_set_self (by rw [xL_length]; omega)])
                        have hf : wc.frozen? ⟨g3, 1 + j, none⟩ = false := frozen_of_row wc _ _ _ _ HW6.out.2.2.2.1
                        go_wp2
                        go_meet
                        case rel =>
                          have h := HW6.out.putX HF.out (1 + j) (.int .u64 (p * 2 + 1))
                          rw [intC_put, List.set_set, HE.out.2, ← HE.out.1] at h
                          exact ⟨h, HB6.out.setCell HD.out.2.2 _⟩
            case rest =>
              obtain ⟨hW7, hB7⟩ := hcut
              have HW7 := Lib.hid hW7
              have HB7 := Lib.hid hB7
              clear hW7 hB7 HW HB hd0 hb0 hms hdj hj0 hs0
              go_wp2
              go_roundg k
              case measure => omega
              case rel => exact ⟨by omega, rfl, HW7.out, HB7.out⟩
end Go.Proofs.YtbodnhpjfdnjfaaGreatDoor
