/- The document's own rests. Conditions: the arguments are of 64 bits. -/
import Derived.Test.YtokfkckfclnoaaaGreatDoorDecRefAdd
import Derived.Deep.RegionHeld3
namespace Go.Proofs.YtokfkckfclnoaaaGreatDoor
open Go.RowKit

theorem refMod_zero (a : Int) (w : World) :
    Calls Tryz.prog 19 #[.int .i64 a, .int .i64 0] w fun e w' => e = .returned (.tuple #[.int .i64 0, .int .i64 4]) ∧ Below w.heap.size w w' := by
  go_enter Tryz.func19, Tryz.ntmps19
  go_wp2
  go_ret2
  exact ⟨rfl, Below.refl _ _⟩
theorem Row.range {g : Nat} {b : Bool} {n : Int} {w : World} (h : Row g b n w) : w.rangeAt g 0 (intC b (digs 12 n)).toList := fun j v hv => by
  rw [Nat.zero_add, cell_of_row w g j _ _ (0, 0) h]
  simpa using hv
theorem range_old {w w1 : World} {g : Nat} {cs : List Value} (h : w.rangeAt g 0 cs) (hb : Below w.heap.size w w1) : w1.rangeAt g 0 cs := fun j v hv => by
  have h1 := h j v hv
  have hl : g < w.heap.size := World.block_lt_of_cell? w _ h1
  rw [hb.cell (p := ⟨g, 0 + j, none⟩) hl]
  exact h1

set_option maxHeartbeats 4000000 in
set_option maxRecDepth 100000 in
theorem refMod_walk (a b r u v q z : Int) (sa sb sq : Bool) (w : World) (h0 : ((b : Int) == 0) = false)
    (k1 : ∀ w, Calls Tryz.prog 35 #[.int .i64 a] w fun e w' => e = .returned (.agg (intC sa (digs 12 u))) ∧ Below w.heap.size w w')
    (k2 : ∀ w, Calls Tryz.prog 35 #[.int .i64 b] w fun e w' => e = .returned (.agg (intC sb (digs 12 v))) ∧ Below w.heap.size w w')
    (k3 : ∀ w, Calls Tryz.prog 39 #[.agg (intC sa (digs 12 u)), .agg (intC sb (digs 12 v))] w fun e w' => e = .returned (.agg (intC sq (digs 12 q))) ∧ Below w.heap.size w w')
    (k4 : ∀ w, Calls Tryz.prog 40 #[.agg (intC false (digs 12 q)), .agg (intC false (digs 12 v))] w fun e w' => e = .returned (.agg (intC false (digs 12 z))) ∧ Below w.heap.size w w')
    (k5 : ∀ w, Calls Tryz.prog 38 #[.agg (intC sa (digs 12 u)), .agg (intC false (digs 12 z))] w fun e w' => e = .returned (.agg (intC sa (digs 12 (u - z)))) ∧ Below w.heap.size w w')
    (k6 : ∀ w, Calls Tryz.prog 36 #[.agg (intC sa (digs 12 (u - z)))] w fun e w' => e = .returned (.tuple #[.int .i64 r, .int .i64 0]) ∧ Below w.heap.size w w') :
    Calls Tryz.prog 19 #[.int .i64 a, .int .i64 b] w fun e w' => e = .returned (.tuple #[.int .i64 r, .int .i64 0]) ∧ Below w.heap.size w w' := by
  go_enter Tryz.func19, Tryz.ntmps19
  go_upto_region 3 with fail
  go_cut [6] (fun s6 wx => ∃ g6 : Nat, s6 = .pointer (some ⟨g6, 0, none⟩) ∧ w.heap.size ≤ g6 ∧ Hid (Row g6 sq q wx) ∧ Hid (Below w.heap.size w wx))
  case first =>
    go_wp2_with fail
    refine (k1 _).mono ?_
    rintro e w1 ⟨rfl, hb1⟩
    go_wp2_with fail
    refine (k2 _).mono ?_
    rintro e w2 ⟨rfl, hb2⟩
    have HB2 := Lib.hid (below_at hb1 hb2 hb1.size)
    clear hb1 hb2
    go_wp2_with (first
      | (go_at_call 39; refine (k3 _).mono ?_; rintro e w3 ⟨rfl, hb3⟩)
      | (with_reducible refine wpList_store_mid rfl 55 _ _ rfl w3.heap.size 0 (intC sq (digs 12 q)) rfl rfl (there_fresh _ _ _) (size_big _ _).out (intC_one _ _) ?_))
    go_meet
    case rel =>
      have hB := below_at HB2.out hb3 HB2.out.size
      exact ⟨w3.heap.size, rfl, hB.size, row_fresh _ _ _, below_setCells hB.size _ _ (hB.alloc hB.size _)⟩
  case rest =>
    obtain ⟨g6, rfl, hg6, HR6, HB⟩ := hcut
    obtain ⟨c6, f6⟩ := HR6.out.cell0
    go_upto_region 4 with fail
    go_cut [] (fun wx => Hid (Row g6 false q wx) ∧ Hid (Below w.heap.size w wx))
    case first =>
      go_wp2
      go_meet
      case rel => exact ⟨HR6.out.sign, HB.out.setCell (by simp; omega) _⟩
    case rest =>
      clear HR6 HB c6 f6
      obtain ⟨HR6, HB⟩ := hcut
      go_upto_region 5 with fail
      go_cut [7] (fun s7 wx => ∃ g7 : Nat, s7 = .pointer (some ⟨g7, 0, none⟩) ∧ g6 < g7 ∧ Hid (Row g6 false q wx) ∧ Hid (Row g7 sb v wx) ∧ Hid (Below w.heap.size w wx))
      case first =>
        go_wp2_with (first
          | (go_at_call 35; refine (k2 _).mono ?_; rintro e w1 ⟨rfl, hb1⟩)
          | (with_reducible refine wpList_store_mid rfl 55 _ _ rfl w1.heap.size 0 (intC sb (digs 12 v)) rfl rfl (there_fresh _ _ _) (size_big _ _).out (intC_one _ _) ?_))
        go_meet
        case rel =>
          have h1 := HR6.out.old hb1
          have hB1 := HB.out.trans (hb1.mono HB.out.size)
          exact ⟨w1.heap.size, rfl, h1.lt, (h1.alloc _).far _ (Nat.ne_of_lt h1.lt) _ _, row_fresh _ _ _, below_setCells hB1.size _ _ (hB1.alloc hB1.size _)⟩
      case rest =>
        clear HR6 HB
        obtain ⟨g7, rfl, hg7, HR6, HR7, HB⟩ := hcut
        obtain ⟨c7, f7⟩ := HR7.out.cell0
        go_upto_region 6 with fail
        go_cut [] (fun wx => Hid (Row g6 false q wx) ∧ Hid (Row g7 false v wx) ∧ Hid (Below w.heap.size w wx))
        case first =>
          go_wp2
          go_meet
          case rel => exact ⟨HR6.out.far1 _ (by simp; omega) _, HR7.out.sign, HB.out.setCell (by simp; omega) _⟩
        case rest =>
          clear HR6 HR7 HB c7 f7
          obtain ⟨HR6, HR7, HB⟩ := hcut
          go_upto_region 7 with fail
          go_cut [8] (fun s8 wx => ∃ g8 : Nat, s8 = .pointer (some ⟨g8, 0, none⟩) ∧ g7 < g8 ∧ Hid (Row g6 false q wx) ∧ Hid (Row g7 false v wx) ∧ Hid (Row g8 sa u wx) ∧ Hid (Below w.heap.size w wx))
          case first =>
            go_wp2_with (first
              | (go_at_call 35; refine (k1 _).mono ?_; rintro e w1 ⟨rfl, hb1⟩)
              | (with_reducible refine wpList_store_mid rfl 55 _ _ rfl w1.heap.size 0 (intC sa (digs 12 u)) rfl rfl (there_fresh _ _ _) (size_big _ _).out (intC_one _ _) ?_))
            go_meet
            case rel =>
              have h1 := HR6.out.old hb1
              have h2 := HR7.out.old hb1
              have hB1 := HB.out.trans (hb1.mono HB.out.size)
              exact ⟨w1.heap.size, rfl, h2.lt, (h1.alloc _).far _ (Nat.ne_of_lt h1.lt) _ _, (h2.alloc _).far _ (Nat.ne_of_lt h2.lt) _ _, row_fresh _ _ _, below_setCells hB1.size _ _ (hB1.alloc hB1.size _)⟩
          case rest =>
            clear HR6 HR7 HB
            obtain ⟨g8, rfl, hg8, HR6, HR7, HR8, HB⟩ := hcut
            go_upto_region 8 with fail
            go_cut [9, 10] (fun s9 s10 wx => s9 = .int .i64 r ∧ s10 = .int .i64 0 ∧ Hid (Below w.heap.size w wx))
            case first =>
              obtain ⟨X, hX⟩ : ∃ X, X = (intC sa (digs 12 u)).toList := ⟨_, rfl⟩
              obtain ⟨Q, hQ⟩ : ∃ X, X = (intC false (digs 12 q)).toList := ⟨_, rfl⟩
              obtain ⟨D, hD⟩ : ∃ X, X = (intC false (digs 12 v)).toList := ⟨_, rfl⟩
              have eX : intC sa (digs 12 u) = X.toArray := by rw [hX]
              have eQ : intC false (digs 12 q) = Q.toArray := by rw [hQ]
              have eD : intC false (digs 12 v) = D.toArray := by rw [hD]
              have lX : X.length = 13 := by rw [hX, Array.length_toList, big_size]
              have lQ : Q.length = 13 := by rw [hQ, Array.length_toList, big_size]
              have lD : D.length = 13 := by rw [hD, Array.length_toList, big_size]
              have sX := HR8.out.range
              have sQ := HR6.out.range
              have sD := HR7.out.range
              rw [← hX] at sX
              rw [← hQ] at sQ
              rw [← hD] at sD
              rw [eQ, eD] at k4
              rw [eX] at k5
              have hu := Tryz.underlying55
              have iX : (Tryz.prog.info? 55).map (·.size) = some X.length := by rw [lX]; exact Tryz.info48
              have iQ : (Tryz.prog.info? 55).map (·.size) = some Q.length := by rw [lQ]; exact Tryz.info48
              have iD : (Tryz.prog.info? 55).map (·.size) = some D.length := by rw [lD]; exact Tryz.info48
              have HB0 := HB.out
              clear hX hQ hD eX eQ eD k1 k2 k3 HR6 HR7 HR8
              refine wp_region_held_drew (S := fun w' => w'.rangeAt g8 0 X ∧ w'.rangeAt g6 0 Q ∧ w'.rangeAt g7 0 D ∧ Below w.heap.size w w') (by kernel_rfl) ⟨sX, sQ, sD, HB0.drew⟩ (fun hHeld => ?_)
              refine wpAnyH_take (i := 0) (v := .agg X.toArray) rfl (by kernel_rfl) (by kernel_rfl) (by kernel_rfl) (fun _ _ _ h => h) (yieldsIf_load_mid (by rfl) 55 _ rfl g8 0 rfl X _ (fun w h => h.1) hu rfl iX) hHeld ?_
              try simp only [Act.put, List.setIfInBounds_toArray]
              refine wpAnyH_take (i := 1) (v := .agg Q.toArray) rfl (by kernel_rfl) (by kernel_rfl) (by kernel_rfl) (fun _ _ _ h => h) (yieldsIf_load_mid (by rfl) 55 _ rfl g6 0 rfl Q _ (fun w h => h.2.1) hu rfl iQ) hHeld ?_
              try simp only [Act.put]
              refine wpAnyH_take (i := 2) (v := .agg D.toArray) rfl (by kernel_rfl) (by kernel_rfl) (by kernel_rfl) (fun _ _ _ h => h) (yieldsIf_load_mid (by rfl) 55 _ rfl g7 0 rfl D _ (fun w h => h.2.2.1) hu rfl iD) hHeld ?_
              try simp only [Act.put]
              refine wpAnyH_ready (rs := [3]) (by kernel_rfl) (by simp) ?_
              refine AllReadyH.cons rfl (fun K hK => ?_) AllReadyH.nil
              go_simp
              refine (k4 _).mono ?_
              rintro e w4 ⟨rfl, hb4⟩
              refine hK.out _ _ ⟨range_old hHeld.1 hb4, range_old hHeld.2.1 hb4, range_old hHeld.2.2.1 hb4, below_on hHeld.2.2.2 hb4 hHeld.2.2.2.size⟩ (fun hHeld => ?_)
              clear hK K
              try simp only [Act.put, List.setIfInBounds_toArray, List.set_cons_zero, List.set_cons_succ]
              refine wpAnyH_ready (rs := [4]) (by kernel_rfl) (by simp) ?_
              refine AllReadyH.cons rfl (fun K hK => ?_) AllReadyH.nil
              go_simp
              refine (k5 _).mono ?_
              rintro e w5 ⟨rfl, hb5⟩
              refine hK.out _ _ ⟨range_old hHeld.1 hb5, range_old hHeld.2.1 hb5, range_old hHeld.2.2.1 hb5, below_on hHeld.2.2.2 hb5 hHeld.2.2.2.size⟩ (fun hHeld => ?_)
              clear hK K
              try simp only [Act.put, List.setIfInBounds_toArray, List.set_cons_zero, List.set_cons_succ]
              refine wpAnyH_ready (rs := [5]) (by kernel_rfl) (by simp) ?_
              refine AllReadyH.cons rfl (fun K hK => ?_) AllReadyH.nil
              go_simp
              refine (k6 _).mono ?_
              rintro e w6 ⟨rfl, hb6⟩
              refine hK.out _ _ ⟨range_old hHeld.1 hb6, range_old hHeld.2.1 hb6, range_old hHeld.2.2.1 hb6, below_on hHeld.2.2.2 hb6 hHeld.2.2.2.size⟩ (fun hHeld => ?_)
              clear hK K
              try simp only [Act.put, List.setIfInBounds_toArray, List.set_cons_zero, List.set_cons_succ]
              refine wpAnyH_take (i := 6) (v := .tuple #[.int .i64 r, .int .i64 0]) rfl (by kernel_rfl) (by kernel_rfl) (by kernel_rfl) (fun _ _ _ h => h) (Or.inl ⟨by rfl, by intro w hSw; first | (go_simp; done) | (go_simp; with_reducible rfl)⟩) hHeld ?_
              try simp only [Act.put, List.setIfInBounds_toArray]
              refine wpAnyH_take (i := 7) (v := .int .i64 r) rfl (by kernel_rfl) (by kernel_rfl) (by kernel_rfl) (fun _ _ _ h => h) (Or.inl ⟨by rfl, by intro w hSw; first | (go_simp; done) | (go_simp; with_reducible rfl)⟩) hHeld ?_
              try simp only [Act.put]
              refine wpAnyH_take (i := 8) (v := .int .i64 0) rfl (by kernel_rfl) (by kernel_rfl) (by kernel_rfl) (fun _ _ _ h => h) (Or.inl ⟨by rfl, by intro w hSw; first | (go_simp; done) | (go_simp; with_reducible rfl)⟩) hHeld ?_
              try simp only [Act.put]
              refine wpAnyH_ready (rs := [9]) (by kernel_rfl) (by simp) ?_
              refine AllReadyH.cons rfl (fun K hK => ?_) AllReadyH.nil
              go_simp
              refine hK.out _ _ hHeld (fun hHeld => ?_)
              clear hK K
              try simp only [Act.put, List.setIfInBounds_toArray, List.set_cons_zero, List.set_cons_succ]
              refine wpAnyH_ready (rs := [10]) (by kernel_rfl) (by simp) ?_
              refine AllReadyH.cons rfl (fun K hK => ?_) AllReadyH.nil
              go_simp
              refine hK.out _ _ hHeld (fun hHeld => ?_)
              clear hK K
              try simp only [Act.put, List.setIfInBounds_toArray, List.set_cons_zero, List.set_cons_succ]
              refine wpAnyH_done (by kernel_rfl) ?_ _
              go_wp2_with fail
              go_meet
              case rel => exact ⟨rfl, rfl, hHeld.2.2.2⟩
            case rest =>
              obtain ⟨rfl, rfl, HB5⟩ := hcut
              by_cases hn : a < 0
              · go_wp2
                go_ret2
                exact ⟨rfl, HB5.out⟩
              · have hd : decide (a < 0) = false := decide_eq_false hn
                go_wp2
                go_ret2
                exact ⟨rfl, HB5.out⟩
end Go.Proofs.YtokfkckfclnoaaaGreatDoor
