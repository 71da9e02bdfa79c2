/- Packed texts: ArRightA, ArithVarsWalk. What each of them proves stands above its theorems; the conditions stand in these. -/
import Derived.Deep.RegionHeld3
import Derived.Lib.ItoaNum
import Derived.Test.YtaaecgglocgcmaaDoorC3
import Derived.Test.YtaaecgglocgcmaaDoorC4
namespace Go.Proofs.YtaaecgglocgcmaaDoor
open Go.RowKit Go.Lib

theorem alloc_same {w : World} {a : Addr} {u : Value} (o : Obj) (_d : Unit) (h : w.cell? a = some u) : (w.alloc o).cell? a = some u := by
  rw [World.cell?_alloc_lt _ _ _ (World.block_lt_of_cell? w a h)]
  exact h
theorem right_step {w0 wr w2 : World} {xn xv : ByteArray} (HW : Below w0.heap.size w0 wr) (hb : Below (wr.alloc (.cells #[.string xn, .string xv] 39)).drew.heap.size (wr.alloc (.cells #[.string xn, .string xv] 39)).drew w2) :
    Below w0.heap.size w0 w2 ∧ w2.cell? ⟨wr.heap.size, 0, none⟩ = some (.string xn) ∧ ∀ a u, wr.cell? a = some u → w2.cell? a = some u := by
  have h1 : Below wr.heap.size wr (wr.alloc (.cells #[.string xn, .string xv] 39)).drew := ((Below.refl _ wr).alloc (Nat.le_refl _) _).drew
  have hz : (wr.alloc (.cells #[.string xn, .string xv] 39)).drew.heap.size = wr.heap.size + 1 := by
    show (wr.alloc _).heap.size = _
    simp
  have h2 := h1.trans (hb.mono (by omega))
  refine ⟨HW.trans (h2.mono HW.size), ?_, fun a u h => ?_⟩
  · rw [hb.cell (by show wr.heap.size < _; omega)]
    show (wr.alloc _).cell? _ = _
    rw [cell_of_heap (heap_alloc_new wr _)]
    rfl
  · rw [h2.cell (World.block_lt_of_cell? wr a h)]
    exact h
set_option maxHeartbeats 8000000 in
set_option maxRecDepth 20000 in
theorem rightArith_any (v : Value) (vs : List Vr) (w : World) (h : Vars w.heap.size v vs w) (hs : ∀ x ∈ vs, x.n.size ≤ 140737488351232) :
    Calls Tryd.prog 16 #[v] w fun e w' => e = .returned (.bool (rightA vs)) ∧ Below w.heap.size w w' := by
  obtain ⟨ao, cap, rfl, hc, hn⟩ : ∃ ao cap, v = .slice ao vs.length cap ∧ vs.length ≤ cap ∧ vs.length ≤ 140737488355328 := by
    obtain ⟨ao, cap, rfl, hc, hn, _⟩ := h
    exact ⟨ao, cap, rfl, hc, hn⟩
  have H := Lib.hid h
  obtain ⟨n, hn'⟩ : ∃ n, n = vs.length := ⟨_, rfl⟩
  rw [← hn'] at hn hc H ⊢
  have HN := Lib.hid hn'
  have HUP := Lib.hid (@up_right vs)
  obtain ⟨R, hR⟩ : ∃ R, R = rightA vs := ⟨_, rfl⟩
  rw [← hR] at HUP ⊢
  have WN : Hid (∀ (k : Nat) (x : Vr), vs[k]? = some x → isNameB x.n.data.toList = false → R = false) := by
    show ∀ (k : Nat) (x : Vr), vs[k]? = some x → isNameB x.n.data.toList = false → R = false
    intro k x hx hb; rw [hR]; exact wrong_name hx hb
  have WO : Hid (∀ (k : Nat) (x y : Vr), vs[k]? = some y → vs[k + 1]? = some x → Op.bytesLess y.n.data.toList x.n.data.toList = false → R = false) := by
    show ∀ (k : Nat) (x y : Vr), vs[k]? = some y → vs[k + 1]? = some x → Op.bytesLess y.n.data.toList x.n.data.toList = false → R = false
    intro k x y hy hx hb; rw [hR]; exact wrong_order hy hx hb
  have hge : ∀ j, j < n → ∃ x, vs[j]? = some x := fun j hj => ⟨_, List.getElem?_eq_getElem (by rw [← hn']; exact hj)⟩
  have HGE := Lib.hid hge
  have HSZ := Lib.hid hs
  have hB : Hid (Below w.heap.size w w) := Below.refl _ _
  have hU : Hid (UpA vs 0) := fun j x hj => absurd hj (Nat.not_lt_zero _)
  clear h hn' hge hs hR
  go_enter Tryd.func16, Tryd.ntmps16
  go_wp2_with fail
  go_loopw [7] (fun i wr => ∃ k : Nat, i = .int .i64 (k : Int) ∧ k ≤ n ∧ Hid (UpA vs k) ∧ Hid (Below w.heap.size w wr)) (fun i _ => n - (RowKit.intOf i).toNat)
  case atStart => exact ⟨0, rfl, Nat.zero_le _, hU, hB⟩
  case round =>
    obtain ⟨k, rfl, hk, HU, HW⟩ := hrel
    by_cases hlt : k < n
    · obtain ⟨x, hx⟩ := HGE.out k hlt
      have HV := Lib.hid (H.out.below HW.out)
      obtain ⟨b, o, rfl, hb, c0, c1⟩ := HV.out.at hx
      have kN := fun w => isNameW_any x.n w (HSZ.out x (List.mem_of_getElem? hx))
      have hltI : (k : Int) < (n : Int) := by omega
      cases hq : isNameB x.n.data.toList
      · have HR : Hid (R = false) := WN.out k x hx hq
        rw [hq] at kN
        clear hq hx
        generalize x.n = xn at *
        generalize x.v = xv at *
        go_wp2_with fail
        refine wp_region_noPanic ?_
        refine wp_region_held_drew (S := fun W' => W'.cell? ⟨wr.heap.size, 0, none⟩ = some (.string xn)) (by kernel_rfl) (by simp) (fun hHeld => ?_)
        refine wpAnyH_take (i := 0) (v := ?_) rfl (by kernel_rfl) (by kernel_rfl) (by kernel_rfl) (fun _ _ _ h => h) ?_ hHeld ?_; rotate_left; · (simp only [List.getElem_toArray, List.getElem_cons_zero]; refine Or.inl ⟨by rfl, ?_⟩; intro w hSw; (try dsimp only at hSw); go_simp; try with_reducible rfl)
        try simp only [List.getElem_toArray, List.getElem_cons_zero, Act.put, List.setIfInBounds_toArray, List.set_cons_zero, List.set_cons_succ]
        refine wpAnyH_take (i := 1) (v := ?_) rfl (by kernel_rfl) (by kernel_rfl) (by kernel_rfl) (fun _ _ _ h => h) ?_ hHeld ?_; rotate_left; · (simp only [List.getElem_toArray, List.getElem_cons_succ, List.getElem_cons_zero]; refine Or.inl ⟨by rfl, ?_⟩; intro w hSw; (try dsimp only at hSw); go_simp; try with_reducible rfl)
        try simp only [List.getElem_toArray, List.getElem_cons_succ, List.getElem_cons_zero, Act.put, List.setIfInBounds_toArray, List.set_cons_zero, List.set_cons_succ]
        refine wpAnyH_ready (rs := [2]) (by kernel_rfl) (by simp) ?_
        refine AllReadyH.cons rfl (fun K hK => ?_) AllReadyH.nil
        simp only [List.getElem_toArray, List.getElem_cons_succ, List.getElem_cons_zero]
        go_simp
        go_at_call 29; (with_reducible refine (kN _).mono ?_); rintro e w2 ⟨rfl, hb2⟩; obtain ⟨hbW, hcW, hoW⟩ := right_step HW.out hb2; have HB2 := Lib.hid hbW; clear hb2 hbW kN
        try dsimp only
        refine hK.out _ _ (hcW) (fun hNew => ?_)
        clear hK K hHeld
        have hHeld := hNew
        clear hNew
        try simp only [List.getElem_toArray, List.getElem_cons_succ, List.getElem_cons_zero, Act.put, List.setIfInBounds_toArray, List.set_cons_zero, List.set_cons_succ]
        refine wpAnyH_take (i := 3) (v := ?_) rfl (by kernel_rfl) (by kernel_rfl) (by kernel_rfl) (fun _ _ _ h => h) ?_ hHeld ?_; rotate_left; · (simp only [List.getElem_toArray, List.getElem_cons_succ, List.getElem_cons_zero]; refine Or.inl ⟨by rfl, ?_⟩; intro w hSw; (try dsimp only at hSw); go_simp; try with_reducible rfl)
        try simp only [List.getElem_toArray, List.getElem_cons_succ, List.getElem_cons_zero, Act.put, List.setIfInBounds_toArray, List.set_cons_zero, List.set_cons_succ]
        refine wpAnyH_take (i := 4) (v := ?_) rfl (by kernel_rfl) (by kernel_rfl) (by kernel_rfl) (fun _ _ _ h => h) ?_ hHeld ?_; rotate_left; · (simp only [List.getElem_toArray, List.getElem_cons_succ, List.getElem_cons_zero]; refine Or.inl ⟨by rfl, ?_⟩; intro w hSw; (try dsimp only at hSw); go_simp; try with_reducible rfl)
        try simp only [List.getElem_toArray, List.getElem_cons_succ, List.getElem_cons_zero, Act.put, List.setIfInBounds_toArray, List.set_cons_zero, List.set_cons_succ]
        refine wpAnyH_take (i := 5) (v := undef) rfl (by kernel_rfl) (by kernel_rfl) (by kernel_rfl) (fun _ _ _ h => h) ?_ hHeld ?_; · (simp only [List.getElem_toArray, List.getElem_cons_succ, List.getElem_cons_zero]; exact Or.inr ⟨by rfl, rfl⟩)
        try simp only [List.getElem_toArray, List.getElem_cons_succ, List.getElem_cons_zero, Act.put, List.setIfInBounds_toArray, List.set_cons_zero, List.set_cons_succ]
        refine wpAnyH_take (i := 6) (v := undef) rfl (by kernel_rfl) (by kernel_rfl) (by kernel_rfl) (fun _ _ _ h => h) ?_ hHeld ?_; · (simp only [List.getElem_toArray, List.getElem_cons_succ, List.getElem_cons_zero]; exact Or.inr ⟨by rfl, rfl⟩)
        try simp only [List.getElem_toArray, List.getElem_cons_succ, List.getElem_cons_zero, Act.put, List.setIfInBounds_toArray, List.set_cons_zero, List.set_cons_succ]
        refine wpAnyH_take (i := 7) (v := undef) rfl (by kernel_rfl) (by kernel_rfl) (by kernel_rfl) (fun _ _ _ h => h) ?_ hHeld ?_; · (simp only [List.getElem_toArray, List.getElem_cons_succ, List.getElem_cons_zero]; exact Or.inr ⟨by rfl, rfl⟩)
        try simp only [List.getElem_toArray, List.getElem_cons_succ, List.getElem_cons_zero, Act.put, List.setIfInBounds_toArray, List.set_cons_zero, List.set_cons_succ]
        refine wpAnyH_take (i := 8) (v := undef) rfl (by kernel_rfl) (by kernel_rfl) (by kernel_rfl) (fun _ _ _ h => h) ?_ hHeld ?_; · (simp only [List.getElem_toArray, List.getElem_cons_succ, List.getElem_cons_zero]; exact Or.inr ⟨by rfl, rfl⟩)
        try simp only [List.getElem_toArray, List.getElem_cons_succ, List.getElem_cons_zero, Act.put, List.setIfInBounds_toArray, List.set_cons_zero, List.set_cons_succ]
        refine wpAnyH_take (i := 9) (v := undef) rfl (by kernel_rfl) (by kernel_rfl) (by kernel_rfl) (fun _ _ _ h => h) ?_ hHeld ?_; · (simp only [List.getElem_toArray, List.getElem_cons_succ, List.getElem_cons_zero]; exact Or.inr ⟨by rfl, rfl⟩)
        try simp only [List.getElem_toArray, List.getElem_cons_succ, List.getElem_cons_zero, Act.put, List.setIfInBounds_toArray, List.set_cons_zero, List.set_cons_succ]
        refine wpAnyH_take (i := 10) (v := undef) rfl (by kernel_rfl) (by kernel_rfl) (by kernel_rfl) (fun _ _ _ h => h) ?_ hHeld ?_; · (simp only [List.getElem_toArray, List.getElem_cons_succ, List.getElem_cons_zero]; exact Or.inr ⟨by rfl, rfl⟩)
        try simp only [List.getElem_toArray, List.getElem_cons_succ, List.getElem_cons_zero, Act.put, List.setIfInBounds_toArray, List.set_cons_zero, List.set_cons_succ]
        refine wpAnyH_take (i := 11) (v := undef) rfl (by kernel_rfl) (by kernel_rfl) (by kernel_rfl) (fun _ _ _ h => h) ?_ hHeld ?_; · (simp only [List.getElem_toArray, List.getElem_cons_succ, List.getElem_cons_zero]; exact Or.inr ⟨by rfl, rfl⟩)
        try simp only [List.getElem_toArray, List.getElem_cons_succ, List.getElem_cons_zero, Act.put, List.setIfInBounds_toArray, List.set_cons_zero, List.set_cons_succ]
        refine wpAnyH_take (i := 12) (v := undef) rfl (by kernel_rfl) (by kernel_rfl) (by kernel_rfl) (fun _ _ _ h => h) ?_ hHeld ?_; · (simp only [List.getElem_toArray, List.getElem_cons_succ, List.getElem_cons_zero]; exact Or.inr ⟨by rfl, rfl⟩)
        try simp only [List.getElem_toArray, List.getElem_cons_succ, List.getElem_cons_zero, Act.put, List.setIfInBounds_toArray, List.set_cons_zero, List.set_cons_succ]
        refine wpAnyH_take (i := 13) (v := undef) rfl (by kernel_rfl) (by kernel_rfl) (by kernel_rfl) (fun _ _ _ h => h) ?_ hHeld ?_; · (simp only [List.getElem_toArray, List.getElem_cons_succ, List.getElem_cons_zero]; exact Or.inr ⟨by rfl, rfl⟩)
        try simp only [List.getElem_toArray, List.getElem_cons_succ, List.getElem_cons_zero, Act.put, List.setIfInBounds_toArray, List.set_cons_zero, List.set_cons_succ]
        refine wpAnyH_take (i := 14) (v := undef) rfl (by kernel_rfl) (by kernel_rfl) (by kernel_rfl) (fun _ _ _ h => h) ?_ hHeld ?_; · (simp only [List.getElem_toArray, List.getElem_cons_succ, List.getElem_cons_zero]; exact Or.inr ⟨by rfl, rfl⟩)
        try simp only [List.getElem_toArray, List.getElem_cons_succ, List.getElem_cons_zero, Act.put, List.setIfInBounds_toArray, List.set_cons_zero, List.set_cons_succ]
        refine wpAnyH_take (i := 15) (v := undef) rfl (by kernel_rfl) (by kernel_rfl) (by kernel_rfl) (fun _ _ _ h => h) ?_ hHeld ?_; · (simp only [List.getElem_toArray, List.getElem_cons_succ, List.getElem_cons_zero]; exact Or.inr ⟨by rfl, rfl⟩)
        try simp only [List.getElem_toArray, List.getElem_cons_succ, List.getElem_cons_zero, Act.put, List.setIfInBounds_toArray, List.set_cons_zero, List.set_cons_succ]
        refine wpAnyH_take (i := 16) (v := undef) rfl (by kernel_rfl) (by kernel_rfl) (by kernel_rfl) (fun _ _ _ h => h) ?_ hHeld ?_; · (simp only [List.getElem_toArray, List.getElem_cons_succ, List.getElem_cons_zero]; exact Or.inr ⟨by rfl, rfl⟩)
        try simp only [List.getElem_toArray, List.getElem_cons_succ, List.getElem_cons_zero, Act.put, List.setIfInBounds_toArray, List.set_cons_zero, List.set_cons_succ]
        refine wpAnyH_take (i := 17) (v := undef) rfl (by kernel_rfl) (by kernel_rfl) (by kernel_rfl) (fun _ _ _ h => h) ?_ hHeld ?_; · (simp only [List.getElem_toArray, List.getElem_cons_succ, List.getElem_cons_zero]; exact Or.inr ⟨by rfl, rfl⟩)
        try simp only [List.getElem_toArray, List.getElem_cons_succ, List.getElem_cons_zero, Act.put, List.setIfInBounds_toArray, List.set_cons_zero, List.set_cons_succ]
        refine wpAnyH_take (i := 18) (v := ?_) rfl (by kernel_rfl) (by kernel_rfl) (by kernel_rfl) (fun _ _ _ h => h) ?_ hHeld ?_; rotate_left; · (simp only [List.getElem_toArray, List.getElem_cons_succ, List.getElem_cons_zero]; refine Or.inl ⟨by rfl, ?_⟩; intro w hSw; (try dsimp only at hSw); go_simp; try with_reducible rfl)
        try simp only [List.getElem_toArray, List.getElem_cons_succ, List.getElem_cons_zero, Act.put, List.setIfInBounds_toArray, List.set_cons_zero, List.set_cons_succ]
        refine wpAnyH_done (by kernel_rfl) ?_ _
        refine NoPanic.normal ?_
        go_wp2
        go_ret
        exact ⟨by rw [HR.out]; rfl, HB2.out⟩
      · rw [hq] at kN
        cases k with
        | zero =>
          have HNX : Hid (UpA vs (0 + 1)) := up_next HU.out hx hq (fun y _ h0 => absurd h0 (Nat.lt_irrefl _))
          clear hq hx
          rw [Nat.zero_mul, Nat.add_zero] at c0 c1
          rw [show ((0 : Nat) : Int) = 0 from rfl] at hltI
          rw [show ((0 : Nat) : Int) = 0 from rfl]
          generalize x.n = xn at *
          generalize x.v = xv at *
          go_wp2_with fail
          refine wp_region_noPanic ?_
          refine wp_region_held_drew (S := fun W' => W'.cell? ⟨wr.heap.size, 0, none⟩ = some (.string xn)) (by kernel_rfl) (by simp) (fun hHeld => ?_)
          refine wpAnyH_take (i := 0) (v := ?_) rfl (by kernel_rfl) (by kernel_rfl) (by kernel_rfl) (fun _ _ _ h => h) ?_ hHeld ?_; rotate_left; · (simp only [List.getElem_toArray, List.getElem_cons_zero]; refine Or.inl ⟨by rfl, ?_⟩; intro w hSw; (try dsimp only at hSw); go_simp; try with_reducible rfl)
          try simp only [List.getElem_toArray, List.getElem_cons_zero, Act.put, List.setIfInBounds_toArray, List.set_cons_zero, List.set_cons_succ]
          refine wpAnyH_take (i := 1) (v := ?_) rfl (by kernel_rfl) (by kernel_rfl) (by kernel_rfl) (fun _ _ _ h => h) ?_ hHeld ?_; rotate_left; · (simp only [List.getElem_toArray, List.getElem_cons_succ, List.getElem_cons_zero]; refine Or.inl ⟨by rfl, ?_⟩; intro w hSw; (try dsimp only at hSw); go_simp; try with_reducible rfl)
          try simp only [List.getElem_toArray, List.getElem_cons_succ, List.getElem_cons_zero, Act.put, List.setIfInBounds_toArray, List.set_cons_zero, List.set_cons_succ]
          refine wpAnyH_ready (rs := [2]) (by kernel_rfl) (by simp) ?_
          refine AllReadyH.cons rfl (fun K hK => ?_) AllReadyH.nil
          simp only [List.getElem_toArray, List.getElem_cons_succ, List.getElem_cons_zero]
          go_simp
          go_at_call 29; (with_reducible refine (kN _).mono ?_); rintro e w2 ⟨rfl, hb2⟩; obtain ⟨hbW, hcW, hoW⟩ := right_step HW.out hb2; have HB2 := Lib.hid hbW; clear hb2 hbW kN
          try dsimp only
          refine hK.out _ _ (hcW) (fun hNew => ?_)
          clear hK K hHeld
          have hHeld := hNew
          clear hNew
          try simp only [List.getElem_toArray, List.getElem_cons_succ, List.getElem_cons_zero, Act.put, List.setIfInBounds_toArray, List.set_cons_zero, List.set_cons_succ]
          refine wpAnyH_take (i := 3) (v := ?_) rfl (by kernel_rfl) (by kernel_rfl) (by kernel_rfl) (fun _ _ _ h => h) ?_ hHeld ?_; rotate_left; · (simp only [List.getElem_toArray, List.getElem_cons_succ, List.getElem_cons_zero]; refine Or.inl ⟨by rfl, ?_⟩; intro w hSw; (try dsimp only at hSw); go_simp; try with_reducible rfl)
          try simp only [List.getElem_toArray, List.getElem_cons_succ, List.getElem_cons_zero, Act.put, List.setIfInBounds_toArray, List.set_cons_zero, List.set_cons_succ]
          refine wpAnyH_take (i := 4) (v := ?_) rfl (by kernel_rfl) (by kernel_rfl) (by kernel_rfl) (fun _ _ _ h => h) ?_ hHeld ?_; rotate_left; · (simp only [List.getElem_toArray, List.getElem_cons_succ, List.getElem_cons_zero]; refine Or.inl ⟨by rfl, ?_⟩; intro w hSw; (try dsimp only at hSw); go_simp; try with_reducible rfl)
          try simp only [List.getElem_toArray, List.getElem_cons_succ, List.getElem_cons_zero, Act.put, List.setIfInBounds_toArray, List.set_cons_zero, List.set_cons_succ]
          refine wpAnyH_take (i := 5) (v := ?_) rfl (by kernel_rfl) (by kernel_rfl) (by kernel_rfl) (fun _ _ _ h => h) ?_ hHeld ?_; rotate_left; · (simp only [List.getElem_toArray, List.getElem_cons_succ, List.getElem_cons_zero]; refine Or.inl ⟨by rfl, ?_⟩; intro w hSw; (try dsimp only at hSw); go_simp; try with_reducible rfl)
          try simp only [List.getElem_toArray, List.getElem_cons_succ, List.getElem_cons_zero, Act.put, List.setIfInBounds_toArray, List.set_cons_zero, List.set_cons_succ]
          refine wpAnyH_take (i := 6) (v := ?_) rfl (by kernel_rfl) (by kernel_rfl) (by kernel_rfl) (fun _ _ _ h => h) ?_ hHeld ?_; rotate_left; · (simp only [List.getElem_toArray, List.getElem_cons_succ, List.getElem_cons_zero]; refine Or.inl ⟨by rfl, ?_⟩; intro w hSw; (try dsimp only at hSw); go_simp; try with_reducible rfl)
          try simp only [List.getElem_toArray, List.getElem_cons_succ, List.getElem_cons_zero, Act.put, List.setIfInBounds_toArray, List.set_cons_zero, List.set_cons_succ]
          refine wpAnyH_take (i := 7) (v := ?_) rfl (by kernel_rfl) (by kernel_rfl) (by kernel_rfl) (fun _ _ _ h => h) ?_ hHeld ?_; rotate_left; · (simp only [List.getElem_toArray, List.getElem_cons_succ, List.getElem_cons_zero]; refine Or.inl ⟨by rfl, ?_⟩; intro w hSw; (try dsimp only at hSw); go_simp; try with_reducible rfl)
          try simp only [List.getElem_toArray, List.getElem_cons_succ, List.getElem_cons_zero, Act.put, List.setIfInBounds_toArray, List.set_cons_zero, List.set_cons_succ]
          refine wpAnyH_take (i := 8) (v := undef) rfl (by kernel_rfl) (by kernel_rfl) (by kernel_rfl) (fun _ _ _ h => h) ?_ hHeld ?_; · (simp only [List.getElem_toArray, List.getElem_cons_succ, List.getElem_cons_zero]; exact Or.inr ⟨by rfl, rfl⟩)
          try simp only [List.getElem_toArray, List.getElem_cons_succ, List.getElem_cons_zero, Act.put, List.setIfInBounds_toArray, List.set_cons_zero, List.set_cons_succ]
          refine wpAnyH_take (i := 9) (v := undef) rfl (by kernel_rfl) (by kernel_rfl) (by kernel_rfl) (fun _ _ _ h => h) ?_ hHeld ?_; · (simp only [List.getElem_toArray, List.getElem_cons_succ, List.getElem_cons_zero]; exact Or.inr ⟨by rfl, rfl⟩)
          try simp only [List.getElem_toArray, List.getElem_cons_succ, List.getElem_cons_zero, Act.put, List.setIfInBounds_toArray, List.set_cons_zero, List.set_cons_succ]
          refine wpAnyH_take (i := 10) (v := undef) rfl (by kernel_rfl) (by kernel_rfl) (by kernel_rfl) (fun _ _ _ h => h) ?_ hHeld ?_; · (simp only [List.getElem_toArray, List.getElem_cons_succ, List.getElem_cons_zero]; exact Or.inr ⟨by rfl, rfl⟩)
          try simp only [List.getElem_toArray, List.getElem_cons_succ, List.getElem_cons_zero, Act.put, List.setIfInBounds_toArray, List.set_cons_zero, List.set_cons_succ]
          refine wpAnyH_take (i := 11) (v := undef) rfl (by kernel_rfl) (by kernel_rfl) (by kernel_rfl) (fun _ _ _ h => h) ?_ hHeld ?_; · (simp only [List.getElem_toArray, List.getElem_cons_succ, List.getElem_cons_zero]; exact Or.inr ⟨by rfl, rfl⟩)
          try simp only [List.getElem_toArray, List.getElem_cons_succ, List.getElem_cons_zero, Act.put, List.setIfInBounds_toArray, List.set_cons_zero, List.set_cons_succ]
          refine wpAnyH_take (i := 12) (v := undef) rfl (by kernel_rfl) (by kernel_rfl) (by kernel_rfl) (fun _ _ _ h => h) ?_ hHeld ?_; · (simp only [List.getElem_toArray, List.getElem_cons_succ, List.getElem_cons_zero]; exact Or.inr ⟨by rfl, rfl⟩)
          try simp only [List.getElem_toArray, List.getElem_cons_succ, List.getElem_cons_zero, Act.put, List.setIfInBounds_toArray, List.set_cons_zero, List.set_cons_succ]
          refine wpAnyH_take (i := 13) (v := undef) rfl (by kernel_rfl) (by kernel_rfl) (by kernel_rfl) (fun _ _ _ h => h) ?_ hHeld ?_; · (simp only [List.getElem_toArray, List.getElem_cons_succ, List.getElem_cons_zero]; exact Or.inr ⟨by rfl, rfl⟩)
          try simp only [List.getElem_toArray, List.getElem_cons_succ, List.getElem_cons_zero, Act.put, List.setIfInBounds_toArray, List.set_cons_zero, List.set_cons_succ]
          refine wpAnyH_take (i := 14) (v := undef) rfl (by kernel_rfl) (by kernel_rfl) (by kernel_rfl) (fun _ _ _ h => h) ?_ hHeld ?_; · (simp only [List.getElem_toArray, List.getElem_cons_succ, List.getElem_cons_zero]; exact Or.inr ⟨by rfl, rfl⟩)
          try simp only [List.getElem_toArray, List.getElem_cons_succ, List.getElem_cons_zero, Act.put, List.setIfInBounds_toArray, List.set_cons_zero, List.set_cons_succ]
          refine wpAnyH_take (i := 15) (v := undef) rfl (by kernel_rfl) (by kernel_rfl) (by kernel_rfl) (fun _ _ _ h => h) ?_ hHeld ?_; · (simp only [List.getElem_toArray, List.getElem_cons_succ, List.getElem_cons_zero]; exact Or.inr ⟨by rfl, rfl⟩)
          try simp only [List.getElem_toArray, List.getElem_cons_succ, List.getElem_cons_zero, Act.put, List.setIfInBounds_toArray, List.set_cons_zero, List.set_cons_succ]
          refine wpAnyH_take (i := 16) (v := undef) rfl (by kernel_rfl) (by kernel_rfl) (by kernel_rfl) (fun _ _ _ h => h) ?_ hHeld ?_; · (simp only [List.getElem_toArray, List.getElem_cons_succ, List.getElem_cons_zero]; exact Or.inr ⟨by rfl, rfl⟩)
          try simp only [List.getElem_toArray, List.getElem_cons_succ, List.getElem_cons_zero, Act.put, List.setIfInBounds_toArray, List.set_cons_zero, List.set_cons_succ]
          refine wpAnyH_take (i := 17) (v := ?_) rfl (by kernel_rfl) (by kernel_rfl) (by kernel_rfl) (fun _ _ _ h => h) ?_ hHeld ?_; rotate_left; · (simp only [List.getElem_toArray, List.getElem_cons_succ, List.getElem_cons_zero]; refine Or.inl ⟨by rfl, ?_⟩; intro w hSw; (try dsimp only at hSw); go_simp; try with_reducible rfl)
          try simp only [List.getElem_toArray, List.getElem_cons_succ, List.getElem_cons_zero, Act.put, List.setIfInBounds_toArray, List.set_cons_zero, List.set_cons_succ]
          refine wpAnyH_take (i := 18) (v := ?_) rfl (by kernel_rfl) (by kernel_rfl) (by kernel_rfl) (fun _ _ _ h => h) ?_ hHeld ?_; rotate_left; · (simp only [List.getElem_toArray, List.getElem_cons_succ, List.getElem_cons_zero]; refine Or.inl ⟨by rfl, ?_⟩; intro w hSw; (try dsimp only at hSw); go_simp; try with_reducible rfl)
          try simp only [List.getElem_toArray, List.getElem_cons_succ, List.getElem_cons_zero, Act.put, List.setIfInBounds_toArray, List.set_cons_zero, List.set_cons_succ]
          refine wpAnyH_done (by kernel_rfl) ?_ _
          refine NoPanic.normal ?_
          go_wp2
          go_roundw
          case rel => exact ⟨1, by go_num, by omega, HNX, HB2.out⟩
          case measure => simp [RowKit.intOf]; omega
        | succ k =>
          obtain ⟨y, hy⟩ := HGE.out k (by omega)
          obtain ⟨b', o', eab, hb', d0, d1⟩ := HV.out.at hy
          obtain ⟨rfl, rfl⟩ : b = b' ∧ o = o' := by cases eab; exact ⟨rfl, rfl⟩
          clear eab
          have ek : ((k + 1 : Nat) : Int) = (k : Int) + 1 := by omega
          have hk0 : (0 : Int) < (k : Int) + 1 := by omega
          have hk1 : (k : Int) < (n : Int) := by omega
          have hwk : IntKind.i64.wrap (k : Int) = (k : Int) := IntWalk.i64_in _ (by omega)
          rw [ek] at hltI
          rw [ek]
          cases hq2 : Op.bytesLess y.n.data.toList x.n.data.toList
          · have HR : Hid (R = false) := WO.out k x y hy hx hq2
            rw [← ByteArray.toList_eq, ← ByteArray.toList_eq] at hq2
            clear hq hx hy
            generalize x.n = xn at *
            generalize x.v = xv at *
            generalize y.n = yn at *
            generalize y.v = yv at *
            go_wp2_with fail
            refine wp_region_noPanic ?_
            refine wp_region_held_drew (S := fun W' => W'.cell? ⟨wr.heap.size, 0, none⟩ = some (.string xn) ∧ W'.cell? ⟨b, o + k * 2, none⟩ = some (.string yn)) (by kernel_rfl) (⟨by simp, alloc_same _ () d0⟩) (fun hHeld => ?_)
            refine wpAnyH_take (i := 0) (v := ?_) rfl (by kernel_rfl) (by kernel_rfl) (by kernel_rfl) (fun _ _ _ h => h) ?_ hHeld ?_; rotate_left; · (simp only [List.getElem_toArray, List.getElem_cons_zero]; refine Or.inl ⟨by rfl, ?_⟩; intro w hSw; (try dsimp only at hSw); obtain ⟨hSa, hSb⟩ := hSw; go_simp; try with_reducible rfl)
            try simp only [List.getElem_toArray, List.getElem_cons_zero, Act.put, List.setIfInBounds_toArray, List.set_cons_zero, List.set_cons_succ]
            refine wpAnyH_take (i := 1) (v := ?_) rfl (by kernel_rfl) (by kernel_rfl) (by kernel_rfl) (fun _ _ _ h => h) ?_ hHeld ?_; rotate_left; · (simp only [List.getElem_toArray, List.getElem_cons_succ, List.getElem_cons_zero]; refine Or.inl ⟨by rfl, ?_⟩; intro w hSw; (try dsimp only at hSw); obtain ⟨hSa, hSb⟩ := hSw; go_simp; try with_reducible rfl)
            try simp only [List.getElem_toArray, List.getElem_cons_succ, List.getElem_cons_zero, Act.put, List.setIfInBounds_toArray, List.set_cons_zero, List.set_cons_succ]
            refine wpAnyH_ready (rs := [2]) (by kernel_rfl) (by simp) ?_
            refine AllReadyH.cons rfl (fun K hK => ?_) AllReadyH.nil
            simp only [List.getElem_toArray, List.getElem_cons_succ, List.getElem_cons_zero]
            go_simp
            go_at_call 29; (with_reducible refine (kN _).mono ?_); rintro e w2 ⟨rfl, hb2⟩; obtain ⟨hbW, hcW, hoW⟩ := right_step HW.out hb2; have HB2 := Lib.hid hbW; clear hb2 hbW kN
            try dsimp only
            refine hK.out _ _ (⟨hcW, hoW _ _ d0⟩) (fun hNew => ?_)
            clear hK K hHeld
            have hHeld := hNew
            clear hNew
            try simp only [List.getElem_toArray, List.getElem_cons_succ, List.getElem_cons_zero, Act.put, List.setIfInBounds_toArray, List.set_cons_zero, List.set_cons_succ]
            refine wpAnyH_take (i := 3) (v := ?_) rfl (by kernel_rfl) (by kernel_rfl) (by kernel_rfl) (fun _ _ _ h => h) ?_ hHeld ?_; rotate_left; · (simp only [List.getElem_toArray, List.getElem_cons_succ, List.getElem_cons_zero]; refine Or.inl ⟨by rfl, ?_⟩; intro w hSw; (try dsimp only at hSw); obtain ⟨hSa, hSb⟩ := hSw; go_simp; try with_reducible rfl)
            try simp only [List.getElem_toArray, List.getElem_cons_succ, List.getElem_cons_zero, Act.put, List.setIfInBounds_toArray, List.set_cons_zero, List.set_cons_succ]
            refine wpAnyH_take (i := 4) (v := ?_) rfl (by kernel_rfl) (by kernel_rfl) (by kernel_rfl) (fun _ _ _ h => h) ?_ hHeld ?_; rotate_left; · (simp only [List.getElem_toArray, List.getElem_cons_succ, List.getElem_cons_zero]; refine Or.inl ⟨by rfl, ?_⟩; intro w hSw; (try dsimp only at hSw); obtain ⟨hSa, hSb⟩ := hSw; go_simp; try with_reducible rfl)
            try simp only [List.getElem_toArray, List.getElem_cons_succ, List.getElem_cons_zero, Act.put, List.setIfInBounds_toArray, List.set_cons_zero, List.set_cons_succ]
            refine wpAnyH_take (i := 5) (v := ?_) rfl (by kernel_rfl) (by kernel_rfl) (by kernel_rfl) (fun _ _ _ h => h) ?_ hHeld ?_; rotate_left; · (simp only [List.getElem_toArray, List.getElem_cons_succ, List.getElem_cons_zero]; refine Or.inl ⟨by rfl, ?_⟩; intro w hSw; (try dsimp only at hSw); obtain ⟨hSa, hSb⟩ := hSw; go_simp; try with_reducible rfl)
            try simp only [List.getElem_toArray, List.getElem_cons_succ, List.getElem_cons_zero, Act.put, List.setIfInBounds_toArray, List.set_cons_zero, List.set_cons_succ]
            refine wpAnyH_take (i := 6) (v := ?_) rfl (by kernel_rfl) (by kernel_rfl) (by kernel_rfl) (fun _ _ _ h => h) ?_ hHeld ?_; rotate_left; · (simp only [List.getElem_toArray, List.getElem_cons_succ, List.getElem_cons_zero]; refine Or.inl ⟨by rfl, ?_⟩; intro w hSw; (try dsimp only at hSw); obtain ⟨hSa, hSb⟩ := hSw; go_simp; try with_reducible rfl)
            try simp only [List.getElem_toArray, List.getElem_cons_succ, List.getElem_cons_zero, Act.put, List.setIfInBounds_toArray, List.set_cons_zero, List.set_cons_succ]
            refine wpAnyH_take (i := 7) (v := ?_) rfl (by kernel_rfl) (by kernel_rfl) (by kernel_rfl) (fun _ _ _ h => h) ?_ hHeld ?_; rotate_left; · (simp only [List.getElem_toArray, List.getElem_cons_succ, List.getElem_cons_zero]; refine Or.inl ⟨by rfl, ?_⟩; intro w hSw; (try dsimp only at hSw); obtain ⟨hSa, hSb⟩ := hSw; go_simp; try with_reducible rfl)
            try simp only [List.getElem_toArray, List.getElem_cons_succ, List.getElem_cons_zero, Act.put, List.setIfInBounds_toArray, List.set_cons_zero, List.set_cons_succ]
            refine wpAnyH_take (i := 8) (v := ?_) rfl (by kernel_rfl) (by kernel_rfl) (by kernel_rfl) (fun _ _ _ h => h) ?_ hHeld ?_; rotate_left; · (simp only [List.getElem_toArray, List.getElem_cons_succ, List.getElem_cons_zero]; refine Or.inl ⟨by rfl, ?_⟩; intro w hSw; (try dsimp only at hSw); obtain ⟨hSa, hSb⟩ := hSw; go_simp; try with_reducible rfl)
            try simp only [List.getElem_toArray, List.getElem_cons_succ, List.getElem_cons_zero, Act.put, List.setIfInBounds_toArray, List.set_cons_zero, List.set_cons_succ]
            refine wpAnyH_take (i := 9) (v := ?_) rfl (by kernel_rfl) (by kernel_rfl) (by kernel_rfl) (fun _ _ _ h => h) ?_ hHeld ?_; rotate_left; · (simp only [List.getElem_toArray, List.getElem_cons_succ, List.getElem_cons_zero]; refine Or.inl ⟨by rfl, ?_⟩; intro w hSw; (try dsimp only at hSw); obtain ⟨hSa, hSb⟩ := hSw; go_simp; try with_reducible rfl)
            try simp only [List.getElem_toArray, List.getElem_cons_succ, List.getElem_cons_zero, Act.put, List.setIfInBounds_toArray, List.set_cons_zero, List.set_cons_succ]
            refine wpAnyH_take (i := 10) (v := ?_) rfl (by kernel_rfl) (by kernel_rfl) (by kernel_rfl) (fun _ _ _ h => h) ?_ hHeld ?_; rotate_left; · (simp only [List.getElem_toArray, List.getElem_cons_succ, List.getElem_cons_zero]; refine Or.inl ⟨by rfl, ?_⟩; intro w hSw; (try dsimp only at hSw); obtain ⟨hSa, hSb⟩ := hSw; go_simp; try with_reducible rfl)
            try simp only [List.getElem_toArray, List.getElem_cons_succ, List.getElem_cons_zero, Act.put, List.setIfInBounds_toArray, List.set_cons_zero, List.set_cons_succ]
            refine wpAnyH_take (i := 11) (v := ?_) rfl (by kernel_rfl) (by kernel_rfl) (by kernel_rfl) (fun _ _ _ h => h) ?_ hHeld ?_; rotate_left; · (simp only [List.getElem_toArray, List.getElem_cons_succ, List.getElem_cons_zero]; refine Or.inl ⟨by rfl, ?_⟩; intro w hSw; (try dsimp only at hSw); obtain ⟨hSa, hSb⟩ := hSw; go_simp; try with_reducible rfl)
            try simp only [List.getElem_toArray, List.getElem_cons_succ, List.getElem_cons_zero, Act.put, List.setIfInBounds_toArray, List.set_cons_zero, List.set_cons_succ]
            refine wpAnyH_take (i := 12) (v := ?_) rfl (by kernel_rfl) (by kernel_rfl) (by kernel_rfl) (fun _ _ _ h => h) ?_ hHeld ?_; rotate_left; · (simp only [List.getElem_toArray, List.getElem_cons_succ, List.getElem_cons_zero]; refine Or.inl ⟨by rfl, ?_⟩; intro w hSw; (try dsimp only at hSw); obtain ⟨hSa, hSb⟩ := hSw; go_simp; try with_reducible rfl)
            try simp only [List.getElem_toArray, List.getElem_cons_succ, List.getElem_cons_zero, Act.put, List.setIfInBounds_toArray, List.set_cons_zero, List.set_cons_succ]
            refine wpAnyH_take (i := 13) (v := ?_) rfl (by kernel_rfl) (by kernel_rfl) (by kernel_rfl) (fun _ _ _ h => h) ?_ hHeld ?_; rotate_left; · (simp only [List.getElem_toArray, List.getElem_cons_succ, List.getElem_cons_zero]; refine Or.inl ⟨by rfl, ?_⟩; intro w hSw; (try dsimp only at hSw); obtain ⟨hSa, hSb⟩ := hSw; go_simp; try with_reducible rfl)
            try simp only [List.getElem_toArray, List.getElem_cons_succ, List.getElem_cons_zero, Act.put, List.setIfInBounds_toArray, List.set_cons_zero, List.set_cons_succ]
            refine wpAnyH_take (i := 14) (v := ?_) rfl (by kernel_rfl) (by kernel_rfl) (by kernel_rfl) (fun _ _ _ h => h) ?_ hHeld ?_; rotate_left; · (simp only [List.getElem_toArray, List.getElem_cons_succ, List.getElem_cons_zero]; refine Or.inl ⟨by rfl, ?_⟩; intro w hSw; (try dsimp only at hSw); obtain ⟨hSa, hSb⟩ := hSw; go_simp; try with_reducible rfl)
            try simp only [List.getElem_toArray, List.getElem_cons_succ, List.getElem_cons_zero, Act.put, List.setIfInBounds_toArray, List.set_cons_zero, List.set_cons_succ]
            refine wpAnyH_take (i := 15) (v := ?_) rfl (by kernel_rfl) (by kernel_rfl) (by kernel_rfl) (fun _ _ _ h => h) ?_ hHeld ?_; rotate_left; · (simp only [List.getElem_toArray, List.getElem_cons_succ, List.getElem_cons_zero]; refine Or.inl ⟨by rfl, ?_⟩; intro w hSw; (try dsimp only at hSw); obtain ⟨hSa, hSb⟩ := hSw; go_simp; try with_reducible rfl)
            try simp only [List.getElem_toArray, List.getElem_cons_succ, List.getElem_cons_zero, Act.put, List.setIfInBounds_toArray, List.set_cons_zero, List.set_cons_succ]
            refine wpAnyH_take (i := 16) (v := ?_) rfl (by kernel_rfl) (by kernel_rfl) (by kernel_rfl) (fun _ _ _ h => h) ?_ hHeld ?_; rotate_left; · (simp only [List.getElem_toArray, List.getElem_cons_succ, List.getElem_cons_zero]; refine Or.inl ⟨by rfl, ?_⟩; intro w hSw; (try dsimp only at hSw); obtain ⟨hSa, hSb⟩ := hSw; go_simp; try with_reducible rfl)
            try simp only [List.getElem_toArray, List.getElem_cons_succ, List.getElem_cons_zero, Act.put, List.setIfInBounds_toArray, List.set_cons_zero, List.set_cons_succ]
            refine wpAnyH_take (i := 17) (v := ?_) rfl (by kernel_rfl) (by kernel_rfl) (by kernel_rfl) (fun _ _ _ h => h) ?_ hHeld ?_; rotate_left; · (simp only [List.getElem_toArray, List.getElem_cons_succ, List.getElem_cons_zero]; refine Or.inl ⟨by rfl, ?_⟩; intro w hSw; (try dsimp only at hSw); obtain ⟨hSa, hSb⟩ := hSw; go_simp; try with_reducible rfl)
            try simp only [List.getElem_toArray, List.getElem_cons_succ, List.getElem_cons_zero, Act.put, List.setIfInBounds_toArray, List.set_cons_zero, List.set_cons_succ]
            refine wpAnyH_take (i := 18) (v := ?_) rfl (by kernel_rfl) (by kernel_rfl) (by kernel_rfl) (fun _ _ _ h => h) ?_ hHeld ?_; rotate_left; · (simp only [List.getElem_toArray, List.getElem_cons_succ, List.getElem_cons_zero]; refine Or.inl ⟨by rfl, ?_⟩; intro w hSw; (try dsimp only at hSw); obtain ⟨hSa, hSb⟩ := hSw; go_simp; try with_reducible rfl)
            try simp only [List.getElem_toArray, List.getElem_cons_succ, List.getElem_cons_zero, Act.put, List.setIfInBounds_toArray, List.set_cons_zero, List.set_cons_succ]
            refine wpAnyH_done (by kernel_rfl) ?_ _
            refine NoPanic.normal ?_
            go_wp2
            go_ret
            exact ⟨by rw [HR.out]; rfl, HB2.out⟩
          · have HNX : Hid (UpA vs (k + 1 + 1)) := up_next HU.out hx hq (fun z hz _ => by rw [show k + 1 - 1 = k from rfl, hy] at hz; cases hz; exact hq2)
            rw [← ByteArray.toList_eq, ← ByteArray.toList_eq] at hq2
            clear hq hx hy
            generalize x.n = xn at *
            generalize x.v = xv at *
            generalize y.n = yn at *
            generalize y.v = yv at *
            go_wp2_with fail
            refine wp_region_noPanic ?_
            refine wp_region_held_drew (S := fun W' => W'.cell? ⟨wr.heap.size, 0, none⟩ = some (.string xn) ∧ W'.cell? ⟨b, o + k * 2, none⟩ = some (.string yn)) (by kernel_rfl) (⟨by simp, alloc_same _ () d0⟩) (fun hHeld => ?_)
            refine wpAnyH_take (i := 0) (v := ?_) rfl (by kernel_rfl) (by kernel_rfl) (by kernel_rfl) (fun _ _ _ h => h) ?_ hHeld ?_; rotate_left; · (simp only [List.getElem_toArray, List.getElem_cons_zero]; refine Or.inl ⟨by rfl, ?_⟩; intro w hSw; (try dsimp only at hSw); obtain ⟨hSa, hSb⟩ := hSw; go_simp; try with_reducible rfl)
            try simp only [List.getElem_toArray, List.getElem_cons_zero, Act.put, List.setIfInBounds_toArray, List.set_cons_zero, List.set_cons_succ]
            refine wpAnyH_take (i := 1) (v := ?_) rfl (by kernel_rfl) (by kernel_rfl) (by kernel_rfl) (fun _ _ _ h => h) ?_ hHeld ?_; rotate_left; · (simp only [List.getElem_toArray, List.getElem_cons_succ, List.getElem_cons_zero]; refine Or.inl ⟨by rfl, ?_⟩; intro w hSw; (try dsimp only at hSw); obtain ⟨hSa, hSb⟩ := hSw; go_simp; try with_reducible rfl)
            try simp only [List.getElem_toArray, List.getElem_cons_succ, List.getElem_cons_zero, Act.put, List.setIfInBounds_toArray, List.set_cons_zero, List.set_cons_succ]
            refine wpAnyH_ready (rs := [2]) (by kernel_rfl) (by simp) ?_
            refine AllReadyH.cons rfl (fun K hK => ?_) AllReadyH.nil
            simp only [List.getElem_toArray, List.getElem_cons_succ, List.getElem_cons_zero]
            go_simp
            go_at_call 29; (with_reducible refine (kN _).mono ?_); rintro e w2 ⟨rfl, hb2⟩; obtain ⟨hbW, hcW, hoW⟩ := right_step HW.out hb2; have HB2 := Lib.hid hbW; clear hb2 hbW kN
            try dsimp only
            refine hK.out _ _ (⟨hcW, hoW _ _ d0⟩) (fun hNew => ?_)
            clear hK K hHeld
            have hHeld := hNew
            clear hNew
            try simp only [List.getElem_toArray, List.getElem_cons_succ, List.getElem_cons_zero, Act.put, List.setIfInBounds_toArray, List.set_cons_zero, List.set_cons_succ]
            refine wpAnyH_take (i := 3) (v := ?_) rfl (by kernel_rfl) (by kernel_rfl) (by kernel_rfl) (fun _ _ _ h => h) ?_ hHeld ?_; rotate_left; · (simp only [List.getElem_toArray, List.getElem_cons_succ, List.getElem_cons_zero]; refine Or.inl ⟨by rfl, ?_⟩; intro w hSw; (try dsimp only at hSw); obtain ⟨hSa, hSb⟩ := hSw; go_simp; try with_reducible rfl)
            try simp only [List.getElem_toArray, List.getElem_cons_succ, List.getElem_cons_zero, Act.put, List.setIfInBounds_toArray, List.set_cons_zero, List.set_cons_succ]
            refine wpAnyH_take (i := 4) (v := ?_) rfl (by kernel_rfl) (by kernel_rfl) (by kernel_rfl) (fun _ _ _ h => h) ?_ hHeld ?_; rotate_left; · (simp only [List.getElem_toArray, List.getElem_cons_succ, List.getElem_cons_zero]; refine Or.inl ⟨by rfl, ?_⟩; intro w hSw; (try dsimp only at hSw); obtain ⟨hSa, hSb⟩ := hSw; go_simp; try with_reducible rfl)
            try simp only [List.getElem_toArray, List.getElem_cons_succ, List.getElem_cons_zero, Act.put, List.setIfInBounds_toArray, List.set_cons_zero, List.set_cons_succ]
            refine wpAnyH_take (i := 5) (v := ?_) rfl (by kernel_rfl) (by kernel_rfl) (by kernel_rfl) (fun _ _ _ h => h) ?_ hHeld ?_; rotate_left; · (simp only [List.getElem_toArray, List.getElem_cons_succ, List.getElem_cons_zero]; refine Or.inl ⟨by rfl, ?_⟩; intro w hSw; (try dsimp only at hSw); obtain ⟨hSa, hSb⟩ := hSw; go_simp; try with_reducible rfl)
            try simp only [List.getElem_toArray, List.getElem_cons_succ, List.getElem_cons_zero, Act.put, List.setIfInBounds_toArray, List.set_cons_zero, List.set_cons_succ]
            refine wpAnyH_take (i := 6) (v := ?_) rfl (by kernel_rfl) (by kernel_rfl) (by kernel_rfl) (fun _ _ _ h => h) ?_ hHeld ?_; rotate_left; · (simp only [List.getElem_toArray, List.getElem_cons_succ, List.getElem_cons_zero]; refine Or.inl ⟨by rfl, ?_⟩; intro w hSw; (try dsimp only at hSw); obtain ⟨hSa, hSb⟩ := hSw; go_simp; try with_reducible rfl)
            try simp only [List.getElem_toArray, List.getElem_cons_succ, List.getElem_cons_zero, Act.put, List.setIfInBounds_toArray, List.set_cons_zero, List.set_cons_succ]
            refine wpAnyH_take (i := 7) (v := ?_) rfl (by kernel_rfl) (by kernel_rfl) (by kernel_rfl) (fun _ _ _ h => h) ?_ hHeld ?_; rotate_left; · (simp only [List.getElem_toArray, List.getElem_cons_succ, List.getElem_cons_zero]; refine Or.inl ⟨by rfl, ?_⟩; intro w hSw; (try dsimp only at hSw); obtain ⟨hSa, hSb⟩ := hSw; go_simp; try with_reducible rfl)
            try simp only [List.getElem_toArray, List.getElem_cons_succ, List.getElem_cons_zero, Act.put, List.setIfInBounds_toArray, List.set_cons_zero, List.set_cons_succ]
            refine wpAnyH_take (i := 8) (v := ?_) rfl (by kernel_rfl) (by kernel_rfl) (by kernel_rfl) (fun _ _ _ h => h) ?_ hHeld ?_; rotate_left; · (simp only [List.getElem_toArray, List.getElem_cons_succ, List.getElem_cons_zero]; refine Or.inl ⟨by rfl, ?_⟩; intro w hSw; (try dsimp only at hSw); obtain ⟨hSa, hSb⟩ := hSw; go_simp; try with_reducible rfl)
            try simp only [List.getElem_toArray, List.getElem_cons_succ, List.getElem_cons_zero, Act.put, List.setIfInBounds_toArray, List.set_cons_zero, List.set_cons_succ]
            refine wpAnyH_take (i := 9) (v := ?_) rfl (by kernel_rfl) (by kernel_rfl) (by kernel_rfl) (fun _ _ _ h => h) ?_ hHeld ?_; rotate_left; · (simp only [List.getElem_toArray, List.getElem_cons_succ, List.getElem_cons_zero]; refine Or.inl ⟨by rfl, ?_⟩; intro w hSw; (try dsimp only at hSw); obtain ⟨hSa, hSb⟩ := hSw; go_simp; try with_reducible rfl)
            try simp only [List.getElem_toArray, List.getElem_cons_succ, List.getElem_cons_zero, Act.put, List.setIfInBounds_toArray, List.set_cons_zero, List.set_cons_succ]
            refine wpAnyH_take (i := 10) (v := ?_) rfl (by kernel_rfl) (by kernel_rfl) (by kernel_rfl) (fun _ _ _ h => h) ?_ hHeld ?_; rotate_left; · (simp only [List.getElem_toArray, List.getElem_cons_succ, List.getElem_cons_zero]; refine Or.inl ⟨by rfl, ?_⟩; intro w hSw; (try dsimp only at hSw); obtain ⟨hSa, hSb⟩ := hSw; go_simp; try with_reducible rfl)
            try simp only [List.getElem_toArray, List.getElem_cons_succ, List.getElem_cons_zero, Act.put, List.setIfInBounds_toArray, List.set_cons_zero, List.set_cons_succ]
            refine wpAnyH_take (i := 11) (v := ?_) rfl (by kernel_rfl) (by kernel_rfl) (by kernel_rfl) (fun _ _ _ h => h) ?_ hHeld ?_; rotate_left; · (simp only [List.getElem_toArray, List.getElem_cons_succ, List.getElem_cons_zero]; refine Or.inl ⟨by rfl, ?_⟩; intro w hSw; (try dsimp only at hSw); obtain ⟨hSa, hSb⟩ := hSw; go_simp; try with_reducible rfl)
            try simp only [List.getElem_toArray, List.getElem_cons_succ, List.getElem_cons_zero, Act.put, List.setIfInBounds_toArray, List.set_cons_zero, List.set_cons_succ]
            refine wpAnyH_take (i := 12) (v := ?_) rfl (by kernel_rfl) (by kernel_rfl) (by kernel_rfl) (fun _ _ _ h => h) ?_ hHeld ?_; rotate_left; · (simp only [List.getElem_toArray, List.getElem_cons_succ, List.getElem_cons_zero]; refine Or.inl ⟨by rfl, ?_⟩; intro w hSw; (try dsimp only at hSw); obtain ⟨hSa, hSb⟩ := hSw; go_simp; try with_reducible rfl)
            try simp only [List.getElem_toArray, List.getElem_cons_succ, List.getElem_cons_zero, Act.put, List.setIfInBounds_toArray, List.set_cons_zero, List.set_cons_succ]
            refine wpAnyH_take (i := 13) (v := ?_) rfl (by kernel_rfl) (by kernel_rfl) (by kernel_rfl) (fun _ _ _ h => h) ?_ hHeld ?_; rotate_left; · (simp only [List.getElem_toArray, List.getElem_cons_succ, List.getElem_cons_zero]; refine Or.inl ⟨by rfl, ?_⟩; intro w hSw; (try dsimp only at hSw); obtain ⟨hSa, hSb⟩ := hSw; go_simp; try with_reducible rfl)
            try simp only [List.getElem_toArray, List.getElem_cons_succ, List.getElem_cons_zero, Act.put, List.setIfInBounds_toArray, List.set_cons_zero, List.set_cons_succ]
            refine wpAnyH_take (i := 14) (v := ?_) rfl (by kernel_rfl) (by kernel_rfl) (by kernel_rfl) (fun _ _ _ h => h) ?_ hHeld ?_; rotate_left; · (simp only [List.getElem_toArray, List.getElem_cons_succ, List.getElem_cons_zero]; refine Or.inl ⟨by rfl, ?_⟩; intro w hSw; (try dsimp only at hSw); obtain ⟨hSa, hSb⟩ := hSw; go_simp; try with_reducible rfl)
            try simp only [List.getElem_toArray, List.getElem_cons_succ, List.getElem_cons_zero, Act.put, List.setIfInBounds_toArray, List.set_cons_zero, List.set_cons_succ]
            refine wpAnyH_take (i := 15) (v := ?_) rfl (by kernel_rfl) (by kernel_rfl) (by kernel_rfl) (fun _ _ _ h => h) ?_ hHeld ?_; rotate_left; · (simp only [List.getElem_toArray, List.getElem_cons_succ, List.getElem_cons_zero]; refine Or.inl ⟨by rfl, ?_⟩; intro w hSw; (try dsimp only at hSw); obtain ⟨hSa, hSb⟩ := hSw; go_simp; try with_reducible rfl)
            try simp only [List.getElem_toArray, List.getElem_cons_succ, List.getElem_cons_zero, Act.put, List.setIfInBounds_toArray, List.set_cons_zero, List.set_cons_succ]
            refine wpAnyH_take (i := 16) (v := ?_) rfl (by kernel_rfl) (by kernel_rfl) (by kernel_rfl) (fun _ _ _ h => h) ?_ hHeld ?_; rotate_left; · (simp only [List.getElem_toArray, List.getElem_cons_succ, List.getElem_cons_zero]; refine Or.inl ⟨by rfl, ?_⟩; intro w hSw; (try dsimp only at hSw); obtain ⟨hSa, hSb⟩ := hSw; go_simp; try with_reducible rfl)
            try simp only [List.getElem_toArray, List.getElem_cons_succ, List.getElem_cons_zero, Act.put, List.setIfInBounds_toArray, List.set_cons_zero, List.set_cons_succ]
            refine wpAnyH_take (i := 17) (v := ?_) rfl (by kernel_rfl) (by kernel_rfl) (by kernel_rfl) (fun _ _ _ h => h) ?_ hHeld ?_; rotate_left; · (simp only [List.getElem_toArray, List.getElem_cons_succ, List.getElem_cons_zero]; refine Or.inl ⟨by rfl, ?_⟩; intro w hSw; (try dsimp only at hSw); obtain ⟨hSa, hSb⟩ := hSw; go_simp; try with_reducible rfl)
            try simp only [List.getElem_toArray, List.getElem_cons_succ, List.getElem_cons_zero, Act.put, List.setIfInBounds_toArray, List.set_cons_zero, List.set_cons_succ]
            refine wpAnyH_take (i := 18) (v := ?_) rfl (by kernel_rfl) (by kernel_rfl) (by kernel_rfl) (fun _ _ _ h => h) ?_ hHeld ?_; rotate_left; · (simp only [List.getElem_toArray, List.getElem_cons_succ, List.getElem_cons_zero]; refine Or.inl ⟨by rfl, ?_⟩; intro w hSw; (try dsimp only at hSw); obtain ⟨hSa, hSb⟩ := hSw; go_simp; try with_reducible rfl)
            try simp only [List.getElem_toArray, List.getElem_cons_succ, List.getElem_cons_zero, Act.put, List.setIfInBounds_toArray, List.set_cons_zero, List.set_cons_succ]
            refine wpAnyH_done (by kernel_rfl) ?_ _
            refine NoPanic.normal ?_
            go_wp2
            go_roundw
            case rel => exact ⟨k + 1 + 1, by go_num, by omega, HNX, HB2.out⟩
            case measure => simp [RowKit.intOf]; omega
    · have hkn : k = n := by omega
      have HR : Hid (R = true) := HUP.out (by rw [← HN.out, ← hkn]; exact HU.out)
      have hge : ¬ (k : Int) < (n : Int) := by omega
      clear hkn
      go_wp2
      go_ret
      exact ⟨by rw [HR.out]; rfl, HW.out⟩
end Go.Proofs.YtaaecgglocgcmaaDoor
namespace Go.Proofs.YtaaecgglocgcmaaDoor
open Go.RowKit Go.Lib

set_option maxHeartbeats 2000000 in
set_option maxRecDepth 20000 in
theorem vars_many (w : World) (ao : Option Addr) (N cap : Nat) (s t : ByteArray) (h30 : 30 < N) (kS : ∀ w1, Below w.heap.size w w1 → Calls Tryd.prog 11 #[] w1 fun e w' => e = .returned (.bool true) ∧ Below w.heap.size w w') :
    Calls Tryd.prog 4 #[.slice ao N cap, .string s, .string t] w fun e w' => e = .returned (.bool true) ∧ Below w.heap.size w w' := by
  have hb0 : Below w.heap.size w w := Below.refl _ _
  have h30' : 30 < (N : Int) := by omega
  go_enter Tryd.func4, Tryd.ntmps4
  go_wp2_with (go_at_call 11; (with_reducible refine (kS _ hb0).mono ?_); rintro e w1 ⟨rfl, hb1⟩; have H1 := Lib.hid hb1; clear hb1 kS)
  go_ret
  exact ⟨rfl, H1.out⟩
set_option maxHeartbeats 2000000 in
set_option maxRecDepth 20000 in
theorem vars_long (w : World) (ao : Option Addr) (N cap : Nat) (s t : ByteArray) (h30 : N ≤ 30) (hs : s.size ≤ 140737488351232) (ht : t.size ≤ 140737488351232) (hst : ¬ s.size + t.size ≤ 200) (kS : ∀ w1, Below w.heap.size w w1 → Calls Tryd.prog 11 #[] w1 fun e w' => e = .returned (.bool true) ∧ Below w.heap.size w w') :
    Calls Tryd.prog 4 #[.slice ao N cap, .string s, .string t] w fun e w' => e = .returned (.bool true) ∧ Below w.heap.size w w' := by
  have hb0 : Below w.heap.size w w := Below.refl _ _
  have h30' : (N : Int) ≤ 30 := by omega
  have hT : 200 < ((s.size : Int) + (t.size : Int)) := by omega
  have hT2 : IntKind.i64.wrap ((s.size : Int) + (t.size : Int)) = (s.size : Int) + (t.size : Int) := IntWalk.i64_in _ (by omega)
  have hT3 : decide (200 < ((s.size : Int) + (t.size : Int))) = true := decide_eq_true hT
  clear hst
  go_enter Tryd.func4, Tryd.ntmps4
  go_wp2_with (go_at_call 11; (with_reducible refine (kS _ hb0).mono ?_); rintro e w1 ⟨rfl, hb1⟩; have H1 := Lib.hid hb1; clear hb1 kS)
  go_ret
  exact ⟨rfl, H1.out⟩
set_option maxHeartbeats 2000000 in
set_option maxRecDepth 20000 in
theorem vars_wrong (w : World) (ao : Option Addr) (N cap : Nat) (s t : ByteArray) (h30 : N ≤ 30) (hst : s.size + t.size ≤ 200) (kS : ∀ w1, Below w.heap.size w w1 → Calls Tryd.prog 11 #[] w1 fun e w' => e = .returned (.bool true) ∧ Below w.heap.size w w')
    (kR : ∀ w1, Below w.heap.size w w1 → Calls Tryd.prog 15 #[.slice ao N cap] w1 fun e w' => e = .returned (.bool false) ∧ Below w.heap.size w w')
    (kA : ∀ w1, Below w.heap.size w w1 → Calls Tryd.prog 16 #[.slice ao N cap] w1 fun e w' => e = .returned (.bool false) ∧ Below w.heap.size w w') :
    Calls Tryd.prog 4 #[.slice ao N cap, .string s, .string t] w fun e w' => e = .returned (.bool true) ∧ Below w.heap.size w w' := by
  have hb0 : Below w.heap.size w w := Below.refl _ _
  have h30' : (N : Int) ≤ 30 := by omega
  have hT : ¬ 200 < ((s.size : Int) + (t.size : Int)) := by omega
  have hT2 : IntKind.i64.wrap ((s.size : Int) + (t.size : Int)) = (s.size : Int) + (t.size : Int) := IntWalk.i64_in _ (by omega)
  have hT3 : decide (200 < ((s.size : Int) + (t.size : Int))) = false := decide_eq_false hT
  clear hst
  go_enter Tryd.func4, Tryd.ntmps4
  go_wp2_with (first
    | (go_at_call 11; (with_reducible refine (kS _ hb0).mono ?_); rintro e w1 ⟨rfl, hb1⟩; have H1 := Lib.hid hb1; clear hb1 kS)
    | (go_at_call 15; (with_reducible refine (kR _ H1.out).mono ?_); rintro e w2 ⟨rfl, hb2⟩; have H2 := Lib.hid hb2; clear hb2 kR)
    | (go_at_call 16; first
      | ((with_reducible refine (kA _ H2.out).mono ?_); rintro e w3 ⟨rfl, hb3⟩; have H3 := Lib.hid hb3; clear hb3 H2)
      | ((with_reducible refine (kA _ H3.out).mono ?_); rintro e w4 ⟨rfl, hb4⟩; have H4 := Lib.hid hb4; clear hb4)))
  go_ret
  exact ⟨rfl, H4.out⟩
set_option maxHeartbeats 4000000 in
set_option maxRecDepth 20000 in
theorem vars_right (w : World) (ao : Option Addr) (N cap : Nat) (s t : ByteArray) (F : Option ByteArray) (K : Value → World → Prop) (h30 : N ≤ 30) (hst : s.size + t.size ≤ 200) (kS : ∀ w1, Below w.heap.size w w1 → Calls Tryd.prog 11 #[] w1 fun e w' => e = .returned (.bool true) ∧ Below w.heap.size w w')
    (kR : ∀ w1, Below w.heap.size w w1 → Calls Tryd.prog 15 #[.slice ao N cap] w1 fun e w' => e = .returned (.bool true) ∧ Below w.heap.size w w')
    (kA : ∀ w1, Below w.heap.size w w1 → Calls Tryd.prog 16 #[.slice ao N cap] w1 fun e w' => e = .returned (.bool true) ∧ Below w.heap.size w w')
    (kD : ∀ w1, Below w.heap.size w w1 → Calls Tryd.prog 17 #[.slice ao N cap, .string s] w1 fun e w' => e = foundE F ∧ Below w.heap.size w w')
    (kE : ∀ w1, Below w.heap.size w w1 → Calls Tryd.prog 18 #[.slice ao N cap, .string s] w1 fun e w' => e = foundE F ∧ Below w.heap.size w w')
    (kP : ∀ w1, Below w.heap.size w w1 → Calls Tryd.prog 20 #[.slice ao N cap, .string s, .string t] w1 fun e w' => (∃ a n c, e = .returned (.slice a n c) ∧ K (.slice a n c) w') ∧ Below w.heap.size w w')
    (kQ : ∀ v w1, Below w.heap.size w w1 → K v w1 → Calls Tryd.prog 21 #[.slice ao N cap, .string s, .string t] w1 fun e w' => (∃ a n c, e = .returned (.slice a n c) ∧ K (.slice a n c) w') ∧ Below w.heap.size w w' ∧ K v w')
    (kT : ∀ u v w1, Below w.heap.size w w1 → K u w1 → K v w1 → Calls Tryd.prog 19 #[u, v] w1 fun e w' => e = .returned (.bool true) ∧ Below w.heap.size w w') :
    Calls Tryd.prog 4 #[.slice ao N cap, .string s, .string t] w fun e w' => e = .returned (.bool true) ∧ Below w.heap.size w w' := by
  have hb0 : Below w.heap.size w w := Below.refl _ _
  have h30' : (N : Int) ≤ 30 := by omega
  have hT : ¬ 200 < ((s.size : Int) + (t.size : Int)) := by omega
  have hT2 : IntKind.i64.wrap ((s.size : Int) + (t.size : Int)) = (s.size : Int) + (t.size : Int) := IntWalk.i64_in _ (by omega)
  have hT3 : decide (200 < ((s.size : Int) + (t.size : Int))) = false := decide_eq_false hT
  have KS := Lib.hid kS
  have KR := Lib.hid kR
  have KA := Lib.hid kA
  have KP := Lib.hid kP
  have KQ := Lib.hid kQ
  have KT := Lib.hid kT
  clear hst kS kR kA kP kQ kT
  cases F
  all_goals
    unfold foundE at kD kE
    have KD := Lib.hid kD
    have KE := Lib.hid kE
    clear kD kE
    go_enter Tryd.func4, Tryd.ntmps4
    go_wp2_with (first
      | (go_at_call 11; (with_reducible refine (KS.out _ hb0).mono ?_); rintro e w1 ⟨rfl, hb1⟩; have H1 := Lib.hid hb1; clear hb1)
      | (go_at_call 15; (with_reducible refine (KR.out _ H1.out).mono ?_); rintro e w2 ⟨rfl, hb2⟩; have H2 := Lib.hid hb2; clear hb2)
      | (go_at_call 16; (with_reducible refine (KA.out _ H2.out).mono ?_); rintro e w3 ⟨rfl, hb3⟩; have H3 := Lib.hid hb3; clear hb3)
      | (go_at_call 17; (with_reducible refine (KD.out _ H3.out).mono ?_); rintro e w4 ⟨rfl, hb4⟩; have H4 := Lib.hid hb4; clear hb4)
      | (go_at_call 18; (with_reducible refine (KE.out _ H4.out).mono ?_); rintro e w5 ⟨rfl, hb5⟩; have H5 := Lib.hid hb5; clear hb5)
      | (go_at_call 20; (with_reducible refine (KP.out _ H5.out).mono ?_); rintro e w6 ⟨⟨a6, n6, c6, rfl, hk6⟩, hb6⟩; have H6 := Lib.hid hb6; have G6 := Lib.hid hk6; clear hb6 hk6)
      | (go_at_call 21; (with_reducible refine (KQ.out _ _ H6.out G6.out).mono ?_); rintro e w7 ⟨⟨a7, n7, c7, rfl, hk7⟩, hb7, hj7⟩; have H7 := Lib.hid hb7; have G7 := Lib.hid hk7; have J7 := Lib.hid hj7; clear hb7 hk7 hj7)
      | (go_at_call 19; (with_reducible refine (KT.out _ _ _ H7.out J7.out G7.out).mono ?_); rintro e w8 ⟨rfl, hb8⟩; have H8 := Lib.hid hb8; clear hb8))
    go_ret
    exact ⟨rfl, H8.out⟩
/-- The statement's function, at every input. -/
theorem arithVars_walk (w : World) (ao : Option Addr) (cap : Nat) (vs : List Vr) (hV : Vars w.heap.size (.slice ao vs.length cap) vs w) (hno : vs.length ≤ 4398046511000 ∧ (ao = none → cap = 0)) (hsz : ∀ x ∈ vs, x.n.size ≤ 140737488351232 ∧ x.v.size ≤ 140737488351232) (s : ByteArray) (hs : s.size ≤ 140737488351232) (t : ByteArray) (ht : t.size ≤ 140737488351232) (hM : Marks w.heap.size w) :
    Calls Tryd.prog 4 #[.slice ao vs.length cap, .string s, .string t] w fun e w' => e = .returned (.bool true) ∧ Below w.heap.size w w' := by
  have kS : ∀ w1, Below w.heap.size w w1 → Calls Tryd.prog 11 #[] w1 fun e w' => e = .returned (.bool true) ∧ Below w.heap.size w w' := fun w1 hb =>
    (shownA_any w1 ((hM.below hb).mono hb.size)).mono fun e w' ⟨he, hb2⟩ => ⟨he, hb.trans (hb2.mono hb.size)⟩
  by_cases h30 : vs.length ≤ 30
  · by_cases hst : s.size + t.size ≤ 200
    · have kR : ∀ w1, Below w.heap.size w w1 → Calls Tryd.prog 15 #[.slice ao vs.length cap] w1 fun e w' => e = .returned (.bool (rightA vs)) ∧ Below w.heap.size w w' := fun w1 hb =>
        (refRightW_any _ vs w1 ((hV.below hb).mono hb.size) (fun x hx => (hsz x hx).1)).mono fun e w' ⟨he, hb2⟩ => ⟨he, hb.trans (hb2.mono hb.size)⟩
      have kA : ∀ w1, Below w.heap.size w w1 → Calls Tryd.prog 16 #[.slice ao vs.length cap] w1 fun e w' => e = .returned (.bool (rightA vs)) ∧ Below w.heap.size w w' := fun w1 hb =>
        (rightArith_any _ vs w1 ((hV.below hb).mono hb.size) (fun x hx => (hsz x hx).1)).mono fun e w' ⟨he, hb2⟩ => ⟨he, hb.trans (hb2.mono hb.size)⟩
      cases hri : rightA vs
      · rw [hri] at kR kA
        exact vars_wrong w ao _ cap s t h30 hst kS kR kA
      · rw [hri] at kR kA
        have hrr := (right_name hri).2
        refine vars_right w ao _ cap s t (findA vs s.data.toList) (fun v w1 => Vars w1.heap.size v (insA vs ⟨s, t⟩) w1) h30 hst kS kR kA (fun w1 hb => ?_) (fun w1 hb => ?_) (fun w1 hb => ?_) (fun v w1 hb hv => ?_) (fun u v w1 hb hu hv => ?_)
        · exact (findA_any _ vs s w1 ((hV.below hb).mono hb.size) hrr).mono fun e w' ⟨he, hb2⟩ => ⟨he, hb.trans (hb2.mono hb.size)⟩
        · exact (refFindA_any _ vs s w1 ((hV.below hb).mono hb.size)).mono fun e w' ⟨he, hw⟩ => ⟨he, hw ▸ hb⟩
        · refine (setA_any ao cap vs ⟨s, t⟩ w1 ((hV.below hb).mono hb.size) hrr hno.2 hno.1).mono fun e w' ⟨⟨u, he, hu⟩, hb2⟩ => ?_
          rw [set_ins] at hu
          obtain ⟨ao2, cap2, rfl, h2⟩ := id hu
          exact ⟨⟨ao2, _, cap2, he, hu⟩, hb.trans (hb2.mono hb.size)⟩
        · refine (refSetA_any ao cap vs ⟨s, t⟩ w1 ((hV.below hb).mono hb.size) h30).mono fun e w' ⟨⟨u, lo, he, hu, h1, h2, h3⟩, hb2⟩ => ?_
          rw [refSet_ins vs ⟨s, t⟩ lo hrr h1 h2 h3] at hu
          obtain ⟨ao2, cap2, rfl, h2⟩ := id hu
          exact ⟨⟨ao2, _, cap2, he, hu⟩, hb.trans (hb2.mono hb.size), (hv.below hb2).mono hb2.size⟩
        · exact (refSameA_any u v _ w1 hu hv).mono fun e w' ⟨he, hb2⟩ => ⟨he, hb.trans (hb2.mono hb.size)⟩
    · exact vars_long w ao _ cap s t h30 hs ht hst kS
  · exact vars_many w ao _ cap s t (by omega) kS
end Go.Proofs.YtaaecgglocgcmaaDoor
