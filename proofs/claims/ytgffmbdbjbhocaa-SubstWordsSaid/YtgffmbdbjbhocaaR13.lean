/- Packed texts: MaRead1, SuShown, SubstLengthsWalk. What each of them proves stands above its theorems; the conditions stand in these. -/
import Derived.Test.YtgffmbdbjbhocaaR10
import Derived.Test.YtgffmbdbjbhocaaR12
namespace Go.Proofs.Ytgffmbdbjbhocaa
open Go.RowKit Go.Lib

set_option maxHeartbeats 8000000 in
set_option maxRecDepth 20000 in
theorem atom_one (B pb : Nat) (c : UInt8) (s : ByteArray) (w : World) (hs : s = ⟨#[c]⟩) (h : Ps B pb s 0 [] w) (hx : c ≠ 40 ∧ c ≠ 46 ∧ c ≠ 94 ∧ c ≠ 36 ∧ c ≠ 91) (hy : (c.toNat : Int) ≠ 42 ∧ (c.toNat : Int) ≠ 43 ∧ (c.toNat : Int) ≠ 63 ∧ (c.toNat : Int) ≠ 41 ∧ (c.toNat : Int) ≠ 124 ∧ (c.toNat : Int) ≠ 123 ∧ (c.toNat : Int) ≠ 125 ∧ (c.toNat : Int) ≠ 47)
    (hsig : signD [c] = some ((c.toNat : Int), 1)) :
    Calls Try.prog 162 #[.pointer (some ⟨pb, 0, none⟩)] w fun e w' => e = .returned (.int .i64 0) ∧ Ps B pb s 1 [⟨1, k4 (oneK c.toNat), 0, 0⟩] w' ∧ Below B w w' := by
  have hl : s.data.toList = [c] := by rw [hs]
  have hz : s.size = 1 := by rw [hs]; rfl
  have no : ∀ (ch : UInt8), c ≠ ch → ¬ s.data.toList[0]? = some ch := fun ch hne he => by rw [hl] at he; exact hne (by simpa using he)
  have k40 := is_no B pb 0 s [] 40 40 rfl (no _ hx.1)
  have k46 := is_no B pb 0 s [] 46 46 rfl (no _ hx.2.1)
  have k94 := is_no B pb 0 s [] 94 94 rfl (no _ hx.2.2.1)
  have k36 := is_no B pb 0 s [] 36 36 rfl (no _ hx.2.2.2.1)
  have k91 := is_no B pb 0 s [] 91 91 rfl (no _ hx.2.2.2.2)
  obtain ⟨y1, y2, y3, y4, y5, y6, y7, y8⟩ := hy
  have f1 : ((c.toNat : Int) == 42) = false := beq_eq_false_iff_ne.2 y1
  have f2 : ((c.toNat : Int) == 43) = false := beq_eq_false_iff_ne.2 y2
  have f3 : ((c.toNat : Int) == 63) = false := beq_eq_false_iff_ne.2 y3
  have f4 : ((c.toNat : Int) == 41) = false := beq_eq_false_iff_ne.2 y4
  have f5 : ((c.toNat : Int) == 124) = false := beq_eq_false_iff_ne.2 y5
  have f6 : ((c.toNat : Int) == 123) = false := beq_eq_false_iff_ne.2 y6
  have f7 : ((c.toNat : Int) == 125) = false := beq_eq_false_iff_ne.2 y7
  have f8 : ((c.toNat : Int) == 47) = false := beq_eq_false_iff_ne.2 y8
  have hat : ∀ h : 0 < s.size, s[0] = c := fun h => by subst hs; rfl
  have hex : s.extract 0 1 = s := by subst hs; rfl
  have ks := fun w => refSign_any s w
  rw [hl, hsig] at ks
  have ko : ∀ w, Calls Try.prog 60 #[.int .u8 (c.toNat : Int)] w fun e w' => e = .returned (.agg #[.int .u64 ((k4 (oneK c.toNat)).a.toNat : Int), .int .u64 ((k4 (oneK c.toNat)).b.toNat : Int), .int .u64 ((k4 (oneK c.toNat)).c.toNat : Int), .int .u64 ((k4 (oneK c.toNat)).d.toNat : Int)]) ∧ Below w.heap.size w w' := fun w => refOne_any (c.toNat : Int) w (by omega) (by have := c.toNat_lt; omega)
  obtain ⟨K, hK⟩ : ∃ K, K = k4 (oneK c.toNat) := ⟨_, rfl⟩
  rw [← hK] at ko ⊢
  have kl := fun w h => lay_any B pb 1 s [] 1 0 0 K w h (by decide)
  unfold signE at ks
  have HP := Lib.hid h
  have HB := Lib.hid (Below.refl B w)
  have hs0 : (0 : Int) < (s.size : Int) := by omega
  have hs0' : 0 < s.size := by omega
  clear h hs no hx y1 y2 y3 y4 y5 y6 y7 y8 hl hsig hK
  have hat0 := hat hs0'
  go_enter Try.func162, Try.ntmps162
  go_wp2_with (first
    | (go_at_call 124; first
          | (with_reducible refine (k40 _ HP.out).mono ?_; rintro e w40 ⟨rfl, hb40⟩; replace HB := Lib.hid (HB.out.trans (hb40.mono HP.out.hB.2)); replace HP := Lib.hid (HP.out.below hb40); clear k40 hb40)
          | (with_reducible refine (k46 _ HP.out).mono ?_; rintro e w46 ⟨rfl, hb46⟩; replace HB := Lib.hid (HB.out.trans (hb46.mono HP.out.hB.2)); replace HP := Lib.hid (HP.out.below hb46); clear k46 hb46)
          | (with_reducible refine (k94 _ HP.out).mono ?_; rintro e w94 ⟨rfl, hb94⟩; replace HB := Lib.hid (HB.out.trans (hb94.mono HP.out.hB.2)); replace HP := Lib.hid (HP.out.below hb94); clear k94 hb94)
          | (with_reducible refine (k36 _ HP.out).mono ?_; rintro e w36 ⟨rfl, hb36⟩; replace HB := Lib.hid (HB.out.trans (hb36.mono HP.out.hB.2)); replace HP := Lib.hid (HP.out.below hb36); clear k36 hb36)
          | (with_reducible refine (k91 _ HP.out).mono ?_; rintro e w91 ⟨rfl, hb91⟩; replace HB := Lib.hid (HB.out.trans (hb91.mono HP.out.hB.2)); replace HP := Lib.hid (HP.out.below hb91); clear k91 hb91))
    | fail)
  obtain ⟨g0, g1, g4⟩ := HP.out.cells
  refine wp_region_held_drew (S := fun W' => W'.cell? ⟨pb, 0, none⟩ = some (.string s) ∧ W'.cell? ⟨pb, 1, none⟩ = some (.int .i64 ((0 : Nat) : Int))) (by kernel_rfl) ⟨g0, g1⟩ (fun hHeld => ?_)
  refine wpAnyH_take (i := 0) (v := ?_) rfl (by kernel_rfl) (by kernel_rfl) (by kernel_rfl) (fun _ _ _ h => h) ?_ hHeld ?_; rotate_left; · (simp only [List.getElem_toArray, List.getElem_cons_zero]; refine Or.inl ⟨by rfl, ?_⟩; intro w hSw; (try dsimp only at hSw); obtain ⟨s1, s2⟩ := hSw; go_simp; try with_reducible rfl)
  try simp only [List.getElem_toArray, List.getElem_cons_zero, Act.put, List.setIfInBounds_toArray, List.set_cons_zero, List.set_cons_succ]
  refine wpAnyH_take (i := 1) (v := ?_) rfl (by kernel_rfl) (by kernel_rfl) (by kernel_rfl) (fun _ _ _ h => h) ?_ hHeld ?_; rotate_left; · (simp only [List.getElem_toArray, List.getElem_cons_succ, List.getElem_cons_zero]; refine Or.inl ⟨by rfl, ?_⟩; intro w hSw; (try dsimp only at hSw); obtain ⟨s1, s2⟩ := hSw; go_simp; try with_reducible rfl)
  try simp only [List.getElem_toArray, List.getElem_cons_succ, List.getElem_cons_zero, Act.put, List.setIfInBounds_toArray, List.set_cons_zero, List.set_cons_succ]
  refine wpAnyH_take (i := 2) (v := ?_) rfl (by kernel_rfl) (by kernel_rfl) (by kernel_rfl) (fun _ _ _ h => h) ?_ hHeld ?_; rotate_left; · (simp only [List.getElem_toArray, List.getElem_cons_succ, List.getElem_cons_zero]; refine Or.inl ⟨by rfl, ?_⟩; intro w hSw; (try dsimp only at hSw); obtain ⟨s1, s2⟩ := hSw; go_simp; try with_reducible rfl)
  try simp only [List.getElem_toArray, List.getElem_cons_succ, List.getElem_cons_zero, Act.put, List.setIfInBounds_toArray, List.set_cons_zero, List.set_cons_succ]
  refine wpAnyH_take (i := 3) (v := ?_) rfl (by kernel_rfl) (by kernel_rfl) (by kernel_rfl) (fun _ _ _ h => h) ?_ hHeld ?_; rotate_left; · (simp only [List.getElem_toArray, List.getElem_cons_succ, List.getElem_cons_zero]; refine Or.inl ⟨by rfl, ?_⟩; intro w hSw; (try dsimp only at hSw); obtain ⟨s1, s2⟩ := hSw; go_simp; try with_reducible rfl)
  try simp only [List.getElem_toArray, List.getElem_cons_succ, List.getElem_cons_zero, Act.put, List.setIfInBounds_toArray, List.set_cons_zero, List.set_cons_succ]
  refine wpAnyH_take (i := 4) (v := ?_) rfl (by kernel_rfl) (by kernel_rfl) (by kernel_rfl) (fun _ _ _ h => h) ?_ hHeld ?_; rotate_left; · (simp only [List.getElem_toArray, List.getElem_cons_succ, List.getElem_cons_zero]; refine Or.inl ⟨by rfl, ?_⟩; intro w hSw; (try dsimp only at hSw); obtain ⟨s1, s2⟩ := hSw; go_simp; try with_reducible rfl)
  try simp only [List.getElem_toArray, List.getElem_cons_succ, List.getElem_cons_zero, Act.put, List.setIfInBounds_toArray, List.set_cons_zero, List.set_cons_succ]
  refine wpAnyH_take (i := 5) (v := ?_) rfl (by kernel_rfl) (by kernel_rfl) (by kernel_rfl) (fun _ _ _ h => h) ?_ hHeld ?_; rotate_left; · (simp only [List.getElem_toArray, List.getElem_cons_succ, List.getElem_cons_zero]; refine Or.inl ⟨by rfl, ?_⟩; intro w hSw; (try dsimp only at hSw); obtain ⟨s1, s2⟩ := hSw; go_simp; try with_reducible rfl)
  try simp only [List.getElem_toArray, List.getElem_cons_succ, List.getElem_cons_zero, Act.put, List.setIfInBounds_toArray, List.set_cons_zero, List.set_cons_succ]
  refine wpAnyH_take (i := 6) (v := ?_) rfl (by kernel_rfl) (by kernel_rfl) (by kernel_rfl) (fun _ _ _ h => h) ?_ hHeld ?_; rotate_left; · (simp only [List.getElem_toArray, List.getElem_cons_succ, List.getElem_cons_zero]; refine Or.inl ⟨by rfl, ?_⟩; intro w hSw; (try dsimp only at hSw); obtain ⟨s1, s2⟩ := hSw; go_simp; try with_reducible rfl)
  try simp only [List.getElem_toArray, List.getElem_cons_succ, List.getElem_cons_zero, Act.put, List.setIfInBounds_toArray, List.set_cons_zero, List.set_cons_succ]
  refine wpAnyH_take (i := 7) (v := ?_) rfl (by kernel_rfl) (by kernel_rfl) (by kernel_rfl) (fun _ _ _ h => h) ?_ hHeld ?_; rotate_left; · (simp only [List.getElem_toArray, List.getElem_cons_succ, List.getElem_cons_zero]; refine Or.inl ⟨by rfl, ?_⟩; intro w hSw; (try dsimp only at hSw); obtain ⟨s1, s2⟩ := hSw; go_simp; try with_reducible rfl)
  try simp only [List.getElem_toArray, List.getElem_cons_succ, List.getElem_cons_zero, Act.put, List.setIfInBounds_toArray, List.set_cons_zero, List.set_cons_succ]
  refine wpAnyH_take (i := 8) (v := ?_) rfl (by kernel_rfl) (by kernel_rfl) (by kernel_rfl) (fun _ _ _ h => h) ?_ hHeld ?_; rotate_left; · (simp only [List.getElem_toArray, List.getElem_cons_succ, List.getElem_cons_zero]; refine Or.inl ⟨by rfl, ?_⟩; intro w hSw; (try dsimp only at hSw); obtain ⟨s1, s2⟩ := hSw; go_simp; try with_reducible rfl)
  try simp only [List.getElem_toArray, List.getElem_cons_succ, List.getElem_cons_zero, Act.put, List.setIfInBounds_toArray, List.set_cons_zero, List.set_cons_succ]
  refine wpAnyH_take (i := 9) (v := ?_) rfl (by kernel_rfl) (by kernel_rfl) (by kernel_rfl) (fun _ _ _ h => h) ?_ hHeld ?_; rotate_left; · (simp only [List.getElem_toArray, List.getElem_cons_succ, List.getElem_cons_zero]; refine Or.inl ⟨by rfl, ?_⟩; intro w hSw; (try dsimp only at hSw); obtain ⟨s1, s2⟩ := hSw; go_simp; try with_reducible rfl)
  try simp only [List.getElem_toArray, List.getElem_cons_succ, List.getElem_cons_zero, Act.put, List.setIfInBounds_toArray, List.set_cons_zero, List.set_cons_succ]
  refine wpAnyH_done (by kernel_rfl) ?_ _
  have HP2 := Lib.hid (HP.out.below ((Below.refl _ w91).drew))
  have HB2 := Lib.hid (HB.out.trans ((Below.refl _ w91).drew.mono HP.out.hB.2))
  clear hHeld g0 g1 g4
  obtain ⟨V, hV⟩ : ∃ V, V = w91.drew := ⟨_, rfl⟩
  rw [← hV] at HP2 HB2 ⊢
  clear hV HP HB
  go_wp2_with fail
  obtain ⟨g0, g1, g4⟩ := HP2.out.cells
  refine wp_region_held_drew (S := fun W' => W'.cell? ⟨pb, 0, none⟩ = some (.string s) ∧ W'.cell? ⟨pb, 1, none⟩ = some (.int .i64 ((0 : Nat) : Int))) (by kernel_rfl) ⟨g0, g1⟩ (fun hHeld => ?_)
  refine wpAnyH_take (i := 0) (v := ?_) rfl (by kernel_rfl) (by kernel_rfl) (by kernel_rfl) (fun _ _ _ h => h) ?_ hHeld ?_; rotate_left; · (simp only [List.getElem_toArray, List.getElem_cons_zero]; refine Or.inl ⟨by rfl, ?_⟩; intro w hSw; (try dsimp only at hSw); obtain ⟨s1, s2⟩ := hSw; go_simp; try with_reducible rfl)
  try simp only [List.getElem_toArray, List.getElem_cons_zero, Act.put, List.setIfInBounds_toArray, List.set_cons_zero, List.set_cons_succ]
  refine wpAnyH_take (i := 1) (v := ?_) rfl (by kernel_rfl) (by kernel_rfl) (by kernel_rfl) (fun _ _ _ h => h) ?_ hHeld ?_; rotate_left; · (simp only [List.getElem_toArray, List.getElem_cons_succ, List.getElem_cons_zero]; refine Or.inl ⟨by rfl, ?_⟩; intro w hSw; (try dsimp only at hSw); obtain ⟨s1, s2⟩ := hSw; go_simp; try with_reducible rfl)
  try simp only [List.getElem_toArray, List.getElem_cons_succ, List.getElem_cons_zero, Act.put, List.setIfInBounds_toArray, List.set_cons_zero, List.set_cons_succ]
  refine wpAnyH_take (i := 2) (v := ?_) rfl (by kernel_rfl) (by kernel_rfl) (by kernel_rfl) (fun _ _ _ h => h) ?_ hHeld ?_; rotate_left; · (simp only [List.getElem_toArray, List.getElem_cons_succ, List.getElem_cons_zero]; refine Or.inl ⟨by rfl, ?_⟩; intro w hSw; (try dsimp only at hSw); obtain ⟨s1, s2⟩ := hSw; go_simp; try with_reducible rfl)
  try simp only [List.getElem_toArray, List.getElem_cons_succ, List.getElem_cons_zero, Act.put, List.setIfInBounds_toArray, List.set_cons_zero, List.set_cons_succ]
  refine wpAnyH_take (i := 3) (v := ?_) rfl (by kernel_rfl) (by kernel_rfl) (by kernel_rfl) (fun _ _ _ h => h) ?_ hHeld ?_; rotate_left; · (simp only [List.getElem_toArray, List.getElem_cons_succ, List.getElem_cons_zero]; refine Or.inl ⟨by rfl, ?_⟩; intro w hSw; (try dsimp only at hSw); obtain ⟨s1, s2⟩ := hSw; go_simp; try with_reducible rfl)
  try simp only [List.getElem_toArray, List.getElem_cons_succ, List.getElem_cons_zero, Act.put, List.setIfInBounds_toArray, List.set_cons_zero, List.set_cons_succ]
  refine wpAnyH_take (i := 4) (v := ?_) rfl (by kernel_rfl) (by kernel_rfl) (by kernel_rfl) (fun _ _ _ h => h) ?_ hHeld ?_; rotate_left; · (simp only [List.getElem_toArray, List.getElem_cons_succ, List.getElem_cons_zero]; refine Or.inl ⟨by rfl, ?_⟩; intro w hSw; (try dsimp only at hSw); obtain ⟨s1, s2⟩ := hSw; go_simp; try with_reducible rfl)
  try simp only [List.getElem_toArray, List.getElem_cons_succ, List.getElem_cons_zero, Act.put, List.setIfInBounds_toArray, List.set_cons_zero, List.set_cons_succ]
  refine wpAnyH_take (i := 5) (v := ?_) rfl (by kernel_rfl) (by kernel_rfl) (by kernel_rfl) (fun _ _ _ h => h) ?_ hHeld ?_; rotate_left; · (simp only [List.getElem_toArray, List.getElem_cons_succ, List.getElem_cons_zero]; refine Or.inl ⟨by rfl, ?_⟩; intro w hSw; (try dsimp only at hSw); obtain ⟨s1, s2⟩ := hSw; go_simp; try with_reducible rfl)
  try simp only [List.getElem_toArray, List.getElem_cons_succ, List.getElem_cons_zero, Act.put, List.setIfInBounds_toArray, List.set_cons_zero, List.set_cons_succ]
  refine wpAnyH_take (i := 6) (v := ?_) rfl (by kernel_rfl) (by kernel_rfl) (by kernel_rfl) (fun _ _ _ h => h) ?_ hHeld ?_; rotate_left; · (simp only [List.getElem_toArray, List.getElem_cons_succ, List.getElem_cons_zero]; refine Or.inl ⟨by rfl, ?_⟩; intro w hSw; (try dsimp only at hSw); obtain ⟨s1, s2⟩ := hSw; go_simp; try with_reducible rfl)
  try simp only [List.getElem_toArray, List.getElem_cons_succ, List.getElem_cons_zero, Act.put, List.setIfInBounds_toArray, List.set_cons_zero, List.set_cons_succ]
  refine wpAnyH_take (i := 7) (v := ?_) rfl (by kernel_rfl) (by kernel_rfl) (by kernel_rfl) (fun _ _ _ h => h) ?_ hHeld ?_; rotate_left; · (simp only [List.getElem_toArray, List.getElem_cons_succ, List.getElem_cons_zero]; refine Or.inl ⟨by rfl, ?_⟩; intro w hSw; (try dsimp only at hSw); obtain ⟨s1, s2⟩ := hSw; go_simp; try with_reducible rfl)
  try simp only [List.getElem_toArray, List.getElem_cons_succ, List.getElem_cons_zero, Act.put, List.setIfInBounds_toArray, List.set_cons_zero, List.set_cons_succ]
  refine wpAnyH_take (i := 8) (v := ?_) rfl (by kernel_rfl) (by kernel_rfl) (by kernel_rfl) (fun _ _ _ h => h) ?_ hHeld ?_; rotate_left; · (simp only [List.getElem_toArray, List.getElem_cons_succ, List.getElem_cons_zero]; refine Or.inl ⟨by rfl, ?_⟩; intro w hSw; (try dsimp only at hSw); obtain ⟨s1, s2⟩ := hSw; go_simp; try with_reducible rfl)
  try simp only [List.getElem_toArray, List.getElem_cons_succ, List.getElem_cons_zero, Act.put, List.setIfInBounds_toArray, List.set_cons_zero, List.set_cons_succ]
  refine wpAnyH_ready (rs := [9]) (by kernel_rfl) (by simp) ?_
  refine AllReadyH.cons rfl (fun K' hK => ?_) AllReadyH.nil
  simp only [List.getElem_toArray, List.getElem_cons_succ, List.getElem_cons_zero]
  rw [if_pos (by rfl)]
  go_simp
  (go_at_call 81; refine (ks _).mono ?_; rintro e w6 ⟨rfl, hb6⟩)
  have HP6 := Lib.hid ((HP2.out.below ((Below.refl _ V).drew)).below hb6)
  have HB6 := Lib.hid ((HB2.out.trans ((Below.refl _ V).drew.mono HP2.out.hB.2)).trans (hb6.mono (HP2.out.below ((Below.refl _ V).drew)).hB.2))
  obtain ⟨u0, u1, u4⟩ := HP6.out.cells
  refine hK.out _ _ ⟨u0, u1⟩ (fun hHeld2 => ?_)
  clear hK K' hHeld g0 g1 g4 hb6
  try simp only [List.getElem_toArray, List.getElem_cons_succ, List.getElem_cons_zero, Act.put, List.setIfInBounds_toArray, List.set_cons_zero, List.set_cons_succ]
  refine wpAnyH_take (i := 10) (v := ?_) rfl (by kernel_rfl) (by kernel_rfl) (by kernel_rfl) (fun _ _ _ h => h) ?_ hHeld2 ?_; rotate_left; · (simp only [List.getElem_toArray, List.getElem_cons_succ, List.getElem_cons_zero]; refine Or.inl ⟨by rfl, ?_⟩; intro w hSw; (try dsimp only at hSw); go_simp; try with_reducible rfl)
  try simp only [List.getElem_toArray, List.getElem_cons_succ, List.getElem_cons_zero, Act.put, List.setIfInBounds_toArray, List.set_cons_zero, List.set_cons_succ]
  refine wpAnyH_take (i := 11) (v := ?_) rfl (by kernel_rfl) (by kernel_rfl) (by kernel_rfl) (fun _ _ _ h => h) ?_ hHeld2 ?_; rotate_left; · (simp only [List.getElem_toArray, List.getElem_cons_succ, List.getElem_cons_zero]; refine Or.inl ⟨by rfl, ?_⟩; intro w hSw; (try dsimp only at hSw); go_simp; try with_reducible rfl)
  try simp only [List.getElem_toArray, List.getElem_cons_succ, List.getElem_cons_zero, Act.put, List.setIfInBounds_toArray, List.set_cons_zero, List.set_cons_succ]
  refine wpAnyH_take (i := 12) (v := ?_) rfl (by kernel_rfl) (by kernel_rfl) (by kernel_rfl) (fun _ _ _ h => h) ?_ hHeld2 ?_; rotate_left; · (simp only [List.getElem_toArray, List.getElem_cons_succ, List.getElem_cons_zero]; refine Or.inl ⟨by rfl, ?_⟩; intro w hSw; (try dsimp only at hSw); go_simp; try with_reducible rfl)
  try simp only [List.getElem_toArray, List.getElem_cons_succ, List.getElem_cons_zero, Act.put, List.setIfInBounds_toArray, List.set_cons_zero, List.set_cons_succ]
  refine wpAnyH_take (i := 13) (v := ?_) rfl (by kernel_rfl) (by kernel_rfl) (by kernel_rfl) (fun _ _ _ h => h) ?_ hHeld2 ?_; rotate_left; · (simp only [List.getElem_toArray, List.getElem_cons_succ, List.getElem_cons_zero]; refine Or.inl ⟨by rfl, ?_⟩; intro w hSw; (try dsimp only at hSw); go_simp; try with_reducible rfl)
  try simp only [List.getElem_toArray, List.getElem_cons_succ, List.getElem_cons_zero, Act.put, List.setIfInBounds_toArray, List.set_cons_zero, List.set_cons_succ]
  refine wpAnyH_take (i := 14) (v := ?_) rfl (by kernel_rfl) (by kernel_rfl) (by kernel_rfl) (fun _ _ _ h => h) ?_ hHeld2 ?_; rotate_left; · (simp only [List.getElem_toArray, List.getElem_cons_succ, List.getElem_cons_zero]; refine Or.inl ⟨by rfl, ?_⟩; intro w hSw; (try dsimp only at hSw); go_simp; try with_reducible rfl)
  try simp only [List.getElem_toArray, List.getElem_cons_succ, List.getElem_cons_zero, Act.put, List.setIfInBounds_toArray, List.set_cons_zero, List.set_cons_succ]
  refine wpAnyH_take (i := 15) (v := ?_) rfl (by kernel_rfl) (by kernel_rfl) (by kernel_rfl) (fun _ _ _ h => h) ?_ hHeld2 ?_; rotate_left; · (simp only [List.getElem_toArray, List.getElem_cons_succ, List.getElem_cons_zero]; refine Or.inl ⟨by rfl, ?_⟩; intro w hSw; (try dsimp only at hSw); go_simp; try with_reducible rfl)
  try simp only [List.getElem_toArray, List.getElem_cons_succ, List.getElem_cons_zero, Act.put, List.setIfInBounds_toArray, List.set_cons_zero, List.set_cons_succ]
  refine wpAnyH_take (i := 16) (v := ?_) rfl (by kernel_rfl) (by kernel_rfl) (by kernel_rfl) (fun _ _ _ h => h) ?_ hHeld2 ?_; rotate_left; · (simp only [List.getElem_toArray, List.getElem_cons_succ, List.getElem_cons_zero]; refine Or.inl ⟨by rfl, ?_⟩; intro w hSw; (try dsimp only at hSw); go_simp; try with_reducible rfl)
  try simp only [List.getElem_toArray, List.getElem_cons_succ, List.getElem_cons_zero, Act.put, List.setIfInBounds_toArray, List.set_cons_zero, List.set_cons_succ]
  refine wpAnyH_done (by kernel_rfl) ?_ _
  have fz := HP6.out.froz
  clear HP2 HB2 ks hHeld2
  go_wp2_with (first
    | (go_at_call 60; refine (ko _).mono ?_; rintro e w7 ⟨rfl, hb7⟩
       have HP7 := Lib.hid ((HP6.out.set 1).1.below hb7)
       have HB7 := Lib.hid ((HB6.out.trans (HP6.out.set 1).2).trans (hb7.mono (HP6.out.set 1).1.hB.2))
       clear ko hb7)
    | (go_at_call 125; refine (kl _ HP7.out).mono ?_; rintro e w8 ⟨rfl, hp8, hb8⟩)
    | fail)
  exact bodyPost_ret (results_tmp rfl _ _ _) rfl ⟨rfl, hp8, HB7.out.trans hb8⟩
set_option maxHeartbeats 8000000 in
set_option maxRecDepth 20000 in
theorem piece_one (B pb : Nat) (c : UInt8) (K : K4) (s : ByteArray) (w : World) (hs : s = ⟨#[c]⟩)
    (ka : Calls Try.prog 162 #[.pointer (some ⟨pb, 0, none⟩)] w fun e w' => e = .returned (.int .i64 0) ∧ Ps B pb s 1 [⟨1, K, 0, 0⟩] w' ∧ Below B w w') :
    Calls Try.prog 147 #[.pointer (some ⟨pb, 0, none⟩)] w fun e w' => e = .returned (.int .i64 0) ∧ Ps B pb s 1 [⟨1, K, 0, 0⟩] w' ∧ Below B w w' := by
  have hl : s.data.toList = [c] := by rw [hs]
  have no1 : ∀ (ch : UInt8), ¬ s.data.toList[1]? = some ch := fun ch he => by rw [hl] at he; simp at he
  have l42 := is_no B pb 1 s [⟨1, K, 0, 0⟩] 42 42 rfl (no1 _)
  have l43 := is_no B pb 1 s [⟨1, K, 0, 0⟩] 43 43 rfl (no1 _)
  have l63 := is_no B pb 1 s [⟨1, K, 0, 0⟩] 63 63 rfl (no1 _)
  clear hl no1 hs
  go_enter Try.func147, Try.ntmps147
  go_wp2_with (first
    | (go_at_call 162; refine ka.mono ?_; rintro e w0 ⟨rfl, hp0, hb0⟩; have HQ := Lib.hid hp0; have HB := Lib.hid hb0; clear hp0 hb0 ka)
    | fail)
  refine wp_loop_rounds 2 ?_
  rw [rounds_succ]
  go_wp2_with (first
    | (go_at_call 124; first
        | (with_reducible refine (l42 _ HQ.out).mono ?_; rintro e w1 ⟨rfl, hb1⟩; replace HB := Lib.hid (HB.out.trans (hb1.mono HQ.out.hB.2)); replace HQ := Lib.hid (HQ.out.below hb1); clear l42 hb1)
        | (with_reducible refine (l43 _ HQ.out).mono ?_; rintro e w1 ⟨rfl, hb1⟩; replace HB := Lib.hid (HB.out.trans (hb1.mono HQ.out.hB.2)); replace HQ := Lib.hid (HQ.out.below hb1); clear l43 hb1)
        | (with_reducible refine (l63 _ HQ.out).mono ?_; rintro e w1 ⟨rfl, hb1⟩; replace HB := Lib.hid (HB.out.trans (hb1.mono HQ.out.hB.2)); replace HQ := Lib.hid (HQ.out.below hb1); clear l63 hb1))
    | fail)
  rw [rounds_succ]
  go_wp2
  exact bodyPost_ret (results_tmp rfl _ _ _) rfl ⟨rfl, HQ.out, HB.out⟩
set_option maxHeartbeats 8000000 in
set_option maxRecDepth 20000 in
theorem row_one (B pb : Nat) (c : UInt8) (K : K4) (s : ByteArray) (w : World) (hs : s = ⟨#[c]⟩) (h : Ps B pb s 0 [] w) (h124 : c ≠ 124) (h41 : c ≠ 41)
    (kp : ∀ w, Ps B pb s 0 [] w → Calls Try.prog 147 #[.pointer (some ⟨pb, 0, none⟩)] w fun e w' => e = .returned (.int .i64 0) ∧ Ps B pb s 1 [⟨1, K, 0, 0⟩] w' ∧ Below B w w') :
    Calls Try.prog 123 #[.pointer (some ⟨pb, 0, none⟩)] w fun e w' => e = .returned (.int .i64 0) ∧ Ps B pb s 1 [⟨1, K, 0, 0⟩] w' ∧ Below B w w' := by
  have hl : s.data.toList = [c] := by rw [hs]
  have hz : s.size = 1 := by rw [hs]; rfl
  have no : ∀ (ch : UInt8), c ≠ ch → ¬ s.data.toList[0]? = some ch := fun ch hne he => by rw [hl] at he; exact hne (by simpa using he)
  have k124 := is_no B pb 0 s [] 124 124 rfl (no _ h124)
  have k41 := is_no B pb 0 s [] 41 41 rfl (no _ h41)
  have HP := Lib.hid h
  have HB := Lib.hid (Below.refl B w)
  clear h hs hl no h124 h41
  go_enter Try.func123, Try.ntmps123
  go_wp2_with fail
  obtain ⟨g0, g1, g4⟩ := HP.out.cells
  have HPd := Lib.hid (HP.out.below ((Below.refl _ w).drew))
  have HBd := Lib.hid (HB.out.trans ((Below.refl _ w).drew.mono HP.out.hB.2))
  refine wp_region_held_drew (S := fun W' => W'.cell? ⟨pb, 0, none⟩ = some (.string s) ∧ W'.cell? ⟨pb, 1, none⟩ = some (.int .i64 ((0 : Nat) : Int))) (by kernel_rfl) ⟨g0, g1⟩ (fun hHeld => ?_)
  refine wpAnyH_take (i := 0) (v := ?_) rfl (by kernel_rfl) (by kernel_rfl) (by kernel_rfl) (fun _ _ _ h => h) ?_ hHeld ?_; rotate_left; · (simp only [List.getElem_toArray, List.getElem_cons_zero]; refine Or.inl ⟨by rfl, ?_⟩; intro w hSw; (try dsimp only at hSw); obtain ⟨s1, s2⟩ := hSw; go_simp; try with_reducible rfl)
  try simp only [List.getElem_toArray, List.getElem_cons_zero, Act.put, List.setIfInBounds_toArray, List.set_cons_zero, List.set_cons_succ]
  refine wpAnyH_take (i := 1) (v := ?_) rfl (by kernel_rfl) (by kernel_rfl) (by kernel_rfl) (fun _ _ _ h => h) ?_ hHeld ?_; rotate_left; · (simp only [List.getElem_toArray, List.getElem_cons_succ, List.getElem_cons_zero]; refine Or.inl ⟨by rfl, ?_⟩; intro w hSw; (try dsimp only at hSw); obtain ⟨s1, s2⟩ := hSw; go_simp; try with_reducible rfl)
  try simp only [List.getElem_toArray, List.getElem_cons_succ, List.getElem_cons_zero, Act.put, List.setIfInBounds_toArray, List.set_cons_zero, List.set_cons_succ]
  refine wpAnyH_take (i := 2) (v := ?_) rfl (by kernel_rfl) (by kernel_rfl) (by kernel_rfl) (fun _ _ _ h => h) ?_ hHeld ?_; rotate_left; · (simp only [List.getElem_toArray, List.getElem_cons_succ, List.getElem_cons_zero]; refine Or.inl ⟨by rfl, ?_⟩; intro w hSw; (try dsimp only at hSw); obtain ⟨s1, s2⟩ := hSw; go_simp; try with_reducible rfl)
  try simp only [List.getElem_toArray, List.getElem_cons_succ, List.getElem_cons_zero, Act.put, List.setIfInBounds_toArray, List.set_cons_zero, List.set_cons_succ]
  refine wpAnyH_take (i := 3) (v := ?_) rfl (by kernel_rfl) (by kernel_rfl) (by kernel_rfl) (fun _ _ _ h => h) ?_ hHeld ?_; rotate_left; · (simp only [List.getElem_toArray, List.getElem_cons_succ, List.getElem_cons_zero]; refine Or.inl ⟨by rfl, ?_⟩; intro w hSw; (try dsimp only at hSw); obtain ⟨s1, s2⟩ := hSw; go_simp; try with_reducible rfl)
  try simp only [List.getElem_toArray, List.getElem_cons_succ, List.getElem_cons_zero, Act.put, List.setIfInBounds_toArray, List.set_cons_zero, List.set_cons_succ]
  refine wpAnyH_take (i := 4) (v := ?_) rfl (by kernel_rfl) (by kernel_rfl) (by kernel_rfl) (fun _ _ _ h => h) ?_ hHeld ?_; rotate_left; · (simp only [List.getElem_toArray, List.getElem_cons_succ, List.getElem_cons_zero]; refine Or.inl ⟨by rfl, ?_⟩; intro w hSw; (try dsimp only at hSw); obtain ⟨s1, s2⟩ := hSw; go_simp; try with_reducible rfl)
  try simp only [List.getElem_toArray, List.getElem_cons_succ, List.getElem_cons_zero, Act.put, List.setIfInBounds_toArray, List.set_cons_zero, List.set_cons_succ]
  refine wpAnyH_take (i := 5) (v := ?_) rfl (by kernel_rfl) (by kernel_rfl) (by kernel_rfl) (fun _ _ _ h => h) ?_ hHeld ?_; rotate_left; · (simp only [List.getElem_toArray, List.getElem_cons_succ, List.getElem_cons_zero]; refine Or.inl ⟨by rfl, ?_⟩; intro w hSw; (try dsimp only at hSw); obtain ⟨s1, s2⟩ := hSw; go_simp; try with_reducible rfl)
  try simp only [List.getElem_toArray, List.getElem_cons_succ, List.getElem_cons_zero, Act.put, List.setIfInBounds_toArray, List.set_cons_zero, List.set_cons_succ]
  refine wpAnyH_take (i := 6) (v := ?_) rfl (by kernel_rfl) (by kernel_rfl) (by kernel_rfl) (fun _ _ _ h => h) ?_ hHeld ?_; rotate_left; · (simp only [List.getElem_toArray, List.getElem_cons_succ, List.getElem_cons_zero]; refine Or.inl ⟨by rfl, ?_⟩; intro w hSw; (try dsimp only at hSw); obtain ⟨s1, s2⟩ := hSw; go_simp; try with_reducible rfl)
  try simp only [List.getElem_toArray, List.getElem_cons_succ, List.getElem_cons_zero, Act.put, List.setIfInBounds_toArray, List.set_cons_zero, List.set_cons_succ]
  refine wpAnyH_take (i := 7) (v := ?_) rfl (by kernel_rfl) (by kernel_rfl) (by kernel_rfl) (fun _ _ _ h => h) ?_ hHeld ?_; rotate_left; · (simp only [List.getElem_toArray, List.getElem_cons_succ, List.getElem_cons_zero]; refine Or.inl ⟨by rfl, ?_⟩; intro w hSw; (try dsimp only at hSw); obtain ⟨s1, s2⟩ := hSw; go_simp; try with_reducible rfl)
  try simp only [List.getElem_toArray, List.getElem_cons_succ, List.getElem_cons_zero, Act.put, List.setIfInBounds_toArray, List.set_cons_zero, List.set_cons_succ]
  refine wpAnyH_take (i := 8) (v := ?_) rfl (by kernel_rfl) (by kernel_rfl) (by kernel_rfl) (fun _ _ _ h => h) ?_ hHeld ?_; rotate_left; · (simp only [List.getElem_toArray, List.getElem_cons_succ, List.getElem_cons_zero]; refine Or.inl ⟨by rfl, ?_⟩; intro w hSw; (try dsimp only at hSw); obtain ⟨s1, s2⟩ := hSw; go_simp; try with_reducible rfl)
  try simp only [List.getElem_toArray, List.getElem_cons_succ, List.getElem_cons_zero, Act.put, List.setIfInBounds_toArray, List.set_cons_zero, List.set_cons_succ]
  refine wpAnyH_take (i := 9) (v := ?_) rfl (by kernel_rfl) (by kernel_rfl) (by kernel_rfl) (fun _ _ _ h => h) ?_ hHeld ?_; rotate_left; · (simp only [List.getElem_toArray, List.getElem_cons_succ, List.getElem_cons_zero]; refine Or.inl ⟨by rfl, ?_⟩; intro w hSw; (try dsimp only at hSw); obtain ⟨s1, s2⟩ := hSw; go_simp; try with_reducible rfl)
  try simp only [List.getElem_toArray, List.getElem_cons_succ, List.getElem_cons_zero, Act.put, List.setIfInBounds_toArray, List.set_cons_zero, List.set_cons_succ]
  refine wpAnyH_take (i := 10) (v := ?_) rfl (by kernel_rfl) (by kernel_rfl) (by kernel_rfl) (fun _ _ _ h => h) ?_ hHeld ?_; rotate_left; · (simp only [List.getElem_toArray, List.getElem_cons_succ, List.getElem_cons_zero]; refine Or.inl ⟨by rfl, ?_⟩; intro w hSw; (try dsimp only at hSw); obtain ⟨s1, s2⟩ := hSw; go_simp; try with_reducible rfl)
  try simp only [List.getElem_toArray, List.getElem_cons_succ, List.getElem_cons_zero, Act.put, List.setIfInBounds_toArray, List.set_cons_zero, List.set_cons_succ]
  refine wpAnyH_take (i := 11) (v := ?_) rfl (by kernel_rfl) (by kernel_rfl) (by kernel_rfl) (fun _ _ _ h => h) ?_ hHeld ?_; rotate_left; · (simp only [List.getElem_toArray, List.getElem_cons_succ, List.getElem_cons_zero]; refine Or.inl ⟨by rfl, ?_⟩; intro w hSw; (try dsimp only at hSw); obtain ⟨s1, s2⟩ := hSw; go_simp; try with_reducible rfl)
  try simp only [List.getElem_toArray, List.getElem_cons_succ, List.getElem_cons_zero, Act.put, List.setIfInBounds_toArray, List.set_cons_zero, List.set_cons_succ]
  refine wpAnyH_ready (rs := [12]) (by kernel_rfl) (by simp) ?_
  refine AllReadyH.cons rfl (fun K' hK => ?_) AllReadyH.nil
  simp only [List.getElem_toArray, List.getElem_cons_succ, List.getElem_cons_zero]
  rw [if_pos (by rfl)]
  go_simp
  (go_at_call 124; refine (k124 _ HPd.out).mono ?_; rintro e w1 ⟨rfl, hb1⟩)
  have HP1 := Lib.hid (HPd.out.below hb1)
  have HB1 := Lib.hid (HBd.out.trans (hb1.mono HPd.out.hB.2))
  refine hK.out _ _ ⟨HP1.out.cells.1, HP1.out.cells.2.1⟩ (fun hHeld2 => ?_)
  clear hHeld hK K'
  have hHeld := hHeld2
  clear hHeld2
  try simp only [List.getElem_toArray, List.getElem_cons_succ, List.getElem_cons_zero, Act.put, List.setIfInBounds_toArray, List.set_cons_zero, List.set_cons_succ]
  refine wpAnyH_take (i := 13) (v := ?_) rfl (by kernel_rfl) (by kernel_rfl) (by kernel_rfl) (fun _ _ _ h => h) ?_ hHeld ?_; rotate_left; · (simp only [List.getElem_toArray, List.getElem_cons_succ, List.getElem_cons_zero]; refine Or.inl ⟨by rfl, ?_⟩; intro w hSw; (try dsimp only at hSw); obtain ⟨s1, s2⟩ := hSw; go_simp; try with_reducible rfl)
  try simp only [List.getElem_toArray, List.getElem_cons_succ, List.getElem_cons_zero, Act.put, List.setIfInBounds_toArray, List.set_cons_zero, List.set_cons_succ]
  refine wpAnyH_take (i := 14) (v := ?_) rfl (by kernel_rfl) (by kernel_rfl) (by kernel_rfl) (fun _ _ _ h => h) ?_ hHeld ?_; rotate_left; · (simp only [List.getElem_toArray, List.getElem_cons_succ, List.getElem_cons_zero]; refine Or.inl ⟨by rfl, ?_⟩; intro w hSw; (try dsimp only at hSw); obtain ⟨s1, s2⟩ := hSw; go_simp; try with_reducible rfl)
  try simp only [List.getElem_toArray, List.getElem_cons_succ, List.getElem_cons_zero, Act.put, List.setIfInBounds_toArray, List.set_cons_zero, List.set_cons_succ]
  refine wpAnyH_take (i := 15) (v := ?_) rfl (by kernel_rfl) (by kernel_rfl) (by kernel_rfl) (fun _ _ _ h => h) ?_ hHeld ?_; rotate_left; · (simp only [List.getElem_toArray, List.getElem_cons_succ, List.getElem_cons_zero]; refine Or.inl ⟨by rfl, ?_⟩; intro w hSw; (try dsimp only at hSw); obtain ⟨s1, s2⟩ := hSw; go_simp; try with_reducible rfl)
  try simp only [List.getElem_toArray, List.getElem_cons_succ, List.getElem_cons_zero, Act.put, List.setIfInBounds_toArray, List.set_cons_zero, List.set_cons_succ]
  refine wpAnyH_ready (rs := [16]) (by kernel_rfl) (by simp) ?_
  refine AllReadyH.cons rfl (fun K' hK => ?_) AllReadyH.nil
  simp only [List.getElem_toArray, List.getElem_cons_succ, List.getElem_cons_zero]
  rw [if_pos (by rfl)]
  go_simp
  (go_at_call 124; refine (k41 _ HP1.out).mono ?_; rintro e w2 ⟨rfl, hb2⟩)
  have HP2 := Lib.hid (HP1.out.below hb2)
  have HB2 := Lib.hid (HB1.out.trans (hb2.mono HP1.out.hB.2))
  refine hK.out _ _ ⟨HP2.out.cells.1, HP2.out.cells.2.1⟩ (fun hHeld2 => ?_)
  clear hHeld hK K'
  have hHeld := hHeld2
  clear hHeld2
  try simp only [List.getElem_toArray, List.getElem_cons_succ, List.getElem_cons_zero, Act.put, List.setIfInBounds_toArray, List.set_cons_zero, List.set_cons_succ]
  refine wpAnyH_take (i := 17) (v := ?_) rfl (by kernel_rfl) (by kernel_rfl) (by kernel_rfl) (fun _ _ _ h => h) ?_ hHeld ?_; rotate_left; · (simp only [List.getElem_toArray, List.getElem_cons_succ, List.getElem_cons_zero]; refine Or.inl ⟨by rfl, ?_⟩; intro w hSw; (try dsimp only at hSw); obtain ⟨s1, s2⟩ := hSw; go_simp; try with_reducible rfl)
  try simp only [List.getElem_toArray, List.getElem_cons_succ, List.getElem_cons_zero, Act.put, List.setIfInBounds_toArray, List.set_cons_zero, List.set_cons_succ]
  refine wpAnyH_done (by kernel_rfl) ?_ _
  clear hHeld g0 g1 g4 k124 k41 hb1 hb2
  go_wp2_with (first
    | (go_at_call 147; refine (kp _ HP2.out).mono ?_; rintro e w3 ⟨rfl, hp3, hb3⟩
       have HP3 := Lib.hid hp3
       have HB3 := Lib.hid (HB2.out.trans hb3)
       clear kp hp3 hb3)
    | fail)
  refine wp_loop_rounds 1 ?_
  rw [rounds_succ]
  go_wp2_with fail
  obtain ⟨g0, g1, g4⟩ := HP3.out.cells
  refine wp_region_held_drew (S := fun W' => W'.cell? ⟨pb, 0, none⟩ = some (.string s) ∧ W'.cell? ⟨pb, 1, none⟩ = some (.int .i64 ((1 : Nat) : Int)) ∧ W'.cell? ⟨pb, 4, none⟩ = some (.int .i64 0)) (by kernel_rfl) ⟨g0, g1, g4⟩ (fun hHeld => ?_)
  refine wpAnyH_take (i := 0) (v := ?_) rfl (by kernel_rfl) (by kernel_rfl) (by kernel_rfl) (fun _ _ _ h => h) ?_ hHeld ?_; rotate_left; · (simp only [List.getElem_toArray, List.getElem_cons_zero]; refine Or.inl ⟨by rfl, ?_⟩; intro w hSw; (try dsimp only at hSw); obtain ⟨s1, s2, s3⟩ := hSw; go_simp; try with_reducible rfl)
  try simp only [List.getElem_toArray, List.getElem_cons_zero, Act.put, List.setIfInBounds_toArray, List.set_cons_zero, List.set_cons_succ]
  refine wpAnyH_take (i := 1) (v := ?_) rfl (by kernel_rfl) (by kernel_rfl) (by kernel_rfl) (fun _ _ _ h => h) ?_ hHeld ?_; rotate_left; · (simp only [List.getElem_toArray, List.getElem_cons_succ, List.getElem_cons_zero]; refine Or.inl ⟨by rfl, ?_⟩; intro w hSw; (try dsimp only at hSw); obtain ⟨s1, s2, s3⟩ := hSw; go_simp; try with_reducible rfl)
  try simp only [List.getElem_toArray, List.getElem_cons_succ, List.getElem_cons_zero, Act.put, List.setIfInBounds_toArray, List.set_cons_zero, List.set_cons_succ]
  refine wpAnyH_take (i := 2) (v := ?_) rfl (by kernel_rfl) (by kernel_rfl) (by kernel_rfl) (fun _ _ _ h => h) ?_ hHeld ?_; rotate_left; · (simp only [List.getElem_toArray, List.getElem_cons_succ, List.getElem_cons_zero]; refine Or.inl ⟨by rfl, ?_⟩; intro w hSw; (try dsimp only at hSw); obtain ⟨s1, s2, s3⟩ := hSw; go_simp; try with_reducible rfl)
  try simp only [List.getElem_toArray, List.getElem_cons_succ, List.getElem_cons_zero, Act.put, List.setIfInBounds_toArray, List.set_cons_zero, List.set_cons_succ]
  refine wpAnyH_take (i := 3) (v := ?_) rfl (by kernel_rfl) (by kernel_rfl) (by kernel_rfl) (fun _ _ _ h => h) ?_ hHeld ?_; rotate_left; · (simp only [List.getElem_toArray, List.getElem_cons_succ, List.getElem_cons_zero]; refine Or.inl ⟨by rfl, ?_⟩; intro w hSw; (try dsimp only at hSw); obtain ⟨s1, s2, s3⟩ := hSw; go_simp; try with_reducible rfl)
  try simp only [List.getElem_toArray, List.getElem_cons_succ, List.getElem_cons_zero, Act.put, List.setIfInBounds_toArray, List.set_cons_zero, List.set_cons_succ]
  refine wpAnyH_take (i := 4) (v := ?_) rfl (by kernel_rfl) (by kernel_rfl) (by kernel_rfl) (fun _ _ _ h => h) ?_ hHeld ?_; rotate_left; · (simp only [List.getElem_toArray, List.getElem_cons_succ, List.getElem_cons_zero]; refine Or.inl ⟨by rfl, ?_⟩; intro w hSw; (try dsimp only at hSw); obtain ⟨s1, s2, s3⟩ := hSw; go_simp; try with_reducible rfl)
  try simp only [List.getElem_toArray, List.getElem_cons_succ, List.getElem_cons_zero, Act.put, List.setIfInBounds_toArray, List.set_cons_zero, List.set_cons_succ]
  refine wpAnyH_take (i := 5) (v := ?_) rfl (by kernel_rfl) (by kernel_rfl) (by kernel_rfl) (fun _ _ _ h => h) ?_ hHeld ?_; rotate_left; · (simp only [List.getElem_toArray, List.getElem_cons_succ, List.getElem_cons_zero]; refine Or.inl ⟨by rfl, ?_⟩; intro w hSw; (try dsimp only at hSw); obtain ⟨s1, s2, s3⟩ := hSw; go_simp; try with_reducible rfl)
  try simp only [List.getElem_toArray, List.getElem_cons_succ, List.getElem_cons_zero, Act.put, List.setIfInBounds_toArray, List.set_cons_zero, List.set_cons_succ]
  refine wpAnyH_take (i := 6) (v := ?_) rfl (by kernel_rfl) (by kernel_rfl) (by kernel_rfl) (fun _ _ _ h => h) ?_ hHeld ?_; rotate_left; · (simp only [List.getElem_toArray, List.getElem_cons_succ, List.getElem_cons_zero]; refine Or.inl ⟨by rfl, ?_⟩; intro w hSw; (try dsimp only at hSw); obtain ⟨s1, s2, s3⟩ := hSw; go_simp; try with_reducible rfl)
  try simp only [List.getElem_toArray, List.getElem_cons_succ, List.getElem_cons_zero, Act.put, List.setIfInBounds_toArray, List.set_cons_zero, List.set_cons_succ]
  refine wpAnyH_take (i := 7) (v := ?_) rfl (by kernel_rfl) (by kernel_rfl) (by kernel_rfl) (fun _ _ _ h => h) ?_ hHeld ?_; rotate_left; · (simp only [List.getElem_toArray, List.getElem_cons_succ, List.getElem_cons_zero]; refine Or.inl ⟨by rfl, ?_⟩; intro w hSw; (try dsimp only at hSw); obtain ⟨s1, s2, s3⟩ := hSw; go_simp; try with_reducible rfl)
  try simp only [List.getElem_toArray, List.getElem_cons_succ, List.getElem_cons_zero, Act.put, List.setIfInBounds_toArray, List.set_cons_zero, List.set_cons_succ]
  refine wpAnyH_take (i := 8) (v := ?_) rfl (by kernel_rfl) (by kernel_rfl) (by kernel_rfl) (fun _ _ _ h => h) ?_ hHeld ?_; rotate_left; · (simp only [List.getElem_toArray, List.getElem_cons_succ, List.getElem_cons_zero]; refine Or.inl ⟨by rfl, ?_⟩; intro w hSw; (try dsimp only at hSw); obtain ⟨s1, s2, s3⟩ := hSw; go_simp; try with_reducible rfl)
  try simp only [List.getElem_toArray, List.getElem_cons_succ, List.getElem_cons_zero, Act.put, List.setIfInBounds_toArray, List.set_cons_zero, List.set_cons_succ]
  refine wpAnyH_take (i := 9) (v := ?_) rfl (by kernel_rfl) (by kernel_rfl) (by kernel_rfl) (fun _ _ _ h => h) ?_ hHeld ?_; rotate_left; · (simp only [List.getElem_toArray, List.getElem_cons_succ, List.getElem_cons_zero]; refine Or.inl ⟨by rfl, ?_⟩; intro w hSw; (try dsimp only at hSw); obtain ⟨s1, s2, s3⟩ := hSw; go_simp; try with_reducible rfl)
  try simp only [List.getElem_toArray, List.getElem_cons_succ, List.getElem_cons_zero, Act.put, List.setIfInBounds_toArray, List.set_cons_zero, List.set_cons_succ]
  refine wpAnyH_take (i := 10) (v := ?_) rfl (by kernel_rfl) (by kernel_rfl) (by kernel_rfl) (fun _ _ _ h => h) ?_ hHeld ?_; rotate_left; · (simp only [List.getElem_toArray, List.getElem_cons_succ, List.getElem_cons_zero]; refine Or.inl ⟨by rfl, ?_⟩; intro w hSw; (try dsimp only at hSw); obtain ⟨s1, s2, s3⟩ := hSw; go_simp; try with_reducible rfl)
  try simp only [List.getElem_toArray, List.getElem_cons_succ, List.getElem_cons_zero, Act.put, List.setIfInBounds_toArray, List.set_cons_zero, List.set_cons_succ]
  refine wpAnyH_take (i := 11) (v := ?_) rfl (by kernel_rfl) (by kernel_rfl) (by kernel_rfl) (fun _ _ _ h => h) ?_ hHeld ?_; rotate_left; · (simp only [List.getElem_toArray, List.getElem_cons_succ, List.getElem_cons_zero]; refine Or.inl ⟨by rfl, ?_⟩; intro w hSw; (try dsimp only at hSw); obtain ⟨s1, s2, s3⟩ := hSw; go_simp; try with_reducible rfl)
  try simp only [List.getElem_toArray, List.getElem_cons_succ, List.getElem_cons_zero, Act.put, List.setIfInBounds_toArray, List.set_cons_zero, List.set_cons_succ]
  refine wpAnyH_take (i := 12) (v := ?_) rfl (by kernel_rfl) (by kernel_rfl) (by kernel_rfl) (fun _ _ _ h => h) ?_ hHeld ?_; rotate_left; · (simp only [List.getElem_toArray, List.getElem_cons_succ, List.getElem_cons_zero]; refine Or.inl ⟨by rfl, ?_⟩; intro w hSw; (try dsimp only at hSw); obtain ⟨s1, s2, s3⟩ := hSw; go_simp; try with_reducible rfl)
  try simp only [List.getElem_toArray, List.getElem_cons_succ, List.getElem_cons_zero, Act.put, List.setIfInBounds_toArray, List.set_cons_zero, List.set_cons_succ]
  refine wpAnyH_take (i := 13) (v := ?_) rfl (by kernel_rfl) (by kernel_rfl) (by kernel_rfl) (fun _ _ _ h => h) ?_ hHeld ?_; rotate_left; · (simp only [List.getElem_toArray, List.getElem_cons_succ, List.getElem_cons_zero]; refine Or.inl ⟨by rfl, ?_⟩; intro w hSw; (try dsimp only at hSw); obtain ⟨s1, s2, s3⟩ := hSw; go_simp; try with_reducible rfl)
  try simp only [List.getElem_toArray, List.getElem_cons_succ, List.getElem_cons_zero, Act.put, List.setIfInBounds_toArray, List.set_cons_zero, List.set_cons_succ]
  refine wpAnyH_take (i := 14) (v := ?_) rfl (by kernel_rfl) (by kernel_rfl) (by kernel_rfl) (fun _ _ _ h => h) ?_ hHeld ?_; rotate_left; · (simp only [List.getElem_toArray, List.getElem_cons_succ, List.getElem_cons_zero]; refine Or.inl ⟨by rfl, ?_⟩; intro w hSw; (try dsimp only at hSw); obtain ⟨s1, s2, s3⟩ := hSw; go_simp; try with_reducible rfl)
  try simp only [List.getElem_toArray, List.getElem_cons_succ, List.getElem_cons_zero, Act.put, List.setIfInBounds_toArray, List.set_cons_zero, List.set_cons_succ]
  refine wpAnyH_take (i := 15) (v := ?_) rfl (by kernel_rfl) (by kernel_rfl) (by kernel_rfl) (fun _ _ _ h => h) ?_ hHeld ?_; rotate_left; · (simp only [List.getElem_toArray, List.getElem_cons_succ, List.getElem_cons_zero]; refine Or.inl ⟨by rfl, ?_⟩; intro w hSw; (try dsimp only at hSw); obtain ⟨s1, s2, s3⟩ := hSw; go_simp; try with_reducible rfl)
  try simp only [List.getElem_toArray, List.getElem_cons_succ, List.getElem_cons_zero, Act.put, List.setIfInBounds_toArray, List.set_cons_zero, List.set_cons_succ]
  refine wpAnyH_take (i := 16) (v := ?_) rfl (by kernel_rfl) (by kernel_rfl) (by kernel_rfl) (fun _ _ _ h => h) ?_ hHeld ?_; rotate_left; · (simp only [List.getElem_toArray, List.getElem_cons_succ, List.getElem_cons_zero]; refine Or.inl ⟨by rfl, ?_⟩; intro w hSw; (try dsimp only at hSw); obtain ⟨s1, s2, s3⟩ := hSw; go_simp; try with_reducible rfl)
  try simp only [List.getElem_toArray, List.getElem_cons_succ, List.getElem_cons_zero, Act.put, List.setIfInBounds_toArray, List.set_cons_zero, List.set_cons_succ]
  refine wpAnyH_take (i := 17) (v := ?_) rfl (by kernel_rfl) (by kernel_rfl) (by kernel_rfl) (fun _ _ _ h => h) ?_ hHeld ?_; rotate_left; · (simp only [List.getElem_toArray, List.getElem_cons_succ, List.getElem_cons_zero]; refine Or.inl ⟨by rfl, ?_⟩; intro w hSw; (try dsimp only at hSw); obtain ⟨s1, s2, s3⟩ := hSw; go_simp; try with_reducible rfl)
  try simp only [List.getElem_toArray, List.getElem_cons_succ, List.getElem_cons_zero, Act.put, List.setIfInBounds_toArray, List.set_cons_zero, List.set_cons_succ]
  refine wpAnyH_take (i := 18) (v := undef) rfl (by kernel_rfl) (by kernel_rfl) (by kernel_rfl) (fun _ _ _ h => h) ?_ hHeld ?_; · (simp only [List.getElem_toArray, List.getElem_cons_succ, List.getElem_cons_zero]; exact Or.inr ⟨by rfl, rfl⟩)
  try simp only [List.getElem_toArray, List.getElem_cons_succ, List.getElem_cons_zero, Act.put, List.setIfInBounds_toArray, List.set_cons_zero, List.set_cons_succ]
  refine wpAnyH_take (i := 19) (v := undef) rfl (by kernel_rfl) (by kernel_rfl) (by kernel_rfl) (fun _ _ _ h => h) ?_ hHeld ?_; · (simp only [List.getElem_toArray, List.getElem_cons_succ, List.getElem_cons_zero]; exact Or.inr ⟨by rfl, rfl⟩)
  try simp only [List.getElem_toArray, List.getElem_cons_succ, List.getElem_cons_zero, Act.put, List.setIfInBounds_toArray, List.set_cons_zero, List.set_cons_succ]
  refine wpAnyH_take (i := 20) (v := undef) rfl (by kernel_rfl) (by kernel_rfl) (by kernel_rfl) (fun _ _ _ h => h) ?_ hHeld ?_; · (simp only [List.getElem_toArray, List.getElem_cons_succ, List.getElem_cons_zero]; exact Or.inr ⟨by rfl, rfl⟩)
  try simp only [List.getElem_toArray, List.getElem_cons_succ, List.getElem_cons_zero, Act.put, List.setIfInBounds_toArray, List.set_cons_zero, List.set_cons_succ]
  refine wpAnyH_take (i := 21) (v := undef) rfl (by kernel_rfl) (by kernel_rfl) (by kernel_rfl) (fun _ _ _ h => h) ?_ hHeld ?_; · (simp only [List.getElem_toArray, List.getElem_cons_succ, List.getElem_cons_zero]; exact Or.inr ⟨by rfl, rfl⟩)
  try simp only [List.getElem_toArray, List.getElem_cons_succ, List.getElem_cons_zero, Act.put, List.setIfInBounds_toArray, List.set_cons_zero, List.set_cons_succ]
  refine wpAnyH_take (i := 22) (v := undef) rfl (by kernel_rfl) (by kernel_rfl) (by kernel_rfl) (fun _ _ _ h => h) ?_ hHeld ?_; · (simp only [List.getElem_toArray, List.getElem_cons_succ, List.getElem_cons_zero]; exact Or.inr ⟨by rfl, rfl⟩)
  try simp only [List.getElem_toArray, List.getElem_cons_succ, List.getElem_cons_zero, Act.put, List.setIfInBounds_toArray, List.set_cons_zero, List.set_cons_succ]
  refine wpAnyH_take (i := 23) (v := undef) rfl (by kernel_rfl) (by kernel_rfl) (by kernel_rfl) (fun _ _ _ h => h) ?_ hHeld ?_; · (simp only [List.getElem_toArray, List.getElem_cons_succ, List.getElem_cons_zero]; exact Or.inr ⟨by rfl, rfl⟩)
  try simp only [List.getElem_toArray, List.getElem_cons_succ, List.getElem_cons_zero, Act.put, List.setIfInBounds_toArray, List.set_cons_zero, List.set_cons_succ]
  refine wpAnyH_take (i := 24) (v := undef) rfl (by kernel_rfl) (by kernel_rfl) (by kernel_rfl) (fun _ _ _ h => h) ?_ hHeld ?_; · (simp only [List.getElem_toArray, List.getElem_cons_succ, List.getElem_cons_zero]; exact Or.inr ⟨by rfl, rfl⟩)
  try simp only [List.getElem_toArray, List.getElem_cons_succ, List.getElem_cons_zero, Act.put, List.setIfInBounds_toArray, List.set_cons_zero, List.set_cons_succ]
  refine wpAnyH_take (i := 25) (v := undef) rfl (by kernel_rfl) (by kernel_rfl) (by kernel_rfl) (fun _ _ _ h => h) ?_ hHeld ?_; · (simp only [List.getElem_toArray, List.getElem_cons_succ, List.getElem_cons_zero]; exact Or.inr ⟨by rfl, rfl⟩)
  try simp only [List.getElem_toArray, List.getElem_cons_succ, List.getElem_cons_zero, Act.put, List.setIfInBounds_toArray, List.set_cons_zero, List.set_cons_succ]
  refine wpAnyH_take (i := 26) (v := undef) rfl (by kernel_rfl) (by kernel_rfl) (by kernel_rfl) (fun _ _ _ h => h) ?_ hHeld ?_; · (simp only [List.getElem_toArray, List.getElem_cons_succ, List.getElem_cons_zero]; exact Or.inr ⟨by rfl, rfl⟩)
  try simp only [List.getElem_toArray, List.getElem_cons_succ, List.getElem_cons_zero, Act.put, List.setIfInBounds_toArray, List.set_cons_zero, List.set_cons_succ]
  refine wpAnyH_take (i := 27) (v := undef) rfl (by kernel_rfl) (by kernel_rfl) (by kernel_rfl) (fun _ _ _ h => h) ?_ hHeld ?_; · (simp only [List.getElem_toArray, List.getElem_cons_succ, List.getElem_cons_zero]; exact Or.inr ⟨by rfl, rfl⟩)
  try simp only [List.getElem_toArray, List.getElem_cons_succ, List.getElem_cons_zero, Act.put, List.setIfInBounds_toArray, List.set_cons_zero, List.set_cons_succ]
  refine wpAnyH_take (i := 28) (v := ?_) rfl (by kernel_rfl) (by kernel_rfl) (by kernel_rfl) (fun _ _ _ h => h) ?_ hHeld ?_; rotate_left; · (simp only [List.getElem_toArray, List.getElem_cons_succ, List.getElem_cons_zero]; refine Or.inl ⟨by rfl, ?_⟩; intro w hSw; (try dsimp only at hSw); obtain ⟨s1, s2, s3⟩ := hSw; go_simp; try with_reducible rfl)
  try simp only [List.getElem_toArray, List.getElem_cons_succ, List.getElem_cons_zero, Act.put, List.setIfInBounds_toArray, List.set_cons_zero, List.set_cons_succ]
  refine wpAnyH_take (i := 29) (v := ?_) rfl (by kernel_rfl) (by kernel_rfl) (by kernel_rfl) (fun _ _ _ h => h) ?_ hHeld ?_; rotate_left; · (simp only [List.getElem_toArray, List.getElem_cons_succ, List.getElem_cons_zero]; refine Or.inl ⟨by rfl, ?_⟩; intro w hSw; (try dsimp only at hSw); obtain ⟨s1, s2, s3⟩ := hSw; go_simp; try with_reducible rfl)
  try simp only [List.getElem_toArray, List.getElem_cons_succ, List.getElem_cons_zero, Act.put, List.setIfInBounds_toArray, List.set_cons_zero, List.set_cons_succ]
  refine wpAnyH_take (i := 30) (v := undef) rfl (by kernel_rfl) (by kernel_rfl) (by kernel_rfl) (fun _ _ _ h => h) ?_ hHeld ?_; · (simp only [List.getElem_toArray, List.getElem_cons_succ, List.getElem_cons_zero]; exact Or.inr ⟨by rfl, rfl⟩)
  try simp only [List.getElem_toArray, List.getElem_cons_succ, List.getElem_cons_zero, Act.put, List.setIfInBounds_toArray, List.set_cons_zero, List.set_cons_succ]
  refine wpAnyH_take (i := 31) (v := undef) rfl (by kernel_rfl) (by kernel_rfl) (by kernel_rfl) (fun _ _ _ h => h) ?_ hHeld ?_; · (simp only [List.getElem_toArray, List.getElem_cons_succ, List.getElem_cons_zero]; exact Or.inr ⟨by rfl, rfl⟩)
  try simp only [List.getElem_toArray, List.getElem_cons_succ, List.getElem_cons_zero, Act.put, List.setIfInBounds_toArray, List.set_cons_zero, List.set_cons_succ]
  refine wpAnyH_take (i := 32) (v := undef) rfl (by kernel_rfl) (by kernel_rfl) (by kernel_rfl) (fun _ _ _ h => h) ?_ hHeld ?_; · (simp only [List.getElem_toArray, List.getElem_cons_succ, List.getElem_cons_zero]; exact Or.inr ⟨by rfl, rfl⟩)
  try simp only [List.getElem_toArray, List.getElem_cons_succ, List.getElem_cons_zero, Act.put, List.setIfInBounds_toArray, List.set_cons_zero, List.set_cons_succ]
  refine wpAnyH_take (i := 33) (v := undef) rfl (by kernel_rfl) (by kernel_rfl) (by kernel_rfl) (fun _ _ _ h => h) ?_ hHeld ?_; · (simp only [List.getElem_toArray, List.getElem_cons_succ, List.getElem_cons_zero]; exact Or.inr ⟨by rfl, rfl⟩)
  try simp only [List.getElem_toArray, List.getElem_cons_succ, List.getElem_cons_zero, Act.put, List.setIfInBounds_toArray, List.set_cons_zero, List.set_cons_succ]
  refine wpAnyH_take (i := 34) (v := undef) rfl (by kernel_rfl) (by kernel_rfl) (by kernel_rfl) (fun _ _ _ h => h) ?_ hHeld ?_; · (simp only [List.getElem_toArray, List.getElem_cons_succ, List.getElem_cons_zero]; exact Or.inr ⟨by rfl, rfl⟩)
  try simp only [List.getElem_toArray, List.getElem_cons_succ, List.getElem_cons_zero, Act.put, List.setIfInBounds_toArray, List.set_cons_zero, List.set_cons_succ]
  refine wpAnyH_take (i := 35) (v := undef) rfl (by kernel_rfl) (by kernel_rfl) (by kernel_rfl) (fun _ _ _ h => h) ?_ hHeld ?_; · (simp only [List.getElem_toArray, List.getElem_cons_succ, List.getElem_cons_zero]; exact Or.inr ⟨by rfl, rfl⟩)
  try simp only [List.getElem_toArray, List.getElem_cons_succ, List.getElem_cons_zero, Act.put, List.setIfInBounds_toArray, List.set_cons_zero, List.set_cons_succ]
  refine wpAnyH_take (i := 36) (v := undef) rfl (by kernel_rfl) (by kernel_rfl) (by kernel_rfl) (fun _ _ _ h => h) ?_ hHeld ?_; · (simp only [List.getElem_toArray, List.getElem_cons_succ, List.getElem_cons_zero]; exact Or.inr ⟨by rfl, rfl⟩)
  try simp only [List.getElem_toArray, List.getElem_cons_succ, List.getElem_cons_zero, Act.put, List.setIfInBounds_toArray, List.set_cons_zero, List.set_cons_succ]
  refine wpAnyH_take (i := 37) (v := undef) rfl (by kernel_rfl) (by kernel_rfl) (by kernel_rfl) (fun _ _ _ h => h) ?_ hHeld ?_; · (simp only [List.getElem_toArray, List.getElem_cons_succ, List.getElem_cons_zero]; exact Or.inr ⟨by rfl, rfl⟩)
  try simp only [List.getElem_toArray, List.getElem_cons_succ, List.getElem_cons_zero, Act.put, List.setIfInBounds_toArray, List.set_cons_zero, List.set_cons_succ]
  refine wpAnyH_take (i := 38) (v := undef) rfl (by kernel_rfl) (by kernel_rfl) (by kernel_rfl) (fun _ _ _ h => h) ?_ hHeld ?_; · (simp only [List.getElem_toArray, List.getElem_cons_succ, List.getElem_cons_zero]; exact Or.inr ⟨by rfl, rfl⟩)
  try simp only [List.getElem_toArray, List.getElem_cons_succ, List.getElem_cons_zero, Act.put, List.setIfInBounds_toArray, List.set_cons_zero, List.set_cons_succ]
  refine wpAnyH_take (i := 39) (v := undef) rfl (by kernel_rfl) (by kernel_rfl) (by kernel_rfl) (fun _ _ _ h => h) ?_ hHeld ?_; · (simp only [List.getElem_toArray, List.getElem_cons_succ, List.getElem_cons_zero]; exact Or.inr ⟨by rfl, rfl⟩)
  try simp only [List.getElem_toArray, List.getElem_cons_succ, List.getElem_cons_zero, Act.put, List.setIfInBounds_toArray, List.set_cons_zero, List.set_cons_succ]
  refine wpAnyH_take (i := 40) (v := ?_) rfl (by kernel_rfl) (by kernel_rfl) (by kernel_rfl) (fun _ _ _ h => h) ?_ hHeld ?_; rotate_left; · (simp only [List.getElem_toArray, List.getElem_cons_succ, List.getElem_cons_zero]; refine Or.inl ⟨by rfl, ?_⟩; intro w hSw; (try dsimp only at hSw); obtain ⟨s1, s2, s3⟩ := hSw; go_simp; try with_reducible rfl)
  try simp only [List.getElem_toArray, List.getElem_cons_succ, List.getElem_cons_zero, Act.put, List.setIfInBounds_toArray, List.set_cons_zero, List.set_cons_succ]
  refine wpAnyH_done (by kernel_rfl) ?_ _
  have HP4 := Lib.hid (HP3.out.below ((Below.refl _ w3).drew))
  have HB4 := Lib.hid (HB3.out.trans ((Below.refl _ w3).drew.mono HP3.out.hB.2))
  clear hHeld g0 g1 g4
  go_wp2
  exact bodyPost_ret (results_tmp rfl _ _ _) rfl ⟨rfl, HP4.out, HB4.out⟩
set_option maxHeartbeats 4000000 in
set_option maxRecDepth 20000 in
theorem wholeRe_one (B pb : Nat) (c : UInt8) (ts : List Nd) (s : ByteArray) (w : World) (hs : s = ⟨#[c]⟩)
    (kr : Calls Try.prog 123 #[.pointer (some ⟨pb, 0, none⟩)] w fun e w' => e = .returned (.int .i64 0) ∧ Ps B pb s 1 ts w' ∧ Below B w w') :
    Calls Try.prog 97 #[.pointer (some ⟨pb, 0, none⟩)] w fun e w' => e = .returned (.int .i64 0) ∧ Ps B pb s 1 ts w' ∧ Below B w w' := by
  have hl : s.data.toList = [c] := by rw [hs]
  have k124 := is_no B pb 1 s ts 124 124 rfl (by rw [hl]; simp)
  clear hs hl
  go_enter Try.func97, Try.ntmps97
  go_wp2_with (first
    | (go_at_call 123; refine kr.mono ?_; rintro e w3 ⟨rfl, hp3, hb3⟩
       have HP3 := Lib.hid hp3
       have HB3 := Lib.hid hb3
       clear kr hp3 hb3)
    | fail)
  refine wp_loop_rounds 1 ?_
  rw [rounds_succ]
  go_wp2_with (first
    | (go_at_call 124; refine (k124 _ HP3.out).mono ?_; rintro e w4 ⟨rfl, hb4⟩)
    | fail)
  exact bodyPost_ret (results_tmp rfl _ _ _) rfl ⟨rfl, HP3.out.below hb4, HB3.out.trans (hb4.mono HP3.out.hB.2)⟩
set_option maxHeartbeats 4000000 in
set_option maxRecDepth 20000 in
theorem readRe_one (c : UInt8) (s : ByteArray) (w : World) (hs : s = ⟨#[c]⟩) (hx : c ≠ 40 ∧ c ≠ 46 ∧ c ≠ 94 ∧ c ≠ 36 ∧ c ≠ 91) (hy : (c.toNat : Int) ≠ 42 ∧ (c.toNat : Int) ≠ 43 ∧ (c.toNat : Int) ≠ 63 ∧ (c.toNat : Int) ≠ 41 ∧ (c.toNat : Int) ≠ 124 ∧ (c.toNat : Int) ≠ 123 ∧ (c.toNat : Int) ≠ 125 ∧ (c.toNat : Int) ≠ 47)
    (hsig : signD [c] = some ((c.toNat : Int), 1)) :
    Calls Try.prog 73 #[.string s] w fun e w' => ∃ v, e = .returned (.tuple #[v, .int .i64 0]) ∧ w'.ownsRow w.heap.size 56 7 v 1 (ndC [⟨1, k4 (oneK c.toNat), 0, 0⟩]) ∧ Below w.heap.size w w' := by
  have hz : s.size = 1 := by rw [hs]; rfl
  have h124 : c ≠ 124 := fun e => by rw [e] at hy; exact hy.2.2.2.2.1 rfl
  have h41 : c ≠ 41 := fun e => by rw [e] at hy; exact hy.2.2.2.1 rfl
  have hP : ∀ W, W = w.alloc (.cells #[.string s, .int .i64 0, .int .i64 0, .slice none 0 0, .int .i64 0] 129) → Ps w.heap.size w.heap.size s 0 [] W := fun W hW => by
    rw [hW]
    exact ⟨⟨_, heap_alloc_new w _, World.ownsRow_nil _ _ _ _⟩, ⟨Nat.le_refl _, by simp⟩, ⟨by decide, by omega⟩⟩
  have kw := fun W h => wholeRe_one w.heap.size w.heap.size c _ s W hs (row_one w.heap.size w.heap.size c (k4 (oneK c.toNat)) s W hs h h124 h41 (fun w1 h1 => piece_one w.heap.size w.heap.size c (k4 (oneK c.toNat)) s w1 hs (atom_one w.heap.size w.heap.size c s w1 hs h1 hx hy hsig)))
  have hb0 : Below w.heap.size w (w.alloc (.cells #[.string s, .int .i64 0, .int .i64 0, .slice none 0 0, .int .i64 0] 129)) := (Below.refl _ w).alloc (Nat.le_refl _) _
  have HB0 := Lib.hid hb0
  have HP0 := Lib.hid (hP _ rfl)
  clear hP hb0 hs hx hy hsig h124 h41
  go_enter Try.func73, Try.ntmps73
  go_wp2_with (first
    | (go_at_call 97; refine (kw _ HP0.out).mono ?_; rintro e w3 ⟨rfl, hp3, hb3⟩
       obtain ⟨v, hv, hown⟩ := hp3.blk
       obtain ⟨c0, c1, c2, c3, c4⟩ := five_cells hv
       have H3 := Lib.hid (And.intro hown (HB0.out.trans hb3))
       clear kw hp3 hb3 hv hown)
    | fail)
  exact bodyPost_ret (results_tmp2 rfl _ _ _) rfl ⟨_, rfl, H3.out.1, H3.out.2⟩
end Go.Proofs.Ytgffmbdbjbhocaa
namespace Go.Proofs.Ytgffmbdbjbhocaa
open Go.RowKit Go.Lib

theorem far_set (s : List UInt8) (k : K4) (p : Nat) : farG s (.set k) p = if inSet s k p = true then ((p + 1 : Nat) : Int) else -1 := by
  by_cases h : inSet s k p = true
  · rw [if_pos h]
    have := inSet_lt h
    exact farG_some (by omega) ⟨rfl, h⟩ fun a' h1 _ h2 => by
      have h2 : a' = p + 1 ∧ inSet s k p = true := h2
      omega
  · rw [if_neg h]
    exact farG_none fun a _ h2 => h h2.2
def tC : Tr := .set (k4 (oneK 97))
theorem spans_C : spansL [98, 97, 110, 97, 110, 97] tC 0 = [(1, 2), (3, 4), (5, 6)] := by
  have i : ∀ p c, ([98, 97, 110, 97, 110, 97] : List UInt8)[p]? = some c → inSet [98, 97, 110, 97, 110, 97] (k4 (oneK 97)) p = decide (c.toNat = 97) := fun p c h => inSet_one h
  have g0 : farG [98, 97, 110, 97, 110, 97] tC 0 = -1 := (far_set _ _ _).trans (by rw [i 0 98 rfl]; rfl)
  have g1 : farG [98, 97, 110, 97, 110, 97] tC 1 = ((2 : Nat) : Int) := (far_set _ _ _).trans (by rw [i 1 97 rfl]; rfl)
  have g2 : farG [98, 97, 110, 97, 110, 97] tC 2 = -1 := (far_set _ _ _).trans (by rw [i 2 110 rfl]; rfl)
  have g3 : farG [98, 97, 110, 97, 110, 97] tC 3 = ((4 : Nat) : Int) := (far_set _ _ _).trans (by rw [i 3 97 rfl]; rfl)
  have g4 : farG [98, 97, 110, 97, 110, 97] tC 4 = -1 := (far_set _ _ _).trans (by rw [i 4 110 rfl]; rfl)
  have g5 : farG [98, 97, 110, 97, 110, 97] tC 5 = ((6 : Nat) : Int) := (far_set _ _ _).trans (by rw [i 5 97 rfl]; rfl)
  have g6 : farG [98, 97, 110, 97, 110, 97] tC 6 = -1 := (far_set _ _ _).trans rfl
  show goL (farG [98, 97, 110, 97, 110, 97] tC) 6 16 0 (-1) = _
  rw [goL_skip (f := 15) (by omega) (.inl g0), goL_take (f := 14) (by omega) g1 (by omega), goL_skip (f := 13) (by omega) (.inl g2), goL_take (f := 12) (by omega) g3 (by omega), goL_skip (f := 11) (by omega) (.inl g4), goL_take (f := 10) (by omega) g5 (by omega), goL_skip (f := 9) (by omega) (.inl g6), goL_end (f := 8) (by omega)]
theorem read_C : readD' [91, 38, 93] = some [[91], [93]] := by decide +kernel
theorem all_C : allB ⟨#[98, 97, 110, 97, 110, 97]⟩ [⟨#[91]⟩, ⟨#[93]⟩] [(1, 2), (3, 4), (5, 6)] = ⟨#[98, 91, 97, 93, 110, 91, 97, 93, 110, 91, 97, 93]⟩ := by decide +kernel
theorem join_le (xs : List ByteArray) (sep : ByteArray) : (joinB xs sep).size ≤ (xs.map (·.size)).sum + xs.length * sep.size := by
  cases xs with
  | nil => exact Nat.zero_le _
  | cons y r =>
    rw [joinB_size, List.map_cons, Lib.join_length, List.length_map]
    have e : Lib.lens (y.data.toList :: r.map (·.data.toList)) = ((y :: r).map (·.size)).sum := by
      unfold Lib.lens
      rw [List.map_cons, List.map_map, List.map_cons]
      rfl
    rw [e, show sep.data.toList.length = sep.size from Array.length_toList, List.length_cons, Nat.mul_comm]
    have : r.length * sep.size ≤ (r.length + 1) * sep.size := Nat.mul_le_mul_right _ (by omega)
    omega
set_option maxHeartbeats 4000000 in
set_option maxRecDepth 20000 in
theorem shownS_any (w : World) : Calls Try.prog 37 #[] w fun e w' => e = .returned (.bool true) ∧ Below w.heap.size w w' := by
  have kA := fun w => readRe_one 97 ⟨#[97]⟩ w rfl (by decide) (by decide) rfl
  have kR := fun w => suRead_walk ⟨#[91, 38, 93]⟩ w (by decide)
  rw [show (⟨#[91, 38, 93]⟩ : ByteArray).data.toList = [91, 38, 93] from rfl, read_C] at kR
  unfold ReadA at kR
  have kS : ∀ (v : Value) (w : World), Lies v (tC.row 0) w → Calls Try.prog 29 #[v, .string ⟨#[98, 97, 110, 97, 110, 97]⟩] w fun e w' => ∃ v', e = .returned v' ∧ w'.ownsRow w.heap.size 41 2 v' 3 (pairC [(1, 2), (3, 4), (5, 6)]) ∧ Below w.heap.size w w' := fun v w h => by
    have hh := spans_any v tC (tC.row 0) ⟨#[98, 97, 110, 97, 110, 97]⟩ w rfl trivial (by decide) (by decide) h
    rw [show (⟨#[98, 97, 110, 97, 110, 97]⟩ : ByteArray).data.toList = [98, 97, 110, 97, 110, 97] from rfl, spans_C] at hh
    exact hh
  have hap : Apart [98, 97, 110, 97, 110, 97] tC 0 (-1) [(1, 2), (3, 4), (5, 6)] := by
    have h := goL_apart [98, 97, 110, 97, 110, 97] tC (2 * (6 + 1 - 0) + 2) 0 (-1)
    have e : goL (farG [98, 97, 110, 97, 110, 97] tC) ([98, 97, 110, 97, 110, 97] : List UInt8).length (2 * (6 + 1 - 0) + 2) 0 (-1) = [(1, 2), (3, 4), (5, 6)] := spans_C
    rw [e] at h
    exact h
  have kAll : ∀ (vt : Value) (al : Option Addr) (cl : Nat) (w : World), (∃ ao N cap, vt = .slice ao N cap) → Lies vt (tC.row 0) w → Strs (.slice al 2 cl) [⟨#[91]⟩, ⟨#[93]⟩] w → Calls Try.prog 49 #[vt, .string ⟨#[98, 97, 110, 97, 110, 97]⟩, .slice al 2 cl] w fun e w' => e = .returned (.tuple #[.string ⟨#[98, 91, 97, 93, 110, 91, 97, 93, 110, 91, 97, 93]⟩, .int .i64 3]) ∧ Below w.heap.size w w' := fun vt al cl w hvt hL hx => by
    have h := suAll_walk vt al 2 cl 3 0 (tC.row 0) tC [⟨#[91]⟩, ⟨#[93]⟩] [(1, 2), (3, 4), (5, 6)] ⟨#[98, 97, 110, 97, 110, 97]⟩ w hvt (by decide) rfl (by decide) hap hL hx (fun a b => by
      refine Nat.le_trans (join_le _ _) ?_
      have : (ByteArray.extract ⟨#[98, 97, 110, 97, 110, 97]⟩ a b).size ≤ 6 := by rw [ByteArray.size_extract]; show min b 6 - a ≤ 6; omega
      show 2 + 2 * _ ≤ _
      omega) (by rw [all_C]; decide) (fun w h => kS vt w h)
    rw [all_C] at h
    exact h
  have e1 : ((⟨#[98, 91, 97, 93, 110, 91, 97, 93, 110, 91, 97, 93]⟩ : ByteArray).toList == (⟨#[98, 91, 97, 93, 110, 91, 97, 93, 110, 91, 97, 93]⟩ : ByteArray).toList) = true := by simp
  clear hap kS
  go_enter Try.func37, Try.ntmps37
  go_wp2_with (first
    | (go_at_call 73; refine (kA _).mono ?_; rintro e w1 ⟨v1, rfl, ho1, hb1⟩
       obtain ⟨a1, c1, rfl⟩ := own_zeroB ho1
       have HA := Lib.hid (And.intro (owns_lies (ts := tC.row 0) ho1 rfl (by decide)) hb1); clear kA ho1 hb1)
    | (go_at_call 39; refine (kR _).mono ?_; rintro e w2 ⟨⟨v2, rfl, ho2⟩, hb2⟩
       obtain ⟨a2, c2, rfl⟩ := own_zeroB ho2
       have HB := Lib.hid (And.intro (strs_of_owns (xs := [⟨#[91]⟩, ⟨#[93]⟩]) ho2 rfl (by decide)) hb2); clear kR ho2 hb2)
    | (go_at_call 49; refine (kAll _ _ _ _ ⟨_, _, _, rfl⟩ (HA.out.1.below HB.out.2) HB.out.1).mono ?_; rintro e w3 ⟨rfl, hb3⟩; have H3 := Lib.hid hb3; clear kAll hb3)
    | fail)
  exact bodyPost_ret (results_tmp rfl _ _ _) rfl ⟨rfl, (HA.out.2.trans (HB.out.2.mono HA.out.2.size)).trans (H3.out.mono (Nat.le_trans HA.out.2.size HB.out.2.size))⟩
end Go.Proofs.Ytgffmbdbjbhocaa
namespace Go.Proofs.Ytgffmbdbjbhocaa
open Go.RowKit Go.Lib

theorem strs_one (w : World) (p : ByteArray) : Strs (.slice (some ⟨w.heap.size, 0, none⟩) 1 1) [p] (w.alloc (.cells #[.string p] 9)) := by
  refine ⟨_, _, rfl, Nat.le_refl _, by simp, fun j x hj => ⟨w.heap.size, 0, rfl, by simp, ?_⟩⟩
  have h := heap_alloc_new w (.cells #[.string p] 9)
  rw [cell_of_heap h, Nat.zero_add]
  match j, hj with
  | 0, hj => simp at hj; subst hj; rfl
end Go.Proofs.Ytgffmbdbjbhocaa
