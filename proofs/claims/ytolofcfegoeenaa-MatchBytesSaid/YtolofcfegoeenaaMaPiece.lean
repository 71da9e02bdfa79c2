/- The document's reader of expressions, on a plain byte with one sign behind it: all of it. No condition. -/
import Derived.Test.YtolofcfegoeenaaMaAtom
namespace Go.Proofs.Ytolofcfegoeenaa
open Go.RowKit Go.Lib

set_option maxHeartbeats 8000000 in
set_option maxRecDepth 20000 in
theorem piece_any (B pb : Nat) (c q : UInt8) (k : Int) (K : K4) (s : ByteArray) (w : World) (hs : s = ⟨#[c, q]⟩) (hq : (q = 42 ∧ k = 4) ∨ (q = 43 ∧ k = 5))
    (ka : Calls Try.prog 123 #[.pointer (some ⟨pb, 0, none⟩)] w fun e w' => e = .returned (.int .i64 0) ∧ Ps B pb s 1 [⟨1, K, 0, 0⟩] w' ∧ Below B w w') :
    Calls Try.prog 112 #[.pointer (some ⟨pb, 0, none⟩)] w fun e w' => e = .returned (.int .i64 1) ∧ Ps B pb s 2 [⟨1, K, 0, 0⟩, ⟨k, k0, 0, 0⟩] w' ∧ Below B w w' := by
  rcases hq with ⟨rfl, rfl⟩ | ⟨rfl, rfl⟩
  · have hl : s.data.toList = [c, 42] := by rw [hs]
    have no1 : ∀ (ch : UInt8), ch ≠ 42 → ¬ s.data.toList[1]? = some ch := fun ch hne he => by rw [hl] at he; exact hne (by simpa using he.symm)
    have no2 : ∀ (ch : UInt8), ¬ s.data.toList[2]? = some ch := fun ch he => by rw [hl] at he; simp at he
    have yes1 : s.data.toList[1]? = some 42 := by rw [hl]; rfl
    have k42 := is_yes B pb 1 s [⟨1, K, 0, 0⟩] 42 42 rfl yes1
    have k43 := is_no B pb 1 s [⟨1, K, 0, 0⟩] 43 43 rfl (no1 _ (by decide))
    have k63 := is_no B pb 1 s [⟨1, K, 0, 0⟩] 63 63 rfl (no1 _ (by decide))
    have l42 := is_no B pb 2 s [⟨1, K, 0, 0⟩, ⟨4, k0, 0, 0⟩] 42 42 rfl (no2 _)
    have l43 := is_no B pb 2 s [⟨1, K, 0, 0⟩, ⟨4, k0, 0, 0⟩] 43 43 rfl (no2 _)
    have l63 := is_no B pb 2 s [⟨1, K, 0, 0⟩, ⟨4, k0, 0, 0⟩] 63 63 rfl (no2 _)
    have kl := fun w h => lay_any B pb 2 s [⟨1, K, 0, 0⟩] 4 0 0 k0 w h (by simp)
    have z0 : ((k0.a).toNat : Int) = 0 := rfl
    unfold k0 at kl
    dsimp only at kl
    clear hl no1 no2 yes1 hs
    go_enter Try.func112, Try.ntmps112
    go_wp2_with (first
      | (go_at_call 123; refine ka.mono ?_; rintro e w0 ⟨rfl, hp0, hb0⟩; have HP := Lib.hid hp0; have HB := Lib.hid hb0; clear hp0 hb0 ka)
      | fail)
    refine wp_loop_rounds 3 ?_
    rw [rounds_succ]
    go_wp2_with (first
      | (go_at_call 95; first
          | (with_reducible refine (k42 _ HP.out).mono ?_; rintro e w1 ⟨rfl, hb1⟩; replace HB := Lib.hid (HB.out.trans (hb1.mono HP.out.hB.2)); replace HP := Lib.hid (HP.out.below hb1); clear k42 hb1)
          | (with_reducible refine (k43 _ HP.out).mono ?_; rintro e w1 ⟨rfl, hb1⟩; replace HB := Lib.hid (HB.out.trans (hb1.mono HP.out.hB.2)); replace HP := Lib.hid (HP.out.below hb1); clear k43 hb1)
          | (with_reducible refine (k63 _ HP.out).mono ?_; rintro e w1 ⟨rfl, hb1⟩; replace HB := Lib.hid (HB.out.trans (hb1.mono HP.out.hB.2)); replace HP := Lib.hid (HP.out.below hb1); clear k63 hb1; have c1 := HP.out.cells.2.1; have f1 := HP.out.froz))
      | (go_at_call 96; refine (kl _ (HP.out.set 2).1).mono ?_; rintro e w8 ⟨rfl, hp8, hb8⟩
         replace HB := Lib.hid ((HB.out.trans (HP.out.set 2).2).trans hb8)
         have HQ := Lib.hid (show Ps B pb s 2 [⟨1, K, 0, 0⟩, ⟨4, k0, 0, 0⟩] w8 from hp8)
         clear hp8 hb8 kl c1 f1)
      | fail)
    rw [rounds_succ]
    go_wp2_with (first
      | (go_at_call 95; first
          | (with_reducible refine (l42 _ HQ.out).mono ?_; rintro e w1 ⟨rfl, hb1⟩; replace HB := Lib.hid (HB.out.trans (hb1.mono HQ.out.hB.2)); replace HQ := Lib.hid (HQ.out.below hb1); clear l42 hb1)
          | (with_reducible refine (l43 _ HQ.out).mono ?_; rintro e w1 ⟨rfl, hb1⟩; replace HB := Lib.hid (HB.out.trans (hb1.mono HQ.out.hB.2)); replace HQ := Lib.hid (HQ.out.below hb1); clear l43 hb1)
          | (with_reducible refine (l63 _ HQ.out).mono ?_; rintro e w1 ⟨rfl, hb1⟩; replace HB := Lib.hid (HB.out.trans (hb1.mono HQ.out.hB.2)); replace HQ := Lib.hid (HQ.out.below hb1); clear l63 hb1))
      | fail)
    rw [rounds_succ]
    go_wp2
    exact bodyPost_ret (results_tmp rfl _ _ _) rfl ⟨rfl, HQ.out, HB.out⟩
  · have hl : s.data.toList = [c, 43] := by rw [hs]
    have no1 : ∀ (ch : UInt8), ch ≠ 43 → ¬ s.data.toList[1]? = some ch := fun ch hne he => by rw [hl] at he; exact hne (by simpa using he.symm)
    have no2 : ∀ (ch : UInt8), ¬ s.data.toList[2]? = some ch := fun ch he => by rw [hl] at he; simp at he
    have yes1 : s.data.toList[1]? = some 43 := by rw [hl]; rfl
    have k42 := is_no B pb 1 s [⟨1, K, 0, 0⟩] 42 42 rfl (no1 _ (by decide))
    have k43 := is_yes B pb 1 s [⟨1, K, 0, 0⟩] 43 43 rfl yes1
    have k63 := is_no B pb 1 s [⟨1, K, 0, 0⟩] 63 63 rfl (no1 _ (by decide))
    have l42 := is_no B pb 2 s [⟨1, K, 0, 0⟩, ⟨5, k0, 0, 0⟩] 42 42 rfl (no2 _)
    have l43 := is_no B pb 2 s [⟨1, K, 0, 0⟩, ⟨5, k0, 0, 0⟩] 43 43 rfl (no2 _)
    have l63 := is_no B pb 2 s [⟨1, K, 0, 0⟩, ⟨5, k0, 0, 0⟩] 63 63 rfl (no2 _)
    have kl := fun w h => lay_any B pb 2 s [⟨1, K, 0, 0⟩] 5 0 0 k0 w h (by simp)
    have z0 : ((k0.a).toNat : Int) = 0 := rfl
    unfold k0 at kl
    dsimp only at kl
    clear hl no1 no2 yes1 hs
    go_enter Try.func112, Try.ntmps112
    go_wp2_with (first
      | (go_at_call 123; refine ka.mono ?_; rintro e w0 ⟨rfl, hp0, hb0⟩; have HP := Lib.hid hp0; have HB := Lib.hid hb0; clear hp0 hb0 ka)
      | fail)
    refine wp_loop_rounds 3 ?_
    rw [rounds_succ]
    go_wp2_with (first
      | (go_at_call 95; first
          | (with_reducible refine (k42 _ HP.out).mono ?_; rintro e w1 ⟨rfl, hb1⟩; replace HB := Lib.hid (HB.out.trans (hb1.mono HP.out.hB.2)); replace HP := Lib.hid (HP.out.below hb1); clear k42 hb1)
          | (with_reducible refine (k43 _ HP.out).mono ?_; rintro e w1 ⟨rfl, hb1⟩; replace HB := Lib.hid (HB.out.trans (hb1.mono HP.out.hB.2)); replace HP := Lib.hid (HP.out.below hb1); clear k43 hb1)
          | (with_reducible refine (k63 _ HP.out).mono ?_; rintro e w1 ⟨rfl, hb1⟩; replace HB := Lib.hid (HB.out.trans (hb1.mono HP.out.hB.2)); replace HP := Lib.hid (HP.out.below hb1); clear k63 hb1; have c1 := HP.out.cells.2.1; have f1 := HP.out.froz))
      | (go_at_call 96; refine (kl _ (HP.out.set 2).1).mono ?_; rintro e w8 ⟨rfl, hp8, hb8⟩
         replace HB := Lib.hid ((HB.out.trans (HP.out.set 2).2).trans hb8)
         have HQ := Lib.hid (show Ps B pb s 2 [⟨1, K, 0, 0⟩, ⟨5, k0, 0, 0⟩] w8 from hp8)
         clear hp8 hb8 kl c1 f1)
      | fail)
    rw [rounds_succ]
    go_wp2_with (first
      | (go_at_call 95; first
          | (with_reducible refine (l42 _ HQ.out).mono ?_; rintro e w1 ⟨rfl, hb1⟩; replace HB := Lib.hid (HB.out.trans (hb1.mono HQ.out.hB.2)); replace HQ := Lib.hid (HQ.out.below hb1); clear l42 hb1)
          | (with_reducible refine (l43 _ HQ.out).mono ?_; rintro e w1 ⟨rfl, hb1⟩; replace HB := Lib.hid (HB.out.trans (hb1.mono HQ.out.hB.2)); replace HQ := Lib.hid (HQ.out.below hb1); clear l43 hb1)
          | (with_reducible refine (l63 _ HQ.out).mono ?_; rintro e w1 ⟨rfl, hb1⟩; replace HB := Lib.hid (HB.out.trans (hb1.mono HQ.out.hB.2)); replace HQ := Lib.hid (HQ.out.below hb1); clear l63 hb1))
      | fail)
    rw [rounds_succ]
    go_wp2
    exact bodyPost_ret (results_tmp rfl _ _ _) rfl ⟨rfl, HQ.out, HB.out⟩
end Go.Proofs.Ytolofcfegoeenaa
