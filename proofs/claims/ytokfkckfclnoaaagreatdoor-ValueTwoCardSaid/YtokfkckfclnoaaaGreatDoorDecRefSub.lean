/- The document's own differences. Conditions: the arguments are of 64 bits. -/
import Derived.Test.YtokfkckfclnoaaaGreatDoorDecRefAdd
namespace Go.Proofs.YtokfkckfclnoaaaGreatDoor
open Go.RowKit

theorem refSub_plain (a b r er : Int) (w : World) (h0 : ((b : Int) == -9223372036854775808) = false) (hb : -9223372036854775807 ≤ b ∧ b ≤ 9223372036854775807)
    (k1 : ∀ w, Calls Tryz.prog 15 #[.int .i64 a, .int .i64 (-b)] w fun e w' => e = .returned (.tuple #[.int .i64 r, .int .i64 er]) ∧ Below w.heap.size w w') :
    Calls Tryz.prog 16 #[.int .i64 a, .int .i64 b] w fun e w' => e = .returned (.tuple #[.int .i64 r, .int .i64 er]) ∧ Below w.heap.size w w' := by
  go_enter Tryz.func16, Tryz.ntmps16
  go_wp2_with (go_at_call 15; refine (k1 _).mono ?_; rintro e w1 ⟨rfl, hb1⟩)
  go_ret2
  exact ⟨rfl, hb1⟩
theorem refSub_least1 (a b n r er : Int) (w : World) (h0 : ((b : Int) == -9223372036854775808) = true)
    (k1 : ∀ w, Calls Tryz.prog 15 #[.int .i64 a, .int .i64 9223372036854775807] w fun e w' => e = .returned (.tuple #[.int .i64 n, .int .i64 0]) ∧ Below w.heap.size w w')
    (k2 : ∀ w, Calls Tryz.prog 15 #[.int .i64 n, .int .i64 1] w fun e w' => e = .returned (.tuple #[.int .i64 r, .int .i64 er]) ∧ Below w.heap.size w w') :
    Calls Tryz.prog 16 #[.int .i64 a, .int .i64 b] w fun e w' => e = .returned (.tuple #[.int .i64 r, .int .i64 er]) ∧ Below w.heap.size w w' := by
  go_enter Tryz.func16, Tryz.ntmps16
  go_wp2_with fail
  refine (k1 _).mono ?_
  rintro e w1 ⟨rfl, hb1⟩
  go_wp2_with (go_at_call 15; refine (k2 _).mono ?_; rintro e w2 ⟨rfl, hb2⟩; have HB2 := below_at hb1 hb2 hb1.size)
  go_ret2
  exact ⟨rfl, HB2⟩
theorem refSub_least2 (a b n bad m odd r er : Int) (w : World) (h0 : ((b : Int) == -9223372036854775808) = true) (hbad : ((bad : Int) == 0) = false) (ho : ((odd : Int) != 0) = true ∧ r = 0 ∧ er = odd ∨ ((odd : Int) != 0) = false)
    (k1 : ∀ w, Calls Tryz.prog 15 #[.int .i64 a, .int .i64 9223372036854775807] w fun e w' => e = .returned (.tuple #[.int .i64 n, .int .i64 bad]) ∧ Below w.heap.size w w')
    (k2 : ∀ w, Calls Tryz.prog 15 #[.int .i64 a, .int .i64 1] w fun e w' => e = .returned (.tuple #[.int .i64 m, .int .i64 odd]) ∧ Below w.heap.size w w')
    (k3 : ((odd : Int) != 0) = false → ∀ w, Calls Tryz.prog 15 #[.int .i64 m, .int .i64 9223372036854775807] w fun e w' => e = .returned (.tuple #[.int .i64 r, .int .i64 er]) ∧ Below w.heap.size w w') :
    Calls Tryz.prog 16 #[.int .i64 a, .int .i64 b] w fun e w' => e = .returned (.tuple #[.int .i64 r, .int .i64 er]) ∧ Below w.heap.size w w' := by
  rcases ho with ⟨ho, rfl, rfl⟩ | ho
  · clear k3
    go_enter Tryz.func16, Tryz.ntmps16
    go_wp2_with fail
    refine (k1 _).mono ?_
    rintro e w1 ⟨rfl, hb1⟩
    go_wp2_with (go_at_call 15; refine (k2 _).mono ?_; rintro e w2 ⟨rfl, hb2⟩; have HB2 := below_at hb1 hb2 hb1.size)
    go_ret2
    exact ⟨rfl, HB2⟩
  · have k3' := k3 ho
    clear k3
    go_enter Tryz.func16, Tryz.ntmps16
    go_wp2_with fail
    refine (k1 _).mono ?_
    rintro e w1 ⟨rfl, hb1⟩
    go_wp2_with fail
    refine (k2 _).mono ?_
    rintro e w2 ⟨rfl, hb2⟩
    have HB2 := below_at hb1 hb2 hb1.size
    go_wp2_with (go_at_call 15; refine (k3' _).mono ?_; rintro e w3 ⟨rfl, hb3⟩; have HB3 := below_at HB2 hb3 HB2.size)
    go_ret2
    exact ⟨rfl, HB3⟩
theorem refSub_any (a b : Int) (w : World) (ha : -9223372036854775808 ≤ a ∧ a ≤ 9223372036854775807) (hb : -9223372036854775808 ≤ b ∧ b ≤ 9223372036854775807) :
    Calls Tryz.prog 16 #[.int .i64 a, .int .i64 b] w fun e w' => e = intoE (a - b) ∧ Below w.heap.size w w' := by
  by_cases h : b = -9223372036854775808
  · have h0 : ((b : Int) == -9223372036854775808) = true := beq_iff_eq.2 h
    have k1 := fun w => refAdd_any a 9223372036854775807 w ha (by omega)
    by_cases hc : a ≤ 0
    · rw [intoE_in (by omega)] at k1
      refine refSub_least1 a b (a + 9223372036854775807) _ _ w h0 k1 (fun w => ?_)
      have := refAdd_any (a + 9223372036854775807) 1 w (by omega) (by omega)
      rw [show a + 9223372036854775807 + 1 = a - b by omega] at this
      exact this
    · rw [intoE_out (by omega)] at k1
      have hE : intoE (a - b) = .returned (.tuple #[.int .i64 0, .int .i64 3]) := intoE_out (by omega)
      rw [hE]
      by_cases hm : a = 9223372036854775807
      · refine refSub_least2 a b 0 3 0 3 _ _ w h0 rfl (.inl ⟨rfl, rfl, rfl⟩) k1 (fun w => ?_) (fun h => by cases h)
        have := refAdd_any a 1 w (by omega) (by omega)
        rw [intoE_out (by omega)] at this
        exact this
      · refine refSub_least2 a b 0 3 (a + 1) 0 _ _ w h0 rfl (.inr rfl) k1 (fun w => ?_) (fun _ w => ?_)
        · have := refAdd_any a 1 w (by omega) (by omega)
          rw [intoE_in (by omega)] at this
          exact this
        · have := refAdd_any (a + 1) 9223372036854775807 w (by omega) (by omega)
          rw [intoE_out (by omega)] at this
          exact this
  · refine refSub_plain a b _ _ w (beq_eq_false_iff_ne.2 h) (by omega) (fun w => ?_)
    have := refAdd_any a (-b) w ha (by omega)
    rw [show a + -b = a - b by omega] at this
    exact this
end Go.Proofs.YtokfkckfclnoaaaGreatDoor
