/- The statement DecOrders, walked. Condition: the library's table of powers of ten holds what its text lays. -/
import Derived.Test.YtbogojecnonepaaDoorDecShown
namespace Go.Proofs.YtbogojecnonepaaDoor
open Go.RowKit

set_option maxHeartbeats 1000000 in
theorem decOrders_walk (a : Int) (ha : -9223372036854775808 ≤ a ∧ a ≤ 9223372036854775807) (b : Int) (hb : -9223372036854775808 ≤ b ∧ b ≤ 9223372036854775807) (w : World) (ht : Tab w) :
    Calls Tryd.prog 7 #[.int .i64 a, .int .i64 b] w fun e w' => e = .returned (.bool true) ∧ Below w.heap.size w w' := by
  have c1 := shown_any w ht
  have k1 := fun w => add_any a b w ha hb
  have k2 := fun w => add_any b a w hb ha
  have k3 := fun w => mul_any a b w ha hb
  have k4 := fun w => mul_any b a w hb ha
  have k5 := fun w => mul_any a 1000000 w ha (by omega)
  have k6 := fun w => div_any a 1000000 w ha (by omega) (by omega)
  rw [Int.add_comm b a] at k2
  rw [Int.mul_comm b a] at k4
  have e5 : (a * 1000000).tdiv 1000000 = a := Int.mul_tdiv_cancel a (by omega)
  rw [e5, intoE_in ha] at k5 k6
  clear e5
  have hpq : ∃ p q : Int, into ((a * b).tdiv 1000000) = (p, q) := ⟨_, _, rfl⟩
  obtain ⟨p, q, hpq⟩ := hpq
  unfold intoE at k3 k4
  rw [hpq] at k3 k4
  clear hpq
  by_cases hin : -9223372036854775808 ≤ a + b ∧ a + b ≤ 9223372036854775807
  · rw [intoE_in hin] at k1 k2
    have k7 := fun w => sub_any (a + b) b w hin hb
    rw [show a + b - b = a by omega, intoE_in ha] at k7
    generalize a + b = x at k1 k2 k7
    clear ha hb hin
    go_enter Tryd.func7, Tryd.ntmps7
    go_wp2_with (first
      | (go_at_call 12; refine c1.mono ?_; rintro e w1 ⟨rfl, hb1⟩)
      | (go_at_call 17; first | (with_reducible refine (k1 _).mono ?_; rintro e w2 ⟨rfl, hb2⟩; have HB2 := below_at hb1 hb2 hb1.size) | (with_reducible refine (k2 _).mono ?_; rintro e w3 ⟨rfl, hb3⟩; have HB3 := below_at HB2 hb3 HB2.size))
      | (go_at_call 21; first | (with_reducible refine (k5 _).mono ?_; rintro e w6 ⟨rfl, hb6⟩; have HB6 := below_at HB5 hb6 HB5.size) | (with_reducible refine (k3 _).mono ?_; rintro e w4 ⟨rfl, hb4⟩; have HB4 := below_at HB3 hb4 HB3.size) | (with_reducible refine (k4 _).mono ?_; rintro e w5 ⟨rfl, hb5⟩; have HB5 := below_at HB4 hb5 HB4.size))
      | (go_at_call 23; with_reducible refine (k6 _).mono ?_; rintro e w7 ⟨rfl, hb7⟩; have HB7 := below_at HB6 hb7 HB6.size)
      | (go_at_call 19; with_reducible refine (k7 _).mono ?_; rintro e w8 ⟨rfl, hb8⟩; have HB8 := below_at HB7 hb8 HB7.size))
    all_goals
      go_ret
      exact ⟨rfl, HB8⟩
  · rw [intoE_out hin] at k1 k2
    clear ha hb hin
    go_enter Tryd.func7, Tryd.ntmps7
    go_wp2_with (first
      | (go_at_call 12; refine c1.mono ?_; rintro e w1 ⟨rfl, hb1⟩)
      | (go_at_call 17; first | (with_reducible refine (k1 _).mono ?_; rintro e w2 ⟨rfl, hb2⟩; have HB2 := below_at hb1 hb2 hb1.size) | (with_reducible refine (k2 _).mono ?_; rintro e w3 ⟨rfl, hb3⟩; have HB3 := below_at HB2 hb3 HB2.size))
      | (go_at_call 21; first | (with_reducible refine (k5 _).mono ?_; rintro e w6 ⟨rfl, hb6⟩; have HB6 := below_at HB5 hb6 HB5.size) | (with_reducible refine (k3 _).mono ?_; rintro e w4 ⟨rfl, hb4⟩; have HB4 := below_at HB3 hb4 HB3.size) | (with_reducible refine (k4 _).mono ?_; rintro e w5 ⟨rfl, hb5⟩; have HB5 := below_at HB4 hb5 HB4.size))
      | (go_at_call 23; with_reducible refine (k6 _).mono ?_; rintro e w7 ⟨rfl, hb7⟩; have HB7 := below_at HB6 hb7 HB6.size))
    all_goals
      go_ret
      exact ⟨rfl, HB7⟩
end Go.Proofs.YtbogojecnonepaaDoor
