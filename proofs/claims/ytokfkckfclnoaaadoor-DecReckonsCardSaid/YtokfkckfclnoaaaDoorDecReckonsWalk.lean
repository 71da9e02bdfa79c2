/- The statement DecReckons, walked. Condition: the library's table of powers of ten holds what its text lays. -/
import Derived.Test.YtokfkckfclnoaaaDoorDecRefSub
import Derived.Test.YtokfkckfclnoaaaDoorDecRefMod
namespace Go.Proofs.YtokfkckfclnoaaaDoor
open Go.RowKit

theorem refMod_any (a b : Int) (w : World) (ha : -9223372036854775808 ≤ a ∧ a ≤ 9223372036854775807) (hb : -9223372036854775808 ≤ b ∧ b ≤ 9223372036854775807) (h0 : b ≠ 0) :
    Calls Tryd.prog 26 #[.int .i64 a, .int .i64 b] w fun e w' => e = .returned (.tuple #[.int .i64 (a.tmod b), .int .i64 0]) ∧ Below w.heap.size w w' := by
  refine refMod_walk a b (a.tmod b) (a.natAbs : Int) (b.natAbs : Int) ((a.natAbs : Int) / (b.natAbs : Int)) ((a.natAbs : Int) / (b.natAbs : Int) * (b.natAbs : Int)) (decide (a < 0)) (decide (b < 0)) (decide (a < 0) != decide (b < 0)) w (beq_eq_false_iff_ne.2 h0)
    (fun w => ofC a w ha.1 ha.2) (fun w => ofC b w hb.1 hb.2) (fun w => divB _ _ _ _ w (by omega) (small_wide (by omega)) (by omega) (small_wide (by omega))) (fun w => mulV false false _ _ w (by omega) (by omega)) (fun w => minusB _ _ _ _ w) (fun w => ?_)
  have hv : (a.natAbs : Int) - (a.natAbs : Int) / (b.natAbs : Int) * (b.natAbs : Int) = ((a.natAbs % b.natAbs : Nat) : Int) := by
    have := Int.mul_ediv_add_emod (a.natAbs : Int) (b.natAbs : Int)
    rw [Int.natCast_emod, Int.mul_comm ((a.natAbs : Int) / (b.natAbs : Int))]
    omega
  rw [hv]
  have hlt : a.natAbs % b.natAbs ≤ a.natAbs := Nat.mod_le _ _
  have hm : (a.tmod b).natAbs = a.natAbs % b.natAbs := Int.natAbs_tmod a b
  have hs1 : 0 ≤ a → 0 ≤ a.tmod b := fun h => Int.tmod_nonneg _ h
  have hs2 : a < 0 → a.tmod b ≤ 0 := by
    intro h
    have := Int.tmod_nonneg b (show 0 ≤ -a by omega)
    rw [Int.neg_tmod] at this
    omega
  have hlb : a.natAbs % b.natAbs < b.natAbs := Nat.mod_lt _ (by omega)
  have hin : into (a.tmod b) = (a.tmod b, 0) := by unfold into; rw [if_pos (by omega)]
  have := backV (decide (a < 0)) (a.natAbs % b.natAbs) (a.tmod b) w (small_wide (by omega)) (by
    by_cases h : a < 0
    · rw [decide_eq_true h]; show -((a.natAbs % b.natAbs : Nat) : Int) = _; have := hs2 h; omega
    · rw [decide_eq_false h]; show ((a.natAbs % b.natAbs : Nat) : Int) = _; have := hs1 (by omega); omega)
  rw [hin] at this
  exact this

set_option maxRecDepth 20000 in
set_option maxHeartbeats 1000000 in
theorem reckons_walk0 (a b r1 e1 r2 e2 r3 e3 r4 e4 r5 e5 r6 e6 t : Int) (w : World)
    (c1 : Calls Tryd.prog 12 #[] w fun e w' => e = .returned (.bool true) ∧ Below w.heap.size w w')
    (k1 : ∀ w, Calls Tryd.prog 17 #[.int .i64 a, .int .i64 b] w fun e w' => e = .returned (.tuple #[.int .i64 r1, .int .i64 e1]) ∧ Below w.heap.size w w')
    (q1 : ∀ w, Calls Tryd.prog 18 #[.int .i64 a, .int .i64 b] w fun e w' => e = .returned (.tuple #[.int .i64 r1, .int .i64 e1]) ∧ Below w.heap.size w w')
    (k2 : ∀ w, Calls Tryd.prog 19 #[.int .i64 a, .int .i64 b] w fun e w' => e = .returned (.tuple #[.int .i64 r2, .int .i64 e2]) ∧ Below w.heap.size w w')
    (q2 : ∀ w, Calls Tryd.prog 20 #[.int .i64 a, .int .i64 b] w fun e w' => e = .returned (.tuple #[.int .i64 r2, .int .i64 e2]) ∧ Below w.heap.size w w')
    (k3 : ∀ w, Calls Tryd.prog 21 #[.int .i64 a, .int .i64 b] w fun e w' => e = .returned (.tuple #[.int .i64 r3, .int .i64 e3]) ∧ Below w.heap.size w w')
    (q3 : ∀ w, Calls Tryd.prog 22 #[.int .i64 a, .int .i64 b] w fun e w' => e = .returned (.tuple #[.int .i64 r3, .int .i64 e3]) ∧ Below w.heap.size w w')
    (k4 : ∀ w, Calls Tryd.prog 23 #[.int .i64 a, .int .i64 b] w fun e w' => e = .returned (.tuple #[.int .i64 r4, .int .i64 e4]) ∧ Below w.heap.size w w')
    (q4 : ∀ w, Calls Tryd.prog 24 #[.int .i64 a, .int .i64 b] w fun e w' => e = .returned (.tuple #[.int .i64 r4, .int .i64 e4]) ∧ Below w.heap.size w w')
    (k5 : ∀ w, Calls Tryd.prog 25 #[.int .i64 a, .int .i64 b] w fun e w' => e = .returned (.tuple #[.int .i64 r5, .int .i64 e5]) ∧ Below w.heap.size w w')
    (q5 : ∀ w, Calls Tryd.prog 26 #[.int .i64 a, .int .i64 b] w fun e w' => e = .returned (.tuple #[.int .i64 r5, .int .i64 e5]) ∧ Below w.heap.size w w')
    (k6 : ∀ w, Calls Tryd.prog 27 #[.int .i64 a] w fun e w' => e = .returned (.tuple #[.int .i64 r6, .int .i64 e6]) ∧ Below w.heap.size w w')
    (q6 : ∀ w, Calls Tryd.prog 28 #[.int .i64 a] w fun e w' => e = .returned (.tuple #[.int .i64 r6, .int .i64 e6]) ∧ Below w.heap.size w w')
    (k7 : ∀ w, Calls Tryd.prog 29 #[.int .i64 a] w fun e w' => e = .returned (.int .i64 t) ∧ w = w')
    (q7 : ∀ w, Calls Tryd.prog 30 #[.int .i64 a] w fun e w' => e = .returned (.int .i64 t) ∧ Below w.heap.size w w') :
    Calls Tryd.prog 4 #[.int .i64 a, .int .i64 b] w fun e w' => e = .returned (.bool true) ∧ Below w.heap.size w w' := by
  go_enter Tryd.func4, Tryd.ntmps4
  go_wp2_with (first
    | (go_at_call 12; with_reducible refine c1.mono ?_; rintro e w1 ⟨rfl, hb1⟩)
    | (go_at_call 17; (with_reducible refine (k1 _).mono ?_); rintro e w2 ⟨rfl, hb2⟩; have HB2 := below_at hb1 hb2 hb1.size)
    | (go_at_call 18; (with_reducible refine (q1 _).mono ?_); rintro e w3 ⟨rfl, hb3⟩; have HB3 := below_at HB2 hb3 HB2.size)
    | (go_at_call 19; (with_reducible refine (k2 _).mono ?_); rintro e w4 ⟨rfl, hb4⟩; have HB4 := below_at HB3 hb4 HB3.size)
    | (go_at_call 20; (with_reducible refine (q2 _).mono ?_); rintro e w5 ⟨rfl, hb5⟩; have HB5 := below_at HB4 hb5 HB4.size)
    | (go_at_call 21; (with_reducible refine (k3 _).mono ?_); rintro e w6 ⟨rfl, hb6⟩; have HB6 := below_at HB5 hb6 HB5.size)
    | (go_at_call 22; (with_reducible refine (q3 _).mono ?_); rintro e w7 ⟨rfl, hb7⟩; have HB7 := below_at HB6 hb7 HB6.size)
    | (go_at_call 23; (with_reducible refine (k4 _).mono ?_); rintro e w8 ⟨rfl, hb8⟩; have HB8 := below_at HB7 hb8 HB7.size)
    | (go_at_call 24; (with_reducible refine (q4 _).mono ?_); rintro e w9 ⟨rfl, hb9⟩; have HB9 := below_at HB8 hb9 HB8.size)
    | (go_at_call 25; (with_reducible refine (k5 _).mono ?_); rintro e w10 ⟨rfl, hb10⟩; have HB10 := below_at HB9 hb10 HB9.size)
    | (go_at_call 26; (with_reducible refine (q5 _).mono ?_); rintro e w11 ⟨rfl, hb11⟩; have HB11 := below_at HB10 hb11 HB10.size)
    | (go_at_call 27; (with_reducible refine (k6 _).mono ?_); rintro e w12 ⟨rfl, hb12⟩; have HB12 := below_at HB11 hb12 HB11.size)
    | (go_at_call 28; (with_reducible refine (q6 _).mono ?_); rintro e w13 ⟨rfl, hb13⟩; have HB13 := below_at HB12 hb13 HB12.size)
    | (go_at_call 29; refine (k7 _).mono ?_; rintro e w' ⟨rfl, rfl⟩)
    | (go_at_call 30; (with_reducible refine (q7 _).mono ?_); rintro e w14 ⟨rfl, hb14⟩; have HB14 := below_at HB13 hb14 HB13.size))
  all_goals
    go_ret
    exact ⟨by first | rfl | simp, HB14⟩
theorem decReckons_walk (a : Int) (ha : -9223372036854775808 ≤ a ∧ a ≤ 9223372036854775807) (b : Int) (hb : -9223372036854775808 ≤ b ∧ b ≤ 9223372036854775807) (w : World) (ht : Tab w) :
    Calls Tryd.prog 4 #[.int .i64 a, .int .i64 b] w fun e w' => e = .returned (.bool true) ∧ Below w.heap.size w w' := by
  by_cases h0 : b = 0
  · subst h0
    exact reckons_walk0 a 0 _ _ _ _ _ _ 0 4 0 4 _ _ _ w (shown_any w ht) (fun w => add_any a 0 w ha hb) (fun w => refAdd_any a 0 w ha hb) (fun w => sub_any a 0 w ha hb) (fun w => refSub_any a 0 w ha hb)
      (fun w => mul_any a 0 w ha hb) (fun w => refMul_any a 0 w ha hb) (fun w => div_zero a w) (fun w => refDiv_zero a w) (fun w => mod_zero a w) (fun w => refMod_zero a w)
      (fun w => whole10_any a w ha) (fun w => refWhole_any a w ha) (fun w => trunc_any a w ha) (fun w => refTrunc_any a w ha)
  · exact reckons_walk0 a b _ _ _ _ _ _ _ _ _ _ _ _ _ w (shown_any w ht) (fun w => add_any a b w ha hb) (fun w => refAdd_any a b w ha hb) (fun w => sub_any a b w ha hb) (fun w => refSub_any a b w ha hb)
      (fun w => mul_any a b w ha hb) (fun w => refMul_any a b w ha hb) (fun w => div_any a b w ha hb h0) (fun w => refDiv_any a b w ha hb h0) (fun w => mod_any a b w h0) (fun w => refMod_any a b w ha hb h0)
      (fun w => whole10_any a w ha) (fun w => refWhole_any a w ha) (fun w => trunc_any a w ha) (fun w => refTrunc_any a w ha)
end Go.Proofs.YtokfkckfclnoaaaDoor
