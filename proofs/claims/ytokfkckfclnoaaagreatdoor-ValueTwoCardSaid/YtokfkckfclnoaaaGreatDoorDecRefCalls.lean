/- The document's own products, quotients, whole parts and whole numbers are what plain whole numbers say. Conditions: the arguments are of 64 bits. -/
import Derived.Test.YtokfkckfclnoaaaGreatDoorDecRefDiv
import Derived.Test.YtokfkckfclnoaaaGreatDoorDecRefReadAny
import Derived.Test.YtokfkckfclnoaaaGreatDoorDecShown
namespace Go.Proofs.YtokfkckfclnoaaaGreatDoor
open Go.RowKit

theorem backP_into2 (b : Bool) (n : Nat) : backP b (n : Int) = into (sgn b n) := by rw [backP_into, numD_into]
/-- What 'back' answers at a number. -/
theorem backV (b : Bool) (v : Nat) (x : Int) (w : World) (h1 : (v : Int) < wide 12) (hx : sgn b v = x) :
    Calls Tryz.prog 36 #[big b (v : Int)] w fun e w' => e = .returned (.tuple #[.int .i64 (into x).1, .int .i64 (into x).2]) ∧ Below w.heap.size w w' := by
  have := back_pair b (v : Int) w (by omega) h1
  rw [backP_into2, hx] at this
  exact this
theorem divB (b b2 : Bool) (n m : Int) (w : World) (hn0 : 0 ≤ n) (hn1 : n < wide 12) (hm0 : 0 < m) (hm1 : m * 2 < wide 12) :
    Calls Tryz.prog 39 #[big b n, big b2 m] w fun e w' => e = .returned (big (b != b2) (n / m)) ∧ Below w.heap.size w w' :=
  div_walk b b2 (b != b2) n m w rfl hn0 hn1 hm0 hm1
theorem mulV (b b2 : Bool) (n m : Int) (w : World) (hm0 : 0 ≤ m) (hm1 : m < 18446744073709551616) :
    Calls Tryz.prog 40 #[big b n, big b2 m] w fun e w' => e = .returned (big (b != b2) (n * m)) ∧ Below w.heap.size w w' := by
  have h : n * (m % 4294967296) + n * (m / 4294967296 % 4294967296) * 4294967296 = n * m := by
    rw [Int.mul_assoc, ← Int.mul_add]
    congr 1
    omega
  rw [← h]
  exact mulB b b2 n m w
theorem wide12 : (340282366920938463463374607431768211456 : Int) < wide 12 := by decide +kernel

theorem refMul_walk (a b r er : Int) (A B P M Q : Value) (w : World)
    (k1 : ∀ w, Calls Tryz.prog 35 #[.int .i64 a] w fun e w' => e = .returned A ∧ Below w.heap.size w w')
    (k2 : ∀ w, Calls Tryz.prog 35 #[.int .i64 b] w fun e w' => e = .returned B ∧ Below w.heap.size w w')
    (k3 : ∀ w, Calls Tryz.prog 40 #[A, B] w fun e w' => e = .returned P ∧ Below w.heap.size w w')
    (k4 : ∀ w, Calls Tryz.prog 41 #[] w fun e w' => e = .returned M ∧ Below w.heap.size w w')
    (k5 : ∀ w, Calls Tryz.prog 39 #[P, M] w fun e w' => e = .returned Q ∧ Below w.heap.size w w')
    (k6 : ∀ w, Calls Tryz.prog 36 #[Q] w fun e w' => e = .returned (.tuple #[.int .i64 r, .int .i64 er]) ∧ Below w.heap.size w w') :
    Calls Tryz.prog 17 #[.int .i64 a, .int .i64 b] w fun e w' => e = .returned (.tuple #[.int .i64 r, .int .i64 er]) ∧ Below w.heap.size w w' := by
  go_enter Tryz.func17, Tryz.ntmps17
  go_wp2_with fail
  refine (k1 _).mono ?_
  rintro e w1 ⟨rfl, hb1⟩
  go_wp2_with fail
  refine (k2 _).mono ?_
  rintro e w2 ⟨rfl, hb2⟩
  have HB2 := below_at hb1 hb2 hb1.size
  go_wp2_with (first
    | (go_at_call 40; refine (k3 _).mono ?_; rintro e w3 ⟨rfl, hb3⟩; have HB3 := below_at HB2 hb3 HB2.size)
    | (go_at_call 41; refine (k4 _).mono ?_; rintro e w4 ⟨rfl, hb4⟩; have HB4 := below_at HB3 hb4 HB3.size)
    | (go_at_call 39; refine (k5 _).mono ?_; rintro e w5 ⟨rfl, hb5⟩; have HB5 := below_at HB4 hb5 HB4.size)
    | (go_at_call 36; refine (k6 _).mono ?_; rintro e w6 ⟨rfl, hb6⟩; have HB6 := below_at HB5 hb6 HB5.size))
  go_ret2
  exact ⟨rfl, HB6⟩
theorem refDiv_walk (a b r er : Int) (A B P M Q : Value) (w : World) (h0 : ((b : Int) == 0) = false)
    (k1 : ∀ w, Calls Tryz.prog 35 #[.int .i64 a] w fun e w' => e = .returned A ∧ Below w.heap.size w w')
    (k4 : ∀ w, Calls Tryz.prog 41 #[] w fun e w' => e = .returned M ∧ Below w.heap.size w w')
    (k3 : ∀ w, Calls Tryz.prog 40 #[A, M] w fun e w' => e = .returned P ∧ Below w.heap.size w w')
    (k2 : ∀ w, Calls Tryz.prog 35 #[.int .i64 b] w fun e w' => e = .returned B ∧ Below w.heap.size w w')
    (k5 : ∀ w, Calls Tryz.prog 39 #[P, B] w fun e w' => e = .returned Q ∧ Below w.heap.size w w')
    (k6 : ∀ w, Calls Tryz.prog 36 #[Q] w fun e w' => e = .returned (.tuple #[.int .i64 r, .int .i64 er]) ∧ Below w.heap.size w w') :
    Calls Tryz.prog 18 #[.int .i64 a, .int .i64 b] w fun e w' => e = .returned (.tuple #[.int .i64 r, .int .i64 er]) ∧ Below w.heap.size w w' := by
  go_enter Tryz.func18, Tryz.ntmps18
  go_wp2_with fail
  refine (k1 _).mono ?_
  rintro e w1 ⟨rfl, hb1⟩
  go_wp2_with (first
    | (go_at_call 41; refine (k4 _).mono ?_; rintro e w2 ⟨rfl, hb2⟩; have HB2 := below_at hb1 hb2 hb1.size)
    | (go_at_call 40; refine (k3 _).mono ?_; rintro e w3 ⟨rfl, hb3⟩; have HB3 := below_at HB2 hb3 HB2.size)
    | (go_at_call 35; refine (k2 _).mono ?_; rintro e w4 ⟨rfl, hb4⟩; have HB4 := below_at HB3 hb4 HB3.size)
    | (go_at_call 39; refine (k5 _).mono ?_; rintro e w5 ⟨rfl, hb5⟩; have HB5 := below_at HB4 hb5 HB4.size)
    | (go_at_call 36; refine (k6 _).mono ?_; rintro e w6 ⟨rfl, hb6⟩; have HB6 := below_at HB5 hb6 HB5.size))
  go_ret2
  exact ⟨rfl, HB6⟩
theorem refDiv_zero (a : Int) (w : World) :
    Calls Tryz.prog 18 #[.int .i64 a, .int .i64 0] w fun e w' => e = .returned (.tuple #[.int .i64 0, .int .i64 4]) ∧ Below w.heap.size w w' := by
  go_enter Tryz.func18, Tryz.ntmps18
  go_wp2
  go_ret2
  exact ⟨rfl, Below.refl _ _⟩
theorem small_wide {v : Int} (h : v ≤ 340282366920938463463374607431768211456) : v < wide 12 := Int.lt_of_le_of_lt h wide12
theorem nat_prod {x y p q : Nat} (hx : x ≤ p) (hy : y ≤ q) : x * y ≤ p * q := Nat.mul_le_mul hx hy
theorem refMul_any (a b : Int) (w : World) (ha : -9223372036854775808 ≤ a ∧ a ≤ 9223372036854775807) (hb : -9223372036854775808 ≤ b ∧ b ≤ 9223372036854775807) :
    Calls Tryz.prog 17 #[.int .i64 a, .int .i64 b] w fun e w' => e = intoE ((a * b).tdiv 1000000) ∧ Below w.heap.size w w' := by
  have hp := nat_prod (show a.natAbs ≤ 9223372036854775808 by omega) (show b.natAbs ≤ 9223372036854775808 by omega)
  have hv : ((a.natAbs : Int) * (b.natAbs : Int)) / 1000000 = ((a.natAbs * b.natAbs / 1000000 : Nat) : Int) := by omega
  refine refMul_walk a b _ _ _ _ _ _ _ w (fun w => ofB a w ha.1 ha.2) (fun w => ofB b w hb.1 hb.2) (fun w => mulV _ _ _ _ w (by omega) (by omega)) (fun w => millionB w)
    (fun w => divB _ _ _ _ w (by rw [← Int.natCast_mul]; omega) (small_wide (by rw [← Int.natCast_mul]; omega)) (by omega) (small_wide (by omega))) (fun w => ?_)
  rw [← Int.natCast_mul] at *
  have hv : ((a.natAbs * b.natAbs : Nat) : Int) / 1000000 = ((a.natAbs * b.natAbs / 1000000 : Nat) : Int) := by omega
  rw [hv]
  refine backV _ _ _ w (small_wide (by omega)) ?_
  rw [← mul_value]
  cases decide (a < 0) <;> cases decide (b < 0) <;> rfl
theorem refDiv_any (a b : Int) (w : World) (ha : -9223372036854775808 ≤ a ∧ a ≤ 9223372036854775807) (hb : -9223372036854775808 ≤ b ∧ b ≤ 9223372036854775807) (h0 : b ≠ 0) :
    Calls Tryz.prog 18 #[.int .i64 a, .int .i64 b] w fun e w' => e = intoE ((a * 1000000).tdiv b) ∧ Below w.heap.size w w' := by
  refine refDiv_walk a b _ _ _ _ _ _ _ w (beq_eq_false_iff_ne.2 h0) (fun w => ofB a w ha.1 ha.2) (fun w => millionB w) (fun w => mulV _ _ _ _ w (by omega) (by omega)) (fun w => ofB b w hb.1 hb.2)
    (fun w => divB _ _ _ _ w (by omega) (small_wide (by omega)) (by omega) (small_wide (by omega))) (fun w => ?_)
  have hv : (a.natAbs : Int) * 1000000 / (b.natAbs : Int) = ((a.natAbs * 1000000 / b.natAbs : Nat) : Int) := by
    rw [show (a.natAbs : Int) * 1000000 = ((a.natAbs * 1000000 : Nat) : Int) by omega, ← Int.natCast_ediv]
  rw [hv]
  have hle : a.natAbs * 1000000 / b.natAbs ≤ a.natAbs * 1000000 := Nat.div_le_self _ _
  refine backV _ _ _ w (small_wide (by omega)) ?_
  rw [← div_value]
  cases decide (a < 0) <;> cases decide (b < 0) <;> rfl
end Go.Proofs.YtokfkckfclnoaaaGreatDoor
