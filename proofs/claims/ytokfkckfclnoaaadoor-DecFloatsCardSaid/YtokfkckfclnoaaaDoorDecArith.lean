/- dec's reckonings: sums, differences, products, quotients, rests, whole numbers, each as plain whole numbers say it. Conditions: the arguments are of 64 bits. -/
import Derived.Test.YtokfkckfclnoaaaDoorDecKept
import Derived.Test.YtokfkckfclnoaaaDoorDecDiv64
namespace Go.Proofs.YtokfkckfclnoaaaDoor
open Go.RowKit

/-- A number that may be too far: as it is, or that it goes too far. -/
def into (x : Int) : Int × Int := if -9223372036854775808 ≤ x ∧ x ≤ 9223372036854775807 then (x, 0) else (0, 3)
def intoE (x : Int) : Ending := .returned (.tuple #[.int .i64 (into x).1, .int .i64 (into x).2])
def overE : Ending := .panicked [{ v := .iface 23 (.int .i64 3), recovered := false }]
def deedOf (x : Int) : Ending := if -9223372036854775808 ≤ x ∧ x ≤ 9223372036854775807 then .returned (.int .i64 x) else overE
theorem deedOf_in {x : Int} (h : -9223372036854775808 ≤ x ∧ x ≤ 9223372036854775807) : deedOf x = .returned (.int .i64 x) := if_pos h
theorem deedOf_out {x : Int} (h : ¬ (-9223372036854775808 ≤ x ∧ x ≤ 9223372036854775807)) : deedOf x = overE := if_neg h
theorem intoE_in {x : Int} (h : -9223372036854775808 ≤ x ∧ x ≤ 9223372036854775807) : intoE x = .returned (.tuple #[.int .i64 x, .int .i64 0]) := by unfold intoE into; rw [if_pos h]
theorem intoE_out {x : Int} (h : ¬ (-9223372036854775808 ≤ x ∧ x ≤ 9223372036854775807)) : intoE x = .returned (.tuple #[.int .i64 0, .int .i64 3]) := by unfold intoE into; rw [if_neg h]

theorem kept_any (k : FuncId) (caps : Array Value) (x : Int) (w : World) (he : ∀ args w, (callFunc k args).run Tryd.prog w = .ok (.enter k args) w)
    (h : ∀ w1, Below w.heap.size w w1 → Calls Tryd.prog k caps w1 fun e w2 => e = deedOf x ∧ Below w1.heap.size w1 w2) :
    Calls Tryd.prog 47 #[.func (.func k) #[] caps] w fun e w' => e = intoE x ∧ Below w.heap.size w w' := by
  by_cases hin : -9223372036854775808 ≤ x ∧ x ≤ 9223372036854775807
  · rw [intoE_in hin]
    rw [deedOf_in hin] at h
    exact kept_ok k caps x w he h
  · rw [intoE_out hin]
    rw [deedOf_out hin] at h
    exact kept_bad k caps 3 w he h

theorem kept_any1 (k : FuncId) (v : Value) (x : Int) (w : World) (he : ∀ args w, (callFunc k args).run Tryd.prog w = .ok (.enter k args) w)
    (h : ∀ w1, Below w.heap.size w w1 → Calls Tryd.prog k #[v] w1 fun e w2 => e = deedOf x ∧ Below w1.heap.size w1 w2) :
    Calls Tryd.prog 47 #[.func (.func k) #[v] #[]] w fun e w' => e = intoE x ∧ Below w.heap.size w w' := by
  by_cases hin : -9223372036854775808 ≤ x ∧ x ≤ 9223372036854775807
  · rw [intoE_in hin]
    rw [deedOf_in hin] at h
    exact kept_ok1 k v x w he h
  · rw [intoE_out hin]
    rw [deedOf_out hin] at h
    exact kept_bad1 k v 3 w he h

theorem wrap64_eq (x : Int) : wrap64 x = (x + 9223372036854775808) % 18446744073709551616 - 9223372036854775808 := by unfold wrap64; rfl
theorem dec_of {p : Prop} [Decidable p] (b : Bool) (h : p ↔ b = true) : decide p = b := by cases b <;> simp_all

theorem sum_any (a b : Int) (w : World) (ha : -9223372036854775808 ≤ a ∧ a ≤ 9223372036854775807) (hb : -9223372036854775808 ≤ b ∧ b ≤ 9223372036854775807) :
    Calls Tryd.prog 57 #[.int .i64 a, .int .i64 b] w fun e w' => e = deedOf (a + b) ∧ w = w' := by
  by_cases hin : -9223372036854775808 ≤ a + b ∧ a + b ≤ 9223372036854775807
  · rw [deedOf_in hin]
    have hw : wrap64 (a + b) = a + b := by rw [wrap64_eq]; omega
    have d : decide (a + b < a) = decide (b < 0) := by congr 1; exact propext (by omega)
    go_enter Tryd.func57, Tryd.ntmps57
    go_wp2
    all_goals first | (go_ret; exact ⟨rfl, rfl⟩) | (exfalso; simp_all; done)
  · rw [deedOf_out hin]
    have d : (!decide (wrap64 (a + b) < a) == decide (b < 0)) = true := by
      rw [wrap64_eq]
      by_cases h1 : b < 0
      · rw [show decide (b < 0) = true by simp [h1], show decide ((a + b + 9223372036854775808) % 18446744073709551616 - 9223372036854775808 < a) = false by simp; omega]; rfl
      · rw [show decide (b < 0) = false by simp; omega, show decide ((a + b + 9223372036854775808) % 18446744073709551616 - 9223372036854775808 < a) = true by simp; omega]; rfl
    go_enter Tryd.func57, Tryd.ntmps57
    go_wp2
    all_goals first | exact ⟨rfl, rfl, rfl⟩ | (exfalso; simp_all; done)
theorem difference_any (a b : Int) (w : World) (ha : -9223372036854775808 ≤ a ∧ a ≤ 9223372036854775807) (hb : -9223372036854775808 ≤ b ∧ b ≤ 9223372036854775807) :
    Calls Tryd.prog 62 #[.int .i64 a, .int .i64 b] w fun e w' => e = deedOf (a - b) ∧ w = w' := by
  by_cases hin : -9223372036854775808 ≤ a - b ∧ a - b ≤ 9223372036854775807
  · rw [deedOf_in hin]
    have hw : wrap64 (a - b) = a - b := by rw [wrap64_eq]; omega
    have d : decide (a < a - b) = decide (b < 0) := by congr 1; exact propext (by omega)
    go_enter Tryd.func62, Tryd.ntmps62
    go_wp2
    all_goals first | (go_ret; exact ⟨rfl, rfl⟩) | (exfalso; simp_all; done)
  · rw [deedOf_out hin]
    have d : (!decide (a < wrap64 (a - b)) == decide (b < 0)) = true := by
      rw [wrap64_eq]
      by_cases h1 : b < 0
      · rw [show decide (b < 0) = true by simp [h1], show decide (a < (a - b + 9223372036854775808) % 18446744073709551616 - 9223372036854775808) = false by simp; omega]; rfl
      · rw [show decide (b < 0) = false by simp; omega, show decide (a < (a - b + 9223372036854775808) % 18446744073709551616 - 9223372036854775808) = true by simp; omega]; rfl
    go_enter Tryd.func62, Tryd.ntmps62
    go_wp2
    all_goals first | exact ⟨rfl, rfl, rfl⟩ | (exfalso; simp_all; done)

theorem magn_any (a : Int) (w : World) (h : -9223372036854775808 ≤ a ∧ a ≤ 9223372036854775807) :
    Calls Tryd.prog 66 #[.int .i64 a] w fun e w' => e = .returned (.int .u64 (a.natAbs : Int)) ∧ w = w' := by
  by_cases hn : a < 0
  · have hw : IntKind.u64.wrap (-IntKind.u64.wrap a) = (a.natAbs : Int) := by simp only [IntKind.wrap_u64]; omega
    go_enter Tryd.func66, Tryd.ntmps66
    go_wp2
    go_ret
    exact ⟨rfl, rfl⟩
  · have hw : (a.natAbs : Int) = a := by omega
    rw [hw]
    go_enter Tryd.func66, Tryd.ntmps66
    go_wp2
    go_ret
    exact ⟨rfl, rfl⟩

/-- A size with its sign. -/
def sgn (b : Bool) (s : Nat) : Int := if b then -(s : Int) else (s : Int)
theorem signed_any (s : Nat) (b : Bool) (w : World) (h1 : s < 18446744073709551616) :
    Calls Tryd.prog 64 #[.int .u64 (s : Int), .bool b] w fun e w' => e = deedOf (sgn b s) ∧ w = w' := by
  cases b
  · have hs : sgn false s = (s : Int) := rfl
    rw [hs]
    by_cases h : (s : Int) ≤ 9223372036854775807
    · rw [deedOf_in (by omega)]
      go_enter Tryd.func64, Tryd.ntmps64
      go_wp2
      all_goals go_ret
      all_goals exact ⟨rfl, rfl⟩
    · rw [deedOf_out (by omega)]
      go_enter Tryd.func64, Tryd.ntmps64
      go_wp2
      all_goals exact ⟨rfl, rfl, rfl⟩
  · have hs : sgn true s = -(s : Int) := rfl
    rw [hs]
    by_cases h : (s : Int) ≤ 9223372036854775808
    · rw [deedOf_in (by omega)]
      have hw : wrap64 (-wrap64 (s : Int)) = -(s : Int) := by simp only [wrap64_eq]; omega
      go_enter Tryd.func64, Tryd.ntmps64
      go_wp2
      all_goals go_ret
      all_goals exact ⟨ret_int hw, rfl⟩
    · rw [deedOf_out (by omega)]
      go_enter Tryd.func64, Tryd.ntmps64
      go_wp2
      all_goals exact ⟨rfl, rfl, rfl⟩

/-- A product, divided; it goes too far where the quotient has more than 64 bits. -/
def scaledE (a b c : Nat) : Ending := if a * b / 18446744073709551616 < c then .returned (.int .u64 ((a * b / c : Nat) : Int)) else overE
theorem scaled_any (a b c : Nat) (w : World) (ha : a < 18446744073709551616) (hb : b < 18446744073709551616) (hc : c < 18446744073709551616) :
    Calls Tryd.prog 65 #[.int .u64 (a : Int), .int .u64 (b : Int), .int .u64 (c : Int)] w fun e w' => e = scaledE a b c ∧ Below w.heap.size w w' := by
  have k1 := fun w => Tryd.bits_Mul64 a b ha hb w
  by_cases h : a * b / 18446744073709551616 < c
  · have hE : scaledE a b c = .returned (.int .u64 ((a * b / c : Nat) : Int)) := if_pos h
    rw [hE]
    have k2 := fun w => div64_any (a * b / 18446744073709551616) (a * b % 18446744073709551616) c w (Nat.mod_lt _ (by decide)) hc h
    rw [Nat.div_add_mod'] at k2
    clear hE
    generalize a * b / 18446744073709551616 = H at k1 k2 h
    generalize a * b % 18446744073709551616 = L at k1 k2
    generalize a * b / c = Z at k2 ⊢
    have hd : ¬ ((c : Int) ≤ (H : Int)) := by omega
    go_enter Tryd.func65, Tryd.ntmps65
    go_wp2_with (first | (go_at_call 92; refine (k1 _).mono ?_; rintro e w' ⟨rfl, rfl⟩) | (go_at_call 93; refine (k2 _).mono ?_; rintro e w' ⟨⟨r, rfl⟩, hb1⟩))
    all_goals go_ret
    all_goals exact ⟨rfl, hb1⟩
  · have hE : scaledE a b c = overE := if_neg h
    rw [hE]
    clear hE
    generalize a * b / 18446744073709551616 = H at k1 h
    generalize a * b % 18446744073709551616 = L at k1
    have hd : ((c : Int) ≤ (H : Int)) := by omega
    go_enter Tryd.func65, Tryd.ntmps65
    go_wp2_with (first | (go_at_call 92; refine (k1 _).mono ?_; rintro e w' ⟨rfl, rfl⟩))
    all_goals exact ⟨rfl, rfl, Below.refl _ _⟩
end Go.Proofs.YtokfkckfclnoaaaDoor
