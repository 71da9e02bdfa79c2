/- Floats of 64 bits as whole numbers: which there are, how two compare, what doubling and taking away make. No condition; no program stands in this file. -/
import Derived.Test.YtokfkckfclnoaaaDoorFloatMath
namespace Go.Proofs.YtokfkckfclnoaaaDoor
open Ieee

theorem rung_of (m k : Nat) (hm : m < 9007199254740992) (hk : m.log2 + k < 2098) : ∃ r, r < infR ∧ lst r = m * 2 ^ k := by
  have hI : infR = 9218868437227405312 := rfl
  by_cases h0 : m = 0
  · exact ⟨0, by omega, by rw [h0, Nat.zero_mul]; rfl⟩
  have hl := log2_mul_pow m k h0
  have hne : m * 2 ^ k ≠ 0 := Nat.mul_ne_zero h0 (Nat.ne_of_gt (Nat.two_pow_pos _))
  have hm52 : m.log2 ≤ 52 := by have := (Nat.log2_lt h0 (k := 53)).2 hm; omega
  by_cases hs : m * 2 ^ k < 4503599627370496
  · refine ⟨m * 2 ^ k, by omega, ?_⟩
    unfold lst mgn plc
    rw [if_pos hs, if_pos hs, Nat.pow_zero, Nat.mul_one]
  · have hL : 52 ≤ (m * 2 ^ k).log2 := (Nat.le_log2 hne).2 (by have : 2 ^ 52 = 4503599627370496 := rfl; omega)
    obtain ⟨e, he⟩ : ∃ e, m.log2 + k = e + 52 := ⟨m.log2 + k - 52, by omega⟩
    have hek : e ≤ k := by omega
    obtain ⟨M, hM⟩ : ∃ M, M = m * 2 ^ (k - e) := ⟨_, rfl⟩
    have hMl : M.log2 = 52 := by rw [hM, log2_mul_pow m _ h0]; omega
    have hM0 : M ≠ 0 := by intro h; rw [h] at hMl; revert hMl; decide
    have hMb := (Nat.log2_eq_iff hM0 (k := 52)).1 hMl
    have e52 : 2 ^ 52 = 4503599627370496 := rfl
    have e53 : 2 ^ (52 + 1) = 9007199254740992 := rfl
    rw [e52, e53] at hMb
    have he2 : e ≤ 2045 := by omega
    refine ⟨e * 4503599627370496 + M, by omega, ?_⟩
    unfold lst mgn plc
    rw [if_neg (by omega), if_neg (by omega)]
    have e1 : 4503599627370496 + (e * 4503599627370496 + M) % 4503599627370496 = M := by omega
    have e2 : (e * 4503599627370496 + M) / 4503599627370496 - 1 = e := by omega
    rw [e1, e2, hM, Nat.mul_assoc, ← Nat.pow_add]
    congr 2
    omega
theorem word_eq (neg : Bool) (r : Nat) : double.word neg r = if neg then 9223372036854775808 + r else r := by
  unfold Format.word
  rw [dbl_sw]
theorem rung_word (neg : Bool) (r : Nat) (h : r < 9223372036854775808) : rung (double.word neg r) = r ∧ sgb (double.word neg r) = neg := by
  rw [word_eq]
  unfold rung sgb
  cases neg
  · simp only [Bool.false_eq_true, if_false]
    refine ⟨by omega, ?_⟩
    have : r / 9223372036854775808 = 0 := by omega
    rw [this]; rfl
  · simp only [if_true]
    refine ⟨by omega, ?_⟩
    have : (9223372036854775808 + r) / 9223372036854775808 = 1 := by omega
    rw [this]; rfl

/-- A finite float as a whole number of the least one. -/
def sv (b : Nat) : Int := if sgb b then -(lst (rung b) : Int) else (lst (rung b) : Int)
theorem cmp_scale (a b c : Int) (hc : 0 < c) : compare (a * c) (b * c) = compare a b := by
  rcases Int.lt_trichotomy a b with h | h | h
  · rw [(Std.compare_eq_lt).2 h, (Std.compare_eq_lt).2 (Int.mul_lt_mul_of_pos_right h hc)]
  · subst h; rw [Std.compare_self, Std.compare_self]
  · rw [(Std.compare_eq_gt).2 h, (Std.compare_eq_gt).2 (Int.mul_lt_mul_of_pos_right h hc)]
theorem signed_eq (s : Bool) (m u : Nat) : Ieee.signed s m u = if s then -((m * 2 ^ u : Nat) : Int) else ((m * 2 ^ u : Nat) : Int) := by
  unfold Ieee.signed
  rw [Nat.shiftLeft_eq]
/-- What a significand is, at a place that is not above its own. -/
theorem signed_sv (b : Nat) (base : Int) (k : Nat) (hk : base = -1074 + (k : Int)) (hb : k ≤ plc (rung b)) :
    Ieee.signed (sgb b) (mgn (rung b)) ((-1074 + (plc (rung b) : Int)) - base).toNat * 2 ^ k = sv b := by
  rw [signed_eq]
  have e : ((-1074 + (plc (rung b) : Int)) - base).toNat = plc (rung b) - k := by omega
  rw [e]
  unfold sv lst
  have h : (mgn (rung b) * 2 ^ (plc (rung b) - k) : Nat) * 2 ^ k = mgn (rung b) * 2 ^ plc (rung b) := by
    rw [Nat.mul_assoc, ← Nat.pow_add]
    congr 2
    omega
  have h2 : (((mgn (rung b) * 2 ^ (plc (rung b) - k) : Nat) : Int)) * 2 ^ k = ((mgn (rung b) * 2 ^ plc (rung b) : Nat) : Int) := by
    rw [← h, Int.natCast_mul ((mgn (rung b) * 2 ^ (plc (rung b) - k)))]
    rfl
  cases sgb b
  · exact h2
  · show -((mgn (rung b) * 2 ^ (plc (rung b) - k) : Nat) : Int) * 2 ^ k = -((mgn (rung b) * 2 ^ plc (rung b) : Nat) : Int)
    rw [Int.neg_mul, h2]
theorem order_fin (x y : Nat) (hx : rung x < infR) (hy : rung y < infR) : double.order x y = some (compare (sv x) (sv y)) := by
  unfold Format.order
  rw [read_fin x hx, read_fin y hy]
  show some (compare _ _) = _
  congr 1
  obtain ⟨k, hk⟩ : ∃ k, k = min (plc (rung x)) (plc (rung y)) := ⟨_, rfl⟩
  have hbase : min (-1074 + (plc (rung x) : Int)) (-1074 + (plc (rung y) : Int)) = -1074 + (k : Int) := by omega
  rw [hbase, ← signed_sv x _ k rfl (by omega), ← signed_sv y _ k rfl (by omega)]
  rw [cmp_scale]
  exact Int.pow_pos (by omega)
end Go.Proofs.YtokfkckfclnoaaaDoor
