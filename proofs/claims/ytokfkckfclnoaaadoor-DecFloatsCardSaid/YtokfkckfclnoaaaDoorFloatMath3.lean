/- Floats of 64 bits as whole numbers: products, differences, whole parts. No condition; no program stands in this file. -/
import Derived.Test.YtokfkckfclnoaaaDoorFloatMath2
namespace Go.Proofs.YtokfkckfclnoaaaDoor
open Ieee

theorem mul_fin (x y r : Nat) (hx : rung x < infR) (hy : rung y < infR) (hr : r < infR) (h : lst (rung x) * lst (rung y) = lst r * 2 ^ 1074) : double.mul x y = some (double.word (sgb x ^^ sgb y) r) := by
  unfold Format.mul
  rw [read_fin x hx, read_fin y hy]
  show some (double.nearest _ _ _) = _
  congr 1
  refine nearest_exact _ _ r (plc (rung x) + plc (rung y)) 1074 _ hr (by omega) ?_
  rw [← h]
  unfold lst
  rw [Nat.pow_add, Nat.mul_assoc, Nat.mul_assoc, ← Nat.mul_assoc (mgn (rung y)), Nat.mul_comm (mgn (rung y)) (2 ^ plc (rung x)), Nat.mul_assoc]
theorem sub_fin (x y r : Nat) (hx : rung x < infR) (hy : rung y < infR) (hr : r < infR) (h : (sv x - sv y).natAbs = lst r) :
    double.sub x y = some (double.word (if sv x - sv y = 0 then sgb x && !sgb y else decide (sv x - sv y < 0)) r) := by
  unfold Format.sub
  rw [read_fin x hx, read_fin y hy]
  obtain ⟨k, hk⟩ : ∃ k, k = min (plc (rung x)) (plc (rung y)) := ⟨_, rfl⟩
  have hbase : min (-1074 + (plc (rung x) : Int)) (-1074 + (plc (rung y) : Int)) = -1074 + (k : Int) := by omega
  have h1 := signed_sv x (-1074 + (k : Int)) k rfl (by omega)
  have h2 := signed_sv y (-1074 + (k : Int)) k rfl (by omega)
  have h3 : Ieee.signed (!sgb y) (mgn (rung y)) ((-1074 + (plc (rung y) : Int)) - (-1074 + (k : Int))).toNat = -Ieee.signed (sgb y) (mgn (rung y)) ((-1074 + (plc (rung y) : Int)) - (-1074 + (k : Int))).toNat := by
    rw [signed_eq, signed_eq]
    cases sgb y
    · rfl
    · show _ = - -_
      rw [Int.neg_neg]; rfl
  show ((Datum.sum (.number (sgb x) (mgn (rung x)) (-1074 + (plc (rung x) : Int))) (.number (!sgb y) (mgn (rung y)) (-1074 + (plc (rung y) : Int)))).map double.write) = _
  unfold Datum.sum
  simp only [hbase, h3]
  generalize Ieee.signed (sgb x) (mgn (rung x)) ((-1074 + (plc (rung x) : Int)) - (-1074 + (k : Int))).toNat = A at *
  generalize Ieee.signed (sgb y) (mgn (rung y)) ((-1074 + (plc (rung y) : Int)) - (-1074 + (k : Int))).toNat = B at *
  obtain ⟨t, ht⟩ : ∃ t, t = A + -B := ⟨_, rfl⟩
  rw [← ht]
  have hp : (0 : Int) < 2 ^ k := Int.pow_pos (by omega)
  have hT : t * 2 ^ k = sv x - sv y := by rw [ht, Int.add_mul, Int.neg_mul, h1, h2]; omega
  have e1 : (t = 0) ↔ (sv x - sv y = 0) := by
    rw [← hT]
    constructor
    · intro e; rw [e, Int.zero_mul]
    · intro e
      rcases Int.mul_eq_zero.1 e with e | e
      · exact e
      · omega
  have e2 : (t < 0) ↔ (sv x - sv y < 0) := by
    rw [← hT]
    constructor
    · intro e; exact Int.mul_neg_of_neg_of_pos e hp
    · intro e
      by_cases h0 : t < 0
      · exact h0
      · have := Int.mul_nonneg (show 0 ≤ t by omega) (Int.le_of_lt hp)
        omega
  show some (double.nearest _ t.natAbs (-1074 + (k : Int))) = _
  congr 1
  have e3 : (if t = 0 then sgb x && !sgb y else decide (t < 0)) = (if sv x - sv y = 0 then sgb x && !sgb y else decide (sv x - sv y < 0)) := by
    by_cases h0 : t = 0
    · rw [if_pos h0, if_pos (e1.1 h0)]
    · rw [if_neg h0, if_neg (fun e => h0 (e1.2 e))]
      congr 1
      exact propext e2
  rw [e3]
  refine nearest_exact _ _ r k 0 _ hr (by omega) ?_
  rw [Nat.pow_zero, Nat.mul_one, ← h, ← hT, Int.natAbs_mul]
  congr 1
theorem ofInt_fin (n : Int) (r : Nat) (hr : r < infR) (h : n.natAbs * 2 ^ 1074 = lst r) : double.write (.number (n < 0) n.natAbs 0) = double.word (decide (n < 0)) r := by
  show double.nearest _ _ _ = _
  exact nearest_exact _ _ r 1074 0 0 hr (by omega) (by rw [Nat.pow_zero, Nat.mul_one]; exact h)
theorem pow_split (K p : Nat) (h : p ≤ K) : (2 : Nat) ^ K = 2 ^ (K - p) * 2 ^ p := by rw [← Nat.pow_add, Nat.sub_add_cancel h]
theorem cut_zero (neg : Bool) (n d : Nat) : Toward.zero.cut neg n d = n / 2 ^ d := by
  unfold Toward.cut
  simp only [Nat.one_shiftLeft, Bool.toNat_false, Nat.add_zero]
  by_cases h : d ≤ n.log2 + 2
  · rw [Nat.min_eq_left h]
  · rw [Nat.min_eq_right (by omega)]
    have h1 : n < 2 ^ (n.log2 + 2) := Nat.lt_of_lt_of_le (Nat.lt_log2_self) (Nat.pow_le_pow_right (by omega) (by omega))
    have h2 : n < 2 ^ d := Nat.lt_of_lt_of_le h1 (Nat.pow_le_pow_right (by omega) (by omega))
    rw [Nat.div_eq_of_lt h1, Nat.div_eq_of_lt h2]
theorem whole_part (m p K : Nat) : m * 2 ^ (-(K : Int) + (p : Int)).toNat / 2 ^ (-(-(K : Int) + (p : Int))).toNat = m * 2 ^ p / 2 ^ K := by
  by_cases hp : K ≤ p
  · have e1 : (-(K : Int) + (p : Int)).toNat = p - K := by omega
    have e2 : (-(-(K : Int) + (p : Int))).toNat = 0 := by omega
    rw [e1, e2, pow_split p K hp, Nat.pow_zero, Nat.div_one, ← Nat.mul_assoc, Nat.mul_div_cancel _ (Nat.two_pow_pos _)]
  · have e1 : (-(K : Int) + (p : Int)).toNat = 0 := by omega
    have e2 : (-(-(K : Int) + (p : Int))).toNat = K - p := by omega
    rw [e1, e2, pow_split K p (by omega), Nat.pow_zero, Nat.mul_one, Nat.mul_div_mul_right _ _ (Nat.two_pow_pos _)]
/-- The whole part. -/
theorem toInt_fin (b : Nat) (h : rung b < infR) : (double.read b).toInt .zero = some (if sgb b then -((lst (rung b) / 2 ^ 1074 : Nat) : Int) else ((lst (rung b) / 2 ^ 1074 : Nat) : Int)) := by
  rw [read_fin b h]
  unfold Datum.toInt Datum.integral
  simp only []
  rw [signed_eq, cut_zero, Nat.shiftLeft_eq, Nat.pow_zero, Nat.mul_one]
  have e : mgn (rung b) * 2 ^ (-1074 + (plc (rung b) : Int)).toNat / 2 ^ (-(-1074 + (plc (rung b) : Int))).toNat = lst (rung b) / 2 ^ 1074 := by
    unfold lst
    generalize plc (rung b) = p
    generalize mgn (rung b) = m
    exact whole_part m p 1074
  rw [e]
end Go.Proofs.YtokfkckfclnoaaaDoor
