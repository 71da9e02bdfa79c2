/- Division bit by bit, in plain whole numbers: what stands in each figure of 32 bits of the quotient, and in the rest, when so many bits are left. No condition; no program stands in this file. -/
import Derived.Test.YtokfkckfclnoaaaGreatDoorDecRefHalf
namespace Go.Proofs.YtokfkckfclnoaaaGreatDoor
open Go.RowKit

/-- The figure k of the quotient q when n bits are left. -/
def word (q : Int) (n k : Nat) : Int := q / 2 ^ (max n (32 * k)) % 2 ^ (32 * (k + 1) - max n (32 * k))
def xL (q : Int) (n : Nat) : List Int := (List.range 12).map (word q n)
theorem xL_length (q : Int) (n : Nat) : (xL q n).length = 12 := by simp [xL]
theorem xL_get (q : Int) (n k : Nat) (h : k < 12) : (xL q n)[k]? = some (word q n k) := by
  unfold xL
  rw [List.getElem?_map, List.getElem?_range h]; rfl
theorem pow2_pos (k : Nat) : (0 : Int) < 2 ^ k := Int.pow_pos (by omega)
theorem word_start (q : Int) (k : Nat) (h : k < 12) : word q 384 k = 0 := by
  unfold word
  rw [show 32 * (k + 1) - max 384 (32 * k) = 0 by omega, Int.pow_zero, Int.emod_one]
theorem xL_start (q : Int) : xL q 384 = List.replicate 12 0 := by
  unfold xL
  have : ∀ k ∈ List.range 12, word q 384 k = 0 := fun k hk => word_start q k (by simpa using hk)
  rw [List.map_congr_left this]; rfl
theorem wide_pow (k : Nat) : wide k = 2 ^ (32 * k) := by
  induction k with
  | zero => rfl
  | succ k ih => rw [wide, ih, show 32 * (k + 1) = 32 * k + 32 by omega, Int.pow_add, Int.mul_comm]; rfl
theorem digs_get (k : Nat) : ∀ (n : Int) (j : Nat), j < k → (digs k n)[j]? = some (n / 2 ^ (32 * j) % 4294967296) := by
  induction k with
  | zero => intro n j h; omega
  | succ k ih =>
    intro n j h
    cases j with
    | zero => simp [digs]
    | succ j =>
      show (digs k (n / 4294967296))[j]? = _
      rw [ih _ j (by omega), Int.ediv_ediv_of_nonneg (by omega), show 32 * (j + 1) = 32 + 32 * j by omega, Int.pow_add]
      rfl
theorem xL_end (q : Int) : xL q 0 = digs 12 q := by
  refine List.ext_getElem? (fun j => ?_)
  by_cases h : j < 12
  · rw [xL_get q 0 j h, digs_get 12 q j h]
    unfold word
    rw [show max 0 (32 * j) = 32 * j by omega, show 32 * (j + 1) - 32 * j = 32 by omega]
    rfl
  · rw [List.getElem?_eq_none (by rw [xL_length]; omega), List.getElem?_eq_none (by rw [digs_length]; omega)]
theorem half_pow (q : Int) (i : Nat) : q / 2 ^ (i + 1) = q / 2 ^ i / 2 := by
  rw [Int.pow_succ, Int.ediv_ediv_of_nonneg (Int.le_of_lt (pow2_pos i))]
theorem word_other (q : Int) (i k : Nat) (h : k ≠ i / 32) : word q i k = word q (i + 1) k := by
  unfold word
  by_cases hk : k < i / 32
  · rw [show 32 * (k + 1) - max i (32 * k) = 0 by omega, show 32 * (k + 1) - max (i + 1) (32 * k) = 0 by omega, Int.pow_zero, Int.emod_one, Int.emod_one]
  · rw [show max i (32 * k) = 32 * k by omega, show max (i + 1) (32 * k) = 32 * k by omega]
theorem emod_twice (x t : Int) (ht : 0 < t) : x % (t * 2) = 2 * (x / 2 % t) + x % 2 := by
  have h1 : x = 2 * (x / 2) + x % 2 := by omega
  have h2 := Int.mul_ediv_add_emod (x / 2) t
  have h3 := Int.emod_nonneg (x / 2) (Int.ne_of_gt ht)
  have h4 := Int.emod_lt_of_pos (x / 2) ht
  have e : x = (2 * (x / 2 % t) + x % 2) + (x / 2 / t) * (t * 2) := by
    rw [Int.mul_comm t 2, ← Int.mul_assoc, Int.mul_comm (x / 2 / t) 2, Int.mul_assoc, Int.mul_comm (x / 2 / t) t]
    omega
  conv => lhs; rw [e]
  rw [Int.add_mul_emod_self_right, Int.emod_eq_of_lt (by omega) (by omega)]
theorem word_same (q : Int) (i : Nat) : word q i (i / 32) = 2 * word q (i + 1) (i / 32) + q / 2 ^ i % 2 := by
  unfold word
  rw [show max i (32 * (i / 32)) = i by omega, show max (i + 1) (32 * (i / 32)) = i + 1 by omega]
  obtain ⟨e, he⟩ : ∃ e, 32 * (i / 32 + 1) - (i + 1) = e := ⟨_, rfl⟩
  rw [show 32 * (i / 32 + 1) - i = e + 1 by omega, he, Int.pow_succ, half_pow]
  exact emod_twice _ _ (pow2_pos e)
theorem word_bounds (q : Int) (i : Nat) : 0 ≤ word q (i + 1) (i / 32) ∧ word q (i + 1) (i / 32) ≤ 2147483647 := by
  unfold word
  rw [show max (i + 1) (32 * (i / 32)) = i + 1 by omega]
  obtain ⟨e, he⟩ : ∃ e, 32 * (i / 32 + 1) - (i + 1) = e := ⟨_, rfl⟩
  rw [he]
  have h1 := Int.emod_nonneg (q / 2 ^ (i + 1)) (Int.ne_of_gt (pow2_pos e))
  have h2 := Int.emod_lt_of_pos (q / 2 ^ (i + 1)) (pow2_pos e)
  have h3 : (2 : Int) ^ e ≤ 2 ^ 31 := by
    have h := Int.ofNat_le.2 (Nat.pow_le_pow_right (n := 2) (by omega) (show e ≤ 31 by omega))
    rwa [Int.natCast_pow, Int.natCast_pow] at h
  have h4 : (2 : Int) ^ 31 = 2147483648 := rfl
  omega
theorem xL_step (q v : Int) (i : Nat) (_hi : i < 384) (hv : v = 2 * word q (i + 1) (i / 32) + q / 2 ^ i % 2) : (xL q (i + 1)).set (i / 32) v = xL q i := by
  refine List.ext_getElem? (fun k => ?_)
  by_cases h : k < 12
  · rw [xL_get q i k h]
    by_cases hk : k = i / 32
    · subst hk
      rw [List.getElem?_set_self (by rw [xL_length]; omega), word_same, hv]
    · rw [List.getElem?_set_ne (by omega), xL_get q (i + 1) k h, word_other q i k hk]
  · rw [List.getElem?_eq_none (by rw [List.length_set, xL_length]; omega), List.getElem?_eq_none (by rw [xL_length]; omega)]

/-- The rest when n bits are left. -/
def restL (n m : Int) (k : Nat) : Int := n / 2 ^ k % m
theorem div_step (n m : Int) (i : Nat) (hm : 0 < m) :
    (restL n m (i + 1) * 2 + n / 2 ^ i % 2 < m → restL n m i = restL n m (i + 1) * 2 + n / 2 ^ i % 2 ∧ n / m / 2 ^ i % 2 = 0) ∧
    (¬ restL n m (i + 1) * 2 + n / 2 ^ i % 2 < m → restL n m i = restL n m (i + 1) * 2 + n / 2 ^ i % 2 - m ∧ n / m / 2 ^ i % 2 = 1) := by
  unfold restL
  rw [half_pow]
  have hq : n / m / 2 ^ i = n / 2 ^ i / m := by
    rw [Int.ediv_ediv_of_nonneg (Int.le_of_lt hm), Int.ediv_ediv_of_nonneg (Int.le_of_lt (pow2_pos i)), Int.mul_comm]
  rw [hq]
  generalize n / 2 ^ i = X
  have h2 := Int.mul_ediv_add_emod (X / 2) m
  have h3 := Int.emod_nonneg (X / 2) (Int.ne_of_gt hm)
  have h4 := Int.emod_lt_of_pos (X / 2) hm
  generalize X / 2 % m = r at *
  generalize hy : X / 2 / m = y at *
  have hX : X = (r * 2 + X % 2) + (2 * y) * m := by
    have : X = 2 * (X / 2) + X % 2 := by omega
    rw [Int.mul_assoc, Int.mul_comm y m]; omega
  obtain ⟨b, hb⟩ : ∃ b, b = X % 2 := ⟨_, rfl⟩
  have hb2 : 0 ≤ b ∧ b ≤ 1 := by omega
  rw [← hb] at hX ⊢
  clear hb
  constructor
  · intro h
    rw [hX, Int.add_mul_emod_self_right, Int.add_mul_ediv_right _ _ (Int.ne_of_gt hm), Int.emod_eq_of_lt (by omega) h, Int.ediv_eq_zero_of_lt (by omega) h]
    exact ⟨rfl, by omega⟩
  · intro h
    have e : (r * 2 + b) + (2 * y) * m = (r * 2 + b - m) + (2 * y + 1) * m := by rw [Int.add_mul, Int.one_mul]; omega
    rw [hX, e, Int.add_mul_emod_self_right, Int.add_mul_ediv_right _ _ (Int.ne_of_gt hm), Int.emod_eq_of_lt (by omega) (by omega), Int.ediv_eq_zero_of_lt (by omega) (by omega)]
    exact ⟨rfl, by omega⟩
theorem rest_bounds (n m : Int) (k : Nat) (hm : 0 < m) : 0 ≤ restL n m k ∧ restL n m k < m := ⟨Int.emod_nonneg _ (Int.ne_of_gt hm), Int.emod_lt_of_pos _ hm⟩
theorem rest_start (n m : Int) (_hm : 0 < m) (h0 : 0 ≤ n) (h1 : n < wide 12) : restL n m 384 = 0 := by
  unfold restL
  have hw : wide 12 = 2 ^ 384 := wide_pow 12
  rw [Int.ediv_eq_zero_of_lt h0 (by rw [← hw]; exact h1), Int.zero_emod]
/-- A bit of a figure is a bit of the number. -/
theorem bit_of (n d : Int) (i : Nat) (hd : d = n / 2 ^ (32 * (i / 32)) % 4294967296) : (d / 2 ^ (i % 32)).tmod 2 = n / 2 ^ i % 2 := by
  have h0 : 0 ≤ d := by omega
  rw [Int.tmod_eq_emod_of_nonneg (Int.ediv_nonneg h0 (Int.le_of_lt (pow2_pos _)))]
  have e : (2 : Int) ^ i = 2 ^ (32 * (i / 32)) * 2 ^ (i % 32) := by rw [← Int.pow_add]; congr 1; omega
  rw [e, ← Int.ediv_ediv_of_nonneg (Int.le_of_lt (pow2_pos _))]
  generalize n / 2 ^ (32 * (i / 32)) = X at *
  rw [hd]
  have hs : i % 32 < 32 := Nat.mod_lt _ (by decide)
  generalize i % 32 = s at *
  have hc : s = 0 ∨ s = 1 ∨ s = 2 ∨ s = 3 ∨ s = 4 ∨ s = 5 ∨ s = 6 ∨ s = 7 ∨ s = 8 ∨ s = 9 ∨ s = 10 ∨ s = 11 ∨ s = 12 ∨ s = 13 ∨ s = 14 ∨ s = 15 ∨ s = 16 ∨ s = 17 ∨ s = 18 ∨ s = 19 ∨ s = 20 ∨ s = 21 ∨ s = 22 ∨ s = 23 ∨ s = 24 ∨ s = 25 ∨ s = 26 ∨ s = 27 ∨ s = 28 ∨ s = 29 ∨ s = 30 ∨ s = 31 := by omega
  rcases hc with rfl | rfl | rfl | rfl | rfl | rfl | rfl | rfl | rfl | rfl | rfl | rfl | rfl | rfl | rfl | rfl | rfl | rfl | rfl | rfl | rfl | rfl | rfl | rfl | rfl | rfl | rfl | rfl | rfl | rfl | rfl | rfl <;> omega
end Go.Proofs.YtokfkckfclnoaaaGreatDoor
