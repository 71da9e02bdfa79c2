/- Floats of 64 bits as whole numbers: each finite one is a whole number of the least one. No condition; no program stands in this file. -/
import Derived.Laws.FloatArith
import Derived.Laws.FloatBits
namespace Go.Proofs.YtokfkckfclnoaaaDoor
open Ieee

/-- Without its sign. -/
def rung (b : Nat) : Nat := b % 9223372036854775808
def sgb (b : Nat) : Bool := b / 9223372036854775808 % 2 == 1
/-- The significand, and how far it stands above the least place. -/
def mgn (r : Nat) : Nat := if r < 4503599627370496 then r else 4503599627370496 + r % 4503599627370496
def plc (r : Nat) : Nat := if r < 4503599627370496 then 0 else r / 4503599627370496 - 1
/-- How many times the least one. -/
def lst (r : Nat) : Nat := mgn r * 2 ^ plc r
def infR : Nat := 9218868437227405312
theorem dbl_sw : double.signWeight = 9223372036854775808 := by decide
theorem dbl_bin : double.binade = 4503599627370496 := by decide
theorem dbl_inf : double.infRung = infR := by decide
theorem dbl_least : double.leastPlace = -1074 := by decide
theorem dbl_frac : double.fractionBits = 52 := rfl
theorem read_fin (b : Nat) (h : rung b < infR) : double.read b = .number (sgb b) (mgn (rung b)) (-1074 + (plc (rung b) : Int)) := by
  unfold Format.read
  simp only [dbl_sw, dbl_bin, dbl_inf, dbl_least]
  unfold mgn plc sgb
  show (if rung b < 4503599627370496 then _ else _) = _
  by_cases h1 : rung b < 4503599627370496
  · rw [if_pos h1, if_pos h1, if_pos h1]; rfl
  · rw [if_neg h1, if_neg h1, if_neg h1]
    show (if rung b < infR then _ else _) = _
    rw [if_pos h]; rfl
theorem read_inf (b : Nat) (h : rung b = infR) : double.read b = .infinity (sgb b) := by
  unfold Format.read
  simp only [dbl_sw, dbl_bin, dbl_inf, dbl_least]
  show (if rung b < 4503599627370496 then _ else if rung b < infR then _ else if rung b = infR then _ else _) = _
  have h0 : infR = 9218868437227405312 := rfl
  rw [if_neg (by omega), if_neg (by omega), if_pos h]; rfl
theorem read_nan (b : Nat) (h : infR < rung b) : double.read b = .nan (sgb b) (rung b - infR) := by
  unfold Format.read
  simp only [dbl_sw, dbl_bin, dbl_inf, dbl_least]
  show (if rung b < 4503599627370496 then _ else if rung b < infR then _ else if rung b = infR then _ else _) = _
  have h0 : infR = 9218868437227405312 := rfl
  rw [if_neg (by omega), if_neg (by omega), if_neg (by omega)]; rfl

theorem mgn_lt (r : Nat) : mgn r < 9007199254740992 := by unfold mgn; split <;> omega
theorem mgn_rung (r : Nat) : plc r * 4503599627370496 + mgn r = r := by
  unfold mgn plc
  split
  · omega
  · rename_i h
    have h1 : 1 ≤ r / 4503599627370496 := by omega
    rw [Nat.sub_mul]; omega
theorem cut_none (neg : Bool) (n : Nat) : Toward.even.cut neg n 0 = n := by
  unfold Toward.cut
  simp only [Nat.zero_min, Nat.shiftLeft_zero, Nat.div_one, Nat.mod_one]
  simp
theorem cut_exact (neg : Bool) (n d : Nat) (hn : 0 < n) : Toward.even.cut neg (n * 2 ^ d) d = n := by
  unfold Toward.cut
  have h1 : d ≤ (n * 2 ^ d).log2 := by
    refine (Nat.le_log2 (by have := Nat.two_pow_pos d; exact Nat.ne_of_gt (Nat.mul_pos hn this))).2 ?_
    exact Nat.le_mul_of_pos_left _ hn
  have h2 : min d ((n * 2 ^ d).log2 + 2) = d := by omega
  simp only [h2, Nat.one_shiftLeft]
  rw [Nat.mul_div_cancel _ (Nat.two_pow_pos d), Nat.mul_mod_left]
  have : ¬ (2 ^ d = 0) := Nat.ne_of_gt (Nat.two_pow_pos d)
  simp []
theorem log2_mul_pow (n d : Nat) (hn : n ≠ 0) : (n * 2 ^ d).log2 = n.log2 + d := by
  have hp := Nat.two_pow_pos d
  have hne : n * 2 ^ d ≠ 0 := Nat.mul_ne_zero hn (Nat.ne_of_gt hp)
  rw [Nat.log2_eq_iff hne]
  have h := (Nat.log2_eq_iff hn (k := n.log2)).1 rfl
  rw [Nat.pow_add, show n.log2 + d + 1 = (n.log2 + 1) + d by omega, Nat.pow_add 2 (n.log2 + 1) d]
  exact ⟨Nat.mul_le_mul_right _ h.1, Nat.mul_lt_mul_of_pos_right h.2 hp⟩

/-- A number that stands on a rung is written as it. -/
theorem nearest_exact (neg : Bool) (mag r p q : Nat) (place : Int) (hr : r < infR) (hpl : place + 1074 = (p : Int) - (q : Int)) (he : mag * 2 ^ p = lst r * 2 ^ q) :
    double.nearest neg mag place = double.word neg r := by
  have hp := Nat.two_pow_pos p
  have hq := Nat.two_pow_pos q
  unfold Format.nearest
  by_cases h0 : mag = 0
  · rw [if_pos h0]
    rw [h0, Nat.zero_mul] at he
    have h1 : lst r = 0 := by
      rcases Nat.mul_eq_zero.1 he.symm with h | h
      · exact h
      · omega
    have h2 : mgn r = 0 := by
      unfold lst at h1
      rcases Nat.mul_eq_zero.1 h1 with h | h
      · exact h
      · exact absurd h (Nat.ne_of_gt (Nat.two_pow_pos _))
    have h3 : r = 0 := by
      unfold mgn at h2
      split at h2
      · exact h2
      · omega
    rw [h3]
  · rw [if_neg h0]
    have hM : mgn r ≠ 0 := by
      intro h
      unfold lst at he
      rw [h, Nat.zero_mul, Nat.zero_mul] at he
      rcases Nat.mul_eq_zero.1 he with h | h
      · exact h0 h
      · omega
    have hlog : mag.log2 + p = (mgn r).log2 + (plc r + q) := by
      rw [← log2_mul_pow mag p h0, he]
      unfold lst
      rw [Nat.mul_assoc, ← Nat.pow_add, log2_mul_pow _ _ hM]
    have hlm : plc r = 0 ∧ (mgn r).log2 ≤ 52 ∨ (mgn r).log2 = 52 := by
      have hlt := mgn_lt r
      unfold plc
      by_cases h : r < 4503599627370496
      · left
        rw [if_pos h]
        refine ⟨rfl, ?_⟩
        have := (Nat.log2_lt hM (k := 53)).2 hlt
        omega
      · right
        rw [Nat.log2_eq_iff hM]
        refine ⟨?_, hlt⟩
        unfold mgn
        rw [if_neg h]
        omega
    rw [dbl_frac, dbl_least]
    simp only [dbl_bin, dbl_inf]
    have hlast : max (place + (mag.log2 : Int) - ((52 : Nat) : Int)) (-1074) = (plc r : Int) - 1074 := by
      rcases hlm with ⟨h1, h2⟩ | h1 <;> omega
    rw [hlast]
    have hkept : Toward.even.cut neg (mag <<< (place - ((plc r : Int) - 1074)).toNat) (((plc r : Int) - 1074) - place).toNat = mgn r := by
      by_cases hc : plc r + q ≤ p
      · have e1 : (place - ((plc r : Int) - 1074)).toNat = p - (plc r + q) := by omega
        have e2 : (((plc r : Int) - 1074) - place).toNat = 0 := by omega
        rw [e1, e2, cut_none, Nat.shiftLeft_eq]
        unfold lst at he
        have hpp : 2 ^ p = 2 ^ (p - (plc r + q)) * 2 ^ (plc r + q) := by rw [← Nat.pow_add]; congr 1; omega
        rw [hpp, ← Nat.mul_assoc, Nat.mul_assoc (mgn r), ← Nat.pow_add] at he
        exact Nat.eq_of_mul_eq_mul_right (Nat.two_pow_pos _) he
      · have e1 : (place - ((plc r : Int) - 1074)).toNat = 0 := by omega
        have e2 : (((plc r : Int) - 1074) - place).toNat = plc r + q - p := by omega
        rw [e1, e2, Nat.shiftLeft_zero]
        have hmag : mag = mgn r * 2 ^ (plc r + q - p) := by
          unfold lst at he
          have hpp : 2 ^ plc r * 2 ^ q = 2 ^ (plc r + q - p) * 2 ^ p := by rw [← Nat.pow_add, ← Nat.pow_add]; congr 1; omega
          rw [Nat.mul_assoc, hpp, ← Nat.mul_assoc] at he
          exact Nat.eq_of_mul_eq_mul_right (Nat.two_pow_pos _) he
        rw [hmag]
        exact cut_exact neg _ _ (Nat.pos_of_ne_zero hM)
    rw [hkept]
    congr 1
    have hmr := mgn_rung r
    have e : ((plc r : Int) - 1074 - -1074).toNat = plc r := by omega
    rw [e, hmr]
    exact Nat.min_eq_left (Nat.le_of_lt hr)
end Go.Proofs.YtokfkckfclnoaaaDoor
