/- Two words of 128 bits, moved down: as dec.million puts them together. -/
import Derived.Test.YtokfkckfclnoaaaDoorHexLeaf
import Derived.Laws.BitsAllLaws
namespace Go.Proofs.YtokfkckfclnoaaaDoor
open Go.RowKit

theorem or_none (a : Nat) (h : a < 18446744073709551616) : bits .or .u64 (a : Int) 0 = (a : Int) := by
  rw [u64_or _ _ (by omega) (by omega) (by omega) (by omega), Int.toNat_natCast, show (0 : Int).toNat = 0 by rfl, Nat.or_zero]
theorem none_or (a : Nat) (h : a < 18446744073709551616) : bits .or .u64 0 (a : Int) = (a : Int) := by
  rw [u64_or _ _ (by omega) (by omega) (by omega) (by omega), Int.toNat_natCast, show (0 : Int).toNat = 0 by rfl, Nat.zero_or]
theorem or_same (a : Nat) (h : a < 18446744073709551616) : bits .or .u64 (a : Int) (a : Int) = (a : Int) := by
  rw [u64_or _ _ (by omega) (by omega) (by omega) (by omega), Int.toNat_natCast, Nat.or_self]
theorem cast_pow (i : Nat) : ((2 ^ i : Nat) : Int) = (2 : Int) ^ i := by simp

theorem shifted (n d : Nat) (hd : 9 ≤ d) (hd2 : d ≤ 2000) (hn : n < 9444732965739290427392) :
    bits .or .u64 (bits .or .u64 ((n : Int) % 18446744073709551616 / 2 ^ min d 64) (IntKind.u64.wrap ((n : Int) / 18446744073709551616 * 2 ^ min (IntKind.u64.wrap (64 - (d : Int))).toNat 64)))
      ((n : Int) / 18446744073709551616 / 2 ^ min (IntKind.u64.wrap ((d : Int) - 64)).toNat 64) = ((n / 2 ^ d : Nat) : Int) := by
  have hh : (n : Int) / 18446744073709551616 = ((n / 18446744073709551616 : Nat) : Int) := by omega
  have hl : (n : Int) % 18446744073709551616 = ((n % 18446744073709551616 : Nat) : Int) := by omega
  have hnn : n = n / 18446744073709551616 * 18446744073709551616 + n % 18446744073709551616 := by omega
  have hhb : n / 18446744073709551616 < 512 := by omega
  have hlb : n % 18446744073709551616 < 18446744073709551616 := by omega
  rw [hh, hl]
  generalize n / 18446744073709551616 = H at *
  generalize n % 18446744073709551616 = L at *
  have e64 : (2 : Nat) ^ 64 = 18446744073709551616 := by decide
  have hH64 : ((H : Nat) : Int) / 2 ^ 64 = 0 := by rw [← cast_pow, e64]; omega
  have hL64 : ((L : Nat) : Int) / 2 ^ 64 = 0 := by rw [← cast_pow, e64]; omega
  rcases Nat.lt_trichotomy d 64 with h | h | h
  · have w1 : (IntKind.u64.wrap (64 - (d : Int))).toNat = 64 - d := by simp only [IntKind.wrap_u64]; omega
    have w2 : min (IntKind.u64.wrap ((d : Int) - 64)).toNat 64 = 64 := by simp only [IntKind.wrap_u64]; omega
    rw [w1, w2, hH64, Nat.min_eq_left (by omega : d ≤ 64), Nat.min_eq_left (by omega : 64 - d ≤ 64), ← cast_pow, ← cast_pow]
    have hp1 : 2 ^ (64 - d) ≤ 2 ^ 55 := Nat.pow_le_pow_right (by decide) (by omega)
    have hsp : 2 ^ (64 - d) * 2 ^ d = 18446744073709551616 := by rw [← Nat.pow_add, Nat.sub_add_cancel (by omega)]
    have hpd := Nat.two_pow_pos d
    have hpe := Nat.two_pow_pos (64 - d)
    have hq : n / 2 ^ d = 2 ^ (64 - d) * H + L / 2 ^ d := by
      rw [hnn, ← hsp, show H * (2 ^ (64 - d) * 2 ^ d) + L = 2 ^ d * (2 ^ (64 - d) * H) + L by ac_rfl, Nat.mul_add_div hpd]
    have hlow : L / 2 ^ d < 2 ^ (64 - d) := (Nat.div_lt_iff_lt_mul hpd).2 (by rw [hsp]; exact hlb)
    have hhigh : 2 ^ (64 - d) * H < 18446744073709551616 := by
      have : 2 ^ (64 - d) * H ≤ 2 ^ 55 * 511 := Nat.mul_le_mul hp1 (by omega)
      omega
    have hor : 2 ^ (64 - d) * H ||| L / 2 ^ d = 2 ^ (64 - d) * H + L / 2 ^ d := (Nat.two_pow_add_eq_or_of_lt hlow H).symm
    have hsum : 2 ^ (64 - d) * H + L / 2 ^ d < 18446744073709551616 := by
      rw [← hor, ← e64]
      exact Nat.or_lt_two_pow (by rw [e64]; exact hhigh) (by rw [e64]; omega)
    have c1 : ((L : Nat) : Int) / ((2 ^ d : Nat) : Int) = ((L / 2 ^ d : Nat) : Int) := by simp
    have c2 : ((H : Nat) : Int) * ((2 ^ (64 - d) : Nat) : Int) = ((2 ^ (64 - d) * H : Nat) : Int) := by rw [Nat.mul_comm, Int.natCast_mul]
    rw [c1, c2, hq]
    generalize 2 ^ (64 - d) * H = A at *
    generalize L / 2 ^ d = B at *
    have hw : IntKind.u64.wrap (A : Int) = (A : Int) := by simp only [IntKind.wrap_u64]; omega
    have hin : bits .or .u64 (B : Int) (A : Int) = ((A + B : Nat) : Int) := by
      rw [u64_or _ _ (by omega) (by omega) (by omega) (by omega), Int.toNat_natCast, Int.toNat_natCast, Nat.or_comm, hor]
    rw [hw, hin, or_none _ hsum]
  · subst h
    have w1 : (IntKind.u64.wrap (64 - ((64 : Nat) : Int))).toNat = 0 := by decide
    have w2 : (IntKind.u64.wrap (((64 : Nat) : Int) - 64)).toNat = 0 := by decide
    rw [w1, w2, Nat.min_self, hL64, Nat.min_eq_left (by decide), Int.pow_zero, Int.mul_one, Int.ediv_one]
    have hw : IntKind.u64.wrap (H : Int) = (H : Int) := by simp only [IntKind.wrap_u64]; omega
    rw [hw, none_or _ (by omega), or_same _ (by omega)]
    congr 1
    rw [e64]; omega
  · have w1 : min (IntKind.u64.wrap (64 - (d : Int))).toNat 64 = 64 := by simp only [IntKind.wrap_u64]; omega
    have w2 : (IntKind.u64.wrap ((d : Int) - 64)).toNat = d - 64 := by simp only [IntKind.wrap_u64]; omega
    rw [w1, w2, Nat.min_eq_right (by omega : 64 ≤ d), hL64]
    have hw : IntKind.u64.wrap ((H : Int) * 2 ^ 64) = 0 := by
      rw [← cast_pow, e64]; simp only [IntKind.wrap_u64]; omega
    have h00 : bits .or .u64 0 0 = 0 := none_or 0 (by decide)
    rw [hw, h00]
    have hq : n / 2 ^ d = H / 2 ^ (d - 64) := by
      have : n / 18446744073709551616 = H := by omega
      rw [← this, ← e64, Nat.div_div_eq_div_mul, ← Nat.pow_add, Nat.add_sub_cancel' (by omega)]
    rw [hq]
    have hHH : H / 2 ^ (d - 64) ≤ H := Nat.div_le_self _ _
    have key : ((H : Nat) : Int) / 2 ^ min (d - 64) 64 = ((H / 2 ^ (d - 64) : Nat) : Int) := by
      by_cases hb : d - 64 ≤ 64
      · rw [Nat.min_eq_left hb, ← cast_pow]; simp
      · rw [Nat.min_eq_right (by omega), hH64, Nat.div_eq_of_lt (Nat.lt_of_lt_of_le (by omega : H < 2 ^ 64) (Nat.pow_le_pow_right (by decide) (by omega)))]; rfl
    rw [key]
    exact none_or _ (by omega)

end Go.Proofs.YtokfkckfclnoaaaDoor
