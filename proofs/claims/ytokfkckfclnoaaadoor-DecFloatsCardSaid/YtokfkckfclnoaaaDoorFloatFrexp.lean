/- The library's Frexp, of a float that is above 0 and finite: a part of 53 bits and a power. -/
import Derived.Test.YtokfkckfclnoaaaDoorFloatSplit
namespace Go.Proofs.YtokfkckfclnoaaaDoor
open Go.RowKit

theorem bits_exp (y : Nat) (h : y < 9223372036854775808) : bits .and .u64 ((y : Int) / 4503599627370496) 2047 = ((y / 4503599627370496 : Nat) : Int) := by
  have e : ((2047 : Nat) : Int) = (2047 : Int) := rfl
  have e1 : (y : Int) / 4503599627370496 = ((y / 4503599627370496 : Nat) : Int) := by omega
  rw [e1, ← e, u64_and _ _ (by omega) (by omega) (by omega) (by omega), Int.toNat_natCast, Int.toNat_natCast]
  have e2 : (2047 : Nat) = 2 ^ 11 - 1 := by decide
  rw [e2, Nat.and_two_pow_sub_one_eq_mod, Nat.mod_eq_of_lt (by omega)]
theorem bits_frac (y : Nat) (h : y < 9223372036854775808) : bits .andNot .u64 (y : Int) 9218868437227405312 = ((y % 4503599627370496 : Nat) : Int) := by
  have e : ((9218868437227405312 : Nat) : Int) = (9218868437227405312 : Int) := rfl
  rw [← e, u64_andNot_nat y 9218868437227405312 (by omega) (by decide)]
  have e2 : (18446744073709551615 - 9218868437227405312 : Nat) = 2 ^ 63 + (2 ^ 52 - 1) := by decide
  rw [e2]
  congr 1
  have e4 : y &&& (2 ^ 63 + (2 ^ 52 - 1)) = y % 2 ^ 52 := by
    rw [← Nat.and_two_pow_sub_one_eq_mod, show (2 ^ 63 + (2 ^ 52 - 1) : Nat) = 2 ^ 63 ||| (2 ^ 52 - 1) by decide]
    refine Nat.eq_of_testBit_eq fun i => ?_
    rw [Nat.testBit_and, Nat.testBit_and, Nat.testBit_or, Nat.testBit_two_pow]
    by_cases hi : 63 = i
    · have : y.testBit i = false := Nat.testBit_lt_two_pow (Nat.lt_of_lt_of_le h (Nat.pow_le_pow_right (by decide) (by omega) : 2 ^ 63 ≤ 2 ^ i))
      rw [this]; rfl
    · rw [decide_eq_false hi, Bool.false_or]
  exact e4
theorem bits_half (m : Nat) (h : m < 4503599627370496) : bits .or .u64 (m : Int) 4602678819172646912 = ((4602678819172646912 + m : Nat) : Int) := by
  have e : ((4602678819172646912 : Nat) : Int) = (4602678819172646912 : Int) := rfl
  rw [← e, u64_or _ _ (by omega) (by omega) (by omega) (by omega), Int.toNat_natCast, Int.toNat_natCast]
  have e2 : (4602678819172646912 : Nat) = 2 ^ 52 * 1022 := by decide
  rw [e2, Nat.or_comm, ← Nat.two_pow_add_eq_or_of_lt h]

theorem frexp_any (r y : Nat) (e0 : Int) (w : World) (hr : r < infR) (h0 : 0 < r) (hy1 : 4503599627370496 ≤ y) (hy2 : y < infR) (he : -52 ≤ e0 ∧ e0 ≤ 0)
    (kn : ∀ w, Calls Tryd.prog 136 #[.float .f64 r] w fun e w' => e = .returned (.tuple #[.float .f64 y, .int .i64 e0]) ∧ w = w') :
    Calls Tryd.prog 126 #[.float .f64 r] w fun e w' => e = .returned (.tuple #[.float .f64 (4602678819172646912 + y % 4503599627370496), .int .i64 (e0 + ((y / 4503599627370496 : Nat) - 1023 + 1))]) ∧ w = w' := by
  have hI : infR = 9218868437227405312 := rfl
  have hrr : rung r = r := rung_self (by omega)
  have k1 := fun w => isInf_any r w (by omega)
  have k2 := fun w => isNaN_any r w
  rw [hrr, isInf_fin r hr] at k1
  rw [isNaN_fin r (by rw [hrr]; exact hr)] at k2
  have k3 : (FloatKind.f64.format.order r 0 == some .eq) = false := by
    rw [order_pos r 0 hr (by decide), Nat.compare_eq_gt.2 h0]; rfl
  have h1 := run_bits y
  have h3 := bits_exp y (by omega)
  have h4 := bits_frac y (by omega)
  have h5 := bits_half (y % 4503599627370496) (by omega)
  have h6 := run_frombits ((4602678819172646912 + y % 4503599627370496 : Nat) : Int)
  rw [Int.toNat_natCast] at h6
  have q1 : y / 4503599627370496 < 2047 := by omega
  clear hrr hr h0 hy1 hy2 hI
  generalize y / 4503599627370496 = E at *
  generalize (4602678819172646912 + y % 4503599627370496) = F at *
  generalize y % 4503599627370496 = M at *
  generalize hY : (y : Int) = Y at *
  clear hY
  generalize hE : (E : Int) = Ei at *
  have q2 : 0 ≤ Ei ∧ Ei < 2047 := by omega
  clear q1 hE
  generalize (F : Int) = Fi at *
  generalize (M : Int) = Mi at *
  go_enter Tryd.func126, Tryd.ntmps126
  go_wp2_with (first | (go_at_call 96; refine (k1 _).mono ?_; rintro e w' ⟨rfl, rfl⟩) | (go_at_call 95; refine (k2 _).mono ?_; rintro e w' ⟨rfl, rfl⟩) | (go_at_call 136; refine (kn _).mono ?_; rintro e w' ⟨rfl, rfl⟩))
  go_ret2
  exact ⟨rfl, rfl⟩

end Go.Proofs.YtokfkckfclnoaaaDoor
