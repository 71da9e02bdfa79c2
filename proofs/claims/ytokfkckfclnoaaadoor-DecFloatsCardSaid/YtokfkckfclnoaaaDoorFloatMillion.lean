/- A float above 0, a million times, in whole numbers: dec.million. -/
import Derived.Test.YtokfkckfclnoaaaDoorFloatPart
import Derived.Test.YtokfkckfclnoaaaDoorDecArith
import Derived.Test.YtokfkckfclnoaaaDoorFloatShift
namespace Go.Proofs.YtokfkckfclnoaaaDoor
open Go.RowKit

theorem million_over (r m : Nat) (p : Int) (w : World) (hp : 44 < p)
    (kf : ∀ w, Calls Tryd.prog 113 #[.float .f64 r] w fun e w' => e = .returned (.tuple #[.float .f64 m, .int .i64 p]) ∧ w = w') :
    Calls Tryd.prog 97 #[.float .f64 r] w fun e w' => e = overE ∧ w = w' := by
  unfold overE
  go_enter Tryd.func97, Tryd.ntmps97
  go_wp2_with (go_at_call 113; refine (kf _).mono ?_; rintro e w' ⟨rfl, rfl⟩)
  exact ⟨rfl, rfl, rfl⟩

theorem million_walk (r x q m d : Nat) (p : Int) (w : World) (hp : p ≤ 44) (hp2 : -1073 ≤ p) (hd : 53 - p = (d : Int))
    (kf : ∀ w, Calls Tryd.prog 113 #[.float .f64 r] w fun e w' => e = .returned (.tuple #[.float .f64 x, .int .i64 p]) ∧ w = w')
    (hmul : FloatKind.f64.format.mul x 4845873199050653696 = some q) (hint : floatToIntVal .f64 q .u64 = some (m : Int)) (hm : m < 9007199254740992) :
    Calls Tryd.prog 97 #[.float .f64 r] w fun e w' => e = .returned (.int .u64 ((m * 1000000 / 2 ^ d : Nat) : Int)) ∧ w = w' := by
  have k1 : ∀ w, Calls Tryd.prog 66 #[.int .i64 1000000] w fun e w' => e = .returned (.int .u64 1000000) ∧ w = w' := fun w => magn_any 1000000 w (by decide)
  have k2 : ∀ w, Calls Tryd.prog 92 #[.int .u64 (m : Int), .int .u64 1000000] w _ := fun w => Tryd.bits_Mul64 m 1000000 (by omega) (by decide) w
  have k3 := fun (w : World) (t : TypeId) => run_float_arith (P := Tryd.prog) w .mul t .f64 x 4845873199050653696 q hmul
  have k4 := fun (w : World) => run_convert_float_int (P := Tryd.prog) w 38 66 .f64 .u64 q m (by kernel_rfl) (by kernel_rfl) hint
  have hz := shifted (m * 1000000) d (by omega) (by omega) (by omega)
  rw [Int.natCast_mul] at hz
  generalize m * 1000000 / 2 ^ d = Z at hz ⊢
  go_enter Tryd.func97, Tryd.ntmps97
  go_wp2_with (first | (go_at_call 113; refine (kf _).mono ?_; rintro e w' ⟨rfl, rfl⟩) | (go_at_call 66; refine (k1 _).mono ?_; rintro e w' ⟨rfl, rfl⟩) | (go_at_call 92; refine (k2 _).mono ?_; rintro e w' ⟨rfl, rfl⟩))
  go_ret
  exact ⟨ret_int hz, rfl⟩

theorem pow_two (a b c : Nat) (h : c = a + b) : (2 : Nat) ^ c = 2 ^ a * 2 ^ b := by rw [h, Nat.pow_add]
theorem pow_four (m a b c d e : Nat) (h : a + (b + c) = d + e) : m * 2 ^ a * (2 ^ b * 2 ^ c) = m * 2 ^ d * 2 ^ e := by
  rw [Nat.mul_assoc, Nat.mul_assoc, ← Nat.pow_add, ← Nat.pow_add, ← Nat.pow_add, h]
theorem mul_div_pow (m a : Nat) : m * 2 ^ a / 2 ^ a = m := Nat.mul_div_cancel m (Nat.two_pow_pos a)
theorem mill_eq (l m k : Nat) (a b c : Nat) (h : c = a + b) (h3 : m * 2 ^ k = l * 2 ^ b) : l * 1000000 / 2 ^ a = m * 2 ^ k * 1000000 / 2 ^ c := by
  rw [h3, Nat.mul_right_comm, pow_two a b c h, Nat.mul_div_mul_right _ _ (Nat.two_pow_pos b)]
theorem mill_far (m k a b c : Nat) (hc : c = a + b) (hk : b ≤ k) (hm : 4503599627370496 ≤ m) : 4503599627370496 * 1000000 / 2 ^ a ≤ m * 2 ^ k * 1000000 / 2 ^ c := by
  have hkk : 2 ^ b ≤ 2 ^ k := Nat.pow_le_pow_right (by decide) hk
  have hle : 4503599627370496 * 2 ^ b * 1000000 ≤ m * 2 ^ k * 1000000 := Nat.mul_le_mul_right _ (Nat.mul_le_mul hm hkk)
  refine Nat.le_trans (Nat.le_of_eq ?_) (Nat.div_le_div_right hle)
  rw [Nat.mul_right_comm _ (2 ^ b), pow_two a b c hc, Nat.mul_div_mul_right _ _ (Nat.two_pow_pos b)]
theorem part_of (m : Nat) (h1 : 4503599627370496 ≤ m) (h2 : m < 9007199254740992) :
    ∃ q, FloatKind.f64.format.mul (4602678819172646912 + (m - 4503599627370496)) 4845873199050653696 = some q ∧ floatToIntVal .f64 q .u64 = some (m : Int) := by
  have hI : infR = 9218868437227405312 := rfl
  obtain ⟨q, hq, hl⟩ := rung_of m 1074 h2 (by
    have : m.log2 < 53 := (Nat.log2_lt (by omega)).2 h2
    omega)
  have hx : 4602678819172646912 + (m - 4503599627370496) < infR := by omega
  have hlx : lst (4602678819172646912 + (m - 4503599627370496)) = m * 2 ^ 1021 := by
    unfold lst mgn plc
    rw [if_neg (by omega), if_neg (by omega)]
    rw [show 4503599627370496 + (4602678819172646912 + (m - 4503599627370496)) % 4503599627370496 = m by omega, show (4602678819172646912 + (m - 4503599627370496)) / 4503599627370496 - 1 = 1021 by omega]
  have hlc : lst 4845873199050653696 = 2 ^ 52 * 2 ^ 1075 := by
    unfold lst
    rw [show mgn 4845873199050653696 = 2 ^ 52 by decide, show plc 4845873199050653696 = 1075 by decide]
  refine ⟨q, ?_, ?_⟩
  · have hr1 : rung (4602678819172646912 + (m - 4503599627370496)) = 4602678819172646912 + (m - 4503599627370496) := rung_self (by omega)
    have hr2 : rung 4845873199050653696 = 4845873199050653696 := by decide
    have := mul_fin (4602678819172646912 + (m - 4503599627370496)) 4845873199050653696 q (by rw [hr1]; exact hx) (by rw [hr2]; decide) hq (by
      rw [hr1, hr2, hlx, hlc, hl]; exact pow_four m 1021 52 1075 1074 1074 (by decide))
    show Ieee.double.mul _ _ = _
    rw [this, sgb_low (by omega), sgb_low (by decide)]
    exact congrArg some word_low
  · have ht := toInt_fin q (by rw [rung_self (by omega)]; exact hq)
    have hq1 : lst q / 2 ^ 1074 = m := by
      rw [hl]; exact mul_div_pow m 1074
    rw [sgb_low (by omega), rung_self (by omega), hq1] at ht
    unfold floatToIntVal
    have hdec : (FloatKind.f64.decode q).toInt .zero = some (m : Int) := ht
    rw [hdec]
    show (if IntKind.u64.min ≤ (m : Int) ∧ (m : Int) ≤ IntKind.u64.max then some (m : Int) else none) = _
    have e1 : IntKind.u64.min = 0 := by decide
    have e2 : IntKind.u64.max = 18446744073709551615 := by decide
    rw [e1, e2, if_pos (by omega)]

/-- A float a million times, cut. -/
def mill (r : Nat) : Nat := lst r * 1000000 / 2 ^ 1074

theorem million_any (r : Nat) (hr : r < infR) (h0 : 0 < r) :
    (mill r < 18446744073709551616 ∧ ∀ w, Calls Tryd.prog 97 #[.float .f64 r] w fun e w' => e = .returned (.int .u64 ((mill r : Nat) : Int)) ∧ w = w') ∨
    (9223372036854775808 < mill r ∧ ∀ w, Calls Tryd.prog 97 #[.float .f64 r] w fun e w' => e = overE ∧ w = w') := by
  obtain ⟨m, k, ⟨h1, h2, h3, h4⟩, kf⟩ := frexp_pos r hr h0
  have hm : mill r = m * 2 ^ k * 1000000 / 2 ^ 1126 := mill_eq (lst r) m k 1074 52 1126 (by decide) h3
  have kt := fun w => frexp_top r _ _ kf w
  clear kf h3
  by_cases hk : k ≤ 1117
  · left
    have hq : mill r = m * 1000000 / 2 ^ (1126 - k) := by
      rw [hm, show m * 2 ^ k * 1000000 = m * 1000000 * 2 ^ k by ac_rfl, show (2 : Nat) ^ 1126 = 2 ^ (1126 - k) * 2 ^ k by rw [← Nat.pow_add, Nat.sub_add_cancel (by omega)], Nat.mul_div_mul_right _ _ (Nat.two_pow_pos k)]
    refine ⟨?_, fun w => ?_⟩
    · rw [hq]
      have : 2 ^ 9 ≤ 2 ^ (1126 - k) := Nat.pow_le_pow_right (by decide) (by omega)
      refine Nat.lt_of_le_of_lt (Nat.div_le_div_left this (by decide)) ?_
      omega
    · obtain ⟨q, q1, q2⟩ := part_of m h1 h2
      rw [hq]
      exact million_walk r _ q m (1126 - k) ((k : Int) - 1073) w (by omega) (by omega) (by omega) kt q1 q2 h2
  · right
    refine ⟨?_, fun w => million_over r _ ((k : Int) - 1073) w (by omega) kt⟩
    rw [hm]
    refine Nat.lt_of_lt_of_le ?_ (mill_far m k 8 1118 1126 (by decide) (by omega) h1)
    decide

end Go.Proofs.YtokfkckfclnoaaaDoor
