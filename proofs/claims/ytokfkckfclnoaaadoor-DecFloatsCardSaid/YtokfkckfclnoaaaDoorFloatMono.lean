/- A greater word without a sign is a greater float. -/
import Derived.Test.YtokfkckfclnoaaaDoorFloatMath3
namespace Go.Proofs.YtokfkckfclnoaaaDoor
open Ieee

theorem lst_mono {r s : Nat} (h : r < s) : lst r < lst s := by
  unfold lst
  have hr := mgn_rung r
  have hs := mgn_rung s
  have hm := mgn_lt r
  have e1 : mgn s < 4503599627370496 → plc s = 0 ∧ mgn s = s := by
    intro hx; unfold mgn plc at *; split <;> simp_all; omega
  by_cases hp : plc r = plc s
  · rw [hp] at hr ⊢
    exact Nat.mul_lt_mul_of_pos_right (by omega) (Nat.two_pow_pos _)
  · have hlt : plc r < plc s := by
      have e2 : mgn r < 4503599627370496 → plc r = 0 ∧ mgn r = r := by
        intro hx; unfold mgn plc at *; split <;> simp_all; omega
      have hms := mgn_lt s
      by_cases h1 : mgn s < 4503599627370496
      · have := e1 h1; omega
      · by_cases h2 : mgn r < 4503599627370496
        · have := e2 h2; omega
        · omega
    have hms : 4503599627370496 ≤ mgn s := by
      by_cases h1 : mgn s < 4503599627370496
      · have := e1 h1; omega
      · omega
    have hpw : 2 ^ (plc r + 1) ≤ 2 ^ plc s := Nat.pow_le_pow_right (by decide) (by omega)
    have hpp := Nat.two_pow_pos (plc r)
    rw [Nat.pow_succ] at hpw
    calc mgn r * 2 ^ plc r < 9007199254740992 * 2 ^ plc r := Nat.mul_lt_mul_of_pos_right hm hpp
      _ = 4503599627370496 * (2 ^ plc r * 2) := by omega
      _ ≤ mgn s * (2 ^ plc r * 2) := Nat.mul_le_mul_right _ hms
      _ ≤ mgn s * 2 ^ plc s := Nat.mul_le_mul_left _ hpw
theorem rung_self {r : Nat} (h : r < 9223372036854775808) : rung r = r := by unfold rung; omega
theorem sgb_low {r : Nat} (h : r < 9223372036854775808) : sgb r = false := by
  unfold sgb
  have : r / 9223372036854775808 = 0 := by omega
  rw [this]; rfl
theorem infR_lt : infR < 9223372036854775808 := by decide
theorem sv_low {r : Nat} (h : r < 9223372036854775808) : sv r = (lst r : Int) := by
  unfold sv; rw [sgb_low h, rung_self h]; rfl
/-- Two floats that are not below 0 stand to each other as their words. -/
theorem order_pos (r s : Nat) (hr : r < infR) (hs : s < infR) : FloatKind.f64.format.order r s = some (compare r s) := by
  show double.order r s = _
  have hI := infR_lt
  rw [order_fin r s (by rw [rung_self (by omega)]; exact hr) (by rw [rung_self (by omega)]; exact hs), sv_low (by omega), sv_low (by omega)]
  congr 1
  rcases Nat.lt_trichotomy r s with h | h | h
  · rw [Nat.compare_eq_lt.2 h, Std.compare_eq_lt.2 (by have := lst_mono h; omega)]
  · subst h; rw [Std.compare_self, Std.compare_self]
  · rw [Nat.compare_eq_gt.2 h, Std.compare_eq_gt.2 (by have := lst_mono h; omega)]

end Go.Proofs.YtokfkckfclnoaaaDoor
