/- How the document's way with a float ends: a hundred and twenty bits behind the point are enough. -/
import Derived.Test.YtokfkckfclnoaaaDoorFloatStart
namespace Go.Proofs.YtokfkckfclnoaaaDoor

theorem end_main_of (K U m p X R B : Nat) (hK : K = 1074) (hB : B = 120) (hU : U = 2 ^ K) (hm : m < 9007199254740992) (h : X * U + R = m * 2 ^ p * 2 ^ B) (hR : R < U) :
    X * 1000000 / 2 ^ B = m * 2 ^ p * 1000000 / U := by
  have hUp : 0 < U := by rw [hU]; exact Nat.two_pow_pos K
  have hBp := Nat.two_pow_pos B
  by_cases hp : K ≤ p + B
  · have hmod : m * 2 ^ p * 2 ^ B % U = 0 := by
      rw [Nat.mul_assoc, ← Nat.pow_add, hU, show p + B = (p + B - K) + K by omega, Nat.pow_add, ← Nat.mul_assoc]
      exact Nat.mul_mod_left _ _
    have hR0 : R = 0 := by
      have : (X * U + R) % U = R := by rw [Nat.mul_comm, Nat.mul_add_mod, Nat.mod_eq_of_lt hR]
      rw [h, hmod] at this
      exact this.symm
    rw [hR0, Nat.add_zero] at h
    have e1 : m * 2 ^ p * 1000000 / U = m * 2 ^ p * 1000000 * 2 ^ B / (U * 2 ^ B) := (Nat.mul_div_mul_right _ _ hBp).symm
    have e2 : m * 2 ^ p * 1000000 * 2 ^ B = X * 1000000 * U := by
      rw [Nat.mul_right_comm, ← h, Nat.mul_right_comm]
    rw [e1, e2, Nat.mul_comm U, Nat.mul_div_mul_right _ _ hUp]
  · have hpp : 2 ^ p * 2 ^ B ≤ 2 ^ K := by rw [← Nat.pow_add]; exact Nat.pow_le_pow_right (by decide) (by omega)
    have hX : X ≤ 9007199254740992 := by
      refine Nat.le_of_not_lt fun hn => ?_
      have h1 : 9007199254740993 * U ≤ X * U := Nat.mul_le_mul_right _ hn
      have h2 : m * 2 ^ p * 2 ^ B ≤ 9007199254740992 * U := by
        rw [Nat.mul_assoc, hU]
        exact Nat.mul_le_mul (by omega) hpp
      omega
    have hB73 : 2 ^ 73 ≤ 2 ^ B := Nat.pow_le_pow_right (by decide) (by omega)
    have l1 : X * 1000000 / 2 ^ B = 0 := Nat.div_eq_of_lt (Nat.lt_of_lt_of_le (by omega) hB73)
    have l2 : m * 2 ^ p * 1000000 / U = 0 := by
      refine Nat.div_eq_of_lt ?_
      have hq : 9007199254740992 * 1000000 * 2 ^ p < U := by
        rw [hU]
        have h1 : 2 ^ p * 2 ^ 120 ≤ 2 ^ K := by rw [hB] at hpp; exact hpp
        have h2 := Nat.two_pow_pos p
        omega
      have : m * 2 ^ p ≤ 9007199254740992 * 2 ^ p := Nat.mul_le_mul_right _ (by omega)
      omega
    rw [l1, l2]
theorem end_main (U r X R : Nat) (hU : U = 2 ^ 1074) (h : X * U + R = lst r * 2 ^ 120) (hR : R < U) : X * 1000000 / 2 ^ 120 = mill r := by
  have := end_main_of 1074 U (mgn r) (plc r) X R 120 rfl rfl hU (mgn_lt r) h hR
  rw [this, hU]
  rfl

end Go.Proofs.YtokfkckfclnoaaaDoor
