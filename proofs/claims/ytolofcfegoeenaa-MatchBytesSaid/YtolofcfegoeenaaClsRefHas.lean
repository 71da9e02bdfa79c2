/- The document's own sets of bytes: is a byte in it, a set with a byte. No condition. -/
import Derived.Test.YtolofcfegoeenaaClsEach
namespace Go.Proofs.Ytolofcfegoeenaa
open Go.RowKit Go.Lib

theorem word_bit (y : BitVec 64) (n : Nat) : ((IntKind.u64.wrap ((y.toNat : Int) / ((2 ^ n : Nat) : Int))).tmod 2 == 1) = y.getLsbD n := by
  have h1 : ((y.toNat : Int) / ((2 ^ n : Nat) : Int)) = ((y.toNat / 2 ^ n : Nat) : Int) := by rw [Int.natCast_ediv]
  have h2 : y.toNat / 2 ^ n < 18446744073709551616 := Nat.lt_of_le_of_lt (Nat.div_le_self _ _) y.isLt
  have h3 : y.getLsbD n = decide (y.toNat / 2 ^ n % 2 = 1) := by rw [← BitVec.testBit_toNat, Nat.testBit_eq_decide_div_mod_eq]
  rw [h1, h3]
  generalize y.toNat / 2 ^ n = d at h2
  rw [IntKind.wrap_u64, Int.emod_eq_of_lt (by omega) (by omega), Int.tmod_eq_emod_of_nonneg (by omega), Bool.eq_iff_iff]
  simp only [beq_iff_eq, decide_eq_true_eq]
  omega
theorem bit_wrap (x : Int) (hx0 : 0 ≤ x) : IntKind.u64.wrap (2 ^ (x % 64).toNat) = ((2 ^ (x.toNat % 64) : Nat) : Int) := by
  have h : (x % 64).toNat = x.toNat % 64 := by omega
  have h2 : 2 ^ (x.toNat % 64) ≤ 2 ^ 63 := Nat.pow_le_pow_right (by omega) (by omega)
  have h3 : (2 : Nat) ^ 63 < 18446744073709551616 := by decide
  rw [h, IntKind.wrap_u64, show ((2 : Int) ^ (x.toNat % 64)) = ((2 ^ (x.toNat % 64) : Nat) : Int) by simp]
  generalize 2 ^ (x.toNat % 64) = p at h2
  exact Int.emod_eq_of_lt (by omega) (by omega)

set_option maxHeartbeats 800000 in
set_option maxRecDepth 20000 in
theorem refHas_any (k : Cl) (x : Int) (w : World) (hx0 : 0 ≤ x) (hx1 : x ≤ 255) :
    Calls Try.prog 31 #[clsV k, .int .u8 x] w fun e w' => e = .returned (.bool (has k x.toNat)) ∧ Below w.heap.size w w' := by
  obtain ⟨q, hq⟩ : ∃ q, q = x / 64 := ⟨_, rfl⟩
  have hq4 : q = 0 ∨ q = 1 ∨ q = 2 ∨ q = 3 := by omega
  obtain ⟨r, hr⟩ : ∃ r : Bool, r = has k x.toNat := ⟨_, rfl⟩
  have HR := Lib.hid hr
  rw [← hr]
  obtain ⟨P, hP⟩ : ∃ P, P = IntKind.u64.wrap (2 ^ (x % 64).toNat) := ⟨_, rfl⟩
  have HP := Lib.hid (hP.trans (bit_wrap x hx0))
  have hP0 : ¬ P = 0 := by
    have := Nat.two_pow_pos (x.toNat % 64)
    have h := HP.out
    omega
  have hP' := hP.symm
  clear hP
  unfold clsV clsA wd
  rcases hq4 with h | h | h | h
  all_goals
    rw [h] at hq
    have hq' := hq.symm
    have hn : x.toNat / 64 = q.toNat := by omega
    rw [h] at hn
    have HN := Lib.hid hn
    clear hq hn hr
    go_enter Try.func31, Try.ntmps31
    go_wp2
    go_ret
    refine ⟨?_, (Below.refl _ w).alloc (Nat.le_refl _) _⟩
    rw [HR.out]
    show Ending.returned (.bool _) = Ending.returned (.bool _)
    rw [HP.out, word_bit]
    unfold has
    rw [HN.out]
    rfl
end Go.Proofs.Ytolofcfegoeenaa
