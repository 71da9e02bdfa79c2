/- The library's small functions on floats that dec.Float uses: whether it is no number, or infinite; a float without its sign: each by the float's bits. Condition: the bits are 64. -/
import Derived.Test.YtokfkckfclnoaaaDoorFloatMath3
import Derived.Test.YtokfkckfclnoaaaDoorHexLeaf
import Derived.Laws.LoneSync
import Derived.Laws.BitsAllLaws
namespace Go.Proofs.YtokfkckfclnoaaaDoor
open Go.RowKit

theorem isNaN_any (b : Nat) (w : World) :
    Calls Tryd.prog 95 #[.float .f64 b] w fun e w' => e = .returned (.bool (FloatKind.f64.format.order b b != some .eq)) ∧ w = w' := by
  go_enter Tryd.func95, Tryd.ntmps95
  go_wp2
  go_ret
  exact ⟨rfl, rfl⟩

theorem run_bits (b : Nat) (w : World) : (callFunc 115 #[.float .f64 b]).run Tryd.prog w = .ok (.value (.int .u64 (b : Int))) w := by
  rw [run_callFunc_extern Tryd.func115 (by kernel_rfl) (by kernel_rfl) (by kernel_rfl) (by kernel_rfl : Extern.find Tryd.f115 = some Extern.MathFloatBits.float64bits)]
  rfl
theorem run_frombits (n : Int) (w : World) : (callFunc 114 #[.int .u64 n]).run Tryd.prog w = .ok (.value (.float .f64 n.toNat)) w := by
  rw [run_callFunc_extern Tryd.func114 (by kernel_rfl) (by kernel_rfl) (by kernel_rfl) (by kernel_rfl : Extern.find Tryd.f114 = some Extern.MathFloatBits.float64frombits)]
  rfl
theorem unsign_bits (b : Nat) (h : b < 18446744073709551616) : bits .andNot .u64 (b : Int) 9223372036854775808 = ((rung b : Nat) : Int) := by
  have e : ((9223372036854775808 : Nat) : Int) = (9223372036854775808 : Int) := rfl
  rw [← e, u64_andNot_nat b 9223372036854775808 h (by decide)]
  have e2 : (18446744073709551615 - 9223372036854775808 : Nat) = 2 ^ 63 - 1 := by decide
  rw [e2, Nat.and_two_pow_sub_one_eq_mod]
  rfl
theorem rung_lt (b : Nat) : rung b < 9223372036854775808 := by unfold rung; omega
theorem rung_rung (b : Nat) : rung (rung b) = rung b := by unfold rung; omega

theorem absF_any (b : Nat) (w : World) (h : b < 18446744073709551616) :
    Calls Tryd.prog 98 #[.float .f64 b] w fun e w' => e = .returned (.float .f64 (rung b)) ∧ w = w' := by
  have h1 := run_bits b
  have h2 := run_frombits (rung b : Nat)
  have h3 := unsign_bits b h
  rw [Int.toNat_natCast] at h2
  clear h
  generalize rung b = r at *
  go_enter Tryd.func98, Tryd.ntmps98
  go_wp2
  go_ret
  exact ⟨rfl, rfl⟩

end Go.Proofs.YtokfkckfclnoaaaDoor
