/- The library's Frexp, of a float that is above 0 and finite: a part of 53 bits and a power. -/
import Derived.Test.YtokfkckfclnoaaaDoorFloatLeaf
import Derived.Test.YtokfkckfclnoaaaDoorFloatMono
namespace Go.Proofs.YtokfkckfclnoaaaDoor
open Go.RowKit

theorem isInf_any (b : Nat) (w : World) (h : b < 18446744073709551616) :
    Calls Tryd.prog 96 #[.float .f64 b, .int .i64 0] w fun e w' => e = .returned (.bool (FloatKind.f64.format.order (rung b) 9218868437227405311 == some .gt)) ∧ w = w' := by
  have k1 := fun w => absF_any b w h
  clear h
  generalize rung b = r at *
  go_enter Tryd.func96, Tryd.ntmps96
  go_wp2_with (go_at_call 98; refine (k1 _).mono ?_; rintro e w' ⟨rfl, rfl⟩)
  go_ret
  exact ⟨rfl, rfl⟩

theorem isInf_fin (r : Nat) (h : r < infR) : (FloatKind.f64.format.order r 9218868437227405311 == some .gt) = false := by
  have hI : infR = 9218868437227405312 := rfl
  rw [order_pos r 9218868437227405311 h (by decide)]
  rcases Nat.lt_or_eq_of_le (show r ≤ 9218868437227405311 by omega) with h1 | h1
  · rw [Nat.compare_eq_lt.2 h1]; rfl
  · rw [h1]; decide
theorem isInf_inf : (FloatKind.f64.format.order infR 9218868437227405311 == some .gt) = true := by kernel_rfl
theorem isNaN_nan (b : Nat) (h : infR < rung b) : (FloatKind.f64.format.order b b != some .eq) = true := by
  show (Ieee.double.order b b != some .eq) = true
  unfold Ieee.Format.order
  rw [read_nan b h]
  rfl
theorem isNaN_fin (b : Nat) (h : rung b < infR) : (FloatKind.f64.format.order b b != some .eq) = false := by
  show (Ieee.double.order b b != some .eq) = false
  rw [order_fin b b h h, Std.compare_self]
  rfl
theorem isNaN_inf (b : Nat) (h : rung b = infR) : (FloatKind.f64.format.order b b != some .eq) = false := by
  show (Ieee.double.order b b != some .eq) = false
  unfold Ieee.Format.order
  rw [read_inf b h]
  cases sgb b <;> rfl

/-- Where a float is below the least that is not small. -/
theorem normalize_small (r y : Nat) (w : World) (h : r < 18446744073709551616) (hs : (FloatKind.f64.format.order (rung r) 4503599627370496 == some .lt) = true) (hy : Ieee.double.mul r 4841369599423283200 = some y) :
    Calls Tryd.prog 136 #[.float .f64 r] w fun e w' => e = .returned (.tuple #[.float .f64 y, .int .i64 (-52)]) ∧ w = w' := by
  have k1 := fun w => absF_any r w h
  have k2 := fun (w : World) (t : TypeId) => run_float_arith (P := Tryd.prog) w .mul t .f64 r 4841369599423283200 y hy
  clear h
  generalize rung r = q at *
  go_enter Tryd.func136, Tryd.ntmps136
  go_wp2_with (go_at_call 98; refine (k1 _).mono ?_; rintro e w' ⟨rfl, rfl⟩)
  go_ret2
  exact ⟨rfl, rfl⟩
theorem normalize_not (r : Nat) (w : World) (h : r < 18446744073709551616) (hs : (FloatKind.f64.format.order (rung r) 4503599627370496 == some .lt) = false) :
    Calls Tryd.prog 136 #[.float .f64 r] w fun e w' => e = .returned (.tuple #[.float .f64 r, .int .i64 0]) ∧ w = w' := by
  have k1 := fun w => absF_any r w h
  clear h
  generalize rung r = q at *
  go_enter Tryd.func136, Tryd.ntmps136
  go_wp2_with (go_at_call 98; refine (k1 _).mono ?_; rintro e w' ⟨rfl, rfl⟩)
  go_ret2
  exact ⟨rfl, rfl⟩

end Go.Proofs.YtokfkckfclnoaaaDoor
