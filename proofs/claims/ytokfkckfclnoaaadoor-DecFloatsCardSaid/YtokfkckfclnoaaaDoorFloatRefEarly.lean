/- The document's Float where it answers at once: no number, or too far from 0. -/
import Derived.Test.YtokfkckfclnoaaaDoorFloatEnd
import Derived.Deep.Cut
import Derived.Deep.CutBlock
import Derived.Deep.DeepCutAuto
namespace Go.Proofs.YtokfkckfclnoaaaDoor
open Go.RowKit

theorem refFloat_nan (b : Nat) (w : World) (h : (FloatKind.f64.format.order b b != some .eq) = true) :
    Calls Tryd.prog 32 #[.float .f64 b] w fun e w' => e = .returned (.tuple #[.int .i64 0, .int .i64 5]) ∧ Below w.heap.size w w' := by
  go_enter Tryd.func32, Tryd.ntmps32
  go_wp2
  go_ret2
  exact ⟨rfl, Below.refl _ _⟩
theorem refFloat_far (b : Nat) (w : World) (h : (FloatKind.f64.format.order b b != some .eq) = false)
    (h2 : (FloatKind.f64.format.order b 9094988921128908188 == some .gt) = true ∨ ((FloatKind.f64.format.order b 9094988921128908188 == some .gt) = false ∧ (FloatKind.f64.format.order b 18318360957983683996 == some .lt) = true)) :
    Calls Tryd.prog 32 #[.float .f64 b] w fun e w' => e = .returned (.tuple #[.int .i64 0, .int .i64 3]) ∧ Below w.heap.size w w' := by
  rcases h2 with h2 | ⟨h2, h3⟩
  · go_enter Tryd.func32, Tryd.ntmps32
    go_wp2
    go_ret2
    exact ⟨rfl, Below.refl _ _⟩
  · go_enter Tryd.func32, Tryd.ntmps32
    go_wp2
    go_ret2
    exact ⟨rfl, Below.refl _ _⟩
theorem refFloat_over (b c : Nat) (neg : Bool) (w : World) (h : (FloatKind.f64.format.order b b != some .eq) = false)
    (h2 : (FloatKind.f64.format.order b 9094988921128908188 == some .gt) = false) (h3 : (FloatKind.f64.format.order b 18318360957983683996 == some .lt) = false)
    (h4 : (FloatKind.f64.format.order b 0 == some .lt) = neg) (h5 : (neg = true ∧ FloatKind.f64.format.sub 0 b = some c) ∨ (neg = false ∧ b = c))
    (h6 : (FloatKind.f64.format.order c 4831355200913801216 == some .gt || FloatKind.f64.format.order c 4831355200913801216 == some .eq) = true) :
    Calls Tryd.prog 32 #[.float .f64 b] w fun e w' => e = .returned (.tuple #[.int .i64 0, .int .i64 3]) ∧ Below w.heap.size w w' := by
  rcases h5 with ⟨rfl, h5⟩ | ⟨rfl, rfl⟩
  · have k3 := fun (w : World) (t : TypeId) => run_float_arith (P := Tryd.prog) w .sub t .f64 0 b c h5
    go_enter Tryd.func32, Tryd.ntmps32
    go_wp2
    go_ret2
    exact ⟨rfl, (Below.refl _ _).alloc (Nat.le_refl _) _⟩
  · go_enter Tryd.func32, Tryd.ntmps32
    go_wp2
    go_ret2
    exact ⟨rfl, (Below.refl _ _).alloc (Nat.le_refl _) _⟩

end Go.Proofs.YtokfkckfclnoaaaDoor
