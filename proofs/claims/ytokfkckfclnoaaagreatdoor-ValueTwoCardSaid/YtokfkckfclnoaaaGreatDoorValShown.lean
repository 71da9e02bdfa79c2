/- The document's examples that head each statement of layer 3. No condition. -/
import Derived.Test.YtokfkckfclnoaaaGreatDoorValReckon
import Derived.Test.YtokfkckfclnoaaaGreatDoorValFacts
namespace Go.Proofs.YtokfkckfclnoaaaGreatDoor
open Go.RowKit

theorem shownV_any (w : World) :
    Calls Tryz.prog 4 #[] w fun e w' => e = .returned (.bool true) ∧ Below w.heap.size w w' := by
  have k1 : ∀ w, Calls Tryz.prog 7 #[.string ⟨#[49, 48]⟩, .string ⟨#[57, 46, 48]⟩] w fun e w' => e = .returned (.int .i64 1) ∧ Below w.heap.size w w' := by
    intro w
    have := compare_any ⟨#[49, 48]⟩ ⟨#[57, 46, 48]⟩ w (by decide) (by decide)
    rw [show compareD (⟨#[49, 48]⟩ : ByteArray).data.toList (⟨#[57, 46, 48]⟩ : ByteArray).data.toList = 1 by decide +kernel] at this
    exact this
  have k2 : ∀ w, Calls Tryz.prog 7 #[.string ⟨#[49, 48]⟩, .string ⟨#[57, 97]⟩] w fun e w' => e = .returned (.int .i64 (-1)) ∧ Below w.heap.size w w' := by
    intro w
    have := compare_any ⟨#[49, 48]⟩ ⟨#[57, 97]⟩ w (by decide) (by decide)
    rw [show compareD (⟨#[49, 48]⟩ : ByteArray).data.toList (⟨#[57, 97]⟩ : ByteArray).data.toList = -1 by decide +kernel] at this
    exact this
  have k3 : ∀ w, Calls Tryz.prog 9 #[.string ⟨#[32, 48, 46, 48, 32]⟩] w fun e w' => e = .returned (.bool false) ∧ Below w.heap.size w w' := by
    intro w
    have := truth_any ⟨#[32, 48, 46, 48, 32]⟩ w (by decide)
    rw [show truthD (⟨#[32, 48, 46, 48, 32]⟩ : ByteArray).data.toList = false by decide +kernel] at this
    exact this
  go_enter Tryz.func4, Tryz.ntmps4
  go_wp2_with (first
    | (go_at_call 7; (with_reducible refine (k1 _).mono ?_); rintro e w1 ⟨rfl, hb1⟩)
    | (go_at_call 7; (with_reducible refine (k2 _).mono ?_); rintro e w2 ⟨rfl, hb2⟩; have HB2 := below_at hb1 hb2 hb1.size)
    | (go_at_call 9; refine (k3 _).mono ?_; rintro e w3 ⟨rfl, hb3⟩; have HB3 := below_at HB2 hb3 HB2.size)
    | (go_at_call 10; refine (of_any _ _).mono ?_; rintro e w4 ⟨rfl, rfl⟩))
  all_goals
    go_ret
    exact ⟨rfl, HB3⟩
end Go.Proofs.YtokfkckfclnoaaaGreatDoor
