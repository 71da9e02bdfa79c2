/- The row of UtilTests. Conditions: the row's own. -/
import Derived.Test.YtbodnhpjfdnjfaaGreatDoorCards
import Derived.Test.YtbodnhpjfdnjfaaGreatDoorTie
import Derived.Test.YtbodnhpjfdnjfaaGreatDoorE2
import Derived.Test.YtbodnhpjfdnjfaaGreatDoorE22
import Derived.Test.YtbodnhpjfdnjfaaGreatDoorE23
import Derived.Test.YtbodnhpjfdnjfaaGreatDoorE25
import Derived.Test.YtbodnhpjfdnjfaaGreatDoorE26
namespace Go.Proofs.YtbodnhpjfdnjfaaGreatDoor.UtilTests
open Go.ChangeShapes Go.WideShapes Go.ChangeAt Go.RowKit
open Go.ChangeMaps (open_string shut_string)

theorem closed : joinedFacts Tryz.pinned.checked.prog 3 Tryz.f3 Rows.utilTestsSpec Rows.utilTestsRow = true := by
  simp only [joinedFacts, Bool.and_eq_true]
  repeat' apply And.intro
  all_goals first | with_reducible exact fact_a | with_reducible exact fact_b | with_reducible exact fact_c | with_reducible exact fact_d | kernel_rfl
theorem over : Rows.utilTestsRow.holds Tryz.pinned (OpenSpec.ofChange Rows.utilTestsSpec) :=
  OpenClaim.holds_of_wide 3 Tryz.f3 rfl rfl rfl rfl rfl rfl rfl ⟨rfl, rfl, rfl, rfl, rfl⟩ rfl rfl rfl rfl rfl (by kernel_rfl) Tryz.func3 closed
    (of_decide_eq_true (by kernel_rfl)) (by unfold Func.isWrapper; first | (rw [if_pos (by decide +kernel)]; kernel_rfl) | (rw [if_neg (by decide +kernel)]; exact ⟨rfl, rfl⟩))
    (fun os started H enc _ => lifted os started H enc)

end Go.Proofs.YtbodnhpjfdnjfaaGreatDoor.UtilTests
