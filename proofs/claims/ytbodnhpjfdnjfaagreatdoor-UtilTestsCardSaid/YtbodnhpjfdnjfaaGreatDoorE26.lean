/- Closed facts of the row UtilTests. No condition. -/
import Derived.Test.YtbodnhpjfdnjfaaGreatDoorCards
import Derived.Test.YtbodnhpjfdnjfaaGreatDoorTie
import Derived.Test.YtbodnhpjfdnjfaaGreatDoorE2
import Derived.Test.YtbodnhpjfdnjfaaGreatDoorE22
namespace Go.Proofs.YtbodnhpjfdnjfaaGreatDoor.UtilTests
open Go.ChangeShapes Go.WideShapes Go.ChangeAt Go.RowKit
open Go.ChangeMaps (open_string shut_string)

theorem fact_c : (Rows.utilTestsRow.recurses == Tryz.pinned.checked.prog.recurses 3) = true := by kernel_rfl
theorem fact_d : (Rows.utilTestsRow.named == Tryz.pinned.checked.prog.varsNamed 3) = true := by kernel_rfl
end Go.Proofs.YtbodnhpjfdnjfaaGreatDoor.UtilTests
