/- The given statement UtilTests, proved: at every input the Go function returns true, and each argument reads afterwards as before. Conditions: the row's own (the listed tables of the library hold what their text lays when the call begins; the card ties that to the program's text). -/
import Derived.Test.YtbodnhpjfdnjfaaGreatDoorCards
import Derived.Test.YtbodnhpjfdnjfaaGreatDoorTie
import Derived.Test.YtbodnhpjfdnjfaaGreatDoorE2
import Derived.Test.YtbodnhpjfdnjfaaGreatDoorE22
import Derived.Test.YtbodnhpjfdnjfaaGreatDoorE24
import Derived.Test.YtbodnhpjfdnjfaaGreatDoorE27
namespace Go.Proofs.YtbodnhpjfdnjfaaGreatDoor.UtilTests
open Go.ChangeShapes Go.WideShapes Go.ChangeAt Go.RowKit
open Go.ChangeMaps (open_string shut_string)

/-- The given statement. -/
theorem proved : Rows.UtilTestsCardSaid :=
  Claim7.holds_tied_plain_at .later [] [.data, .data, .data, .data, .pinned] true Rows.utilTestsCard.stood.harness true
    over (fun _ h => by cases h) (by kernel_rfl) (fun _ h => by cases h) utilTests_row_tie rfl ⟨rfl, rfl⟩ (by kernel_rfl) rfl
    (fun f fn hf hfn => by
      obtain rfl : f = 3 := Option.some.inj ((show Tryz.prog.funcNamed "dragoman/dragomanlaw13.UtilTests" = some 3 by kernel_rfl).symm.trans hf) |>.symm
      obtain rfl : fn = Tryz.f3 := (Option.some.inj (Tryz.func3.symm.trans hfn)).symm
      exact ⟨by kernel_rfl, fun j t ht => by
        rw [Tryz.params3] at ht
        have hm : t ∈ [22, 22] := by simpa using Array.mem_of_getElem? ht
        have hall : ([22, 22].all fun u => !Tryz.prog.wantsStandIn u) = true := by kernel_rfl
        exact (show Tryz.prog.wantsStandIn t = false by simpa using List.all_eq_true.1 hall t hm)⟩)
    fact_goes
#print axioms proved
end Go.Proofs.YtbodnhpjfdnjfaaGreatDoor.UtilTests
