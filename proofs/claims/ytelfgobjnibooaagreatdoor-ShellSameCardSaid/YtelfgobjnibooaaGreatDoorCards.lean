/-
  DERIVED. GIVEN WITH THE SEED: THE CARDS: each row of YtelfgobjnibooaaGreatDoorRows.lean that lists a variable, with what it lists TIED to the program's text (the seventh form; the later family's looks); each row that meets fmt, with fmt's text TOLD by the authors' own Lean function (tested against real Go, not proved from fmt's source: count such statements apart). THE CARD IS WHAT COUNTS. Prove the row's statement (the work); the ties are given (YtelfgobjnibooaaGreatDoorTie.lean); close each card by the builder's one call (the guide's Derived/Test/ToyasCard.lean, 'card_holds'). Laid BY PROGRAM, IN A SANDBOX (cutbox-door.mjs). By AI agents, Wed Nov 11 2026. No macro, syntax, notation, axiom, sorry.
-/
import Derived.Test.YtelfgobjnibooaaGreatDoorRows
import GoSem.ClaimSeven
namespace Go.Proofs.YtelfgobjnibooaaGreatDoor
namespace Rows

/-- THE TIED CARD OF 'dragomanlaw11.ShellSame'. -/
def shellSameCard : Claim7 := { stood := { row := shellSameRow, standIns := [], harness := (true, "6519053d269e81dbd27a0b4a172fdee123fe61d8f7f0fa3cc49b62b0dff02976"), looks := true }, kinds := [], alts := [], laidByText := true, laidKinds := [.data, .pinned], laidTests := true, laidLooks := .later }
def ShellSameCardSaid : Prop := Claim7.holds Tryz.pinned (.plain (OpenSpec.ofChange shellSameSpec)) shellSameCard

/-- THE TIED CARD OF 'dragomanlaw12.ShowJoins'. -/
def showJoinsCard : Claim7 := { stood := { row := showJoinsRow, standIns := [], harness := (true, "6519053d269e81dbd27a0b4a172fdee123fe61d8f7f0fa3cc49b62b0dff02976"), looks := true }, kinds := [], alts := [], laidByText := true, laidKinds := [.data, .pinned], laidTests := true, laidLooks := .later }
def ShowJoinsCardSaid : Prop := Claim7.holds Tryz.pinned (.plain (OpenSpec.ofChange showJoinsSpec)) showJoinsCard

/-- THE SECOND FORM's CARD OF 'dragomanlaw11.ShellSame'. -/
def shellSameUptoCard : Claim7 := { stood := { row := shellSameUptoRow, standIns := [], harness := (true, "6519053d269e81dbd27a0b4a172fdee123fe61d8f7f0fa3cc49b62b0dff02976"), looks := true }, kinds := [], alts := [], laidByText := true, laidKinds := [.data, .pinned], laidTests := true, laidLooks := .later }
def ShellSameUptoCardSaid : Prop := Claim7.holds Tryz.pinned (.plain (OpenSpec.upto shellSameSpec)) shellSameUptoCard

/-- THE SECOND FORM's CARD OF 'dragomanlaw12.ShowJoins'. -/
def showJoinsUptoCard : Claim7 := { stood := { row := showJoinsUptoRow, standIns := [], harness := (true, "6519053d269e81dbd27a0b4a172fdee123fe61d8f7f0fa3cc49b62b0dff02976"), looks := true }, kinds := [], alts := [], laidByText := true, laidKinds := [.data, .pinned], laidTests := true, laidLooks := .later }
def ShowJoinsUptoCardSaid : Prop := Claim7.holds Tryz.pinned (.plain (OpenSpec.upto showJoinsSpec)) showJoinsUptoCard
end Rows
end Go.Proofs.YtelfgobjnibooaaGreatDoor
