/-
  DERIVED. GIVEN WITH THE SEED: THE CARDS: each row of YtbodnhpjfdnjfaaGreatDoorRows.lean that lists a variable, with what it lists TIED to the program's text (the seventh form; the later family's looks); each row that meets fmt, with fmt's text TOLD by the authors' own Lean function (tested against real Go, not proved from fmt's source: count such statements apart). THE CARD IS WHAT COUNTS. Prove the row's statement (the work); the ties are given (YtbodnhpjfdnjfaaGreatDoorTie.lean); close each card by the builder's one call (the guide's Derived/Test/ToyasCard.lean, 'card_holds'). Laid BY PROGRAM, IN A SANDBOX (cutbox-door.mjs). By AI agents, Wed Nov 11 2026. No macro, syntax, notation, axiom, sorry.
-/
import Derived.Test.YtbodnhpjfdnjfaaGreatDoorRows
import GoSem.ClaimSeven
namespace Go.Proofs.YtbodnhpjfdnjfaaGreatDoor
namespace Rows

/-- THE TIED CARD OF 'dragomanlaw13.UtilTests'. -/
def utilTestsCard : Claim7 := { stood := { row := utilTestsRow, standIns := [], harness := (true, "8b2066a9560736bf0276f900bc9bfb9c4d8945a984c172a7bdc7b52ad4fd5afc"), looks := true }, kinds := [], alts := [], laidByText := true, laidKinds := [.data, .data, .data, .data, .pinned], laidTests := true, laidLooks := .later }
def UtilTestsCardSaid : Prop := Claim7.holds Tryz.pinned (.plain (OpenSpec.ofChange utilTestsSpec)) utilTestsCard

/-- THE SECOND FORM's CARD OF 'dragomanlaw13.UtilTests'. -/
def utilTestsUptoCard : Claim7 := { stood := { row := utilTestsUptoRow, standIns := [], harness := (true, "8b2066a9560736bf0276f900bc9bfb9c4d8945a984c172a7bdc7b52ad4fd5afc"), looks := true }, kinds := [], alts := [], laidByText := true, laidKinds := [.data, .data, .data, .data, .pinned], laidTests := true, laidLooks := .later }
def UtilTestsUptoCardSaid : Prop := Claim7.holds Tryz.pinned (.plain (OpenSpec.upto utilTestsSpec)) utilTestsUptoCard
end Rows
end Go.Proofs.YtbodnhpjfdnjfaaGreatDoor
