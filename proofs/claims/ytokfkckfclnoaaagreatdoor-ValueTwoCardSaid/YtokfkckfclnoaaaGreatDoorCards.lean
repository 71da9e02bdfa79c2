/-
  DERIVED. GIVEN WITH THE SEED: THE CARDS: each row of YtokfkckfclnoaaaGreatDoorRows.lean that lists a variable, with what it lists TIED to the program's text (the seventh form; the later family's looks); each row that meets fmt, with fmt's text TOLD by the authors' own Lean function (tested against real Go, not proved from fmt's source: count such statements apart). THE CARD IS WHAT COUNTS. Prove the row's statement (the work); the ties are given (YtokfkckfclnoaaaGreatDoorTie.lean); close each card by the builder's one call (the guide's Derived/Test/ToyasCard.lean, 'card_holds'). Laid BY PROGRAM, IN A SANDBOX (cutbox-door.mjs). By AI agents, Wed Nov 11 2026. No macro, syntax, notation, axiom, sorry.
-/
import Derived.Test.YtokfkckfclnoaaaGreatDoorRows
import GoSem.ClaimSeven
namespace Go.Proofs.YtokfkckfclnoaaaGreatDoor
namespace Rows

/-- THE TIED CARD OF 'dragomanlaw03.ValueTwo'. -/
def valueTwoCard : Claim7 := { stood := { row := valueTwoRow, standIns := [], harness := (true, "6650024e1650eda529d77d0dd72b03aa6fe565224d116ba9551e6d425b803853"), looks := true }, kinds := [], alts := [], laidByText := true, laidKinds := [.data, .data, .data, .data, .pinned], laidTests := true, laidLooks := .later }
def ValueTwoCardSaid : Prop := Claim7.holds Tryz.pinned (.plain (OpenSpec.ofChange valueTwoSpec)) valueTwoCard

/-- THE SECOND FORM's CARD OF 'dragomanlaw03.ValueTwo'. -/
def valueTwoUptoCard : Claim7 := { stood := { row := valueTwoUptoRow, standIns := [], harness := (true, "6650024e1650eda529d77d0dd72b03aa6fe565224d116ba9551e6d425b803853"), looks := true }, kinds := [], alts := [], laidByText := true, laidKinds := [.data, .data, .data, .data, .pinned], laidTests := true, laidLooks := .later }
def ValueTwoUptoCardSaid : Prop := Claim7.holds Tryz.pinned (.plain (OpenSpec.upto valueTwoSpec)) valueTwoUptoCard
end Rows
end Go.Proofs.YtokfkckfclnoaaaGreatDoor
