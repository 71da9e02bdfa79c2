/-
  DERIVED. GIVEN WITH THE SEED: THE CARDS: each row of YtgceckejchdnlaaGreatDoorRows.lean that lists a variable, with what it lists TIED to the program's text (the seventh form; the later family's looks); each row that meets fmt, with fmt's text TOLD by the authors' own Lean function (tested against real Go, not proved from fmt's source: count such statements apart). THE CARD IS WHAT COUNTS. Prove the row's statement (the work); the ties are given (YtgceckejchdnlaaGreatDoorTie.lean); close each card by the builder's one call (the guide's Derived/Test/ToyasCard.lean, 'card_holds'). Laid BY PROGRAM, IN A SANDBOX (cutbox-door.mjs). By AI agents, Wed Nov 11 2026. No macro, syntax, notation, axiom, sorry.
-/
import Derived.Test.YtgceckejchdnlaaGreatDoorRows
import GoSem.ClaimSeven
namespace Go.Proofs.YtgceckejchdnlaaGreatDoor
namespace Rows

/-- THE TIED CARD OF 'dragomanlaw08.SedBack'. -/
def sedBackCard : Claim7 := { stood := { row := sedBackRow, standIns := [], harness := (true, "05ed82884786f2893c71d45464e6fd7acbe068bb59ae625d45441d2105890f5f"), looks := true }, kinds := [], alts := [], laidByText := true, laidKinds := [.data, .data, .data, .data, .pinned], laidTests := true, laidLooks := .later }
def SedBackCardSaid : Prop := Claim7.holds Tryz.pinned (.plain (OpenSpec.ofChange sedBackSpec)) sedBackCard

/-- THE TIED CARD OF 'dragomanlaw08.SedQuotes'. -/
def sedQuotesCard : Claim7 := { stood := { row := sedQuotesRow, standIns := [], harness := (true, "05ed82884786f2893c71d45464e6fd7acbe068bb59ae625d45441d2105890f5f"), looks := true }, kinds := [], alts := [], laidByText := true, laidKinds := [.data, .data, .data, .data, .pinned], laidTests := true, laidLooks := .later }
def SedQuotesCardSaid : Prop := Claim7.holds Tryz.pinned (.plain (OpenSpec.ofChange sedQuotesSpec)) sedQuotesCard

/-- THE SECOND FORM's CARD OF 'dragomanlaw08.SedBack'. -/
def sedBackUptoCard : Claim7 := { stood := { row := sedBackUptoRow, standIns := [], harness := (true, "05ed82884786f2893c71d45464e6fd7acbe068bb59ae625d45441d2105890f5f"), looks := true }, kinds := [], alts := [], laidByText := true, laidKinds := [.data, .data, .data, .data, .pinned], laidTests := true, laidLooks := .later }
def SedBackUptoCardSaid : Prop := Claim7.holds Tryz.pinned (.plain (OpenSpec.upto sedBackSpec)) sedBackUptoCard

/-- THE SECOND FORM's CARD OF 'dragomanlaw08.SedQuotes'. -/
def sedQuotesUptoCard : Claim7 := { stood := { row := sedQuotesUptoRow, standIns := [], harness := (true, "05ed82884786f2893c71d45464e6fd7acbe068bb59ae625d45441d2105890f5f"), looks := true }, kinds := [], alts := [], laidByText := true, laidKinds := [.data, .data, .data, .data, .pinned], laidTests := true, laidLooks := .later }
def SedQuotesUptoCardSaid : Prop := Claim7.holds Tryz.pinned (.plain (OpenSpec.upto sedQuotesSpec)) sedQuotesUptoCard
end Rows
end Go.Proofs.YtgceckejchdnlaaGreatDoor
