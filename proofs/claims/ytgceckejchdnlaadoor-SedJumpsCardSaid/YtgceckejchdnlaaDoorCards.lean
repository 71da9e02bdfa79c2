/-
  DERIVED. GIVEN WITH THE SEED: THE CARDS: each row of YtgceckejchdnlaaDoorRows.lean that lists a variable, with what it lists TIED to the program's text (the seventh form; the later family's looks); each row that meets fmt, with fmt's text TOLD by the authors' own Lean function (tested against real Go, not proved from fmt's source: count such statements apart). THE CARD IS WHAT COUNTS. Prove the row's statement (the work); the ties are given (YtgceckejchdnlaaDoorTie.lean); close each card by the builder's one call (the guide's Derived/Test/ToyasCard.lean, 'card_holds'). Laid BY PROGRAM, IN A SANDBOX (cutbox-door.mjs). By AI agents, Wed Nov 11 2026. No macro, syntax, notation, axiom, sorry.
-/
import Derived.Test.YtgceckejchdnlaaDoorRows
import GoSem.ClaimSeven
namespace Go.Proofs.YtgceckejchdnlaaDoor
namespace Rows

/-- THE TIED CARD OF 'dragomanlaw08.SedApart'. -/
def sedApartCard : Claim7 := { stood := { row := sedApartRow, standIns := [], harness := (true, "4b9f2c7704303cbdfd0c23caf0c7283cdd70e71866f0ee4e7020e541a9ba4ef8"), looks := true }, kinds := [], alts := [], laidByText := true, laidKinds := [.data, .pinned], laidTests := true, laidLooks := .later }
def SedApartCardSaid : Prop := Claim7.holds Tryd.pinned (.plain (OpenSpec.ofChange sedApartSpec)) sedApartCard

/-- THE TIED CARD OF 'dragomanlaw08.SedJumps'. -/
def sedJumpsCard : Claim7 := { stood := { row := sedJumpsRow, standIns := [], harness := (true, "4b9f2c7704303cbdfd0c23caf0c7283cdd70e71866f0ee4e7020e541a9ba4ef8"), looks := true }, kinds := [], alts := [], laidByText := true, laidKinds := [.data, .pinned], laidTests := true, laidLooks := .later }
def SedJumpsCardSaid : Prop := Claim7.holds Tryd.pinned (.plain (OpenSpec.ofChange sedJumpsSpec)) sedJumpsCard

/-- THE TIED CARD OF 'dragomanlaw08.SedBlanks'. -/
def sedBlanksCard : Claim7 := { stood := { row := sedBlanksRow, standIns := [], harness := (true, "4b9f2c7704303cbdfd0c23caf0c7283cdd70e71866f0ee4e7020e541a9ba4ef8"), looks := true }, kinds := [], alts := [], laidByText := true, laidKinds := [.data, .pinned], laidTests := true, laidLooks := .later }
def SedBlanksCardSaid : Prop := Claim7.holds Tryd.pinned (.plain (OpenSpec.ofChange sedBlanksSpec)) sedBlanksCard

/-- THE SECOND FORM's CARD OF 'dragomanlaw08.SedApart'. -/
def sedApartUptoCard : Claim7 := { stood := { row := sedApartUptoRow, standIns := [], harness := (true, "4b9f2c7704303cbdfd0c23caf0c7283cdd70e71866f0ee4e7020e541a9ba4ef8"), looks := true }, kinds := [], alts := [], laidByText := true, laidKinds := [.data, .pinned], laidTests := true, laidLooks := .later }
def SedApartUptoCardSaid : Prop := Claim7.holds Tryd.pinned (.plain (OpenSpec.upto sedApartSpec)) sedApartUptoCard

/-- THE SECOND FORM's CARD OF 'dragomanlaw08.SedJumps'. -/
def sedJumpsUptoCard : Claim7 := { stood := { row := sedJumpsUptoRow, standIns := [], harness := (true, "4b9f2c7704303cbdfd0c23caf0c7283cdd70e71866f0ee4e7020e541a9ba4ef8"), looks := true }, kinds := [], alts := [], laidByText := true, laidKinds := [.data, .pinned], laidTests := true, laidLooks := .later }
def SedJumpsUptoCardSaid : Prop := Claim7.holds Tryd.pinned (.plain (OpenSpec.upto sedJumpsSpec)) sedJumpsUptoCard

/-- THE SECOND FORM's CARD OF 'dragomanlaw08.SedBlanks'. -/
def sedBlanksUptoCard : Claim7 := { stood := { row := sedBlanksUptoRow, standIns := [], harness := (true, "4b9f2c7704303cbdfd0c23caf0c7283cdd70e71866f0ee4e7020e541a9ba4ef8"), looks := true }, kinds := [], alts := [], laidByText := true, laidKinds := [.data, .pinned], laidTests := true, laidLooks := .later }
def SedBlanksUptoCardSaid : Prop := Claim7.holds Tryd.pinned (.plain (OpenSpec.upto sedBlanksSpec)) sedBlanksUptoCard
end Rows
end Go.Proofs.YtgceckejchdnlaaDoor
