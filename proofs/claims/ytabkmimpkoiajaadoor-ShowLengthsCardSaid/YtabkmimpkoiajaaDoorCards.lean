/-
  DERIVED. GIVEN WITH THE SEED: THE CARDS: each row of YtabkmimpkoiajaaDoorRows.lean that lists a variable, with what it lists TIED to the program's text (the seventh form; the later family's looks); each row that meets fmt, with fmt's text TOLD by the authors' own Lean function (tested against real Go, not proved from fmt's source: count such statements apart). THE CARD IS WHAT COUNTS. Prove the row's statement (the work); the ties are given (YtabkmimpkoiajaaDoorTie.lean); close each card by the builder's one call (the guide's Derived/Test/ToyasCard.lean, 'card_holds'). Laid BY PROGRAM, IN A SANDBOX (cutbox-door.mjs). By AI agents, Wed Nov 11 2026. No macro, syntax, notation, axiom, sorry.
-/
import Derived.Test.YtabkmimpkoiajaaDoorRows
import GoSem.ClaimSeven
namespace Go.Proofs.YtabkmimpkoiajaaDoor
namespace Rows

/-- THE TIED CARD OF 'dragomanlaw11.ShellJoins'. -/
def shellJoinsCard : Claim7 := { stood := { row := shellJoinsRow, standIns := [], harness := (true, "67dc88ae4ed884a0e35925edf542711604e46c8e0ae9a92ec6a53bf98c77b4e4"), looks := true }, kinds := [], alts := [], laidByText := true, laidKinds := [.data, .pinned], laidTests := true, laidLooks := .later }
def ShellJoinsCardSaid : Prop := Claim7.holds Tryd.pinned (.plain (OpenSpec.ofChange shellJoinsSpec)) shellJoinsCard

/-- THE TIED CARD OF 'dragomanlaw11.ShellQuotes'. -/
def shellQuotesCard : Claim7 := { stood := { row := shellQuotesRow, standIns := [], harness := (true, "67dc88ae4ed884a0e35925edf542711604e46c8e0ae9a92ec6a53bf98c77b4e4"), looks := true }, kinds := [], alts := [], laidByText := true, laidKinds := [.data, .pinned], laidTests := true, laidLooks := .later }
def ShellQuotesCardSaid : Prop := Claim7.holds Tryd.pinned (.plain (OpenSpec.ofChange shellQuotesSpec)) shellQuotesCard

/-- THE TIED CARD OF 'dragomanlaw11.ShellWraps'. -/
def shellWrapsCard : Claim7 := { stood := { row := shellWrapsRow, standIns := [], harness := (true, "67dc88ae4ed884a0e35925edf542711604e46c8e0ae9a92ec6a53bf98c77b4e4"), looks := true }, kinds := [], alts := [], laidByText := true, laidKinds := [.data, .pinned], laidTests := true, laidLooks := .later }
def ShellWrapsCardSaid : Prop := Claim7.holds Tryd.pinned (.plain (OpenSpec.ofChange shellWrapsSpec)) shellWrapsCard

/-- THE TIED CARD OF 'dragomanlaw11.ShellCounts'. -/
def shellCountsCard : Claim7 := { stood := { row := shellCountsRow, standIns := [], harness := (true, "67dc88ae4ed884a0e35925edf542711604e46c8e0ae9a92ec6a53bf98c77b4e4"), looks := true }, kinds := [], alts := [], laidByText := true, laidKinds := [.data, .pinned], laidTests := true, laidLooks := .later }
def ShellCountsCardSaid : Prop := Claim7.holds Tryd.pinned (.plain (OpenSpec.ofChange shellCountsSpec)) shellCountsCard

/-- THE TIED CARD OF 'dragomanlaw11.ShellRemarks'. -/
def shellRemarksCard : Claim7 := { stood := { row := shellRemarksRow, standIns := [], harness := (true, "67dc88ae4ed884a0e35925edf542711604e46c8e0ae9a92ec6a53bf98c77b4e4"), looks := true }, kinds := [], alts := [], laidByText := true, laidKinds := [.data, .pinned], laidTests := true, laidLooks := .later }
def ShellRemarksCardSaid : Prop := Claim7.holds Tryd.pinned (.plain (OpenSpec.ofChange shellRemarksSpec)) shellRemarksCard

/-- THE TIED CARD OF 'dragomanlaw11.ShellNames'. -/
def shellNamesCard : Claim7 := { stood := { row := shellNamesRow, standIns := [], harness := (true, "67dc88ae4ed884a0e35925edf542711604e46c8e0ae9a92ec6a53bf98c77b4e4"), looks := true }, kinds := [], alts := [], laidByText := true, laidKinds := [.data, .pinned], laidTests := true, laidLooks := .later }
def ShellNamesCardSaid : Prop := Claim7.holds Tryd.pinned (.plain (OpenSpec.ofChange shellNamesSpec)) shellNamesCard

/-- THE TIED CARD OF 'dragomanlaw12.ShowTexts'. -/
def showTextsCard : Claim7 := { stood := { row := showTextsRow, standIns := [], harness := (true, "67dc88ae4ed884a0e35925edf542711604e46c8e0ae9a92ec6a53bf98c77b4e4"), looks := true }, kinds := [], alts := [], laidByText := true, laidKinds := [.data, .pinned], laidTests := true, laidLooks := .later }
def ShowTextsCardSaid : Prop := Claim7.holds Tryd.pinned (.plain (OpenSpec.ofChange showTextsSpec)) showTextsCard

/-- THE TIED CARD OF 'dragomanlaw12.ShowQuotes'. -/
def showQuotesCard : Claim7 := { stood := { row := showQuotesRow, standIns := [], harness := (true, "67dc88ae4ed884a0e35925edf542711604e46c8e0ae9a92ec6a53bf98c77b4e4"), looks := true }, kinds := [], alts := [], laidByText := true, laidKinds := [.data, .pinned], laidTests := true, laidLooks := .later }
def ShowQuotesCardSaid : Prop := Claim7.holds Tryd.pinned (.plain (OpenSpec.ofChange showQuotesSpec)) showQuotesCard

/-- THE TIED CARD OF 'dragomanlaw12.ShowWords'. -/
def showWordsCard : Claim7 := { stood := { row := showWordsRow, standIns := [], harness := (true, "67dc88ae4ed884a0e35925edf542711604e46c8e0ae9a92ec6a53bf98c77b4e4"), looks := true }, kinds := [], alts := [], laidByText := true, laidKinds := [.data, .pinned], laidTests := true, laidLooks := .later }
def ShowWordsCardSaid : Prop := Claim7.holds Tryd.pinned (.plain (OpenSpec.ofChange showWordsSpec)) showWordsCard

/-- THE TIED CARD OF 'dragomanlaw12.ShowLengths'. -/
def showLengthsCard : Claim7 := { stood := { row := showLengthsRow, standIns := [], harness := (true, "67dc88ae4ed884a0e35925edf542711604e46c8e0ae9a92ec6a53bf98c77b4e4"), looks := true }, kinds := [], alts := [], laidByText := true, laidKinds := [.data, .pinned], laidTests := true, laidLooks := .later }
def ShowLengthsCardSaid : Prop := Claim7.holds Tryd.pinned (.plain (OpenSpec.ofChange showLengthsSpec)) showLengthsCard

/-- THE SECOND FORM's CARD OF 'dragomanlaw11.ShellJoins'. -/
def shellJoinsUptoCard : Claim7 := { stood := { row := shellJoinsUptoRow, standIns := [], harness := (true, "67dc88ae4ed884a0e35925edf542711604e46c8e0ae9a92ec6a53bf98c77b4e4"), looks := true }, kinds := [], alts := [], laidByText := true, laidKinds := [.data, .pinned], laidTests := true, laidLooks := .later }
def ShellJoinsUptoCardSaid : Prop := Claim7.holds Tryd.pinned (.plain (OpenSpec.upto shellJoinsSpec)) shellJoinsUptoCard

/-- THE SECOND FORM's CARD OF 'dragomanlaw11.ShellQuotes'. -/
def shellQuotesUptoCard : Claim7 := { stood := { row := shellQuotesUptoRow, standIns := [], harness := (true, "67dc88ae4ed884a0e35925edf542711604e46c8e0ae9a92ec6a53bf98c77b4e4"), looks := true }, kinds := [], alts := [], laidByText := true, laidKinds := [.data, .pinned], laidTests := true, laidLooks := .later }
def ShellQuotesUptoCardSaid : Prop := Claim7.holds Tryd.pinned (.plain (OpenSpec.upto shellQuotesSpec)) shellQuotesUptoCard

/-- THE SECOND FORM's CARD OF 'dragomanlaw11.ShellWraps'. -/
def shellWrapsUptoCard : Claim7 := { stood := { row := shellWrapsUptoRow, standIns := [], harness := (true, "67dc88ae4ed884a0e35925edf542711604e46c8e0ae9a92ec6a53bf98c77b4e4"), looks := true }, kinds := [], alts := [], laidByText := true, laidKinds := [.data, .pinned], laidTests := true, laidLooks := .later }
def ShellWrapsUptoCardSaid : Prop := Claim7.holds Tryd.pinned (.plain (OpenSpec.upto shellWrapsSpec)) shellWrapsUptoCard

/-- THE SECOND FORM's CARD OF 'dragomanlaw11.ShellCounts'. -/
def shellCountsUptoCard : Claim7 := { stood := { row := shellCountsUptoRow, standIns := [], harness := (true, "67dc88ae4ed884a0e35925edf542711604e46c8e0ae9a92ec6a53bf98c77b4e4"), looks := true }, kinds := [], alts := [], laidByText := true, laidKinds := [.data, .pinned], laidTests := true, laidLooks := .later }
def ShellCountsUptoCardSaid : Prop := Claim7.holds Tryd.pinned (.plain (OpenSpec.upto shellCountsSpec)) shellCountsUptoCard

/-- THE SECOND FORM's CARD OF 'dragomanlaw11.ShellRemarks'. -/
def shellRemarksUptoCard : Claim7 := { stood := { row := shellRemarksUptoRow, standIns := [], harness := (true, "67dc88ae4ed884a0e35925edf542711604e46c8e0ae9a92ec6a53bf98c77b4e4"), looks := true }, kinds := [], alts := [], laidByText := true, laidKinds := [.data, .pinned], laidTests := true, laidLooks := .later }
def ShellRemarksUptoCardSaid : Prop := Claim7.holds Tryd.pinned (.plain (OpenSpec.upto shellRemarksSpec)) shellRemarksUptoCard

/-- THE SECOND FORM's CARD OF 'dragomanlaw11.ShellNames'. -/
def shellNamesUptoCard : Claim7 := { stood := { row := shellNamesUptoRow, standIns := [], harness := (true, "67dc88ae4ed884a0e35925edf542711604e46c8e0ae9a92ec6a53bf98c77b4e4"), looks := true }, kinds := [], alts := [], laidByText := true, laidKinds := [.data, .pinned], laidTests := true, laidLooks := .later }
def ShellNamesUptoCardSaid : Prop := Claim7.holds Tryd.pinned (.plain (OpenSpec.upto shellNamesSpec)) shellNamesUptoCard

/-- THE SECOND FORM's CARD OF 'dragomanlaw12.ShowTexts'. -/
def showTextsUptoCard : Claim7 := { stood := { row := showTextsUptoRow, standIns := [], harness := (true, "67dc88ae4ed884a0e35925edf542711604e46c8e0ae9a92ec6a53bf98c77b4e4"), looks := true }, kinds := [], alts := [], laidByText := true, laidKinds := [.data, .pinned], laidTests := true, laidLooks := .later }
def ShowTextsUptoCardSaid : Prop := Claim7.holds Tryd.pinned (.plain (OpenSpec.upto showTextsSpec)) showTextsUptoCard

/-- THE SECOND FORM's CARD OF 'dragomanlaw12.ShowQuotes'. -/
def showQuotesUptoCard : Claim7 := { stood := { row := showQuotesUptoRow, standIns := [], harness := (true, "67dc88ae4ed884a0e35925edf542711604e46c8e0ae9a92ec6a53bf98c77b4e4"), looks := true }, kinds := [], alts := [], laidByText := true, laidKinds := [.data, .pinned], laidTests := true, laidLooks := .later }
def ShowQuotesUptoCardSaid : Prop := Claim7.holds Tryd.pinned (.plain (OpenSpec.upto showQuotesSpec)) showQuotesUptoCard

/-- THE SECOND FORM's CARD OF 'dragomanlaw12.ShowWords'. -/
def showWordsUptoCard : Claim7 := { stood := { row := showWordsUptoRow, standIns := [], harness := (true, "67dc88ae4ed884a0e35925edf542711604e46c8e0ae9a92ec6a53bf98c77b4e4"), looks := true }, kinds := [], alts := [], laidByText := true, laidKinds := [.data, .pinned], laidTests := true, laidLooks := .later }
def ShowWordsUptoCardSaid : Prop := Claim7.holds Tryd.pinned (.plain (OpenSpec.upto showWordsSpec)) showWordsUptoCard

/-- THE SECOND FORM's CARD OF 'dragomanlaw12.ShowLengths'. -/
def showLengthsUptoCard : Claim7 := { stood := { row := showLengthsUptoRow, standIns := [], harness := (true, "67dc88ae4ed884a0e35925edf542711604e46c8e0ae9a92ec6a53bf98c77b4e4"), looks := true }, kinds := [], alts := [], laidByText := true, laidKinds := [.data, .pinned], laidTests := true, laidLooks := .later }
def ShowLengthsUptoCardSaid : Prop := Claim7.holds Tryd.pinned (.plain (OpenSpec.upto showLengthsSpec)) showLengthsUptoCard
end Rows
end Go.Proofs.YtabkmimpkoiajaaDoor
