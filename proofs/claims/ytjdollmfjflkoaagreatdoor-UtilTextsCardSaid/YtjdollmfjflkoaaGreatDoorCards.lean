/-
  DERIVED. GIVEN WITH THE SEED: THE CARDS: each row of YtjdollmfjflkoaaGreatDoorRows.lean that lists a variable, with what it lists TIED to the program's text (the seventh form; the later family's looks); each row that meets fmt, with fmt's text TOLD by the authors' own Lean function (tested against real Go, not proved from fmt's source: count such statements apart). THE CARD IS WHAT COUNTS. Prove the row's statement (the work); the ties are given (YtjdollmfjflkoaaGreatDoorTie.lean); close each card by the builder's one call (the guide's Derived/Test/ToyasCard.lean, 'card_holds'). Laid BY PROGRAM, IN A SANDBOX (cutbox-door.mjs). By AI agents, Wed Nov 11 2026. No macro, syntax, notation, axiom, sorry.
-/
import Derived.Test.YtjdollmfjflkoaaGreatDoorRows
import GoSem.ClaimSeven
namespace Go.Proofs.YtjdollmfjflkoaaGreatDoor
namespace Rows

/-- THE TIED CARD OF 'dragomanlaw13.UtilTexts'. -/
def utilTextsCard : Claim7 := { stood := { row := utilTextsRow, standIns := [], harness := (true, "988f5e38f232ef1d9a06ee0f04f51edff268343638b94a79979e4d34f9f356b7"), looks := true }, kinds := [], alts := [], laidByText := true, laidKinds := [.data, .data, .data, .data, .pinned], laidTests := true, laidLooks := .later }
def UtilTextsCardSaid : Prop := Claim7.holds Tryz.pinned (.plain (OpenSpec.ofChange utilTextsSpec)) utilTextsCard

/-- THE TIED CARD OF 'dragomanlaw13.UtilSubs'. -/
def utilSubsCard : Claim7 := { stood := { row := utilSubsRow, standIns := [], harness := (true, "988f5e38f232ef1d9a06ee0f04f51edff268343638b94a79979e4d34f9f356b7"), looks := true }, kinds := [], alts := [], laidByText := true, laidKinds := [.data, .data, .data, .data, .pinned], laidTests := true, laidLooks := .later }
def UtilSubsCardSaid : Prop := Claim7.holds Tryz.pinned (.plain (OpenSpec.ofChange utilSubsSpec)) utilSubsCard

/-- THE TIED CARD OF 'dragomanlaw13.UtilFields'. -/
def utilFieldsCard : Claim7 := { stood := { row := utilFieldsRow, standIns := [], harness := (true, "988f5e38f232ef1d9a06ee0f04f51edff268343638b94a79979e4d34f9f356b7"), looks := true }, kinds := [], alts := [], laidByText := true, laidKinds := [.data, .data, .data, .data, .pinned], laidTests := true, laidLooks := .later }
def UtilFieldsCardSaid : Prop := Claim7.holds Tryz.pinned (.plain (OpenSpec.ofChange utilFieldsSpec)) utilFieldsCard

/-- THE TIED CARD OF 'dragomanlaw13.UtilDigits'. -/
def utilDigitsCard : Claim7 := { stood := { row := utilDigitsRow, standIns := [], harness := (true, "988f5e38f232ef1d9a06ee0f04f51edff268343638b94a79979e4d34f9f356b7"), looks := true }, kinds := [], alts := [], laidByText := true, laidKinds := [.data, .data, .data, .data, .pinned], laidTests := true, laidLooks := .later }
def UtilDigitsCardSaid : Prop := Claim7.holds Tryz.pinned (.plain (OpenSpec.ofChange utilDigitsSpec)) utilDigitsCard

/-- THE TIED CARD OF 'dragomanlaw13.UtilTruths'. -/
def utilTruthsCard : Claim7 := { stood := { row := utilTruthsRow, standIns := [], harness := (true, "988f5e38f232ef1d9a06ee0f04f51edff268343638b94a79979e4d34f9f356b7"), looks := true }, kinds := [], alts := [], laidByText := true, laidKinds := [.data, .data, .data, .data, .pinned], laidTests := true, laidLooks := .later }
def UtilTruthsCardSaid : Prop := Claim7.holds Tryz.pinned (.plain (OpenSpec.ofChange utilTruthsSpec)) utilTruthsCard

/-- THE TIED CARD OF 'dragomanlaw13.UtilOthers'. -/
def utilOthersCard : Claim7 := { stood := { row := utilOthersRow, standIns := [], harness := (true, "988f5e38f232ef1d9a06ee0f04f51edff268343638b94a79979e4d34f9f356b7"), looks := true }, kinds := [], alts := [], laidByText := true, laidKinds := [.data, .data, .data, .data, .pinned], laidTests := true, laidLooks := .later }
def UtilOthersCardSaid : Prop := Claim7.holds Tryz.pinned (.plain (OpenSpec.ofChange utilOthersSpec)) utilOthersCard

/-- THE SECOND FORM's CARD OF 'dragomanlaw13.UtilTexts'. -/
def utilTextsUptoCard : Claim7 := { stood := { row := utilTextsUptoRow, standIns := [], harness := (true, "988f5e38f232ef1d9a06ee0f04f51edff268343638b94a79979e4d34f9f356b7"), looks := true }, kinds := [], alts := [], laidByText := true, laidKinds := [.data, .data, .data, .data, .pinned], laidTests := true, laidLooks := .later }
def UtilTextsUptoCardSaid : Prop := Claim7.holds Tryz.pinned (.plain (OpenSpec.upto utilTextsSpec)) utilTextsUptoCard

/-- THE SECOND FORM's CARD OF 'dragomanlaw13.UtilSubs'. -/
def utilSubsUptoCard : Claim7 := { stood := { row := utilSubsUptoRow, standIns := [], harness := (true, "988f5e38f232ef1d9a06ee0f04f51edff268343638b94a79979e4d34f9f356b7"), looks := true }, kinds := [], alts := [], laidByText := true, laidKinds := [.data, .data, .data, .data, .pinned], laidTests := true, laidLooks := .later }
def UtilSubsUptoCardSaid : Prop := Claim7.holds Tryz.pinned (.plain (OpenSpec.upto utilSubsSpec)) utilSubsUptoCard

/-- THE SECOND FORM's CARD OF 'dragomanlaw13.UtilFields'. -/
def utilFieldsUptoCard : Claim7 := { stood := { row := utilFieldsUptoRow, standIns := [], harness := (true, "988f5e38f232ef1d9a06ee0f04f51edff268343638b94a79979e4d34f9f356b7"), looks := true }, kinds := [], alts := [], laidByText := true, laidKinds := [.data, .data, .data, .data, .pinned], laidTests := true, laidLooks := .later }
def UtilFieldsUptoCardSaid : Prop := Claim7.holds Tryz.pinned (.plain (OpenSpec.upto utilFieldsSpec)) utilFieldsUptoCard

/-- THE SECOND FORM's CARD OF 'dragomanlaw13.UtilDigits'. -/
def utilDigitsUptoCard : Claim7 := { stood := { row := utilDigitsUptoRow, standIns := [], harness := (true, "988f5e38f232ef1d9a06ee0f04f51edff268343638b94a79979e4d34f9f356b7"), looks := true }, kinds := [], alts := [], laidByText := true, laidKinds := [.data, .data, .data, .data, .pinned], laidTests := true, laidLooks := .later }
def UtilDigitsUptoCardSaid : Prop := Claim7.holds Tryz.pinned (.plain (OpenSpec.upto utilDigitsSpec)) utilDigitsUptoCard

/-- THE SECOND FORM's CARD OF 'dragomanlaw13.UtilTruths'. -/
def utilTruthsUptoCard : Claim7 := { stood := { row := utilTruthsUptoRow, standIns := [], harness := (true, "988f5e38f232ef1d9a06ee0f04f51edff268343638b94a79979e4d34f9f356b7"), looks := true }, kinds := [], alts := [], laidByText := true, laidKinds := [.data, .data, .data, .data, .pinned], laidTests := true, laidLooks := .later }
def UtilTruthsUptoCardSaid : Prop := Claim7.holds Tryz.pinned (.plain (OpenSpec.upto utilTruthsSpec)) utilTruthsUptoCard

/-- THE SECOND FORM's CARD OF 'dragomanlaw13.UtilOthers'. -/
def utilOthersUptoCard : Claim7 := { stood := { row := utilOthersUptoRow, standIns := [], harness := (true, "988f5e38f232ef1d9a06ee0f04f51edff268343638b94a79979e4d34f9f356b7"), looks := true }, kinds := [], alts := [], laidByText := true, laidKinds := [.data, .data, .data, .data, .pinned], laidTests := true, laidLooks := .later }
def UtilOthersUptoCardSaid : Prop := Claim7.holds Tryz.pinned (.plain (OpenSpec.upto utilOthersSpec)) utilOthersUptoCard
end Rows
end Go.Proofs.YtjdollmfjflkoaaGreatDoor
