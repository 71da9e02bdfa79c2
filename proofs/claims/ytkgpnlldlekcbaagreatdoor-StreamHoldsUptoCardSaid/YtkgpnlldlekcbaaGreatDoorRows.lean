/-
  NARROWER THAN 'FOR EVERY INPUT', by the rows' own cells (each row's printed sentence says how): StreamFuel: laid · StreamPlain: laid · StreamLines: laid · StreamPrints: laid · StreamQuits: laid · StreamHolds: laid.
  DERIVED. THE GIVEN ROWS OF THIS SEAT. 6 by the template 'for every input the law returns true; each argument reads behind the call as it read before'; 0 by the template 'total and deterministic' (their statements: YtkgpnlldlekcbaaGreatDoorTotals.lean).
  GIVEN WITH THE SEED: the statements are not yours to turn. If you find one false, say at which input.
  Laid BY PROGRAM, IN A SANDBOX (cutbox-rows.mjs): the forced cells as the released guide's own fill.sh prints them over the translation 4e2c314f0833bd81… (all of the seat's roots in one cut). By AI agents, Wed Nov 11 2026. No macro, syntax, notation, axiom, sorry.
-/
import Derived.Test.YtkgpnlldlekcbaaGreatDoorChecked
import GoSem.PinnedTables
import GoSem.Claim
import GoSem.ClaimJoined
import GoSem.ClaimMapViews
import Derived.JoinedTies
import Derived.KernelRfl
namespace Go.Proofs.YtkgpnlldlekcbaaGreatDoor
/- THE CELL 'sum', in the pinned program and in every row, IS THE sha256 OF THE DUMP (.gsa) THAT YtkgpnlldlekcbaaGreatDoorProg.lean LOADS. Nothing in Lean hashes anything: it is a label: what it is worth is what the hold of that sum in a sandbox is worth. -/
noncomputable def Tryz.pinned : Pinned := { name := "ytkgpnlldlekcbaagreatdoor", sum := "4e2c314f0833bd81ebea02a389d32880e886d077142752977f7f47449750fdfc", checked := Tryz.checked }
namespace Rows
def none {H : Type} : Left H := { results := [], args := [] }

/- WHAT THE LISTED PACKAGE-LEVEL VARIABLES READ AS WHEN THE CALL BEGINS. Each datum BY PROGRAM (the guide's laid-datum.mjs) off the statement by which the dump's own 'gosem.cut.vars' lays the variable. In a bare row this is a premise. The card (YtkgpnlldlekcbaaGreatDoorCards.lean) ties it to the program's text. -/
def laid_unicode_utf8_acceptRanges {H : Type} : DataW H := .agg [.agg [.lit (.int .u8 128), .lit (.int .u8 191)], .agg [.lit (.int .u8 160), .lit (.int .u8 191)], .agg [.lit (.int .u8 128), .lit (.int .u8 159)], .agg [.lit (.int .u8 144), .lit (.int .u8 191)], .agg [.lit (.int .u8 128), .lit (.int .u8 143)], .agg [.lit (.int .u8 0), .lit (.int .u8 0)], .agg [.lit (.int .u8 0), .lit (.int .u8 0)], .agg [.lit (.int .u8 0), .lit (.int .u8 0)], .agg [.lit (.int .u8 0), .lit (.int .u8 0)], .agg [.lit (.int .u8 0), .lit (.int .u8 0)], .agg [.lit (.int .u8 0), .lit (.int .u8 0)], .agg [.lit (.int .u8 0), .lit (.int .u8 0)], .agg [.lit (.int .u8 0), .lit (.int .u8 0)], .agg [.lit (.int .u8 0), .lit (.int .u8 0)], .agg [.lit (.int .u8 0), .lit (.int .u8 0)], .agg [.lit (.int .u8 0), .lit (.int .u8 0)]]
/-- One of Go's own tables, pinned by name: the form's constant. -/
def laid_unicode_utf8_first : DataW Unit := Go.Pinned.utf8First

/-- 'dragomanlaw09.StreamFuel': WHATEVER THE INPUT: true; the input reads as it did. -/
def streamFuelSpec : ChangeSpec := { name := "streamFuel", fn := fun _ => fun
  | [d] => { results := [.lit (.bool true)], args := [d] }
  | _ => none }
def streamFuelRow : OpenClaim := { program := "ytkgpnlldlekcbaagreatdoor", sum := "4e2c314f0833bd81ebea02a389d32880e886d077142752977f7f47449750fdfc", func := "dragoman/dragomanlaw09.StreamFuel", spec := "streamFuel", inPlace := ["internal/bytealg.IndexByteString", "internal/bytealg.IndexString", "internal/bytealg.CountString", "internal/abi.NoEscape", "internal/bytealg.MakeNoZero"], unfollowed := true, recurses := true, named := ["unicode/utf8.first", "unicode/utf8.acceptRanges", "internal/bytealg.MaxLen"], apart := false, laid := [("unicode/utf8.acceptRanges", laid_unicode_utf8_acceptRanges), ("unicode/utf8.first", laid_unicode_utf8_first)] }
def StreamFuelSaid : Prop := streamFuelRow.holds Tryz.pinned (OpenSpec.ofChange streamFuelSpec)

/-- ITS FALSE NEIGHBOUR: 'it returns false'. Refute it at one input. -/
def streamFuelWrong : ChangeSpec := { name := "streamFuel", fn := fun _ => fun
  | [d] => { results := [.lit (.bool false)], args := [d] }
  | _ => none }
def StreamFuelWrongFalsely : Prop := streamFuelRow.holds Tryz.pinned (OpenSpec.ofChange streamFuelWrong)

/-- 'dragomanlaw09.StreamPlain': WHATEVER THE INPUT: true; the input reads as it did. -/
def streamPlainSpec : ChangeSpec := { name := "streamPlain", fn := fun _ => fun
  | [d] => { results := [.lit (.bool true)], args := [d] }
  | _ => none }
def streamPlainRow : OpenClaim := { program := "ytkgpnlldlekcbaagreatdoor", sum := "4e2c314f0833bd81ebea02a389d32880e886d077142752977f7f47449750fdfc", func := "dragoman/dragomanlaw09.StreamPlain", spec := "streamPlain", inPlace := ["internal/bytealg.IndexByteString", "internal/bytealg.IndexString", "internal/bytealg.CountString", "internal/abi.NoEscape", "internal/bytealg.MakeNoZero"], unfollowed := true, recurses := true, named := ["unicode/utf8.first", "unicode/utf8.acceptRanges", "internal/bytealg.MaxLen"], apart := false, laid := [("unicode/utf8.acceptRanges", laid_unicode_utf8_acceptRanges), ("unicode/utf8.first", laid_unicode_utf8_first)] }
def StreamPlainSaid : Prop := streamPlainRow.holds Tryz.pinned (OpenSpec.ofChange streamPlainSpec)

/-- ITS FALSE NEIGHBOUR: 'it returns false'. Refute it at one input. -/
def streamPlainWrong : ChangeSpec := { name := "streamPlain", fn := fun _ => fun
  | [d] => { results := [.lit (.bool false)], args := [d] }
  | _ => none }
def StreamPlainWrongFalsely : Prop := streamPlainRow.holds Tryz.pinned (OpenSpec.ofChange streamPlainWrong)

/-- 'dragomanlaw09.StreamLines': WHATEVER THE INPUT: true; the input reads as it did. -/
def streamLinesSpec : ChangeSpec := { name := "streamLines", fn := fun _ => fun
  | [d] => { results := [.lit (.bool true)], args := [d] }
  | _ => none }
def streamLinesRow : OpenClaim := { program := "ytkgpnlldlekcbaagreatdoor", sum := "4e2c314f0833bd81ebea02a389d32880e886d077142752977f7f47449750fdfc", func := "dragoman/dragomanlaw09.StreamLines", spec := "streamLines", inPlace := ["internal/bytealg.IndexByteString", "internal/bytealg.IndexString", "internal/bytealg.CountString", "internal/abi.NoEscape", "internal/bytealg.MakeNoZero"], unfollowed := true, recurses := true, named := ["unicode/utf8.first", "unicode/utf8.acceptRanges", "internal/bytealg.MaxLen"], apart := false, laid := [("unicode/utf8.acceptRanges", laid_unicode_utf8_acceptRanges), ("unicode/utf8.first", laid_unicode_utf8_first)] }
def StreamLinesSaid : Prop := streamLinesRow.holds Tryz.pinned (OpenSpec.ofChange streamLinesSpec)

/-- ITS FALSE NEIGHBOUR: 'it returns false'. Refute it at one input. -/
def streamLinesWrong : ChangeSpec := { name := "streamLines", fn := fun _ => fun
  | [d] => { results := [.lit (.bool false)], args := [d] }
  | _ => none }
def StreamLinesWrongFalsely : Prop := streamLinesRow.holds Tryz.pinned (OpenSpec.ofChange streamLinesWrong)

/-- 'dragomanlaw09.StreamPrints': WHATEVER THE INPUT: true; the input reads as it did. -/
def streamPrintsSpec : ChangeSpec := { name := "streamPrints", fn := fun _ => fun
  | [d1, d2, d3] => { results := [.lit (.bool true)], args := [d1, d2, d3] }
  | _ => none }
def streamPrintsRow : OpenClaim := { program := "ytkgpnlldlekcbaagreatdoor", sum := "4e2c314f0833bd81ebea02a389d32880e886d077142752977f7f47449750fdfc", func := "dragoman/dragomanlaw09.StreamPrints", spec := "streamPrints", inPlace := ["internal/bytealg.IndexByteString", "internal/bytealg.IndexString", "internal/bytealg.CountString", "internal/abi.NoEscape", "internal/bytealg.MakeNoZero"], unfollowed := true, recurses := true, named := ["unicode/utf8.first", "unicode/utf8.acceptRanges", "internal/bytealg.MaxLen"], apart := false, laid := [("unicode/utf8.acceptRanges", laid_unicode_utf8_acceptRanges), ("unicode/utf8.first", laid_unicode_utf8_first)] }
def StreamPrintsSaid : Prop := streamPrintsRow.holds Tryz.pinned (OpenSpec.ofChange streamPrintsSpec)

/-- ITS FALSE NEIGHBOUR: 'it returns false'. Refute it at one input. -/
def streamPrintsWrong : ChangeSpec := { name := "streamPrints", fn := fun _ => fun
  | [d1, d2, d3] => { results := [.lit (.bool false)], args := [d1, d2, d3] }
  | _ => none }
def StreamPrintsWrongFalsely : Prop := streamPrintsRow.holds Tryz.pinned (OpenSpec.ofChange streamPrintsWrong)

/-- 'dragomanlaw09.StreamQuits': WHATEVER THE INPUT: true; the input reads as it did. -/
def streamQuitsSpec : ChangeSpec := { name := "streamQuits", fn := fun _ => fun
  | [d1, d2] => { results := [.lit (.bool true)], args := [d1, d2] }
  | _ => none }
def streamQuitsRow : OpenClaim := { program := "ytkgpnlldlekcbaagreatdoor", sum := "4e2c314f0833bd81ebea02a389d32880e886d077142752977f7f47449750fdfc", func := "dragoman/dragomanlaw09.StreamQuits", spec := "streamQuits", inPlace := ["internal/bytealg.IndexByteString", "internal/bytealg.IndexString", "internal/bytealg.CountString", "internal/abi.NoEscape", "internal/bytealg.MakeNoZero"], unfollowed := true, recurses := true, named := ["unicode/utf8.first", "unicode/utf8.acceptRanges", "internal/bytealg.MaxLen"], apart := false, laid := [("unicode/utf8.acceptRanges", laid_unicode_utf8_acceptRanges), ("unicode/utf8.first", laid_unicode_utf8_first)] }
def StreamQuitsSaid : Prop := streamQuitsRow.holds Tryz.pinned (OpenSpec.ofChange streamQuitsSpec)

/-- ITS FALSE NEIGHBOUR: 'it returns false'. Refute it at one input. -/
def streamQuitsWrong : ChangeSpec := { name := "streamQuits", fn := fun _ => fun
  | [d1, d2] => { results := [.lit (.bool false)], args := [d1, d2] }
  | _ => none }
def StreamQuitsWrongFalsely : Prop := streamQuitsRow.holds Tryz.pinned (OpenSpec.ofChange streamQuitsWrong)

/-- 'dragomanlaw09.StreamHolds': WHATEVER THE INPUT: true; the input reads as it did. -/
def streamHoldsSpec : ChangeSpec := { name := "streamHolds", fn := fun _ => fun
  | [d] => { results := [.lit (.bool true)], args := [d] }
  | _ => none }
def streamHoldsRow : OpenClaim := { program := "ytkgpnlldlekcbaagreatdoor", sum := "4e2c314f0833bd81ebea02a389d32880e886d077142752977f7f47449750fdfc", func := "dragoman/dragomanlaw09.StreamHolds", spec := "streamHolds", inPlace := ["internal/bytealg.IndexByteString", "internal/bytealg.IndexString", "internal/bytealg.CountString", "internal/abi.NoEscape", "internal/bytealg.MakeNoZero"], unfollowed := true, recurses := true, named := ["unicode/utf8.first", "unicode/utf8.acceptRanges", "internal/bytealg.MaxLen"], apart := false, laid := [("unicode/utf8.acceptRanges", laid_unicode_utf8_acceptRanges), ("unicode/utf8.first", laid_unicode_utf8_first)] }
def StreamHoldsSaid : Prop := streamHoldsRow.holds Tryz.pinned (OpenSpec.ofChange streamHoldsSpec)

/-- ITS FALSE NEIGHBOUR: 'it returns false'. Refute it at one input. -/
def streamHoldsWrong : ChangeSpec := { name := "streamHolds", fn := fun _ => fun
  | [d] => { results := [.lit (.bool false)], args := [d] }
  | _ => none }
def StreamHoldsWrongFalsely : Prop := streamHoldsRow.holds Tryz.pinned (OpenSpec.ofChange streamHoldsWrong)

/- THE SECOND FORM. 'bulk': how many values and letters a reading holds, each counted each time it is reached (what is shared counts as often as it is met; a slice's spare places count too). A statement '..UptoSaid' is the law's where the arguments, and the package variables that the reading takes, are together of bulk at most 1048576: NARROWER than '..Said'. Prove '..Said' where nothing that the law and all that it calls make is longer than what came in: it says more and counts as full. Else prove '..UptoSaid'. A law counts once. -/
mutual
def uptoBulk {H : Type} : DataW H → Nat
  | .lit (.string bytes) => bytes.length + 1
  | .lit _ => 1
  | .nil => 1
  | .ptr d => uptoBulk d + 1
  | .slice elems spare => uptoBulkAll elems + uptoBulkAll spare + 1
  | .agg parts => uptoBulkAll parts + 1
  | .iface _ d => uptoBulk d + 1
  | .map entries => uptoBulkEntries entries + 1
  | .held _ => 1
def uptoBulkAll {H : Type} : List (DataW H) → Nat
  | [] => 0
  | d :: r => uptoBulk d + uptoBulkAll r
def uptoBulkEntries {H : Type} : List (Lit × DataW H) → Nat
  | [] => 0
  | x :: r => uptoBulkEntry x + uptoBulkEntries r
def uptoBulkEntry {H : Type} : Lit × DataW H → Nat
  | (.string bytes, d) => bytes.length + uptoBulk d + 1
  | (_, d) => uptoBulk d + 1
 end
def uptoSmall : (H : Type) → List (DataW H) → Bool := fun _ ds => decide (uptoBulkAll ds ≤ 1048576)
def OpenSpec.upto (s : _root_.Go.ChangeSpec) : _root_.Go.OpenSpec := { _root_.Go.OpenSpec.ofChange s with cond := some uptoSmall }

/-- 'dragomanlaw09.StreamFuel', WHERE WHAT IT READS IS OF BULK AT MOST 1048576: true; the input reads as it did. -/
def streamFuelUptoRow : OpenClaim := { program := "ytkgpnlldlekcbaagreatdoor", sum := "4e2c314f0833bd81ebea02a389d32880e886d077142752977f7f47449750fdfc", func := "dragoman/dragomanlaw09.StreamFuel", spec := "streamFuel", inPlace := ["internal/bytealg.IndexByteString", "internal/bytealg.IndexString", "internal/bytealg.CountString", "internal/abi.NoEscape", "internal/bytealg.MakeNoZero"], unfollowed := true, recurses := true, named := ["unicode/utf8.first", "unicode/utf8.acceptRanges", "internal/bytealg.MaxLen"], apart := false, laid := [("unicode/utf8.acceptRanges", laid_unicode_utf8_acceptRanges), ("unicode/utf8.first", laid_unicode_utf8_first)], narrowed := true }
def StreamFuelUptoSaid : Prop := streamFuelUptoRow.holds Tryz.pinned (OpenSpec.upto streamFuelSpec)

/-- 'dragomanlaw09.StreamPlain', WHERE WHAT IT READS IS OF BULK AT MOST 1048576: true; the input reads as it did. -/
def streamPlainUptoRow : OpenClaim := { program := "ytkgpnlldlekcbaagreatdoor", sum := "4e2c314f0833bd81ebea02a389d32880e886d077142752977f7f47449750fdfc", func := "dragoman/dragomanlaw09.StreamPlain", spec := "streamPlain", inPlace := ["internal/bytealg.IndexByteString", "internal/bytealg.IndexString", "internal/bytealg.CountString", "internal/abi.NoEscape", "internal/bytealg.MakeNoZero"], unfollowed := true, recurses := true, named := ["unicode/utf8.first", "unicode/utf8.acceptRanges", "internal/bytealg.MaxLen"], apart := false, laid := [("unicode/utf8.acceptRanges", laid_unicode_utf8_acceptRanges), ("unicode/utf8.first", laid_unicode_utf8_first)], narrowed := true }
def StreamPlainUptoSaid : Prop := streamPlainUptoRow.holds Tryz.pinned (OpenSpec.upto streamPlainSpec)

/-- 'dragomanlaw09.StreamLines', WHERE WHAT IT READS IS OF BULK AT MOST 1048576: true; the input reads as it did. -/
def streamLinesUptoRow : OpenClaim := { program := "ytkgpnlldlekcbaagreatdoor", sum := "4e2c314f0833bd81ebea02a389d32880e886d077142752977f7f47449750fdfc", func := "dragoman/dragomanlaw09.StreamLines", spec := "streamLines", inPlace := ["internal/bytealg.IndexByteString", "internal/bytealg.IndexString", "internal/bytealg.CountString", "internal/abi.NoEscape", "internal/bytealg.MakeNoZero"], unfollowed := true, recurses := true, named := ["unicode/utf8.first", "unicode/utf8.acceptRanges", "internal/bytealg.MaxLen"], apart := false, laid := [("unicode/utf8.acceptRanges", laid_unicode_utf8_acceptRanges), ("unicode/utf8.first", laid_unicode_utf8_first)], narrowed := true }
def StreamLinesUptoSaid : Prop := streamLinesUptoRow.holds Tryz.pinned (OpenSpec.upto streamLinesSpec)

/-- 'dragomanlaw09.StreamPrints', WHERE WHAT IT READS IS OF BULK AT MOST 1048576: true; the input reads as it did. -/
def streamPrintsUptoRow : OpenClaim := { program := "ytkgpnlldlekcbaagreatdoor", sum := "4e2c314f0833bd81ebea02a389d32880e886d077142752977f7f47449750fdfc", func := "dragoman/dragomanlaw09.StreamPrints", spec := "streamPrints", inPlace := ["internal/bytealg.IndexByteString", "internal/bytealg.IndexString", "internal/bytealg.CountString", "internal/abi.NoEscape", "internal/bytealg.MakeNoZero"], unfollowed := true, recurses := true, named := ["unicode/utf8.first", "unicode/utf8.acceptRanges", "internal/bytealg.MaxLen"], apart := false, laid := [("unicode/utf8.acceptRanges", laid_unicode_utf8_acceptRanges), ("unicode/utf8.first", laid_unicode_utf8_first)], narrowed := true }
def StreamPrintsUptoSaid : Prop := streamPrintsUptoRow.holds Tryz.pinned (OpenSpec.upto streamPrintsSpec)

/-- 'dragomanlaw09.StreamQuits', WHERE WHAT IT READS IS OF BULK AT MOST 1048576: true; the input reads as it did. -/
def streamQuitsUptoRow : OpenClaim := { program := "ytkgpnlldlekcbaagreatdoor", sum := "4e2c314f0833bd81ebea02a389d32880e886d077142752977f7f47449750fdfc", func := "dragoman/dragomanlaw09.StreamQuits", spec := "streamQuits", inPlace := ["internal/bytealg.IndexByteString", "internal/bytealg.IndexString", "internal/bytealg.CountString", "internal/abi.NoEscape", "internal/bytealg.MakeNoZero"], unfollowed := true, recurses := true, named := ["unicode/utf8.first", "unicode/utf8.acceptRanges", "internal/bytealg.MaxLen"], apart := false, laid := [("unicode/utf8.acceptRanges", laid_unicode_utf8_acceptRanges), ("unicode/utf8.first", laid_unicode_utf8_first)], narrowed := true }
def StreamQuitsUptoSaid : Prop := streamQuitsUptoRow.holds Tryz.pinned (OpenSpec.upto streamQuitsSpec)

/-- 'dragomanlaw09.StreamHolds', WHERE WHAT IT READS IS OF BULK AT MOST 1048576: true; the input reads as it did. -/
def streamHoldsUptoRow : OpenClaim := { program := "ytkgpnlldlekcbaagreatdoor", sum := "4e2c314f0833bd81ebea02a389d32880e886d077142752977f7f47449750fdfc", func := "dragoman/dragomanlaw09.StreamHolds", spec := "streamHolds", inPlace := ["internal/bytealg.IndexByteString", "internal/bytealg.IndexString", "internal/bytealg.CountString", "internal/abi.NoEscape", "internal/bytealg.MakeNoZero"], unfollowed := true, recurses := true, named := ["unicode/utf8.first", "unicode/utf8.acceptRanges", "internal/bytealg.MaxLen"], apart := false, laid := [("unicode/utf8.acceptRanges", laid_unicode_utf8_acceptRanges), ("unicode/utf8.first", laid_unicode_utf8_first)], narrowed := true }
def StreamHoldsUptoSaid : Prop := streamHoldsUptoRow.holds Tryz.pinned (OpenSpec.upto streamHoldsSpec)

end Rows
end Go.Proofs.YtkgpnlldlekcbaaGreatDoor
