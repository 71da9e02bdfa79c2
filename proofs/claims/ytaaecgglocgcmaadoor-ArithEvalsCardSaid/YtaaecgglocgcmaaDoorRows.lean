/-
  NARROWER THAN 'FOR EVERY INPUT', by the rows' own cells (each row's printed sentence says how): ArithEvals: laid · ArithVars: laid · ArithSets: laid · ArithBrackets: laid · ArithFigures: laid · ArithOrders: laid · ArithBools: laid · ArithUnset: laid.
  DERIVED. THE GIVEN ROWS OF THIS SEAT. 8 by the template 'for every input the law returns true; each argument reads behind the call as it read before'; 0 by the template 'total and deterministic' (their statements: YtaaecgglocgcmaaDoorTotals.lean).
  GIVEN WITH THE SEED: the statements are not yours to turn. If you find one false, say at which input.
  Laid BY PROGRAM, IN A SANDBOX (cutbox-rows.mjs): the forced cells as the released guide's own fill.sh prints them over the translation cd91d7aa134600df… (all of the seat's roots in one cut). By AI agents, Wed Nov 11 2026. No macro, syntax, notation, axiom, sorry.
-/
import Derived.Test.YtaaecgglocgcmaaDoorChecked
import GoSem.PinnedTables
import GoSem.Claim
import GoSem.ClaimJoined
import GoSem.ClaimMapViews
import Derived.JoinedTies
import Derived.KernelRfl
namespace Go.Proofs.YtaaecgglocgcmaaDoor
/- THE CELL 'sum', in the pinned program and in every row, IS THE sha256 OF THE DUMP (.gsa) THAT YtaaecgglocgcmaaDoorProg.lean LOADS. Nothing in Lean hashes anything: it is a label: what it is worth is what the hold of that sum in a sandbox is worth. -/
noncomputable def Tryd.pinned : Pinned := { name := "ytaaecgglocgcmaadoor", sum := "cd91d7aa134600df5e1d4b8bbcc0d96b176e169db196a78f72247a17f5d93c89", checked := Tryd.checked }
namespace Rows
def none {H : Type} : Left H := { results := [], args := [] }

/- WHAT THE LISTED PACKAGE-LEVEL VARIABLES READ AS WHEN THE CALL BEGINS. Each datum BY PROGRAM (the guide's laid-datum.mjs) off the statement by which the dump's own 'gosem.cut.vars' lays the variable. In a bare row this is a premise. The card (YtaaecgglocgcmaaDoorCards.lean) ties it to the program's text. -/
def laid_unicode_utf8_acceptRanges {H : Type} : DataW H := .agg [.agg [.lit (.int .u8 128), .lit (.int .u8 191)], .agg [.lit (.int .u8 160), .lit (.int .u8 191)], .agg [.lit (.int .u8 128), .lit (.int .u8 159)], .agg [.lit (.int .u8 144), .lit (.int .u8 191)], .agg [.lit (.int .u8 128), .lit (.int .u8 143)], .agg [.lit (.int .u8 0), .lit (.int .u8 0)], .agg [.lit (.int .u8 0), .lit (.int .u8 0)], .agg [.lit (.int .u8 0), .lit (.int .u8 0)], .agg [.lit (.int .u8 0), .lit (.int .u8 0)], .agg [.lit (.int .u8 0), .lit (.int .u8 0)], .agg [.lit (.int .u8 0), .lit (.int .u8 0)], .agg [.lit (.int .u8 0), .lit (.int .u8 0)], .agg [.lit (.int .u8 0), .lit (.int .u8 0)], .agg [.lit (.int .u8 0), .lit (.int .u8 0)], .agg [.lit (.int .u8 0), .lit (.int .u8 0)], .agg [.lit (.int .u8 0), .lit (.int .u8 0)]]
def laid_dragoman_arith_marks {H : Type} : DataW H := .agg [.slice [.lit (.string [124, 124])] [], .slice [.lit (.string [38, 38])] [], .slice [.lit (.string [61, 61]), .lit (.string [33, 61])] [], .slice [.lit (.string [60, 61]), .lit (.string [62, 61]), .lit (.string [60]), .lit (.string [62])] [], .slice [.lit (.string [43]), .lit (.string [45])] [], .slice [.lit (.string [42]), .lit (.string [47]), .lit (.string [37])] []]
/-- One of Go's own tables, pinned by name: the form's constant. -/
def laid_unicode_utf8_first : DataW Unit := Go.Pinned.utf8First

/-- 'dragomanlaw10.ArithEvals': WHATEVER THE INPUT: true; the input reads as it did. -/
def arithEvalsSpec : ChangeSpec := { name := "arithEvals", fn := fun _ => fun
  | [d1, d2] => { results := [.lit (.bool true)], args := [d1, d2] }
  | _ => none }
def arithEvalsRow : OpenClaim := { program := "ytaaecgglocgcmaadoor", sum := "cd91d7aa134600df5e1d4b8bbcc0d96b176e169db196a78f72247a17f5d93c89", func := "dragoman/dragomanlaw10.ArithEvals", spec := "arithEvals", inPlace := ["internal/bytealg.IndexByteString", "internal/bytealg.IndexString", "internal/bytealg.abigen_runtime_cmpstring"], unfollowed := true, recurses := true, named := ["unicode/utf8.first", "unicode/utf8.acceptRanges", "dragoman/arith.marks", "internal/bytealg.MaxLen"], apart := false, laid := [("unicode/utf8.acceptRanges", laid_unicode_utf8_acceptRanges), ("dragoman/arith.marks", laid_dragoman_arith_marks), ("unicode/utf8.first", laid_unicode_utf8_first)] }
def ArithEvalsSaid : Prop := arithEvalsRow.holds Tryd.pinned (OpenSpec.ofChange arithEvalsSpec)

/-- ITS FALSE NEIGHBOUR: 'it returns false'. Refute it at one input. -/
def arithEvalsWrong : ChangeSpec := { name := "arithEvals", fn := fun _ => fun
  | [d1, d2] => { results := [.lit (.bool false)], args := [d1, d2] }
  | _ => none }
def ArithEvalsWrongFalsely : Prop := arithEvalsRow.holds Tryd.pinned (OpenSpec.ofChange arithEvalsWrong)

/-- 'dragomanlaw10.ArithVars': WHATEVER THE INPUT: true; the input reads as it did. -/
def arithVarsSpec : ChangeSpec := { name := "arithVars", fn := fun _ => fun
  | [d1, d2, d3] => { results := [.lit (.bool true)], args := [d1, d2, d3] }
  | _ => none }
def arithVarsRow : OpenClaim := { program := "ytaaecgglocgcmaadoor", sum := "cd91d7aa134600df5e1d4b8bbcc0d96b176e169db196a78f72247a17f5d93c89", func := "dragoman/dragomanlaw10.ArithVars", spec := "arithVars", inPlace := ["internal/bytealg.IndexByteString", "internal/bytealg.IndexString", "internal/bytealg.abigen_runtime_cmpstring"], unfollowed := true, recurses := true, named := ["unicode/utf8.first", "unicode/utf8.acceptRanges", "dragoman/arith.marks", "internal/bytealg.MaxLen"], apart := false, laid := [("unicode/utf8.acceptRanges", laid_unicode_utf8_acceptRanges), ("dragoman/arith.marks", laid_dragoman_arith_marks), ("unicode/utf8.first", laid_unicode_utf8_first)] }
def ArithVarsSaid : Prop := arithVarsRow.holds Tryd.pinned (OpenSpec.ofChange arithVarsSpec)

/-- ITS FALSE NEIGHBOUR: 'it returns false'. Refute it at one input. -/
def arithVarsWrong : ChangeSpec := { name := "arithVars", fn := fun _ => fun
  | [d1, d2, d3] => { results := [.lit (.bool false)], args := [d1, d2, d3] }
  | _ => none }
def ArithVarsWrongFalsely : Prop := arithVarsRow.holds Tryd.pinned (OpenSpec.ofChange arithVarsWrong)

/-- 'dragomanlaw10.ArithSets': WHATEVER THE INPUT: true; the input reads as it did. -/
def arithSetsSpec : ChangeSpec := { name := "arithSets", fn := fun _ => fun
  | [d] => { results := [.lit (.bool true)], args := [d] }
  | _ => none }
def arithSetsRow : OpenClaim := { program := "ytaaecgglocgcmaadoor", sum := "cd91d7aa134600df5e1d4b8bbcc0d96b176e169db196a78f72247a17f5d93c89", func := "dragoman/dragomanlaw10.ArithSets", spec := "arithSets", inPlace := ["internal/bytealg.IndexByteString", "internal/bytealg.IndexString", "internal/bytealg.abigen_runtime_cmpstring"], unfollowed := true, recurses := true, named := ["unicode/utf8.first", "unicode/utf8.acceptRanges", "dragoman/arith.marks", "internal/bytealg.MaxLen"], apart := false, laid := [("unicode/utf8.acceptRanges", laid_unicode_utf8_acceptRanges), ("dragoman/arith.marks", laid_dragoman_arith_marks), ("unicode/utf8.first", laid_unicode_utf8_first)] }
def ArithSetsSaid : Prop := arithSetsRow.holds Tryd.pinned (OpenSpec.ofChange arithSetsSpec)

/-- ITS FALSE NEIGHBOUR: 'it returns false'. Refute it at one input. -/
def arithSetsWrong : ChangeSpec := { name := "arithSets", fn := fun _ => fun
  | [d] => { results := [.lit (.bool false)], args := [d] }
  | _ => none }
def ArithSetsWrongFalsely : Prop := arithSetsRow.holds Tryd.pinned (OpenSpec.ofChange arithSetsWrong)

/-- 'dragomanlaw10.ArithBrackets': WHATEVER THE INPUT: true; the input reads as it did. -/
def arithBracketsSpec : ChangeSpec := { name := "arithBrackets", fn := fun _ => fun
  | [d1, d2] => { results := [.lit (.bool true)], args := [d1, d2] }
  | _ => none }
def arithBracketsRow : OpenClaim := { program := "ytaaecgglocgcmaadoor", sum := "cd91d7aa134600df5e1d4b8bbcc0d96b176e169db196a78f72247a17f5d93c89", func := "dragoman/dragomanlaw10.ArithBrackets", spec := "arithBrackets", inPlace := ["internal/bytealg.IndexByteString", "internal/bytealg.IndexString", "internal/bytealg.abigen_runtime_cmpstring"], unfollowed := true, recurses := true, named := ["unicode/utf8.first", "unicode/utf8.acceptRanges", "dragoman/arith.marks", "internal/bytealg.MaxLen"], apart := false, laid := [("unicode/utf8.acceptRanges", laid_unicode_utf8_acceptRanges), ("dragoman/arith.marks", laid_dragoman_arith_marks), ("unicode/utf8.first", laid_unicode_utf8_first)] }
def ArithBracketsSaid : Prop := arithBracketsRow.holds Tryd.pinned (OpenSpec.ofChange arithBracketsSpec)

/-- ITS FALSE NEIGHBOUR: 'it returns false'. Refute it at one input. -/
def arithBracketsWrong : ChangeSpec := { name := "arithBrackets", fn := fun _ => fun
  | [d1, d2] => { results := [.lit (.bool false)], args := [d1, d2] }
  | _ => none }
def ArithBracketsWrongFalsely : Prop := arithBracketsRow.holds Tryd.pinned (OpenSpec.ofChange arithBracketsWrong)

/-- 'dragomanlaw10.ArithFigures': WHATEVER THE INPUT: true; the input reads as it did. -/
def arithFiguresSpec : ChangeSpec := { name := "arithFigures", fn := fun _ => fun
  | [d1, d2] => { results := [.lit (.bool true)], args := [d1, d2] }
  | _ => none }
def arithFiguresRow : OpenClaim := { program := "ytaaecgglocgcmaadoor", sum := "cd91d7aa134600df5e1d4b8bbcc0d96b176e169db196a78f72247a17f5d93c89", func := "dragoman/dragomanlaw10.ArithFigures", spec := "arithFigures", inPlace := ["internal/bytealg.IndexByteString", "internal/bytealg.IndexString", "internal/bytealg.abigen_runtime_cmpstring"], unfollowed := true, recurses := true, named := ["unicode/utf8.first", "unicode/utf8.acceptRanges", "dragoman/arith.marks", "internal/bytealg.MaxLen"], apart := false, laid := [("unicode/utf8.acceptRanges", laid_unicode_utf8_acceptRanges), ("dragoman/arith.marks", laid_dragoman_arith_marks), ("unicode/utf8.first", laid_unicode_utf8_first)] }
def ArithFiguresSaid : Prop := arithFiguresRow.holds Tryd.pinned (OpenSpec.ofChange arithFiguresSpec)

/-- ITS FALSE NEIGHBOUR: 'it returns false'. Refute it at one input. -/
def arithFiguresWrong : ChangeSpec := { name := "arithFigures", fn := fun _ => fun
  | [d1, d2] => { results := [.lit (.bool false)], args := [d1, d2] }
  | _ => none }
def ArithFiguresWrongFalsely : Prop := arithFiguresRow.holds Tryd.pinned (OpenSpec.ofChange arithFiguresWrong)

/-- 'dragomanlaw10.ArithOrders': WHATEVER THE INPUT: true; the input reads as it did. -/
def arithOrdersSpec : ChangeSpec := { name := "arithOrders", fn := fun _ => fun
  | [d1, d2, d3] => { results := [.lit (.bool true)], args := [d1, d2, d3] }
  | _ => none }
def arithOrdersRow : OpenClaim := { program := "ytaaecgglocgcmaadoor", sum := "cd91d7aa134600df5e1d4b8bbcc0d96b176e169db196a78f72247a17f5d93c89", func := "dragoman/dragomanlaw10.ArithOrders", spec := "arithOrders", inPlace := ["internal/bytealg.IndexByteString", "internal/bytealg.IndexString", "internal/bytealg.abigen_runtime_cmpstring"], unfollowed := true, recurses := true, named := ["unicode/utf8.first", "unicode/utf8.acceptRanges", "dragoman/arith.marks", "internal/bytealg.MaxLen"], apart := false, laid := [("unicode/utf8.acceptRanges", laid_unicode_utf8_acceptRanges), ("dragoman/arith.marks", laid_dragoman_arith_marks), ("unicode/utf8.first", laid_unicode_utf8_first)] }
def ArithOrdersSaid : Prop := arithOrdersRow.holds Tryd.pinned (OpenSpec.ofChange arithOrdersSpec)

/-- ITS FALSE NEIGHBOUR: 'it returns false'. Refute it at one input. -/
def arithOrdersWrong : ChangeSpec := { name := "arithOrders", fn := fun _ => fun
  | [d1, d2, d3] => { results := [.lit (.bool false)], args := [d1, d2, d3] }
  | _ => none }
def ArithOrdersWrongFalsely : Prop := arithOrdersRow.holds Tryd.pinned (OpenSpec.ofChange arithOrdersWrong)

/-- 'dragomanlaw10.ArithBools': WHATEVER THE INPUT: true; the input reads as it did. -/
def arithBoolsSpec : ChangeSpec := { name := "arithBools", fn := fun _ => fun
  | [d1, d2] => { results := [.lit (.bool true)], args := [d1, d2] }
  | _ => none }
def arithBoolsRow : OpenClaim := { program := "ytaaecgglocgcmaadoor", sum := "cd91d7aa134600df5e1d4b8bbcc0d96b176e169db196a78f72247a17f5d93c89", func := "dragoman/dragomanlaw10.ArithBools", spec := "arithBools", inPlace := ["internal/bytealg.IndexByteString", "internal/bytealg.IndexString", "internal/bytealg.abigen_runtime_cmpstring"], unfollowed := true, recurses := true, named := ["unicode/utf8.first", "unicode/utf8.acceptRanges", "dragoman/arith.marks", "internal/bytealg.MaxLen"], apart := false, laid := [("unicode/utf8.acceptRanges", laid_unicode_utf8_acceptRanges), ("dragoman/arith.marks", laid_dragoman_arith_marks), ("unicode/utf8.first", laid_unicode_utf8_first)] }
def ArithBoolsSaid : Prop := arithBoolsRow.holds Tryd.pinned (OpenSpec.ofChange arithBoolsSpec)

/-- ITS FALSE NEIGHBOUR: 'it returns false'. Refute it at one input. -/
def arithBoolsWrong : ChangeSpec := { name := "arithBools", fn := fun _ => fun
  | [d1, d2] => { results := [.lit (.bool false)], args := [d1, d2] }
  | _ => none }
def ArithBoolsWrongFalsely : Prop := arithBoolsRow.holds Tryd.pinned (OpenSpec.ofChange arithBoolsWrong)

/-- 'dragomanlaw10.ArithUnset': WHATEVER THE INPUT: true; the input reads as it did. -/
def arithUnsetSpec : ChangeSpec := { name := "arithUnset", fn := fun _ => fun
  | [d1, d2] => { results := [.lit (.bool true)], args := [d1, d2] }
  | _ => none }
def arithUnsetRow : OpenClaim := { program := "ytaaecgglocgcmaadoor", sum := "cd91d7aa134600df5e1d4b8bbcc0d96b176e169db196a78f72247a17f5d93c89", func := "dragoman/dragomanlaw10.ArithUnset", spec := "arithUnset", inPlace := ["internal/bytealg.IndexByteString", "internal/bytealg.IndexString", "internal/bytealg.abigen_runtime_cmpstring"], unfollowed := true, recurses := true, named := ["unicode/utf8.first", "unicode/utf8.acceptRanges", "dragoman/arith.marks", "internal/bytealg.MaxLen"], apart := false, laid := [("unicode/utf8.acceptRanges", laid_unicode_utf8_acceptRanges), ("dragoman/arith.marks", laid_dragoman_arith_marks), ("unicode/utf8.first", laid_unicode_utf8_first)] }
def ArithUnsetSaid : Prop := arithUnsetRow.holds Tryd.pinned (OpenSpec.ofChange arithUnsetSpec)

/-- ITS FALSE NEIGHBOUR: 'it returns false'. Refute it at one input. -/
def arithUnsetWrong : ChangeSpec := { name := "arithUnset", fn := fun _ => fun
  | [d1, d2] => { results := [.lit (.bool false)], args := [d1, d2] }
  | _ => none }
def ArithUnsetWrongFalsely : Prop := arithUnsetRow.holds Tryd.pinned (OpenSpec.ofChange arithUnsetWrong)

/- THE SECOND FORM. 'bulk': how many values and letters a reading holds, each counted each time it is reached (what is shared counts as often as it is met; a slice's spare places count too). A statement '..UptoSaid' is the law's where the arguments, and the package variables that the reading takes, are together of bulk at most 1048576: NARROWER than '..Said'. Prove '..Said' where nothing that the law and all that it calls make is longer than what came in: it says more and counts as full. Else prove '..UptoSaid'. A law counts once. -/
mutual
def uptoBulk {H : Type} : DataW H → Nat
  | .lit (.string bytes) => bytes.length + 1
  | .lit _ => 1
  | .nil => 1
  | .ptr d => uptoBulk d + 1
  | .slice elems spare => uptoBulkAll elems + uptoBulkAll spare + 1
  | .agg parts => uptoBulkAll parts + 1
  | .iface _ d => uptoBulk d + 1
  | .map entries => uptoBulkEntries entries + 1
  | .held _ => 1
def uptoBulkAll {H : Type} : List (DataW H) → Nat
  | [] => 0
  | d :: r => uptoBulk d + uptoBulkAll r
def uptoBulkEntries {H : Type} : List (Lit × DataW H) → Nat
  | [] => 0
  | x :: r => uptoBulkEntry x + uptoBulkEntries r
def uptoBulkEntry {H : Type} : Lit × DataW H → Nat
  | (.string bytes, d) => bytes.length + uptoBulk d + 1
  | (_, d) => uptoBulk d + 1
 end
def uptoSmall : (H : Type) → List (DataW H) → Bool := fun _ ds => decide (uptoBulkAll ds ≤ 1048576)
def OpenSpec.upto (s : _root_.Go.ChangeSpec) : _root_.Go.OpenSpec := { _root_.Go.OpenSpec.ofChange s with cond := some uptoSmall }

/-- 'dragomanlaw10.ArithEvals', WHERE WHAT IT READS IS OF BULK AT MOST 1048576: true; the input reads as it did. -/
def arithEvalsUptoRow : OpenClaim := { program := "ytaaecgglocgcmaadoor", sum := "cd91d7aa134600df5e1d4b8bbcc0d96b176e169db196a78f72247a17f5d93c89", func := "dragoman/dragomanlaw10.ArithEvals", spec := "arithEvals", inPlace := ["internal/bytealg.IndexByteString", "internal/bytealg.IndexString", "internal/bytealg.abigen_runtime_cmpstring"], unfollowed := true, recurses := true, named := ["unicode/utf8.first", "unicode/utf8.acceptRanges", "dragoman/arith.marks", "internal/bytealg.MaxLen"], apart := false, laid := [("unicode/utf8.acceptRanges", laid_unicode_utf8_acceptRanges), ("dragoman/arith.marks", laid_dragoman_arith_marks), ("unicode/utf8.first", laid_unicode_utf8_first)], narrowed := true }
def ArithEvalsUptoSaid : Prop := arithEvalsUptoRow.holds Tryd.pinned (OpenSpec.upto arithEvalsSpec)

/-- 'dragomanlaw10.ArithVars', WHERE WHAT IT READS IS OF BULK AT MOST 1048576: true; the input reads as it did. -/
def arithVarsUptoRow : OpenClaim := { program := "ytaaecgglocgcmaadoor", sum := "cd91d7aa134600df5e1d4b8bbcc0d96b176e169db196a78f72247a17f5d93c89", func := "dragoman/dragomanlaw10.ArithVars", spec := "arithVars", inPlace := ["internal/bytealg.IndexByteString", "internal/bytealg.IndexString", "internal/bytealg.abigen_runtime_cmpstring"], unfollowed := true, recurses := true, named := ["unicode/utf8.first", "unicode/utf8.acceptRanges", "dragoman/arith.marks", "internal/bytealg.MaxLen"], apart := false, laid := [("unicode/utf8.acceptRanges", laid_unicode_utf8_acceptRanges), ("dragoman/arith.marks", laid_dragoman_arith_marks), ("unicode/utf8.first", laid_unicode_utf8_first)], narrowed := true }
def ArithVarsUptoSaid : Prop := arithVarsUptoRow.holds Tryd.pinned (OpenSpec.upto arithVarsSpec)

/-- 'dragomanlaw10.ArithSets', WHERE WHAT IT READS IS OF BULK AT MOST 1048576: true; the input reads as it did. -/
def arithSetsUptoRow : OpenClaim := { program := "ytaaecgglocgcmaadoor", sum := "cd91d7aa134600df5e1d4b8bbcc0d96b176e169db196a78f72247a17f5d93c89", func := "dragoman/dragomanlaw10.ArithSets", spec := "arithSets", inPlace := ["internal/bytealg.IndexByteString", "internal/bytealg.IndexString", "internal/bytealg.abigen_runtime_cmpstring"], unfollowed := true, recurses := true, named := ["unicode/utf8.first", "unicode/utf8.acceptRanges", "dragoman/arith.marks", "internal/bytealg.MaxLen"], apart := false, laid := [("unicode/utf8.acceptRanges", laid_unicode_utf8_acceptRanges), ("dragoman/arith.marks", laid_dragoman_arith_marks), ("unicode/utf8.first", laid_unicode_utf8_first)], narrowed := true }
def ArithSetsUptoSaid : Prop := arithSetsUptoRow.holds Tryd.pinned (OpenSpec.upto arithSetsSpec)

/-- 'dragomanlaw10.ArithBrackets', WHERE WHAT IT READS IS OF BULK AT MOST 1048576: true; the input reads as it did. -/
def arithBracketsUptoRow : OpenClaim := { program := "ytaaecgglocgcmaadoor", sum := "cd91d7aa134600df5e1d4b8bbcc0d96b176e169db196a78f72247a17f5d93c89", func := "dragoman/dragomanlaw10.ArithBrackets", spec := "arithBrackets", inPlace := ["internal/bytealg.IndexByteString", "internal/bytealg.IndexString", "internal/bytealg.abigen_runtime_cmpstring"], unfollowed := true, recurses := true, named := ["unicode/utf8.first", "unicode/utf8.acceptRanges", "dragoman/arith.marks", "internal/bytealg.MaxLen"], apart := false, laid := [("unicode/utf8.acceptRanges", laid_unicode_utf8_acceptRanges), ("dragoman/arith.marks", laid_dragoman_arith_marks), ("unicode/utf8.first", laid_unicode_utf8_first)], narrowed := true }
def ArithBracketsUptoSaid : Prop := arithBracketsUptoRow.holds Tryd.pinned (OpenSpec.upto arithBracketsSpec)

/-- 'dragomanlaw10.ArithFigures', WHERE WHAT IT READS IS OF BULK AT MOST 1048576: true; the input reads as it did. -/
def arithFiguresUptoRow : OpenClaim := { program := "ytaaecgglocgcmaadoor", sum := "cd91d7aa134600df5e1d4b8bbcc0d96b176e169db196a78f72247a17f5d93c89", func := "dragoman/dragomanlaw10.ArithFigures", spec := "arithFigures", inPlace := ["internal/bytealg.IndexByteString", "internal/bytealg.IndexString", "internal/bytealg.abigen_runtime_cmpstring"], unfollowed := true, recurses := true, named := ["unicode/utf8.first", "unicode/utf8.acceptRanges", "dragoman/arith.marks", "internal/bytealg.MaxLen"], apart := false, laid := [("unicode/utf8.acceptRanges", laid_unicode_utf8_acceptRanges), ("dragoman/arith.marks", laid_dragoman_arith_marks), ("unicode/utf8.first", laid_unicode_utf8_first)], narrowed := true }
def ArithFiguresUptoSaid : Prop := arithFiguresUptoRow.holds Tryd.pinned (OpenSpec.upto arithFiguresSpec)

/-- 'dragomanlaw10.ArithOrders', WHERE WHAT IT READS IS OF BULK AT MOST 1048576: true; the input reads as it did. -/
def arithOrdersUptoRow : OpenClaim := { program := "ytaaecgglocgcmaadoor", sum := "cd91d7aa134600df5e1d4b8bbcc0d96b176e169db196a78f72247a17f5d93c89", func := "dragoman/dragomanlaw10.ArithOrders", spec := "arithOrders", inPlace := ["internal/bytealg.IndexByteString", "internal/bytealg.IndexString", "internal/bytealg.abigen_runtime_cmpstring"], unfollowed := true, recurses := true, named := ["unicode/utf8.first", "unicode/utf8.acceptRanges", "dragoman/arith.marks", "internal/bytealg.MaxLen"], apart := false, laid := [("unicode/utf8.acceptRanges", laid_unicode_utf8_acceptRanges), ("dragoman/arith.marks", laid_dragoman_arith_marks), ("unicode/utf8.first", laid_unicode_utf8_first)], narrowed := true }
def ArithOrdersUptoSaid : Prop := arithOrdersUptoRow.holds Tryd.pinned (OpenSpec.upto arithOrdersSpec)

/-- 'dragomanlaw10.ArithBools', WHERE WHAT IT READS IS OF BULK AT MOST 1048576: true; the input reads as it did. -/
def arithBoolsUptoRow : OpenClaim := { program := "ytaaecgglocgcmaadoor", sum := "cd91d7aa134600df5e1d4b8bbcc0d96b176e169db196a78f72247a17f5d93c89", func := "dragoman/dragomanlaw10.ArithBools", spec := "arithBools", inPlace := ["internal/bytealg.IndexByteString", "internal/bytealg.IndexString", "internal/bytealg.abigen_runtime_cmpstring"], unfollowed := true, recurses := true, named := ["unicode/utf8.first", "unicode/utf8.acceptRanges", "dragoman/arith.marks", "internal/bytealg.MaxLen"], apart := false, laid := [("unicode/utf8.acceptRanges", laid_unicode_utf8_acceptRanges), ("dragoman/arith.marks", laid_dragoman_arith_marks), ("unicode/utf8.first", laid_unicode_utf8_first)], narrowed := true }
def ArithBoolsUptoSaid : Prop := arithBoolsUptoRow.holds Tryd.pinned (OpenSpec.upto arithBoolsSpec)

/-- 'dragomanlaw10.ArithUnset', WHERE WHAT IT READS IS OF BULK AT MOST 1048576: true; the input reads as it did. -/
def arithUnsetUptoRow : OpenClaim := { program := "ytaaecgglocgcmaadoor", sum := "cd91d7aa134600df5e1d4b8bbcc0d96b176e169db196a78f72247a17f5d93c89", func := "dragoman/dragomanlaw10.ArithUnset", spec := "arithUnset", inPlace := ["internal/bytealg.IndexByteString", "internal/bytealg.IndexString", "internal/bytealg.abigen_runtime_cmpstring"], unfollowed := true, recurses := true, named := ["unicode/utf8.first", "unicode/utf8.acceptRanges", "dragoman/arith.marks", "internal/bytealg.MaxLen"], apart := false, laid := [("unicode/utf8.acceptRanges", laid_unicode_utf8_acceptRanges), ("dragoman/arith.marks", laid_dragoman_arith_marks), ("unicode/utf8.first", laid_unicode_utf8_first)], narrowed := true }
def ArithUnsetUptoSaid : Prop := arithUnsetUptoRow.holds Tryd.pinned (OpenSpec.upto arithUnsetSpec)

end Rows
end Go.Proofs.YtaaecgglocgcmaaDoor
