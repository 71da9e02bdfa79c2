/-
  No cell of these rows narrows 'for every input' (looked for: loops, veiled, ifaces, maps, wideKeys, modest, calm, conditions, laid).
  DERIVED. THE GIVEN ROWS OF THIS SEAT. 13 by the template 'for every input the law returns true; each argument reads behind the call as it read before'; 0 by the template 'total and deterministic' (their statements: YtgffmbdbjbhocaaTotals.lean).
  GIVEN WITH THE SEED: the statements are not yours to turn. If you find one false, say at which input.
  Laid BY PROGRAM, IN A SANDBOX (cutbox-rows.mjs): the forced cells as the released guide's own fill.sh prints them over the translation c93201660fcc9b19… (all of the seat's roots in one cut). By AI agents, Wed Nov 11 2026. No macro, syntax, notation, axiom, sorry.
-/
import Derived.Test.YtgffmbdbjbhocaaChecked
import GoSem.Claim
import GoSem.ClaimJoined
import GoSem.ClaimMapViews
import Derived.JoinedTies
import Derived.KernelRfl
namespace Go.Proofs.Ytgffmbdbjbhocaa
/- THE CELL 'sum', in the pinned program and in every row, IS THE sha256 OF THE DUMP (.gsa) THAT YtgffmbdbjbhocaaProg.lean LOADS. Nothing in Lean hashes anything: it is a label: what it is worth is what the hold of that sum in a sandbox is worth. -/
noncomputable def Try.pinned : Pinned := { name := "ytgffmbdbjbhocaa", sum := "c93201660fcc9b19308a0bf898907578f2c23f8556b22e86eb94919d6d327638", checked := Try.checked }
namespace Rows
def none {H : Type} : Left H := { results := [], args := [] }

/-- 'dragomanlaw05.RegexTrees': WHATEVER THE INPUT: true; the input reads as it did. -/
def regexTreesSpec : ChangeSpec := { name := "regexTrees", fn := fun _ => fun
  | [d] => { results := [.lit (.bool true)], args := [d] }
  | _ => none }
def regexTreesRow : OpenClaim := { program := "ytgffmbdbjbhocaa", sum := "c93201660fcc9b19308a0bf898907578f2c23f8556b22e86eb94919d6d327638", func := "dragoman/dragomanlaw05.RegexTrees", spec := "regexTrees", inPlace := ["internal/bytealg.IndexByteString", "internal/abi.NoEscape"], unfollowed := true, recurses := true, apart := false }
def RegexTreesSaid : Prop := regexTreesRow.holds Try.pinned (OpenSpec.ofChange regexTreesSpec)

/-- ITS FALSE NEIGHBOUR: 'it returns false'. Refute it at one input. -/
def regexTreesWrong : ChangeSpec := { name := "regexTrees", fn := fun _ => fun
  | [d] => { results := [.lit (.bool false)], args := [d] }
  | _ => none }
def RegexTreesWrongFalsely : Prop := regexTreesRow.holds Try.pinned (OpenSpec.ofChange regexTreesWrong)

/-- 'dragomanlaw06.MatchSpans': WHATEVER THE INPUT: true; the input reads as it did. -/
def matchSpansSpec : ChangeSpec := { name := "matchSpans", fn := fun _ => fun
  | [d1, d2] => { results := [.lit (.bool true)], args := [d1, d2] }
  | _ => none }
def matchSpansRow : OpenClaim := { program := "ytgffmbdbjbhocaa", sum := "c93201660fcc9b19308a0bf898907578f2c23f8556b22e86eb94919d6d327638", func := "dragoman/dragomanlaw06.MatchSpans", spec := "matchSpans", unfollowed := true, recurses := true, apart := false }
def MatchSpansSaid : Prop := matchSpansRow.holds Try.pinned (OpenSpec.ofChange matchSpansSpec)

/-- ITS FALSE NEIGHBOUR: 'it returns false'. Refute it at one input. -/
def matchSpansWrong : ChangeSpec := { name := "matchSpans", fn := fun _ => fun
  | [d1, d2] => { results := [.lit (.bool false)], args := [d1, d2] }
  | _ => none }
def MatchSpansWrongFalsely : Prop := matchSpansRow.holds Try.pinned (OpenSpec.ofChange matchSpansWrong)

/-- 'dragomanlaw06.MatchApart': WHATEVER THE INPUT: true; the input reads as it did. -/
def matchApartSpec : ChangeSpec := { name := "matchApart", fn := fun _ => fun
  | [d1, d2] => { results := [.lit (.bool true)], args := [d1, d2] }
  | _ => none }
def matchApartRow : OpenClaim := { program := "ytgffmbdbjbhocaa", sum := "c93201660fcc9b19308a0bf898907578f2c23f8556b22e86eb94919d6d327638", func := "dragoman/dragomanlaw06.MatchApart", spec := "matchApart", unfollowed := true, recurses := true, apart := false }
def MatchApartSaid : Prop := matchApartRow.holds Try.pinned (OpenSpec.ofChange matchApartSpec)

/-- ITS FALSE NEIGHBOUR: 'it returns false'. Refute it at one input. -/
def matchApartWrong : ChangeSpec := { name := "matchApart", fn := fun _ => fun
  | [d1, d2] => { results := [.lit (.bool false)], args := [d1, d2] }
  | _ => none }
def MatchApartWrongFalsely : Prop := matchApartRow.holds Try.pinned (OpenSpec.ofChange matchApartWrong)

/-- 'dragomanlaw06.MatchJoins': WHATEVER THE INPUT: true; the input reads as it did. -/
def matchJoinsSpec : ChangeSpec := { name := "matchJoins", fn := fun _ => fun
  | [d] => { results := [.lit (.bool true)], args := [d] }
  | _ => none }
def matchJoinsRow : OpenClaim := { program := "ytgffmbdbjbhocaa", sum := "c93201660fcc9b19308a0bf898907578f2c23f8556b22e86eb94919d6d327638", func := "dragoman/dragomanlaw06.MatchJoins", spec := "matchJoins", unfollowed := true, recurses := true, apart := false }
def MatchJoinsSaid : Prop := matchJoinsRow.holds Try.pinned (OpenSpec.ofChange matchJoinsSpec)

/-- ITS FALSE NEIGHBOUR: 'it returns false'. Refute it at one input. -/
def matchJoinsWrong : ChangeSpec := { name := "matchJoins", fn := fun _ => fun
  | [d] => { results := [.lit (.bool false)], args := [d] }
  | _ => none }
def MatchJoinsWrongFalsely : Prop := matchJoinsRow.holds Try.pinned (OpenSpec.ofChange matchJoinsWrong)

/-- 'dragomanlaw06.MatchLits': WHATEVER THE INPUT: true; the input reads as it did. -/
def matchLitsSpec : ChangeSpec := { name := "matchLits", fn := fun _ => fun
  | [d1, d2, d3] => { results := [.lit (.bool true)], args := [d1, d2, d3] }
  | _ => none }
def matchLitsRow : OpenClaim := { program := "ytgffmbdbjbhocaa", sum := "c93201660fcc9b19308a0bf898907578f2c23f8556b22e86eb94919d6d327638", func := "dragoman/dragomanlaw06.MatchLits", spec := "matchLits", unfollowed := true, recurses := true, apart := false }
def MatchLitsSaid : Prop := matchLitsRow.holds Try.pinned (OpenSpec.ofChange matchLitsSpec)

/-- ITS FALSE NEIGHBOUR: 'it returns false'. Refute it at one input. -/
def matchLitsWrong : ChangeSpec := { name := "matchLits", fn := fun _ => fun
  | [d1, d2, d3] => { results := [.lit (.bool false)], args := [d1, d2, d3] }
  | _ => none }
def MatchLitsWrongFalsely : Prop := matchLitsRow.holds Try.pinned (OpenSpec.ofChange matchLitsWrong)

/-- 'dragomanlaw06.MatchStars': WHATEVER THE INPUT: true; the input reads as it did. -/
def matchStarsSpec : ChangeSpec := { name := "matchStars", fn := fun _ => fun
  | [d1, d2, d3] => { results := [.lit (.bool true)], args := [d1, d2, d3] }
  | _ => none }
def matchStarsRow : OpenClaim := { program := "ytgffmbdbjbhocaa", sum := "c93201660fcc9b19308a0bf898907578f2c23f8556b22e86eb94919d6d327638", func := "dragoman/dragomanlaw06.MatchStars", spec := "matchStars", unfollowed := true, recurses := true, apart := false }
def MatchStarsSaid : Prop := matchStarsRow.holds Try.pinned (OpenSpec.ofChange matchStarsSpec)

/-- ITS FALSE NEIGHBOUR: 'it returns false'. Refute it at one input. -/
def matchStarsWrong : ChangeSpec := { name := "matchStars", fn := fun _ => fun
  | [d1, d2, d3] => { results := [.lit (.bool false)], args := [d1, d2, d3] }
  | _ => none }
def MatchStarsWrongFalsely : Prop := matchStarsRow.holds Try.pinned (OpenSpec.ofChange matchStarsWrong)

/-- 'dragomanlaw07.SubstTexts': WHATEVER THE INPUT: true; the input reads as it did. -/
def substTextsSpec : ChangeSpec := { name := "substTexts", fn := fun _ => fun
  | [d1, d2, d3] => { results := [.lit (.bool true)], args := [d1, d2, d3] }
  | _ => none }
def substTextsRow : OpenClaim := { program := "ytgffmbdbjbhocaa", sum := "c93201660fcc9b19308a0bf898907578f2c23f8556b22e86eb94919d6d327638", func := "dragoman/dragomanlaw07.SubstTexts", spec := "substTexts", inPlace := ["internal/bytealg.IndexByteString", "internal/abi.NoEscape", "internal/bytealg.MakeNoZero"], unfollowed := true, recurses := true, apart := false }
def SubstTextsSaid : Prop := substTextsRow.holds Try.pinned (OpenSpec.ofChange substTextsSpec)

/-- ITS FALSE NEIGHBOUR: 'it returns false'. Refute it at one input. -/
def substTextsWrong : ChangeSpec := { name := "substTexts", fn := fun _ => fun
  | [d1, d2, d3] => { results := [.lit (.bool false)], args := [d1, d2, d3] }
  | _ => none }
def SubstTextsWrongFalsely : Prop := substTextsRow.holds Try.pinned (OpenSpec.ofChange substTextsWrong)

/-- 'dragomanlaw07.SubstTells': WHATEVER THE INPUT: true; the input reads as it did. -/
def substTellsSpec : ChangeSpec := { name := "substTells", fn := fun _ => fun
  | [d1, d2, d3] => { results := [.lit (.bool true)], args := [d1, d2, d3] }
  | _ => none }
def substTellsRow : OpenClaim := { program := "ytgffmbdbjbhocaa", sum := "c93201660fcc9b19308a0bf898907578f2c23f8556b22e86eb94919d6d327638", func := "dragoman/dragomanlaw07.SubstTells", spec := "substTells", inPlace := ["internal/bytealg.IndexByteString", "internal/abi.NoEscape", "internal/bytealg.MakeNoZero"], unfollowed := true, recurses := true, apart := false }
def SubstTellsSaid : Prop := substTellsRow.holds Try.pinned (OpenSpec.ofChange substTellsSpec)

/-- ITS FALSE NEIGHBOUR: 'it returns false'. Refute it at one input. -/
def substTellsWrong : ChangeSpec := { name := "substTells", fn := fun _ => fun
  | [d1, d2, d3] => { results := [.lit (.bool false)], args := [d1, d2, d3] }
  | _ => none }
def SubstTellsWrongFalsely : Prop := substTellsRow.holds Try.pinned (OpenSpec.ofChange substTellsWrong)

/-- 'dragomanlaw07.SubstBack': WHATEVER THE INPUT: true; the input reads as it did. -/
def substBackSpec : ChangeSpec := { name := "substBack", fn := fun _ => fun
  | [d] => { results := [.lit (.bool true)], args := [d] }
  | _ => none }
def substBackRow : OpenClaim := { program := "ytgffmbdbjbhocaa", sum := "c93201660fcc9b19308a0bf898907578f2c23f8556b22e86eb94919d6d327638", func := "dragoman/dragomanlaw07.SubstBack", spec := "substBack", inPlace := ["internal/bytealg.IndexByteString", "internal/abi.NoEscape", "internal/bytealg.MakeNoZero"], unfollowed := true, recurses := true, apart := false }
def SubstBackSaid : Prop := substBackRow.holds Try.pinned (OpenSpec.ofChange substBackSpec)

/-- ITS FALSE NEIGHBOUR: 'it returns false'. Refute it at one input. -/
def substBackWrong : ChangeSpec := { name := "substBack", fn := fun _ => fun
  | [d] => { results := [.lit (.bool false)], args := [d] }
  | _ => none }
def SubstBackWrongFalsely : Prop := substBackRow.holds Try.pinned (OpenSpec.ofChange substBackWrong)

/-- 'dragomanlaw07.SubstStays': WHATEVER THE INPUT: true; the input reads as it did. -/
def substStaysSpec : ChangeSpec := { name := "substStays", fn := fun _ => fun
  | [d1, d2, d3] => { results := [.lit (.bool true)], args := [d1, d2, d3] }
  | _ => none }
def substStaysRow : OpenClaim := { program := "ytgffmbdbjbhocaa", sum := "c93201660fcc9b19308a0bf898907578f2c23f8556b22e86eb94919d6d327638", func := "dragoman/dragomanlaw07.SubstStays", spec := "substStays", inPlace := ["internal/bytealg.IndexByteString", "internal/abi.NoEscape", "internal/bytealg.MakeNoZero"], unfollowed := true, recurses := true, apart := false }
def SubstStaysSaid : Prop := substStaysRow.holds Try.pinned (OpenSpec.ofChange substStaysSpec)

/-- ITS FALSE NEIGHBOUR: 'it returns false'. Refute it at one input. -/
def substStaysWrong : ChangeSpec := { name := "substStays", fn := fun _ => fun
  | [d1, d2, d3] => { results := [.lit (.bool false)], args := [d1, d2, d3] }
  | _ => none }
def SubstStaysWrongFalsely : Prop := substStaysRow.holds Try.pinned (OpenSpec.ofChange substStaysWrong)

/-- 'dragomanlaw07.SubstLengths': WHATEVER THE INPUT: true; the input reads as it did. -/
def substLengthsSpec : ChangeSpec := { name := "substLengths", fn := fun _ => fun
  | [d1, d2, d3] => { results := [.lit (.bool true)], args := [d1, d2, d3] }
  | _ => none }
def substLengthsRow : OpenClaim := { program := "ytgffmbdbjbhocaa", sum := "c93201660fcc9b19308a0bf898907578f2c23f8556b22e86eb94919d6d327638", func := "dragoman/dragomanlaw07.SubstLengths", spec := "substLengths", inPlace := ["internal/bytealg.IndexByteString", "internal/abi.NoEscape", "internal/bytealg.MakeNoZero"], unfollowed := true, recurses := true, apart := false }
def SubstLengthsSaid : Prop := substLengthsRow.holds Try.pinned (OpenSpec.ofChange substLengthsSpec)

/-- ITS FALSE NEIGHBOUR: 'it returns false'. Refute it at one input. -/
def substLengthsWrong : ChangeSpec := { name := "substLengths", fn := fun _ => fun
  | [d1, d2, d3] => { results := [.lit (.bool false)], args := [d1, d2, d3] }
  | _ => none }
def SubstLengthsWrongFalsely : Prop := substLengthsRow.holds Try.pinned (OpenSpec.ofChange substLengthsWrong)

/-- 'dragomanlaw07.SubstWords': WHATEVER THE INPUT: true; the input reads as it did. -/
def substWordsSpec : ChangeSpec := { name := "substWords", fn := fun _ => fun
  | [d1, d2, d3] => { results := [.lit (.bool true)], args := [d1, d2, d3] }
  | _ => none }
def substWordsRow : OpenClaim := { program := "ytgffmbdbjbhocaa", sum := "c93201660fcc9b19308a0bf898907578f2c23f8556b22e86eb94919d6d327638", func := "dragoman/dragomanlaw07.SubstWords", spec := "substWords", inPlace := ["internal/bytealg.IndexByteString", "internal/abi.NoEscape", "internal/bytealg.MakeNoZero"], unfollowed := true, recurses := true, apart := false }
def SubstWordsSaid : Prop := substWordsRow.holds Try.pinned (OpenSpec.ofChange substWordsSpec)

/-- ITS FALSE NEIGHBOUR: 'it returns false'. Refute it at one input. -/
def substWordsWrong : ChangeSpec := { name := "substWords", fn := fun _ => fun
  | [d1, d2, d3] => { results := [.lit (.bool false)], args := [d1, d2, d3] }
  | _ => none }
def SubstWordsWrongFalsely : Prop := substWordsRow.holds Try.pinned (OpenSpec.ofChange substWordsWrong)

/-- 'dragomanlaw07.SubstPuts': WHATEVER THE INPUT: true; the input reads as it did. -/
def substPutsSpec : ChangeSpec := { name := "substPuts", fn := fun _ => fun
  | [d1, d2] => { results := [.lit (.bool true)], args := [d1, d2] }
  | _ => none }
def substPutsRow : OpenClaim := { program := "ytgffmbdbjbhocaa", sum := "c93201660fcc9b19308a0bf898907578f2c23f8556b22e86eb94919d6d327638", func := "dragoman/dragomanlaw07.SubstPuts", spec := "substPuts", inPlace := ["internal/bytealg.IndexByteString", "internal/abi.NoEscape", "internal/bytealg.MakeNoZero"], unfollowed := true, recurses := true, apart := false }
def SubstPutsSaid : Prop := substPutsRow.holds Try.pinned (OpenSpec.ofChange substPutsSpec)

/-- ITS FALSE NEIGHBOUR: 'it returns false'. Refute it at one input. -/
def substPutsWrong : ChangeSpec := { name := "substPuts", fn := fun _ => fun
  | [d1, d2] => { results := [.lit (.bool false)], args := [d1, d2] }
  | _ => none }
def SubstPutsWrongFalsely : Prop := substPutsRow.holds Try.pinned (OpenSpec.ofChange substPutsWrong)

/- THE SECOND FORM. 'bulk': how many values and letters a reading holds, each counted each time it is reached (what is shared counts as often as it is met; a slice's spare places count too). A statement '..UptoSaid' is the law's where the arguments, and the package variables that the reading takes, are together of bulk at most 1048576: NARROWER than '..Said'. Prove '..Said' where nothing that the law and all that it calls make is longer than what came in: it says more and counts as full. Else prove '..UptoSaid'. A law counts once. -/
mutual
def uptoBulk {H : Type} : DataW H → Nat
  | .lit (.string bytes) => bytes.length + 1
  | .lit _ => 1
  | .nil => 1
  | .ptr d => uptoBulk d + 1
  | .slice elems spare => uptoBulkAll elems + uptoBulkAll spare + 1
  | .agg parts => uptoBulkAll parts + 1
  | .iface _ d => uptoBulk d + 1
  | .map entries => uptoBulkEntries entries + 1
  | .held _ => 1
def uptoBulkAll {H : Type} : List (DataW H) → Nat
  | [] => 0
  | d :: r => uptoBulk d + uptoBulkAll r
def uptoBulkEntries {H : Type} : List (Lit × DataW H) → Nat
  | [] => 0
  | x :: r => uptoBulkEntry x + uptoBulkEntries r
def uptoBulkEntry {H : Type} : Lit × DataW H → Nat
  | (.string bytes, d) => bytes.length + uptoBulk d + 1
  | (_, d) => uptoBulk d + 1
 end
def uptoSmall : (H : Type) → List (DataW H) → Bool := fun _ ds => decide (uptoBulkAll ds ≤ 1048576)
def OpenSpec.upto (s : _root_.Go.ChangeSpec) : _root_.Go.OpenSpec := { _root_.Go.OpenSpec.ofChange s with cond := some uptoSmall }

/-- 'dragomanlaw05.RegexTrees', WHERE WHAT IT READS IS OF BULK AT MOST 1048576: true; the input reads as it did. -/
def regexTreesUptoRow : OpenClaim := { program := "ytgffmbdbjbhocaa", sum := "c93201660fcc9b19308a0bf898907578f2c23f8556b22e86eb94919d6d327638", func := "dragoman/dragomanlaw05.RegexTrees", spec := "regexTrees", inPlace := ["internal/bytealg.IndexByteString", "internal/abi.NoEscape"], unfollowed := true, recurses := true, apart := false, narrowed := true }
def RegexTreesUptoSaid : Prop := regexTreesUptoRow.holds Try.pinned (OpenSpec.upto regexTreesSpec)

/-- 'dragomanlaw06.MatchSpans', WHERE WHAT IT READS IS OF BULK AT MOST 1048576: true; the input reads as it did. -/
def matchSpansUptoRow : OpenClaim := { program := "ytgffmbdbjbhocaa", sum := "c93201660fcc9b19308a0bf898907578f2c23f8556b22e86eb94919d6d327638", func := "dragoman/dragomanlaw06.MatchSpans", spec := "matchSpans", unfollowed := true, recurses := true, apart := false, narrowed := true }
def MatchSpansUptoSaid : Prop := matchSpansUptoRow.holds Try.pinned (OpenSpec.upto matchSpansSpec)

/-- 'dragomanlaw06.MatchApart', WHERE WHAT IT READS IS OF BULK AT MOST 1048576: true; the input reads as it did. -/
def matchApartUptoRow : OpenClaim := { program := "ytgffmbdbjbhocaa", sum := "c93201660fcc9b19308a0bf898907578f2c23f8556b22e86eb94919d6d327638", func := "dragoman/dragomanlaw06.MatchApart", spec := "matchApart", unfollowed := true, recurses := true, apart := false, narrowed := true }
def MatchApartUptoSaid : Prop := matchApartUptoRow.holds Try.pinned (OpenSpec.upto matchApartSpec)

/-- 'dragomanlaw06.MatchJoins', WHERE WHAT IT READS IS OF BULK AT MOST 1048576: true; the input reads as it did. -/
def matchJoinsUptoRow : OpenClaim := { program := "ytgffmbdbjbhocaa", sum := "c93201660fcc9b19308a0bf898907578f2c23f8556b22e86eb94919d6d327638", func := "dragoman/dragomanlaw06.MatchJoins", spec := "matchJoins", unfollowed := true, recurses := true, apart := false, narrowed := true }
def MatchJoinsUptoSaid : Prop := matchJoinsUptoRow.holds Try.pinned (OpenSpec.upto matchJoinsSpec)

/-- 'dragomanlaw06.MatchLits', WHERE WHAT IT READS IS OF BULK AT MOST 1048576: true; the input reads as it did. -/
def matchLitsUptoRow : OpenClaim := { program := "ytgffmbdbjbhocaa", sum := "c93201660fcc9b19308a0bf898907578f2c23f8556b22e86eb94919d6d327638", func := "dragoman/dragomanlaw06.MatchLits", spec := "matchLits", unfollowed := true, recurses := true, apart := false, narrowed := true }
def MatchLitsUptoSaid : Prop := matchLitsUptoRow.holds Try.pinned (OpenSpec.upto matchLitsSpec)

/-- 'dragomanlaw06.MatchStars', WHERE WHAT IT READS IS OF BULK AT MOST 1048576: true; the input reads as it did. -/
def matchStarsUptoRow : OpenClaim := { program := "ytgffmbdbjbhocaa", sum := "c93201660fcc9b19308a0bf898907578f2c23f8556b22e86eb94919d6d327638", func := "dragoman/dragomanlaw06.MatchStars", spec := "matchStars", unfollowed := true, recurses := true, apart := false, narrowed := true }
def MatchStarsUptoSaid : Prop := matchStarsUptoRow.holds Try.pinned (OpenSpec.upto matchStarsSpec)

/-- 'dragomanlaw07.SubstTexts', WHERE WHAT IT READS IS OF BULK AT MOST 1048576: true; the input reads as it did. -/
def substTextsUptoRow : OpenClaim := { program := "ytgffmbdbjbhocaa", sum := "c93201660fcc9b19308a0bf898907578f2c23f8556b22e86eb94919d6d327638", func := "dragoman/dragomanlaw07.SubstTexts", spec := "substTexts", inPlace := ["internal/bytealg.IndexByteString", "internal/abi.NoEscape", "internal/bytealg.MakeNoZero"], unfollowed := true, recurses := true, apart := false, narrowed := true }
def SubstTextsUptoSaid : Prop := substTextsUptoRow.holds Try.pinned (OpenSpec.upto substTextsSpec)

/-- 'dragomanlaw07.SubstTells', WHERE WHAT IT READS IS OF BULK AT MOST 1048576: true; the input reads as it did. -/
def substTellsUptoRow : OpenClaim := { program := "ytgffmbdbjbhocaa", sum := "c93201660fcc9b19308a0bf898907578f2c23f8556b22e86eb94919d6d327638", func := "dragoman/dragomanlaw07.SubstTells", spec := "substTells", inPlace := ["internal/bytealg.IndexByteString", "internal/abi.NoEscape", "internal/bytealg.MakeNoZero"], unfollowed := true, recurses := true, apart := false, narrowed := true }
def SubstTellsUptoSaid : Prop := substTellsUptoRow.holds Try.pinned (OpenSpec.upto substTellsSpec)

/-- 'dragomanlaw07.SubstBack', WHERE WHAT IT READS IS OF BULK AT MOST 1048576: true; the input reads as it did. -/
def substBackUptoRow : OpenClaim := { program := "ytgffmbdbjbhocaa", sum := "c93201660fcc9b19308a0bf898907578f2c23f8556b22e86eb94919d6d327638", func := "dragoman/dragomanlaw07.SubstBack", spec := "substBack", inPlace := ["internal/bytealg.IndexByteString", "internal/abi.NoEscape", "internal/bytealg.MakeNoZero"], unfollowed := true, recurses := true, apart := false, narrowed := true }
def SubstBackUptoSaid : Prop := substBackUptoRow.holds Try.pinned (OpenSpec.upto substBackSpec)

/-- 'dragomanlaw07.SubstStays', WHERE WHAT IT READS IS OF BULK AT MOST 1048576: true; the input reads as it did. -/
def substStaysUptoRow : OpenClaim := { program := "ytgffmbdbjbhocaa", sum := "c93201660fcc9b19308a0bf898907578f2c23f8556b22e86eb94919d6d327638", func := "dragoman/dragomanlaw07.SubstStays", spec := "substStays", inPlace := ["internal/bytealg.IndexByteString", "internal/abi.NoEscape", "internal/bytealg.MakeNoZero"], unfollowed := true, recurses := true, apart := false, narrowed := true }
def SubstStaysUptoSaid : Prop := substStaysUptoRow.holds Try.pinned (OpenSpec.upto substStaysSpec)

/-- 'dragomanlaw07.SubstLengths', WHERE WHAT IT READS IS OF BULK AT MOST 1048576: true; the input reads as it did. -/
def substLengthsUptoRow : OpenClaim := { program := "ytgffmbdbjbhocaa", sum := "c93201660fcc9b19308a0bf898907578f2c23f8556b22e86eb94919d6d327638", func := "dragoman/dragomanlaw07.SubstLengths", spec := "substLengths", inPlace := ["internal/bytealg.IndexByteString", "internal/abi.NoEscape", "internal/bytealg.MakeNoZero"], unfollowed := true, recurses := true, apart := false, narrowed := true }
def SubstLengthsUptoSaid : Prop := substLengthsUptoRow.holds Try.pinned (OpenSpec.upto substLengthsSpec)

/-- 'dragomanlaw07.SubstWords', WHERE WHAT IT READS IS OF BULK AT MOST 1048576: true; the input reads as it did. -/
def substWordsUptoRow : OpenClaim := { program := "ytgffmbdbjbhocaa", sum := "c93201660fcc9b19308a0bf898907578f2c23f8556b22e86eb94919d6d327638", func := "dragoman/dragomanlaw07.SubstWords", spec := "substWords", inPlace := ["internal/bytealg.IndexByteString", "internal/abi.NoEscape", "internal/bytealg.MakeNoZero"], unfollowed := true, recurses := true, apart := false, narrowed := true }
def SubstWordsUptoSaid : Prop := substWordsUptoRow.holds Try.pinned (OpenSpec.upto substWordsSpec)

/-- 'dragomanlaw07.SubstPuts', WHERE WHAT IT READS IS OF BULK AT MOST 1048576: true; the input reads as it did. -/
def substPutsUptoRow : OpenClaim := { program := "ytgffmbdbjbhocaa", sum := "c93201660fcc9b19308a0bf898907578f2c23f8556b22e86eb94919d6d327638", func := "dragoman/dragomanlaw07.SubstPuts", spec := "substPuts", inPlace := ["internal/bytealg.IndexByteString", "internal/abi.NoEscape", "internal/bytealg.MakeNoZero"], unfollowed := true, recurses := true, apart := false, narrowed := true }
def SubstPutsUptoSaid : Prop := substPutsUptoRow.holds Try.pinned (OpenSpec.upto substPutsSpec)

end Rows
end Go.Proofs.Ytgffmbdbjbhocaa
