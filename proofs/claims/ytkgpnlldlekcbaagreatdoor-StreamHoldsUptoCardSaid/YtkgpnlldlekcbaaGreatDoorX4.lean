/- Packed texts: ClsEach, ClsRuns. What each of them proves stands above its theorems; the conditions stand in these. -/
import Derived.LoopIn
import Derived.LoopNIn
import Derived.OwnWalkIn
import Derived.RangeFuncBound
import Derived.RangeFuncLeaves
import Derived.RangeFuncNested
import Derived.Shelf.Abstract
import Derived.TacticsInMore
import Derived.Test.YtkgpnlldlekcbaaGreatDoorProg
import Derived.WalkKit
import Derived.Test.YtkgpnlldlekcbaaGreatDoorX2
namespace Go.Proofs.YtkgpnlldlekcbaaGreatDoor
open Go.RowKit
attribute [local go_sem] Oper.semAt_some

/-- The bytes of a class below a number, rising. -/
def uptoL (k : Cl) (m : Nat) : List UInt8 := ((List.range m).filter (has k)).map Nat.toUInt8
end Go.Proofs.YtkgpnlldlekcbaaGreatDoor
namespace Go.Proofs.YtkgpnlldlekcbaaGreatDoor
open Go.RowKit
attribute [local go_sem] Oper.semAt_some

/-- Where a run begins, a byte having come; whether it ends there. -/
def headA (k : Cl) (a c : UInt8) : UInt8 := if c = 0 then c else if has k (c.toNat - 1) then a else c
def endsB (k : Cl) (c : UInt8) : Bool := if c = 255 then true else !has k (c.toNat + 1)
def runsStep (k : Cl) (st : UInt8 × List (UInt8 × UInt8)) (c : UInt8) : UInt8 × List (UInt8 × UInt8) :=
  (headA k st.1 c, if endsB k c then st.2 ++ [(headA k st.1 c, c)] else st.2)
def runsP (k : Cl) (pre : List UInt8) : UInt8 × List (UInt8 × UInt8) := pre.foldl (runsStep k) (0, [])
/-- The runs of a class: of each its first byte and its last one. -/
def runsL (k : Cl) : List (UInt8 × UInt8) := (runsP k (uptoL k 256)).2
theorem ne_int {x y : UInt8} (h : x ≠ y) : ((x.toNat : Int) == (y.toNat : Int)) = false := by
  rw [beq_eq_false_iff_ne]
  intro e
  apply h
  apply UInt8.toNat_inj.1
  omega
end Go.Proofs.YtkgpnlldlekcbaaGreatDoor
