/- Packed texts: ClsText. What each of them proves stands above its theorems; the conditions stand in these. -/
import Derived.Test.YtkgpnlldlekcbaaGreatDoorShelf
import Derived.Test.YtkgpnlldlekcbaaGreatDoorX1
import Derived.Test.YtkgpnlldlekcbaaGreatDoorX4
import Derived.Test.YtkgpnlldlekcbaaGreatDoorX5
namespace Go.Proofs.YtkgpnlldlekcbaaGreatDoor
open Go.RowKit Go.Lib
attribute [local go_sem] Oper.semAt_some

/-- A run's text; a class's. -/
def runT (p : UInt8 × UInt8) : List UInt8 :=
  plainL p.1 ++ ((if 1 < ((p.2.toNat : Int) - (p.1.toNat : Int)) % 256 then [45] else []) ++ (if p.1.toNat < p.2.toNat then plainL p.2 else []))
def textL (k : Cl) : List UInt8 := 91 :: ((runsL k).flatMap runT ++ [93])
end Go.Proofs.YtkgpnlldlekcbaaGreatDoor
