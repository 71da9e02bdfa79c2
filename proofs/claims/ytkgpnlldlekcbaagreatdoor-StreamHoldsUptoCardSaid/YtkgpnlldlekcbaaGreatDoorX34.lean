/- Packed texts: ReBack. What each of them proves stands above its theorems; the conditions stand in these. -/
import Derived.Test.YtkgpnlldlekcbaaGreatDoorX9
import Derived.Test.YtkgpnlldlekcbaaGreatDoorX22
namespace Go.Proofs.YtkgpnlldlekcbaaGreatDoor
open Go.RowKit Go.Lib

/-- Nothing goes on behind. -/
def Stop (x : List UInt8) : Prop := begins x = false ∧ signH x = none
end Go.Proofs.YtkgpnlldlekcbaaGreatDoor
