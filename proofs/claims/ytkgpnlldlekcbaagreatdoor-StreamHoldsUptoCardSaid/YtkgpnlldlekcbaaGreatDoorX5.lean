/- Packed texts: ClsPlain. What each of them proves stands above its theorems; the conditions stand in these. -/
import Derived.Lib.Hide
import Derived.Test.YtkgpnlldlekcbaaGreatDoorX0
import Derived.Test.YtkgpnlldlekcbaaGreatDoorX1
namespace Go.Proofs.YtkgpnlldlekcbaaGreatDoor
open Go.RowKit Go.Lib

/-- How a byte is written: plainly, or by its number. -/
def plainL (c : UInt8) : List UInt8 := if c = 32 ∨ restOk c = true then [c] else 92 :: hexT [c]
end Go.Proofs.YtkgpnlldlekcbaaGreatDoor
