/- Packed texts: ClsPlain. What each of them proves stands above its theorems; the conditions stand in these. -/
import Derived.BigQuiet
import Derived.Lib.Hide
import Derived.StillTailTactics
import Derived.Test.YtgceckejchdnlaaDoorA0
namespace Go.Proofs.YtgceckejchdnlaaDoor
open Go.RowKit Go.Lib

/-- How a byte is written: plainly, or by its number. -/
def plainL (c : UInt8) : List UInt8 := if c = 32 ∨ restOk c = true then [c] else 92 :: hexT [c]
end Go.Proofs.YtgceckejchdnlaaDoor
