/- Packed texts: ClsRead, ClsSpec. What each of them proves stands above its theorems; the conditions stand in these. -/
import Derived.Lib.IndexBytes
import Derived.Maps.AppendAt
import Derived.Test.YtkgpnlldlekcbaaM2
import Derived.Test.YtkgpnlldlekcbaaM6
namespace Go.Proofs.Ytkgpnlldlekcbaa
open Go.RowKit Go.Lib

theorem at_byte {s : ByteArray} {k : Nat} (h : k < s.size) : s.data.toList[k]? = some s[k] := by
  rw [List.getElem?_eq_getElem (by rw [Array.length_toList]; exact h)]; rfl

end Go.Proofs.Ytkgpnlldlekcbaa
namespace Go.Proofs.Ytkgpnlldlekcbaa
open Go.RowKit Go.Lib

def zeroK : Cl := fun _ => 0
end Go.Proofs.Ytkgpnlldlekcbaa
