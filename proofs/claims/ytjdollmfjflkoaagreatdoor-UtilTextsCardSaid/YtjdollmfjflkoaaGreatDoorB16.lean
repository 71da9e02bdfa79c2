/- Packed texts: Build. What each of them proves stands above its theorems; the conditions stand in these. -/
import Derived.BigQuiet
import Derived.Laws.Rows
import Derived.Lib.OthersKept
import Derived.Shelf.Strings.BuilderK
import Derived.StillTailTactics
import Derived.Test.YtjdollmfjflkoaaGreatDoorB3
namespace Go.Proofs.YtjdollmfjflkoaaGreatDoor
open Go.RowKit Go.Lib

theorem block_lt {w : World} {b : Nat} {o : Obj} (h : w.heap[b]? = some o) : b < w.heap.size := by
  by_cases hl : b < w.heap.size
  · exact hl
  · rw [Array.getElem?_eq_none (Nat.le_of_not_lt hl)] at h; cases h

end Go.Proofs.YtjdollmfjflkoaaGreatDoor
