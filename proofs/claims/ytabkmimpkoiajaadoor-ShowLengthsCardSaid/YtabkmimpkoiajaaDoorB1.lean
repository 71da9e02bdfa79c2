/- Packed texts: ShMem. What each of them proves stands above its theorems; the conditions stand in these. -/
import Derived.BigQuiet
import Derived.Deep.QuietTactic
import Derived.Deep.RegionLaw
import Derived.Laws.RangeAny
import Derived.Laws.Runes
import Derived.Lib.BufferRead
import Derived.Lib.Hide
import Derived.Lib.OthersKept
import Derived.Shelf.Strings.IndexAny
import Derived.Shelf.Strings.IndexAnyAll
import Derived.Shelf.Strings.SlTrimAscii
import Derived.Test.YtabkmimpkoiajaaDoorProg
import Derived.Test.YtabkmimpkoiajaaDoorShelf
import Derived.WalkKit
import Derived.WalkLawsBesides
import Derived.WalkMore
import Derived.WalkSpells
import Derived.Test.YtabkmimpkoiajaaDoorB0
namespace Go.Proofs.YtabkmimpkoiajaaDoor
open Go.RowKit Go.Lib

theorem sizeS (l : List UInt8) : (⟨l.toArray⟩ : ByteArray).size = l.length := by simp [ByteArray.size]
end Go.Proofs.YtabkmimpkoiajaaDoor
