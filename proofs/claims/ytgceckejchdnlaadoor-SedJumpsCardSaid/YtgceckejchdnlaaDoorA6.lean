/- Packed texts: ClsText. What each of them proves stands above its theorems; the conditions stand in these. -/
import Derived.Test.YtgceckejchdnlaaDoorShelf
import Derived.Test.YtgceckejchdnlaaDoorA1
import Derived.Test.YtgceckejchdnlaaDoorA4
import Derived.Test.YtgceckejchdnlaaDoorA5
namespace Go.Proofs.YtgceckejchdnlaaDoor
open Go.RowKit Go.Lib
attribute [local go_sem] Oper.semAt_some

/-- A run's text; a class's. -/
def runT (p : UInt8 × UInt8) : List UInt8 :=
  plainL p.1 ++ ((if 1 < ((p.2.toNat : Int) - (p.1.toNat : Int)) % 256 then [45] else []) ++ (if p.1.toNat < p.2.toNat then plainL p.2 else []))
def textL (k : Cl) : List UInt8 := 91 :: ((runsL k).flatMap runT ++ [93])
theorem runT_pp {a b : UInt8} (h1 : 1 < ((b.toNat : Int) - (a.toNat : Int)) % 256) (h2 : a.toNat < b.toNat) : runT (a, b) = plainL a ++ ([45] ++ plainL b) := by
  unfold runT; dsimp only; rw [if_pos h1, if_pos h2]
theorem runT_np {a b : UInt8} (h1 : ¬ 1 < ((b.toNat : Int) - (a.toNat : Int)) % 256) (h2 : a.toNat < b.toNat) : runT (a, b) = plainL a ++ ([] ++ plainL b) := by
  unfold runT; dsimp only; rw [if_neg h1, if_pos h2]
theorem runT_nn {a b : UInt8} (h1 : ¬ 1 < ((b.toNat : Int) - (a.toNat : Int)) % 256) (h2 : ¬ a.toNat < b.toNat) : runT (a, b) = plainL a ++ ([] ++ []) := by
  unfold runT; dsimp only; rw [if_neg h1, if_neg h2]
end Go.Proofs.YtgceckejchdnlaaDoor
