/- Packed texts: Range. What each of them proves stands above its theorems; the conditions stand in these. -/
import Derived.LoopIn
import Derived.LoopNIn
import Derived.OwnWalkIn
import Derived.RangeFuncBound
import Derived.RangeFuncLeaves
import Derived.RangeFuncNested
import Derived.Shelf.Abstract
import Derived.TacticsInMore
import Derived.Test.YtkgpnlldlekcbaaProg
import Derived.WalkKit
namespace Go.Proofs.Ytkgpnlldlekcbaa
open Go.RowKit

/-- The blocks of K lie in both worlds alike. -/
def Same (K : Nat → Prop) (W W' : World) : Prop := ∀ j, K j → W'.heap[j]? = W.heap[j]?
theorem Same.refl (K : Nat → Prop) (W : World) : Same K W W := fun _ _ => rfl
theorem Same.trans {K : Nat → Prop} {A B C : World} (h : Same K A B) (k : Same K B C) : Same K A C := fun j hj => (k j hj).trans (h j hj)
theorem Same.mono {K K' : Nat → Prop} {A B : World} (h : Same K A B) (hk : ∀ j, K' j → K j) : Same K' A B := fun j hj => h j (hk j hj)

/-- What abides the heap's growth, the turn of a box among the c blocks from B on, and that of a block from B on that holds no cells. -/
def OwnC {β : Type} (B c : Nat) (I : β → World → Prop) : Prop :=
  ∀ s W W' row, I s W → W.grownBy W' row → (∀ r, row = some r → B ≤ r ∧ ((r < B + c ∧ ∃ x t, W.heap[r]? = some (.cells #[x] t (0, 0))) ∨ ∃ o : Obj, W.heap[r]? = some o ∧ o.isCells = false)) → I s W'
theorem OwnC.grow {β : Type} {B c : Nat} {I : β → World → Prop} (h : OwnC B c I) {s : β} {W W' : World} (hs : I s W) (hg : W.grownBy W' none) : I s W' := h s W W' none hs hg (fun _ e => by cases e)

theorem putObj_grown (W : World) (l : Nat) (o : Obj) : W.grownBy (W.putObj l o) (some l) := grownBy_putObj' W l o

end Go.Proofs.Ytkgpnlldlekcbaa
