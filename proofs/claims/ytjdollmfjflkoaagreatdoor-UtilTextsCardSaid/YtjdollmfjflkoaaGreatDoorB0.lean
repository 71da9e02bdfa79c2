/- Packed texts: HexLeaf, HexMem. What each of them proves stands above its theorems; the conditions stand in these. -/
import Derived.Deep.RegionLaw
import Derived.Lib.BufferRead
import Derived.Lib.Hide
import Derived.Test.YtjdollmfjflkoaaGreatDoorProg
import Derived.WalkKit
import Derived.WalkLawsBesides
import Derived.WalkSpells
namespace Go.Proofs.YtjdollmfjflkoaaGreatDoor
open Go.RowKit

def isFig (c : UInt8) : Bool := decide (48 ≤ (c.toNat : Int)) && decide ((c.toNat : Int) ≤ 57)
theorem ret_bool {a b : Bool} (h : a = b) : Ending.returned (.bool a) = .returned (.bool b) := by rw [h]
theorem ret_int {k : IntKind} {a b : Int} (h : a = b) : Ending.returned (.int k a) = .returned (.int k b) := by rw [h]

set_option maxHeartbeats 400000 in
theorem isFigure_any (c : UInt8) (w : World) :
    Calls Tryz.prog 117 #[.int .u8 (c.toNat : Int)] w fun e w' => e = .returned (.bool (isFig c)) ∧ w = w' := by
  go_enter Tryz.func117, Tryz.ntmps117
  go_wp2
  all_goals
    go_ret
    refine ⟨ret_bool ?_, rfl⟩
    simp [isFig]
    try omega

end Go.Proofs.YtjdollmfjflkoaaGreatDoor
namespace Go.Proofs.YtjdollmfjflkoaaGreatDoor
open Go.RowKit Go.Lib

/-- An owned row lies among the call's own blocks. -/
theorem own_base {w : World} {B n size : Nat} {e : TypeId} {v : Value} {xs : List Value} (h : w.ownsRow B e size v n xs) {g : Nat} (hg : v.ownBlock = some g) : B ≤ g := by
  rcases h.2 with ⟨rfl, _⟩ | ⟨g', _, _, rfl, hB, _⟩
  · cases hg
  · cases hg; exact hB

/-- Draws turn no block. -/
theorem below_draws {B : Nat} {a w : World} (h : Below B a w) (n : Nat) : Below B a (w.drewN n) :=
  h.trans (⟨rfl, rfl, rfl, Nat.le_refl _, fun _ _ => rfl⟩ : Below B w (w.drewN n))
end Go.Proofs.YtjdollmfjflkoaaGreatDoor
