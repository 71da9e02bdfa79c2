/- Packed texts: ClsMath, ReTr. What each of them proves stands above its theorems; the conditions stand in these. -/
import Derived.Laws.BitsAllLaws
import Derived.Test.YtjdollmfjflkoaaGreatDoorProg
import Derived.WalkKit
namespace Go.Proofs.YtjdollmfjflkoaaGreatDoor
open Go.RowKit

/-- A class: its four words. -/
abbrev Cl := Nat → BitVec 64
/-- Is the byte of a number in it? -/
def has (k : Cl) (c : Nat) : Bool := (k (c / 64)).getLsbD (c % 64)

end Go.Proofs.YtjdollmfjflkoaaGreatDoor
namespace Go.Proofs.YtjdollmfjflkoaaGreatDoor
open Go.RowKit

/-- A class as its four words, and no more. -/
structure K4 where
  a : BitVec 64
  b : BitVec 64
  c : BitVec 64
  d : BitVec 64
deriving DecidableEq
def k4 (K : Cl) : K4 := ⟨K 0, K 1, K 2, K 3⟩
end Go.Proofs.YtjdollmfjflkoaaGreatDoor
