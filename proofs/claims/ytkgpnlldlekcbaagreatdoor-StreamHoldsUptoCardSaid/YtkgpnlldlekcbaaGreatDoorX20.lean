/- Packed texts: SeSpec. What each of them proves stands above its theorems; the conditions stand in these. -/
import Derived.Test.YtkgpnlldlekcbaaGreatDoorX0
import Derived.Test.YtkgpnlldlekcbaaGreatDoorX9
import Derived.Test.YtkgpnlldlekcbaaGreatDoorX18
namespace Go.Proofs.YtkgpnlldlekcbaaGreatDoor
open Go.RowKit Go.Lib

inductive Ad where
  | none | line (n : Nat) | last | re (t : Tr)
def Ad.k : Ad → Nat
  | .none => 0
  | .line _ => 1
  | .last => 2
  | .re _ => 3
def Ad.n : Ad → Nat
  | .line n => n
  | _ => 0
structure Cm where
  op : UInt8
  a : Ad
  b : Ad
  neg : Bool
  re : Option Tr
  put : List (List UInt8)
  all : Bool
  prt : Bool
  label : List UInt8
inductive Got (α : Type) where
  | ok (a : α) (l : List UInt8)
  | bad (e : Int)
def Got.bind {α β : Type} (x : Got α) (f : α → List UInt8 → Got β) : Got β :=
  match x with
  | .ok a l => f a l
  | .bad e => .bad e
/-- What stands ahead of the next slash that nothing keeps, and what stands behind it. -/
def partL : List UInt8 → Option (List UInt8 × List UInt8)
  | [] => none
  | c :: l => if c = 47 then some ([], l) else if c = 92 then
      (match l with
        | [] => none
        | d :: l' => (partL l').map fun p => (92 :: d :: p.1, p.2))
    else (partL l).map fun p => (c :: p.1, p.2)
def treeP (R : List UInt8 → Res) (l : List UInt8) : Got Tr :=
  match partL l with
  | none => .bad 9
  | some (p, r) => match R p with
    | .ok t _ => .ok t r
    | .bad e => .bad e
def putP (l : List UInt8) : Got (List (List UInt8)) :=
  match partL l with
  | none => .bad 9
  | some (p, r) => match readD' p with
    | some ys => .ok ys r
    | none => .bad 9
def lineP (l : List UInt8) : Got Nat :=
  if 1 ≤ natOf (figs l) ∧ natOf (figs l) ≤ 1000000000 then .ok (natOf (figs l)) (l.drop (figs l).length) else .bad 9
def adP (R : List UInt8 → Res) : List UInt8 → Got Ad
  | [] => .ok .none []
  | c :: l => if c = 36 then .ok .last l else if c = 47 then (treeP R l).bind fun t r => .ok (.re t) r
    else if isFig c then (lineP (c :: l)).bind fun n r => .ok (.line n) r else .ok .none (c :: l)
def blk (l : List UInt8) : List UInt8 := l.dropWhile (· == 32)
def sepS (c : UInt8) : Bool := c == 59 || c == 10 || c == 32
def labP : List UInt8 → Got (List UInt8)
  | [] => .bad 9
  | c :: l => if isLet c then .ok (c :: l.takeWhile restOk) (l.dropWhile restOk) else .bad 9
def flagP : Bool → Bool → List UInt8 → Bool × Bool × List UInt8
  | a, p, [] => (a, p, [])
  | a, p, c :: l => if c = 103 ∧ a = false then flagP true p l else if c = 112 ∧ p = false then flagP a true l else (a, p, c :: l)
def endedB : List UInt8 → Bool
  | [] => true
  | c :: _ => c == 59 || c == 10
def plainS : List UInt8 := [112, 100, 113, 110, 104, 72, 103, 71, 120]
def opensS : List UInt8 := [48, 49, 50, 51, 52, 53, 54, 55, 56, 57, 36, 47, 33, 112, 100, 113, 110, 104, 72, 103, 71, 120, 115, 98, 116, 58]
/-- A command's letter, and what stands behind it. -/
def letP (R : List UInt8 → Res) (a b : Ad) (neg : Bool) : List UInt8 → Got Cm
  | [] => .bad 9
  | c :: l =>
    if c = 115 then
      (match l with
        | [] => .bad 9
        | d :: l1 => if d = 47 then (treeP R l1).bind fun t l2 => (putP l2).bind fun ys l3 =>
            .ok ⟨c, a, b, neg, some t, ys, (flagP false false l3).1, (flagP false false l3).2.1, []⟩ (flagP false false l3).2.2
          else .bad 9)
    else if c = 98 ∨ c = 116 then
      (if endedB (blk l) then .ok ⟨c, a, b, neg, none, [], false, false, []⟩ (blk l)
        else (labP (blk l)).bind fun x r => .ok ⟨c, a, b, neg, none, [], false, false, x⟩ r)
    else if c = 58 then
      (if a.k = 0 ∧ neg = false then (labP l).bind fun x r => .ok ⟨c, a, b, neg, none, [], false, false, x⟩ r else .bad 9)
    else if plainS.contains c then .ok ⟨c, a, b, neg, none, [], false, false, []⟩ l else .bad 9
/-- The second address, if a comma stands there. -/
def secP (R : List UInt8 → Res) (a : Ad) (l : List UInt8) : Got Ad :=
  if a.k ≠ 0 ∧ l.head? = some 44 then (adP R l.tail).bind fun b r => if b.k = 0 then .bad 9 else .ok b r
  else .ok .none l
def notB (l : List UInt8) : Bool := (blk l).head? == some 33
def notL (l : List UInt8) : List UInt8 := blk (if (blk l).head? = some 33 then (blk l).tail else blk l)
def comP (R : List UInt8 → Res) (l : List UInt8) : Got Cm :=
  (adP R l).bind fun a l1 => (secP R a l1).bind fun b l2 => (letP R a b (notB l2) (notL l2)).bind fun c l3 =>
    if endedB (blk l3) then .ok c (blk l3) else .bad 9
inductive All where
  | ok (cs : List Cm)
  | bad (e : Int)
def scrP (R : List UInt8 → Res) : Nat → List UInt8 → List Cm → All
  | 0, _, _ => .bad 9
  | f + 1, l, cs =>
    match l.dropWhile sepS with
    | [] => .ok cs
    | c :: l1 => if opensS.contains c = false then .bad 9 else if cs.length = 2000 then .bad 6 else
      match comP R (c :: l1) with
      | .ok d l2 => scrP R f l2 (cs ++ [d])
      | .bad e => .bad e
def standsN (cs : List Cm) (x : List UInt8) : Nat := (cs.filter fun c => c.op == 58 && c.label == x).length
def boundD (cs : List Cm) : Bool := cs.all fun c => c.label == [] || standsN cs c.label == 1
def readSd (R : List UInt8 → Res) (l : List UInt8) : All :=
  match scrP R (l.length + 1) l [] with
  | .ok cs => if boundD cs then .ok cs else .bad 8
  | .bad e => .bad e
end Go.Proofs.YtkgpnlldlekcbaaGreatDoor
