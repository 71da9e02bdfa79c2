/- Packed texts: ReSpec. What each of them proves stands above its theorems; the conditions stand in these. -/
import Derived.Test.YtkgpnlldlekcbaaGreatDoorX0
import Derived.Test.YtkgpnlldlekcbaaGreatDoorX6
import Derived.Test.YtkgpnlldlekcbaaGreatDoorX8
namespace Go.Proofs.YtkgpnlldlekcbaaGreatDoor
open Go.RowKit

/-- A text in brackets, or not. -/
def brk (b : Bool) (l : List UInt8) : List UInt8 := if b then 40 :: (l ++ [41]) else l
/-- A class's text in a regular expression. -/
def toldK (k : K4) : List UInt8 :=
  if k = kPoint then [46]
  else if k = k0 then [91, 94, 92, 120, 48, 48, 45, 92, 120, 102, 102, 93]
  else if cntK k.cl = 1 then ((textL k.cl).drop 1).dropLast
  else textL k.cl
def leafL (j : Nat) : List UInt8 := if j = 7 then [94] else if j = 8 then [36] else [40, 41]
def signL (j : Nat) : UInt8 := if j = 4 then 42 else if j = 5 then 43 else 63
def Tr.txt : Tr → List UInt8
  | .leaf j => leafL j
  | .set k => toldK k
  | .rep j a => brk (a.kind == 3 || a.kind == 2) a.txt ++ [signL j]
  | .two j a b => if j = 2 then brk (a.kind == 3) a.txt ++ brk (b.kind == 3 || b.kind == 2) b.txt else a.txt ++ 124 :: brk (b.kind == 3) b.txt

/- How a text is read: the rules. -/
def strangeL : List UInt8 := [42, 43, 63, 41, 124, 123, 125, 47, 93, 45, 10]
def begins : List UInt8 → Bool
  | [] => false
  | c :: _ => !strangeL.contains c
def signK (c : UInt8) : Option Nat := if c = 42 then some 4 else if c = 43 then some 5 else if c = 63 then some 6 else none
def signH : List UInt8 → Option Nat
  | [] => none
  | c :: _ => signK c
def leafK (c : UInt8) : Option Tr := if c = 46 then some (.set kPoint) else if c = 94 then some (.leaf 7) else if c = 36 then some (.leaf 8) else none
/-- A class, or a sign, that a text begins with, and how many bytes it takes. -/
def listD (l : List UInt8) : Option (K4 × Nat) :=
  match readD l with
  | some (K, n) => some (k4 K, n)
  | none =>
    match signD l with
    | some (c, n) => some (k4 (oneK c.toNat), n.toNat)
    | none => none
inductive Job where
  | all | cat | piece | atom
  | allL (a : Tr) | catL (a : Tr) | pieceL (a : Tr)
inductive Res where
  | ok (t : Tr) (l : List UInt8)
  | bad (e : Int)
/-- What reading a text comes to: at some depth, behind so many nodes. -/
inductive Ev : Job → Nat → Nat → List UInt8 → Res → Prop
  | all_bad {d n l e} : Ev .cat d n l (.bad e) → Ev .all d n l (.bad e)
  | all_ok {d n l t l' r} : Ev .cat d n l (.ok t l') → Ev (.allL t) d n l' r → Ev .all d n l r
  | allL_end {a d n l} : l.head? ≠ some 124 → Ev (.allL a) d n l (.ok a l)
  | allL_bad {a d n l e} : Ev .cat d (n + a.size) l (.bad e) → Ev (.allL a) d n (124 :: l) (.bad e)
  | allL_big {a d n l b l'} : Ev .cat d (n + a.size) l (.ok b l') → 2000 ≤ n + a.size + b.size → Ev (.allL a) d n (124 :: l) (.bad 6)
  | allL_more {a d n l b l' r} : Ev .cat d (n + a.size) l (.ok b l') → n + a.size + b.size < 2000 → Ev (.allL (.two 3 a b)) d n l' r → Ev (.allL a) d n (124 :: l) r
  | cat_none {d n l} : begins l = false → n < 2000 → Ev .cat d n l (.ok (.leaf 0) l)
  | cat_nbig {d n l} : begins l = false → 2000 ≤ n → Ev .cat d n l (.bad 6)
  | cat_bad {d n l e} : begins l = true → Ev .piece d n l (.bad e) → Ev .cat d n l (.bad e)
  | cat_ok {d n l t l' r} : begins l = true → Ev .piece d n l (.ok t l') → Ev (.catL t) d n l' r → Ev .cat d n l r
  | catL_end {a d n l} : begins l = false → Ev (.catL a) d n l (.ok a l)
  | catL_bad {a d n l e} : begins l = true → Ev .piece d (n + a.size) l (.bad e) → Ev (.catL a) d n l (.bad e)
  | catL_big {a d n l b l'} : begins l = true → Ev .piece d (n + a.size) l (.ok b l') → 2000 ≤ n + a.size + b.size → Ev (.catL a) d n l (.bad 6)
  | catL_more {a d n l b l' r} : begins l = true → Ev .piece d (n + a.size) l (.ok b l') → n + a.size + b.size < 2000 → Ev (.catL (.two 2 a b)) d n l' r → Ev (.catL a) d n l r
  | piece_bad {d n l e} : Ev .atom d n l (.bad e) → Ev .piece d n l (.bad e)
  | piece_ok {d n l t l' r} : Ev .atom d n l (.ok t l') → Ev (.pieceL t) d n l' r → Ev .piece d n l r
  | pieceL_end {a d n l} : signH l = none → Ev (.pieceL a) d n l (.ok a l)
  | pieceL_big {a d n c l j} : signK c = some j → 2000 ≤ n + a.size → Ev (.pieceL a) d n (c :: l) (.bad 6)
  | pieceL_more {a d n c l j r} : signK c = some j → n + a.size < 2000 → Ev (.pieceL (.rep j a)) d n l r → Ev (.pieceL a) d n (c :: l) r
  | atom_deep {d n l} : d = 30 → Ev .atom d n (40 :: l) (.bad 7)
  | atom_in {d n l e} : d < 30 → Ev .all (d + 1) n l (.bad e) → Ev .atom d n (40 :: l) (.bad e)
  | atom_open {d n l t l'} : d < 30 → Ev .all (d + 1) n l (.ok t l') → l'.head? ≠ some 41 → Ev .atom d n (40 :: l) (.bad 9)
  | atom_ok {d n l t l'} : d < 30 → Ev .all (d + 1) n l (.ok t (41 :: l')) → Ev .atom d n (40 :: l) (.ok t l')
  | atom_leaf {d n c l t} : leafK c = some t → n < 2000 → Ev .atom d n (c :: l) (.ok t l)
  | atom_lbig {d n c l t} : leafK c = some t → 2000 ≤ n → Ev .atom d n (c :: l) (.bad 6)
  | atom_set {d n l k m} : l.head? ≠ some 40 → (l.head?.bind leafK) = none → listD l = some (k, m) → n < 2000 → Ev .atom d n l (.ok (.set k) (l.drop m))
  | atom_sbig {d n l k m} : l.head? ≠ some 40 → (l.head?.bind leafK) = none → listD l = some (k, m) → 2000 ≤ n → Ev .atom d n l (.bad 6)
  | atom_no {d n l} : l.head? ≠ some 40 → (l.head?.bind leafK) = none → listD l = none → Ev .atom d n l (.bad 9)
/-- What a whole text comes to. -/
inductive Reads (l : List UInt8) : Res → Prop
  | ok {t} : Ev .all 0 0 l (.ok t []) → Reads l (.ok t [])
  | bad {e} : Ev .all 0 0 l (.bad e) → Reads l (.bad e)
  | more {t c l'} : Ev .all 0 0 l (.ok t (c :: l')) → Reads l (.bad 9)
end Go.Proofs.YtkgpnlldlekcbaaGreatDoor
