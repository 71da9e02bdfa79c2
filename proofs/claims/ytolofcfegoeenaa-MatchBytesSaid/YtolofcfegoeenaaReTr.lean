/- Trees of regular expressions, and the rows of nodes that they stand in. No condition. -/
import Derived.Test.YtolofcfegoeenaaClsMath
namespace Go.Proofs.Ytolofcfegoeenaa
open Go.RowKit

/-- A class as its four words, and no more. -/
structure K4 where
  a : BitVec 64
  b : BitVec 64
  c : BitVec 64
  d : BitVec 64
deriving DecidableEq
def K4.cl (k : K4) : Cl := fun i => if i = 0 then k.a else if i = 1 then k.b else if i = 2 then k.c else k.d
def k4 (K : Cl) : K4 := ⟨K 0, K 1, K 2, K 3⟩
theorem k4_cl (k : K4) : k4 k.cl = k := rfl
theorem clsA_k4 (K : Cl) : clsA (k4 K).cl = clsA K := rfl
theorem clsV_k4 (K : Cl) : clsV (k4 K).cl = clsV K := rfl
theorem k4_ext {K L : Cl} (h : ∀ c, c < 256 → has K c = has L c) : k4 K = k4 L := by
  unfold k4
  rw [cls_words h 0 (by omega), cls_words h 1 (by omega), cls_words h 2 (by omega), cls_words h 3 (by omega)]
theorem has_k4 (K : Cl) {c : Nat} (hc : c < 256) : has (k4 K).cl c = has K c := by
  have h : c / 64 = 0 ∨ c / 64 = 1 ∨ c / 64 = 2 ∨ c / 64 = 3 := by omega
  unfold has K4.cl k4
  rcases h with h | h | h | h <;> rw [h] <;> simp
def k0 : K4 := ⟨0, 0, 0, 0⟩
/-- What a point stands for. -/
def kPoint : K4 := k4 (notK (oneK 10))

/-- A node. -/
structure Nd where
  k : Int
  s : K4
  x : Int
  y : Int
deriving DecidableEq
def Nd.cells (n : Nd) : List Value := [.int .i64 n.k, wd n.s.a, wd n.s.b, wd n.s.c, wd n.s.d, .int .i64 n.x, .int .i64 n.y]
def Nd.val (n : Nd) : Value := .agg #[.int .i64 n.k, wd n.s.a, wd n.s.b, wd n.s.c, wd n.s.d, .int .i64 n.x, .int .i64 n.y]
def ndC (t : List Nd) : List Value := t.flatMap Nd.cells
theorem ndC_append (a b : List Nd) : ndC (a ++ b) = ndC a ++ ndC b := List.flatMap_append
theorem ndC_length (t : List Nd) : (ndC t).length = 7 * t.length := by
  induction t with
  | nil => rfl
  | cons a t ih =>
    show (Nd.cells a ++ ndC t).length = _
    rw [List.length_append, ih, List.length_cons]
    show 7 + _ = _
    omega

/-- A tree. -/
inductive Tr where
  | leaf (j : Nat)
  | set (k : K4)
  | rep (j : Nat) (a : Tr)
  | two (j : Nat) (a b : Tr)
def Tr.size : Tr → Nat
  | .leaf _ => 1
  | .set _ => 1
  | .rep _ a => a.size + 1
  | .two _ a b => a.size + b.size + 1
def Tr.kind : Tr → Nat
  | .leaf j => j
  | .set _ => 1
  | .rep j _ => j
  | .two j _ _ => j
/-- Its nodes, where so many stand ahead of it. -/
def Tr.row : Tr → Nat → List Nd
  | .leaf j, _ => [⟨j, k0, 0, 0⟩]
  | .set k, _ => [⟨1, k, 0, 0⟩]
  | .rep j a, n => a.row n ++ [⟨j, k0, (n : Int) + a.size - 1, 0⟩]
  | .two j a b, n => a.row n ++ (b.row (n + a.size) ++ [⟨j, k0, (n : Int) + a.size - 1, (n : Int) + a.size + b.size - 1⟩])
/-- The kinds that there are. -/
def Tr.ok : Tr → Prop
  | .leaf j => j = 0 ∨ j = 7 ∨ j = 8
  | .set _ => True
  | .rep j a => (j = 4 ∨ j = 5 ∨ j = 6) ∧ a.ok
  | .two j a b => (j = 2 ∨ j = 3) ∧ a.ok ∧ b.ok
theorem Tr.size_pos : ∀ t : Tr, 1 ≤ t.size
  | .leaf _ => Nat.le_refl _
  | .set _ => Nat.le_refl _
  | .rep _ _ => Nat.le_add_left _ _
  | .two _ _ _ => Nat.le_add_left _ _
theorem Tr.row_length : ∀ (t : Tr) (n : Nat), (t.row n).length = t.size
  | .leaf _, _ => rfl
  | .set _, _ => rfl
  | .rep j a, n => by
    show (a.row n ++ [_]).length = a.size + 1
    rw [List.length_append, row_length a n]
    rfl
  | .two j a b, n => by
    show (a.row n ++ (b.row (n + a.size) ++ [_])).length = a.size + b.size + 1
    rw [List.length_append, List.length_append, row_length a n, row_length b _]
    rfl

end Go.Proofs.Ytolofcfegoeenaa
