/- Packed texts: HexUnMath. What each of them proves stands above its theorems; the conditions stand in these. -/
import Derived.Test.YtjdollmfjflkoaaGreatDoorA3
namespace Go.Proofs.YtjdollmfjflkoaaGreatDoor
open Go.RowKit Go.Lib

theorem madeN (m : Nat) : (madeCells #[Value.int .u8 0] m).toList = byteCells ([] ++ List.replicate (m - 0) 0) := by
  unfold madeCells byteCells
  simp only [Array.toList_map, Array.toList_range, List.nil_append, Nat.sub_zero, List.map_replicate]
  apply List.ext_getElem
  · simp
  · intro i h1 h2; simp [Nat.mod_one]
theorem or16_fin : ∀ x y : Fin 16, bits BinOp.or IntKind.i64 ((x.val : Int) * 16) (y.val : Int) = 16 * (x.val : Int) + (y.val : Int) := by decide +kernel
theorem or16 (x y : Int) (hx : 0 ≤ x) (hx' : x ≤ 15) (hy : 0 ≤ y) (hy' : y ≤ 15) : bits BinOp.or IntKind.i64 (x * 16) y = 16 * x + y := by
  have := or16_fin ⟨x.toNat, by omega⟩ ⟨y.toNat, by omega⟩
  simp only [Int.toNat_of_nonneg hx, Int.toNat_of_nonneg hy] at this
  exact this
theorem row_cell (out : List UInt8) (k m : Nat) (ho : out.length = k) (hk : k < m) : (byteCells (out ++ List.replicate (m - k) 0))[k]? = some (.int .u8 0) := by
  subst ho
  unfold byteCells
  rw [List.getElem?_map, List.getElem?_append_right (Nat.le_refl _), Nat.sub_self, List.getElem?_replicate, if_pos (by omega)]
  rfl
theorem row_set (out : List UInt8) (k m : Nat) (c : UInt8) (ho : out.length = k) (hk : k < m) :
    (byteCells (out ++ List.replicate (m - k) 0)).set k (.int .u8 (c.toNat : Int)) = byteCells ((out ++ [c]) ++ List.replicate (m - (k + 1)) 0) := by
  subst ho
  unfold byteCells
  obtain ⟨q, hq⟩ : ∃ q, m - out.length = q + 1 := ⟨m - out.length - 1, by omega⟩
  have e : m - (out.length + 1) = q := by omega
  rw [e, hq, List.replicate_succ, List.map_append, List.map_cons, List.set_append_right _ _ (by simp), List.length_map, Nat.sub_self, List.set_cons_zero]
  simp
theorem take_two (s : ByteArray) (r : List UInt8) (k : Nat) (hr : s.data.toList = 120 :: r) (h : 2 * k + 2 < s.size) : r.take (2 * (k + 1)) = r.take (2 * k) ++ [s[2 * k + 1], s[2 * k + 2]] := by
  have h1 := take_snoc s (2 * k + 1) (by omega)
  have h2 := take_snoc s (2 * k + 1 + 1) (by omega)
  rw [h1] at h2
  rw [hr, List.take_succ_cons, List.take_succ_cons] at h2
  simp only [List.cons_append, List.cons.injEq, true_and, List.append_assoc, List.nil_append] at h2
  exact h2
theorem digN_bounds (c : UInt8) : -1 ≤ digN c ∧ digN c ≤ 15 := by unfold digN; split <;> (try split) <;> (try split) <;> omega
theorem toldN_bounds (c : UInt8) : -1 ≤ toldN c ∧ toldN c ≤ 15 := by unfold toldN; have := digN_bounds c; split <;> omega
/-- The byte of two digits. -/
def pairB (x y : Int) : UInt8 := UInt8.ofNat (16 * x + y).toNat
def pairs : List UInt8 → Option (List UInt8)
  | [] => some []
  | [_] => none
  | a :: b :: r => if toldN a < 0 ∨ toldN b < 0 then none else (pairs r).map fun l => pairB (toldN a) (toldN b) :: l
/-- A text in digits, read; none, if it is none. -/
def unhexO : List UInt8 → Option (List UInt8)
  | [] => none
  | c :: r => if c = 120 then pairs r else none

theorem pairs_append : ∀ (a b : List UInt8), a.length % 2 = 0 → pairs (a ++ b) = (pairs a).bind fun l => (pairs b).map fun m => l ++ m
  | [], b, _ => by simp [pairs]
  | [_], _, h => by simp at h
  | x :: y :: r, b, h => by
    have hr : r.length % 2 = 0 := by simp at h; omega
    simp only [List.cons_append, pairs]
    split
    · rfl
    · rw [pairs_append r b hr]
      cases pairs r <;> simp <;> rfl
theorem pairs_two (a b : UInt8) : pairs [a, b] = if toldN a < 0 ∨ toldN b < 0 then none else some [pairB (toldN a) (toldN b)] := by
  simp [pairs]
theorem pairs_snoc (l r : List UInt8) (a b : UInt8) (h : l.length % 2 = 0) (hl : pairs l = some r) :
    pairs (l ++ [a, b]) = if toldN a < 0 ∨ toldN b < 0 then none else some (r ++ [pairB (toldN a) (toldN b)]) := by
  rw [pairs_append l _ h, hl, pairs_two]
  split <;> simp
theorem pairs_none (a b : List UInt8) (h : a.length % 2 = 0) (hl : pairs a = none) : pairs (a ++ b) = none := by
  rw [pairs_append a _ h, hl]; rfl
theorem pairs_length : ∀ (l r : List UInt8), pairs l = some r → l.length = 2 * r.length
  | [], r, h => by simp [pairs] at h; subst h; rfl
  | [_], r, h => by simp [pairs] at h
  | a :: b :: l, r, h => by
    simp only [pairs] at h
    split at h
    · cases h
    · obtain ⟨r', hr', rfl⟩ := Option.map_eq_some_iff.1 h
      have := pairs_length l r' hr'
      simp; omega
theorem pairs_odd (l : List UInt8) (h : l.length % 2 = 1) : pairs l = none := by
  cases hp : pairs l with
  | none => rfl
  | some r => have := pairs_length l r hp; omega

theorem hexDg_told (n : Nat) (h : n < 16) : toldN (hexDg n) = n := by
  have : ∀ m : Fin 16, toldN (hexDg m.val) = (m.val : Int) := by decide +kernel
  exact this ⟨n, h⟩
theorem pairs_hexL (l : List UInt8) : pairs (hexL l) = some l := by
  induction l with
  | nil => rfl
  | cons c l ih =>
    have hc := c.toNat_lt
    simp only [hexL, pairs, hexDg_told _ (show c.toNat / 16 < 16 by omega), hexDg_told _ (show c.toNat % 16 < 16 by omega), ih]
    rw [if_neg (by omega)]
    have : pairB ((c.toNat / 16 : Nat) : Int) ((c.toNat % 16 : Nat) : Int) = c := by
      unfold pairB
      have e : (16 * ((c.toNat / 16 : Nat) : Int) + ((c.toNat % 16 : Nat) : Int)).toNat = c.toNat := by omega
      rw [e, UInt8.ofNat_toNat]
    rw [this]; rfl
theorem unhexO_hexT (l : List UInt8) : unhexO (hexT l) = some l := by simp [unhexO, hexT, pairs_hexL]
end Go.Proofs.YtjdollmfjflkoaaGreatDoor
