/- Packed texts: ClsMath, ReTr, HexMath, ClsPop, HexName, HexWholeMath, ClsEql, HexCount. What each of them proves stands above its theorems; the conditions stand in these. -/
import Derived.Laws.BitsAllLaws
import Derived.Laws.StructEq
import Derived.Test.YtgceckejchdnlaaGreatDoorProg
import Derived.WalkKit
import Derived.WalkLawsBesides
import Derived.WalkSpells
import Derived.Test.YtgceckejchdnlaaGreatDoorB0
namespace Go.Proofs.YtgceckejchdnlaaGreatDoor
open Go.RowKit

/-- A class: its four words. -/
abbrev Cl := Nat → BitVec 64
def wd (x : BitVec 64) : Value := .int .u64 (x.toNat : Int)
def clsA (k : Cl) : Array Value := #[wd (k 0), wd (k 1), wd (k 2), wd (k 3)]
def clsV (k : Cl) : Value := .agg (clsA k)
/-- Is the byte of a number in it? -/
def has (k : Cl) (c : Nat) : Bool := (k (c / 64)).getLsbD (c % 64)

/-- Two classes of the same bytes are the same. -/
theorem cls_words {k l : Cl} (h : ∀ c, c < 256 → has k c = has l c) (i : Nat) (hi : i < 4) : k i = l i := by
  apply BitVec.eq_of_getLsbD_eq
  intro j hj
  have := h (64 * i + j) (by omega)
  unfold has at this
  rwa [show (64 * i + j) / 64 = i by omega, show (64 * i + j) % 64 = j by omega] at this
def notK (k : Cl) : Cl := fun i => ~~~ k i
def orK (k l : Cl) : Cl := fun i => k i ||| l i
theorem has_not (k : Cl) (c : Nat) : has (notK k) c = !has k c := by
  unfold has notK
  rw [BitVec.getLsbD_not]
  simp [Nat.mod_lt]
theorem has_or (k l : Cl) (c : Nat) : has (orK k l) c = (has k c || has l c) := by
  unfold has orK
  rw [BitVec.getLsbD_or]
/-- The bytes below a number. -/
def belowK (n : Nat) : Cl := fun i => BitVec.ofNat 64 (2 ^ (min (n - 64 * i) 64) - 1)
theorem has_below (n c : Nat) : has (belowK n) c = decide (c < n) := by
  unfold has belowK
  rw [BitVec.getLsbD_ofNat, Nat.testBit_two_pow_sub_one]
  have h1 : c % 64 < 64 := Nat.mod_lt _ (by decide)
  have h2 : c = 64 * (c / 64) + c % 64 := (Nat.div_add_mod c 64).symm
  simp only [h1, decide_true, Bool.true_and, decide_eq_decide]
  omega
def spanK (a b : Nat) : Cl := fun i => belowK (b + 1) i &&& ~~~ belowK a i
theorem has_span (a b c : Nat) : has (spanK a b) c = (decide (a ≤ c) && decide (c ≤ b)) := by
  have e : has (spanK a b) c = (has (belowK (b + 1)) c && !has (belowK a) c) := by
    unfold has spanK
    rw [BitVec.getLsbD_and, BitVec.getLsbD_not]
    simp [Nat.mod_lt]
  rw [e, has_below, has_below, Bool.eq_iff_iff]
  simp
  omega
def oneK (c : Nat) : Cl := spanK c c
theorem has_one (c d : Nat) : has (oneK c) d = decide (d = c) := by
  unfold oneK
  rw [has_span, Bool.eq_iff_iff]
  simp
  omega

/-- How many bits of a word are set; how many bytes a class has. -/
def pop (x : BitVec 64) : Nat := (List.range 64).countP (fun j => x.getLsbD j)
def cntK (k : Cl) : Nat := (List.range 256).countP (has k)
theorem countP_cong {α : Type} {p q : α → Bool} : ∀ {l : List α}, (∀ x ∈ l, p x = q x) → l.countP p = l.countP q
  | [], _ => rfl
  | x :: l, h => by
    rw [List.countP_cons, List.countP_cons, h x (by simp), countP_cong fun y hy => h y (by simp [hy])]
theorem count_part (k : Cl) (i : Nat) : ((List.range 64).map (fun j => 64 * i + j)).countP (has k) = pop (k i) := by
  rw [List.countP_map]
  apply countP_cong
  intro j hj
  have hj : j < 64 := List.mem_range.1 hj
  show has k (64 * i + j) = _
  unfold has
  rw [show (64 * i + j) / 64 = i by omega, show (64 * i + j) % 64 = j by omega]
theorem range256 : List.range 256 = (List.range 64).map (fun j => 64 * 0 + j) ++ (List.range 64).map (fun j => 64 * 1 + j) ++ (List.range 64).map (fun j => 64 * 2 + j) ++ (List.range 64).map (fun j => 64 * 3 + j) := by decide +kernel
theorem cnt_words (k : Cl) : cntK k = pop (k 0) + pop (k 1) + pop (k 2) + pop (k 3) := by
  unfold cntK
  rw [range256, List.countP_append, List.countP_append, List.countP_append, count_part, count_part, count_part, count_part]
theorem pop_le (x : BitVec 64) : pop x ≤ 64 := by
  have := List.countP_le_length (p := fun j => x.getLsbD j) (l := List.range 64)
  rw [List.length_range] at this
  exact this
theorem count_span (a b : Nat) : ∀ n, (List.range n).countP (fun c => decide (a ≤ c) && decide (c ≤ b)) = min n (b + 1) - a
  | 0 => by simp
  | n + 1 => by
    rw [List.range_succ, List.countP_append, count_span a b n, List.countP_cons, List.countP_nil]
    by_cases h1 : a ≤ n <;> by_cases h2 : n ≤ b <;> simp [h1, h2] <;> omega
theorem cnt_span (a b : Nat) (hb : b < 256) : cntK (spanK a b) = b + 1 - a := by
  have e : has (spanK a b) = fun c => decide (a ≤ c) && decide (c ≤ b) := funext fun c => has_span a b c
  unfold cntK
  rw [e, count_span]
  omega

/-- The operations on words. -/
theorem ofInt_nat (x : BitVec 64) : BitVec.ofInt 64 (x.toNat : Int) = x := by
  rw [BitVec.ofInt_natCast, BitVec.ofNat_toNat, BitVec.setWidth_eq]
theorem bv_lt (x : BitVec 64) : (x.toNat : Int) < 18446744073709551616 := by have := x.isLt; omega
theorem or_wd (x y : BitVec 64) : bits .or .u64 (x.toNat : Int) (y.toNat : Int) = ((x ||| y).toNat : Int) := by
  show IntKind.u64.wrap ((BitVec.ofInt 64 (x.toNat : Int) ||| BitVec.ofInt 64 (y.toNat : Int)).toNat : Int) = _
  rw [ofInt_nat, ofInt_nat, IntKind.wrap_u64]
  exact Int.emod_eq_of_lt (by omega) (bv_lt _)
theorem and_wd (x y : BitVec 64) : bits .and .u64 (x.toNat : Int) (y.toNat : Int) = ((x &&& y).toNat : Int) := by
  show IntKind.u64.wrap ((BitVec.ofInt 64 (x.toNat : Int) &&& BitVec.ofInt 64 (y.toNat : Int)).toNat : Int) = _
  rw [ofInt_nat, ofInt_nat, IntKind.wrap_u64]
  exact Int.emod_eq_of_lt (by omega) (bv_lt _)
theorem andNot_wd (x y : BitVec 64) : bits .andNot .u64 (x.toNat : Int) (y.toNat : Int) = ((x &&& ~~~ y).toNat : Int) := by
  show IntKind.u64.wrap ((BitVec.ofInt 64 (x.toNat : Int) &&& ~~~ BitVec.ofInt 64 (y.toNat : Int)).toNat : Int) = _
  rw [ofInt_nat, ofInt_nat, IntKind.wrap_u64]
  exact Int.emod_eq_of_lt (by omega) (bv_lt _)
end Go.Proofs.YtgceckejchdnlaaGreatDoor
namespace Go.Proofs.YtgceckejchdnlaaGreatDoor
open Go.RowKit

/-- A class as its four words, and no more. -/
structure K4 where
  a : BitVec 64
  b : BitVec 64
  c : BitVec 64
  d : BitVec 64
deriving DecidableEq
def K4.cl (k : K4) : Cl := fun i => if i = 0 then k.a else if i = 1 then k.b else if i = 2 then k.c else k.d
def k4 (K : Cl) : K4 := ⟨K 0, K 1, K 2, K 3⟩
theorem k4_cl (k : K4) : k4 k.cl = k := rfl
theorem clsV_k4 (K : Cl) : clsV (k4 K).cl = clsV K := rfl
theorem k4_ext {K L : Cl} (h : ∀ c, c < 256 → has K c = has L c) : k4 K = k4 L := by
  unfold k4
  rw [cls_words h 0 (by omega), cls_words h 1 (by omega), cls_words h 2 (by omega), cls_words h 3 (by omega)]
theorem has_k4 (K : Cl) {c : Nat} (hc : c < 256) : has (k4 K).cl c = has K c := by
  have h : c / 64 = 0 ∨ c / 64 = 1 ∨ c / 64 = 2 ∨ c / 64 = 3 := by omega
  unfold has K4.cl k4
  rcases h with h | h | h | h <;> rw [h] <;> simp
def k0 : K4 := ⟨0, 0, 0, 0⟩
/-- What a point stands for. -/
def kPoint : K4 := k4 (notK (oneK 10))

/-- A node. -/
structure Nd where
  k : Int
  s : K4
  x : Int
  y : Int
deriving DecidableEq
def Nd.cells (n : Nd) : List Value := [.int .i64 n.k, wd n.s.a, wd n.s.b, wd n.s.c, wd n.s.d, .int .i64 n.x, .int .i64 n.y]
def Nd.val (n : Nd) : Value := .agg #[.int .i64 n.k, wd n.s.a, wd n.s.b, wd n.s.c, wd n.s.d, .int .i64 n.x, .int .i64 n.y]
def ndC (t : List Nd) : List Value := t.flatMap Nd.cells
theorem ndC_append (a b : List Nd) : ndC (a ++ b) = ndC a ++ ndC b := List.flatMap_append
/-- A tree. -/
inductive Tr where
  | leaf (j : Nat)
  | set (k : K4)
  | rep (j : Nat) (a : Tr)
  | two (j : Nat) (a b : Tr)
def Tr.size : Tr → Nat
  | .leaf _ => 1
  | .set _ => 1
  | .rep _ a => a.size + 1
  | .two _ a b => a.size + b.size + 1
def Tr.kind : Tr → Nat
  | .leaf j => j
  | .set _ => 1
  | .rep j _ => j
  | .two j _ _ => j
/-- Its nodes, where so many stand ahead of it. -/
def Tr.row : Tr → Nat → List Nd
  | .leaf j, _ => [⟨j, k0, 0, 0⟩]
  | .set k, _ => [⟨1, k, 0, 0⟩]
  | .rep j a, n => a.row n ++ [⟨j, k0, (n : Int) + a.size - 1, 0⟩]
  | .two j a b, n => a.row n ++ (b.row (n + a.size) ++ [⟨j, k0, (n : Int) + a.size - 1, (n : Int) + a.size + b.size - 1⟩])
/-- The kinds that there are. -/
def Tr.ok : Tr → Prop
  | .leaf j => j = 0 ∨ j = 7 ∨ j = 8
  | .set _ => True
  | .rep j a => (j = 4 ∨ j = 5 ∨ j = 6) ∧ a.ok
  | .two j a b => (j = 2 ∨ j = 3) ∧ a.ok ∧ b.ok
theorem Tr.size_pos : ∀ t : Tr, 1 ≤ t.size
  | .leaf _ => Nat.le_refl _
  | .set _ => Nat.le_refl _
  | .rep _ _ => Nat.le_add_left _ _
  | .two _ _ _ => Nat.le_add_left _ _
theorem Tr.row_length : ∀ (t : Tr) (n : Nat), (t.row n).length = t.size
  | .leaf _, _ => rfl
  | .set _, _ => rfl
  | .rep j a, n => by
    show (a.row n ++ [_]).length = a.size + 1
    rw [List.length_append, row_length a n]
    rfl
  | .two j a b, n => by
    show (a.row n ++ (b.row (n + a.size) ++ [_])).length = a.size + b.size + 1
    rw [List.length_append, List.length_append, row_length a n, row_length b _]
    rfl

end Go.Proofs.YtgceckejchdnlaaGreatDoor
namespace Go.Proofs.YtgceckejchdnlaaGreatDoor
open Go.RowKit Go.Lib

def hexDg (n : Nat) : UInt8 := if n < 10 then UInt8.ofNat (48 + n) else UInt8.ofNat (87 + n)
def hexL : List UInt8 → List UInt8
  | [] => []
  | c :: l => hexDg (c.toNat / 16) :: hexDg (c.toNat % 16) :: hexL l
theorem hexL_append (a b : List UInt8) : hexL (a ++ b) = hexL a ++ hexL b := by
  induction a with
  | nil => rfl
  | cons c a ih => simp [hexL, ih]
theorem hexL_length (l : List UInt8) : (hexL l).length = 2 * l.length := by
  induction l with
  | nil => rfl
  | cons c l ih => simp [hexL, ih]; omega
/-- The whole text: x, then the digits. -/
def hexT (l : List UInt8) : List UInt8 := 120 :: hexL l
theorem hexT_length (l : List UInt8) : (hexT l).length = 1 + 2 * l.length := by simp [hexT, hexL_length]; omega
theorem take_snoc (s : ByteArray) (k : Nat) (h : k < s.size) : s.data.toList.take (k + 1) = s.data.toList.take k ++ [s[k]] := by
  rw [List.take_succ_eq_append_getElem (by simpa using h)]; rfl
theorem hexT_snoc (s : ByteArray) (k : Nat) (h : k < s.size) :
    hexT (s.data.toList.take (k + 1)) = hexT (s.data.toList.take k) ++ [hexDg (s[k].toNat / 16), hexDg (s[k].toNat % 16)] := by
  rw [take_snoc s k h]
  simp [hexT, hexL_append, hexL]
theorem bc_append (a b : List UInt8) : byteCells (a ++ b) = byteCells a ++ byteCells b := by simp [byteCells]
theorem and15_fin : ∀ n : Fin 256, bits BinOp.and IntKind.u8 (n.val : Int) 15 = (n.val : Int) % 16 := by decide +kernel
theorem and15 (c : UInt8) : bits BinOp.and IntKind.u8 (c.toNat : Int) 15 = (c.toNat : Int) % 16 := and15_fin ⟨c.toNat, c.toNat_lt⟩
/-- The sixteen digits, each at its number's place. -/
theorem dig_fin : ∀ n : Fin 16, (⟨#[48, 49, 50, 51, 52, 53, 54, 55, 56, 57, 97, 98, 99, 100, 101, 102]⟩ : ByteArray)[n.val]'(n.isLt) = hexDg n.val := by decide +kernel
theorem dig_at (x : Int) (n : Nat) (hx : x = (n : Int)) (hn : n < 16) (h : x.toNat < (⟨#[48, 49, 50, 51, 52, 53, 54, 55, 56, 57, 97, 98, 99, 100, 101, 102]⟩ : ByteArray).size) :
    (⟨#[48, 49, 50, 51, 52, 53, 54, 55, 56, 57, 97, 98, 99, 100, 101, 102]⟩ : ByteArray)[x.toNat] = hexDg n := by
  subst hx
  exact dig_fin ⟨n, hn⟩
/-- Two cells of a new row. -/
theorem cells_two (w : World) (a b : UInt8) (t : TypeId) : ∀ j u, (byteCells [a, b])[j]? = some u → (w.alloc (.cells #[.int .u8 (a.toNat : Int), .int .u8 (b.toNat : Int)] t)).cell? ((⟨w.heap.size, 0, none⟩ : Addr).add j) = some u := by
  intro j u hj
  match j, hj with
  | 0, hj => simp [byteCells] at hj; subst hj; simp [Addr.add]
  | 1, hj => simp [byteCells] at hj; subst hj; simp [Addr.add]
theorem bc_one (l : List UInt8) : ∀ u ∈ byteCells l, u.oneCell' = true := by
  intro u hu
  simp only [byteCells, List.mem_map] at hu
  obtain ⟨b, _, rfl⟩ := hu
  rfl
/-- 'string([]byte{x})'. -/
theorem conv_new1 {P : Program} (src dst e : TypeId) (hs : P.underlying src = some (.slice e)) (he : P.underlying e = some (.int .u8)) (hd : P.underlying dst = some .string) (w : World) (x : Int) (c : UInt8) (hx : x = (c.toNat : Int)) :
    (convert src dst (.slice (some ⟨w.heap.size, 0, none⟩) 1 1)).run P (w.alloc (.cells #[.int .u8 x] e)) = .ok (.string ⟨[c].toArray⟩) (w.alloc (.cells #[.int .u8 x] e)) := by
  subst hx
  exact run_convert_bytes_back (P := P) _ src dst e ⟨w.heap.size, 0, none⟩ 1 [c] hs he hd (fun j hj => by
    have : j = 0 := by simpa using hj
    subst this
    simp [Addr.add])
end Go.Proofs.YtgceckejchdnlaaGreatDoor
namespace Go.Proofs.YtgceckejchdnlaaGreatDoor
open Go.RowKit

/-- The number of a row of bytes, the lowest first. -/
def bval : List Nat → Nat
  | [] => 0
  | b :: l => b + 256 * bval l
theorem bval_add (g h : Nat → Nat) : ∀ l : List Nat, bval (l.map g) + bval (l.map h) = bval (l.map fun b => g b + h b)
  | [] => rfl
  | b :: l => by
    have := bval_add g h l
    simp only [List.map_cons, bval]
    omega
theorem bval_lt : ∀ l : List Nat, (∀ b ∈ l, b < 256) → bval l < 256 ^ l.length
  | [], _ => by simp [bval]
  | b :: l, h => by
    have h1 := bval_lt l fun x hx => h x (by simp [hx])
    have h2 := h b (by simp)
    simp only [bval, List.length_cons, Nat.pow_succ]
    omega
theorem bval_le (m : Nat) : ∀ l : List Nat, (∀ b ∈ l, b ≤ m) → bval l ≤ bval (l.map fun _ => m)
  | [], _ => Nat.le_refl _
  | b :: l, h => by
    have h1 := bval_le m l fun x hx => h x (by simp [hx])
    have h2 := h b (by simp)
    simp only [bval, List.map_cons]
    omega
theorem and_byte (s m b y M : Nat) (hs : s ≤ 8) (hb : b < 256) (hm : m < 2 ^ (8 - s)) :
    ((b + 256 * y) / 2 ^ s) &&& (m + 256 * M) = (b / 2 ^ s &&& m) + 256 * ((y / 2 ^ s) &&& M) := by
  have hm8 : m < 2 ^ 8 := Nat.lt_of_lt_of_le hm (Nat.pow_le_pow_right (by decide) (by omega))
  have hb8 : b < 2 ^ 8 := hb
  have hc : b / 2 ^ s &&& m < 2 ^ 8 := Nat.and_lt_two_pow _ hm8
  have e1 : b + 256 * y = 2 ^ 8 * y + b := by omega
  have e2 : m + 256 * M = 2 ^ 8 * M + m := by omega
  have e3 : (b / 2 ^ s &&& m) + 256 * ((y / 2 ^ s) &&& M) = 2 ^ 8 * ((y / 2 ^ s) &&& M) + (b / 2 ^ s &&& m) := by omega
  rw [e1, e2, e3]
  apply Nat.eq_of_testBit_eq
  intro i
  rw [Nat.testBit_and, Nat.testBit_div_two_pow, Nat.testBit_two_pow_mul_add _ hb8, Nat.testBit_two_pow_mul_add _ hm8, Nat.testBit_two_pow_mul_add _ hc]
  by_cases h8 : i < 8
  · rw [if_pos h8, if_pos h8, Nat.testBit_and, Nat.testBit_div_two_pow]
    by_cases hs8 : i + s < 8
    · rw [if_pos hs8]
    · have : m.testBit i = false := Nat.testBit_lt_two_pow (Nat.lt_of_lt_of_le hm (Nat.pow_le_pow_right (by decide) (by omega)))
      rw [this, Bool.and_false, Bool.and_false]
  · rw [if_neg h8, if_neg h8, if_neg (by omega), Nat.testBit_and, Nat.testBit_div_two_pow, show i + s - 8 = i - 8 + s by omega]
theorem and_bval (s m : Nat) (hs : s ≤ 8) (hm : m < 2 ^ (8 - s)) : ∀ l : List Nat, (∀ b ∈ l, b < 256) → (bval l / 2 ^ s) &&& bval (l.map fun _ => m) = bval (l.map fun b => b / 2 ^ s &&& m)
  | [], _ => by simp [bval]
  | b :: l, h => by
    have h1 := and_bval s m hs hm l fun x hx => h x (by simp [hx])
    simp only [List.map_cons, bval]
    rw [and_byte s m b _ _ hs (h b (by simp)) hm, h1]

/-- How many bits of a byte are set; the sums on the way. -/
def pop8 (b : Nat) : Nat := (List.range 8).countP fun j => b.testBit j
def st1 (b : Nat) : Nat := (b / 2 &&& 85) + (b &&& 85)
def st2 (b : Nat) : Nat := (b / 4 &&& 51) + (b &&& 51)
theorem st_fin : ∀ b : Fin 256, st1 b.val < 256 ∧ st2 (st1 b.val) / 16 ≤ 4 ∧ st2 (st1 b.val) % 16 ≤ 4 ∧ st2 (st1 b.val) / 16 + st2 (st1 b.val) % 16 = pop8 b.val := by decide +kernel
theorem st_all (b : Nat) (h : b < 256) : st1 b < 256 ∧ st2 (st1 b) / 16 ≤ 4 ∧ st2 (st1 b) % 16 ≤ 4 ∧ st2 (st1 b) / 16 + st2 (st1 b) % 16 = pop8 b := st_fin ⟨b, h⟩

theorem step1 (l : List Nat) (hl : l.length = 8) (h : ∀ b ∈ l, b < 256) : (bval l / 2 &&& 6148914691236517205) + (bval l &&& 6148914691236517205) = bval (l.map st1) := by
  have em : bval (l.map fun _ => 85) = 6148914691236517205 := by
    rw [List.map_const', hl]; decide
  have h1 := and_bval 1 85 (by omega) (by decide) l h
  have h2 := and_bval 0 85 (by omega) (by decide) l h
  rw [em] at h1 h2
  simp only [Nat.pow_one, Nat.pow_zero, Nat.div_one] at h1 h2
  rw [h1, h2, bval_add]
  rfl
theorem step2 (l : List Nat) (hl : l.length = 8) (h : ∀ b ∈ l, b < 256) : (bval l / 4 &&& 3689348814741910323) + (bval l &&& 3689348814741910323) = bval (l.map st2) := by
  have em : bval (l.map fun _ => 51) = 3689348814741910323 := by
    rw [List.map_const', hl]; decide
  have h1 := and_bval 2 51 (by omega) (by decide) l h
  have h2 := and_bval 0 51 (by omega) (by decide) l h
  rw [em] at h1 h2
  simp only [Nat.pow_zero, Nat.div_one, show 2 ^ 2 = 4 from rfl] at h1 h2
  rw [h1, h2, bval_add]
  rfl
theorem and15_nat : ∀ n : Fin 256, n.val &&& 15 = n.val % 16 := by decide +kernel
theorem step3 (c0 c1 c2 c3 c4 c5 c6 c7 : Nat) (h0 : c0 / 16 ≤ 4 ∧ c0 % 16 ≤ 4) (h1 : c1 / 16 ≤ 4 ∧ c1 % 16 ≤ 4) (h2 : c2 / 16 ≤ 4 ∧ c2 % 16 ≤ 4) (h3 : c3 / 16 ≤ 4 ∧ c3 % 16 ≤ 4)
    (h4 : c4 / 16 ≤ 4 ∧ c4 % 16 ≤ 4) (h5 : c5 / 16 ≤ 4 ∧ c5 % 16 ≤ 4) (h6 : c6 / 16 ≤ 4 ∧ c6 % 16 ≤ 4) (h7 : c7 / 16 ≤ 4 ∧ c7 % 16 ≤ 4) :
    ((bval [c0, c1, c2, c3, c4, c5, c6, c7] / 16 + bval [c0, c1, c2, c3, c4, c5, c6, c7]) &&& 1085102592571150095) =
      bval [c0 / 16 + c0 % 16, c1 / 16 + c1 % 16, c2 / 16 + c2 % 16, c3 / 16 + c3 % 16, c4 / 16 + c4 % 16, c5 / 16 + c5 % 16, c6 / 16 + c6 % 16, c7 / 16 + c7 % 16] := by
  have e : bval [c0, c1, c2, c3, c4, c5, c6, c7] / 16 + bval [c0, c1, c2, c3, c4, c5, c6, c7] =
      bval [(c0 / 16 + c0 % 16) + 16 * (c0 / 16 + c1 % 16), (c1 / 16 + c1 % 16) + 16 * (c1 / 16 + c2 % 16), (c2 / 16 + c2 % 16) + 16 * (c2 / 16 + c3 % 16), (c3 / 16 + c3 % 16) + 16 * (c3 / 16 + c4 % 16),
        (c4 / 16 + c4 % 16) + 16 * (c4 / 16 + c5 % 16), (c5 / 16 + c5 % 16) + 16 * (c5 / 16 + c6 % 16), (c6 / 16 + c6 % 16) + 16 * (c6 / 16 + c7 % 16), (c7 / 16 + c7 % 16) + 16 * (c7 / 16)] := by
    simp only [bval]
    omega
  rw [e]
  have h := and_bval 0 15 (by omega) (by decide) [(c0 / 16 + c0 % 16) + 16 * (c0 / 16 + c1 % 16), (c1 / 16 + c1 % 16) + 16 * (c1 / 16 + c2 % 16), (c2 / 16 + c2 % 16) + 16 * (c2 / 16 + c3 % 16), (c3 / 16 + c3 % 16) + 16 * (c3 / 16 + c4 % 16),
        (c4 / 16 + c4 % 16) + 16 * (c4 / 16 + c5 % 16), (c5 / 16 + c5 % 16) + 16 * (c5 / 16 + c6 % 16), (c6 / 16 + c6 % 16) + 16 * (c6 / 16 + c7 % 16), (c7 / 16 + c7 % 16) + 16 * (c7 / 16)] (by
    intro b hb
    simp only [List.mem_cons, List.not_mem_nil, or_false] at hb
    omega)
  rw [Nat.pow_zero, Nat.div_one] at h
  have em : bval (([0, 0, 0, 0, 0, 0, 0, 0] : List Nat).map fun _ => 15) = 1085102592571150095 := by decide
  have low : ∀ p q r : Nat, p ≤ 4 → q ≤ 4 → r ≤ 4 → (p + q + 16 * (p + r)) / 2 ^ 0 &&& 15 = p + q := fun p q r hp hq hr => by
    rw [Nat.pow_zero, Nat.div_one, and15_nat ⟨p + q + 16 * (p + r), by omega⟩]
    show (p + q + 16 * (p + r)) % 16 = p + q
    omega
  have low7 : ∀ p q : Nat, p ≤ 4 → q ≤ 4 → (p + q + 16 * p) / 2 ^ 0 &&& 15 = p + q := fun p q hp hq => by
    rw [Nat.pow_zero, Nat.div_one, and15_nat ⟨p + q + 16 * p, by omega⟩]
    show (p + q + 16 * p) % 16 = p + q
    omega
  refine Eq.trans ?_ (h.trans ?_)
  · rw [← em]; rfl
  · simp only [List.map_cons, List.map_nil]
    rw [low _ _ _ h0.1 h0.2 h1.2, low _ _ _ h1.1 h1.2 h2.2, low _ _ _ h2.1 h2.2 h3.2, low _ _ _ h3.1 h3.2 h4.2, low _ _ _ h4.1 h4.2 h5.2, low _ _ _ h5.1 h5.2 h6.2, low _ _ _ h6.1 h6.2 h7.2, low7 _ _ h7.1 h7.2]
theorem step456 (d0 d1 d2 d3 d4 d5 d6 d7 x4 x5 : Nat) (h0 : d0 ≤ 8) (h1 : d1 ≤ 8) (h2 : d2 ≤ 8) (h3 : d3 ≤ 8) (h4 : d4 ≤ 8) (h5 : d5 ≤ 8) (h6 : d6 ≤ 8) (h7 : d7 ≤ 8)
    (e4 : x4 = bval [d0, d1, d2, d3, d4, d5, d6, d7] + bval [d0, d1, d2, d3, d4, d5, d6, d7] / 256) (e5 : x5 = x4 + x4 / 65536) :
    x4 < 18446744073709551616 ∧ x5 < 18446744073709551616 ∧ x5 + x5 / 4294967296 < 9223372036854775808 ∧ (x5 + x5 / 4294967296) % 128 = d0 + d1 + d2 + d3 + d4 + d5 + d6 + d7 := by
  have e4' : x4 = bval [d0 + d1, d1 + d2, d2 + d3, d3 + d4, d4 + d5, d5 + d6, d6 + d7, d7] := by
    rw [e4]; simp only [bval]; omega
  have e5' : x5 = bval [d0 + d1 + d2 + d3, d1 + d2 + d3 + d4, d2 + d3 + d4 + d5, d3 + d4 + d5 + d6, d4 + d5 + d6 + d7, d5 + d6 + d7, d6 + d7, d7] := by
    rw [e5, e4']; simp only [bval]; omega
  clear e4 e5
  have e6 : x5 + x5 / 4294967296 = bval [d0 + d1 + d2 + d3 + d4 + d5 + d6 + d7, d1 + d2 + d3 + d4 + d5 + d6 + d7, d2 + d3 + d4 + d5 + d6 + d7, d3 + d4 + d5 + d6 + d7, d4 + d5 + d6 + d7, d5 + d6 + d7, d6 + d7, d7] := by
    rw [e5']; simp only [bval]; omega
  rw [e6, e5', e4']
  simp only [bval]
  omega

theorem pop8_part (n j : Nat) : ((List.range 8).map (fun i => 8 * j + i)).countP (fun i => n.testBit i) = pop8 (n / 2 ^ (8 * j) % 256) := by
  rw [List.countP_map]
  unfold pop8
  apply countP_cong
  intro i hi
  have hi : i < 8 := List.mem_range.1 hi
  show n.testBit (8 * j + i) = _
  rw [show (256 : Nat) = 2 ^ 8 from rfl, Nat.testBit_mod_two_pow, Nat.testBit_div_two_pow]
  simp [hi, Nat.add_comm]
theorem range64 : List.range 64 = (List.range 8).map (fun i => 8 * 0 + i) ++ (List.range 8).map (fun i => 8 * 1 + i) ++ (List.range 8).map (fun i => 8 * 2 + i) ++ (List.range 8).map (fun i => 8 * 3 + i)
    ++ (List.range 8).map (fun i => 8 * 4 + i) ++ (List.range 8).map (fun i => 8 * 5 + i) ++ (List.range 8).map (fun i => 8 * 6 + i) ++ (List.range 8).map (fun i => 8 * 7 + i) := by decide +kernel
theorem pop_bytes (x : BitVec 64) : ∃ b0 b1 b2 b3 b4 b5 b6 b7 : Nat, b0 < 256 ∧ b1 < 256 ∧ b2 < 256 ∧ b3 < 256 ∧ b4 < 256 ∧ b5 < 256 ∧ b6 < 256 ∧ b7 < 256 ∧ x.toNat = bval [b0, b1, b2, b3, b4, b5, b6, b7] ∧
    pop x = pop8 b0 + pop8 b1 + pop8 b2 + pop8 b3 + pop8 b4 + pop8 b5 + pop8 b6 + pop8 b7 := by
  refine ⟨x.toNat / 2 ^ (8 * 0) % 256, x.toNat / 2 ^ (8 * 1) % 256, x.toNat / 2 ^ (8 * 2) % 256, x.toNat / 2 ^ (8 * 3) % 256, x.toNat / 2 ^ (8 * 4) % 256, x.toNat / 2 ^ (8 * 5) % 256, x.toNat / 2 ^ (8 * 6) % 256, x.toNat / 2 ^ (8 * 7) % 256,
    Nat.mod_lt _ (by decide), Nat.mod_lt _ (by decide), Nat.mod_lt _ (by decide), Nat.mod_lt _ (by decide), Nat.mod_lt _ (by decide), Nat.mod_lt _ (by decide), Nat.mod_lt _ (by decide), Nat.mod_lt _ (by decide), ?_, ?_⟩
  · have := x.isLt
    simp only [bval]
    omega
  · unfold pop
    rw [countP_cong (q := fun i => x.toNat.testBit i) (fun i _ => (BitVec.testBit_toNat x).symm)]
    rw [range64]
    simp only [List.countP_append, pop8_part]

/-- The sums of OnesCount64, one behind the other. -/
theorem ones_sums (x : BitVec 64) : ∃ x1 x2 x3 x4 x5 x6 : Nat,
    x1 = (x.toNat / 2 &&& 6148914691236517205) + (x.toNat &&& 6148914691236517205) ∧ x1 < 18446744073709551616 ∧
    x2 = (x1 / 4 &&& 3689348814741910323) + (x1 &&& 3689348814741910323) ∧ x2 < 18446744073709551616 ∧ x2 / 16 + x2 < 18446744073709551616 ∧
    x3 = ((x2 / 16 + x2) &&& 1085102592571150095) ∧ x4 = x3 + x3 / 256 ∧ x4 < 18446744073709551616 ∧ x5 = x4 + x4 / 65536 ∧ x5 < 18446744073709551616 ∧
    x6 = x5 + x5 / 4294967296 ∧ x6 < 9223372036854775808 ∧ x6 % 128 = pop x := by
  obtain ⟨b0, b1, b2, b3, b4, b5, b6, b7, h0, h1, h2, h3, h4, h5, h6, h7, hx, hp⟩ := pop_bytes x
  obtain ⟨p0, q0, r0, s0⟩ := st_all b0 h0
  obtain ⟨p1, q1, r1, s1⟩ := st_all b1 h1
  obtain ⟨p2, q2, r2, s2⟩ := st_all b2 h2
  obtain ⟨p3, q3, r3, s3⟩ := st_all b3 h3
  obtain ⟨p4, q4, r4, s4⟩ := st_all b4 h4
  obtain ⟨p5, q5, r5, s5⟩ := st_all b5 h5
  obtain ⟨p6, q6, r6, s6⟩ := st_all b6 h6
  obtain ⟨p7, q7, r7, s7⟩ := st_all b7 h7
  have e1 := step1 [b0, b1, b2, b3, b4, b5, b6, b7] rfl (by intro b hb; simp only [List.mem_cons, List.not_mem_nil, or_false] at hb; omega)
  have e2 := step2 [st1 b0, st1 b1, st1 b2, st1 b3, st1 b4, st1 b5, st1 b6, st1 b7] rfl (by intro b hb; simp only [List.mem_cons, List.not_mem_nil, or_false] at hb; omega)
  simp only [List.map_cons, List.map_nil] at e1 e2
  have e3 := step3 (st2 (st1 b0)) (st2 (st1 b1)) (st2 (st1 b2)) (st2 (st1 b3)) (st2 (st1 b4)) (st2 (st1 b5)) (st2 (st1 b6)) (st2 (st1 b7)) ⟨q0, r0⟩ ⟨q1, r1⟩ ⟨q2, r2⟩ ⟨q3, r3⟩ ⟨q4, r4⟩ ⟨q5, r5⟩ ⟨q6, r6⟩ ⟨q7, r7⟩
  have e4 := step456 (st2 (st1 b0) / 16 + st2 (st1 b0) % 16) (st2 (st1 b1) / 16 + st2 (st1 b1) % 16) (st2 (st1 b2) / 16 + st2 (st1 b2) % 16) (st2 (st1 b3) / 16 + st2 (st1 b3) % 16)
    (st2 (st1 b4) / 16 + st2 (st1 b4) % 16) (st2 (st1 b5) / 16 + st2 (st1 b5) % 16) (st2 (st1 b6) / 16 + st2 (st1 b6) % 16) (st2 (st1 b7) / 16 + st2 (st1 b7) % 16) _ _
    (by omega) (by omega) (by omega) (by omega) (by omega) (by omega) (by omega) (by omega) rfl rfl
  have l2 : ∀ c : Nat, c / 16 ≤ 4 → c % 16 ≤ 4 → c ≤ 68 := fun c _ _ => by omega
  have l1 := bval_lt [st1 b0, st1 b1, st1 b2, st1 b3, st1 b4, st1 b5, st1 b6, st1 b7] (by intro b hb; simp only [List.mem_cons, List.not_mem_nil, or_false] at hb; omega)
  have k0 := l2 _ q0 r0
  have k1 := l2 _ q1 r1
  have k2 := l2 _ q2 r2
  have k3 := l2 _ q3 r3
  have k4 := l2 _ q4 r4
  have k5 := l2 _ q5 r5
  have k6 := l2 _ q6 r6
  have k7 := l2 _ q7 r7
  have lx2 : bval [st2 (st1 b0), st2 (st1 b1), st2 (st1 b2), st2 (st1 b3), st2 (st1 b4), st2 (st1 b5), st2 (st1 b6), st2 (st1 b7)] ≤ 4919131752989213764 := by
    refine Nat.le_trans (bval_le 68 _ ?_) (by simp only [List.map_cons, List.map_nil, bval]; decide)
    intro b hb
    simp only [List.mem_cons, List.not_mem_nil, or_false] at hb
    rcases hb with h | h | h | h | h | h | h | h <;> rw [h] <;> assumption
  clear k0 k1 k2 k3 k4 k5 k6 k7 l2
  refine ⟨_, _, _, _, _, _, rfl, ?_, rfl, ?_, ?_, rfl, rfl, ?_, rfl, ?_, rfl, ?_, ?_⟩
  all_goals rw [hx, e1]
  · simpa using l1
  · rw [e2]; omega
  · rw [e2]; omega
  all_goals rw [e2, e3]
  · exact e4.1
  · exact e4.2.1
  · exact e4.2.2.1
  · rw [e4.2.2.2, hp, s0, s1, s2, s3, s4, s5, s6, s7]
end Go.Proofs.YtgceckejchdnlaaGreatDoor
namespace Go.Proofs.YtgceckejchdnlaaGreatDoor
open Go.RowKit Go.Lib

def nameOk (k : Nat) (c : UInt8) : Bool := isLet c || decide (0 < k) && isFig c
def restOk (c : UInt8) : Bool := isLet c || isFig c
def namePre : List UInt8 → Bool
  | [] => true
  | c :: r => isLet c && r.all restOk
def isNameB (l : List UInt8) : Bool := !l.isEmpty && namePre l

theorem namePre_snoc (l : List UInt8) (c : UInt8) : namePre (l ++ [c]) = (namePre l && nameOk l.length c) := by
  cases l with
  | nil => simp [namePre, nameOk]
  | cons d r => simp [namePre, nameOk, restOk, Bool.and_assoc]
theorem namePre_append (a b : List UInt8) (h : namePre a = false) : namePre (a ++ b) = false := by
  cases a with
  | nil => simp [namePre] at h
  | cons d r =>
    simp only [namePre, List.cons_append, List.all_append] at h ⊢
    cases h1 : isLet d <;> cases h2 : r.all restOk <;> simp_all
theorem namePre_take (s : ByteArray) (k : Nat) (h : k < s.size) : namePre (s.data.toList.take (k + 1)) = (namePre (s.data.toList.take k) && nameOk k s[k]) := by
  rw [take_snoc s k h, namePre_snoc]
  rw [List.length_take, Nat.min_eq_left (by simp; omega)]
theorem namePre_no (s : ByteArray) (k : Nat) (h : namePre (s.data.toList.take k) = false) : isNameB s.data.toList = false := by
  have := namePre_append _ (s.data.toList.drop k) h
  rw [List.take_append_drop] at this
  simp [isNameB, this]

set_option maxHeartbeats 400000 in
theorem isNameFits_any (s : ByteArray) (k : Nat) (b : Nat) (w : World) (hk : k < s.size) (_hs : s.size ≤ maxLen) (hc : w.cell? ⟨b, 0, none⟩ = some (.string s)) :
    Calls Tryz.prog 97 #[.int .i64 (k : Int), .pointer (some ⟨b, 0, none⟩)] w fun e w' => e = .returned (.bool (nameOk k s[k])) ∧ w = w' := by
  unfold maxLen at _hs
  obtain ⟨c, hcc⟩ : ∃ c, s[k] = c := ⟨_, rfl⟩
  rw [hcc]
  cases hl : isLet c <;> cases hf : isFig c <;> by_cases h0 : 0 < k
  all_goals
    have HL := Lib.hid hl
    have HF := Lib.hid hf
    go_enter Tryz.func97, Tryz.ntmps97
    go_wp2_with (first | (go_at_call 98; refine (isLetter_any _ _).mono ?_; rintro e w' ⟨rfl, rfl⟩) | (go_at_call 99; refine (isFigure_any _ _).mono ?_; rintro e w' ⟨rfl, rfl⟩))
    go_ret
    refine ⟨ret_bool ?_, rfl⟩
    simp [nameOk, HL.out, HF.out, h0]

set_option maxHeartbeats 400000 in
theorem isName_any (s : ByteArray) (w : World) (hs : s.size ≤ 70000000000000) :
    Calls Tryz.prog 82 #[.string s] w fun e w' => e = .returned (.bool (isNameB s.data.toList)) ∧ Below w.heap.size w w' := by
  have hcl : (w.alloc (.cells #[.string s] 9)).cell? ⟨w.heap.size, 0, none⟩ = some (.string s) := by simp
  go_enter Tryz.func82, Tryz.ntmps82
  go_wp2
  go_loop [8] (fun i => ∃ k : Nat, k ≤ s.size ∧ i = .int .i64 k ∧ namePre (s.data.toList.take k) = true) (fun i => s.size - (RowKit.intOf i).toNat)
  case atStart => exact ⟨0, Nat.zero_le _, rfl, rfl⟩
  case round =>
    obtain ⟨k, hk, rfl, hpre⟩ := hrel
    have HP := Lib.hid hpre
    clear hpre
    by_cases hlt : k < s.size
    · have hsn := Lib.hid (namePre_take s k hlt)
      have hfit := isNameFits_any s k w.heap.size (w.alloc (.cells #[.string s] 9)) hlt (by unfold maxLen; omega) hcl
      cases hn : nameOk k s[k]
      · rw [hn] at hfit
        have HN := Lib.hid hn
        clear hn
        go_wp2_with (go_at_call 97; refine hfit.mono ?_; rintro e w' ⟨rfl, rfl⟩)
        go_ret
        refine ⟨ret_bool ?_, (Below.refl _ _).alloc (Nat.le_refl _) _⟩
        rw [namePre_no s (k + 1) (by rw [hsn.out, HN.out]; simp)]
      · rw [hn] at hfit
        have HN := Lib.hid hn
        clear hn
        go_wp2_with (go_at_call 97; refine hfit.mono ?_; rintro e w' ⟨rfl, rfl⟩)
        go_round
        case rel => exact ⟨k + 1, by omega, by go_num, by rw [hsn.out, HN.out, HP.out]; rfl⟩
        case measure => simp [RowKit.intOf]; omega
    · have hall : s.data.toList.take k = s.data.toList := List.take_of_length_le (by simp; omega)
      have HA := Lib.hid hall
      clear hall
      go_wp2
      all_goals
        go_ret
        refine ⟨ret_bool ?_, (Below.refl _ _).alloc (Nat.le_refl _) _⟩
        have := HP.out
        rw [HA.out] at this
        simp [isNameB, this, ByteArray.toList_eq]
end Go.Proofs.YtgceckejchdnlaaGreatDoor
namespace Go.Proofs.YtgceckejchdnlaaGreatDoor
open Go.RowKit Go.Lib

def figV (c : UInt8) : Nat := c.toNat - 48
def natOf (l : List UInt8) : Nat := l.foldl (fun a c => 10 * a + figV c) 0
theorem natOf_snoc (l : List UInt8) (c : UInt8) : natOf (l ++ [c]) = 10 * natOf l + figV c := by simp [natOf]
theorem natOf_le_foldl (b : List UInt8) : ∀ x : Nat, x ≤ b.foldl (fun a c => 10 * a + figV c) x := by
  induction b with
  | nil => intro x; exact Nat.le_refl _
  | cons c b ih => intro x; exact Nat.le_trans (by omega) (ih (10 * x + figV c))
theorem natOf_mono (a b : List UInt8) : natOf a ≤ natOf (a ++ b) := by
  unfold natOf; rw [List.foldl_append]; exact natOf_le_foldl b _

/-- The figures that a text begins with. -/
def figs (l : List UInt8) : List UInt8 := l.takeWhile isFig
theorem figs_stop (a r : List UInt8) (c : UInt8) (ha : a.all isFig = true) (hc : isFig c = false) : figs (a ++ c :: r) = a := by
  unfold figs
  induction a with
  | nil => simp [hc]
  | cons d a ih =>
    simp only [List.all_cons, Bool.and_eq_true] at ha
    simp [ha.1, ih ha.2]
theorem figs_all (a : List UInt8) (ha : a.all isFig = true) : figs a = a := by
  unfold figs
  induction a with
  | nil => rfl
  | cons d a ih =>
    simp only [List.all_cons, Bool.and_eq_true] at ha
    simp [List.takeWhile, ha.1, ih ha.2]
theorem figs_isFig (l : List UInt8) : (figs l).all isFig = true := by
  unfold figs
  induction l with
  | nil => rfl
  | cons d a ih =>
    cases h : isFig d
    · simp [List.takeWhile, h]
    · simp only [List.takeWhile, h, List.all_cons, Bool.true_and]; exact ih
theorem figs_prefix (l : List UInt8) : figs l = l.take (figs l).length := by
  unfold figs
  induction l with
  | nil => rfl
  | cons d a ih =>
    cases h : isFig d
    · simp [List.takeWhile, h]
    · simp only [List.takeWhile, h, List.length_cons, List.take_succ_cons, List.cons.injEq, true_and]; exact ih
theorem figs_length_le (l : List UInt8) : (figs l).length ≤ l.length := by
  have := congrArg List.length (figs_prefix l)
  rw [List.length_take] at this; omega
/-- Where a text's figures end. -/
theorem figs_at (s : ByteArray) (k : Nat) (hk : k < s.size) (ha : (s.data.toList.take k).all isFig = true) (hc : isFig s[k] = false) : (figs s.data.toList).length = k := by
  have h1 : s.data.toList = s.data.toList.take k ++ s[k] :: s.data.toList.drop (k + 1) := by
    conv => lhs; rw [← List.take_append_drop k s.data.toList]
    rw [List.drop_eq_getElem_cons (by rw [Array.length_toList]; exact hk)]; rfl
  rw [h1, figs_stop _ _ _ ha hc, List.length_take, Array.length_toList]
  exact Nat.min_eq_left (Nat.le_of_lt hk)
theorem figs_whole (s : ByteArray) (ha : s.data.toList.all isFig = true) : (figs s.data.toList).length = s.size := by
  rw [figs_all _ ha, Array.length_toList]; rfl

/-- Where the number begins: behind a sign. -/
def isNeg (l : List UInt8) : Bool := l.head? == some 45
def afterSign (l : List UInt8) : List UInt8 := if isNeg l then l.tail else l
/-- What a text's beginning tells: the number, how many bytes it takes, and why not. -/
def wholeD (l : List UInt8) : Int × Int × Int :=
  if figs (afterSign l) = [] then (0, 0, 2)
  else if isNeg l then
    (if natOf (figs (afterSign l)) ≤ 9223372036854775808 then (-(natOf (figs (afterSign l)) : Int), (figs (afterSign l)).length + 1, 0) else (0, 0, 3))
  else
    (if natOf (figs (afterSign l)) ≤ 9223372036854775807 then ((natOf (figs (afterSign l)) : Int), (figs (afterSign l)).length, 0) else (0, 0, 3))
end Go.Proofs.YtgceckejchdnlaaGreatDoor
namespace Go.Proofs.YtgceckejchdnlaaGreatDoor
open Go.RowKit

theorem run_equalIn_word (n : Nat) (a b : Int) (w : World) : (Op.equalIn (n + 1) 67 (.int .u64 a) (.int .u64 b)).run Tryz.prog w = .ok (a == b) w := run_equalIn_int w n 67 .u64 .u64 a b Tryz.underlying67
theorem run_part_word (xs : Array Value) (o : Nat) (v : Value) (w : World) (h : xs[o]? = some v) : (part 67 xs o).run Tryz.prog w = .ok v w := by
  simp [part, Sem.run_bind, Tryz.isAgg67, Result.andThen, h]
set_option maxRecDepth 20000 in
theorem eql_cls (n : Nat) (a b c d e f g h : Int) (w : World) :
    (Op.equalIn (n + 1 + 1) 69 (.agg #[.int .u64 a, .int .u64 b, .int .u64 c, .int .u64 d]) (.agg #[.int .u64 e, .int .u64 f, .int .u64 g, .int .u64 h])).run Tryz.prog w = .ok (a == e && (b == f && (c == g && d == h))) w := by
  rw [Op.equalIn]
  simp only [Sem.run_bind, run_underlying Tryz.underlying69, Result.andThen_ok, Tryz.sizeOf67]
  simp only [Std.Legacy.Range.forIn_eq_forIn_range', Std.Legacy.Range.size, List.range', List.forIn_cons, List.forIn_nil]
  simp only [Nat.zero_add, Nat.mul_one, Nat.one_add]
  obtain ⟨p, hp⟩ : ∃ p, (a == e) = p := ⟨_, rfl⟩
  obtain ⟨q, hq⟩ : ∃ p, (b == f) = p := ⟨_, rfl⟩
  obtain ⟨r, hr⟩ : ∃ p, (c == g) = p := ⟨_, rfl⟩
  obtain ⟨s, hs⟩ : ∃ p, (d == h) = p := ⟨_, rfl⟩
  have r0 := fun w => run_equalIn_word n a e w
  have r1 := fun w => run_equalIn_word n b f w
  have r2 := fun w => run_equalIn_word n c g w
  have r3 := fun w => run_equalIn_word n d h w
  rw [hp] at r0
  rw [hq] at r1
  rw [hr] at r2
  rw [hs] at r3
  rw [hp, hq, hr, hs]
  clear hp hq hr hs
  have x0 := fun w => run_part_word #[.int .u64 a, .int .u64 b, .int .u64 c, .int .u64 d] 0 _ w rfl
  have x1 := fun w => run_part_word #[.int .u64 a, .int .u64 b, .int .u64 c, .int .u64 d] 1 _ w rfl
  have x2 := fun w => run_part_word #[.int .u64 a, .int .u64 b, .int .u64 c, .int .u64 d] 2 _ w rfl
  have x3 := fun w => run_part_word #[.int .u64 a, .int .u64 b, .int .u64 c, .int .u64 d] 3 _ w rfl
  have y0 := fun w => run_part_word #[.int .u64 e, .int .u64 f, .int .u64 g, .int .u64 h] 0 _ w rfl
  have y1 := fun w => run_part_word #[.int .u64 e, .int .u64 f, .int .u64 g, .int .u64 h] 1 _ w rfl
  have y2 := fun w => run_part_word #[.int .u64 e, .int .u64 f, .int .u64 g, .int .u64 h] 2 _ w rfl
  have y3 := fun w => run_part_word #[.int .u64 e, .int .u64 f, .int .u64 g, .int .u64 h] 3 _ w rfl
  cases p <;> cases q <;> cases r <;> cases s <;> simp [Sem.run_bind, Result.andThen, r0, r1, r2, r3, x0, x1, x2, x3, y0, y1, y2, y3]
/-- '==' of two classes, as the walk meets it. -/
theorem run_eql_cls (a b c d e f g h : Int) (w : World) :
    (binOp .eql 69 (.agg #[.int .u64 a, .int .u64 b, .int .u64 c, .int .u64 d]) (.agg #[.int .u64 e, .int .u64 f, .int .u64 g, .int .u64 h])).run Tryz.prog w = .ok (.bool (a == e && (b == f && (c == g && d == h)))) w := by
  rw [run_eql_struct, eql_cls]
  rfl
end Go.Proofs.YtgceckejchdnlaaGreatDoor
namespace Go.Proofs.YtgceckejchdnlaaGreatDoor
open Go.RowKit Go.Lib

set_option maxHeartbeats 400000 in
theorem count_any (s : ByteArray) (w : World) (hs : s.size ≤ 70000000000000) :
    Calls Tryz.prog 94 #[.string s] w fun e w' => e = .returned (.int .i64 ((figs s.data.toList).length : Int)) ∧ w = w' := by
  go_enter Tryz.func94, Tryz.ntmps94
  go_wp2
  go_loop [6] (fun i => ∃ k : Nat, k ≤ s.size ∧ i = .int .i64 k ∧ Hid ((s.data.toList.take k).all isFig = true)) (fun i => s.size - (RowKit.intOf i).toNat)
  case atStart => exact ⟨0, Nat.zero_le _, rfl, rfl⟩
  case round =>
    obtain ⟨k, hk, rfl, HP⟩ := hrel
    by_cases hlt : k < s.size
    · have HT := Lib.hid (take_snoc s k hlt)
      have HE := Lib.hid (figs_at s k hlt HP.out)
      obtain ⟨c, hc⟩ : ∃ c, s[k] = c := ⟨_, rfl⟩
      rw [hc] at HT HE
      have cf := fun w => isFigure_any c w
      generalize hb : isFig c = b at cf HE
      have HB := Lib.hid hb
      clear hb
      cases b
      · go_wp2_with (go_at_call 99; refine (cf _).mono ?_; rintro e w' ⟨rfl, rfl⟩)
        go_ret
        exact ⟨ret_int (by rw [HE.out (by simp)]), rfl⟩
      · go_wp2_with (go_at_call 99; refine (cf _).mono ?_; rintro e w' ⟨rfl, rfl⟩)
        go_round
        case rel =>
          refine ⟨k + 1, by omega, by go_num, ?_⟩
          show (s.data.toList.take (k + 1)).all isFig = true
          rw [HT.out, List.all_append, HP.out]
          simp [HB.out]
        case measure => simp [RowKit.intOf]; omega
    · have HA := Lib.hid (show s.data.toList.all isFig = true by
        have := HP.out
        rw [List.take_of_length_le (by rw [Array.length_toList]; exact Nat.le_of_not_lt hlt)] at this
        exact this)
      go_wp2
      go_ret
      exact ⟨ret_int (by rw [figs_whole s HA.out]), rfl⟩

theorem fig_bounds (c : UInt8) (h : isFig c = true) : 48 ≤ (c.toNat : Int) ∧ (c.toNat : Int) ≤ 57 := by
  unfold isFig at h
  simpa only [Bool.and_eq_true, decide_eq_true_eq] using h
theorem all_at (s : ByteArray) (k : Nat) (hk : k < s.size) (h : s.data.toList.all isFig = true) : isFig s[k] = true := by
  rw [List.all_eq_true] at h
  exact h _ (List.getElem_mem (by rw [Array.length_toList]; exact hk))

/-- What size answers. -/
def sizeE (n m : Int) : Ending := .returned (.tuple (if n ≤ m then #[.int .u64 n, .bool true] else #[.int .u64 0, .bool false]))
theorem sizeE_yes {n m : Int} (h : n ≤ m) : Ending.returned (.tuple #[.int .u64 n, .bool true]) = sizeE n m := by unfold sizeE; rw [if_pos h]
theorem sizeE_no {n m : Int} (h : m < n) : Ending.returned (.tuple #[.int .u64 0, .bool false]) = sizeE n m := by unfold sizeE; rw [if_neg (by omega)]

set_option maxHeartbeats 400000 in
theorem size_any (s : ByteArray) (m : Int) (w : World) (hs : s.size ≤ 70000000000000) (hf : s.data.toList.all isFig = true) (hm0 : 9 ≤ m) (hm1 : m ≤ 9223372036854775808) :
    Calls Tryz.prog 95 #[.string s, .int .u64 m] w fun e w' =>
      e = sizeE (natOf s.data.toList : Int) m ∧ w = w' := by
  have HF := Lib.hid hf
  clear hf
  go_enter Tryz.func95, Tryz.ntmps95
  go_wp2
  go_loop [6, 11] (fun n i => ∃ (k : Nat) (a : Int), k ≤ s.size ∧ i = .int .i64 k ∧ n = .int .u64 a ∧ Hid (a = natOf (s.data.toList.take k)) ∧ 0 ≤ a ∧ a ≤ m) (fun _ i => s.size - (RowKit.intOf i).toNat)
  case atStart => exact ⟨0, 0, Nat.zero_le _, rfl, rfl, rfl, Int.le_refl _, by omega⟩
  case round =>
    obtain ⟨k, a, hk, rfl, rfl, HA, ha0, ham⟩ := hrel
    by_cases hlt : k < s.size
    · have HS := Lib.hid (natOf_snoc (s.data.toList.take k) s[k])
      have HT := Lib.hid (take_snoc s k hlt)
      have hc := fig_bounds _ (all_at s k hlt HF.out)
      have HL : Hid (natOf (s.data.toList.take (k + 1)) ≤ natOf s.data.toList) := by
        have := natOf_mono (s.data.toList.take (k + 1)) (s.data.toList.drop (k + 1))
        rw [List.take_append_drop] at this; exact this
      obtain ⟨z, hz⟩ : ∃ z : Int, (s[k].toNat : Int) = z := ⟨_, rfl⟩
      rw [hz] at hc
      have HZ : Hid ((figV s[k] : Int) = z - 48) := by
        show (figV s[k] : Int) = z - 48
        unfold figV; omega
      obtain ⟨hc0, hc1⟩ := hc
      by_cases ho : (m - (z - 48)) / 10 < a
      · have HO : Hid (m < (natOf s.data.toList : Int)) := by
          show m < (natOf s.data.toList : Int)
          have h1 := HL.out
          rw [HT.out, HS.out] at h1
          have h2 := HA.out
          have h3 := HZ.out
          omega
        go_wp2
        go_ret2
        exact ⟨sizeE_no HO.out, rfl⟩
      · have h9 : 0 ≤ 10 * a + (z - 48) := by omega
        have h10 : 10 * a + (z - 48) ≤ m := by omega
        go_wp2
        go_round
        case rel =>
          refine ⟨k + 1, 10 * a + (z - 48), by omega, by go_num, rfl, ?_, h9, h10⟩
          show _ = ((natOf (s.data.toList.take (k + 1)) : Nat) : Int)
          rw [HT.out, HS.out]
          have h2 := HA.out
          have h3 := HZ.out
          omega
        case measure => simp [RowKit.intOf]; omega
    · have HX := Lib.hid (show a = natOf s.data.toList by
        have := HA.out
        rw [List.take_of_length_le (by rw [Array.length_toList]; exact Nat.le_of_not_lt hlt)] at this
        exact this)
      go_wp2
      go_ret2
      rw [← HX.out]
      exact ⟨sizeE_yes ham, rfl⟩
end Go.Proofs.YtgceckejchdnlaaGreatDoor
