/- Classes of bytes as four words of 64 bits: which bytes are in one, how many; what the operations on words mean for them. No condition. -/
import Derived.Test.YtolofcfegoeenaaProg
import Derived.Laws.BitsAllLaws
import Derived.WalkKit
namespace Go.Proofs.Ytolofcfegoeenaa
open Go.RowKit

/-- A class: its four words. -/
abbrev Cl := Nat → BitVec 64
def wd (x : BitVec 64) : Value := .int .u64 (x.toNat : Int)
def clsA (k : Cl) : Array Value := #[wd (k 0), wd (k 1), wd (k 2), wd (k 3)]
def clsV (k : Cl) : Value := .agg (clsA k)
/-- Is the byte of a number in it? -/
def has (k : Cl) (c : Nat) : Bool := (k (c / 64)).getLsbD (c % 64)

/-- Two classes of the same bytes are the same. -/
theorem cls_words {k l : Cl} (h : ∀ c, c < 256 → has k c = has l c) (i : Nat) (hi : i < 4) : k i = l i := by
  apply BitVec.eq_of_getLsbD_eq
  intro j hj
  have := h (64 * i + j) (by omega)
  unfold has at this
  rwa [show (64 * i + j) / 64 = i by omega, show (64 * i + j) % 64 = j by omega] at this
theorem clsA_ext {k l : Cl} (h : ∀ c, c < 256 → has k c = has l c) : clsA k = clsA l := by
  unfold clsA
  rw [cls_words h 0 (by omega), cls_words h 1 (by omega), cls_words h 2 (by omega), cls_words h 3 (by omega)]
theorem clsV_ext {k l : Cl} (h : ∀ c, c < 256 → has k c = has l c) : clsV k = clsV l := by unfold clsV; rw [clsA_ext h]

def notK (k : Cl) : Cl := fun i => ~~~ k i
def orK (k l : Cl) : Cl := fun i => k i ||| l i
theorem has_not (k : Cl) (c : Nat) : has (notK k) c = !has k c := by
  unfold has notK
  rw [BitVec.getLsbD_not]
  simp [Nat.mod_lt]
theorem has_or (k l : Cl) (c : Nat) : has (orK k l) c = (has k c || has l c) := by
  unfold has orK
  rw [BitVec.getLsbD_or]
/-- The bytes below a number. -/
def belowK (n : Nat) : Cl := fun i => BitVec.ofNat 64 (2 ^ (min (n - 64 * i) 64) - 1)
theorem has_below (n c : Nat) : has (belowK n) c = decide (c < n) := by
  unfold has belowK
  rw [BitVec.getLsbD_ofNat, Nat.testBit_two_pow_sub_one]
  have h1 : c % 64 < 64 := Nat.mod_lt _ (by decide)
  have h2 : c = 64 * (c / 64) + c % 64 := (Nat.div_add_mod c 64).symm
  simp only [h1, decide_true, Bool.true_and, decide_eq_decide]
  omega
def spanK (a b : Nat) : Cl := fun i => belowK (b + 1) i &&& ~~~ belowK a i
theorem has_span (a b c : Nat) : has (spanK a b) c = (decide (a ≤ c) && decide (c ≤ b)) := by
  have e : has (spanK a b) c = (has (belowK (b + 1)) c && !has (belowK a) c) := by
    unfold has spanK
    rw [BitVec.getLsbD_and, BitVec.getLsbD_not]
    simp [Nat.mod_lt]
  rw [e, has_below, has_below, Bool.eq_iff_iff]
  simp
  omega
def oneK (c : Nat) : Cl := spanK c c
theorem has_one (c d : Nat) : has (oneK c) d = decide (d = c) := by
  unfold oneK
  rw [has_span, Bool.eq_iff_iff]
  simp
  omega

/-- How many bits of a word are set; how many bytes a class has. -/
def pop (x : BitVec 64) : Nat := (List.range 64).countP (fun j => x.getLsbD j)
def cntK (k : Cl) : Nat := (List.range 256).countP (has k)
theorem countP_cong {α : Type} {p q : α → Bool} : ∀ {l : List α}, (∀ x ∈ l, p x = q x) → l.countP p = l.countP q
  | [], _ => rfl
  | x :: l, h => by
    rw [List.countP_cons, List.countP_cons, h x (by simp), countP_cong fun y hy => h y (by simp [hy])]
theorem count_part (k : Cl) (i : Nat) : ((List.range 64).map (fun j => 64 * i + j)).countP (has k) = pop (k i) := by
  rw [List.countP_map]
  apply countP_cong
  intro j hj
  have hj : j < 64 := List.mem_range.1 hj
  show has k (64 * i + j) = _
  unfold has
  rw [show (64 * i + j) / 64 = i by omega, show (64 * i + j) % 64 = j by omega]
theorem range256 : List.range 256 = (List.range 64).map (fun j => 64 * 0 + j) ++ (List.range 64).map (fun j => 64 * 1 + j) ++ (List.range 64).map (fun j => 64 * 2 + j) ++ (List.range 64).map (fun j => 64 * 3 + j) := by decide +kernel
theorem cnt_words (k : Cl) : cntK k = pop (k 0) + pop (k 1) + pop (k 2) + pop (k 3) := by
  unfold cntK
  rw [range256, List.countP_append, List.countP_append, List.countP_append, count_part, count_part, count_part, count_part]
theorem cnt_le (k : Cl) : cntK k ≤ 256 := by
  have := List.countP_le_length (p := has k) (l := List.range 256)
  rw [List.length_range] at this
  exact this
theorem pop_le (x : BitVec 64) : pop x ≤ 64 := by
  have := List.countP_le_length (p := fun j => x.getLsbD j) (l := List.range 64)
  rw [List.length_range] at this
  exact this
theorem cnt_mono {k l : Cl} (h : ∀ c, has k c = true → has l c = true) : cntK k ≤ cntK l := List.countP_mono_left fun c _ hc => h c hc
theorem cnt_all {k : Cl} (h : ∀ c, has k c = true) : cntK k = 256 := by
  unfold cntK
  rw [List.countP_eq_length.2 (fun c _ => h c), List.length_range]
theorem count_span (a b : Nat) : ∀ n, (List.range n).countP (fun c => decide (a ≤ c) && decide (c ≤ b)) = min n (b + 1) - a
  | 0 => by simp
  | n + 1 => by
    rw [List.range_succ, List.countP_append, count_span a b n, List.countP_cons, List.countP_nil]
    by_cases h1 : a ≤ n <;> by_cases h2 : n ≤ b <;> simp [h1, h2] <;> omega
theorem cnt_span (a b : Nat) (hb : b < 256) : cntK (spanK a b) = b + 1 - a := by
  have e : has (spanK a b) = fun c => decide (a ≤ c) && decide (c ≤ b) := funext fun c => has_span a b c
  unfold cntK
  rw [e, count_span]
  omega

/-- The operations on words. -/
theorem ofInt_nat (x : BitVec 64) : BitVec.ofInt 64 (x.toNat : Int) = x := by
  rw [BitVec.ofInt_natCast, BitVec.ofNat_toNat, BitVec.setWidth_eq]
theorem bv_lt (x : BitVec 64) : (x.toNat : Int) < 18446744073709551616 := by have := x.isLt; omega
theorem or_wd (x y : BitVec 64) : bits .or .u64 (x.toNat : Int) (y.toNat : Int) = ((x ||| y).toNat : Int) := by
  show IntKind.u64.wrap ((BitVec.ofInt 64 (x.toNat : Int) ||| BitVec.ofInt 64 (y.toNat : Int)).toNat : Int) = _
  rw [ofInt_nat, ofInt_nat, IntKind.wrap_u64]
  exact Int.emod_eq_of_lt (by omega) (bv_lt _)
theorem and_wd (x y : BitVec 64) : bits .and .u64 (x.toNat : Int) (y.toNat : Int) = ((x &&& y).toNat : Int) := by
  show IntKind.u64.wrap ((BitVec.ofInt 64 (x.toNat : Int) &&& BitVec.ofInt 64 (y.toNat : Int)).toNat : Int) = _
  rw [ofInt_nat, ofInt_nat, IntKind.wrap_u64]
  exact Int.emod_eq_of_lt (by omega) (bv_lt _)
theorem andNot_wd (x y : BitVec 64) : bits .andNot .u64 (x.toNat : Int) (y.toNat : Int) = ((x &&& ~~~ y).toNat : Int) := by
  show IntKind.u64.wrap ((BitVec.ofInt 64 (x.toNat : Int) &&& ~~~ BitVec.ofInt 64 (y.toNat : Int)).toNat : Int) = _
  rw [ofInt_nat, ofInt_nat, IntKind.wrap_u64]
  exact Int.emod_eq_of_lt (by omega) (bv_lt _)
end Go.Proofs.Ytolofcfegoeenaa
