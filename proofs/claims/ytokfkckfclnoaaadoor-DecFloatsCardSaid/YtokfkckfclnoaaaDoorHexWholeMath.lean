/- The number at the beginning of a text, as a plain function on lists of bytes. No condition; no program stands in this file. -/
import Derived.Test.YtokfkckfclnoaaaDoorHexMath
namespace Go.Proofs.YtokfkckfclnoaaaDoor
open Go.RowKit Go.Lib

def figV (c : UInt8) : Nat := c.toNat - 48
def natOf (l : List UInt8) : Nat := l.foldl (fun a c => 10 * a + figV c) 0
theorem natOf_snoc (l : List UInt8) (c : UInt8) : natOf (l ++ [c]) = 10 * natOf l + figV c := by simp [natOf]
theorem natOf_le_foldl (b : List UInt8) : ∀ x : Nat, x ≤ b.foldl (fun a c => 10 * a + figV c) x := by
  induction b with
  | nil => intro x; exact Nat.le_refl _
  | cons c b ih => intro x; exact Nat.le_trans (by omega) (ih (10 * x + figV c))
theorem natOf_mono (a b : List UInt8) : natOf a ≤ natOf (a ++ b) := by
  unfold natOf; rw [List.foldl_append]; exact natOf_le_foldl b _

/-- The figures that a text begins with. -/
def figs (l : List UInt8) : List UInt8 := l.takeWhile isFig
theorem figs_stop (a r : List UInt8) (c : UInt8) (ha : a.all isFig = true) (hc : isFig c = false) : figs (a ++ c :: r) = a := by
  unfold figs
  induction a with
  | nil => simp [hc]
  | cons d a ih =>
    simp only [List.all_cons, Bool.and_eq_true] at ha
    simp [ha.1, ih ha.2]
theorem figs_all (a : List UInt8) (ha : a.all isFig = true) : figs a = a := by
  unfold figs
  induction a with
  | nil => rfl
  | cons d a ih =>
    simp only [List.all_cons, Bool.and_eq_true] at ha
    simp [List.takeWhile, ha.1, ih ha.2]
theorem figs_isFig (l : List UInt8) : (figs l).all isFig = true := by
  unfold figs
  induction l with
  | nil => rfl
  | cons d a ih =>
    cases h : isFig d
    · simp [List.takeWhile, h]
    · simp only [List.takeWhile, h, List.all_cons, Bool.true_and]; exact ih
theorem figs_prefix (l : List UInt8) : figs l = l.take (figs l).length := by
  unfold figs
  induction l with
  | nil => rfl
  | cons d a ih =>
    cases h : isFig d
    · simp [List.takeWhile, h]
    · simp only [List.takeWhile, h, List.length_cons, List.take_succ_cons, List.cons.injEq, true_and]; exact ih
theorem figs_length_le (l : List UInt8) : (figs l).length ≤ l.length := by
  have := congrArg List.length (figs_prefix l)
  rw [List.length_take] at this; omega
/-- Where a text's figures end. -/
theorem figs_at (s : ByteArray) (k : Nat) (hk : k < s.size) (ha : (s.data.toList.take k).all isFig = true) (hc : isFig s[k] = false) : (figs s.data.toList).length = k := by
  have h1 : s.data.toList = s.data.toList.take k ++ s[k] :: s.data.toList.drop (k + 1) := by
    conv => lhs; rw [← List.take_append_drop k s.data.toList]
    rw [List.drop_eq_getElem_cons (by rw [Array.length_toList]; exact hk)]; rfl
  rw [h1, figs_stop _ _ _ ha hc, List.length_take, Array.length_toList]
  exact Nat.min_eq_left (Nat.le_of_lt hk)
theorem figs_whole (s : ByteArray) (ha : s.data.toList.all isFig = true) : (figs s.data.toList).length = s.size := by
  rw [figs_all _ ha, Array.length_toList]; rfl

/-- Where the number begins: behind a sign. -/
def isNeg (l : List UInt8) : Bool := l.head? == some 45
def afterSign (l : List UInt8) : List UInt8 := if isNeg l then l.tail else l
/-- What a text's beginning tells: the number, how many bytes it takes, and why not. -/
def wholeD (l : List UInt8) : Int × Int × Int :=
  if figs (afterSign l) = [] then (0, 0, 2)
  else if isNeg l then
    (if natOf (figs (afterSign l)) ≤ 9223372036854775808 then (-(natOf (figs (afterSign l)) : Int), (figs (afterSign l)).length + 1, 0) else (0, 0, 3))
  else
    (if natOf (figs (afterSign l)) ≤ 9223372036854775807 then ((natOf (figs (afterSign l)) : Int), (figs (afterSign l)).length, 0) else (0, 0, 3))
end Go.Proofs.YtokfkckfclnoaaaDoor
