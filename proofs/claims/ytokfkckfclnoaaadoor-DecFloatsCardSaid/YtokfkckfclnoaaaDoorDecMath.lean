/- A number's text and the numeral that a text begins with, as plain functions on lists of bytes. No condition; no program stands in this file. -/
import Derived.Test.YtokfkckfclnoaaaDoorHexWholeMath
import Derived.Lib.ItoaLen
import Derived.Lib.SlTrimSet
namespace Go.Proofs.YtokfkckfclnoaaaDoor
open Go.RowKit Go.Lib

/-- Figures filled up with noughts ahead. -/
def pad (m : Nat) (l : List UInt8) : List UInt8 := List.replicate (m - l.length) 48 ++ l
/-- The k lowest figures of a number. -/
def frac : Nat → Nat → List UInt8
  | 0, _ => []
  | k + 1, r => frac k (r / 10) ++ [UInt8.ofNat (48 + r % 10)]
theorem frac_length : ∀ (k r : Nat), (frac k r).length = k
  | 0, _ => rfl
  | k + 1, r => by rw [frac, List.length_append, frac_length k]; rfl
theorem pad_snoc (m : Nat) (l : List UInt8) (c : UInt8) : pad (m + 1) (l ++ [c]) = pad m l ++ [c] := by
  unfold pad
  rw [List.length_append, List.length_singleton, ← List.append_assoc]
  congr 3
  omega
theorem pad_one (m : Nat) (d : UInt8) : pad (m + 2) [d] = pad (m + 1) [48] ++ [d] := by
  unfold pad
  rw [List.length_singleton, show m + 2 - 1 = m + 1 by omega, List.length_singleton, show m + 1 - 1 = m by omega, List.replicate_succ']
theorem decDigits_small {u : Nat} (h : u < 10) : decDigits u = [UInt8.ofNat (48 + u)] := by rw [decDigits, dif_pos h]
theorem decDigits_great {u : Nat} (h : ¬ u < 10) : decDigits u = decDigits (u / 10) ++ [UInt8.ofNat (48 + u % 10)] := by rw [decDigits, dif_neg h]
theorem pad_step (k u : Nat) : pad (k + 2) (decDigits u) = pad (k + 1) (decDigits (u / 10)) ++ [UInt8.ofNat (48 + u % 10)] := by
  by_cases h : u < 10
  · rw [decDigits_small h, Nat.div_eq_of_lt h, Nat.mod_eq_of_lt h, decDigits_small (by omega)]
    exact pad_one k _
  · rw [decDigits_great h]
    exact pad_snoc (k + 1) _ _
theorem pad_digits : ∀ (k u : Nat), pad (k + 1) (decDigits u) = decDigits (u / 10 ^ k) ++ frac k (u % 10 ^ k) := by
  intro k
  induction k with
  | zero =>
    intro u
    have h : 0 < (decDigits u).length := by rw [decDigits_length]; exact nDigits_pos u
    unfold pad
    rw [show 0 + 1 - (decDigits u).length = 0 by omega, Nat.pow_zero, Nat.div_one]
    simp [frac]
  | succ k ih =>
    intro u
    rw [pad_step, ih, frac, Nat.div_div_eq_div_mul, Nat.pow_succ, Nat.mul_comm 10]
    have h1 : u % (10 ^ k * 10) % 10 = u % 10 := Nat.mod_mul_left_mod u (10 ^ k) 10
    have h2 : u % (10 ^ k * 10) / 10 = u / 10 % 10 ^ k := by rw [Nat.mul_comm]; exact Nat.mod_mul_right_div_self u 10 (10 ^ k)
    rw [h1, h2, List.append_assoc]

/-- Without the noughts at its end. -/
def stripZ (l : List UInt8) : List UInt8 := trimRightS l [48]
/-- A number's text. -/
def textU (u : Nat) : List UInt8 := decDigits (u / 1000000) ++ (if stripZ (frac 6 (u % 1000000)) = [] then [] else 46 :: stripZ (frac 6 (u % 1000000)))
def textL (n : Int) : List UInt8 := if n < 0 then 45 :: textU n.natAbs else textU n.natAbs

theorem stripZ_fill (l : List UInt8) : ∃ k, l = stripZ l ++ List.replicate k 48 ∧ k ≤ l.length := by
  unfold stripZ trimRightS
  have h : ∀ r : List UInt8, ∃ k, r = List.replicate k 48 ++ r.dropWhile ([(48 : UInt8)].contains ·) ∧ k ≤ r.length := by
    intro r
    induction r with
    | nil => exact ⟨0, rfl, Nat.le_refl _⟩
    | cons c r ih =>
      by_cases hc : c = 48
      · obtain ⟨k, hk, hl⟩ := ih
        refine ⟨k + 1, ?_, by simpa using hl⟩
        have : (c :: r).dropWhile ([(48 : UInt8)].contains ·) = r.dropWhile ([(48 : UInt8)].contains ·) := by rw [List.dropWhile_cons_of_pos]; rw [hc]; decide
        rw [this, List.replicate_succ, List.cons_append, ← hk, hc]
      · refine ⟨0, ?_, Nat.zero_le _⟩
        have : (c :: r).dropWhile ([(48 : UInt8)].contains ·) = c :: r := by
          rw [List.dropWhile_cons_of_neg]
          rw [contains_one]
          simpa using hc
        rw [this]; rfl
  obtain ⟨k, hk, hl⟩ := h l.reverse
  refine ⟨k, ?_, by simpa using hl⟩
  have := congrArg List.reverse hk
  rw [List.reverse_reverse, List.reverse_append, List.reverse_replicate] at this
  exact this

/-- What a text begins with: blanks, a sign, figures, a point and figures behind it. -/
def atSign (l : List UInt8) : List UInt8 := trimLeftS l [32, 9]
def isSgn (c : UInt8) : Bool := c == 45 || c == 43
def signL (l : List UInt8) : List UInt8 := match l with
  | c :: _ => if isSgn c then [c] else []
  | [] => []
def unsign (l : List UInt8) : List UInt8 := l.drop (signL l).length
def rest1 (l : List UInt8) : List UInt8 := l.drop (figs l).length
/-- Behind the point: its figures, and what is behind these; without a point nothing. -/
def pointL (l : List UInt8) : List UInt8 × List UInt8 := if l.head? = some 46 then (figs l.tail, rest1 l.tail) else ([], l)
def zeros6 : List UInt8 := [48, 48, 48, 48, 48, 48]
def wholeP (l : List UInt8) : List UInt8 := figs (unsign (atSign l))
def pointP (l : List UInt8) : List UInt8 × List UInt8 := pointL (rest1 (unsign (atSign l)))
def usedP (l : List UInt8) : Int := (l.length : Int) - ((pointP l).2.length : Int)
/-- The numeral's number, a million times it, or that it goes too far. -/
def numD (below : Bool) (v : Nat) : Int × Int :=
  if below then (if v ≤ 9223372036854775808 then (-(v : Int), 0) else (0, 3))
  else (if v ≤ 9223372036854775807 then ((v : Int), 0) else (0, 3))
def numP (l : List UInt8) : Int × Int := numD (signL (atSign l) == [45]) (natOf (wholeP l ++ ((pointP l).1 ++ zeros6).take 6))
def readD (l : List UInt8) : Int × Int × Int :=
  if wholeP l ++ (pointP l).1 = [] then (0, 0, 2)
  else if (numP l).2 = 0 then ((numP l).1, usedP l, 0) else (0, 0, (numP l).2)

theorem figL_isFig (c : UInt8) : [48, 49, 50, 51, 52, 53, 54, 55, 56, 57].contains c = isFig c := by
  have h : ∀ m : Fin 256, [48, 49, 50, 51, 52, 53, 54, 55, 56, 57].contains (UInt8.ofNat m.val) = isFig (UInt8.ofNat m.val) := by decide +kernel
  have := h ⟨c.toNat, c.toNat_lt⟩
  simpa using this
theorem trim_figs (l : List UInt8) : trimLeftS l [48, 49, 50, 51, 52, 53, 54, 55, 56, 57] = rest1 l := by
  unfold trimLeftS rest1 figs
  have : (fun x => [48, 49, 50, 51, 52, 53, 54, 55, 56, 57].contains x) = isFig := funext figL_isFig
  rw [this]
  induction l with
  | nil => rfl
  | cons c l ih =>
    cases h : isFig c
    · simp [List.dropWhile, List.takeWhile, h]
    · simp [List.dropWhile, List.takeWhile, h, ih]
theorem figs_rest1 (l : List UInt8) : figs l ++ rest1 l = l := by
  unfold rest1
  conv => lhs; lhs; rw [figs_prefix l]
  exact List.take_append_drop _ _
theorem rest1_length (l : List UInt8) : (rest1 l).length = l.length - (figs l).length := by unfold rest1; rw [List.length_drop]
end Go.Proofs.YtokfkckfclnoaaaDoor
