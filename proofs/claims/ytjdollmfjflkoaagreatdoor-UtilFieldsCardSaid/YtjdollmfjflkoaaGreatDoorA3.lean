/- Packed texts: HexMath, HexWholeMath, DecMath, DecParse, ValMath, DecKept, DecFind, BaExt. What each of them proves stands above its theorems; the conditions stand in these. -/
import Derived.Deep.RegionLaw
import Derived.Defers
import Derived.Laws.Pointers
import Derived.Lib.ItoaLen
import Derived.Lib.SlTrimSet
import Derived.Recover
import Derived.Shelf.Abstract
import Derived.Shelf.Strings.SlTrimAscii
import Derived.Test.YtjdollmfjflkoaaGreatDoorProg
import Derived.Test.YtjdollmfjflkoaaGreatDoorShelf
import Derived.Test.YtjdollmfjflkoaaGreatDoorA0
namespace Go.Proofs.YtjdollmfjflkoaaGreatDoor
open Go.RowKit Go.Lib

def hexDg (n : Nat) : UInt8 := if n < 10 then UInt8.ofNat (48 + n) else UInt8.ofNat (87 + n)
def hexL : List UInt8 → List UInt8
  | [] => []
  | c :: l => hexDg (c.toNat / 16) :: hexDg (c.toNat % 16) :: hexL l
theorem hexL_append (a b : List UInt8) : hexL (a ++ b) = hexL a ++ hexL b := by
  induction a with
  | nil => rfl
  | cons c a ih => simp [hexL, ih]
theorem hexL_length (l : List UInt8) : (hexL l).length = 2 * l.length := by
  induction l with
  | nil => rfl
  | cons c l ih => simp [hexL, ih]; omega
/-- The whole text: x, then the digits. -/
def hexT (l : List UInt8) : List UInt8 := 120 :: hexL l
theorem hexT_length (l : List UInt8) : (hexT l).length = 1 + 2 * l.length := by simp [hexT, hexL_length]; omega
theorem take_snoc (s : ByteArray) (k : Nat) (h : k < s.size) : s.data.toList.take (k + 1) = s.data.toList.take k ++ [s[k]] := by
  rw [List.take_succ_eq_append_getElem (by simpa using h)]; rfl
theorem hexT_snoc (s : ByteArray) (k : Nat) (h : k < s.size) :
    hexT (s.data.toList.take (k + 1)) = hexT (s.data.toList.take k) ++ [hexDg (s[k].toNat / 16), hexDg (s[k].toNat % 16)] := by
  rw [take_snoc s k h]
  simp [hexT, hexL_append, hexL]
theorem bc_append (a b : List UInt8) : byteCells (a ++ b) = byteCells a ++ byteCells b := by simp [byteCells]
theorem and15_fin : ∀ n : Fin 256, bits BinOp.and IntKind.u8 (n.val : Int) 15 = (n.val : Int) % 16 := by decide +kernel
theorem and15 (c : UInt8) : bits BinOp.and IntKind.u8 (c.toNat : Int) 15 = (c.toNat : Int) % 16 := and15_fin ⟨c.toNat, c.toNat_lt⟩
/-- The sixteen digits, each at its number's place. -/
theorem dig_fin : ∀ n : Fin 16, (⟨#[48, 49, 50, 51, 52, 53, 54, 55, 56, 57, 97, 98, 99, 100, 101, 102]⟩ : ByteArray)[n.val]'(n.isLt) = hexDg n.val := by decide +kernel
theorem dig_at (x : Int) (n : Nat) (hx : x = (n : Int)) (hn : n < 16) (h : x.toNat < (⟨#[48, 49, 50, 51, 52, 53, 54, 55, 56, 57, 97, 98, 99, 100, 101, 102]⟩ : ByteArray).size) :
    (⟨#[48, 49, 50, 51, 52, 53, 54, 55, 56, 57, 97, 98, 99, 100, 101, 102]⟩ : ByteArray)[x.toNat] = hexDg n := by
  subst hx
  exact dig_fin ⟨n, hn⟩
/-- Two cells of a new row. -/
theorem cells_two (w : World) (a b : UInt8) (t : TypeId) : ∀ j u, (byteCells [a, b])[j]? = some u → (w.alloc (.cells #[.int .u8 (a.toNat : Int), .int .u8 (b.toNat : Int)] t)).cell? ((⟨w.heap.size, 0, none⟩ : Addr).add j) = some u := by
  intro j u hj
  match j, hj with
  | 0, hj => simp [byteCells] at hj; subst hj; simp [Addr.add]
  | 1, hj => simp [byteCells] at hj; subst hj; simp [Addr.add]
theorem bc_one (l : List UInt8) : ∀ u ∈ byteCells l, u.oneCell' = true := by
  intro u hu
  simp only [byteCells, List.mem_map] at hu
  obtain ⟨b, _, rfl⟩ := hu
  rfl
end Go.Proofs.YtjdollmfjflkoaaGreatDoor
namespace Go.Proofs.YtjdollmfjflkoaaGreatDoor
open Go.RowKit Go.Lib

def figV (c : UInt8) : Nat := c.toNat - 48
def natOf (l : List UInt8) : Nat := l.foldl (fun a c => 10 * a + figV c) 0
theorem natOf_snoc (l : List UInt8) (c : UInt8) : natOf (l ++ [c]) = 10 * natOf l + figV c := by simp [natOf]
theorem natOf_le_foldl (b : List UInt8) : ∀ x : Nat, x ≤ b.foldl (fun a c => 10 * a + figV c) x := by
  induction b with
  | nil => intro x; exact Nat.le_refl _
  | cons c b ih => intro x; exact Nat.le_trans (by omega) (ih (10 * x + figV c))
theorem natOf_mono (a b : List UInt8) : natOf a ≤ natOf (a ++ b) := by
  unfold natOf; rw [List.foldl_append]; exact natOf_le_foldl b _

/-- The figures that a text begins with. -/
def figs (l : List UInt8) : List UInt8 := l.takeWhile isFig
theorem figs_stop (a r : List UInt8) (c : UInt8) (ha : a.all isFig = true) (hc : isFig c = false) : figs (a ++ c :: r) = a := by
  unfold figs
  induction a with
  | nil => simp [hc]
  | cons d a ih =>
    simp only [List.all_cons, Bool.and_eq_true] at ha
    simp [ha.1, ih ha.2]
theorem figs_all (a : List UInt8) (ha : a.all isFig = true) : figs a = a := by
  unfold figs
  induction a with
  | nil => rfl
  | cons d a ih =>
    simp only [List.all_cons, Bool.and_eq_true] at ha
    simp [List.takeWhile, ha.1, ih ha.2]
theorem figs_isFig (l : List UInt8) : (figs l).all isFig = true := by
  unfold figs
  induction l with
  | nil => rfl
  | cons d a ih =>
    cases h : isFig d
    · simp [List.takeWhile, h]
    · simp only [List.takeWhile, h, List.all_cons, Bool.true_and]; exact ih
theorem figs_prefix (l : List UInt8) : figs l = l.take (figs l).length := by
  unfold figs
  induction l with
  | nil => rfl
  | cons d a ih =>
    cases h : isFig d
    · simp [List.takeWhile, h]
    · simp only [List.takeWhile, h, List.length_cons, List.take_succ_cons, List.cons.injEq, true_and]; exact ih
theorem figs_length_le (l : List UInt8) : (figs l).length ≤ l.length := by
  have := congrArg List.length (figs_prefix l)
  rw [List.length_take] at this; omega
/-- Where a text's figures end. -/
theorem figs_at (s : ByteArray) (k : Nat) (hk : k < s.size) (ha : (s.data.toList.take k).all isFig = true) (hc : isFig s[k] = false) : (figs s.data.toList).length = k := by
  have h1 : s.data.toList = s.data.toList.take k ++ s[k] :: s.data.toList.drop (k + 1) := by
    conv => lhs; rw [← List.take_append_drop k s.data.toList]
    rw [List.drop_eq_getElem_cons (by rw [Array.length_toList]; exact hk)]; rfl
  rw [h1, figs_stop _ _ _ ha hc, List.length_take, Array.length_toList]
  exact Nat.min_eq_left (Nat.le_of_lt hk)
theorem figs_whole (s : ByteArray) (ha : s.data.toList.all isFig = true) : (figs s.data.toList).length = s.size := by
  rw [figs_all _ ha, Array.length_toList]; rfl

/-- Where the number begins: behind a sign. -/
def isNeg (l : List UInt8) : Bool := l.head? == some 45
def afterSign (l : List UInt8) : List UInt8 := if isNeg l then l.tail else l
/-- What a text's beginning tells: the number, how many bytes it takes, and why not. -/
def wholeD (l : List UInt8) : Int × Int × Int :=
  if figs (afterSign l) = [] then (0, 0, 2)
  else if isNeg l then
    (if natOf (figs (afterSign l)) ≤ 9223372036854775808 then (-(natOf (figs (afterSign l)) : Int), (figs (afterSign l)).length + 1, 0) else (0, 0, 3))
  else
    (if natOf (figs (afterSign l)) ≤ 9223372036854775807 then ((natOf (figs (afterSign l)) : Int), (figs (afterSign l)).length, 0) else (0, 0, 3))
end Go.Proofs.YtjdollmfjflkoaaGreatDoor
namespace Go.Proofs.YtjdollmfjflkoaaGreatDoor
open Go.RowKit Go.Lib

/-- Figures filled up with noughts ahead. -/
def pad (m : Nat) (l : List UInt8) : List UInt8 := List.replicate (m - l.length) 48 ++ l
/-- The k lowest figures of a number. -/
def frac : Nat → Nat → List UInt8
  | 0, _ => []
  | k + 1, r => frac k (r / 10) ++ [UInt8.ofNat (48 + r % 10)]
theorem frac_length : ∀ (k r : Nat), (frac k r).length = k
  | 0, _ => rfl
  | k + 1, r => by rw [frac, List.length_append, frac_length k]; rfl
theorem pad_snoc (m : Nat) (l : List UInt8) (c : UInt8) : pad (m + 1) (l ++ [c]) = pad m l ++ [c] := by
  unfold pad
  rw [List.length_append, List.length_singleton, ← List.append_assoc]
  congr 3
  omega
theorem pad_one (m : Nat) (d : UInt8) : pad (m + 2) [d] = pad (m + 1) [48] ++ [d] := by
  unfold pad
  rw [List.length_singleton, show m + 2 - 1 = m + 1 by omega, List.length_singleton, show m + 1 - 1 = m by omega, List.replicate_succ']
theorem decDigits_small {u : Nat} (h : u < 10) : decDigits u = [UInt8.ofNat (48 + u)] := by rw [decDigits, dif_pos h]
theorem decDigits_great {u : Nat} (h : ¬ u < 10) : decDigits u = decDigits (u / 10) ++ [UInt8.ofNat (48 + u % 10)] := by rw [decDigits, dif_neg h]
theorem pad_step (k u : Nat) : pad (k + 2) (decDigits u) = pad (k + 1) (decDigits (u / 10)) ++ [UInt8.ofNat (48 + u % 10)] := by
  by_cases h : u < 10
  · rw [decDigits_small h, Nat.div_eq_of_lt h, Nat.mod_eq_of_lt h, decDigits_small (by omega)]
    exact pad_one k _
  · rw [decDigits_great h]
    exact pad_snoc (k + 1) _ _
theorem pad_digits : ∀ (k u : Nat), pad (k + 1) (decDigits u) = decDigits (u / 10 ^ k) ++ frac k (u % 10 ^ k) := by
  intro k
  induction k with
  | zero =>
    intro u
    have h : 0 < (decDigits u).length := by rw [decDigits_length]; exact nDigits_pos u
    unfold pad
    rw [show 0 + 1 - (decDigits u).length = 0 by omega, Nat.pow_zero, Nat.div_one]
    simp [frac]
  | succ k ih =>
    intro u
    rw [pad_step, ih, frac, Nat.div_div_eq_div_mul, Nat.pow_succ, Nat.mul_comm 10]
    have h1 : u % (10 ^ k * 10) % 10 = u % 10 := Nat.mod_mul_left_mod u (10 ^ k) 10
    have h2 : u % (10 ^ k * 10) / 10 = u / 10 % 10 ^ k := by rw [Nat.mul_comm]; exact Nat.mod_mul_right_div_self u 10 (10 ^ k)
    rw [h1, h2, List.append_assoc]

/-- Without the noughts at its end. -/
def stripZ (l : List UInt8) : List UInt8 := trimRightS l [48]
/-- A number's text. -/
def textU (u : Nat) : List UInt8 := decDigits (u / 1000000) ++ (if stripZ (frac 6 (u % 1000000)) = [] then [] else 46 :: stripZ (frac 6 (u % 1000000)))
def textL (n : Int) : List UInt8 := if n < 0 then 45 :: textU n.natAbs else textU n.natAbs

theorem stripZ_fill (l : List UInt8) : ∃ k, l = stripZ l ++ List.replicate k 48 ∧ k ≤ l.length := by
  unfold stripZ trimRightS
  have h : ∀ r : List UInt8, ∃ k, r = List.replicate k 48 ++ r.dropWhile ([(48 : UInt8)].contains ·) ∧ k ≤ r.length := by
    intro r
    induction r with
    | nil => exact ⟨0, rfl, Nat.le_refl _⟩
    | cons c r ih =>
      by_cases hc : c = 48
      · obtain ⟨k, hk, hl⟩ := ih
        refine ⟨k + 1, ?_, by simpa using hl⟩
        have : (c :: r).dropWhile ([(48 : UInt8)].contains ·) = r.dropWhile ([(48 : UInt8)].contains ·) := by rw [List.dropWhile_cons_of_pos]; rw [hc]; decide
        rw [this, List.replicate_succ, List.cons_append, ← hk, hc]
      · refine ⟨0, ?_, Nat.zero_le _⟩
        have : (c :: r).dropWhile ([(48 : UInt8)].contains ·) = c :: r := by
          rw [List.dropWhile_cons_of_neg]
          rw [contains_one]
          simpa using hc
        rw [this]; rfl
  obtain ⟨k, hk, hl⟩ := h l.reverse
  refine ⟨k, ?_, by simpa using hl⟩
  have := congrArg List.reverse hk
  rw [List.reverse_reverse, List.reverse_append, List.reverse_replicate] at this
  exact this

/-- What a text begins with: blanks, a sign, figures, a point and figures behind it. -/
def atSign (l : List UInt8) : List UInt8 := trimLeftS l [32, 9]
def isSgn (c : UInt8) : Bool := c == 45 || c == 43
def signL (l : List UInt8) : List UInt8 := match l with
  | c :: _ => if isSgn c then [c] else []
  | [] => []
def unsign (l : List UInt8) : List UInt8 := l.drop (signL l).length
def rest1 (l : List UInt8) : List UInt8 := l.drop (figs l).length
/-- Behind the point: its figures, and what is behind these; without a point nothing. -/
def pointL (l : List UInt8) : List UInt8 × List UInt8 := if l.head? = some 46 then (figs l.tail, rest1 l.tail) else ([], l)
def zeros6 : List UInt8 := [48, 48, 48, 48, 48, 48]
def wholeP (l : List UInt8) : List UInt8 := figs (unsign (atSign l))
def pointP (l : List UInt8) : List UInt8 × List UInt8 := pointL (rest1 (unsign (atSign l)))
def usedP (l : List UInt8) : Int := (l.length : Int) - ((pointP l).2.length : Int)
/-- The numeral's number, a million times it, or that it goes too far. -/
def numD (below : Bool) (v : Nat) : Int × Int :=
  if below then (if v ≤ 9223372036854775808 then (-(v : Int), 0) else (0, 3))
  else (if v ≤ 9223372036854775807 then ((v : Int), 0) else (0, 3))
def numP (l : List UInt8) : Int × Int := numD (signL (atSign l) == [45]) (natOf (wholeP l ++ ((pointP l).1 ++ zeros6).take 6))
def readD (l : List UInt8) : Int × Int × Int :=
  if wholeP l ++ (pointP l).1 = [] then (0, 0, 2)
  else if (numP l).2 = 0 then ((numP l).1, usedP l, 0) else (0, 0, (numP l).2)

theorem figL_isFig (c : UInt8) : [48, 49, 50, 51, 52, 53, 54, 55, 56, 57].contains c = isFig c := by
  have h : ∀ m : Fin 256, [48, 49, 50, 51, 52, 53, 54, 55, 56, 57].contains (UInt8.ofNat m.val) = isFig (UInt8.ofNat m.val) := by decide +kernel
  have := h ⟨c.toNat, c.toNat_lt⟩
  simpa using this
theorem trim_figs (l : List UInt8) : trimLeftS l [48, 49, 50, 51, 52, 53, 54, 55, 56, 57] = rest1 l := by
  unfold trimLeftS rest1 figs
  have : (fun x => [48, 49, 50, 51, 52, 53, 54, 55, 56, 57].contains x) = isFig := funext figL_isFig
  rw [this]
  induction l with
  | nil => rfl
  | cons c l ih =>
    cases h : isFig c
    · simp [List.dropWhile, List.takeWhile, h]
    · simp [List.dropWhile, List.takeWhile, h, ih]
theorem rest1_length (l : List UInt8) : (rest1 l).length = l.length - (figs l).length := by unfold rest1; rw [List.length_drop]
end Go.Proofs.YtjdollmfjflkoaaGreatDoor
namespace Go.Proofs.YtjdollmfjflkoaaGreatDoor
open Go.RowKit Go.Lib

theorem natOf_frac : ∀ (k : Nat) (x : List UInt8) (r : Nat), r < 10 ^ k → natOf (x ++ frac k r) = natOf x * 10 ^ k + r := by
  intro k
  induction k with
  | zero => intro x r h; simp at h; simp [frac, h]
  | succ k ih =>
    intro x r h
    have h1 : r / 10 < 10 ^ k := by rw [Nat.div_lt_iff_lt_mul (by omega)]; rw [Nat.pow_succ] at h; exact h
    have h2 : figV (UInt8.ofNat (48 + r % 10)) = r % 10 := by
      have : ∀ m : Fin 10, figV (UInt8.ofNat (48 + m.val)) = m.val := by decide +kernel
      exact this ⟨r % 10, by omega⟩
    rw [frac, ← List.append_assoc, natOf_snoc, ih x (r / 10) h1, h2, Nat.pow_succ, ← Nat.mul_assoc]
    omega
theorem dig_isFig (d : Nat) (h : d < 10) : isFig (UInt8.ofNat (48 + d)) = true := by
  have : ∀ m : Fin 10, isFig (UInt8.ofNat (48 + m.val)) = true := by decide +kernel
  exact this ⟨d, h⟩
theorem dec_figs (u : Nat) : (decDigits u).all isFig = true ∧ natOf (decDigits u) = u := by
  induction u using Nat.strongRecOn with
  | _ u ih =>
    by_cases h : u < 10
    · rw [decDigits_small h]
      refine ⟨by rw [List.all_cons, List.all_nil, dig_isFig u h]; rfl, ?_⟩
      have := natOf_frac 1 [] u (by omega)
      simpa [frac, natOf, Nat.mod_eq_of_lt h] using this
    · rw [decDigits_great h]
      obtain ⟨h1, h2⟩ := ih (u / 10) (by omega)
      refine ⟨by rw [List.all_append, h1, List.all_cons, List.all_nil, dig_isFig _ (by omega)]; rfl, ?_⟩
      have := natOf_frac 1 (decDigits (u / 10)) (u % 10) (by omega)
      rw [h2] at this
      simp only [frac, List.nil_append, Nat.mod_mod] at this
      rw [this]; omega
theorem dec_ne (u : Nat) : decDigits u ≠ [] := by
  intro h
  have h1 := congrArg List.length h
  rw [decDigits_length, List.length_nil] at h1
  have h2 := nDigits_pos u
  omega

end Go.Proofs.YtjdollmfjflkoaaGreatDoor
namespace Go.Proofs.YtjdollmfjflkoaaGreatDoor
open Go.RowKit Go.Lib

/-- The number that a text begins with. -/
def numberD (l : List UInt8) : Int × Int := if (readD l).2.2 = 2 then (0, 0) else ((readD l).1, (readD l).2.2)
theorem rest1_leV (l : List UInt8) : (rest1 l).length ≤ l.length := by rw [rest1_length]; omega
theorem pointP2_le (l : List UInt8) : (pointP l).2.length ≤ l.length := by
  have a1 : (atSign l).length ≤ l.length := by
    unfold atSign trimLeftS
    exact (List.dropWhile_sublist _).length_le
  have a2 : (unsign (atSign l)).length ≤ (atSign l).length := by unfold unsign; rw [List.length_drop]; omega
  have a3 := rest1_leV (unsign (atSign l))
  unfold pointP pointL
  split
  · have h1 := rest1_leV (rest1 (unsign (atSign l))).tail
    rw [List.length_tail] at h1
    show (rest1 (rest1 (unsign (atSign l))).tail).length ≤ _
    omega
  · show (rest1 (unsign (atSign l))).length ≤ _
    omega
/-- What a reading answers: a number of 64 bits and as many bytes as there are, at most; or nothing, and why. -/
theorem readD_cases (l : List UInt8) :
    ((readD l).2.2 = 0 ∧ (-9223372036854775808 ≤ (readD l).1 ∧ (readD l).1 ≤ 9223372036854775807) ∧ 0 ≤ (readD l).2.1 ∧ (readD l).2.1 ≤ (l.length : Int)) ∨
    (((readD l).2.2 = 2 ∨ (readD l).2.2 = 3) ∧ (readD l).1 = 0 ∧ (readD l).2.1 = 0) := by
  unfold readD
  split
  · right; exact ⟨.inl rfl, rfl, rfl⟩
  · split
    · left
      rename_i h
      have hu := pointP2_le l
      refine ⟨rfl, ?_, by show 0 ≤ usedP l; unfold usedP; omega, by show usedP l ≤ _; unfold usedP; omega⟩
      show -9223372036854775808 ≤ (numP l).1 ∧ (numP l).1 ≤ 9223372036854775807
      unfold numP numD at *
      split
      · split
        · exact ⟨by simp only; omega, by simp only; omega⟩
        · exact ⟨by simp only; omega, by simp only; omega⟩
      · split
        · exact ⟨by simp only; omega, by simp only; omega⟩
        · exact ⟨by simp only; omega, by simp only; omega⟩
    · right
      rename_i h
      refine ⟨?_, rfl, rfl⟩
      show (numP l).2 = 2 ∨ (numP l).2 = 3
      unfold numP numD at *
      split
      · split
        · rename_i h1 h2; rw [if_pos h1, if_pos h2] at h; exact absurd rfl h
        · right; rfl
      · split
        · rename_i h1 h2; rw [if_neg h1, if_pos h2] at h; exact absurd rfl h
        · right; rfl
theorem numberD_cases (l : List UInt8) : ((numberD l).2 = 0 ∧ (-9223372036854775808 ≤ (numberD l).1 ∧ (numberD l).1 ≤ 9223372036854775807)) ∨ ((numberD l).2 = 3 ∧ (numberD l).1 = 0) := by
  unfold numberD
  rcases readD_cases l with ⟨h0, h, _⟩ | ⟨h0 | h0, h, _⟩
  · left; rw [h0]; exact ⟨rfl, h⟩
  · left; rw [h0, if_pos rfl]; exact ⟨rfl, by omega⟩
  · right; rw [h0, if_neg (by omega)]; exact ⟨rfl, h⟩
/-! The order of texts. -/
/-! Numbers' texts look like them. -/
end Go.Proofs.YtjdollmfjflkoaaGreatDoor
namespace Go.Proofs.YtjdollmfjflkoaaGreatDoor
open Go.RowKit

theorem kept1_idle (p q : Addr) (w : World) :
    CallsD Tryz.prog 188 #[.pointer (some p), .pointer (some q)] .returning w fun e u' w' => e = .returned (.tuple #[]) ∧ u' = .returning ∧ w' = w := by
  refine callsD_of_wpS Tryz.func188 rfl fun c₀ cs hu => ?_
  apply wpS_seq
  apply wpS_region
  simp [wpOpsS, go_sem, recoverD, hu, Tryz.ntmps188, Exit.thenS]
  apply wpS_seq
  apply wpS_region
  simp [wpOpsS, go_sem, Exit.thenS]
  refine wpS_cond (t := false) (by simp [Act.eval, Array.replicate]) ?_
  simp only [Bool.false_eq_true, if_false]
  refine wpS_of_wp (wp_skip ?_)
  cases c₀
  simp_all [bodyPostS, results, Tryz.results188]

theorem assert_errno (e : Int) (w : World) : (Instr.typeAssert (.iface 35 (.int .i64 e)) 20 35 false).run Tryz.prog w = .ok (.int .i64 e) w := by kernel_rfl

theorem kept1_panics (g : Nat) (a b e : Int) (t1 t2 : TypeId) (w : World)
    (ha : w.heap[g]? = some (.cells #[.int .i64 a] t1 (0, 0))) (hb : w.heap[g + 1]? = some (.cells #[.int .i64 b] t2 (0, 0))) :
    CallsD Tryz.prog 188 #[.pointer (some ⟨g, 0, none⟩), .pointer (some ⟨g + 1, 0, none⟩)] (.panicking [{ v := .iface 35 (.int .i64 e), recovered := false }]) w fun e' u' w' =>
      e' = .returned (.tuple #[]) ∧ u' = .panicking [{ v := .iface 35 (.int .i64 e), recovered := true }] ∧ w' = ((w.setCell ⟨g, 0, none⟩ (.int .i64 0)).setCell ⟨g + 1, 0, none⟩ (.int .i64 e)).drew := by
  have hca : w.cell? ⟨g, 0, none⟩ = some (.int .i64 a) := by simp [World.cell?, ha]
  have hfa : w.frozen? ⟨g, 0, none⟩ = false := by simp [World.frozen?, ha]
  have hcb : w.cell? ⟨g + 1, 0, none⟩ = some (.int .i64 b) := by simp [World.cell?, hb]
  have hfb : w.frozen? ⟨g + 1, 0, none⟩ = false := by simp [World.frozen?, hb]
  have hta := assert_errno e
  refine callsD_of_wpS Tryz.func188 rfl fun c₀ cs hu => ?_
  apply wpS_seq
  apply wpS_region
  simp [wpOpsS, go_sem, recoverD, hu, Tryz.ntmps188, Exit.thenS]
  apply wpS_seq
  apply wpS_region
  simp [wpOpsS, go_sem, Exit.thenS]
  refine wpS_cond (t := true) (by simp [Act.eval, Array.replicate]) ?_
  simp only [if_true]
  refine wpS_of_wp ?_
  go_region_law (fail)
  all_goals
    simp [bodyPostS, results, Tryz.results188]

theorem two_new (w : World) (A B : Obj) : ((w.alloc A).alloc B).heap[w.heap.size]? = some A ∧ ((w.alloc A).alloc B).heap[w.heap.size + 1]? = some B ∧ ((w.alloc A).alloc B).heap.size = w.heap.size + 2 ∧ Below w.heap.size w ((w.alloc A).alloc B) := by
  refine ⟨?_, ?_, by simp, ((Below.refl _ w).alloc (Nat.le_refl _) _).alloc (by simp) _⟩
  · rw [Below.heap_alloc _ _ _ (by simp)]; exact heap_alloc_new _ _
  · rw [show w.heap.size + 1 = (w.alloc A).heap.size by simp]; exact heap_alloc_new _ _
theorem cell_one {w : World} {g : Nat} {v : Value} {t : TypeId} (h : w.heap[g]? = some (.cells #[v] t (0, 0))) : w.cell? ⟨g, 0, none⟩ = some v ∧ w.frozen? ⟨g, 0, none⟩ = false := by
  constructor <;> simp [World.cell?, World.frozen?, h]
theorem below_two {w W : World} (h : Below W.heap.size W w) {g : Nat} {o : Obj} (hg : W.heap[g]? = some o) (hlt : g < W.heap.size) : w.heap[g]? = some o := (h.block g hlt).trans hg

theorem kept_ok (k : FuncId) (caps : Array Value) (n : Int) (w : World) (he : ∀ args w, (callFunc k args).run Tryz.prog w = .ok (.enter k args) w)
    (h : ∀ w1, Below w.heap.size w w1 → Calls Tryz.prog k caps w1 fun e w2 => e = .returned (.int .i64 n) ∧ Below w1.heap.size w1 w2) :
    Calls Tryz.prog 143 #[.func (.func k) #[] caps] w fun e w' => e = .returned (.tuple #[.int .i64 n, .int .i64 0]) ∧ Below w.heap.size w w' := by
  have hmf : ∀ (fn : Fn) (first cap : Array Value) (w : World), (Instr.makeFunc fn first cap).run Tryz.prog w = .ok (.func fn first cap) w := fun _ _ _ _ => rfl
  go_enter_defers Tryz.func143, Tryz.ntmps143
  go_wp2_with (go_at_fn k; refine (h _ (two_new _ _ _).2.2.2).mono ?_; rintro e w2 ⟨rfl, hb2⟩; obtain ⟨T1, T2, T3, T4⟩ := two_new w (.cells #[.int .i64 0] 2) (.cells #[.int .i64 0] 35); have c1 := below_two hb2 T1 (by rw [T3]; omega); have c2 := below_two hb2 T2 (by rw [T3]; omega); obtain ⟨c3, c4⟩ := cell_one c1; obtain ⟨c5, c6⟩ := cell_one c2)
  refine leaves_cons (f := 188) (args := #[.pointer (some ⟨w.heap.size, 0, none⟩), .pointer (some ⟨w.heap.size + 1, 0, none⟩)]) (by simp) (by simp [go_sem]) ?_
  refine (kept1_idle ⟨w.heap.size, 0, none⟩ ⟨w.heap.size + 1, 0, none⟩ _).mono ?_
  rintro e u' w'' ⟨rfl, rfl, rfl⟩
  simp [Leaves, settle, results, Tryz.results143, go_sem, c3, c5]
  exact ((T4.trans (hb2.mono T4.size)).setCell (by simp) _).setCell (by simp) _
theorem kept_bad (k : FuncId) (caps : Array Value) (er : Int) (w : World) (he : ∀ args w, (callFunc k args).run Tryz.prog w = .ok (.enter k args) w)
    (h : ∀ w1, Below w.heap.size w w1 → Calls Tryz.prog k caps w1 fun e w2 => e = .panicked [{ v := .iface 35 (.int .i64 er), recovered := false }] ∧ Below w1.heap.size w1 w2) :
    Calls Tryz.prog 143 #[.func (.func k) #[] caps] w fun e w' => e = .returned (.tuple #[.int .i64 0, .int .i64 er]) ∧ Below w.heap.size w w' := by
  have hmf : ∀ (fn : Fn) (first cap : Array Value) (w : World), (Instr.makeFunc fn first cap).run Tryz.prog w = .ok (.func fn first cap) w := fun _ _ _ _ => rfl
  go_enter_defers Tryz.func143, Tryz.ntmps143
  go_wp2_with (go_at_fn k; refine (h _ (two_new _ _ _).2.2.2).mono ?_; rintro e w2 ⟨rfl, hb2⟩; obtain ⟨T1, T2, T3, T4⟩ := two_new w (.cells #[.int .i64 0] 2) (.cells #[.int .i64 0] 35); have c1 := below_two hb2 T1 (by rw [T3]; omega); have c2 := below_two hb2 T2 (by rw [T3]; omega); obtain ⟨c3, c4⟩ := cell_one c1; obtain ⟨c5, c6⟩ := cell_one c2)
  refine leaves_cons (f := 188) (args := #[.pointer (some ⟨w.heap.size, 0, none⟩), .pointer (some ⟨w.heap.size + 1, 0, none⟩)]) (by simp) (by simp [go_sem]) ?_
  refine (kept1_panics w.heap.size 0 0 er _ _ _ c1 c2).mono ?_
  rintro e u' w'' ⟨rfl, rfl, rfl⟩
  simp [Leaves, settle, results, Tryz.results143, go_sem, c3, c5]
  exact (((T4.trans (hb2.mono T4.size)).setCell (by simp) _).setCell (by simp) _).drew
/- The same of a method value: its receiver goes first. -/
theorem kept_ok1 (k : FuncId) (v : Value) (n : Int) (w : World) (he : ∀ args w, (callFunc k args).run Tryz.prog w = .ok (.enter k args) w)
    (h : ∀ w1, Below w.heap.size w w1 → Calls Tryz.prog k #[v] w1 fun e w2 => e = .returned (.int .i64 n) ∧ Below w1.heap.size w1 w2) :
    Calls Tryz.prog 143 #[.func (.func k) #[v] #[]] w fun e w' => e = .returned (.tuple #[.int .i64 n, .int .i64 0]) ∧ Below w.heap.size w w' := by
  have hmf : ∀ (fn : Fn) (first cap : Array Value) (w : World), (Instr.makeFunc fn first cap).run Tryz.prog w = .ok (.func fn first cap) w := fun _ _ _ _ => rfl
  go_enter_defers Tryz.func143, Tryz.ntmps143
  go_wp2_with (go_at_fn k; refine (h _ (two_new _ _ _).2.2.2).mono ?_; rintro e w2 ⟨rfl, hb2⟩; obtain ⟨T1, T2, T3, T4⟩ := two_new w (.cells #[.int .i64 0] 2) (.cells #[.int .i64 0] 35); have c1 := below_two hb2 T1 (by rw [T3]; omega); have c2 := below_two hb2 T2 (by rw [T3]; omega); obtain ⟨c3, c4⟩ := cell_one c1; obtain ⟨c5, c6⟩ := cell_one c2)
  refine leaves_cons (f := 188) (args := #[.pointer (some ⟨w.heap.size, 0, none⟩), .pointer (some ⟨w.heap.size + 1, 0, none⟩)]) (by simp) (by simp [go_sem]) ?_
  refine (kept1_idle ⟨w.heap.size, 0, none⟩ ⟨w.heap.size + 1, 0, none⟩ _).mono ?_
  rintro e u' w'' ⟨rfl, rfl, rfl⟩
  simp [Leaves, settle, results, Tryz.results143, go_sem, c3, c5]
  exact ((T4.trans (hb2.mono T4.size)).setCell (by simp) _).setCell (by simp) _
theorem kept_bad1 (k : FuncId) (v : Value) (er : Int) (w : World) (he : ∀ args w, (callFunc k args).run Tryz.prog w = .ok (.enter k args) w)
    (h : ∀ w1, Below w.heap.size w w1 → Calls Tryz.prog k #[v] w1 fun e w2 => e = .panicked [{ v := .iface 35 (.int .i64 er), recovered := false }] ∧ Below w1.heap.size w1 w2) :
    Calls Tryz.prog 143 #[.func (.func k) #[v] #[]] w fun e w' => e = .returned (.tuple #[.int .i64 0, .int .i64 er]) ∧ Below w.heap.size w w' := by
  have hmf : ∀ (fn : Fn) (first cap : Array Value) (w : World), (Instr.makeFunc fn first cap).run Tryz.prog w = .ok (.func fn first cap) w := fun _ _ _ _ => rfl
  go_enter_defers Tryz.func143, Tryz.ntmps143
  go_wp2_with (go_at_fn k; refine (h _ (two_new _ _ _).2.2.2).mono ?_; rintro e w2 ⟨rfl, hb2⟩; obtain ⟨T1, T2, T3, T4⟩ := two_new w (.cells #[.int .i64 0] 2) (.cells #[.int .i64 0] 35); have c1 := below_two hb2 T1 (by rw [T3]; omega); have c2 := below_two hb2 T2 (by rw [T3]; omega); obtain ⟨c3, c4⟩ := cell_one c1; obtain ⟨c5, c6⟩ := cell_one c2)
  refine leaves_cons (f := 188) (args := #[.pointer (some ⟨w.heap.size, 0, none⟩), .pointer (some ⟨w.heap.size + 1, 0, none⟩)]) (by simp) (by simp [go_sem]) ?_
  refine (kept1_panics w.heap.size 0 0 er _ _ _ c1 c2).mono ?_
  rintro e u' w'' ⟨rfl, rfl, rfl⟩
  simp [Leaves, settle, results, Tryz.results143, go_sem, c3, c5]
  exact (((T4.trans (hb2.mono T4.size)).setCell (by simp) _).setCell (by simp) _).drew
end Go.Proofs.YtjdollmfjflkoaaGreatDoor
namespace Go.Proofs.YtjdollmfjflkoaaGreatDoor
open Go.RowKit

/-- A text of bytes. -/
def str (l : List UInt8) : Value := .string ⟨l.toArray⟩
theorem str_of {s : ByteArray} {l : List UInt8} (h : s.data.toList = l) : Value.string s = str l := by
  subst h
  unfold str
  congr 1
theorem cut_front (s : ByteArray) (n : Nat) : (s.extract 0 n).data.toList = s.data.toList.take n := by
  rw [Lib.extract_data, List.drop_zero, Nat.sub_zero]
theorem cut_back (s : ByteArray) (n : Nat) : (s.extract n s.size).data.toList = s.data.toList.drop n := by
  rw [Lib.extract_data, List.take_of_length_le]
  rw [List.length_drop, Array.length_toList]
  exact Nat.le_refl _
theorem blanks_any (s : ByteArray) (w : World) :
    Calls Tryz.prog 133 #[.string s, .string ⟨#[32, 9]⟩] w fun e w' => e = .returned (str (atSign s.data.toList)) ∧ Below w.heap.size w w' :=
  Any.strings_TrimLeft_laid Tryz.lays161 (by kernel_rfl) s ⟨#[32, 9]⟩ w (by decide) (ascii_of_all (by decide))
theorem digits_any (s : ByteArray) (w : World) :
    Calls Tryz.prog 133 #[.string s, .string ⟨#[48, 49, 50, 51, 52, 53, 54, 55, 56, 57]⟩] w fun e w' => e = .returned (str (rest1 s.data.toList)) ∧ Below w.heap.size w w' := by
  have := Any.strings_TrimLeft_laid Tryz.lays161 (by kernel_rfl) s ⟨#[48, 49, 50, 51, 52, 53, 54, 55, 56, 57]⟩ w (by decide) (ascii_of_all (by decide))
  refine this.mono fun e w' h => ⟨h.1.trans ?_, h.2⟩
  unfold str
  rw [← trim_figs]

theorem figures_str (s wh r : ByteArray) (w : World) (hs : s.size ≤ 70000000000000) (hw : wh.data.toList = figs s.data.toList) (hr : r.data.toList = rest1 s.data.toList) :
    Calls Tryz.prog 191 #[.string s] w fun e w' => e = .returned (.tuple #[.string wh, .string r]) ∧ Below w.heap.size w w' := by
  have k1 := fun w => digits_any s w
  have hl := rest1_length s.data.toList
  rw [← hr] at hl k1
  rw [← str_of (rfl : r.data.toList = r.data.toList)] at k1
  rw [Array.length_toList, Array.length_toList] at hl
  have hl2 : r.size = s.size - (figs s.data.toList).length := hl
  have hf2 : (figs s.data.toList).length ≤ s.size := by
    have hf := figs_length_le s.data.toList
    rw [Array.length_toList (xs := s.data)] at hf
    exact hf
  have hn : s.size - r.size = (figs s.data.toList).length := by omega
  have hcut : s.extract 0 (s.size - r.size) = wh := by
    have h3 : (s.extract 0 (s.size - r.size)).data.toList = wh.data.toList := by
      rw [cut_front, hn, hw]
      exact (figs_prefix _).symm
    have h4 := Array.toList_inj.1 h3
    cases hx : s.extract 0 (s.size - r.size)
    cases wh
    rw [hx] at h4
    exact congrArg ByteArray.mk h4
  have h1 : r.size ≤ s.size := by omega
  clear hr hl hl2 hf2 hn hw
  go_enter Tryz.func191, Tryz.ntmps191
  go_wp2_with (go_at_call 133; refine (k1 _).mono ?_; rintro e w' ⟨rfl, hb1⟩)
  go_ret2
  exact ⟨by rw [← hcut]; rfl, hb1⟩

/-- A struct's block of four cells. -/
def Stands4 (g : Nat) (a b c d : Value) (w : World) : Prop := w.heap[g]? = some (.cells #[a, b, c, d] 153 (0, 0))
theorem stands4_in {g : Nat} {a b c d : Value} {w : World} (h : Stands4 g a b c d w) : g < w.heap.size := by
  by_cases hl : g < w.heap.size
  · exact hl
  · have h1 : w.heap[g]? = _ := h
    rw [Array.getElem?_eq_none (Nat.le_of_not_lt hl)] at h1; cases h1
theorem stands4_old {w1 w2 : World} {g : Nat} {a b c d : Value} (h : Stands4 g a b c d w1) (hb : Below w1.heap.size w1 w2) : Stands4 g a b c d w2 :=
  (hb.block _ (stands4_in h)).trans h
theorem stands4_cells {g : Nat} {w : World} {a b c d : Value} (h : Stands4 g a b c d w) : w.cell? ⟨g, 0, none⟩ = some a ∧ w.frozen? ⟨g, 0, none⟩ = false ∧ w.cell? ⟨g, 1, none⟩ = some b ∧ w.frozen? ⟨g, 1, none⟩ = false ∧ w.cell? ⟨g, 2, none⟩ = some c ∧ w.frozen? ⟨g, 2, none⟩ = false ∧ w.cell? ⟨g, 3, none⟩ = some d ∧ w.frozen? ⟨g, 3, none⟩ = false := by
  have h' : w.heap[g]? = some (.cells #[a, b, c, d] 153 (0, 0)) := h
  refine ⟨?_, ?_, ?_, ?_, ?_, ?_, ?_, ?_⟩ <;> simp [World.cell?, World.frozen?, h']
theorem stands4_set {g : Nat} {w : World} {a b c d v : Value} (h : Stands4 g a b c d w) : Stands4 g v b c d (w.setCell ⟨g, 0, none⟩ v) ∧ Stands4 g a v c d (w.setCell ⟨g, 1, none⟩ v) ∧ Stands4 g a b v d (w.setCell ⟨g, 2, none⟩ v) ∧ Stands4 g a b c v (w.setCell ⟨g, 3, none⟩ v) := by
  have h' : w.heap[g]? = some (.cells #[a, b, c, d] 153 (0, 0)) := h
  have hl := stands4_in h
  have hh : w.heap[g]'hl = .cells #[a, b, c, d] 153 (0, 0) := by
    rw [Array.getElem?_eq_getElem hl] at h'
    exact Option.some.inj h'
  refine ⟨?_, ?_, ?_, ?_⟩ <;> simp [Stands4, World.setCell, Array.getElem_modify, hh, hl]

theorem stands4_far {g : Nat} {w : World} {a b c d : Value} (h : Stands4 g a b c d w) (p : Addr) (v : Value) (hp : g ≠ p.block) : Stands4 g a b c d (w.setCell p v) := by
  show (w.setCell p v).heap[g]? = _
  rw [Below.heap_setCell _ _ _ _ hp]; exact h
theorem stands4_all {g : Nat} {w : World} {a b c d a' b' c' d' : Value} (h : Stands4 g a b c d w) : Stands4 g a' b' c' d' ((((w.setCell ⟨g, 0, none⟩ a').setCell ⟨g, 1, none⟩ b').setCell ⟨g, 2, none⟩ c').setCell ⟨g, 3, none⟩ d') :=
  (stands4_set (stands4_set (stands4_set (stands4_set h).1).2.1).2.2.1).2.2.2
theorem below4 {B : Nat} {w0 w : World} {g : Nat} {a' b' c' d' : Value} (h : Below B w0 w) (hg : B ≤ g) : Below B w0 ((((w.setCell ⟨g, 0, none⟩ a').setCell ⟨g, 1, none⟩ b').setCell ⟨g, 2, none⟩ c').setCell ⟨g, 3, none⟩ d') :=
  (((h.setCell hg _).setCell hg _).setCell hg _).setCell hg _
theorem find_minus (s r r2 wh r3 sg : ByteArray) (x : Int) (w : World)
    (k1 : ∀ w, Calls Tryz.prog 133 #[.string s, .string ⟨#[32, 9]⟩] w fun e w' => e = .returned (.string r) ∧ Below w.heap.size w w')
    (k2 : ∀ w, Calls Tryz.prog 191 #[.string r2] w fun e w' => e = .returned (.tuple #[.string wh, .string r3]) ∧ Below w.heap.size w w')
    (he : r.toList.isEmpty = false) (hp : 0 < r.size) (hp1 : (1 : Int) ≤ (r.size : Int)) (hx : (r[0].toNat : Int) = x) (hx1 : (x == 45) = true) (hr1 : r.extract 0 1 = sg) (hr2 : r.extract 1 r.size = r2) (pt : Bool) (fr r4 r5 : ByteArray) (hs5 : r5.size ≤ s.size) (hs : s.size ≤ 70000000000000)
    (kp : ∀ w, Calls Tryz.prog 192 #[.string r3, .string ⟨#[46]⟩] w fun e w' => e = .returned (.bool pt) ∧ w' = w)
    (k3 : pt = true → (1 : Int) ≤ (r3.size : Int) ∧ r3.extract 1 r3.size = r4 ∧ ∀ w, Calls Tryz.prog 191 #[.string r4] w fun e w' => e = .returned (.tuple #[.string fr, .string r5]) ∧ Below w.heap.size w w') (k4 : pt = false → r3 = r5 ∧ fr = ⟨#[]⟩)
    (v : Value) (HE : Hid (Ending.returned (.agg #[.string sg, .string wh, .string fr, .int .i64 ((s.size : Int) - (r5.size : Int))]) = .returned v)) :
    Calls Tryz.prog 153 #[.string s] w fun e w' => e = .returned v ∧ Below w.heap.size w w' := by
  go_enter Tryz.func153, Tryz.ntmps153
  go_wp2_with (go_at_call 133; refine (k1 _).mono ?_; rintro e w1 ⟨rfl, hb1⟩; have B1 := (two_new w (.cells #[.string ⟨#[]⟩, .string ⟨#[]⟩, .string ⟨#[]⟩, .int .i64 0] 153) (.cells #[.string ⟨#[]⟩, .string ⟨#[]⟩, .string ⟨#[]⟩, .int .i64 0] 153)).2.2.2; have B2 := B1.trans (hb1.mono B1.size); have S1 : Stands4 (w.heap.size + 1) (.string ⟨#[]⟩) (.string ⟨#[]⟩) (.string ⟨#[]⟩) (.int .i64 0) w1 := stands4_old (two_new _ _ _).2.1 hb1; have R1 : Stands4 w.heap.size (.string ⟨#[]⟩) (.string ⟨#[]⟩) (.string ⟨#[]⟩) (.int .i64 0) w1 := stands4_old (two_new _ _ _).1 hb1; obtain ⟨c0, f0, c1, f1, c2, f2, c3, f3⟩ := stands4_cells S1)
  go_region_law (fail)
  all_goals
    have S2 := (stands4_set (v := .string sg) S1).1
    have S2d : Stands4 _ _ _ _ _ (w1.setCell ⟨w.heap.size + 1, 0, none⟩ (.string sg)).drew := S2
    have R2d : Stands4 _ _ _ _ _ (w1.setCell ⟨w.heap.size + 1, 0, none⟩ (.string sg)).drew := stands4_far R1 ⟨w.heap.size + 1, 0, none⟩ (.string sg) (by simp)
    have B2d := (B2.setCell (p := ⟨w.heap.size + 1, 0, none⟩) (Nat.le_succ _) (.string sg)).drew
    go_wp2_with (go_at_call 191; refine (k2 _).mono ?_; rintro e w2 ⟨rfl, hb2⟩; have B3 := (B2d).trans (hb2.mono (B2d).size); have S3 := stands4_old S2d hb2; have R3 := stands4_old R2d hb2; obtain ⟨d0, g0, d1, g1, d2, g2, d3, g3⟩ := stands4_cells S3)
    have S5 := (stands4_set (v := .string wh) S3).2.1
    obtain ⟨d0, g0, d1, g1, d2, g2, d3, g3⟩ := stands4_cells S5
    have R5 := stands4_far R3 ⟨w.heap.size + 1, 1, none⟩ (.string wh) (by simp)
    have B5 := B3.setCell (p := ⟨w.heap.size + 1, 1, none⟩) (Nat.le_succ _) (.string wh)
    obtain ⟨i0, j0, i1, j1, i2, j2, i3, j3⟩ := stands4_cells R5
    generalize w2.setCell ⟨w.heap.size + 1, 1, none⟩ (.string wh) = w3 at *
    cases pt with
    | false =>
      obtain ⟨rfl, rfl⟩ := k4 rfl
      clear k3 k4
      go_wp2_with (go_at_call 192; refine (kp _).mono ?_; rintro e w4 ⟨rfl, hw⟩; rw [hw])
      refine bodyPost_ret (v := .agg #[.string sg, .string wh, .string ⟨#[]⟩, .int .i64 ((s.size : Int) - (r3.size : Int))]) (results_cell_row (p := 2) (ty := 153) Tryz.results153 _ _ w.heap.size 153 _ (0, 0) _ rfl (stands4_all (stands4_far R5 ⟨w.heap.size + 1, 3, none⟩ (.int .i64 ((s.size : Int) - (r3.size : Int))) (by simp))) Tryz.underlying153 rfl (by kernel_rfl)) rfl ⟨?_, ?_⟩
      · exact HE.out
      · exact below4 (B5.setCell (Nat.le_succ _) _) (Nat.le_refl _)
    | true =>
      obtain ⟨q1, q2, k5⟩ := k3 rfl
      clear k3 k4
      go_wp2_with (first | (go_at_call 192; refine (kp _).mono ?_; rintro e w4 ⟨rfl, hw⟩; rw [hw]) | (go_at_call 191; refine (k5 _).mono ?_; rintro e w5 ⟨rfl, hb5⟩; have S6 := stands4_old S5 hb5; have R6 := stands4_old R5 hb5; obtain ⟨l0, m0, l1, m1, l2, m2, l3, m3⟩ := stands4_cells R6; obtain ⟨e0, h0, e1, h1, e2, h2, e3, h3⟩ := stands4_cells S6))
      refine bodyPost_ret (v := .agg #[.string sg, .string wh, .string fr, .int .i64 ((s.size : Int) - (r5.size : Int))]) (results_cell_row (p := 2) (ty := 153) Tryz.results153 _ _ w.heap.size 153 _ (0, 0) _ rfl (stands4_all (stands4_far (stands4_far R6 ⟨w.heap.size + 1, 2, none⟩ (.string fr) (by simp)) ⟨w.heap.size + 1, 3, none⟩ (.int .i64 ((s.size : Int) - (r5.size : Int))) (by simp))) Tryz.underlying153 rfl (by kernel_rfl)) rfl ⟨?_, ?_⟩
      · exact HE.out
      · exact below4 (((B5.trans (hb5.mono B5.size)).setCell (Nat.le_succ _) _).setCell (Nat.le_succ _) _) (Nat.le_refl _)
theorem find_plus (s r r2 wh r3 sg : ByteArray) (x : Int) (w : World)
    (k1 : ∀ w, Calls Tryz.prog 133 #[.string s, .string ⟨#[32, 9]⟩] w fun e w' => e = .returned (.string r) ∧ Below w.heap.size w w')
    (k2 : ∀ w, Calls Tryz.prog 191 #[.string r2] w fun e w' => e = .returned (.tuple #[.string wh, .string r3]) ∧ Below w.heap.size w w')
    (he : r.toList.isEmpty = false) (hp : 0 < r.size) (hp1 : (1 : Int) ≤ (r.size : Int)) (hx : (r[0].toNat : Int) = x) (hx1 : (x == 45) = false) (hx2 : (x == 43) = true) (hr1 : r.extract 0 1 = sg) (hr2 : r.extract 1 r.size = r2) (pt : Bool) (fr r4 r5 : ByteArray) (hs5 : r5.size ≤ s.size) (hs : s.size ≤ 70000000000000)
    (kp : ∀ w, Calls Tryz.prog 192 #[.string r3, .string ⟨#[46]⟩] w fun e w' => e = .returned (.bool pt) ∧ w' = w)
    (k3 : pt = true → (1 : Int) ≤ (r3.size : Int) ∧ r3.extract 1 r3.size = r4 ∧ ∀ w, Calls Tryz.prog 191 #[.string r4] w fun e w' => e = .returned (.tuple #[.string fr, .string r5]) ∧ Below w.heap.size w w') (k4 : pt = false → r3 = r5 ∧ fr = ⟨#[]⟩)
    (v : Value) (HE : Hid (Ending.returned (.agg #[.string sg, .string wh, .string fr, .int .i64 ((s.size : Int) - (r5.size : Int))]) = .returned v)) :
    Calls Tryz.prog 153 #[.string s] w fun e w' => e = .returned v ∧ Below w.heap.size w w' := by
  go_enter Tryz.func153, Tryz.ntmps153
  go_wp2_with (go_at_call 133; refine (k1 _).mono ?_; rintro e w1 ⟨rfl, hb1⟩; have B1 := (two_new w (.cells #[.string ⟨#[]⟩, .string ⟨#[]⟩, .string ⟨#[]⟩, .int .i64 0] 153) (.cells #[.string ⟨#[]⟩, .string ⟨#[]⟩, .string ⟨#[]⟩, .int .i64 0] 153)).2.2.2; have B2 := B1.trans (hb1.mono B1.size); have S1 : Stands4 (w.heap.size + 1) (.string ⟨#[]⟩) (.string ⟨#[]⟩) (.string ⟨#[]⟩) (.int .i64 0) w1 := stands4_old (two_new _ _ _).2.1 hb1; have R1 : Stands4 w.heap.size (.string ⟨#[]⟩) (.string ⟨#[]⟩) (.string ⟨#[]⟩) (.int .i64 0) w1 := stands4_old (two_new _ _ _).1 hb1; obtain ⟨c0, f0, c1, f1, c2, f2, c3, f3⟩ := stands4_cells S1)
  go_region_law (fail)
  all_goals
    have S2 := (stands4_set (v := .string sg) S1).1
    have S2d : Stands4 _ _ _ _ _ (w1.setCell ⟨w.heap.size + 1, 0, none⟩ (.string sg)).drew := S2
    have R2d : Stands4 _ _ _ _ _ (w1.setCell ⟨w.heap.size + 1, 0, none⟩ (.string sg)).drew := stands4_far R1 ⟨w.heap.size + 1, 0, none⟩ (.string sg) (by simp)
    have B2d := (B2.setCell (p := ⟨w.heap.size + 1, 0, none⟩) (Nat.le_succ _) (.string sg)).drew
    go_wp2_with (go_at_call 191; refine (k2 _).mono ?_; rintro e w2 ⟨rfl, hb2⟩; have B3 := (B2d).trans (hb2.mono (B2d).size); have S3 := stands4_old S2d hb2; have R3 := stands4_old R2d hb2; obtain ⟨d0, g0, d1, g1, d2, g2, d3, g3⟩ := stands4_cells S3)
    have S5 := (stands4_set (v := .string wh) S3).2.1
    obtain ⟨d0, g0, d1, g1, d2, g2, d3, g3⟩ := stands4_cells S5
    have R5 := stands4_far R3 ⟨w.heap.size + 1, 1, none⟩ (.string wh) (by simp)
    have B5 := B3.setCell (p := ⟨w.heap.size + 1, 1, none⟩) (Nat.le_succ _) (.string wh)
    obtain ⟨i0, j0, i1, j1, i2, j2, i3, j3⟩ := stands4_cells R5
    generalize w2.setCell ⟨w.heap.size + 1, 1, none⟩ (.string wh) = w3 at *
    cases pt with
    | false =>
      obtain ⟨rfl, rfl⟩ := k4 rfl
      clear k3 k4
      go_wp2_with (go_at_call 192; refine (kp _).mono ?_; rintro e w4 ⟨rfl, hw⟩; rw [hw])
      refine bodyPost_ret (v := .agg #[.string sg, .string wh, .string ⟨#[]⟩, .int .i64 ((s.size : Int) - (r3.size : Int))]) (results_cell_row (p := 2) (ty := 153) Tryz.results153 _ _ w.heap.size 153 _ (0, 0) _ rfl (stands4_all (stands4_far R5 ⟨w.heap.size + 1, 3, none⟩ (.int .i64 ((s.size : Int) - (r3.size : Int))) (by simp))) Tryz.underlying153 rfl (by kernel_rfl)) rfl ⟨?_, ?_⟩
      · exact HE.out
      · exact below4 (B5.setCell (Nat.le_succ _) _) (Nat.le_refl _)
    | true =>
      obtain ⟨q1, q2, k5⟩ := k3 rfl
      clear k3 k4
      go_wp2_with (first | (go_at_call 192; refine (kp _).mono ?_; rintro e w4 ⟨rfl, hw⟩; rw [hw]) | (go_at_call 191; refine (k5 _).mono ?_; rintro e w5 ⟨rfl, hb5⟩; have S6 := stands4_old S5 hb5; have R6 := stands4_old R5 hb5; obtain ⟨l0, m0, l1, m1, l2, m2, l3, m3⟩ := stands4_cells R6; obtain ⟨e0, h0, e1, h1, e2, h2, e3, h3⟩ := stands4_cells S6))
      refine bodyPost_ret (v := .agg #[.string sg, .string wh, .string fr, .int .i64 ((s.size : Int) - (r5.size : Int))]) (results_cell_row (p := 2) (ty := 153) Tryz.results153 _ _ w.heap.size 153 _ (0, 0) _ rfl (stands4_all (stands4_far (stands4_far R6 ⟨w.heap.size + 1, 2, none⟩ (.string fr) (by simp)) ⟨w.heap.size + 1, 3, none⟩ (.int .i64 ((s.size : Int) - (r5.size : Int))) (by simp))) Tryz.underlying153 rfl (by kernel_rfl)) rfl ⟨?_, ?_⟩
      · exact HE.out
      · exact below4 (((B5.trans (hb5.mono B5.size)).setCell (Nat.le_succ _) _).setCell (Nat.le_succ _) _) (Nat.le_refl _)
theorem find_none (s r wh r3 : ByteArray) (x : Int) (w : World)
    (k1 : ∀ w, Calls Tryz.prog 133 #[.string s, .string ⟨#[32, 9]⟩] w fun e w' => e = .returned (.string r) ∧ Below w.heap.size w w')
    (k2 : ∀ w, Calls Tryz.prog 191 #[.string r] w fun e w' => e = .returned (.tuple #[.string wh, .string r3]) ∧ Below w.heap.size w w')
    (he : r.toList.isEmpty = false) (hp : 0 < r.size) (hx : (r[0].toNat : Int) = x) (hx1 : (x == 45) = false) (hx2 : (x == 43) = false) (pt : Bool) (fr r4 r5 : ByteArray) (hs5 : r5.size ≤ s.size) (hs : s.size ≤ 70000000000000)
    (kp : ∀ w, Calls Tryz.prog 192 #[.string r3, .string ⟨#[46]⟩] w fun e w' => e = .returned (.bool pt) ∧ w' = w)
    (k3 : pt = true → (1 : Int) ≤ (r3.size : Int) ∧ r3.extract 1 r3.size = r4 ∧ ∀ w, Calls Tryz.prog 191 #[.string r4] w fun e w' => e = .returned (.tuple #[.string fr, .string r5]) ∧ Below w.heap.size w w') (k4 : pt = false → r3 = r5 ∧ fr = ⟨#[]⟩)
    (v : Value) (HE : Hid (Ending.returned (.agg #[.string ⟨#[]⟩, .string wh, .string fr, .int .i64 ((s.size : Int) - (r5.size : Int))]) = .returned v)) :
    Calls Tryz.prog 153 #[.string s] w fun e w' => e = .returned v ∧ Below w.heap.size w w' := by
  go_enter Tryz.func153, Tryz.ntmps153
  go_wp2_with (first | (go_at_call 133; refine (k1 _).mono ?_; rintro e w1 ⟨rfl, hb1⟩; have B1 := (two_new w (.cells #[.string ⟨#[]⟩, .string ⟨#[]⟩, .string ⟨#[]⟩, .int .i64 0] 153) (.cells #[.string ⟨#[]⟩, .string ⟨#[]⟩, .string ⟨#[]⟩, .int .i64 0] 153)).2.2.2; have B2 := B1.trans (hb1.mono B1.size); have S1 : Stands4 (w.heap.size + 1) (.string ⟨#[]⟩) (.string ⟨#[]⟩) (.string ⟨#[]⟩) (.int .i64 0) w1 := stands4_old (two_new _ _ _).2.1 hb1; have R1 : Stands4 w.heap.size (.string ⟨#[]⟩) (.string ⟨#[]⟩) (.string ⟨#[]⟩) (.int .i64 0) w1 := stands4_old (two_new _ _ _).1 hb1; obtain ⟨c0, f0, c1, f1, c2, f2, c3, f3⟩ := stands4_cells S1) | (go_at_call 191; refine (k2 _).mono ?_; rintro e w2 ⟨rfl, hb2⟩; have B3 := (B2).trans (hb2.mono (B2).size); have S3 := stands4_old S1 hb2; have R3 := stands4_old R1 hb2; obtain ⟨d0, g0, d1, g1, d2, g2, d3, g3⟩ := stands4_cells S3))
  all_goals
    have S5 := (stands4_set (v := .string wh) S3).2.1
    obtain ⟨d0, g0, d1, g1, d2, g2, d3, g3⟩ := stands4_cells S5
    have R5 := stands4_far R3 ⟨w.heap.size + 1, 1, none⟩ (.string wh) (by simp)
    have B5 := B3.setCell (p := ⟨w.heap.size + 1, 1, none⟩) (Nat.le_succ _) (.string wh)
    obtain ⟨i0, j0, i1, j1, i2, j2, i3, j3⟩ := stands4_cells R5
    generalize w2.setCell ⟨w.heap.size + 1, 1, none⟩ (.string wh) = w3 at *
    cases pt with
    | false =>
      obtain ⟨rfl, rfl⟩ := k4 rfl
      clear k3 k4
      go_wp2_with (go_at_call 192; refine (kp _).mono ?_; rintro e w4 ⟨rfl, hw⟩; rw [hw])
      refine bodyPost_ret (v := .agg #[.string ⟨#[]⟩, .string wh, .string ⟨#[]⟩, .int .i64 ((s.size : Int) - (r3.size : Int))]) (results_cell_row (p := 2) (ty := 153) Tryz.results153 _ _ w.heap.size 153 _ (0, 0) _ rfl (stands4_all (stands4_far R5 ⟨w.heap.size + 1, 3, none⟩ (.int .i64 ((s.size : Int) - (r3.size : Int))) (by simp))) Tryz.underlying153 rfl (by kernel_rfl)) rfl ⟨?_, ?_⟩
      · exact HE.out
      · exact below4 (B5.setCell (Nat.le_succ _) _) (Nat.le_refl _)
    | true =>
      obtain ⟨q1, q2, k5⟩ := k3 rfl
      clear k3 k4
      go_wp2_with (first | (go_at_call 192; refine (kp _).mono ?_; rintro e w4 ⟨rfl, hw⟩; rw [hw]) | (go_at_call 191; refine (k5 _).mono ?_; rintro e w5 ⟨rfl, hb5⟩; have S6 := stands4_old S5 hb5; have R6 := stands4_old R5 hb5; obtain ⟨l0, m0, l1, m1, l2, m2, l3, m3⟩ := stands4_cells R6; obtain ⟨e0, h0, e1, h1, e2, h2, e3, h3⟩ := stands4_cells S6))
      refine bodyPost_ret (v := .agg #[.string ⟨#[]⟩, .string wh, .string fr, .int .i64 ((s.size : Int) - (r5.size : Int))]) (results_cell_row (p := 2) (ty := 153) Tryz.results153 _ _ w.heap.size 153 _ (0, 0) _ rfl (stands4_all (stands4_far (stands4_far R6 ⟨w.heap.size + 1, 2, none⟩ (.string fr) (by simp)) ⟨w.heap.size + 1, 3, none⟩ (.int .i64 ((s.size : Int) - (r5.size : Int))) (by simp))) Tryz.underlying153 rfl (by kernel_rfl)) rfl ⟨?_, ?_⟩
      · exact HE.out
      · exact below4 (((B5.trans (hb5.mono B5.size)).setCell (Nat.le_succ _) _).setCell (Nat.le_succ _) _) (Nat.le_refl _)
theorem find_empty (s r wh r3 : ByteArray) (_x : Int) (w : World)
    (k1 : ∀ w, Calls Tryz.prog 133 #[.string s, .string ⟨#[32, 9]⟩] w fun e w' => e = .returned (.string r) ∧ Below w.heap.size w w')
    (k2 : ∀ w, Calls Tryz.prog 191 #[.string r] w fun e w' => e = .returned (.tuple #[.string wh, .string r3]) ∧ Below w.heap.size w w')
    (he : r.toList.isEmpty = true) (pt : Bool) (fr r4 r5 : ByteArray) (hs5 : r5.size ≤ s.size) (hs : s.size ≤ 70000000000000)
    (kp : ∀ w, Calls Tryz.prog 192 #[.string r3, .string ⟨#[46]⟩] w fun e w' => e = .returned (.bool pt) ∧ w' = w)
    (k3 : pt = true → (1 : Int) ≤ (r3.size : Int) ∧ r3.extract 1 r3.size = r4 ∧ ∀ w, Calls Tryz.prog 191 #[.string r4] w fun e w' => e = .returned (.tuple #[.string fr, .string r5]) ∧ Below w.heap.size w w') (k4 : pt = false → r3 = r5 ∧ fr = ⟨#[]⟩)
    (v : Value) (HE : Hid (Ending.returned (.agg #[.string ⟨#[]⟩, .string wh, .string fr, .int .i64 ((s.size : Int) - (r5.size : Int))]) = .returned v)) :
    Calls Tryz.prog 153 #[.string s] w fun e w' => e = .returned v ∧ Below w.heap.size w w' := by
  go_enter Tryz.func153, Tryz.ntmps153
  go_wp2_with (first | (go_at_call 133; refine (k1 _).mono ?_; rintro e w1 ⟨rfl, hb1⟩; have B1 := (two_new w (.cells #[.string ⟨#[]⟩, .string ⟨#[]⟩, .string ⟨#[]⟩, .int .i64 0] 153) (.cells #[.string ⟨#[]⟩, .string ⟨#[]⟩, .string ⟨#[]⟩, .int .i64 0] 153)).2.2.2; have B2 := B1.trans (hb1.mono B1.size); have S1 : Stands4 (w.heap.size + 1) (.string ⟨#[]⟩) (.string ⟨#[]⟩) (.string ⟨#[]⟩) (.int .i64 0) w1 := stands4_old (two_new _ _ _).2.1 hb1; have R1 : Stands4 w.heap.size (.string ⟨#[]⟩) (.string ⟨#[]⟩) (.string ⟨#[]⟩) (.int .i64 0) w1 := stands4_old (two_new _ _ _).1 hb1; obtain ⟨c0, f0, c1, f1, c2, f2, c3, f3⟩ := stands4_cells S1) | (go_at_call 191; refine (k2 _).mono ?_; rintro e w2 ⟨rfl, hb2⟩; have B3 := (B2).trans (hb2.mono (B2).size); have S3 := stands4_old S1 hb2; have R3 := stands4_old R1 hb2; obtain ⟨d0, g0, d1, g1, d2, g2, d3, g3⟩ := stands4_cells S3))
  all_goals
    have S5 := (stands4_set (v := .string wh) S3).2.1
    obtain ⟨d0, g0, d1, g1, d2, g2, d3, g3⟩ := stands4_cells S5
    have R5 := stands4_far R3 ⟨w.heap.size + 1, 1, none⟩ (.string wh) (by simp)
    have B5 := B3.setCell (p := ⟨w.heap.size + 1, 1, none⟩) (Nat.le_succ _) (.string wh)
    obtain ⟨i0, j0, i1, j1, i2, j2, i3, j3⟩ := stands4_cells R5
    generalize w2.setCell ⟨w.heap.size + 1, 1, none⟩ (.string wh) = w3 at *
    cases pt with
    | false =>
      obtain ⟨rfl, rfl⟩ := k4 rfl
      clear k3 k4
      go_wp2_with (go_at_call 192; refine (kp _).mono ?_; rintro e w4 ⟨rfl, hw⟩; rw [hw])
      refine bodyPost_ret (v := .agg #[.string ⟨#[]⟩, .string wh, .string ⟨#[]⟩, .int .i64 ((s.size : Int) - (r3.size : Int))]) (results_cell_row (p := 2) (ty := 153) Tryz.results153 _ _ w.heap.size 153 _ (0, 0) _ rfl (stands4_all (stands4_far R5 ⟨w.heap.size + 1, 3, none⟩ (.int .i64 ((s.size : Int) - (r3.size : Int))) (by simp))) Tryz.underlying153 rfl (by kernel_rfl)) rfl ⟨?_, ?_⟩
      · exact HE.out
      · exact below4 (B5.setCell (Nat.le_succ _) _) (Nat.le_refl _)
    | true =>
      obtain ⟨q1, q2, k5⟩ := k3 rfl
      clear k3 k4
      go_wp2_with (first | (go_at_call 192; refine (kp _).mono ?_; rintro e w4 ⟨rfl, hw⟩; rw [hw]) | (go_at_call 191; refine (k5 _).mono ?_; rintro e w5 ⟨rfl, hb5⟩; have S6 := stands4_old S5 hb5; have R6 := stands4_old R5 hb5; obtain ⟨l0, m0, l1, m1, l2, m2, l3, m3⟩ := stands4_cells R6; obtain ⟨e0, h0, e1, h1, e2, h2, e3, h3⟩ := stands4_cells S6))
      refine bodyPost_ret (v := .agg #[.string ⟨#[]⟩, .string wh, .string fr, .int .i64 ((s.size : Int) - (r5.size : Int))]) (results_cell_row (p := 2) (ty := 153) Tryz.results153 _ _ w.heap.size 153 _ (0, 0) _ rfl (stands4_all (stands4_far (stands4_far R6 ⟨w.heap.size + 1, 2, none⟩ (.string fr) (by simp)) ⟨w.heap.size + 1, 3, none⟩ (.int .i64 ((s.size : Int) - (r5.size : Int))) (by simp))) Tryz.underlying153 rfl (by kernel_rfl)) rfl ⟨?_, ?_⟩
      · exact HE.out
      · exact below4 (((B5.trans (hb5.mono B5.size)).setCell (Nat.le_succ _) _).setCell (Nat.le_succ _) _) (Nat.le_refl _)
end Go.Proofs.YtjdollmfjflkoaaGreatDoor
namespace Go.Proofs.YtjdollmfjflkoaaGreatDoor
theorem ba_ext {a b : ByteArray} (h : a.data.toList = b.data.toList) : a = b := by
  have h4 := Array.toList_inj.1 h
  cases a; cases b
  exact congrArg ByteArray.mk h4
end Go.Proofs.YtjdollmfjflkoaaGreatDoor
