/- Packed texts: HexMath, HexWholeMath, DecMath, DecParse, ValMath, DecKept. What each of them proves stands above its theorems; the conditions stand in these. -/
import Derived.Deep.RegionLaw
import Derived.Defers
import Derived.Laws.Pointers
import Derived.Lib.ItoaLen
import Derived.Lib.SlTrimSet
import Derived.Recover
import Derived.Shelf.Abstract
import Derived.Test.YtbodnhpjfdnjfaaGreatDoorE0
namespace Go.Proofs.YtbodnhpjfdnjfaaGreatDoor
open Go.RowKit Go.Lib

theorem take_snoc (s : ByteArray) (k : Nat) (h : k < s.size) : s.data.toList.take (k + 1) = s.data.toList.take k ++ [s[k]] := by
  rw [List.take_succ_eq_append_getElem (by simpa using h)]; rfl
end Go.Proofs.YtbodnhpjfdnjfaaGreatDoor
namespace Go.Proofs.YtbodnhpjfdnjfaaGreatDoor
open Go.RowKit Go.Lib

def figV (c : UInt8) : Nat := c.toNat - 48
def natOf (l : List UInt8) : Nat := l.foldl (fun a c => 10 * a + figV c) 0
theorem natOf_snoc (l : List UInt8) (c : UInt8) : natOf (l ++ [c]) = 10 * natOf l + figV c := by simp [natOf]
theorem natOf_le_foldl (b : List UInt8) : ∀ x : Nat, x ≤ b.foldl (fun a c => 10 * a + figV c) x := by
  induction b with
  | nil => intro x; exact Nat.le_refl _
  | cons c b ih => intro x; exact Nat.le_trans (by omega) (ih (10 * x + figV c))
theorem natOf_mono (a b : List UInt8) : natOf a ≤ natOf (a ++ b) := by
  unfold natOf; rw [List.foldl_append]; exact natOf_le_foldl b _

/-- The figures that a text begins with. -/
def figs (l : List UInt8) : List UInt8 := l.takeWhile isFig
theorem figs_stop (a r : List UInt8) (c : UInt8) (ha : a.all isFig = true) (hc : isFig c = false) : figs (a ++ c :: r) = a := by
  unfold figs
  induction a with
  | nil => simp [hc]
  | cons d a ih =>
    simp only [List.all_cons, Bool.and_eq_true] at ha
    simp [ha.1, ih ha.2]
theorem figs_all (a : List UInt8) (ha : a.all isFig = true) : figs a = a := by
  unfold figs
  induction a with
  | nil => rfl
  | cons d a ih =>
    simp only [List.all_cons, Bool.and_eq_true] at ha
    simp [List.takeWhile, ha.1, ih ha.2]
theorem figs_isFig (l : List UInt8) : (figs l).all isFig = true := by
  unfold figs
  induction l with
  | nil => rfl
  | cons d a ih =>
    cases h : isFig d
    · simp [List.takeWhile, h]
    · simp only [List.takeWhile, h, List.all_cons, Bool.true_and]; exact ih
theorem figs_prefix (l : List UInt8) : figs l = l.take (figs l).length := by
  unfold figs
  induction l with
  | nil => rfl
  | cons d a ih =>
    cases h : isFig d
    · simp [List.takeWhile, h]
    · simp only [List.takeWhile, h, List.length_cons, List.take_succ_cons, List.cons.injEq, true_and]; exact ih
theorem figs_length_le (l : List UInt8) : (figs l).length ≤ l.length := by
  have := congrArg List.length (figs_prefix l)
  rw [List.length_take] at this; omega
/-- Where a text's figures end. -/
theorem figs_at (s : ByteArray) (k : Nat) (hk : k < s.size) (ha : (s.data.toList.take k).all isFig = true) (hc : isFig s[k] = false) : (figs s.data.toList).length = k := by
  have h1 : s.data.toList = s.data.toList.take k ++ s[k] :: s.data.toList.drop (k + 1) := by
    conv => lhs; rw [← List.take_append_drop k s.data.toList]
    rw [List.drop_eq_getElem_cons (by rw [Array.length_toList]; exact hk)]; rfl
  rw [h1, figs_stop _ _ _ ha hc, List.length_take, Array.length_toList]
  exact Nat.min_eq_left (Nat.le_of_lt hk)
theorem figs_whole (s : ByteArray) (ha : s.data.toList.all isFig = true) : (figs s.data.toList).length = s.size := by
  rw [figs_all _ ha, Array.length_toList]; rfl

/-- Where the number begins: behind a sign. -/
def isNeg (l : List UInt8) : Bool := l.head? == some 45
def afterSign (l : List UInt8) : List UInt8 := if isNeg l then l.tail else l
/-- What a text's beginning tells: the number, how many bytes it takes, and why not. -/
def wholeD (l : List UInt8) : Int × Int × Int :=
  if figs (afterSign l) = [] then (0, 0, 2)
  else if isNeg l then
    (if natOf (figs (afterSign l)) ≤ 9223372036854775808 then (-(natOf (figs (afterSign l)) : Int), (figs (afterSign l)).length + 1, 0) else (0, 0, 3))
  else
    (if natOf (figs (afterSign l)) ≤ 9223372036854775807 then ((natOf (figs (afterSign l)) : Int), (figs (afterSign l)).length, 0) else (0, 0, 3))
end Go.Proofs.YtbodnhpjfdnjfaaGreatDoor
namespace Go.Proofs.YtbodnhpjfdnjfaaGreatDoor
open Go.RowKit Go.Lib

/-- Figures filled up with noughts ahead. -/
def pad (m : Nat) (l : List UInt8) : List UInt8 := List.replicate (m - l.length) 48 ++ l
/-- The k lowest figures of a number. -/
def frac : Nat → Nat → List UInt8
  | 0, _ => []
  | k + 1, r => frac k (r / 10) ++ [UInt8.ofNat (48 + r % 10)]
theorem frac_length : ∀ (k r : Nat), (frac k r).length = k
  | 0, _ => rfl
  | k + 1, r => by rw [frac, List.length_append, frac_length k]; rfl
theorem pad_snoc (m : Nat) (l : List UInt8) (c : UInt8) : pad (m + 1) (l ++ [c]) = pad m l ++ [c] := by
  unfold pad
  rw [List.length_append, List.length_singleton, ← List.append_assoc]
  congr 3
  omega
theorem pad_one (m : Nat) (d : UInt8) : pad (m + 2) [d] = pad (m + 1) [48] ++ [d] := by
  unfold pad
  rw [List.length_singleton, show m + 2 - 1 = m + 1 by omega, List.length_singleton, show m + 1 - 1 = m by omega, List.replicate_succ']
theorem decDigits_small {u : Nat} (h : u < 10) : decDigits u = [UInt8.ofNat (48 + u)] := by rw [decDigits, dif_pos h]
theorem decDigits_great {u : Nat} (h : ¬ u < 10) : decDigits u = decDigits (u / 10) ++ [UInt8.ofNat (48 + u % 10)] := by rw [decDigits, dif_neg h]
theorem pad_step (k u : Nat) : pad (k + 2) (decDigits u) = pad (k + 1) (decDigits (u / 10)) ++ [UInt8.ofNat (48 + u % 10)] := by
  by_cases h : u < 10
  · rw [decDigits_small h, Nat.div_eq_of_lt h, Nat.mod_eq_of_lt h, decDigits_small (by omega)]
    exact pad_one k _
  · rw [decDigits_great h]
    exact pad_snoc (k + 1) _ _
theorem pad_digits : ∀ (k u : Nat), pad (k + 1) (decDigits u) = decDigits (u / 10 ^ k) ++ frac k (u % 10 ^ k) := by
  intro k
  induction k with
  | zero =>
    intro u
    have h : 0 < (decDigits u).length := by rw [decDigits_length]; exact nDigits_pos u
    unfold pad
    rw [show 0 + 1 - (decDigits u).length = 0 by omega, Nat.pow_zero, Nat.div_one]
    simp [frac]
  | succ k ih =>
    intro u
    rw [pad_step, ih, frac, Nat.div_div_eq_div_mul, Nat.pow_succ, Nat.mul_comm 10]
    have h1 : u % (10 ^ k * 10) % 10 = u % 10 := Nat.mod_mul_left_mod u (10 ^ k) 10
    have h2 : u % (10 ^ k * 10) / 10 = u / 10 % 10 ^ k := by rw [Nat.mul_comm]; exact Nat.mod_mul_right_div_self u 10 (10 ^ k)
    rw [h1, h2, List.append_assoc]

/-- Without the noughts at its end. -/
def stripZ (l : List UInt8) : List UInt8 := trimRightS l [48]
/-- A number's text. -/
def textU (u : Nat) : List UInt8 := decDigits (u / 1000000) ++ (if stripZ (frac 6 (u % 1000000)) = [] then [] else 46 :: stripZ (frac 6 (u % 1000000)))
def textL (n : Int) : List UInt8 := if n < 0 then 45 :: textU n.natAbs else textU n.natAbs

theorem stripZ_fill (l : List UInt8) : ∃ k, l = stripZ l ++ List.replicate k 48 ∧ k ≤ l.length := by
  unfold stripZ trimRightS
  have h : ∀ r : List UInt8, ∃ k, r = List.replicate k 48 ++ r.dropWhile ([(48 : UInt8)].contains ·) ∧ k ≤ r.length := by
    intro r
    induction r with
    | nil => exact ⟨0, rfl, Nat.le_refl _⟩
    | cons c r ih =>
      by_cases hc : c = 48
      · obtain ⟨k, hk, hl⟩ := ih
        refine ⟨k + 1, ?_, by simpa using hl⟩
        have : (c :: r).dropWhile ([(48 : UInt8)].contains ·) = r.dropWhile ([(48 : UInt8)].contains ·) := by rw [List.dropWhile_cons_of_pos]; rw [hc]; decide
        rw [this, List.replicate_succ, List.cons_append, ← hk, hc]
      · refine ⟨0, ?_, Nat.zero_le _⟩
        have : (c :: r).dropWhile ([(48 : UInt8)].contains ·) = c :: r := by
          rw [List.dropWhile_cons_of_neg]
          rw [contains_one]
          simpa using hc
        rw [this]; rfl
  obtain ⟨k, hk, hl⟩ := h l.reverse
  refine ⟨k, ?_, by simpa using hl⟩
  have := congrArg List.reverse hk
  rw [List.reverse_reverse, List.reverse_append, List.reverse_replicate] at this
  exact this

/-- What a text begins with: blanks, a sign, figures, a point and figures behind it. -/
def atSign (l : List UInt8) : List UInt8 := trimLeftS l [32, 9]
def isSgn (c : UInt8) : Bool := c == 45 || c == 43
def signL (l : List UInt8) : List UInt8 := match l with
  | c :: _ => if isSgn c then [c] else []
  | [] => []
def unsign (l : List UInt8) : List UInt8 := l.drop (signL l).length
def rest1 (l : List UInt8) : List UInt8 := l.drop (figs l).length
/-- Behind the point: its figures, and what is behind these; without a point nothing. -/
def pointL (l : List UInt8) : List UInt8 × List UInt8 := if l.head? = some 46 then (figs l.tail, rest1 l.tail) else ([], l)
def zeros6 : List UInt8 := [48, 48, 48, 48, 48, 48]
def wholeP (l : List UInt8) : List UInt8 := figs (unsign (atSign l))
def pointP (l : List UInt8) : List UInt8 × List UInt8 := pointL (rest1 (unsign (atSign l)))
def usedP (l : List UInt8) : Int := (l.length : Int) - ((pointP l).2.length : Int)
/-- The numeral's number, a million times it, or that it goes too far. -/
def numD (below : Bool) (v : Nat) : Int × Int :=
  if below then (if v ≤ 9223372036854775808 then (-(v : Int), 0) else (0, 3))
  else (if v ≤ 9223372036854775807 then ((v : Int), 0) else (0, 3))
def numP (l : List UInt8) : Int × Int := numD (signL (atSign l) == [45]) (natOf (wholeP l ++ ((pointP l).1 ++ zeros6).take 6))
def readD (l : List UInt8) : Int × Int × Int :=
  if wholeP l ++ (pointP l).1 = [] then (0, 0, 2)
  else if (numP l).2 = 0 then ((numP l).1, usedP l, 0) else (0, 0, (numP l).2)

theorem figL_isFig (c : UInt8) : [48, 49, 50, 51, 52, 53, 54, 55, 56, 57].contains c = isFig c := by
  have h : ∀ m : Fin 256, [48, 49, 50, 51, 52, 53, 54, 55, 56, 57].contains (UInt8.ofNat m.val) = isFig (UInt8.ofNat m.val) := by decide +kernel
  have := h ⟨c.toNat, c.toNat_lt⟩
  simpa using this
theorem trim_figs (l : List UInt8) : trimLeftS l [48, 49, 50, 51, 52, 53, 54, 55, 56, 57] = rest1 l := by
  unfold trimLeftS rest1 figs
  have : (fun x => [48, 49, 50, 51, 52, 53, 54, 55, 56, 57].contains x) = isFig := funext figL_isFig
  rw [this]
  induction l with
  | nil => rfl
  | cons c l ih =>
    cases h : isFig c
    · simp [List.dropWhile, List.takeWhile, h]
    · simp [List.dropWhile, List.takeWhile, h, ih]
theorem figs_rest1 (l : List UInt8) : figs l ++ rest1 l = l := by
  unfold rest1
  conv => lhs; lhs; rw [figs_prefix l]
  exact List.take_append_drop _ _
theorem rest1_length (l : List UInt8) : (rest1 l).length = l.length - (figs l).length := by unfold rest1; rw [List.length_drop]
end Go.Proofs.YtbodnhpjfdnjfaaGreatDoor
namespace Go.Proofs.YtbodnhpjfdnjfaaGreatDoor
open Go.RowKit Go.Lib

theorem natOf_frac : ∀ (k : Nat) (x : List UInt8) (r : Nat), r < 10 ^ k → natOf (x ++ frac k r) = natOf x * 10 ^ k + r := by
  intro k
  induction k with
  | zero => intro x r h; simp at h; simp [frac, h]
  | succ k ih =>
    intro x r h
    have h1 : r / 10 < 10 ^ k := by rw [Nat.div_lt_iff_lt_mul (by omega)]; rw [Nat.pow_succ] at h; exact h
    have h2 : figV (UInt8.ofNat (48 + r % 10)) = r % 10 := by
      have : ∀ m : Fin 10, figV (UInt8.ofNat (48 + m.val)) = m.val := by decide +kernel
      exact this ⟨r % 10, by omega⟩
    rw [frac, ← List.append_assoc, natOf_snoc, ih x (r / 10) h1, h2, Nat.pow_succ, ← Nat.mul_assoc]
    omega
theorem dig_isFig (d : Nat) (h : d < 10) : isFig (UInt8.ofNat (48 + d)) = true := by
  have : ∀ m : Fin 10, isFig (UInt8.ofNat (48 + m.val)) = true := by decide +kernel
  exact this ⟨d, h⟩
theorem dec_figs (u : Nat) : (decDigits u).all isFig = true ∧ natOf (decDigits u) = u := by
  induction u using Nat.strongRecOn with
  | _ u ih =>
    by_cases h : u < 10
    · rw [decDigits_small h]
      refine ⟨by rw [List.all_cons, List.all_nil, dig_isFig u h]; rfl, ?_⟩
      have := natOf_frac 1 [] u (by omega)
      simpa [frac, natOf, Nat.mod_eq_of_lt h] using this
    · rw [decDigits_great h]
      obtain ⟨h1, h2⟩ := ih (u / 10) (by omega)
      refine ⟨by rw [List.all_append, h1, List.all_cons, List.all_nil, dig_isFig _ (by omega)]; rfl, ?_⟩
      have := natOf_frac 1 (decDigits (u / 10)) (u % 10) (by omega)
      rw [h2] at this
      simp only [frac, List.nil_append, Nat.mod_mod] at this
      rw [this]; omega
theorem dec_ne (u : Nat) : decDigits u ≠ [] := by
  intro h
  have h1 := congrArg List.length h
  rw [decDigits_length, List.length_nil] at h1
  have h2 := nDigits_pos u
  omega

end Go.Proofs.YtbodnhpjfdnjfaaGreatDoor
namespace Go.Proofs.YtbodnhpjfdnjfaaGreatDoor
open Go.RowKit Go.Lib

/-- The number that a text begins with. -/
def numberD (l : List UInt8) : Int × Int := if (readD l).2.2 = 2 then (0, 0) else ((readD l).1, (readD l).2.2)
def cmpI (x y : Int) : Int := if x < y then -1 else if y < x then 1 else 0
theorem rest1_leV (l : List UInt8) : (rest1 l).length ≤ l.length := by rw [rest1_length]; omega
theorem pointP2_le (l : List UInt8) : (pointP l).2.length ≤ l.length := by
  have a1 : (atSign l).length ≤ l.length := by
    unfold atSign trimLeftS
    exact (List.dropWhile_sublist _).length_le
  have a2 : (unsign (atSign l)).length ≤ (atSign l).length := by unfold unsign; rw [List.length_drop]; omega
  have a3 := rest1_leV (unsign (atSign l))
  unfold pointP pointL
  split
  · have h1 := rest1_leV (rest1 (unsign (atSign l))).tail
    rw [List.length_tail] at h1
    show (rest1 (rest1 (unsign (atSign l))).tail).length ≤ _
    omega
  · show (rest1 (unsign (atSign l))).length ≤ _
    omega
/-- What a reading answers: a number of 64 bits and as many bytes as there are, at most; or nothing, and why. -/
theorem readD_cases (l : List UInt8) :
    ((readD l).2.2 = 0 ∧ (-9223372036854775808 ≤ (readD l).1 ∧ (readD l).1 ≤ 9223372036854775807) ∧ 0 ≤ (readD l).2.1 ∧ (readD l).2.1 ≤ (l.length : Int)) ∨
    (((readD l).2.2 = 2 ∨ (readD l).2.2 = 3) ∧ (readD l).1 = 0 ∧ (readD l).2.1 = 0) := by
  unfold readD
  split
  · right; exact ⟨.inl rfl, rfl, rfl⟩
  · split
    · left
      rename_i h
      have hu := pointP2_le l
      refine ⟨rfl, ?_, by show 0 ≤ usedP l; unfold usedP; omega, by show usedP l ≤ _; unfold usedP; omega⟩
      show -9223372036854775808 ≤ (numP l).1 ∧ (numP l).1 ≤ 9223372036854775807
      unfold numP numD at *
      split
      · split
        · exact ⟨by simp only; omega, by simp only; omega⟩
        · exact ⟨by simp only; omega, by simp only; omega⟩
      · split
        · exact ⟨by simp only; omega, by simp only; omega⟩
        · exact ⟨by simp only; omega, by simp only; omega⟩
    · right
      rename_i h
      refine ⟨?_, rfl, rfl⟩
      show (numP l).2 = 2 ∨ (numP l).2 = 3
      unfold numP numD at *
      split
      · split
        · rename_i h1 h2; rw [if_pos h1, if_pos h2] at h; exact absurd rfl h
        · right; rfl
      · split
        · rename_i h1 h2; rw [if_neg h1, if_pos h2] at h; exact absurd rfl h
        · right; rfl
theorem numberD_cases (l : List UInt8) : ((numberD l).2 = 0 ∧ (-9223372036854775808 ≤ (numberD l).1 ∧ (numberD l).1 ≤ 9223372036854775807)) ∨ ((numberD l).2 = 3 ∧ (numberD l).1 = 0) := by
  unfold numberD
  rcases readD_cases l with ⟨h0, h, _⟩ | ⟨h0 | h0, h, _⟩
  · left; rw [h0]; exact ⟨rfl, h⟩
  · left; rw [h0, if_pos rfl]; exact ⟨rfl, by omega⟩
  · right; rw [h0, if_neg (by omega)]; exact ⟨rfl, h⟩
/-! The order of texts. -/
/-! Numbers' texts look like them. -/
end Go.Proofs.YtbodnhpjfdnjfaaGreatDoor
namespace Go.Proofs.YtbodnhpjfdnjfaaGreatDoor
open Go.RowKit

theorem kept1_idle (p q : Addr) (w : World) :
    CallsD Tryz.prog 256 #[.pointer (some p), .pointer (some q)] .returning w fun e u' w' => e = .returned (.tuple #[]) ∧ u' = .returning ∧ w' = w := by
  refine callsD_of_wpS Tryz.func256 rfl fun c₀ cs hu => ?_
  apply wpS_seq
  apply wpS_region
  simp [wpOpsS, go_sem, recoverD, hu, Tryz.ntmps256, Exit.thenS]
  apply wpS_seq
  apply wpS_region
  simp [wpOpsS, go_sem, Exit.thenS]
  refine wpS_cond (t := false) (by simp [Act.eval, Array.replicate]) ?_
  simp only [Bool.false_eq_true, if_false]
  refine wpS_of_wp (wp_skip ?_)
  cases c₀
  simp_all [bodyPostS, results, Tryz.results256]

theorem assert_errno (e : Int) (w : World) : (Instr.typeAssert (.iface 29 (.int .i64 e)) 20 29 false).run Tryz.prog w = .ok (.int .i64 e) w := by kernel_rfl

theorem kept1_panics (g : Nat) (a b e : Int) (t1 t2 : TypeId) (w : World)
    (ha : w.heap[g]? = some (.cells #[.int .i64 a] t1 (0, 0))) (hb : w.heap[g + 1]? = some (.cells #[.int .i64 b] t2 (0, 0))) :
    CallsD Tryz.prog 256 #[.pointer (some ⟨g, 0, none⟩), .pointer (some ⟨g + 1, 0, none⟩)] (.panicking [{ v := .iface 29 (.int .i64 e), recovered := false }]) w fun e' u' w' =>
      e' = .returned (.tuple #[]) ∧ u' = .panicking [{ v := .iface 29 (.int .i64 e), recovered := true }] ∧ w' = ((w.setCell ⟨g, 0, none⟩ (.int .i64 0)).setCell ⟨g + 1, 0, none⟩ (.int .i64 e)).drew := by
  have hca : w.cell? ⟨g, 0, none⟩ = some (.int .i64 a) := by simp [World.cell?, ha]
  have hfa : w.frozen? ⟨g, 0, none⟩ = false := by simp [World.frozen?, ha]
  have hcb : w.cell? ⟨g + 1, 0, none⟩ = some (.int .i64 b) := by simp [World.cell?, hb]
  have hfb : w.frozen? ⟨g + 1, 0, none⟩ = false := by simp [World.frozen?, hb]
  have hta := assert_errno e
  refine callsD_of_wpS Tryz.func256 rfl fun c₀ cs hu => ?_
  apply wpS_seq
  apply wpS_region
  simp [wpOpsS, go_sem, recoverD, hu, Tryz.ntmps256, Exit.thenS]
  apply wpS_seq
  apply wpS_region
  simp [wpOpsS, go_sem, Exit.thenS]
  refine wpS_cond (t := true) (by simp [Act.eval, Array.replicate]) ?_
  simp only [if_true]
  refine wpS_of_wp ?_
  go_region_law (fail)
  all_goals
    simp [bodyPostS, results, Tryz.results256]

theorem two_new (w : World) (A B : Obj) : ((w.alloc A).alloc B).heap[w.heap.size]? = some A ∧ ((w.alloc A).alloc B).heap[w.heap.size + 1]? = some B ∧ ((w.alloc A).alloc B).heap.size = w.heap.size + 2 ∧ Below w.heap.size w ((w.alloc A).alloc B) := by
  refine ⟨?_, ?_, by simp, ((Below.refl _ w).alloc (Nat.le_refl _) _).alloc (by simp) _⟩
  · rw [Below.heap_alloc _ _ _ (by simp)]; exact heap_alloc_new _ _
  · rw [show w.heap.size + 1 = (w.alloc A).heap.size by simp]; exact heap_alloc_new _ _
theorem cell_one {w : World} {g : Nat} {v : Value} {t : TypeId} (h : w.heap[g]? = some (.cells #[v] t (0, 0))) : w.cell? ⟨g, 0, none⟩ = some v ∧ w.frozen? ⟨g, 0, none⟩ = false := by
  constructor <;> simp [World.cell?, World.frozen?, h]
theorem below_two {w W : World} (h : Below W.heap.size W w) {g : Nat} {o : Obj} (hg : W.heap[g]? = some o) (hlt : g < W.heap.size) : w.heap[g]? = some o := (h.block g hlt).trans hg

theorem kept_ok (k : FuncId) (caps : Array Value) (n : Int) (w : World) (he : ∀ args w, (callFunc k args).run Tryz.prog w = .ok (.enter k args) w)
    (h : ∀ w1, Below w.heap.size w w1 → Calls Tryz.prog k caps w1 fun e w2 => e = .returned (.int .i64 n) ∧ Below w1.heap.size w1 w2) :
    Calls Tryz.prog 200 #[.func (.func k) #[] caps] w fun e w' => e = .returned (.tuple #[.int .i64 n, .int .i64 0]) ∧ Below w.heap.size w w' := by
  have hmf : ∀ (fn : Fn) (first cap : Array Value) (w : World), (Instr.makeFunc fn first cap).run Tryz.prog w = .ok (.func fn first cap) w := fun _ _ _ _ => rfl
  go_enter_defers Tryz.func200, Tryz.ntmps200
  go_wp2_with (go_at_fn k; refine (h _ (two_new _ _ _).2.2.2).mono ?_; rintro e w2 ⟨rfl, hb2⟩; obtain ⟨T1, T2, T3, T4⟩ := two_new w (.cells #[.int .i64 0] 2) (.cells #[.int .i64 0] 29); have c1 := below_two hb2 T1 (by rw [T3]; omega); have c2 := below_two hb2 T2 (by rw [T3]; omega); obtain ⟨c3, c4⟩ := cell_one c1; obtain ⟨c5, c6⟩ := cell_one c2)
  refine leaves_cons (f := 256) (args := #[.pointer (some ⟨w.heap.size, 0, none⟩), .pointer (some ⟨w.heap.size + 1, 0, none⟩)]) (by simp) (by simp [go_sem]) ?_
  refine (kept1_idle ⟨w.heap.size, 0, none⟩ ⟨w.heap.size + 1, 0, none⟩ _).mono ?_
  rintro e u' w'' ⟨rfl, rfl, rfl⟩
  simp [Leaves, settle, results, Tryz.results200, go_sem, c3, c5]
  exact ((T4.trans (hb2.mono T4.size)).setCell (by simp) _).setCell (by simp) _
theorem kept_bad (k : FuncId) (caps : Array Value) (er : Int) (w : World) (he : ∀ args w, (callFunc k args).run Tryz.prog w = .ok (.enter k args) w)
    (h : ∀ w1, Below w.heap.size w w1 → Calls Tryz.prog k caps w1 fun e w2 => e = .panicked [{ v := .iface 29 (.int .i64 er), recovered := false }] ∧ Below w1.heap.size w1 w2) :
    Calls Tryz.prog 200 #[.func (.func k) #[] caps] w fun e w' => e = .returned (.tuple #[.int .i64 0, .int .i64 er]) ∧ Below w.heap.size w w' := by
  have hmf : ∀ (fn : Fn) (first cap : Array Value) (w : World), (Instr.makeFunc fn first cap).run Tryz.prog w = .ok (.func fn first cap) w := fun _ _ _ _ => rfl
  go_enter_defers Tryz.func200, Tryz.ntmps200
  go_wp2_with (go_at_fn k; refine (h _ (two_new _ _ _).2.2.2).mono ?_; rintro e w2 ⟨rfl, hb2⟩; obtain ⟨T1, T2, T3, T4⟩ := two_new w (.cells #[.int .i64 0] 2) (.cells #[.int .i64 0] 29); have c1 := below_two hb2 T1 (by rw [T3]; omega); have c2 := below_two hb2 T2 (by rw [T3]; omega); obtain ⟨c3, c4⟩ := cell_one c1; obtain ⟨c5, c6⟩ := cell_one c2)
  refine leaves_cons (f := 256) (args := #[.pointer (some ⟨w.heap.size, 0, none⟩), .pointer (some ⟨w.heap.size + 1, 0, none⟩)]) (by simp) (by simp [go_sem]) ?_
  refine (kept1_panics w.heap.size 0 0 er _ _ _ c1 c2).mono ?_
  rintro e u' w'' ⟨rfl, rfl, rfl⟩
  simp [Leaves, settle, results, Tryz.results200, go_sem, c3, c5]
  exact (((T4.trans (hb2.mono T4.size)).setCell (by simp) _).setCell (by simp) _).drew
/- The same of a method value: its receiver goes first. -/
theorem kept_ok1 (k : FuncId) (v : Value) (n : Int) (w : World) (he : ∀ args w, (callFunc k args).run Tryz.prog w = .ok (.enter k args) w)
    (h : ∀ w1, Below w.heap.size w w1 → Calls Tryz.prog k #[v] w1 fun e w2 => e = .returned (.int .i64 n) ∧ Below w1.heap.size w1 w2) :
    Calls Tryz.prog 200 #[.func (.func k) #[v] #[]] w fun e w' => e = .returned (.tuple #[.int .i64 n, .int .i64 0]) ∧ Below w.heap.size w w' := by
  have hmf : ∀ (fn : Fn) (first cap : Array Value) (w : World), (Instr.makeFunc fn first cap).run Tryz.prog w = .ok (.func fn first cap) w := fun _ _ _ _ => rfl
  go_enter_defers Tryz.func200, Tryz.ntmps200
  go_wp2_with (go_at_fn k; refine (h _ (two_new _ _ _).2.2.2).mono ?_; rintro e w2 ⟨rfl, hb2⟩; obtain ⟨T1, T2, T3, T4⟩ := two_new w (.cells #[.int .i64 0] 2) (.cells #[.int .i64 0] 29); have c1 := below_two hb2 T1 (by rw [T3]; omega); have c2 := below_two hb2 T2 (by rw [T3]; omega); obtain ⟨c3, c4⟩ := cell_one c1; obtain ⟨c5, c6⟩ := cell_one c2)
  refine leaves_cons (f := 256) (args := #[.pointer (some ⟨w.heap.size, 0, none⟩), .pointer (some ⟨w.heap.size + 1, 0, none⟩)]) (by simp) (by simp [go_sem]) ?_
  refine (kept1_idle ⟨w.heap.size, 0, none⟩ ⟨w.heap.size + 1, 0, none⟩ _).mono ?_
  rintro e u' w'' ⟨rfl, rfl, rfl⟩
  simp [Leaves, settle, results, Tryz.results200, go_sem, c3, c5]
  exact ((T4.trans (hb2.mono T4.size)).setCell (by simp) _).setCell (by simp) _
theorem kept_bad1 (k : FuncId) (v : Value) (er : Int) (w : World) (he : ∀ args w, (callFunc k args).run Tryz.prog w = .ok (.enter k args) w)
    (h : ∀ w1, Below w.heap.size w w1 → Calls Tryz.prog k #[v] w1 fun e w2 => e = .panicked [{ v := .iface 29 (.int .i64 er), recovered := false }] ∧ Below w1.heap.size w1 w2) :
    Calls Tryz.prog 200 #[.func (.func k) #[v] #[]] w fun e w' => e = .returned (.tuple #[.int .i64 0, .int .i64 er]) ∧ Below w.heap.size w w' := by
  have hmf : ∀ (fn : Fn) (first cap : Array Value) (w : World), (Instr.makeFunc fn first cap).run Tryz.prog w = .ok (.func fn first cap) w := fun _ _ _ _ => rfl
  go_enter_defers Tryz.func200, Tryz.ntmps200
  go_wp2_with (go_at_fn k; refine (h _ (two_new _ _ _).2.2.2).mono ?_; rintro e w2 ⟨rfl, hb2⟩; obtain ⟨T1, T2, T3, T4⟩ := two_new w (.cells #[.int .i64 0] 2) (.cells #[.int .i64 0] 29); have c1 := below_two hb2 T1 (by rw [T3]; omega); have c2 := below_two hb2 T2 (by rw [T3]; omega); obtain ⟨c3, c4⟩ := cell_one c1; obtain ⟨c5, c6⟩ := cell_one c2)
  refine leaves_cons (f := 256) (args := #[.pointer (some ⟨w.heap.size, 0, none⟩), .pointer (some ⟨w.heap.size + 1, 0, none⟩)]) (by simp) (by simp [go_sem]) ?_
  refine (kept1_panics w.heap.size 0 0 er _ _ _ c1 c2).mono ?_
  rintro e u' w'' ⟨rfl, rfl, rfl⟩
  simp [Leaves, settle, results, Tryz.results200, go_sem, c3, c5]
  exact (((T4.trans (hb2.mono T4.size)).setCell (by simp) _).setCell (by simp) _).drew
end Go.Proofs.YtbodnhpjfdnjfaaGreatDoor
