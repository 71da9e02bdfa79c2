/- What looks like a number, and how two texts compare, as plain functions on lists of bytes. No condition; no program stands in this file. -/
import Derived.Test.YtokfkckfclnoaaaGreatDoorDecParse
namespace Go.Proofs.YtokfkckfclnoaaaGreatDoor
open Go.RowKit Go.Lib

def isBlk (c : UInt8) : Bool := c == 32 || c == 9
/-- The number that a text looks like. -/
def looksD (l : List UInt8) : Int × Bool :=
  if (readD l).2.2 = 0 ∧ (l.drop (readD l).2.1.toNat).all isBlk = true then ((readD l).1, true) else (0, false)
/-- The number that a text begins with. -/
def numberD (l : List UInt8) : Int × Int := if (readD l).2.2 = 2 then (0, 0) else ((readD l).1, (readD l).2.2)
def truthD (l : List UInt8) : Bool := if (looksD l).2 then !((looksD l).1 == 0) else !l.isEmpty
def cmpI (x y : Int) : Int := if x < y then -1 else if y < x then 1 else 0
def cmpL (a b : List UInt8) : Int := if Op.bytesLess a b then -1 else if Op.bytesLess b a then 1 else 0
def compareD (a b : List UInt8) : Int := if (looksD a).2 && (looksD b).2 then cmpI (looksD a).1 (looksD b).1 else cmpL a b
/-- A number below 256. -/
def lowD (l : List UInt8) : Int × Int := if (numberD l).2 = 0 then (((numberD l).1.tdiv 1000000) % 256, 0) else (0, (numberD l).2)

theorem rest1_le (l : List UInt8) : (rest1 l).length ≤ l.length := by rw [rest1_length]; omega
theorem pointP2_le (l : List UInt8) : (pointP l).2.length ≤ l.length := by
  have a1 : (atSign l).length ≤ l.length := by
    unfold atSign trimLeftS
    exact (List.dropWhile_sublist _).length_le
  have a2 : (unsign (atSign l)).length ≤ (atSign l).length := by unfold unsign; rw [List.length_drop]; omega
  have a3 := rest1_le (unsign (atSign l))
  unfold pointP pointL
  split
  · have h1 := rest1_le (rest1 (unsign (atSign l))).tail
    rw [List.length_tail] at h1
    show (rest1 (rest1 (unsign (atSign l))).tail).length ≤ _
    omega
  · show (rest1 (unsign (atSign l))).length ≤ _
    omega
/-- What a reading answers: a number of 64 bits and as many bytes as there are, at most; or nothing, and why. -/
theorem readD_cases (l : List UInt8) :
    ((readD l).2.2 = 0 ∧ (-9223372036854775808 ≤ (readD l).1 ∧ (readD l).1 ≤ 9223372036854775807) ∧ 0 ≤ (readD l).2.1 ∧ (readD l).2.1 ≤ (l.length : Int)) ∨
    (((readD l).2.2 = 2 ∨ (readD l).2.2 = 3) ∧ (readD l).1 = 0 ∧ (readD l).2.1 = 0) := by
  unfold readD
  split
  · right; exact ⟨.inl rfl, rfl, rfl⟩
  · split
    · left
      rename_i h
      have hu := pointP2_le l
      refine ⟨rfl, ?_, by show 0 ≤ usedP l; unfold usedP; omega, by show usedP l ≤ _; unfold usedP; omega⟩
      show -9223372036854775808 ≤ (numP l).1 ∧ (numP l).1 ≤ 9223372036854775807
      unfold numP numD at *
      split
      · split
        · exact ⟨by simp only; omega, by simp only; omega⟩
        · exact ⟨by simp only; omega, by simp only; omega⟩
      · split
        · exact ⟨by simp only; omega, by simp only; omega⟩
        · exact ⟨by simp only; omega, by simp only; omega⟩
    · right
      rename_i h
      refine ⟨?_, rfl, rfl⟩
      show (numP l).2 = 2 ∨ (numP l).2 = 3
      unfold numP numD at *
      split
      · split
        · rename_i h1 h2; rw [if_pos h1, if_pos h2] at h; exact absurd rfl h
        · right; rfl
      · split
        · rename_i h1 h2; rw [if_neg h1, if_pos h2] at h; exact absurd rfl h
        · right; rfl
theorem looksD_bounds (l : List UInt8) : -9223372036854775808 ≤ (looksD l).1 ∧ (looksD l).1 ≤ 9223372036854775807 := by
  unfold looksD
  rcases readD_cases l with ⟨_, h, _⟩ | ⟨_, h, _⟩
  · split
    · exact h
    · exact ⟨by simp only; omega, by simp only; omega⟩
  · split
    · rw [h]; omega
    · exact ⟨by simp only; omega, by simp only; omega⟩
theorem numberD_cases (l : List UInt8) : ((numberD l).2 = 0 ∧ (-9223372036854775808 ≤ (numberD l).1 ∧ (numberD l).1 ≤ 9223372036854775807)) ∨ ((numberD l).2 = 3 ∧ (numberD l).1 = 0) := by
  unfold numberD
  rcases readD_cases l with ⟨h0, h, _⟩ | ⟨h0 | h0, h, _⟩
  · left; rw [h0]; exact ⟨rfl, h⟩
  · left; rw [h0, if_pos rfl]; exact ⟨rfl, by omega⟩
  · right; rw [h0, if_neg (by omega)]; exact ⟨rfl, h⟩
theorem lowD_cases (l : List UInt8) : ((lowD l).2 = 0 ∧ 0 ≤ (lowD l).1 ∧ (lowD l).1 < 256) ∨ ((lowD l).2 = 3 ∧ (lowD l).1 = 0) := by
  unfold lowD
  rcases numberD_cases l with ⟨h0, _⟩ | ⟨h0, _⟩
  · left; rw [if_pos h0]; exact ⟨rfl, by simp only; omega, by simp only; omega⟩
  · right; rw [if_neg (by omega)]; exact ⟨h0, rfl⟩

/-! The order of texts. -/
theorem bytesLess_irr (l : List UInt8) : Op.bytesLess l l = false := by
  induction l with
  | nil => rfl
  | cons c r ih => simp [Op.bytesLess, ih]
theorem bytesLess_asym (a : List UInt8) : ∀ b, Op.bytesLess a b = true → Op.bytesLess b a = false := by
  induction a with
  | nil => intro b _; cases b <;> rfl
  | cons c r ih =>
    intro b h
    cases b with
    | nil => simp [Op.bytesLess] at h
    | cons d s =>
      simp only [Op.bytesLess, Bool.or_eq_true, Bool.and_eq_true, decide_eq_true_eq, beq_iff_eq] at h
      simp only [Op.bytesLess, Bool.or_eq_false_iff, Bool.and_eq_false_iff, decide_eq_false_iff_not]
      rw [UInt8.lt_iff_toNat_lt] at *
      rcases h with h | ⟨rfl, h⟩
      · refine ⟨by omega, .inl (beq_eq_false_iff_ne.2 (fun e => ?_))⟩
        rw [e] at h; omega
      · exact ⟨by omega, .inr (ih s h)⟩
theorem bytesLess_total (a : List UInt8) : ∀ b, Op.bytesLess a b = false → Op.bytesLess b a = false → a = b := by
  induction a with
  | nil =>
    intro b h _
    cases b with
    | nil => rfl
    | cons d s => simp [Op.bytesLess] at h
  | cons c r ih =>
    intro b h k
    cases b with
    | nil => simp [Op.bytesLess] at k
    | cons d s =>
      simp only [Op.bytesLess, Bool.or_eq_false_iff, Bool.and_eq_false_iff, decide_eq_false_iff_not] at h k
      rw [UInt8.lt_iff_toNat_lt] at h k
      have e : c = d := UInt8.toNat_inj.1 (by omega)
      subst e
      rw [ih s (by simpa using h.2) (by simpa using k.2)]
theorem bytesLess_trans (a : List UInt8) : ∀ b c, Op.bytesLess a b = true → Op.bytesLess b c = true → Op.bytesLess a c = true := by
  induction a with
  | nil =>
    intro b c _ k
    cases c with
    | nil => simp [Op.bytesLess] at k
    | cons d s => rfl
  | cons x r ih =>
    intro b c h k
    cases b with
    | nil => simp [Op.bytesLess] at h
    | cons y s =>
      cases c with
      | nil => simp [Op.bytesLess] at k
      | cons z t =>
        simp only [Op.bytesLess, Bool.or_eq_true, Bool.and_eq_true, decide_eq_true_eq, beq_iff_eq] at h k ⊢
        rw [UInt8.lt_iff_toNat_lt] at *
        rcases h with h | ⟨rfl, h⟩
        · rcases k with k | ⟨rfl, k⟩
          · left; omega
          · left; exact h
        · rcases k with k | ⟨rfl, k⟩
          · left; exact k
          · right; exact ⟨rfl, ih s t h k⟩
theorem cmpL_cases (a b : List UInt8) : (cmpL a b = -1 ∧ Op.bytesLess a b = true ∧ Op.bytesLess b a = false) ∨ (cmpL a b = 1 ∧ Op.bytesLess a b = false ∧ Op.bytesLess b a = true) ∨ (cmpL a b = 0 ∧ a = b) := by
  unfold cmpL
  cases h : Op.bytesLess a b with
  | true => left; exact ⟨rfl, rfl, bytesLess_asym a b h⟩
  | false =>
    cases k : Op.bytesLess b a with
    | true => right; left; exact ⟨rfl, rfl, rfl⟩
    | false => right; right; exact ⟨rfl, bytesLess_total a b h k⟩
theorem cmpL_self (a : List UInt8) : cmpL a a = 0 := by unfold cmpL; rw [bytesLess_irr]; rfl
theorem cmpL_turn (a b : List UInt8) : cmpL b a = -(cmpL a b) := by
  rcases cmpL_cases a b with ⟨h, h1, h2⟩ | ⟨h, h1, h2⟩ | ⟨h, rfl⟩
  · rw [h]; unfold cmpL; rw [h1, h2]; rfl
  · rw [h]; unfold cmpL; rw [h2]; rfl
  · rw [h]; rfl
theorem cmpL_le (a b : List UInt8) : cmpL a b ≤ 0 ↔ Op.bytesLess b a = false := by
  rcases cmpL_cases a b with ⟨h, h1, h2⟩ | ⟨h, h1, h2⟩ | ⟨h, rfl⟩
  · rw [h, h2]; simp
  · rw [h, h2]; simp
  · rw [h, bytesLess_irr]; simp
theorem cmpL_trans (a b c : List UInt8) (h : cmpL a b ≤ 0) (k : cmpL b c ≤ 0) : cmpL a c ≤ 0 := by
  rw [cmpL_le] at *
  cases e : Op.bytesLess c a with
  | false => rfl
  | true =>
    exfalso
    rcases cmpL_cases a b with ⟨_, h1, _⟩ | ⟨_, _, h2⟩ | ⟨_, rfl⟩
    · have := bytesLess_trans c a b e h1
      rw [k] at this; cases this
    · rw [h] at h2; cases h2
    · rw [k] at e; cases e
theorem cmpI_turn (x y : Int) : cmpI y x = -(cmpI x y) := by
  by_cases h : x < y
  · have k : ¬ y < x := by omega
    simp [cmpI, h, k]
  · by_cases k : y < x
    · simp [cmpI, h, k]
    · simp [cmpI, h, k]
theorem cmpI_le (x y : Int) : cmpI x y ≤ 0 ↔ x ≤ y := by
  unfold cmpI
  by_cases h : x < y
  · rw [if_pos h]; omega
  · rw [if_neg h]
    by_cases k : y < x
    · rw [if_pos k]; omega
    · rw [if_neg k]; omega
theorem cmpI_trans (x y z : Int) (h : cmpI x y ≤ 0) (k : cmpI y z ≤ 0) : cmpI x z ≤ 0 := by rw [cmpI_le] at *; omega
theorem cmpI_self (x : Int) : cmpI x x = 0 := by unfold cmpI; simp
theorem cmpI_range (x y : Int) : cmpI x y = -1 ∨ cmpI x y = 0 ∨ cmpI x y = 1 := by unfold cmpI; split <;> (try split) <;> omega
theorem cmpL_range (a b : List UInt8) : cmpL a b = -1 ∨ cmpL a b = 0 ∨ cmpL a b = 1 := by
  rcases cmpL_cases a b with ⟨h, _⟩ | ⟨h, _⟩ | ⟨h, _⟩ <;> omega
theorem compareD_range (a b : List UInt8) : compareD a b = -1 ∨ compareD a b = 0 ∨ compareD a b = 1 := by
  unfold compareD
  split
  · exact cmpI_range _ _
  · exact cmpL_range _ _
theorem compareD_turn (a b : List UInt8) : compareD b a = -(compareD a b) := by
  unfold compareD
  rw [Bool.and_comm]
  split
  · exact cmpI_turn _ _
  · exact cmpL_turn _ _
theorem compareD_self (a : List UInt8) : compareD a a = 0 := by
  unfold compareD
  split
  · exact cmpI_self _
  · exact cmpL_self _
theorem compareD_trans (a b c : List UInt8) (hab : (looksD a).2 = (looksD b).2) (hbc : (looksD b).2 = (looksD c).2) (h : compareD a b ≤ 0) (k : compareD b c ≤ 0) : compareD a c ≤ 0 := by
  unfold compareD at *
  rw [hab, hbc] at *
  cases e : (looksD c).2 with
  | true =>
    rw [e] at h k
    simp only [Bool.and_self, if_true] at h k ⊢
    exact cmpI_trans _ _ _ h k
  | false =>
    rw [e] at h k
    simp only [Bool.and_self] at h k ⊢
    exact cmpL_trans _ _ _ h k

/-! Numbers' texts look like them. -/
theorem looks_of (l : List UInt8) (n : Int) (u : Nat) (h : readD l = (n, (u : Int), 0)) (hb : (l.drop u).all isBlk = true) : looksD l = (n, true) := by
  unfold looksD
  rw [h]
  simp only [Int.toNat_natCast]
  rw [if_pos ⟨trivial, hb⟩]
theorem looks_no (l : List UInt8) (n : Int) (u : Nat) (h : readD l = (n, (u : Int), 0)) (hb : (l.drop u).all isBlk = false) : looksD l = (0, false) := by
  unfold looksD
  rw [h]
  simp only [Int.toNat_natCast]
  rw [if_neg (by rw [hb]; simp)]
theorem looks_text (n : Int) (k m : Nat) (hn : -9223372036854775808 ≤ n ∧ n ≤ 9223372036854775807) : looksD (List.replicate k 32 ++ textL n ++ List.replicate m 9) = (n, true) := by
  have hm : noFg (List.replicate m (9 : UInt8)) := by
    intro c r h
    cases m with
    | zero => cases h
    | succ m => rw [List.replicate_succ] at h; cases h; decide
  have hp : (List.replicate m (9 : UInt8)).head? ≠ some 46 := by cases m <;> simp [List.replicate_succ]
  refine looks_of _ n _ (read_text n k _ hn hm hp) ?_
  rw [List.drop_left']
  · rw [List.all_eq_true]; intro c h; rw [List.eq_of_mem_replicate h]; decide
  · rfl
theorem looks_x (n : Int) (k m : Nat) (hn : -9223372036854775808 ≤ n ∧ n ≤ 9223372036854775807) :
    looksD (List.replicate k 32 ++ textL n ++ List.replicate m 9 ++ [120]) = (0, false) ∧ numberD (List.replicate k 32 ++ textL n ++ List.replicate m 9 ++ [120]) = (n, 0) := by
  have hm : noFg (List.replicate m (9 : UInt8) ++ [120]) := by
    intro c r h
    cases m with
    | zero => cases h; decide
    | succ m => rw [List.replicate_succ] at h; cases h; decide
  have hp : (List.replicate m (9 : UInt8) ++ [120]).head? ≠ some 46 := by cases m <;> simp [List.replicate_succ]
  have h := read_text n k (List.replicate m 9 ++ [120]) hn hm hp
  rw [← List.append_assoc] at h
  constructor
  · refine looks_no _ n _ h ?_
    rw [List.append_assoc, List.drop_left']
    · rw [List.all_append]; simp [isBlk]
    · rfl
  · unfold numberD; rw [h]; rfl
end Go.Proofs.YtokfkckfclnoaaaGreatDoor
