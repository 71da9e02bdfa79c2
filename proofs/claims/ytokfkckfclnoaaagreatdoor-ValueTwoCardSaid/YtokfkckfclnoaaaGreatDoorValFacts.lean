/- What numbers' texts, and texts that are none, look like, as plain facts. No condition; no program stands in this file. -/
import Derived.Test.YtokfkckfclnoaaaGreatDoorValMath
namespace Go.Proofs.YtokfkckfclnoaaaGreatDoor
open Go.RowKit Go.Lib

theorem read_text0 (n : Int) (hn : -9223372036854775808 ≤ n ∧ n ≤ 9223372036854775807) : readD (textL n) = (n, ((textL n).length : Int), 0) := by
  have := read_text n 0 [] hn (fun c r h => by cases h) (by simp)
  simpa using this
theorem looks_text0 (n : Int) (hn : -9223372036854775808 ≤ n ∧ n ≤ 9223372036854775807) : looksD (textL n) = (n, true) :=
  looks_of _ n _ (read_text0 n hn) (by rw [List.drop_length]; rfl)
theorem number_text (n : Int) (hn : -9223372036854775808 ≤ n ∧ n ≤ 9223372036854775807) : numberD (textL n) = (n, 0) := by unfold numberD; rw [read_text0 n hn]; rfl
theorem truth_text (n : Int) (hn : -9223372036854775808 ≤ n ∧ n ≤ 9223372036854775807) : truthD (textL n) = !(n == 0) := by unfold truthD; rw [looks_text0 n hn]; rfl
theorem low_text (n : Int) (hn : -9223372036854775808 ≤ n ∧ n ≤ 9223372036854775807) : lowD (textL n) = (n.tdiv 1000000 % 256, 0) := by unfold lowD; rw [number_text n hn]; rfl
theorem compare_text (a b : Int) (ha : -9223372036854775808 ≤ a ∧ a ≤ 9223372036854775807) (hb : -9223372036854775808 ≤ b ∧ b ≤ 9223372036854775807) : compareD (textL a) (textL b) = cmpI a b := by
  unfold compareD; rw [looks_text0 a ha, looks_text0 b hb]; rfl
theorem textL_zero0 : textL 0 = [48] := by
  have h1 : decDigits 0 = [48] := decDigits_small (by omega)
  show decDigits 0 ++ (if stripZ (frac 6 0) = [] then [] else 46 :: stripZ (frac 6 0)) = _
  rw [h1]; decide +kernel
theorem textL_zero (n : Int) (hn : -9223372036854775808 ≤ n ∧ n ≤ 9223372036854775807) : (textL n == [48]) = (n == 0) := by
  by_cases h : n = 0
  · rw [h, textL_zero0]; rfl
  · rw [show (n == 0) = false from beq_eq_false_iff_ne.2 h]
    refine beq_eq_false_iff_ne.2 (fun e => h ?_)
    have h1 := number_text n hn
    rw [e, ← textL_zero0, number_text 0 (by omega)] at h1
    exact (congrArg Prod.fst h1).symm
theorem number_nil : numberD [] = (0, 0) := by decide +kernel
theorem read_letter (c : UInt8) (l : List UInt8) (h1 : [(32 : UInt8), 9].contains c = false) (h2 : isSgn c = false) (h3 : isFig c = false) (h4 : c ≠ 46) : readD (c :: l) = (0, 0, 2) := by
  have hA : atSign (c :: l) = c :: l := by
    unfold atSign trimLeftS
    rw [List.dropWhile_cons_of_neg (by rw [h1]; simp)]
  have hU : unsign (c :: l) = c :: l := by
    unfold unsign
    show List.drop (if isSgn c then [c] else []).length (c :: l) = _
    rw [h2]; rfl
  have hW : wholeP (c :: l) = [] := by
    unfold wholeP
    rw [hA, hU]
    unfold figs
    rw [List.takeWhile_cons_of_neg (by rw [h3]; simp)]
  have hP : (pointP (c :: l)).1 = [] := by
    unfold pointP
    rw [hA, hU]
    have hR : rest1 (c :: l) = c :: l := by
      unfold rest1 figs
      rw [List.takeWhile_cons_of_neg (by rw [h3]; simp)]; rfl
    rw [hR]
    unfold pointL
    rw [if_neg (by simpa using h4)]
  unfold readD
  rw [hW, hP]
  rfl
theorem looks_letter (c : UInt8) (l : List UInt8) (h1 : [(32 : UInt8), 9].contains c = false) (h2 : isSgn c = false) (h3 : isFig c = false) (h4 : c ≠ 46) : looksD (c :: l) = (0, false) := by
  unfold looksD
  rw [read_letter c l h1 h2 h3 h4, if_neg (by simp)]
theorem looks_120 (l : List UInt8) : looksD (120 :: l) = (0, false) := looks_letter 120 l (by decide) (by decide) (by decide) (by decide)
theorem looks_121 (l : List UInt8) : looksD (121 :: l) = (0, false) := looks_letter 121 l (by decide) (by decide) (by decide) (by decide)
theorem bytesLess_more (l m : List UInt8) (h : m ≠ []) : Op.bytesLess l (l ++ m) = true := by
  induction l with
  | nil =>
    cases m with
    | nil => exact absurd rfl h
    | cons c r => rfl
  | cons c r ih => simp [Op.bytesLess, ih]
theorem compare_more (l : List UInt8) : compareD (120 :: l) (120 :: l ++ [97]) = -1 := by
  unfold compareD
  rw [looks_120]
  show cmpL _ _ = -1
  unfold cmpL
  rw [bytesLess_more _ _ (by simp)]; rfl
theorem compare_yx (l : List UInt8) : compareD [121] (120 :: l) = 1 := by
  unfold compareD
  rw [looks_120, looks_121]
  have h : cmpL [121] (120 :: l) = 1 := by
    unfold cmpL
    rfl
  exact h
/-- What is reckoned looks like a number, and is its own text. -/
theorem opN_add0 (r : Int) (_hr : -9223372036854775808 ≤ r ∧ r ≤ 9223372036854775807) : (r + 0, (0 : Int)) = (r, 0) := by rw [Int.add_zero]
end Go.Proofs.YtokfkckfclnoaaaGreatDoor
