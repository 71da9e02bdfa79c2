/- The numeral that a text begins with, where its parts are known; a number's text read again. No condition; no program stands in this file. -/
import Derived.Test.YtokfkckfclnoaaaDoorDecMath
namespace Go.Proofs.YtokfkckfclnoaaaDoor
open Go.RowKit Go.Lib

theorem natOf_frac : ∀ (k : Nat) (x : List UInt8) (r : Nat), r < 10 ^ k → natOf (x ++ frac k r) = natOf x * 10 ^ k + r := by
  intro k
  induction k with
  | zero => intro x r h; simp at h; simp [frac, h]
  | succ k ih =>
    intro x r h
    have h1 : r / 10 < 10 ^ k := by rw [Nat.div_lt_iff_lt_mul (by omega)]; rw [Nat.pow_succ] at h; exact h
    have h2 : figV (UInt8.ofNat (48 + r % 10)) = r % 10 := by
      have : ∀ m : Fin 10, figV (UInt8.ofNat (48 + m.val)) = m.val := by decide +kernel
      exact this ⟨r % 10, by omega⟩
    rw [frac, ← List.append_assoc, natOf_snoc, ih x (r / 10) h1, h2, Nat.pow_succ, ← Nat.mul_assoc]
    omega
theorem dig_isFig (d : Nat) (h : d < 10) : isFig (UInt8.ofNat (48 + d)) = true := by
  have : ∀ m : Fin 10, isFig (UInt8.ofNat (48 + m.val)) = true := by decide +kernel
  exact this ⟨d, h⟩
theorem frac_figs : ∀ (k r : Nat), (frac k r).all isFig = true
  | 0, _ => rfl
  | k + 1, r => by rw [frac, List.all_append, frac_figs k, List.all_cons, List.all_nil, dig_isFig _ (by omega)]; rfl
theorem dec_figs (u : Nat) : (decDigits u).all isFig = true ∧ natOf (decDigits u) = u := by
  induction u using Nat.strongRecOn with
  | _ u ih =>
    by_cases h : u < 10
    · rw [decDigits_small h]
      refine ⟨by rw [List.all_cons, List.all_nil, dig_isFig u h]; rfl, ?_⟩
      have := natOf_frac 1 [] u (by omega)
      simpa [frac, natOf, Nat.mod_eq_of_lt h] using this
    · rw [decDigits_great h]
      obtain ⟨h1, h2⟩ := ih (u / 10) (by omega)
      refine ⟨by rw [List.all_append, h1, List.all_cons, List.all_nil, dig_isFig _ (by omega)]; rfl, ?_⟩
      have := natOf_frac 1 (decDigits (u / 10)) (u % 10) (by omega)
      rw [h2] at this
      simp only [frac, List.nil_append, Nat.mod_mod] at this
      rw [this]; omega
theorem dec_ne (u : Nat) : decDigits u ≠ [] := by
  intro h
  have h1 := congrArg List.length h
  rw [decDigits_length, List.length_nil] at h1
  have h2 := nDigits_pos u
  omega

/-- What stands behind is no figure. -/
def noFg (l : List UInt8) : Prop := ∀ c r, l = c :: r → isFig c = false
theorem figs_behind (a m : List UInt8) (ha : a.all isFig = true) (hm : noFg m) : figs (a ++ m) = a := by
  cases m with
  | nil => rw [List.append_nil, figs_all a ha]
  | cons c r => exact figs_stop a r c ha (hm c r rfl)
theorem rest1_behind (a m : List UInt8) (ha : a.all isFig = true) (hm : noFg m) : rest1 (a ++ m) = m := by
  unfold rest1
  rw [figs_behind a m ha hm, List.drop_left']
  rfl
theorem atSign_blanks (k : Nat) (c : UInt8) (r : List UInt8) (hc : [(32 : UInt8), 9].contains c = false) : atSign (List.replicate k 32 ++ c :: r) = c :: r := by
  unfold atSign trimLeftS
  induction k with
  | zero =>
    rw [List.replicate_zero, List.nil_append, List.dropWhile_cons_of_neg]
    rw [hc]; simp
  | succ k ih => rw [List.replicate_succ, List.cons_append, List.dropWhile_cons_of_pos (by decide), ih]

theorem fig_plain (c : UInt8) (h : isFig c = true) : [(32 : UInt8), 9].contains c = false ∧ isSgn c = false ∧ c ≠ 46 := by
  have hh : ∀ m : Fin 256, isFig (UInt8.ofNat m.val) = true → [(32 : UInt8), 9].contains (UInt8.ofNat m.val) = false ∧ isSgn (UInt8.ofNat m.val) = false ∧ UInt8.ofNat m.val ≠ 46 := by decide +kernel
  have := hh ⟨c.toNat, c.toNat_lt⟩
  simp at this
  simpa using this (by simpa using h)

/-- The point and the figures behind it, if there is one. -/
def ptL (point : Bool) (fr : List UInt8) : List UInt8 := if point then 46 :: fr else []

theorem parts_of (k : Nat) (sg wh fr more : List UInt8) (point : Bool) (hsg : sg = [] ∨ sg = [45] ∨ sg = [43]) (hw : wh ≠ []) (hf : wh.all isFig = true) (hff : fr.all isFig = true)
    (hp : point = false → fr = []) (hm : noFg more) (hmp : point = false → more.head? ≠ some 46) :
    signL (atSign (List.replicate k 32 ++ (sg ++ (wh ++ (ptL point fr ++ more))))) = sg ∧
    wholeP (List.replicate k 32 ++ (sg ++ (wh ++ (ptL point fr ++ more)))) = wh ∧
    pointP (List.replicate k 32 ++ (sg ++ (wh ++ (ptL point fr ++ more)))) = (fr, more) := by
  obtain ⟨c, w1, rfl⟩ : ∃ c w1, wh = c :: w1 := by
    cases wh with
    | nil => exact absurd rfl hw
    | cons c w1 => exact ⟨c, w1, rfl⟩
  have hc : isFig c = true := by simp only [List.all_cons, Bool.and_eq_true] at hf; exact hf.1
  obtain ⟨c1, c2, c3⟩ := fig_plain c hc
  have hA : atSign (List.replicate k 32 ++ (sg ++ (c :: w1 ++ (ptL point fr ++ more)))) = sg ++ (c :: w1 ++ (ptL point fr ++ more)) := by
    rcases hsg with rfl | rfl | rfl
    · exact atSign_blanks k c _ c1
    · exact atSign_blanks k 45 _ (by decide)
    · exact atSign_blanks k 43 _ (by decide)
  have hS : signL (sg ++ (c :: w1 ++ (ptL point fr ++ more))) = sg := by
    rcases hsg with rfl | rfl | rfl
    · show (if isSgn c then [c] else []) = []
      rw [c2]; rfl
    · rfl
    · rfl
  have hU : unsign (sg ++ (c :: w1 ++ (ptL point fr ++ more))) = c :: w1 ++ (ptL point fr ++ more) := by
    unfold unsign
    rw [hS, List.drop_left']
    rfl
  have hN : noFg (ptL point fr ++ more) := by
    cases point with
    | false => exact hm
    | true =>
      intro d r h
      have : d = 46 := by
        have := congrArg List.head? h
        simp [ptL] at this
        exact this.symm
      rw [this]; decide
  have hW : wholeP (List.replicate k 32 ++ (sg ++ (c :: w1 ++ (ptL point fr ++ more)))) = c :: w1 := by
    unfold wholeP
    rw [hA, hU, figs_behind _ _ hf hN]
  refine ⟨by rw [hA, hS], hW, ?_⟩
  unfold pointP
  rw [hA, hU, rest1_behind _ _ hf hN]
  unfold pointL
  cases point with
  | false =>
    rw [hp rfl]
    show (if more.head? = some 46 then _ else _) = _
    rw [if_neg (hmp rfl)]
    rfl
  | true =>
    show (if (46 :: fr ++ more).head? = some 46 then (figs (46 :: fr ++ more).tail, rest1 (46 :: fr ++ more).tail) else ([], 46 :: fr ++ more)) = _
    have h46 : (46 :: fr ++ more).head? = some 46 := rfl
    rw [if_pos h46]
    show (figs (fr ++ more), rest1 (fr ++ more)) = _
    rw [figs_behind _ _ hff hm, rest1_behind _ _ hff hm]

theorem zeros6_take (l : List UInt8) (k : Nat) (h : (l ++ List.replicate k 48).length = 6) : (l ++ zeros6).take 6 = l ++ List.replicate k 48 := by
  rw [List.length_append, List.length_replicate] at h
  have hz : zeros6 = List.replicate 6 48 := rfl
  rw [List.take_append, List.take_of_length_le (by omega), hz, List.take_replicate, show min (6 - l.length) 6 = k by omega]

/-- A numeral of the parts of a number: read as it. -/
theorem read_of (n : Int) (u k : Nat) (hn : -9223372036854775808 ≤ n ∧ n ≤ 9223372036854775807) (hu : u = n.natAbs) (sg z fr more : List UInt8) (point : Bool)
    (hsg : n < 0 ∧ sg = [45] ∨ 0 ≤ n ∧ (sg = [] ∨ sg = [43])) (hz : z.all isFig = true) (hz0 : natOf z = 0) (hff : fr.all isFig = true)
    (hfr : (fr ++ zeros6).take 6 = frac 6 (u % 1000000))
    (hp : point = false → fr = []) (hm : noFg more) (hmp : point = false → more.head? ≠ some 46) :
    readD (List.replicate k 32 ++ (sg ++ ((z ++ decDigits (u / 1000000)) ++ (ptL point fr ++ more)))) = (n, ((List.replicate k 32 ++ (sg ++ ((z ++ decDigits (u / 1000000)) ++ (ptL point fr)))).length : Int), 0) := by
  have hd := dec_figs (u / 1000000)
  have hv : natOf ((z ++ decDigits (u / 1000000)) ++ frac 6 (u % 1000000)) = u := by
    rw [natOf_frac 6 _ _ (Nat.mod_lt _ (by omega))]
    have h2 : natOf (z ++ decDigits (u / 1000000)) = u / 1000000 := by
      have h3 : ∀ l : List UInt8, natOf (z ++ l) = l.foldl (fun a c => 10 * a + figV c) (natOf z) := fun l => by unfold natOf; rw [List.foldl_append]
      rw [h3, hz0]
      exact hd.2
    rw [h2]; omega
  obtain ⟨p1, p2, p3⟩ := parts_of k sg (z ++ decDigits (u / 1000000)) fr more point
    (by rcases hsg with ⟨_, h⟩ | ⟨_, h | h⟩ <;> simp [h]) (by simp [dec_ne]) (by rw [List.all_append, hz, hd.1]; rfl) hff hp hm hmp
  have hnum : numP (List.replicate k 32 ++ (sg ++ ((z ++ decDigits (u / 1000000)) ++ (ptL point fr ++ more)))) = (n, 0) := by
    unfold numP
    rw [p1, p2, p3, hfr, hv]
    unfold numD
    rcases hsg with ⟨h, rfl⟩ | ⟨h, rfl | rfl⟩
    · rw [if_pos (by decide), if_pos (by omega), hu]; congr 1; omega
    · rw [if_neg (by decide), if_pos (by omega), hu]; congr 1; omega
    · rw [if_neg (by decide), if_pos (by omega), hu]; congr 1; omega
  unfold readD
  rw [p2, p3, hnum, if_neg (by simp [dec_ne]), if_pos rfl]
  unfold usedP
  rw [p3]
  congr 2
  simp only [List.length_append]
  omega

theorem text_parts (n : Int) : ∃ (sg fr : List UInt8) (point : Bool), (n < 0 ∧ sg = [45] ∨ 0 ≤ n ∧ sg = []) ∧ textL n = sg ++ (decDigits (n.natAbs / 1000000) ++ ptL point fr) ∧
    fr.all isFig = true ∧ (fr ++ zeros6).take 6 = frac 6 (n.natAbs % 1000000) ∧ (point = false → fr = []) ∧ fr = stripZ (frac 6 (n.natAbs % 1000000)) ∧ (point = true → fr ≠ []) := by
  obtain ⟨fr, hfr⟩ : ∃ fr, fr = stripZ (frac 6 (n.natAbs % 1000000)) := ⟨_, rfl⟩
  obtain ⟨k, hk, _⟩ := stripZ_fill (frac 6 (n.natAbs % 1000000))
  rw [← hfr] at hk
  have hlen := congrArg List.length hk
  rw [frac_length] at hlen
  have hff : fr.all isFig = true := by
    have := frac_figs 6 (n.natAbs % 1000000)
    rw [hk, List.all_append, Bool.and_eq_true] at this
    exact this.1
  have ht : (fr ++ zeros6).take 6 = frac 6 (n.natAbs % 1000000) := by rw [hk]; exact zeros6_take fr k hlen.symm
  refine ⟨if n < 0 then [45] else [], fr, decide (fr ≠ []), ?_, ?_, hff, ht, ?_, hfr, ?_⟩
  · by_cases h : n < 0
    · left; exact ⟨h, if_pos h⟩
    · right; exact ⟨by omega, if_neg h⟩
  · unfold textL textU ptL
    rw [← hfr]
    by_cases h : n < 0 <;> by_cases h2 : fr = [] <;> simp [h, h2]
  · intro h; simpa using h
  · intro h; simpa using h

/-- A number's text, with blanks ahead and something behind: read as it. -/
theorem read_text (n : Int) (k : Nat) (more : List UInt8) (hn : -9223372036854775808 ≤ n ∧ n ≤ 9223372036854775807) (hm : noFg more) (hmp : more.head? ≠ some 46) :
    readD (List.replicate k 32 ++ textL n ++ more) = (n, ((List.replicate k 32 ++ textL n).length : Int), 0) := by
  obtain ⟨sg, fr, point, hsg, ht, hff, hfr, hp, _⟩ := text_parts n
  have := read_of n n.natAbs k hn rfl sg [] fr more point (by rcases hsg with h | h; exact .inl h; exact .inr ⟨h.1, .inl h.2⟩) rfl rfl hff hfr hp hm (fun _ => hmp)
  rw [List.nil_append] at this
  rw [ht]
  simp only [List.append_assoc] at this ⊢
  exact this
end Go.Proofs.YtokfkckfclnoaaaDoor
