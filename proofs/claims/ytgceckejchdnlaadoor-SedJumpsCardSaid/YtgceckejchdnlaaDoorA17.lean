/- Packed texts: SeMath, SeScr, ReKids. What each of them proves stands above its theorems; the conditions stand in these. -/
import Derived.Test.YtgceckejchdnlaaDoorA0
import Derived.Test.YtgceckejchdnlaaDoorA12
import Derived.Test.YtgceckejchdnlaaDoorA13
import Derived.Test.YtgceckejchdnlaaDoorA15
namespace Go.Proofs.YtgceckejchdnlaaDoor
open Go.RowKit Go.Lib

/-- Texts that begin with what ends a command. -/
def Sep (x : List UInt8) : Prop := ∃ c r, x = c :: r ∧ (c = 59 ∨ c = 10)
theorem partL_47 (l : List UInt8) : partL (47 :: l) = some ([], l) := by unfold partL; rw [if_pos rfl]
theorem partL_esc (d : UInt8) (l : List UInt8) : partL (92 :: d :: l) = (partL l).map fun p => (92 :: d :: p.1, p.2) := by
  rw [partL.eq_def]
  dsimp only
  rw [if_neg (by decide), if_pos rfl]
theorem partL_92 : partL [92] = none := by
  rw [partL.eq_def]
  dsimp only
  rw [if_neg (by decide), if_pos rfl]
theorem partL_other {c : UInt8} (l : List UInt8) (h1 : c ≠ 47) (h2 : c ≠ 92) : partL (c :: l) = (partL l).map fun p => (c :: p.1, p.2) := by
  rw [partL.eq_def]
  dsimp only
  rw [if_neg h1, if_neg h2]
theorem partL_app : ∀ (l x p r : List UInt8), partL l = some (p, r) → partL (l ++ x) = some (p, r ++ x)
  | [], _, _, _, h => by cases h
  | c :: l, x, p, r, h => by
    unfold partL at h
    show partL (c :: (l ++ x)) = _
    unfold partL
    by_cases h1 : c = 47
    · rw [if_pos h1] at h ⊢
      cases h; rfl
    · rw [if_neg h1] at h ⊢
      by_cases h2 : c = 92
      · rw [if_pos h2] at h ⊢
        cases l with
        | nil => cases h
        | cons d l' =>
          dsimp only [List.cons_append] at h ⊢
          cases hp : partL l' with
          | none => rw [hp] at h; cases h
          | some q =>
            obtain ⟨q1, q2⟩ := q
            rw [hp] at h
            rw [partL_app l' x q1 q2 hp]
            cases h; rfl
      · rw [if_neg h2] at h ⊢
        cases hp : partL l with
        | none => rw [hp] at h; cases h
        | some q =>
          obtain ⟨q1, q2⟩ := q
          rw [hp] at h
          rw [partL_app l x q1 q2 hp]
          cases h; rfl
theorem tw_app (p : UInt8 → Bool) (c : UInt8) (r : List UInt8) (h : p c = false) : ∀ l : List UInt8, (l ++ c :: r).takeWhile p = l.takeWhile p ∧ (l ++ c :: r).dropWhile p = l.dropWhile p ++ c :: r
  | [] => by simp [h]
  | d :: l => by
    have := tw_app p c r h l
    cases hd : p d
    · simp [List.takeWhile, List.dropWhile, hd]
    · simp only [List.cons_append, List.takeWhile, List.dropWhile, hd, this.1, this.2]
      exact ⟨trivial, trivial⟩
theorem sep_not (p : UInt8 → Bool) (h1 : p 59 = false) (h2 : p 10 = false) {x : List UInt8} (hx : Sep x) (l : List UInt8) : (l ++ x).takeWhile p = l.takeWhile p ∧ (l ++ x).dropWhile p = l.dropWhile p ++ x := by
  obtain ⟨c, r, rfl, rfl | rfl⟩ := hx
  · exact tw_app p 59 r h1 l
  · exact tw_app p 10 r h2 l
theorem treeP_app {R : List UInt8 → Res} {l x r : List UInt8} {t : Tr} (h : treeP R l = .ok t r) : treeP R (l ++ x) = .ok t (r ++ x) := by
  unfold treeP at h ⊢
  cases hp : partL l with
  | none => rw [hp] at h; cases h
  | some q =>
    obtain ⟨p, r'⟩ := q
    rw [hp] at h
    rw [partL_app l x p r' hp]
    dsimp only at h ⊢
    cases hR : R p with
    | ok t' l' => rw [hR] at h; cases h; rfl
    | bad e => rw [hR] at h; cases h
theorem putP_app {l x r : List UInt8} {ys : List (List UInt8)} (h : putP l = .ok ys r) : putP (l ++ x) = .ok ys (r ++ x) := by
  unfold putP at h ⊢
  cases hp : partL l with
  | none => rw [hp] at h; cases h
  | some q =>
    obtain ⟨p, r'⟩ := q
    rw [hp] at h
    rw [partL_app l x p r' hp]
    dsimp only at h ⊢
    cases hR : readD' p with
    | some t' => rw [hR] at h; cases h; rfl
    | none => rw [hR] at h; cases h
theorem lineP_app {l x r : List UInt8} {n : Nat} (hx : Sep x) (h : lineP l = .ok n r) : lineP (l ++ x) = .ok n (r ++ x) := by
  unfold lineP at h ⊢
  have hf : figs (l ++ x) = figs l := (sep_not isFig rfl rfl hx l).1
  rw [hf]
  split at h
  · rename_i h1
    cases h
    rw [if_pos h1, List.drop_append_of_le_length (figs_length_le l)]
  · cases h
theorem adP_app {R : List UInt8 → Res} {l x r : List UInt8} {a : Ad} (hx : Sep x) (h : adP R l = .ok a r) : adP R (l ++ x) = .ok a (r ++ x) := by
  cases l with
  | nil =>
    cases h
    obtain ⟨c, r, rfl, rfl | rfl⟩ := hx <;> rfl
  | cons c l =>
    unfold adP at h
    show adP R (c :: (l ++ x)) = _
    unfold adP
    dsimp only at h ⊢
    by_cases h1 : c = 36
    · rw [if_pos h1] at h ⊢; cases h; rfl
    · rw [if_neg h1] at h ⊢
      by_cases h2 : c = 47
      · rw [if_pos h2] at h ⊢
        cases ht : treeP R l with
        | ok t r' => rw [ht] at h; rw [treeP_app ht]; cases h; rfl
        | bad e => rw [ht] at h; cases h
      · rw [if_neg h2] at h ⊢
        cases h3 : isFig c
        · rw [h3] at h; simp only [Bool.false_eq_true, if_false] at h ⊢; cases h; rfl
        · rw [h3] at h; simp only [if_true] at h ⊢
          cases ht : lineP (c :: l) with
          | ok n r' =>
            rw [ht] at h
            have := lineP_app hx ht
            rw [List.cons_append] at this
            rw [this]; cases h; rfl
          | bad e => rw [ht] at h; cases h
theorem blk_app {x : List UInt8} (hx : Sep x) (l : List UInt8) : blk (l ++ x) = blk l ++ x := (sep_not (· == 32) rfl rfl hx l).2
theorem labP_app {l x r y : List UInt8} (hx : Sep x) (h : labP l = .ok y r) : labP (l ++ x) = .ok y (r ++ x) := by
  cases l with
  | nil => cases h
  | cons c l =>
    unfold labP at h
    show labP (c :: (l ++ x)) = _
    unfold labP
    dsimp only at h ⊢
    cases hc : isLet c
    · rw [hc] at h; cases h
    · rw [hc] at h
      simp only [if_true] at h ⊢
      obtain ⟨h1, h2⟩ := sep_not restOk rfl rfl hx l
      rw [h1, h2]; cases h; rfl
theorem flagP_app {x : List UInt8} (hx : Sep x) : ∀ (l : List UInt8) (a p : Bool), flagP a p (l ++ x) = ((flagP a p l).1, (flagP a p l).2.1, (flagP a p l).2.2 ++ x)
  | [], a, p => by
    obtain ⟨c, r, rfl, rfl | rfl⟩ := hx <;> simp [flagP]
  | c :: l, a, p => by
    show flagP a p (c :: (l ++ x)) = _
    unfold flagP
    by_cases h1 : c = 103 ∧ a = false
    · rw [if_pos h1, if_pos h1]; exact flagP_app hx l true p
    · rw [if_neg h1, if_neg h1]
      by_cases h2 : c = 112 ∧ p = false
      · rw [if_pos h2, if_pos h2]; exact flagP_app hx l a true
      · rw [if_neg h2, if_neg h2]; rfl
theorem endedB_app {l x : List UInt8} (hx : Sep x) (_h : endedB l = true) : endedB (l ++ x) = true := by
  cases l with
  | nil => obtain ⟨c, r, rfl, rfl | rfl⟩ := hx <;> rfl
  | cons c l => exact _h
theorem endedB_no {l x : List UInt8} (h : endedB l = false) : endedB (l ++ x) = false := by
  cases l with
  | nil => cases h
  | cons c l => exact h
theorem got_bind {α β : Type} {x : Got α} {f : α → List UInt8 → Got β} {b : β} {r : List UInt8} (h : x.bind f = .ok b r) : ∃ a l, x = .ok a l ∧ f a l = .ok b r := by
  cases x with
  | ok a l => exact ⟨a, l, rfl, h⟩
  | bad e => cases h
theorem letP_app {R : List UInt8 → Res} {a b : Ad} {neg : Bool} {l x r : List UInt8} {c : Cm} (hx : Sep x) (h : letP R a b neg l = .ok c r) : letP R a b neg (l ++ x) = .ok c (r ++ x) := by
  cases l with
  | nil => cases h
  | cons o l =>
    unfold letP at h
    show letP R a b neg (o :: (l ++ x)) = _
    unfold letP
    dsimp only at h ⊢
    by_cases h1 : o = 115
    · rw [if_pos h1] at h ⊢
      cases l with
      | nil => cases h
      | cons d l1 =>
        dsimp only [List.cons_append] at h ⊢
        by_cases h2 : d = 47
        · rw [if_pos h2] at h ⊢
          obtain ⟨t, l2, ht, h⟩ := got_bind h
          obtain ⟨ys, l3, hy, h⟩ := got_bind h
          rw [treeP_app ht]
          show (putP (l2 ++ x)).bind _ = _
          rw [putP_app hy]
          dsimp only [Got.bind]
          rw [flagP_app hx l3]
          cases h; rfl
        · rw [if_neg h2] at h; cases h
    · rw [if_neg h1] at h ⊢
      by_cases h3 : o = 98 ∨ o = 116
      · rw [if_pos h3] at h ⊢
        rw [blk_app hx]
        cases he : endedB (blk l)
        · rw [endedB_no he]
          rw [he] at h
          simp only [Bool.false_eq_true, if_false] at h ⊢
          obtain ⟨y, r', hy, h⟩ := got_bind h
          rw [labP_app hx hy]
          cases h; rfl
        · rw [endedB_app hx he]
          rw [he] at h
          simp only [if_true] at h ⊢
          cases h; rfl
      · rw [if_neg h3] at h ⊢
        by_cases h4 : o = 58
        · rw [if_pos h4] at h ⊢
          by_cases h5 : a.k = 0 ∧ neg = false
          · rw [if_pos h5] at h ⊢
            obtain ⟨y, r', hy, h⟩ := got_bind h
            rw [labP_app hx hy]
            cases h; rfl
          · rw [if_neg h5] at h; cases h
        · rw [if_neg h4] at h ⊢
          split at h
          · rename_i h6; rw [if_pos h6]; cases h; rfl
          · cases h
theorem secP_app {R : List UInt8 → Res} {a b : Ad} {l x r : List UInt8} (hx : Sep x) (h : secP R a l = .ok b r) : secP R a (l ++ x) = .ok b (r ++ x) := by
  unfold secP at h ⊢
  cases l with
  | nil =>
    rw [if_neg (by simp)] at h
    rw [if_neg (by obtain ⟨c, r, rfl, rfl | rfl⟩ := hx <;> simp)]
    cases h; rfl
  | cons c l =>
    by_cases h1 : a.k ≠ 0 ∧ (c :: l).head? = some 44
    · rw [if_pos h1] at h
      rw [if_pos (by simpa using h1)]
      obtain ⟨b', r', hb, h⟩ := got_bind h
      have hb2 : adP R l = .ok b' r' := hb
      show (adP R (l ++ x)).bind _ = _
      rw [adP_app hx hb2]
      show (if b'.k = 0 then Got.bad 9 else Got.ok b' (r' ++ x)) = _
      split at h
      · cases h
      · rename_i h2; rw [if_neg h2]; cases h; rfl
    · rw [if_neg h1] at h
      rw [if_neg (by simpa using h1)]
      cases h; rfl
theorem notB_app {x : List UInt8} (hx : Sep x) (l : List UInt8) : notB (l ++ x) = notB l := by
  unfold notB
  rw [blk_app hx]
  cases blk l with
  | nil => obtain ⟨c, r, rfl, rfl | rfl⟩ := hx <;> rfl
  | cons c r => rfl
theorem notL_app {x : List UInt8} (hx : Sep x) (l : List UInt8) : notL (l ++ x) = notL l ++ x := by
  unfold notL
  rw [blk_app hx]
  cases hb : blk l with
  | nil =>
    have h33 : x.head? ≠ some 33 := by obtain ⟨c, r, rfl, rfl | rfl⟩ := hx <;> simp
    rw [List.nil_append, if_neg h33, if_neg (by simp)]
    exact blk_app hx []
  | cons c r =>
    by_cases h : c = 33
    · rw [if_pos (by simp [h]), if_pos (by simp [h])]
      exact blk_app hx r
    · rw [if_neg (by simp [h]), if_neg (by simp [h])]
      exact blk_app hx (c :: r)
theorem comP_app {R : List UInt8 → Res} {l x r : List UInt8} {c : Cm} (hx : Sep x) (h : comP R l = .ok c r) : comP R (l ++ x) = .ok c (r ++ x) := by
  unfold comP at h ⊢
  obtain ⟨a, l1, ha, h⟩ := got_bind h
  obtain ⟨b, l2, hb, h⟩ := got_bind h
  obtain ⟨c', l3, hc, h⟩ := got_bind h
  rw [adP_app hx ha]
  show (secP R a (l1 ++ x)).bind _ = _
  rw [secP_app hx hb]
  show (letP R a b (notB (l2 ++ x)) (notL (l2 ++ x))).bind _ = _
  rw [notB_app hx, notL_app hx, letP_app hx hc]
  show (if endedB (blk (l3 ++ x)) then Got.ok c' (blk (l3 ++ x)) else Got.bad 9) = _
  rw [blk_app hx]
  split at h
  · rename_i he
    rw [endedB_app hx he]
    cases h; rfl
  · cases h
end Go.Proofs.YtgceckejchdnlaaDoor
namespace Go.Proofs.YtgceckejchdnlaaDoor
open Go.RowKit Go.Lib

theorem partL_len : ∀ (l p r : List UInt8), partL l = some (p, r) → r.length < l.length
  | [], _, _, h => by cases h
  | c :: l, p, r, h => by
    unfold partL at h
    by_cases h1 : c = 47
    · rw [if_pos h1] at h; cases h; simp
    · rw [if_neg h1] at h
      by_cases h2 : c = 92
      · rw [if_pos h2] at h
        cases l with
        | nil => cases h
        | cons d l' =>
          dsimp only at h
          cases hp : partL l' with
          | none => rw [hp] at h; cases h
          | some q =>
            obtain ⟨q1, q2⟩ := q
            have := partL_len l' q1 q2 hp
            rw [hp] at h
            cases h
            simp only [List.length_cons]
            omega
      · rw [if_neg h2] at h
        cases hp : partL l with
        | none => rw [hp] at h; cases h
        | some q =>
          obtain ⟨q1, q2⟩ := q
          have := partL_len l q1 q2 hp
          rw [hp] at h
          cases h
          simp only [List.length_cons]
          omega
theorem treeP_len {R : List UInt8 → Res} {l r : List UInt8} {t : Tr} (h : treeP R l = .ok t r) : r.length < l.length := by
  unfold treeP at h
  cases hp : partL l with
  | none => rw [hp] at h; cases h
  | some q =>
    obtain ⟨p, r'⟩ := q
    have := partL_len l p r' hp
    rw [hp] at h
    dsimp only at h
    cases hR : R p with
    | ok t' l' => rw [hR] at h; cases h; exact this
    | bad e => rw [hR] at h; cases h
theorem putP_len {l r : List UInt8} {ys : List (List UInt8)} (h : putP l = .ok ys r) : r.length < l.length := by
  unfold putP at h
  cases hp : partL l with
  | none => rw [hp] at h; cases h
  | some q =>
    obtain ⟨p, r'⟩ := q
    have := partL_len l p r' hp
    rw [hp] at h
    dsimp only at h
    cases hR : readD' p with
    | some t' => rw [hR] at h; cases h; exact this
    | none => rw [hR] at h; cases h
theorem adP_len {R : List UInt8 → Res} {l r : List UInt8} {a : Ad} (h : adP R l = .ok a r) : r.length ≤ l.length := by
  cases l with
  | nil => cases h; exact Nat.le_refl _
  | cons c l =>
    unfold adP at h
    dsimp only at h
    split at h
    · cases h; simp
    · split at h
      · obtain ⟨t, r', ht, h⟩ := got_bind h
        have := treeP_len ht
        cases h
        simp only [List.length_cons]
        omega
      · split at h
        · obtain ⟨n, r', hn, h⟩ := got_bind h
          cases h
          unfold lineP at hn
          split at hn
          · cases hn; rw [List.length_drop]; omega
          · cases hn
        · cases h; exact Nat.le_refl _
theorem dw_len (p : UInt8 → Bool) : ∀ l : List UInt8, (l.dropWhile p).length ≤ l.length
  | [] => Nat.le_refl _
  | c :: l => by
    have := dw_len p l
    unfold List.dropWhile
    split <;> simp only [List.length_cons] <;> omega
theorem blk_len (l : List UInt8) : (blk l).length ≤ l.length := dw_len _ l
theorem secP_len {R : List UInt8 → Res} {a b : Ad} {l r : List UInt8} (h : secP R a l = .ok b r) : r.length ≤ l.length := by
  unfold secP at h
  split at h
  · obtain ⟨b', r', hb, h⟩ := got_bind h
    have := adP_len hb
    rw [List.length_tail] at this
    split at h
    · cases h
    · cases h; omega
  · cases h; exact Nat.le_refl _
theorem notL_len (l : List UInt8) : (notL l).length ≤ l.length := by
  unfold notL
  have h1 := blk_len l
  split
  · have := blk_len (blk l).tail
    rw [List.length_tail] at this
    omega
  · have := blk_len (blk l)
    omega
theorem labP_len {l r y : List UInt8} (h : labP l = .ok y r) : r.length < l.length := by
  cases l with
  | nil => cases h
  | cons c l =>
    unfold labP at h
    dsimp only at h
    split at h
    · cases h
      have := dw_len restOk l
      simp only [List.length_cons]
      omega
    · cases h
theorem flagP_len : ∀ (l : List UInt8) (a p : Bool), (flagP a p l).2.2.length ≤ l.length
  | [], _, _ => Nat.le_refl _
  | c :: l, a, p => by
    unfold flagP
    split
    · have := flagP_len l true p; simp only [List.length_cons]; omega
    · split
      · have := flagP_len l a true; simp only [List.length_cons]; omega
      · exact Nat.le_refl _
theorem letP_len {R : List UInt8 → Res} {a b : Ad} {neg : Bool} {l r : List UInt8} {c : Cm} (h : letP R a b neg l = .ok c r) : r.length < l.length := by
  cases l with
  | nil => cases h
  | cons o l =>
    unfold letP at h
    dsimp only at h
    simp only [List.length_cons]
    split at h
    · cases l with
      | nil => cases h
      | cons d l1 =>
        dsimp only at h
        split at h
        · obtain ⟨t, l2, ht, h⟩ := got_bind h
          obtain ⟨ys, l3, hy, h⟩ := got_bind h
          have h1 := treeP_len ht
          have h2 := putP_len hy
          cases h
          have h3 := flagP_len l3 false false
          simp only [List.length_cons]
          omega
        · cases h
    · have hb := blk_len l
      split at h
      · split at h
        · cases h; omega
        · obtain ⟨y, r', hy, h⟩ := got_bind h
          have := labP_len hy
          cases h; omega
      · split at h
        · split at h
          · obtain ⟨y, r', hy, h⟩ := got_bind h
            have := labP_len hy
            cases h; omega
          · cases h
        · split at h
          · cases h; omega
          · cases h
theorem comP_len {R : List UInt8 → Res} {l r : List UInt8} {c : Cm} (h : comP R l = .ok c r) : r.length < l.length := by
  unfold comP at h
  obtain ⟨a, l1, ha, h⟩ := got_bind h
  obtain ⟨b, l2, hb, h⟩ := got_bind h
  obtain ⟨c', l3, hc, h⟩ := got_bind h
  have h1 := adP_len ha
  have h2 := secP_len hb
  have h3 := letP_len hc
  have h4 := notL_len l2
  have h5 := blk_len l3
  split at h
  · cases h; omega
  · cases h
/-- What stands at a place, one step on. -/
def scrS (R : List UInt8 → Res) (go : List UInt8 → List Cm → All) (l : List UInt8) (cs : List Cm) : All :=
  match l with
  | [] => .ok cs
  | c :: l1 => if opensS.contains c = false then .bad 9 else if cs.length = 2000 then .bad 6 else
    match comP R (c :: l1) with
    | .ok d l2 => go l2 (cs ++ [d])
    | .bad e => .bad e
theorem scrP_eq (R : List UInt8 → Res) (f : Nat) (l : List UInt8) (cs : List Cm) : scrP R (f + 1) l cs = scrS R (scrP R f) (l.dropWhile sepS) cs := rfl
theorem scrP_fuel (R : List UInt8 → Res) : ∀ (f g : Nat) (l : List UInt8) (cs : List Cm), l.length < f → l.length < g → scrP R f l cs = scrP R g l cs
  | 0, _, _, _, h, _ => by omega
  | _ + 1, 0, _, _, _, h => by omega
  | f + 1, g + 1, l, cs, h1, h2 => by
    rw [scrP_eq, scrP_eq]
    have hd := dw_len sepS l
    cases hl : l.dropWhile sepS with
    | nil => rfl
    | cons c l1 =>
      rw [hl] at hd
      unfold scrS
      dsimp only
      split
      · rfl
      · split
        · rfl
        · cases hc : comP R (c :: l1) with
          | bad e => rfl
          | ok d l2 =>
            have := comP_len hc
            exact scrP_fuel R f g l2 _ (by omega) (by omega)
/-- All commands of a text, behind those that are there. -/
def scr (R : List UInt8 → Res) (l : List UInt8) (cs : List Cm) : All := scrP R (l.length + 1) l cs
theorem scr_eq (R : List UInt8 → Res) (l : List UInt8) (cs : List Cm) : scr R l cs = scrS R (scr R) (l.dropWhile sepS) cs := by
  have hd := dw_len sepS l
  unfold scr
  rw [scrP_eq]
  cases hl : l.dropWhile sepS with
  | nil => rfl
  | cons c l1 =>
    rw [hl] at hd
    unfold scrS
    dsimp only
    split
    · rfl
    · split
      · rfl
      · cases hc : comP R (c :: l1) with
        | bad e => rfl
        | ok d l2 =>
          have := comP_len hc
          exact scrP_fuel R _ _ l2 _ (by omega) (by omega)
theorem scr_drop (R : List UInt8 → Res) (l m : List UInt8) (cs : List Cm) (h : l.dropWhile sepS = m.dropWhile sepS) : scr R l cs = scr R m cs := by rw [scr_eq, scr_eq R m, h]
theorem scrS_ok {R : List UInt8 → Res} {go : List UInt8 → List Cm → All} {l : List UInt8} {cs ds : List Cm} (h : scrS R go l cs = .ok ds) : (l = [] ∧ ds = cs) ∨ ∃ c l1 d l2, l = c :: l1 ∧ opensS.contains c = true ∧ cs.length ≠ 2000 ∧ comP R (c :: l1) = .ok d l2 ∧ go l2 (cs ++ [d]) = .ok ds := by
  cases l with
  | nil => cases h; exact .inl ⟨rfl, rfl⟩
  | cons c l1 =>
    right
    unfold scrS at h
    dsimp only at h
    split at h
    · cases h
    · rename_i h1
      split at h
      · cases h
      · rename_i h2
        cases hc : comP R (c :: l1) with
        | bad e => rw [hc] at h; cases h
        | ok d l2 => rw [hc] at h; exact ⟨c, l1, d, l2, rfl, by simpa using h1, h2, hc, h⟩
theorem scrS_more {R : List UInt8 → Res} {go : List UInt8 → List Cm → All} {c : UInt8} {l1 l2 : List UInt8} {cs : List Cm} {d : Cm} (h1 : opensS.contains c = true) (h2 : cs.length ≠ 2000) (h3 : comP R (c :: l1) = .ok d l2) : scrS R go (c :: l1) cs = go l2 (cs ++ [d]) := by
  unfold scrS
  dsimp only
  rw [if_neg (by rw [h1]; simp), if_neg h2, h3]
theorem sepS_app {x : List UInt8} (c : UInt8) (r : List UInt8) : ∀ l : List UInt8, l.dropWhile sepS = c :: r → (l ++ x).dropWhile sepS = c :: (r ++ x)
  | [], h => by cases h
  | d :: l, h => by
    unfold List.dropWhile at h ⊢
    cases hd : sepS d
    · rw [hd] at h
      dsimp only [List.cons_append] at h ⊢
      rw [hd]
      cases h; rfl
    · rw [hd] at h
      dsimp only [List.cons_append] at h ⊢
      rw [hd]
      exact sepS_app c r l h
theorem sepS_end {x : List UInt8} : ∀ l : List UInt8, l.dropWhile sepS = [] → (l ++ x).dropWhile sepS = x.dropWhile sepS
  | [], _ => rfl
  | d :: l, h => by
    unfold List.dropWhile at h
    cases hd : sepS d
    · rw [hd] at h; cases h
    · rw [hd] at h
      show (d :: (l ++ x)).dropWhile sepS = _
      rw [List.dropWhile]
      rw [hd]
      exact sepS_end l h
/-- A text that is a script, with more behind an end. -/
theorem scr_app {R : List UInt8 → Res} {x : List UInt8} (hx : Sep x) : ∀ (k : Nat) (l : List UInt8) (cs ds : List Cm), l.length = k → scr R l cs = .ok ds → scr R (l ++ x) cs = scr R x ds := by
  intro k
  induction k using Nat.strongRecOn with
  | ind k ih =>
    intro l cs ds hk h
    rw [scr_eq] at h
    rcases scrS_ok h with ⟨he, rfl⟩ | ⟨c, l1, d, l2, he, h1, h2, h3, h4⟩
    · exact scr_drop R _ _ _ (sepS_end l he)
    · rw [scr_eq, sepS_app c l1 l he]
      have h5 := comP_app hx h3
      rw [List.cons_append] at h5
      rw [scrS_more h1 h2 h5]
      have hd := dw_len sepS l
      rw [he] at hd
      have hl := comP_len h3
      exact ih l2.length (by omega) l2 _ _ rfl h4
theorem scr_len {R : List UInt8 → Res} : ∀ (k : Nat) (l : List UInt8) (cs ds : List Cm), l.length = k → scr R l cs = .ok ds → cs.length ≤ ds.length ∧ ds.length ≤ cs.length + l.length := by
  intro k
  induction k using Nat.strongRecOn with
  | ind k ih =>
    intro l cs ds hk h
    rw [scr_eq] at h
    rcases scrS_ok h with ⟨he, rfl⟩ | ⟨c, l1, d, l2, he, h1, h2, h3, h4⟩
    · omega
    · have hd := dw_len sepS l
      rw [he] at hd
      have hl := comP_len h3
      have := ih l2.length (by omega) l2 _ _ rfl h4
      rw [List.length_append] at this
      simp only [List.length_cons, List.length_nil] at this
      simp only [List.length_cons] at hd hl
      omega
/-- Behind other commands the same ones are read. -/
theorem scr_acc {R : List UInt8 → Res} (bs : List Cm) : ∀ (k : Nat) (l : List UInt8) (cs ds : List Cm), l.length = k → scr R l cs = .ok ds → bs.length + ds.length ≤ 2000 → scr R l (bs ++ cs) = .ok (bs ++ ds) := by
  intro k
  induction k using Nat.strongRecOn with
  | ind k ih =>
    intro l cs ds hk h hb
    rw [scr_eq] at h ⊢
    rcases scrS_ok h with ⟨he, rfl⟩ | ⟨c, l1, d, l2, he, h1, h2, h3, h4⟩
    · rw [he]; rfl
    · have hd := dw_len sepS l
      rw [he] at hd
      have hl := comP_len h3
      have hn := (scr_len l2.length l2 _ _ rfl h4).1
      rw [List.length_append] at hn
      simp only [List.length_cons, List.length_nil] at hn
      rw [he, scrS_more h1 (by rw [List.length_append]; omega) h3, List.append_assoc]
      exact ih l2.length (by omega) l2 _ _ rfl h4 hb
theorem readSd_ok {R : List UInt8 → Res} {l : List UInt8} {cs : List Cm} (h : readSd R l = .ok cs) : scr R l [] = .ok cs ∧ boundD cs = true := by
  unfold readSd at h
  show scrP R (l.length + 1) l [] = .ok cs ∧ _
  cases hs : scrP R (l.length + 1) l [] with
  | bad e => rw [hs] at h; cases h
  | ok ds =>
    rw [hs] at h
    dsimp only at h
    split at h
    · rename_i hb; cases h; exact ⟨rfl, hb⟩
    · cases h
theorem readSd_of {R : List UInt8 → Res} {l : List UInt8} {cs : List Cm} (h : scr R l [] = .ok cs) : readSd R l = if boundD cs then .ok cs else .bad 8 := by
  unfold readSd
  have : scrP R (l.length + 1) l [] = .ok cs := h
  rw [this]
/-- Two scripts with an end between. -/
theorem readSd_two {R : List UInt8 → Res} {s t : List UInt8} {qs bs : List Cm} (ha : readSd R s = .ok qs) (hb : readSd R t = .ok bs) (hl : s.length + t.length ≤ 2000) (c : UInt8) (hc : c = 59 ∨ c = 10) :
    readSd R (s ++ c :: t) = if boundD (qs ++ bs) then .ok (qs ++ bs) else .bad 8 := by
  obtain ⟨ha, _⟩ := readSd_ok ha
  obtain ⟨hb, _⟩ := readSd_ok hb
  apply readSd_of
  rw [scr_app ⟨c, t, rfl, hc⟩ _ s [] qs rfl ha]
  have h1 := (scr_len _ s _ _ rfl ha).2
  have h2 := (scr_len _ t _ _ rfl hb).2
  simp only [List.length_nil] at h1 h2
  rw [scr_drop R (c :: t) t qs (by rcases hc with rfl | rfl <;> rfl)]
  have := scr_acc qs _ t [] bs rfl hb (by omega)
  rwa [List.append_nil] at this
/-- A script with ends and blanks around. -/
theorem readSd_around {R : List UInt8 → Res} {s : List UInt8} {qs : List Cm} (ha : readSd R s = .ok qs) : readSd R ([32, 59, 10, 32] ++ (s ++ [10, 59, 32])) = .ok qs := by
  obtain ⟨ha, hB⟩ := readSd_ok ha
  rw [readSd_of (cs := qs), hB]
  · rfl
  · have h1 : scr R ([32, 59, 10, 32] ++ (s ++ [10, 59, 32])) [] = scr R (s ++ [10, 59, 32]) [] := scr_drop R _ _ _ rfl
    rw [h1, scr_app ⟨10, [59, 32], rfl, .inr rfl⟩ _ s [] qs rfl ha, scr_eq]
    rfl
end Go.Proofs.YtgceckejchdnlaaDoor
namespace Go.Proofs.YtgceckejchdnlaaDoor
open Go.RowKit Go.Lib

theorem IsRow.lies {B : Nat} {ts : List Nd} {v : Value} {w : World} (h : IsRow B ts v w) (hl : ts.length ≤ 140737488355328) : Lies v ts w := by
  obtain ⟨ao, cap, hv⟩ := isRow_slice h
  refine ⟨ao, cap, hv, hl, fun j n hj => ?_⟩
  rcases h.2 with ⟨_, h0⟩ | ⟨g, cap', cur, hv', hB, hg, _, _, _, htk⟩
  · rw [List.eq_nil_of_length_eq_zero h0] at hj; simp at hj
  · rw [hv] at hv'
    cases hv'
    refine ⟨g, 0, rfl, block_lt hg, ?_⟩
    have hjl : j < ts.length := by
      by_cases hlt : j < ts.length
      · exact hlt
      · rw [List.getElem?_eq_none (by omega)] at hj; cases hj
    have e : ∀ i, i < 7 → w.cell? ⟨g, 0 + j * 7 + i, none⟩ = n.cells[i]? := fun i hi => by
      rw [cell_of_heap hg, ← ndC_get ts j i n hj hi, ← htk, List.getElem?_take_of_lt (by omega)]
      simp
    refine ⟨e 0 (by omega), e 1 (by omega), e 2 (by omega), e 3 (by omega), e 4 (by omega), e 5 (by omega), e 6 (by omega)⟩
end Go.Proofs.YtgceckejchdnlaaDoor
