/- Packed texts: ShExt, ShDeep. What each of them proves stands above its theorems; the conditions stand in these. -/
import Derived.Test.YtabkmimpkoiajaaDoorA0
namespace Go.Proofs.YtabkmimpkoiajaaDoor
open Go.RowKit Go.Lib

/-- What is read, with more behind it. -/
def Ext {α : Type} (n : Nat) (x : List UInt8) (R R' : Rr α) : Prop := ∀ v r, R = .ok v r → n ≤ r.length → R' = .ok v (r ++ x)
theorem Ext.bind {α β : Type} {x : List UInt8} {R R' : Rr α} {f f' : α → List UInt8 → Rr β} {n : Nat} (h : Ext 0 x R R') (k : ∀ v r, R = .ok v r → Ext n x (f v r) (f' v (r ++ x))) : Ext n x (R.bind f) (R'.bind f') := by
  intro v r hb hn
  obtain ⟨y, r1, h1, h2⟩ := bind_ok hb
  rw [h y r1 h1 (Nat.zero_le _)]
  exact k y r1 h1 v r h2 hn
theorem Ext.bad {α : Type} {n : Nat} {x : List UInt8} {e : Int} {R' : Rr α} : Ext n x (.bad e) R' := fun v r h _ => by cases h
theorem Ext.ok {α : Type} {n : Nat} {x : List UInt8} {v : α} {r : List UInt8} : Ext n x (.ok v r) (.ok v (r ++ x)) := fun v' r' h _ => by cases h; rfl
theorem takeS_ext {t l r : List UInt8} (x : List UInt8) (h : takeS t l = some r) : takeS t (l ++ x) = some (r ++ x) := by
  rw [takeS_some h, List.append_assoc, takeS_app]
/-- What stands behind: an end of line, and more. -/
def NlX (x : List UInt8) : Prop := ∃ t, x = 10 :: t
theorem takeS_none {t l x : List UInt8} (hx : NlX x) (ht : (10 : UInt8) ∉ t) (h : takeS t l = none) : takeS t (l ++ x) = none := by
  obtain ⟨y, rfl⟩ := hx
  unfold takeS at h ⊢
  split at h
  · cases h
  · rename_i hp
    rw [if_neg]
    intro h2
    apply hp
    rw [List.isPrefixOf_iff_prefix] at h2 ⊢
    obtain ⟨z, hz⟩ := h2
    rcases List.append_eq_append_iff.1 hz with ⟨a, h3, h4⟩ | ⟨a, h3, h4⟩
    · exact ⟨a, h3.symm⟩
    · cases a with
      | nil => rw [List.append_nil] at h3; exact ⟨[], by rw [h3, List.append_nil]⟩
      | cons c a =>
        exfalso
        simp only [List.cons_append, List.cons.injEq] at h4
        apply ht
        rw [h3, h4.1]
        simp
theorem drop_while_ext {p : UInt8 → Bool} {x : List UInt8} (hx : NlX x) (hp : p 10 = false) : ∀ l : List UInt8, (l ++ x).dropWhile p = l.dropWhile p ++ x
  | [] => by obtain ⟨y, rfl⟩ := hx; simp [List.dropWhile, hp]
  | c :: l => by
    rw [List.cons_append, List.dropWhile_cons, List.dropWhile_cons]
    split
    · exact drop_while_ext hx hp l
    · rfl
theorem take_while_ext {p : UInt8 → Bool} {x : List UInt8} (hx : NlX x) (hp : p 10 = false) : ∀ l : List UInt8, (l ++ x).takeWhile p = l.takeWhile p
  | [] => by obtain ⟨y, rfl⟩ := hx; simp [List.takeWhile, hp]
  | c :: l => by
    rw [List.cons_append, List.takeWhile_cons, List.takeWhile_cons]
    split
    · rw [take_while_ext hx hp l]
    · rfl
theorem pastS_ext {of x : List UInt8} (hx : NlX x) (ho : of.contains 10 = true) (l : List UInt8) : pastS of (l ++ x) = pastS of l ++ x := drop_while_ext hx (by rw [ho]; rfl) l
theorem runS_ext {of x : List UInt8} (hx : NlX x) (ho : of.contains 10 = true) (l : List UInt8) : runS of (l ++ x) = runS of l := take_while_ext hx (by rw [ho]; rfl) l
/-- Up to something that stands there. -/
theorem past_ext (of x : List UInt8) : ∀ l : List UInt8, pastS of l ≠ [] → pastS of (l ++ x) = pastS of l ++ x ∧ runS of (l ++ x) = runS of l
  | [], h => absurd rfl h
  | c :: l, h => by
    unfold pastS at h
    rw [List.dropWhile_cons] at h
    unfold pastS runS
    rw [List.cons_append, List.dropWhile_cons, List.dropWhile_cons, List.takeWhile_cons, List.takeWhile_cons]
    cases hc : of.contains c
    · rw [hc] at h
      exact ⟨(past_ext of x l h).1, congrArg _ (past_ext of x l h).2⟩
    · exact ⟨rfl, rfl⟩
theorem atS_ext {of x : List UInt8} (hx : NlX x) (ho : of.contains 10 = false) (l : List UInt8) : atS of (l ++ x) = atS of l := by
  cases l with
  | nil => obtain ⟨y, rfl⟩ := hx; exact ho
  | cons c l => rfl
theorem gapS_ext {x : List UInt8} (hx : NlX x) (l : List UInt8) : gapS (l ++ x) = gapS l ++ x := by
  unfold gapS remS
  rw [drop_while_ext hx (by decide), atS_ext hx (by decide)]
  split
  · exact pastS_ext hx (by decide) _
  · rfl
theorem skip_ext {of x : List UInt8} (hx : NlX x) : ∀ (n : Nat) (l : List UInt8), l.length = n → skipS of l ≠ [] → skipS of (l ++ x) = skipS of l ++ x ∧ wasS of (l ++ x) = wasS of l := by
  intro n
  induction n using Nat.strongRecOn with
  | ind n ih =>
    intro l hn hs
    have hg := gapS_len l
    rw [skipS_eq] at hs
    rw [skipS_eq of l, skipS_eq of (l ++ x)]
    unfold wasS
    rw [gapS_ext hx]
    cases hl : gapS l with
    | nil => rw [hl] at hs; exact absurd rfl hs
    | cons c r =>
      rw [hl] at hs hg
      simp only [List.length_cons] at hg
      dsimp only [List.cons_append] at hs ⊢
      by_cases hc : of.contains c = true
      · rw [if_pos hc] at hs ⊢
        rw [if_pos hc]
        exact ⟨(ih r.length (by omega) r rfl hs).1, rfl⟩
      · rw [if_neg hc, if_neg hc]
        exact ⟨rfl, rfl⟩
theorem skipS_ext {of x l : List UInt8} (hx : NlX x) (h : skipS of l ≠ []) : skipS of (l ++ x) = skipS of l ++ x := (skip_ext hx _ l rfl h).1
theorem wasS_ext {of x l : List UInt8} (hx : NlX x) (h : skipS of l ≠ []) : wasS of (l ++ x) = wasS of l := (skip_ext hx _ l rfl h).2
/-- Where the ends go to the end of the text: they go on behind it. -/
theorem skip_end {t : List UInt8} : ∀ (n : Nat) (l : List UInt8), l.length = n → skipS shEnds l = [] → skipS shEnds (l ++ 10 :: t) = skipS shEnds t ∧ wasS shEnds (l ++ 10 :: t) = true := by
  intro n
  induction n using Nat.strongRecOn with
  | ind n ih =>
    intro l hn hs
    have hx : NlX (10 :: t) := ⟨t, rfl⟩
    have hg := gapS_len l
    rw [skipS_eq] at hs
    rw [skipS_eq shEnds (l ++ 10 :: t)]
    unfold wasS
    rw [gapS_ext hx]
    cases hl : gapS l with
    | nil => exact ⟨rfl, rfl⟩
    | cons c r =>
      rw [hl] at hs hg
      simp only [List.length_cons] at hg
      dsimp only [List.cons_append] at hs ⊢
      by_cases hc : shEnds.contains c = true
      · rw [if_pos hc] at hs ⊢
        exact ⟨(ih r.length (by omega) r rfl hs).1, hc⟩
      · rw [if_neg hc] at hs; cases hs
theorem keyS_ext {x : List UInt8} (hx : NlX x) (l : List UInt8) : keyS (l ++ x) = keyS l := by
  unfold keyS
  rw [pastS_ext hx (by decide), atS_ext hx (by decide), runS_ext hx (by decide)]
theorem key_le {l : List UInt8} : (keyS l).length ≤ l.length := by
  unfold keyS
  split
  · exact Nat.zero_le _
  · have := run_past_len shMarks l; omega
theorem takeKeyS_ext {k x l : List UInt8} (hx : NlX x) : takeKeyS k (l ++ x) = (takeKeyS k l).map (· ++ x) := by
  unfold takeKeyS
  rw [keyS_ext hx]
  split
  · rename_i h
    have := key_le (l := l)
    rw [h] at this
    rw [List.drop_append_of_le_length this]; rfl
  · rfl
theorem needKey_ext {k x : List UInt8} (hx : NlX x) (l : List UInt8) : Ext 0 x (needKey k l) (needKey k (l ++ x)) := by
  unfold needKey
  rw [takeKeyS_ext hx]
  cases takeKeyS k l with
  | none => exact Ext.bad
  | some r => exact Ext.ok
theorem needS_ext (t x l : List UInt8) : Ext 0 x (needS t l) (needS t (l ++ x)) := by
  unfold needS
  cases h : takeS t l with
  | none => exact Ext.bad
  | some r => rw [takeS_ext x h]; exact Ext.ok
theorem nameS_ext {x : List UInt8} (hx : NlX x) (l : List UInt8) : nameS (l ++ x) = nameS l := by
  cases l with
  | nil => obtain ⟨y, rfl⟩ := hx; rfl
  | cons c l =>
    show (if isLet c then c :: (l ++ x).takeWhile restOk else []) = if isLet c then c :: l.takeWhile restOk else []
    rw [take_while_ext hx (by decide)]
theorem nameS_len (l : List UInt8) : (nameS l).length ≤ l.length := by
  cases l with
  | nil => exact Nat.le_refl _
  | cons a r =>
    show (if isLet a then a :: r.takeWhile restOk else []).length ≤ _
    split
    · simp only [List.length_cons]
      have := (List.takeWhile_sublist restOk (l := r)).length_le
      omega
    · exact Nat.zero_le _
theorem nameR_ext {x : List UInt8} (hx : NlX x) (l : List UInt8) : Ext 0 x (nameR l) (nameR (l ++ x)) := by
  unfold nameR
  rw [nameS_ext hx]
  split
  · exact Ext.bad
  · rw [List.drop_append_of_le_length (nameS_len l)]; exact Ext.ok
theorem needS_ne {t l : List UInt8} {r : List UInt8} {u : Unit} (h : needS t l = .ok u r) (ht : t ≠ []) : l ≠ [] := by
  unfold needS at h
  cases hk : takeS t l with
  | none => rw [hk] at h; cases h
  | some r' =>
    intro e
    rw [e] at hk
    have := takeS_some hk
    cases t with
    | nil => exact ht rfl
    | cons a t => cases this
theorem untilNeed_ext (of t x l : List UInt8) (ht : t ≠ []) : Ext 0 x (needS t (pastS of l)) (needS t (pastS of (l ++ x))) ∧ ∀ u r, needS t (pastS of l) = .ok u r → runS of (l ++ x) = runS of l := by
  constructor
  · intro u r h hn
    have h1 := needS_ne h ht
    rw [(past_ext of x l h1).1]
    exact needS_ext t x _ u r h hn
  · intro u r h
    exact (past_ext of x l (needS_ne h ht)).2
theorem singleS_ext (x l : List UInt8) : Ext 0 x (singleS l) (singleS (l ++ x)) := by
  obtain ⟨h1, h2⟩ := untilNeed_ext [39] [39] x l (by simp)
  unfold singleS
  exact h1.bind fun u r hr => by rw [h2 u r hr]; exact Ext.ok
theorem recS_ext (x : List UInt8) : ∀ (l : List UInt8) (o : Nat) (s r : List UInt8), recS o l = some (s, r) → recS o (l ++ x) = some (s, r ++ x)
  | [], _, _, _, h => by cases h
  | c :: l, o, s, r, h => by
    rw [List.cons_append]
    unfold recS at h ⊢
    split at h
    · cases h
    · rename_i h1
      rw [if_neg h1]
      split at h
      · rename_i h2
        rw [if_pos h2]
        cases hr : recS (o + 1) l with
        | none => rw [hr] at h; cases h
        | some p => rw [hr] at h; obtain ⟨a, b⟩ := p; cases h; rw [recS_ext x l _ a b hr]; rfl
      · rename_i h2
        rw [if_neg h2]
        split at h
        · rename_i h3
          rw [if_pos h3]
          cases o with
          | zero => cases h; rfl
          | succ o =>
            dsimp only at h ⊢
            cases hr : recS o l with
            | none => rw [hr] at h; cases h
            | some p => rw [hr] at h; obtain ⟨a, b⟩ := p; cases h; rw [recS_ext x l _ a b hr]; rfl
        · rename_i h3
          rw [if_neg h3]
          cases hr : recS o l with
          | none => rw [hr] at h; cases h
          | some p => rw [hr] at h; obtain ⟨a, b⟩ := p; cases h; rw [recS_ext x l _ a b hr]; rfl
theorem reckS_ext (x l : List UInt8) : Ext 0 x (reckS l) (reckS (l ++ x)) := by
  unfold reckS
  cases h : recS 0 l with
  | none => exact Ext.bad
  | some p =>
    obtain ⟨s, r⟩ := p
    rw [recS_ext x l 0 s r h]
    exact (needS_ext _ x r).bind fun _ _ _ => Ext.ok
theorem withT_ext {x : List UInt8} (q : Bool) (k : Nat) (n l : List UInt8) : Ext 0 x (withT q k n l) (withT q k n (l ++ x)) := by
  obtain ⟨h1, h2⟩ := untilNeed_ext shBarred [125] x l (by simp)
  unfold withT
  exact h1.bind fun u r hr => by rw [h2 u r hr]; exact Ext.ok
theorem bracedS_ext {x : List UInt8} (hx : NlX x) (q : Bool) (l : List UInt8) : Ext 0 x (bracedS q l) (bracedS q (l ++ x)) := by
  unfold bracedS
  refine (nameR_ext hx l).bind fun n r _ => ?_
  cases h1 : takeS [125] r with
  | some r1 => rw [takeS_ext x h1]; exact Ext.ok
  | none =>
    rw [takeS_none hx (by decide) h1]
    cases h2 : takeS [58, 45] r with
    | some r1 => rw [takeS_ext x h2]; exact withT_ext _ _ _ _
    | none =>
      rw [takeS_none hx (by decide) h2]
      cases h3 : takeS [35] r with
      | some r1 => rw [takeS_ext x h3]; exact withT_ext _ _ _ _
      | none =>
        rw [takeS_none hx (by decide) h3]
        cases h4 : takeS [37] r with
        | some r1 => rw [takeS_ext x h4]; exact withT_ext _ _ _ _
        | none => exact Ext.bad
/-- What is read one deeper is so: a list, if something stands behind it; words. -/
def ExtD (x : List UInt8) (g : Dn) : Prop := (∀ l, Ext 1 x (g.lst l) (g.lst (l ++ x))) ∧ ∀ l, Ext 0 x (g.wds l) (g.wds (l ++ x))
def ExtS (x : List UInt8) (sub : Deeper) : Prop := ∀ g, sub = some g → ExtD x g
theorem subS_ext {x : List UInt8} {sub : Deeper} (hs : ExtS x sub) (l : List UInt8) : Ext 1 x (subS sub l) (subS sub (l ++ x)) := by
  cases sub with
  | none => exact Ext.bad
  | some g => exact (hs g rfl).1 l
theorem partS_ext {x : List UInt8} (hx : NlX x) {sub : Deeper} (hs : ExtS x sub) (q : Bool) (l : List UInt8) : Ext 0 x (partS sub q l) (partS sub q (l ++ x)) := by
  unfold partS
  cases h1 : takeS [40, 40] l with
  | some r1 => rw [takeS_ext x h1]; exact (reckS_ext x r1).bind fun _ _ _ => Ext.ok
  | none =>
    rw [takeS_none hx (by decide) h1]
    cases h2 : takeS [40] l with
    | some r1 =>
      rw [takeS_ext x h2]
      intro v r h _
      obtain ⟨cs, r2, h3, h4⟩ := bind_ok h
      obtain ⟨u, r3, h5, h6⟩ := bind_ok h4
      cases h6
      have hne := needS_ne h5 (by simp)
      have h7 := subS_ext hs r1 cs r2 h3 (by cases r2 with | nil => exact absurd rfl hne | cons a b => simp)
      have h8 := needS_ext [41] x r2 u r h5 (Nat.zero_le _)
      show (subS sub (r1 ++ x)).bind _ = _
      rw [h7]
      show (needS [41] (r2 ++ x)).bind _ = _
      rw [h8]; rfl
    | none =>
      rw [takeS_none hx (by decide) h2]
      cases h3 : takeS [123, 35] l with
      | some r1 => rw [takeS_ext x h3]; exact (nameR_ext hx r1).bind fun _ r2 _ => (needS_ext _ x r2).bind fun _ _ _ => Ext.ok
      | none =>
        rw [takeS_none hx (by decide) h3]
        cases h4 : takeS [123] l with
        | some r1 => rw [takeS_ext x h4]; exact bracedS_ext hx _ _
        | none =>
          rw [takeS_none hx (by decide) h4]
          exact (nameR_ext hx l).bind fun _ _ _ => Ext.ok
theorem iter_ext {σ β : Type} {step : σ → List UInt8 → Rr (It σ β)} (hs : ∀ s l, NiceI l (step s l)) {n : Nat} {x : List UInt8} (h : ∀ s l, Ext n x (step s l) (step s (l ++ x))) : ∀ (m : Nat) (s : σ) (l : List UInt8), l.length = m → Ext n x (iterS step s l) (iterS step s (l ++ x)) := by
  intro m
  induction m using Nat.strongRecOn with
  | ind m ih =>
    intro s l hm v r hr hn
    have h1 := hs s l
    have h2 := h s l
    rw [iterS_eq hs] at hr
    rw [iterS_eq hs]
    cases hst : step s l with
    | bad e => rw [hst] at hr; cases hr
    | ok o r1 =>
      rw [hst] at hr h1
      cases o with
      | stop b =>
        dsimp only at hr
        cases hr
        rw [h2 _ _ hst hn]
      | go s' =>
        dsimp only at hr
        have h3 : r1.length < l.length := h1
        have h4 := iterS_nice hs s' r1
        rw [hr] at h4
        have h4 : r.length ≤ r1.length := h4
        rw [h2 _ _ hst (by omega)]
        exact ih r1.length (by omega) s' r1 rfl v r hr hn
theorem iterS_ext {σ β : Type} {step : σ → List UInt8 → Rr (It σ β)} (hs : ∀ s l, NiceI l (step s l)) {n : Nat} {x : List UInt8} (h : ∀ s l, Ext n x (step s l) (step s (l ++ x))) (s : σ) (l : List UInt8) : Ext n x (iterS step s l) (iterS step s (l ++ x)) := iter_ext hs h _ s l rfl
theorem take_drop_ext {l x : List UInt8} (h : l ≠ []) : (l ++ x).take 1 = l.take 1 ∧ (l ++ x).drop 1 = l.drop 1 ++ x := by
  cases l with
  | nil => exact absurd rfl h
  | cons a b => exact ⟨rfl, rfl⟩
theorem at_ne {of l : List UInt8} (h : atS of l = true) : l ≠ [] := by
  cases l with
  | nil => cases h
  | cons a b => simp
theorem run_ne_past {of l : List UInt8} (h : pastS of l ≠ []) (x : List UInt8) : runS of (l ++ x) = runS of l ∧ pastS of (l ++ x) = pastS of l ++ x := ⟨(past_ext of x l h).2, (past_ext of x l h).1⟩
theorem dblStep_ext {x : List UInt8} (hx : NlX x) {sub : Deeper} (hs : ExtS x sub) (st : Sp) (l : List UInt8) (o : It Sp Sp) (r : List UInt8) (h : dblStep sub st l = .ok o r) (hr : (∃ s', o = .go s') → r ≠ []) : dblStep sub st (l ++ x) = .ok o (r ++ x) := by
  unfold dblStep at h ⊢
  cases h1 : takeS [34] l with
  | some r1 => rw [h1] at h; cases h; rw [takeS_ext x h1]
  | none =>
    rw [h1] at h
    rw [takeS_none hx (by decide) h1]
    cases h2 : takeS [36] l with
    | some r1 =>
      rw [h2] at h
      rw [takeS_ext x h2]
      exact ((partS_ext hx hs true r1).bind (f := fun p r' => Rr.ok (It.go (st.add p)) r') (f' := fun p r' => Rr.ok (It.go (st.add p)) r') (fun _ _ _ => Ext.ok)) o r h (Nat.zero_le _)
    | none =>
      rw [h2] at h
      rw [takeS_none hx (by decide) h2]
      cases h3 : takeS [92] l with
      | some r1 =>
        rw [h3] at h
        rw [takeS_ext x h3]
        dsimp only at h ⊢
        split at h
        · rename_i ha
          have hne := at_ne ha
          rw [atS_ext hx (by decide), if_pos ha, (take_drop_ext hne).1, (take_drop_ext hne).2]
          cases h; rfl
        · cases h
      | none =>
        rw [h3] at h
        rw [takeS_none hx (by decide) h3]
        dsimp only at h ⊢
        split at h
        · cases h
        · rename_i hn
          cases h
          obtain ⟨e1, e2⟩ := run_ne_past (hr ⟨_, rfl⟩) x
          rw [e1, e2, if_neg hn]
theorem dbl_nil (sub : Deeper) (st : Sp) : iterS (dblStep sub) st [] = .bad 9 := by rfl
theorem dbl_iter {x : List UInt8} (hx : NlX x) {sub : Deeper} (hg : GoodD sub) (hs : ExtS x sub) : ∀ (m : Nat) (st : Sp) (l : List UInt8), l.length = m → Ext 0 x (iterS (dblStep sub) st l) (iterS (dblStep sub) st (l ++ x)) := by
  intro m
  induction m using Nat.strongRecOn with
  | ind m ih =>
    intro st l hm v r hr _
    have h1 := dblStep_nice hg st l
    rw [iterS_eq (dblStep_nice hg)] at hr
    rw [iterS_eq (dblStep_nice hg)]
    cases hst : dblStep sub st l with
    | bad e => rw [hst] at hr; cases hr
    | ok o r1 =>
      rw [hst] at hr h1
      cases o with
      | stop b =>
        dsimp only at hr
        cases hr
        rw [dblStep_ext hx hs st l _ _ hst (fun ⟨_, h⟩ => by cases h)]
      | go s' =>
        dsimp only at hr
        have h3 : r1.length < l.length := h1
        have hne : r1 ≠ [] := by
          intro e
          rw [e, dbl_nil] at hr
          cases hr
        rw [dblStep_ext hx hs st l _ _ hst (fun _ => hne)]
        exact ih r1.length (by omega) s' r1 rfl v r hr (Nat.zero_le _)
theorem dblS_ext {x : List UInt8} (hx : NlX x) {sub : Deeper} (hg : GoodD sub) (hs : ExtS x sub) (st : Sp) (l : List UInt8) : Ext 0 x (dblS sub st l) (dblS sub st (l ++ x)) := by
  unfold dblS
  cases h1 : takeS [34] l with
  | some r1 => rw [takeS_ext x h1]; exact Ext.ok
  | none => rw [takeS_none hx (by decide) h1]; exact dbl_iter hx hg hs _ st l rfl
theorem wordStep_ext {x : List UInt8} (hx : NlX x) {sub : Deeper} (hg : GoodD sub) (hs : ExtS x sub) (st : Sp) (l : List UInt8) : Ext 0 x (wordStep sub st l) (wordStep sub st (l ++ x)) := by
  unfold wordStep
  cases h1 : takeS [39] l with
  | some r1 => rw [takeS_ext x h1]; exact (singleS_ext x r1).bind fun _ _ _ => Ext.ok
  | none =>
    rw [takeS_none hx (by decide) h1]
    cases h2 : takeS [92] l with
    | some r1 =>
      rw [takeS_ext x h2]
      dsimp only
      split
      · exact Ext.bad
      · rename_i hn
        have hne : r1 ≠ [] := fun e => hn (.inl e)
        have h3 : atS [10] (r1 ++ x) = atS [10] r1 := by cases r1 with | nil => exact absurd rfl hne | cons a b => rfl
        rw [h3, if_neg (by
          intro h
          rcases h with h | h
          · cases r1 with | nil => exact hne rfl | cons a b => cases h
          · exact hn (.inr h)), (take_drop_ext hne).1, (take_drop_ext hne).2]
        exact Ext.ok
    | none =>
      rw [takeS_none hx (by decide) h2]
      cases h3 : takeS [34] l with
      | some r1 => rw [takeS_ext x h3]; exact (dblS_ext hx hg hs st r1).bind fun _ _ _ => Ext.ok
      | none =>
        rw [takeS_none hx (by decide) h3]
        cases h4 : takeS [36] l with
        | some r1 => rw [takeS_ext x h4]; exact (partS_ext hx hs _ _).bind fun _ _ _ => Ext.ok
        | none =>
          rw [takeS_none hx (by decide) h4]
          dsimp only
          split
          · rename_i h
            have h5 : atS shMarks (l ++ x) = true := by
              rcases h with rfl | h
              · obtain ⟨y, rfl⟩ := hx; rfl
              · cases l with | nil => cases h | cons a b => exact h
            rw [if_pos (.inr h5)]
            exact Ext.ok
          · rename_i h
            have hne : l ≠ [] := fun e => h (.inl e)
            have h5 : atS shMarks (l ++ x) = atS shMarks l := by cases l with | nil => exact absurd rfl hne | cons a b => rfl
            rw [h5, if_neg (by
              intro h6
              rcases h6 with h6 | h6
              · cases l with | nil => exact hne rfl | cons a b => cases h6
              · exact h (.inr h6)), runS_ext hx (by decide), pastS_ext hx (by decide)]
            exact Ext.ok
theorem wordS_ext {x : List UInt8} (hx : NlX x) {sub : Deeper} (hg : GoodD sub) (hs : ExtS x sub) (l : List UInt8) : Ext 0 x (wordS sub l) (wordS sub (l ++ x)) := iterS_ext (wordStep_nice hg) (wordStep_ext hx hg hs) _ l
theorem wordsStep_ext {x : List UInt8} (hx : NlX x) {sub : Deeper} (hg : GoodD sub) (hs : ExtS x sub) (ws : List (List Pt)) (l : List UInt8) : Ext 0 x (wordsStep sub ws l) (wordsStep sub ws (l ++ x)) := by
  unfold wordsStep
  rw [gapS_ext hx]
  refine (wordS_ext hx hg hs _).bind fun ps r _ => ?_
  split
  · exact Ext.ok
  · exact Ext.ok
theorem wordsS_ext {x : List UInt8} (hx : NlX x) {sub : Deeper} (hg : GoodD sub) (hs : ExtS x sub) (l : List UInt8) : Ext 0 x (wordsS sub l) (wordsS sub (l ++ x)) := iterS_ext (wordsStep_nice hg) (wordsStep_ext hx hg hs) _ l
theorem assignS_ext {x : List UInt8} (hx : NlX x) (l : List UInt8) : assignS (l ++ x) = (assignS l).map fun p => (p.1, p.2 ++ x) := by
  unfold assignS
  rw [nameS_ext hx]
  split
  · rfl
  · rw [List.drop_append_of_le_length (nameS_len l)]
    cases h : takeS [61] (l.drop (nameS l).length) with
    | none => rw [takeS_none hx (by decide) h]; rfl
    | some r => rw [takeS_ext x h]; rfl
theorem asgStep_ext {x : List UInt8} (hx : NlX x) {sub : Deeper} (hg : GoodD sub) (hs : ExtS x sub) (s : List (List UInt8) × List (List Pt)) (l : List UInt8) : Ext 0 x (asgStep sub s l) (asgStep sub s (l ++ x)) := by
  unfold asgStep
  rw [assignS_ext hx]
  cases assignS l with
  | none => exact Ext.ok
  | some p =>
    obtain ⟨n, r⟩ := p
    refine (wordS_ext hx hg hs r).bind fun ps r' _ => ?_
    rw [gapS_ext hx]
    exact Ext.ok
theorem simpleS_ext {x : List UInt8} (hx : NlX x) {sub : Deeper} (hg : GoodD sub) (hs : ExtS x sub) (l : List UInt8) : Ext 0 x (simpleS sub l) (simpleS sub (l ++ x)) := by
  unfold simpleS
  refine (iterS_ext (asgStep_nice hg) (asgStep_ext hx hg hs) _ l).bind fun s r _ => ?_
  rw [keyS_ext hx]
  split
  · exact Ext.bad
  · refine (wordsS_ext hx hg hs r).bind fun ws r' _ => ?_
    split
    · exact Ext.bad
    · exact Ext.ok
theorem linesS_ext {x : List UInt8} {g : Dn} (hg : ExtD x g) (l : List UInt8) : Ext 1 x (linesS g l) (linesS g (l ++ x)) := by
  intro v r h hn
  unfold linesS at h ⊢
  obtain ⟨cs, r1, h1, h2⟩ := bind_ok h
  split at h2
  · cases h2
  · rename_i hc
    cases h2
    rw [hg.1 l _ _ h1 hn]
    exact if_neg hc
/-- Something that needs a word behind it. -/
theorem bindKey_ext {α β : Type} {x : List UInt8} (hx : NlX x) {k : List UInt8} (hk : k ≠ []) {R R' : Rr α} {f f' : α → Unit → List UInt8 → Rr β} (h : Ext 1 x R R') (hf : ∀ v u r, Ext 0 x (f v u r) (f' v u (r ++ x))) : Ext 0 x (R.bind fun v r => (needKey k r).bind fun u r1 => f v u r1) (R'.bind fun v r => (needKey k r).bind fun u r1 => f' v u r1) := by
  intro v r hb hn
  obtain ⟨y, r1, h1, h2⟩ := bind_ok hb
  obtain ⟨u, r2, h3, h4⟩ := bind_ok h2
  have hne : 1 ≤ r1.length := by
    cases r1 with
    | nil =>
      exfalso
      unfold needKey takeKeyS at h3
      have : keyS [] = [] := rfl
      rw [this, if_neg (fun e => hk e.symm)] at h3
      cases h3
    | cons a b => simp
  rw [h y r1 h1 hne]
  show (needKey k (r1 ++ x)).bind _ = _
  rw [needKey_ext hx r1 u r2 h3 (Nat.zero_le _)]
  exact hf y u r2 v r h4 hn
theorem bodyS_ext {x : List UInt8} (hx : NlX x) {g : Dn} (hg : ExtD x g) (l : List UInt8) : Ext 0 x (bodyS g l) (bodyS g (l ++ x)) := by
  unfold bodyS
  exact (needKey_ext hx l).bind fun _ r _ => bindKey_ext hx (by simp) (linesS_ext hg r) fun _ _ _ => Ext.ok
theorem elseS_ext {x : List UInt8} (hx : NlX x) {g : Dn} (hg : ExtD x g) (l : List UInt8) : Ext 1 x (elseS g l) (elseS g (l ++ x)) := by
  unfold elseS
  rw [takeKeyS_ext hx]
  cases takeKeyS [101, 108, 115, 101] l with
  | none => exact Ext.ok
  | some r => exact linesS_ext hg r
theorem choiceS_ext {x : List UInt8} (hx : NlX x) {g : Dn} (hg : ExtD x g) (l : List UInt8) : Ext 0 x (choiceS g l) (choiceS g (l ++ x)) := by
  unfold choiceS
  refine bindKey_ext hx (by simp) (linesS_ext hg l) fun a _ r1 => ?_
  intro v r h hn
  obtain ⟨b, r2, h1, h2⟩ := bind_ok h
  have h3 := (bindKey_ext hx (k := [102, 105]) (by simp) (elseS_ext hx hg r2) (f := fun c _ r4 => Rr.ok (.mk 4 [] [] [] a b c) r4) (f' := fun c _ r4 => Rr.ok (Co.mk 4 [] [] [] a b c) r4) fun _ _ _ => Ext.ok) v r h2 hn
  have hne : 1 ≤ r2.length := by
    cases r2 with
    | nil => exfalso; cases h2
    | cons a b => simp
  rw [linesS_ext hg r1 b r2 h1 hne]
  exact h3
theorem roundsS_ext {x : List UInt8} (hx : NlX x) {g : Dn} (hg : ExtD x g) (l : List UInt8) : Ext 0 x (roundsS g l) (roundsS g (l ++ x)) := by
  unfold roundsS
  intro v r h hn
  obtain ⟨a, r1, h1, h2⟩ := bind_ok h
  have hne : 1 ≤ r1.length := by
    cases r1 with
    | nil => exfalso; cases h2
    | cons a b => simp
  rw [linesS_ext hg l a r1 h1 hne]
  exact ((bodyS_ext hx hg r1).bind (f := fun b r2 => Rr.ok (Co.mk 5 [] [] [] a b []) r2) (f' := fun b r2 => Rr.ok (Co.mk 5 [] [] [] a b []) r2) fun _ _ _ => Ext.ok) v r h2 hn
theorem eachS_ext {x : List UInt8} (hx : NlX x) {g : Dn} (hg : ExtD x g) (l : List UInt8) : Ext 0 x (eachS g l) (eachS g (l ++ x)) := by
  unfold eachS
  rw [gapS_ext hx]
  refine (nameR_ext hx _).bind fun n r _ => ?_
  rw [gapS_ext hx]
  refine (needKey_ext hx _).bind fun _ r1 _ => (hg.2 r1).bind fun ws r2 _ => ?_
  intro v r3 h hn
  split at h
  · cases h
  · rename_i hw
    obtain ⟨b, r4, h1, h2⟩ := bind_ok h
    have hne : skipS shEnds r2 ≠ [] := by
      intro e
      rw [e] at h1
      cases h1
    rw [wasS_ext hx hne, if_neg hw, skipS_ext hx hne]
    exact ((bodyS_ext hx hg _).bind (f := fun b r3 => Rr.ok (Co.mk 6 [n] [] ws [] b []) r3) (f' := fun b r3 => Rr.ok (Co.mk 6 [n] [] ws [] b []) r3) fun _ _ _ => Ext.ok) v r3 h hn
theorem withinS_ext {x : List UInt8} {sub : Deeper} (hs : ExtS x sub) {f : Dn → List UInt8 → Rr Co} (hf : ∀ g, ExtD x g → ∀ l, Ext 0 x (f g l) (f g (l ++ x))) (l : List UInt8) : Ext 0 x (withinS sub f l) (withinS sub f (l ++ x)) := by
  cases sub with
  | none => exact Ext.bad
  | some g => exact hf g (hs g rfl) l
theorem cmdS_ext {x : List UInt8} (hx : NlX x) {sub : Deeper} (hg : GoodD sub) (hs : ExtS x sub) (l : List UInt8) : Ext 0 x (cmdS sub l) (cmdS sub (l ++ x)) := by
  unfold cmdS
  rw [keyS_ext hx]
  split
  · rename_i hk
    have h1 := key_le (l := l)
    rw [hk] at h1
    rw [List.drop_append_of_le_length (show 2 ≤ l.length from h1)]
    exact withinS_ext hs (fun g h => choiceS_ext hx h) _
  · split
    · rename_i hk
      have h1 := key_le (l := l)
      rw [hk] at h1
      rw [List.drop_append_of_le_length (show 5 ≤ l.length from h1)]
      exact withinS_ext hs (fun g h => roundsS_ext hx h) _
    · split
      · rename_i hk
        have h1 := key_le (l := l)
        rw [hk] at h1
        rw [List.drop_append_of_le_length (show 3 ≤ l.length from h1)]
        exact withinS_ext hs (fun g h => eachS_ext hx h) _
      · exact simpleS_ext hx hg hs l
theorem markS_ext {mk x : List UInt8} (hx : NlX x) (hm : (10 : UInt8) ∉ mk) (l : List UInt8) : markS mk (l ++ x) = (markS mk l).map (· ++ x) := by
  unfold markS
  rw [gapS_ext hx]
  have h1 : (takeS [124, 124] (gapS l ++ x)).isSome = (takeS [124, 124] (gapS l)).isSome := by
    cases h : takeS [124, 124] (gapS l) with
    | none => rw [takeS_none hx (by decide) h]
    | some r => rw [takeS_ext x h]; rfl
  rw [h1]
  split
  · rfl
  · cases h : takeS mk (gapS l) with
    | none => rw [takeS_none hx hm h]; rfl
    | some r => rw [takeS_ext x h]; rfl
theorem behindS_ext {mk x : List UInt8} (hx : NlX x) (hm : (10 : UInt8) ∉ mk) (l : List UInt8) : behindS mk (l ++ x) = behindS mk l ++ x := by
  unfold behindS
  rw [markS_ext hx hm, gapS_ext hx]
  cases markS mk l <;> rfl
theorem rowStep_ext {kind : Nat} {mk x : List UInt8} (hx : NlX x) (hm : (10 : UInt8) ∉ mk) {one : List UInt8 → Rr Co} {fits : Co → Bool} (hn : NotNil one) (h1 : ∀ l, Ext 0 x (one l) (one (l ++ x))) (s : List Co × Co × Bool) (l : List UInt8) : Ext 0 x (rowStep kind mk one fits s l) (rowStep kind mk one fits s (l ++ x)) := by
  unfold rowStep
  split
  · exact Ext.bad
  · split
    · exact Ext.ok
    · intro v r h hr
      obtain ⟨c, r1, h2, h3⟩ := bind_ok h
      have hne : skipS [10] l ≠ [] := by
        intro e
        have := hn _ _ _ h2
        rw [e] at this
        simp at this
      rw [skipS_ext hx hne, h1 _ _ _ h2 (Nat.zero_le _)]
      cases h3
      show Rr.ok (It.go (s.1 ++ [s.2.1], c, (markS mk (r1 ++ x)).isSome)) (behindS mk (r1 ++ x)) = _
      rw [markS_ext hx hm, behindS_ext hx hm]
      cases markS mk r1 <;> rfl
theorem rowS_ext {kind : Nat} {mk x : List UInt8} (hx : NlX x) (hm : (10 : UInt8) ∉ mk) {one : List UInt8 → Rr Co} {fits : Co → Bool} (hni : ∀ l, Nice l (one l)) (hn : NotNil one) (h1 : ∀ l, Ext 0 x (one l) (one (l ++ x))) (l : List UInt8) : Ext 0 x (rowS kind mk one fits l) (rowS kind mk one fits (l ++ x)) := by
  unfold rowS
  refine (h1 l).bind fun c r _ => ?_
  rw [markS_ext hx hm, behindS_ext hx hm]
  have e : ((markS mk r).map (· ++ x)).isSome = (markS mk r).isSome := by cases markS mk r <;> rfl
  rw [e]
  split
  · exact Ext.ok
  · exact iterS_ext (rowStep_nice hni hn) (rowStep_ext hx hm hn h1) _ _
theorem lineS_ext {x : List UInt8} (hx : NlX x) {sub : Deeper} (hg : GoodD sub) (hs : ExtS x sub) (l : List UInt8) : Ext 0 x (lineS sub l) (lineS sub (l ++ x)) :=
  rowS_ext hx (by decide) (pipeS_nice hg) (pipeS_lt hg) (fun l => rowS_ext hx (by decide) (cmdS_nice hg) (cmdS_lt hg) (cmdS_ext hx hg hs) l) l
theorem beginsS_ext {x : List UInt8} (hx : NlX x) (l : List UInt8) : beginsS (l ++ x) = beginsS l := by
  cases l with
  | nil => obtain ⟨y, rfl⟩ := hx; rfl
  | cons c l =>
    unfold beginsS
    rw [keyS_ext hx]
    rfl
theorem listStep_ext {x : List UInt8} (hx : NlX x) {sub : Deeper} (hg : GoodD sub) (hs : ExtS x sub) (cs : List Co) (l : List UInt8) : Ext 1 x (listStep sub cs l) (listStep sub cs (l ++ x)) := by
  intro v r h hn
  unfold listStep at h ⊢
  rw [beginsS_ext hx]
  split at h
  · rename_i hb
    rw [if_pos hb]
    cases h; rfl
  · rename_i hb
    rw [if_neg hb]
    obtain ⟨c, r1, h1, h2⟩ := bind_ok h
    have hne : skipS shEnds r1 ≠ [] := by
      split at h2 <;> cases h2 <;> (intro e; rw [e] at hn; simp at hn)
    rw [lineS_ext hx hg hs l c r1 h1 (Nat.zero_le _)]
    show (if wasS shEnds (r1 ++ x) = false then Rr.ok (It.stop (cs ++ [c])) (skipS shEnds (r1 ++ x)) else Rr.ok (It.go (cs ++ [c])) (skipS shEnds (r1 ++ x))) = _
    rw [wasS_ext hx hne, skipS_ext hx hne]
    split at h2
    · rename_i hw; cases h2; rw [if_pos hw]
    · rename_i hw; cases h2; rw [if_neg hw]
theorem listS_ext {x : List UInt8} (hx : NlX x) {sub : Deeper} (hg : GoodD sub) (hs : ExtS x sub) (l : List UInt8) : Ext 1 x (listS sub l) (listS sub (l ++ x)) := by
  intro v r h hn
  unfold listS at h ⊢
  have h1 := iterS_nice (listStep_nice hg) [] (skipS shEnds l)
  rw [h] at h1
  have h1 : r.length ≤ (skipS shEnds l).length := h1
  have hne : skipS shEnds l ≠ [] := by intro e; rw [e] at h1; have h1 : r.length ≤ 0 := h1; omega
  rw [skipS_ext hx hne]
  exact iterS_ext (listStep_nice hg) (listStep_ext hx hg hs) _ _ v r h hn
theorem lvl_ext {x : List UInt8} (hx : NlX x) : ∀ k, ExtS x (lvl k)
  | 0 => fun g h => by cases h
  | k + 1 => fun g h => by
    cases h
    exact ⟨listS_ext hx (lvl_good k) (lvl_ext hx k), wordsS_ext hx (lvl_good k) (lvl_ext hx k)⟩
/-- A list from some place on, behind other lines. -/
def contS (sub : Deeper) (cs : List Co) (l : List UInt8) : Rr (List Co) := iterS (listStep sub) cs (skipS shEnds l)
theorem cont_nil (sub : Deeper) (cs : List Co) : iterS (listStep sub) cs [] = .ok cs [] := rfl
theorem list_end {t : List UInt8} {sub : Deeper} (hg : GoodD sub) (hs : ExtS (10 :: t) sub) : ∀ (m : Nat) (cs ds : List Co) (l : List UInt8), l.length = m → l ≠ [] → iterS (listStep sub) cs l = .ok ds [] → iterS (listStep sub) cs (l ++ 10 :: t) = contS sub ds t := by
  intro m
  induction m using Nat.strongRecOn with
  | ind m ih =>
    intro cs ds l hm hl h
    have hx : NlX (10 :: t) := ⟨t, rfl⟩
    rw [iterS_eq (listStep_nice hg)] at h
    rw [iterS_eq (listStep_nice hg)]
    cases hb : beginsS l with
    | false =>
      exfalso
      have e : listStep sub cs l = .ok (.stop cs) l := by unfold listStep; rw [if_pos hb]
      rw [e] at h
      cases h
      exact hl rfl
    | true =>
      have e1 : listStep sub cs l = (lineS sub l).bind fun c r => if wasS shEnds r = false then .ok (.stop (cs ++ [c])) (skipS shEnds r) else .ok (.go (cs ++ [c])) (skipS shEnds r) := by
        unfold listStep; rw [if_neg (by rw [hb]; simp)]
      have e2 : listStep sub cs (l ++ 10 :: t) = (lineS sub (l ++ 10 :: t)).bind fun c r => if wasS shEnds r = false then .ok (.stop (cs ++ [c])) (skipS shEnds r) else .ok (.go (cs ++ [c])) (skipS shEnds r) := by
        unfold listStep; rw [if_neg (by rw [beginsS_ext hx, hb]; simp)]
      rw [e1] at h
      rw [e2]
      cases hli : lineS sub l with
      | bad e => rw [hli] at h; cases h
      | ok c r =>
        rw [hli] at h
        rw [lineS_ext hx hg hs l c r hli (Nat.zero_le _)]
        have hlt := lineS_lt hg l c r hli
        dsimp only [Rr.bind] at h ⊢
        by_cases hr : skipS shEnds r = []
        · obtain ⟨k1, k2⟩ := skip_end (t := t) _ r rfl hr
          rw [k1, k2]
          have hds : ds = cs ++ [c] := by
            rw [hr] at h
            by_cases hw : wasS shEnds r = false
            · rw [if_pos hw] at h; cases h; rfl
            · rw [if_neg hw] at h
              dsimp only at h
              rw [cont_nil] at h
              cases h; rfl
          rw [hds]
          rfl
        · have hw : wasS shEnds r = true := by
            cases hw : wasS shEnds r with
            | true => rfl
            | false =>
              rw [hw] at h
              simp only [if_true] at h
              injection h with h1 h2
              exact absurd h2 hr
          rw [hw] at h
          simp only [Bool.true_eq_false, if_false] at h
          rw [wasS_ext hx hr, skipS_ext hx hr, hw]
          simp only [Bool.true_eq_false, if_false]
          have hsk := skip_len shEnds r
          exact ih (skipS shEnds r).length (by omega) (cs ++ [c]) ds (skipS shEnds r) rfl hr h
theorem listStep_no {sub : Deeper} {cs : List Co} {l : List UInt8} (hb : beginsS l = false) : listStep sub cs l = .ok (.stop cs) l := by unfold listStep; rw [if_pos hb]
theorem listStep_yes {sub : Deeper} {cs : List Co} {l : List UInt8} (hb : beginsS l = true) : listStep sub cs l = (lineS sub l).bind fun c r => if wasS shEnds r = false then .ok (.stop (cs ++ [c])) (skipS shEnds r) else .ok (.go (cs ++ [c])) (skipS shEnds r) := by unfold listStep; rw [if_neg (by rw [hb]; simp)]
/-- Behind other lines the same ones are read. -/
theorem cont_acc {sub : Deeper} (hg : GoodD sub) : ∀ (m : Nat) (zs cs ds : List Co) (l r : List UInt8), l.length = m → iterS (listStep sub) cs l = .ok ds r → iterS (listStep sub) (zs ++ cs) l = .ok (zs ++ ds) r := by
  intro m
  induction m using Nat.strongRecOn with
  | ind m ih =>
    intro zs cs ds l r hm h
    rw [iterS_eq (listStep_nice hg)] at h
    rw [iterS_eq (listStep_nice hg)]
    cases hb : beginsS l with
    | false =>
      rw [listStep_no hb] at h ⊢
      cases h; rfl
    | true =>
      rw [listStep_yes hb] at h ⊢
      cases hli : lineS sub l with
      | bad e => rw [hli] at h; cases h
      | ok c r1 =>
        have hlt := lineS_lt hg l c r1 hli
        have hsk := skip_len shEnds r1
        rw [hli] at h
        dsimp only [Rr.bind] at h ⊢
        by_cases hw : wasS shEnds r1 = false
        · rw [if_pos hw] at h ⊢
          cases h
          show Rr.ok _ _ = _
          rw [List.append_assoc]
        · rw [if_neg hw] at h ⊢
          dsimp only at h ⊢
          rw [List.append_assoc]
          exact ih _ (by omega) zs (cs ++ [c]) ds _ r rfl h
/-- Two scripts with an end of line between are both. -/
theorem lst_two {k : Nat} {s t : List UInt8} {zs bs : List Co} (ha : lstS k s = .ok zs []) (hb : lstS k t = .ok bs []) : lstS k (s ++ 10 :: t) = .ok (zs ++ bs) [] := by
  have hx : NlX (10 :: t) := ⟨t, rfl⟩
  have hb2 : iterS (listStep (lvl k)) zs (skipS shEnds t) = .ok (zs ++ bs) [] := by
    have := cont_acc (lvl_good k) _ zs [] bs (skipS shEnds t) [] rfl hb
    rwa [List.append_nil] at this
  show iterS (listStep (lvl k)) [] (skipS shEnds (s ++ 10 :: t)) = _
  have ha2 : iterS (listStep (lvl k)) [] (skipS shEnds s) = .ok zs [] := ha
  by_cases hs : skipS shEnds s = []
  · rw [(skip_end (t := t) _ s rfl hs).1]
    rw [hs, cont_nil] at ha2
    cases ha2
    exact hb
  · rw [skipS_ext hx hs, list_end (lvl_good k) (lvl_ext hx k) _ [] zs _ rfl hs ha2]
    exact hb2
end Go.Proofs.YtabkmimpkoiajaaDoor
namespace Go.Proofs.YtabkmimpkoiajaaDoor
open Go.RowKit Go.Lib

/-- The second is the first, or too deep. -/
def Dp {α : Type} (R R' : Rr α) : Prop := R' = R ∨ R' = .bad 7
theorem Dp.same {α : Type} {R : Rr α} : Dp R R := .inl rfl
theorem Dp.bind {α β : Type} {R R' : Rr α} {f f' : α → List UInt8 → Rr β} (h : Dp R R') (k : ∀ v r, Dp (f v r) (f' v r)) : Dp (R.bind f) (R'.bind f') := by
  rcases h with h | h
  · rw [h]
    cases R with
    | bad e => exact .same
    | ok v r => exact k v r
  · rw [h]; exact .inr rfl
theorem iter_dp {σ β : Type} {step step' : σ → List UInt8 → Rr (It σ β)} (hs : ∀ s l, NiceI l (step s l)) (hs' : ∀ s l, NiceI l (step' s l)) (h : ∀ s l, Dp (step s l) (step' s l)) : ∀ (m : Nat) (s : σ) (l : List UInt8), l.length = m → Dp (iterS step s l) (iterS step' s l) := by
  intro m
  induction m using Nat.strongRecOn with
  | ind m ih =>
    intro s l hm
    have h1 := hs s l
    rw [iterS_eq hs, iterS_eq hs']
    rcases h s l with h2 | h2
    · rw [h2]
      cases hst : step s l with
      | bad e => exact .same
      | ok o r1 =>
        rw [hst] at h1
        cases o with
        | stop b => exact .same
        | go s' =>
          have h3 : r1.length < l.length := h1
          exact ih r1.length (by omega) s' r1 rfl
    · rw [h2]; exact .inr rfl
theorem iterS_dp {σ β : Type} {step step' : σ → List UInt8 → Rr (It σ β)} (hs : ∀ s l, NiceI l (step s l)) (hs' : ∀ s l, NiceI l (step' s l)) (h : ∀ s l, Dp (step s l) (step' s l)) (s : σ) (l : List UInt8) : Dp (iterS step s l) (iterS step' s l) := iter_dp hs hs' h _ s l rfl
def DpD (g g' : Dn) : Prop := (∀ l, Dp (g.lst l) (g'.lst l)) ∧ ∀ l, Dp (g.wds l) (g'.wds l)
def DpS (sub sub' : Deeper) : Prop := sub' = none ∨ ∃ g g', sub = some g ∧ sub' = some g' ∧ DpD g g'
section
variable {sub sub' : Deeper}
theorem subS_dp (h : DpS sub sub') (l : List UInt8) : Dp (subS sub l) (subS sub' l) := by
  rcases h with rfl | ⟨g, g', rfl, rfl, h⟩
  · exact .inr rfl
  · exact h.1 l
theorem withinS_dp (h : DpS sub sub') {f : Dn → List UInt8 → Rr Co} (hf : ∀ g g', DpD g g' → ∀ l, Dp (f g l) (f g' l)) (l : List UInt8) : Dp (withinS sub f l) (withinS sub' f l) := by
  rcases h with rfl | ⟨g, g', rfl, rfl, h⟩
  · exact .inr rfl
  · exact hf g g' h l
theorem partS_dp (h : DpS sub sub') (q : Bool) (l : List UInt8) : Dp (partS sub q l) (partS sub' q l) := by
  unfold partS
  cases takeS [40, 40] l with
  | some r => exact .same
  | none =>
    cases takeS [40] l with
    | some r => exact (subS_dp h r).bind fun _ _ => .same
    | none => exact .same
theorem dblStep_dp (h : DpS sub sub') (st : Sp) (l : List UInt8) : Dp (dblStep sub st l) (dblStep sub' st l) := by
  unfold dblStep
  cases takeS [34] l with
  | some r => exact .same
  | none =>
    cases takeS [36] l with
    | some r => exact (partS_dp h true r).bind fun _ _ => .same
    | none => exact .same
theorem dblS_dp (hg : GoodD sub) (hg' : GoodD sub') (h : DpS sub sub') (st : Sp) (l : List UInt8) : Dp (dblS sub st l) (dblS sub' st l) := by
  unfold dblS
  cases takeS [34] l with
  | some r => exact .same
  | none => exact iterS_dp (dblStep_nice hg) (dblStep_nice hg') (dblStep_dp h) st l
theorem wordStep_dp (hg : GoodD sub) (hg' : GoodD sub') (h : DpS sub sub') (st : Sp) (l : List UInt8) : Dp (wordStep sub st l) (wordStep sub' st l) := by
  unfold wordStep
  cases takeS [39] l with
  | some r => exact .same
  | none =>
    cases takeS [92] l with
    | some r => exact .same
    | none =>
      cases takeS [34] l with
      | some r => exact (dblS_dp hg hg' h st r).bind fun _ _ => .same
      | none =>
        cases takeS [36] l with
        | some r => exact (partS_dp h false r).bind fun _ _ => .same
        | none => exact .same
theorem wordS_dp (hg : GoodD sub) (hg' : GoodD sub') (h : DpS sub sub') (l : List UInt8) : Dp (wordS sub l) (wordS sub' l) := iterS_dp (wordStep_nice hg) (wordStep_nice hg') (wordStep_dp hg hg' h) _ l
theorem wordsStep_dp (hg : GoodD sub) (hg' : GoodD sub') (h : DpS sub sub') (ws : List (List Pt)) (l : List UInt8) : Dp (wordsStep sub ws l) (wordsStep sub' ws l) := (wordS_dp hg hg' h (gapS l)).bind fun _ _ => .same
theorem wordsS_dp (hg : GoodD sub) (hg' : GoodD sub') (h : DpS sub sub') (l : List UInt8) : Dp (wordsS sub l) (wordsS sub' l) := iterS_dp (wordsStep_nice hg) (wordsStep_nice hg') (wordsStep_dp hg hg' h) _ l
theorem asgStep_dp (hg : GoodD sub) (hg' : GoodD sub') (h : DpS sub sub') (s : List (List UInt8) × List (List Pt)) (l : List UInt8) : Dp (asgStep sub s l) (asgStep sub' s l) := by
  unfold asgStep
  cases assignS l with
  | none => exact .same
  | some p => exact (wordS_dp hg hg' h p.2).bind fun _ _ => .same
theorem simpleS_dp (hg : GoodD sub) (hg' : GoodD sub') (h : DpS sub sub') (l : List UInt8) : Dp (simpleS sub l) (simpleS sub' l) := by
  unfold simpleS
  refine (iterS_dp (asgStep_nice hg) (asgStep_nice hg') (asgStep_dp hg hg' h) _ l).bind fun s r => ?_
  split
  · exact .same
  · exact (wordsS_dp hg hg' h r).bind fun _ _ => .same
theorem linesS_dp {g g' : Dn} (h : DpD g g') (l : List UInt8) : Dp (linesS g l) (linesS g' l) := (h.1 l).bind fun _ _ => .same
theorem bodyS_dp {g g' : Dn} (h : DpD g g') (l : List UInt8) : Dp (bodyS g l) (bodyS g' l) := by
  unfold bodyS
  exact Dp.same.bind fun _ r => (linesS_dp h r).bind fun _ _ => .same
theorem elseS_dp {g g' : Dn} (h : DpD g g') (l : List UInt8) : Dp (elseS g l) (elseS g' l) := by
  unfold elseS
  cases takeKeyS [101, 108, 115, 101] l with
  | none => exact .same
  | some r => exact linesS_dp h r
theorem choiceS_dp {g g' : Dn} (h : DpD g g') (l : List UInt8) : Dp (choiceS g l) (choiceS g' l) := by
  unfold choiceS
  exact (linesS_dp h l).bind fun _ _ => Dp.same.bind fun _ r1 => (linesS_dp h r1).bind fun _ r2 => (elseS_dp h r2).bind fun _ _ => .same
theorem roundsS_dp {g g' : Dn} (h : DpD g g') (l : List UInt8) : Dp (roundsS g l) (roundsS g' l) := by
  unfold roundsS
  exact (linesS_dp h l).bind fun _ r => (bodyS_dp h r).bind fun _ _ => .same
theorem eachS_dp {g g' : Dn} (h : DpD g g') (l : List UInt8) : Dp (eachS g l) (eachS g' l) := by
  unfold eachS
  refine Dp.same.bind fun n r => Dp.same.bind fun _ r1 => (h.2 r1).bind fun ws r2 => ?_
  split
  · exact .same
  · exact (bodyS_dp h _).bind fun _ _ => .same
theorem cmdS_dp (hg : GoodD sub) (hg' : GoodD sub') (h : DpS sub sub') (l : List UInt8) : Dp (cmdS sub l) (cmdS sub' l) := by
  unfold cmdS
  split
  · exact withinS_dp h (fun g g' k => choiceS_dp k) _
  · split
    · exact withinS_dp h (fun g g' k => roundsS_dp k) _
    · split
      · exact withinS_dp h (fun g g' k => eachS_dp k) _
      · exact simpleS_dp hg hg' h l
end
theorem rowStep_dp {kind : Nat} {mk : List UInt8} {one one' : List UInt8 → Rr Co} {fits : Co → Bool} (h : ∀ l, Dp (one l) (one' l)) (s : List Co × Co × Bool) (l : List UInt8) : Dp (rowStep kind mk one fits s l) (rowStep kind mk one' fits s l) := by
  unfold rowStep
  split
  · exact .same
  · split
    · exact .same
    · exact (h _).bind fun _ _ => .same
theorem rowS_dp {kind : Nat} {mk : List UInt8} {one one' : List UInt8 → Rr Co} {fits : Co → Bool} (hn : ∀ l, Nice l (one l)) (h1 : NotNil one) (hn' : ∀ l, Nice l (one' l)) (h1' : NotNil one') (h : ∀ l, Dp (one l) (one' l)) (l : List UInt8) : Dp (rowS kind mk one fits l) (rowS kind mk one' fits l) := by
  unfold rowS
  refine (h l).bind fun c r => ?_
  split
  · exact .same
  · exact iterS_dp (rowStep_nice hn h1) (rowStep_nice hn' h1') (rowStep_dp h) _ _
section
variable {sub sub' : Deeper}
theorem pipeS_dp (hg : GoodD sub) (hg' : GoodD sub') (h : DpS sub sub') (l : List UInt8) : Dp (pipeS sub l) (pipeS sub' l) := rowS_dp (cmdS_nice hg) (cmdS_lt hg) (cmdS_nice hg') (cmdS_lt hg') (cmdS_dp hg hg' h) l
theorem lineS_dp (hg : GoodD sub) (hg' : GoodD sub') (h : DpS sub sub') (l : List UInt8) : Dp (lineS sub l) (lineS sub' l) := rowS_dp (pipeS_nice hg) (pipeS_lt hg) (pipeS_nice hg') (pipeS_lt hg') (pipeS_dp hg hg' h) l
theorem listStep_dp (hg : GoodD sub) (hg' : GoodD sub') (h : DpS sub sub') (cs : List Co) (l : List UInt8) : Dp (listStep sub cs l) (listStep sub' cs l) := by
  unfold listStep
  split
  · exact .same
  · exact (lineS_dp hg hg' h l).bind fun _ _ => .same
theorem listS_dp (hg : GoodD sub) (hg' : GoodD sub') (h : DpS sub sub') (l : List UInt8) : Dp (listS sub l) (listS sub' l) := iterS_dp (listStep_nice hg) (listStep_nice hg') (listStep_dp hg hg' h) _ _
end
theorem lvl_dp : ∀ k, DpS (lvl (k + 1)) (lvl k)
  | 0 => .inl rfl
  | k + 1 => .inr ⟨_, _, rfl, rfl, listS_dp (lvl_good _) (lvl_good _) (lvl_dp k), wordsS_dp (lvl_good _) (lvl_good _) (lvl_dp k)⟩
/-- With room for one less: the same, or too deep. -/
theorem lst_dp (k : Nat) (l : List UInt8) : Dp (lstS (k + 1) l) (lstS k l) := listS_dp (lvl_good _) (lvl_good _) (lvl_dp k) l
/-- A list that is read to its end, with an end of line and something behind it that begins no command. -/
theorem lst_upto {k : Nat} {s t : List UInt8} {cs : List Co} (h : lstS k s = .ok cs []) (ht : skipS shEnds t = t) (hb : beginsS t = false) : lstS k (s ++ 10 :: t) = .ok cs t := by
  have hx : NlX (10 :: t) := ⟨t, rfl⟩
  have hc : ∀ ds, contS (lvl k) ds t = .ok ds t := fun ds => by
    unfold contS
    rw [ht, iterS_eq (listStep_nice (lvl_good k)), listStep_no hb]
  show iterS (listStep (lvl k)) [] (skipS shEnds (s ++ 10 :: t)) = _
  have h2 : iterS (listStep (lvl k)) [] (skipS shEnds s) = .ok cs [] := h
  by_cases hs : skipS shEnds s = []
  · rw [(skip_end (t := t) _ s rfl hs).1]
    rw [hs, cont_nil] at h2
    cases h2
    exact hc []
  · rw [skipS_ext hx hs, list_end (lvl_good k) (lvl_ext hx k) _ [] cs _ rfl hs h2]
    exact hc cs
/-- One deeper: so, or too deep. -/
theorem lst_in {k : Nat} {s t : List UInt8} {cs : List Co} (h : lstS (k + 1) s = .ok cs []) (ht : skipS shEnds t = t) (hb : beginsS t = false) : lstS k (s ++ 10 :: t) = .ok cs t ∨ lstS k (s ++ 10 :: t) = .bad 7 := by
  rcases lst_dp k (s ++ 10 :: t) with e | e
  · exact .inl (e.trans (lst_upto h ht hb))
  · exact .inr e
end Go.Proofs.YtabkmimpkoiajaaDoor
