/- Packed texts: ShNice, ShExt, ShTexts, ShTexts2, RfSpec. What each of them proves stands above its theorems; the conditions stand in these. -/
import Derived.Test.YtelfgobjnibooaaDoorA0
namespace Go.Proofs.YtelfgobjnibooaaDoor
open Go.RowKit Go.Lib

theorem takeS_some {t l r : List UInt8} (h : takeS t l = some r) : l = t ++ r := by
  unfold takeS at h
  split at h
  · rename_i hp
    cases h
    exact (List.prefix_iff_eq_append.1 (List.isPrefixOf_iff_prefix.1 hp)).symm
  · cases h
theorem takeS_app (t r : List UInt8) : takeS t (t ++ r) = some r := by
  unfold takeS
  rw [if_pos (List.isPrefixOf_iff_prefix.2 (List.prefix_append t r)), List.drop_left]
theorem takeS_len {t l r : List UInt8} (h : takeS t l = some r) : l.length = t.length + r.length := by
  rw [takeS_some h, List.length_append]
theorem dropS_len (p : UInt8 → Bool) : ∀ l : List UInt8, (l.dropWhile p).length ≤ l.length
  | [] => Nat.le_refl _
  | c :: l => by
    have := dropS_len p l
    unfold List.dropWhile
    split <;> simp only [List.length_cons] <;> omega
theorem pastS_len (of l : List UInt8) : (pastS of l).length ≤ l.length := dropS_len _ l
theorem run_past (of l : List UInt8) : runS of l ++ pastS of l = l := List.takeWhile_append_dropWhile
theorem run_past_len (of l : List UInt8) : (runS of l).length + (pastS of l).length = l.length := by
  rw [← List.length_append, run_past]
theorem remS_len (l : List UInt8) : (remS l).length ≤ l.length := by
  unfold remS
  split
  · exact pastS_len _ _
  · exact Nat.le_refl _
theorem gapS_len (l : List UInt8) : (gapS l).length ≤ l.length := Nat.le_trans (remS_len _) (dropS_len _ l)
theorem skipF_fuel (of : List UInt8) : ∀ (f g : Nat) (l : List UInt8), l.length < f → l.length < g → skipF of f l = skipF of g l
  | 0, _, _, h, _ => by omega
  | _ + 1, 0, _, _, h => by omega
  | f + 1, g + 1, l, h1, h2 => by
    have hg := gapS_len l
    unfold skipF
    cases hl : gapS l with
    | nil => rfl
    | cons c r =>
      rw [hl, List.length_cons] at hg
      dsimp only
      split
      · exact skipF_fuel of f g r (by omega) (by omega)
      · rfl
theorem skipS_eq (of l : List UInt8) : skipS of l = match gapS l with
    | [] => []
    | c :: r => if of.contains c then skipS of r else c :: r := by
  have hg := gapS_len l
  have e0 : skipS of l = match gapS l with
    | [] => []
    | c :: r => if of.contains c then skipF of l.length r else c :: r := rfl
  rw [e0]
  cases hl : gapS l with
  | nil => rfl
  | cons c r =>
    rw [hl, List.length_cons] at hg
    dsimp only
    split
    · exact skipF_fuel of _ _ r (by omega) (by omega)
    · rfl
theorem skipS_len (of : List UInt8) : ∀ (n : Nat) (l : List UInt8), l.length = n → (skipS of l).length ≤ l.length ∧ (wasS of l = true → (skipS of l).length < l.length) := by
  intro n
  induction n using Nat.strongRecOn with
  | ind n ih =>
    intro l hn
    have hg := gapS_len l
    rw [skipS_eq]
    unfold wasS
    cases hl : gapS l with
    | nil => exact ⟨Nat.zero_le _, fun h => by cases h⟩
    | cons c r =>
      rw [hl, List.length_cons] at hg
      dsimp only
      by_cases hc : of.contains c = true
      · rw [if_pos hc]
        have := (ih r.length (by omega) r rfl).1
        exact ⟨by omega, fun _ => by omega⟩
      · rw [if_neg hc]
        exact ⟨by rw [List.length_cons]; omega, fun h => absurd h hc⟩
theorem skip_len (of l : List UInt8) : (skipS of l).length ≤ l.length := (skipS_len of _ l rfl).1
theorem bind_ok {α β : Type} {R : Rr α} {f : α → List UInt8 → Rr β} {x : β} {r : List UInt8} (h : R.bind f = .ok x r) : ∃ y r1, R = .ok y r1 ∧ f y r1 = .ok x r := by
  cases R with
  | ok y r1 => exact ⟨y, r1, rfl, h⟩
  | bad e => cases h
/-- It goes on within the text, or what is wrong is one of two. -/
def Nice {α : Type} (l : List UInt8) : Rr α → Prop
  | .ok _ r => r.length ≤ l.length
  | .bad e => e = 7 ∨ e = 9
theorem Nice.mono {α : Type} {l l' : List UInt8} {R : Rr α} (h : Nice l R) (hl : l.length ≤ l'.length) : Nice l' R := by
  cases R with
  | ok x r => exact Nat.le_trans h hl
  | bad e => exact h
theorem Nice.bind {α β : Type} {l : List UInt8} {R : Rr α} {f : α → List UInt8 → Rr β} (h : Nice l R) (k : ∀ x r, R = .ok x r → Nice r (f x r)) : Nice l (R.bind f) := by
  cases R with
  | ok x r => exact (k x r rfl).mono h
  | bad e => exact h
theorem nice9 {α : Type} {l : List UInt8} : Nice l (Rr.bad 9 : Rr α) := .inr rfl
theorem nice7 {α : Type} {l : List UInt8} : Nice l (Rr.bad 7 : Rr α) := .inl rfl
/-- The same of a step: to go on it takes something. -/
def NiceI {σ β : Type} (l : List UInt8) : Rr (It σ β) → Prop
  | .ok (.go _) r => r.length < l.length
  | .ok (.stop _) r => r.length ≤ l.length
  | .bad e => e = 7 ∨ e = 9
theorem NiceI.bind {α σ β : Type} {l l' : List UInt8} {R : Rr α} {f : α → List UInt8 → Rr (It σ β)} (h : Nice l' R) (_hl : l'.length < l.length) (k : ∀ x r, R = .ok x r → r.length ≤ l'.length → NiceI l (f x r)) : NiceI l (R.bind f) := by
  cases R with
  | ok x r => exact k x r rfl h
  | bad e => exact h
theorem iterF_fuel {σ β : Type} {step : σ → List UInt8 → Rr (It σ β)} (hs : ∀ s l, NiceI l (step s l)) : ∀ (f g : Nat) (s : σ) (l : List UInt8), l.length < f → l.length < g → iterF step f s l = iterF step g s l
  | 0, _, _, _, h, _ => by omega
  | _ + 1, 0, _, _, _, h => by omega
  | f + 1, g + 1, s, l, h1, h2 => by
    have h := hs s l
    unfold iterF
    cases hr : step s l with
    | bad e => rfl
    | ok x r =>
      rw [hr] at h
      cases x with
      | stop b => rfl
      | go s' =>
        have h : r.length < l.length := h
        exact iterF_fuel hs f g s' r (by omega) (by omega)
theorem iterS_eq {σ β : Type} {step : σ → List UInt8 → Rr (It σ β)} (hs : ∀ s l, NiceI l (step s l)) (s : σ) (l : List UInt8) : iterS step s l = match step s l with
    | .bad e => .bad e
    | .ok (.stop b) r => .ok b r
    | .ok (.go s') r => iterS step s' r := by
  have h := hs s l
  have e0 : iterS step s l = match step s l with
    | .bad e => .bad e
    | .ok (.stop b) r => .ok b r
    | .ok (.go s') r => iterF step l.length s' r := rfl
  rw [e0]
  cases hr : step s l with
  | bad e => rfl
  | ok x r =>
    rw [hr] at h
    cases x with
    | stop b => rfl
    | go s' => exact iterF_fuel hs _ _ s' r h (Nat.lt_succ_self _)
theorem iter_nice {σ β : Type} {step : σ → List UInt8 → Rr (It σ β)} (hs : ∀ s l, NiceI l (step s l)) : ∀ (n : Nat) (s : σ) (l : List UInt8), l.length = n → Nice l (iterS step s l) := by
  intro n
  induction n using Nat.strongRecOn with
  | ind n ih =>
    intro s l hn
    have h := hs s l
    rw [iterS_eq hs]
    cases hr : step s l with
    | bad e => rw [hr] at h; exact h
    | ok x r =>
      rw [hr] at h
      cases x with
      | stop b => exact h
      | go s' =>
        have h : r.length < l.length := h
        exact (ih r.length (by omega) s' r rfl).mono (Nat.le_of_lt h)
theorem iterS_nice {σ β : Type} {step : σ → List UInt8 → Rr (It σ β)} (hs : ∀ s l, NiceI l (step s l)) (s : σ) (l : List UInt8) : Nice l (iterS step s l) := iter_nice hs _ s l rfl

theorem needS_nice (t l : List UInt8) : Nice l (needS t l) := by
  unfold needS
  cases h : takeS t l with
  | none => exact nice9
  | some r => have := takeS_len h; show r.length ≤ l.length; omega
theorem takeKey_drop {k l r : List UInt8} (h : takeKeyS k l = some r) : r = l.drop k.length := by
  unfold takeKeyS at h
  split at h
  · cases h; rfl
  · cases h
theorem needKey_nice (k l : List UInt8) : Nice l (needKey k l) := by
  unfold needKey
  cases h : takeKeyS k l with
  | none => exact nice9
  | some r => have := takeKey_drop h; show r.length ≤ l.length; rw [this, List.length_drop]; omega
theorem nameR_nice (l : List UInt8) : Nice l (nameR l) := by
  unfold nameR
  split
  · exact nice9
  · show (l.drop _).length ≤ l.length
    rw [List.length_drop]; omega
theorem singleS_nice (l : List UInt8) : Nice l (singleS l) := by
  unfold singleS
  refine Nice.mono (l := pastS [39] l) ?_ (pastS_len _ _)
  exact (needS_nice _ _).bind fun x r _ => Nat.le_refl _
theorem recS_len : ∀ (l : List UInt8) (o : Nat) (s r : List UInt8), recS o l = some (s, r) → l = s ++ r
  | [], _, _, _, h => by cases h
  | c :: l, o, s, r, h => by
    unfold recS at h
    split at h
    · cases h
    · split at h
      · cases hr : recS (o + 1) l with
        | none => rw [hr] at h; cases h
        | some p => rw [hr] at h; obtain ⟨a, b⟩ := p; cases h; rw [recS_len l _ a b hr]; rfl
      · split at h
        · cases o with
          | zero => cases h; rfl
          | succ o =>
            dsimp only at h
            cases hr : recS o l with
            | none => rw [hr] at h; cases h
            | some p => rw [hr] at h; obtain ⟨a, b⟩ := p; cases h; rw [recS_len l _ a b hr]; rfl
        · cases hr : recS o l with
          | none => rw [hr] at h; cases h
          | some p => rw [hr] at h; obtain ⟨a, b⟩ := p; cases h; rw [recS_len l _ a b hr]; rfl
theorem reckS_nice (l : List UInt8) : Nice l (reckS l) := by
  unfold reckS
  cases h : recS 0 l with
  | none => exact nice9
  | some p =>
    obtain ⟨s, r⟩ := p
    have := recS_len l 0 s r h
    refine Nice.mono (l := r) ?_ (by rw [this, List.length_append]; omega)
    exact (needS_nice _ _).bind fun x r' _ => Nat.le_refl _
theorem withT_nice (q : Bool) (k : Nat) (n l : List UInt8) : Nice l (withT q k n l) := by
  unfold withT
  refine Nice.mono (l := pastS shBarred l) ?_ (pastS_len _ _)
  exact (needS_nice _ _).bind fun x r _ => Nat.le_refl _
theorem bracedS_nice (q : Bool) (l : List UInt8) : Nice l (bracedS q l) := by
  unfold bracedS
  refine (nameR_nice l).bind fun n r _ => ?_
  split
  · rename_i r1 h; have := takeS_len h; show r1.length ≤ _; omega
  · split
    · rename_i r1 h; have := takeS_len h; exact (withT_nice _ _ _ _).mono (by omega)
    · split
      · rename_i r1 h; have := takeS_len h; exact (withT_nice _ _ _ _).mono (by omega)
      · split
        · rename_i r1 h; have := takeS_len h; exact (withT_nice _ _ _ _).mono (by omega)
        · exact nice9
/-- What is read one deeper is so, too. -/
def GoodD (sub : Deeper) : Prop := ∀ g, sub = some g → (∀ l, Nice l (g.lst l)) ∧ ∀ l, Nice l (g.wds l)
theorem subS_nice {sub : Deeper} (hg : GoodD sub) (l : List UInt8) : Nice l (subS sub l) := by
  cases sub with
  | none => exact nice7
  | some g => exact (hg g rfl).1 l
theorem partS_nice {sub : Deeper} (hg : GoodD sub) (q : Bool) (l : List UInt8) : Nice l (partS sub q l) := by
  unfold partS
  split
  · rename_i r h; have := takeS_len h
    exact Nice.mono ((reckS_nice r).bind fun x r' _ => Nat.le_refl _) (by omega)
  · split
    · rename_i r h; have := takeS_len h
      exact Nice.mono ((subS_nice hg r).bind fun x r' _ => (needS_nice _ _).bind fun _ _ _ => Nat.le_refl _) (by omega)
    · split
      · rename_i r h; have := takeS_len h
        exact Nice.mono ((nameR_nice r).bind fun x r' _ => (needS_nice _ _).bind fun _ _ _ => Nat.le_refl _) (by omega)
      · split
        · rename_i r h; have := takeS_len h
          exact (bracedS_nice _ _).mono (by omega)
        · exact (nameR_nice l).bind fun _ _ _ => Nat.le_refl _
theorem dblStep_nice {sub : Deeper} (hg : GoodD sub) (st : Sp) (l : List UInt8) : NiceI l (dblStep sub st l) := by
  unfold dblStep
  split
  · rename_i r h; have := takeS_len h; show r.length ≤ _; omega
  · split
    · rename_i r h; have := takeS_len h; simp only [List.length_cons, List.length_nil] at this
      exact NiceI.bind (partS_nice hg true r) (by omega) fun x r' _ h2 => by show r'.length < _; omega
    · split
      · rename_i r h; have := takeS_len h; simp only [List.length_cons, List.length_nil] at this
        split
        · show (r.drop 1).length < _; rw [List.length_drop]; omega
        · exact .inr rfl
      · split
        · exact .inr rfl
        · rename_i h
          have := run_past_len shBound l
          have h2 : (runS shBound l).length ≠ 0 := fun e => h (List.eq_nil_of_length_eq_zero e)
          show (pastS shBound l).length < _; omega
theorem dblS_nice {sub : Deeper} (hg : GoodD sub) (st : Sp) (l : List UInt8) : Nice l (dblS sub st l) := by
  unfold dblS
  split
  · rename_i r h; have := takeS_len h; show r.length ≤ _; omega
  · exact iterS_nice (dblStep_nice hg) st l
theorem run_cons {of : List UInt8} {l : List UInt8} (h1 : l ≠ []) (h2 : atS of l = false) : runS of l ≠ [] := by
  cases l with
  | nil => exact absurd rfl h1
  | cons c r =>
    have h2 : of.contains c = false := h2
    unfold runS
    rw [List.takeWhile_cons, h2]
    simp
theorem wordStep_nice {sub : Deeper} (hg : GoodD sub) (st : Sp) (l : List UInt8) : NiceI l (wordStep sub st l) := by
  unfold wordStep
  split
  · rename_i r h; have := takeS_len h; simp only [List.length_cons, List.length_nil] at this
    exact NiceI.bind (singleS_nice r) (by omega) fun x r' _ h2 => by show r'.length < _; omega
  · split
    · rename_i r h; have := takeS_len h; simp only [List.length_cons, List.length_nil] at this
      split
      · exact .inr rfl
      · show (r.drop 1).length < _; rw [List.length_drop]; omega
    · split
      · rename_i r h; have := takeS_len h; simp only [List.length_cons, List.length_nil] at this
        exact NiceI.bind (dblS_nice hg st r) (by omega) fun x r' _ h2 => by show r'.length < _; omega
      · split
        · rename_i r h; have := takeS_len h; simp only [List.length_cons, List.length_nil] at this
          exact NiceI.bind (partS_nice hg false r) (by omega) fun x r' _ h2 => by show r'.length < _; omega
        · split
          · exact Nat.le_refl _
          · rename_i h
            have h1 : l ≠ [] := fun e => h (.inl e)
            have h2 : atS shMarks l = false := by cases hh : atS shMarks l with | false => rfl | true => exact absurd (.inr hh) h
            have := run_past_len shMarks l
            have h3 : (runS shMarks l).length ≠ 0 := fun e => run_cons h1 h2 (List.eq_nil_of_length_eq_zero e)
            show (pastS shMarks l).length < _; omega
theorem wordS_nice {sub : Deeper} (hg : GoodD sub) (l : List UInt8) : Nice l (wordS sub l) := iterS_nice (wordStep_nice hg) _ l
/-- A word that has a part takes something. -/
theorem wordS_lt {sub : Deeper} (hg : GoodD sub) {l r : List UInt8} {ps : List Pt} (h : wordS sub l = .ok ps r) (hp : ps ≠ []) : r.length < l.length := by
  have hn := wordStep_nice hg ⟨[], none⟩ l
  unfold wordS at h
  rw [iterS_eq (wordStep_nice hg)] at h
  cases hs : wordStep sub ⟨[], none⟩ l with
  | bad e => rw [hs] at h; cases h
  | ok x r1 =>
    rw [hs] at h hn
    cases x with
    | go s =>
      have hn : r1.length < l.length := hn
      have := iterS_nice (wordStep_nice hg) s r1
      dsimp only at h
      rw [h] at this
      exact Nat.lt_of_le_of_lt this hn
    | stop b =>
      exfalso
      cases h
      unfold wordStep at hs
      split at hs
      · obtain ⟨_, _, _, h⟩ := bind_ok hs; cases h
      · split at hs
        · split at hs <;> cases hs
        · split at hs
          · obtain ⟨_, _, _, h⟩ := bind_ok hs; cases h
          · split at hs
            · obtain ⟨_, _, _, h⟩ := bind_ok hs; cases h
            · split at hs
              · cases hs; exact hp rfl
              · cases hs
theorem wordsStep_nice {sub : Deeper} (hg : GoodD sub) (ws : List (List Pt)) (l : List UInt8) : NiceI l (wordsStep sub ws l) := by
  unfold wordsStep
  have h := wordS_nice hg (gapS l)
  have hl := gapS_len l
  cases hr : wordS sub (gapS l) with
  | bad e => rw [hr] at h; exact h
  | ok ps r =>
    rw [hr] at h
    have h : r.length ≤ (gapS l).length := h
    show NiceI l (if ps = [] then .ok (.stop ws) r else .ok (.go (ws ++ [ps])) r)
    split
    · show r.length ≤ _; omega
    · rename_i hp
      have := wordS_lt hg hr hp
      show r.length < _; omega
theorem wordsS_nice {sub : Deeper} (hg : GoodD sub) (l : List UInt8) : Nice l (wordsS sub l) := iterS_nice (wordsStep_nice hg) _ l
theorem assignS_len {l n r : List UInt8} (h : assignS l = some (n, r)) : r.length < l.length := by
  unfold assignS at h
  split at h
  · cases h
  · cases ht : takeS [61] (l.drop (nameS l).length) with
    | none => rw [ht] at h; cases h
    | some r' =>
      rw [ht] at h
      cases h
      have := takeS_len ht
      rw [List.length_drop] at this
      simp only [List.length_cons, List.length_nil] at this
      omega
theorem asgStep_nice {sub : Deeper} (hg : GoodD sub) (s : List (List UInt8) × List (List Pt)) (l : List UInt8) : NiceI l (asgStep sub s l) := by
  unfold asgStep
  split
  · exact Nat.le_refl _
  · rename_i n r h
    have := assignS_len h
    exact NiceI.bind (wordS_nice hg r) this fun x r' _ h2 => by have := gapS_len r'; show (gapS r').length < _; omega
theorem simpleS_nice {sub : Deeper} (hg : GoodD sub) (l : List UInt8) : Nice l (simpleS sub l) := by
  unfold simpleS
  refine (iterS_nice (asgStep_nice hg) _ l).bind fun s r _ => ?_
  split
  · exact nice9
  · refine (wordsS_nice hg r).bind fun ws r' _ => ?_
    split
    · exact nice9
    · exact Nat.le_refl _
def GoodG (g : Dn) : Prop := (∀ l, Nice l (g.lst l)) ∧ ∀ l, Nice l (g.wds l)
theorem linesS_nice {g : Dn} (hg : GoodG g) (l : List UInt8) : Nice l (linesS g l) := by
  unfold linesS
  refine (hg.1 l).bind fun cs r _ => ?_
  split
  · exact nice9
  · exact Nat.le_refl _
theorem bodyS_nice {g : Dn} (hg : GoodG g) (l : List UInt8) : Nice l (bodyS g l) :=
  (needKey_nice _ _).bind fun _ r _ => (linesS_nice hg r).bind fun _cs _r1 _ => (needKey_nice _ _).bind fun _ _r2 _ => Nat.le_refl _
theorem elseS_nice {g : Dn} (hg : GoodG g) (l : List UInt8) : Nice l (elseS g l) := by
  unfold elseS
  split
  · rename_i r h
    have := takeKey_drop h
    exact (linesS_nice hg r).mono (by rw [this, List.length_drop]; omega)
  · exact Nat.le_refl _
theorem choiceS_nice {g : Dn} (hg : GoodG g) (l : List UInt8) : Nice l (choiceS g l) :=
  (linesS_nice hg l).bind fun _a _r _ => (needKey_nice _ _).bind fun _ r1 _ => (linesS_nice hg r1).bind fun _b r2 _ => (elseS_nice hg r2).bind fun _c _r3 _ => (needKey_nice _ _).bind fun _ _r4 _ => Nat.le_refl _
theorem roundsS_nice {g : Dn} (hg : GoodG g) (l : List UInt8) : Nice l (roundsS g l) :=
  (linesS_nice hg l).bind fun _a r _ => (bodyS_nice hg r).bind fun _b _r1 _ => Nat.le_refl _
theorem eachS_nice {g : Dn} (hg : GoodG g) (l : List UInt8) : Nice l (eachS g l) := by
  unfold eachS
  refine Nice.mono (l := gapS l) ?_ (gapS_len l)
  refine (nameR_nice _).bind fun n r _ => Nice.mono (l := gapS r) ?_ (gapS_len r)
  refine (needKey_nice _ _).bind fun _ r1 _ => (hg.2 r1).bind fun ws r2 _ => ?_
  split
  · exact nice9
  · exact Nice.mono ((bodyS_nice hg _).bind fun _ _ _ => Nat.le_refl _) (skip_len _ _)
theorem withinS_nice {sub : Deeper} (hg : GoodD sub) {f : Dn → List UInt8 → Rr Co} (hf : ∀ g, GoodG g → ∀ l, Nice l (f g l)) (l : List UInt8) : Nice l (withinS sub f l) := by
  cases sub with
  | none => exact nice7
  | some g => exact hf g (hg g rfl) l
theorem cmdS_nice {sub : Deeper} (hg : GoodD sub) (l : List UInt8) : Nice l (cmdS sub l) := by
  unfold cmdS
  split
  · exact (withinS_nice hg (fun g h => choiceS_nice h) _).mono (by rw [List.length_drop]; omega)
  · split
    · exact (withinS_nice hg (fun g h => roundsS_nice h) _).mono (by rw [List.length_drop]; omega)
    · split
      · exact (withinS_nice hg (fun g h => eachS_nice h) _).mono (by rw [List.length_drop]; omega)
      · exact simpleS_nice hg l
theorem markS_len {mk l r : List UInt8} (h : markS mk l = some r) : r.length + mk.length ≤ l.length := by
  unfold markS at h
  split at h
  · cases h
  · have := takeS_len h
    have := gapS_len l
    omega
theorem behindS_len (mk l : List UInt8) : (behindS mk l).length ≤ l.length := by
  unfold behindS
  cases h : markS mk l with
  | none => exact gapS_len l
  | some r => have := markS_len h; show r.length ≤ _; omega
/-- What stands at the beginning of nothing is nothing. -/
def NotNil (one : List UInt8 → Rr Co) : Prop := ∀ l c r, one l = .ok c r → r.length < l.length
theorem rowStep_nice {kind : Nat} {mk : List UInt8} {one : List UInt8 → Rr Co} {fits : Co → Bool} (h1 : ∀ l, Nice l (one l)) (h2 : NotNil one) (s : List Co × Co × Bool) (l : List UInt8) : NiceI l (rowStep kind mk one fits s l) := by
  unfold rowStep
  split
  · exact .inr rfl
  · split
    · exact Nat.le_refl _
    · have hn := h1 (skipS [10] l)
      have hl := skip_len [10] l
      cases hr : one (skipS [10] l) with
      | bad e => rw [hr] at hn; exact hn
      | ok c r =>
        have := h2 _ _ _ hr
        have := behindS_len mk r
        show (behindS mk r).length < _; omega
theorem rowS_nice {kind : Nat} {mk : List UInt8} {one : List UInt8 → Rr Co} {fits : Co → Bool} (h1 : ∀ l, Nice l (one l)) (h2 : NotNil one) (l : List UInt8) : Nice l (rowS kind mk one fits l) := by
  unfold rowS
  refine (h1 l).bind fun c r _ => ?_
  split
  · exact behindS_len mk r
  · exact (iterS_nice (rowStep_nice h1 h2) _ _).mono (behindS_len mk r)
theorem rowS_lt {kind : Nat} {mk : List UInt8} {one : List UInt8 → Rr Co} {fits : Co → Bool} (h1 : ∀ l, Nice l (one l)) (h2 : NotNil one) : NotNil (rowS kind mk one fits) := by
  intro l c r h
  unfold rowS at h
  obtain ⟨c1, r1, h3, h⟩ := bind_ok h
  have h4 := h2 _ _ _ h3
  have h5 := behindS_len mk r1
  split at h
  · cases h; omega
  · have := iterS_nice (rowStep_nice (kind := kind) (mk := mk) (fits := fits) h1 h2) ([], c1, true) (behindS mk r1)
    rw [h] at this
    have this : r.length ≤ (behindS mk r1).length := this
    omega
theorem wordsS_lt {sub : Deeper} (hg : GoodD sub) {l r : List UInt8} {ws : List (List Pt)} (h : wordsS sub l = .ok ws r) (hw : ws ≠ []) : r.length < l.length := by
  have hn := wordsStep_nice hg [] l
  unfold wordsS at h
  rw [iterS_eq (wordsStep_nice hg)] at h
  cases hs : wordsStep sub [] l with
  | bad e => rw [hs] at h; cases h
  | ok x r1 =>
    rw [hs] at h hn
    cases x with
    | go s =>
      have hn : r1.length < l.length := hn
      have := iterS_nice (wordsStep_nice hg) s r1
      dsimp only at h
      rw [h] at this
      exact Nat.lt_of_le_of_lt this hn
    | stop b =>
      exfalso
      cases h
      unfold wordsStep at hs
      obtain ⟨ps, r2, _, h⟩ := bind_ok hs
      split at h
      · cases h; exact hw rfl
      · cases h
theorem asg_lt {sub : Deeper} (hg : GoodD sub) {l r : List UInt8} {s : List (List UInt8) × List (List Pt)} (h : iterS (asgStep sub) ([], []) l = .ok s r) (hs1 : s.1 ≠ []) : r.length < l.length := by
  have hn := asgStep_nice hg ([], []) l
  rw [iterS_eq (asgStep_nice hg)] at h
  cases hs : asgStep sub ([], []) l with
  | bad e => rw [hs] at h; cases h
  | ok x r1 =>
    rw [hs] at h hn
    cases x with
    | go s' =>
      have hn : r1.length < l.length := hn
      have := iterS_nice (asgStep_nice hg) s' r1
      dsimp only at h
      rw [h] at this
      exact Nat.lt_of_le_of_lt this hn
    | stop b =>
      exfalso
      cases h
      unfold asgStep at hs
      split at hs
      · cases hs; exact hs1 rfl
      · obtain ⟨_, _, _, h⟩ := bind_ok hs; cases h
theorem simpleS_lt {sub : Deeper} (hg : GoodD sub) : NotNil (simpleS sub) := by
  intro l c r h
  unfold simpleS at h
  obtain ⟨s, r1, h1, h⟩ := bind_ok h
  split at h
  · cases h
  · obtain ⟨ws, r2, h2, h⟩ := bind_ok h
    split at h
    · cases h
    · rename_i hne
      cases h
      have a1 := iterS_nice (asgStep_nice hg) ([], []) l
      rw [h1] at a1
      have a1 : r1.length ≤ l.length := a1
      have a2 := wordsS_nice hg r1
      rw [h2] at a2
      have a2 : r.length ≤ r1.length := a2
      by_cases hs : s.1 = []
      · have := wordsS_lt hg h2 (fun e => hne ⟨hs, e⟩); omega
      · have := asg_lt hg h1 hs; omega
theorem key_len {l k : List UInt8} (h : keyS l = k) (hk : k ≠ []) : k.length ≤ l.length := by
  unfold keyS at h
  split at h
  · exact absurd h.symm hk
  · have := run_past_len shMarks l
    rw [h] at this
    omega
theorem withinS_le {sub : Deeper} (hg : GoodD sub) {f : Dn → List UInt8 → Rr Co} (hf : ∀ g, GoodG g → ∀ l, Nice l (f g l)) {l r : List UInt8} {c : Co} (h : withinS sub f l = .ok c r) : r.length ≤ l.length := by
  have := withinS_nice hg hf l
  rw [h] at this
  exact this
theorem cmdS_lt {sub : Deeper} (hg : GoodD sub) : NotNil (cmdS sub) := by
  intro l c r h
  unfold cmdS at h
  split at h
  · rename_i hk
    have h1 := key_len hk (by simp)
    have h2 := withinS_le hg (fun g h => choiceS_nice h) h
    rw [List.length_drop] at h2
    simp only [List.length_cons, List.length_nil] at h1
    omega
  · split at h
    · rename_i hk
      have h1 := key_len hk (by simp)
      have h2 := withinS_le hg (fun g h => roundsS_nice h) h
      rw [List.length_drop] at h2
      simp only [List.length_cons, List.length_nil] at h1
      omega
    · split at h
      · rename_i hk
        have h1 := key_len hk (by simp)
        have h2 := withinS_le hg (fun g h => eachS_nice h) h
        rw [List.length_drop] at h2
        simp only [List.length_cons, List.length_nil] at h1
        omega
      · exact simpleS_lt hg _ _ _ h
theorem pipeS_nice {sub : Deeper} (hg : GoodD sub) (l : List UInt8) : Nice l (pipeS sub l) := rowS_nice (cmdS_nice hg) (cmdS_lt hg) l
theorem pipeS_lt {sub : Deeper} (hg : GoodD sub) : NotNil (pipeS sub) := rowS_lt (cmdS_nice hg) (cmdS_lt hg)
theorem lineS_nice {sub : Deeper} (hg : GoodD sub) (l : List UInt8) : Nice l (lineS sub l) := rowS_nice (pipeS_nice hg) (pipeS_lt hg) l
theorem lineS_lt {sub : Deeper} (hg : GoodD sub) : NotNil (lineS sub) := rowS_lt (pipeS_nice hg) (pipeS_lt hg)
theorem listStep_nice {sub : Deeper} (hg : GoodD sub) (cs : List Co) (l : List UInt8) : NiceI l (listStep sub cs l) := by
  unfold listStep
  split
  · exact Nat.le_refl _
  · have hn := lineS_nice hg l
    cases hr : lineS sub l with
    | bad e => rw [hr] at hn; exact hn
    | ok c r =>
      rw [hr] at hn
      have h1 := lineS_lt hg _ _ _ hr
      have h2 := skip_len shEnds r
      show NiceI l (if wasS shEnds r = false then .ok (.stop (cs ++ [c])) (skipS shEnds r) else .ok (.go (cs ++ [c])) (skipS shEnds r))
      split
      · show (skipS shEnds r).length ≤ _; omega
      · show (skipS shEnds r).length < _; omega
theorem listS_nice {sub : Deeper} (hg : GoodD sub) (l : List UInt8) : Nice l (listS sub l) := (iterS_nice (listStep_nice hg) _ _).mono (skip_len _ _)
theorem lvl_good : ∀ k, GoodD (lvl k)
  | 0 => fun g h => by cases h
  | k + 1 => fun g h => by
    cases h
    exact ⟨listS_nice (lvl_good k), wordsS_nice (lvl_good k)⟩
end Go.Proofs.YtelfgobjnibooaaDoor
namespace Go.Proofs.YtelfgobjnibooaaDoor
open Go.RowKit Go.Lib

theorem listStep_yes {sub : Deeper} {cs : List Co} {l : List UInt8} (hb : beginsS l = true) : listStep sub cs l = (lineS sub l).bind fun c r => if wasS shEnds r = false then .ok (.stop (cs ++ [c])) (skipS shEnds r) else .ok (.go (cs ++ [c])) (skipS shEnds r) := by unfold listStep; rw [if_neg (by rw [hb]; simp)]
end Go.Proofs.YtelfgobjnibooaaDoor
namespace Go.Proofs.YtelfgobjnibooaaDoor
open Go.RowKit Go.Lib

theorem cmd_line {k : Nat} {l : List UInt8} {c : Co} (hc : cmdS (lvl k) l = .ok c []) : lineS (lvl k) l = .ok c [] := by
  have hp : pipeS (lvl k) l = .ok c [] := by
    unfold pipeS rowS
    rw [hc]; rfl
  unfold lineS rowS
  rw [hp]; rfl
/-- One command that goes to the end. -/
theorem lst_one {k : Nat} {l : List UInt8} {c : Co} (hsk : skipS shEnds l = l) (hb : beginsS l = true) (hc : cmdS (lvl k) l = .ok c []) : lstS k l = .ok [c] [] := by
  show iterS (listStep (lvl k)) [] (skipS shEnds l) = _
  rw [hsk, iterS_eq (listStep_nice (lvl_good k)), listStep_yes hb, cmd_line hc]
  rfl
end Go.Proofs.YtelfgobjnibooaaDoor
namespace Go.Proofs.YtelfgobjnibooaaDoor
open Go.RowKit Go.Lib

theorem past_off (a : UInt8) : ∀ (s r : List UInt8), a ∉ s → pastS [a] (s ++ a :: r) = a :: r ∧ runS [a] (s ++ a :: r) = s
  | [], r, _ => by
    unfold pastS runS
    simp
  | c :: s, r, h => by
    have h1 : c ≠ a := fun e => h (by rw [e]; simp)
    have h2 : a ∉ s := fun e => h (List.mem_cons_of_mem _ e)
    obtain ⟨h3, h4⟩ := past_off a s r h2
    unfold pastS runS at *
    rw [List.cons_append, List.dropWhile_cons, List.takeWhile_cons]
    have h5 : (!([a] : List UInt8).contains c) = true := by simp [h1]
    rw [h5]
    exact ⟨h3, congrArg _ h4⟩
/-- A text in single quotes. -/
theorem word_quote (sub : Deeper) (st : Sp) {s r : List UInt8} (h : (39 : UInt8) ∉ s) : wordStep sub st (39 :: (s ++ 39 :: r)) = .ok (.go (st.lit s true)) r := by
  have hs : singleS (s ++ 39 :: r) = .ok s r := by
    obtain ⟨h1, h2⟩ := past_off 39 s r h
    unfold singleS needS
    rw [h1, h2, show takeS [39] (39 :: r) = some r from takeS_app [39] r]
    rfl
  unfold wordStep
  rw [show takeS [39] (39 :: (s ++ 39 :: r)) = some (s ++ 39 :: r) from takeS_app [39] _]
  show (singleS (s ++ 39 :: r)).bind _ = _
  rw [hs]
  rfl
end Go.Proofs.YtelfgobjnibooaaDoor
namespace Go.Proofs.YtelfgobjnibooaaDoor
open Go.RowKit Go.Lib

def rstopS (l : List UInt8) : Bool := l.isEmpty || atS [41] l || stopKeys.contains (keyS l) || keyS l == [105, 110]
def rlistStep (sub : Deeper) (cs : List Co) (l : List UInt8) : Rr (It (List Co) (List Co)) :=
  if rstopS l = true then .ok (.stop cs) l
  else (lineS sub l).bind fun c r => if wasS shEnds r = false then .ok (.stop (cs ++ [c])) (skipS shEnds r) else .ok (.go (cs ++ [c])) (skipS shEnds r)
def rlistS (sub : Deeper) (l : List UInt8) : Rr (List Co) := iterS (rlistStep sub) [] (skipS shEnds l)
def rlvl : Nat → Deeper
  | 0 => none
  | k + 1 => some ⟨rlistS (rlvl k), wordsS (rlvl k)⟩
/-- What the document's Read answers. -/
def readRf (l : List UInt8) : List Co × Int := if 1048576 < l.length then ([], 6) else match rlistS (rlvl 30) l with
  | .ok cs r => if r = [] then (cs, 0) else ([], 9)
  | .bad e => ([], e)

theorem rlistStep_nice {sub : Deeper} (hg : GoodD sub) (cs : List Co) (l : List UInt8) : NiceI l (rlistStep sub cs l) := by
  unfold rlistStep
  split
  · exact Nat.le_refl _
  · have hn := lineS_nice hg l
    cases hr : lineS sub l with
    | bad e => rw [hr] at hn; exact hn
    | ok c r =>
      rw [hr] at hn
      have h1 := lineS_lt hg _ _ _ hr
      have h2 := skip_len shEnds r
      show NiceI l (if wasS shEnds r = false then .ok (.stop (cs ++ [c])) (skipS shEnds r) else .ok (.go (cs ++ [c])) (skipS shEnds r))
      split
      · show (skipS shEnds r).length ≤ _; omega
      · show (skipS shEnds r).length < _; omega
theorem rlistS_nice {sub : Deeper} (hg : GoodD sub) (l : List UInt8) : Nice l (rlistS sub l) := (iterS_nice (rlistStep_nice hg) _ _).mono (skip_len _ _)
theorem rlvl_good : ∀ k, GoodD (rlvl k)
  | 0 => fun g h => by cases h
  | k + 1 => fun g h => by
    cases h
    exact ⟨rlistS_nice (rlvl_good k), wordsS_nice (rlvl_good k)⟩

/-- Nothing that has to stand behind a list stands here. -/
def VainS (r : List UInt8) : Prop := r ≠ [] ∧ atS [41] r = false ∧ ∀ k ∈ stopKeys, keyS r ≠ k
/-- The same, or one has stopped in vain where the other one finds what is wrong. -/
def RelS {α : Type} (a b : Rr α) : Prop := a = b ∨ (∃ x r, a = .ok x r ∧ VainS r ∧ b = .bad 9) ∨ (∃ x r, b = .ok x r ∧ VainS r ∧ a = .bad 9)
theorem RelS.bind {α β : Type} {a b : Rr α} {f g : α → List UInt8 → Rr β} (h : RelS a b) (hv : ∀ x r, VainS r → f x r = .bad 9) (he : f = g) : a.bind f = b.bind g := by
  subst he
  rcases h with rfl | ⟨x, r, rfl, h, rfl⟩ | ⟨x, r, rfl, h, rfl⟩
  · rfl
  · exact hv x r h
  · exact (hv x r h).symm
theorem vain_need {r : List UInt8} (h : VainS r) : needS [41] r = .bad 9 := by
  obtain ⟨h1, h2, _⟩ := h
  cases r with
  | nil => exact absurd rfl h1
  | cons c r =>
    have : c ≠ 41 := by
      intro e
      subst e
      simp [atS] at h2
    unfold needS takeS
    rw [if_neg]
    simp [Ne.symm this]
theorem vain_key {r k : List UInt8} (h : VainS r) (hk : k ∈ stopKeys) : takeKeyS k r = none ∧ needKey k r = .bad 9 := by
  have h1 : takeKeyS k r = none := by unfold takeKeyS; rw [if_neg (h.2.2 k hk)]
  exact ⟨h1, by unfold needKey; rw [h1]⟩
def linesR (a : Rr (List Co)) : Rr (List Co) := a.bind fun cs r => if cs = [] then .bad 9 else .ok cs r
theorem RelS.lines {a b : Rr (List Co)} (h : RelS a b) : RelS (linesR a) (linesR b) := by
  rcases h with rfl | ⟨x, r, rfl, h, rfl⟩ | ⟨x, r, rfl, h, rfl⟩
  · exact .inl rfl
  · by_cases hx : x = []
    · exact .inl (by simp [linesR, Rr.bind, hx])
    · exact .inr (.inl ⟨x, r, by simp [linesR, Rr.bind, hx], h, rfl⟩)
  · by_cases hx : x = []
    · exact .inl (by simp [linesR, Rr.bind, hx])
    · exact .inr (.inr ⟨x, r, by simp [linesR, Rr.bind, hx], h, rfl⟩)
/-- Two readers of what is deeper. -/
def RelD (g g' : Dn) : Prop := (∀ l, RelS (g.lst l) (g'.lst l)) ∧ ∀ l, g.wds l = g'.wds l
theorem RelD.lines {g g' : Dn} (h : RelD g g') (l : List UInt8) : RelS (linesS g l) (linesS g' l) := (h.1 l).lines
theorem body_rel {g g' : Dn} (h : RelD g g') : bodyS g = bodyS g' := by
  funext l
  unfold bodyS
  congr 1
  funext _ r
  refine (h.lines r).bind (fun x r hv => ?_) rfl
  rw [(vain_key hv (k := [100, 111, 110, 101]) (by decide)).2]; rfl
theorem else_rel {g g' : Dn} (h : RelD g g') (l : List UInt8) : RelS (elseS g l) (elseS g' l) := by
  unfold elseS
  split
  · exact h.lines _
  · exact .inl rfl
theorem choice_rel {g g' : Dn} (h : RelD g g') : choiceS g = choiceS g' := by
  funext l
  unfold choiceS
  refine (h.lines l).bind (fun x r hv => ?_) ?_
  · rw [(vain_key hv (k := [116, 104, 101, 110]) (by decide)).2]; rfl
  · funext a r
    congr 1
    funext _ r1
    refine (h.lines r1).bind (fun x r2 hv => ?_) ?_
    · have h1 : elseS g r2 = .ok [] r2 := by
        unfold elseS
        rw [(vain_key hv (k := [101, 108, 115, 101]) (by decide)).1]
      rw [h1]
      show (needKey [102, 105] r2).bind _ = _
      rw [(vain_key hv (k := [102, 105]) (by decide)).2]; rfl
    · funext b r2
      refine (else_rel h r2).bind (fun x r3 hv => ?_) rfl
      rw [(vain_key hv (k := [102, 105]) (by decide)).2]; rfl
theorem rounds_rel {g g' : Dn} (h : RelD g g') : roundsS g = roundsS g' := by
  funext l
  unfold roundsS
  refine (h.lines l).bind (fun x r hv => ?_) ?_
  · have : bodyS g r = .bad 9 := by
      unfold bodyS
      rw [(vain_key hv (k := [100, 111]) (by decide)).2]; rfl
    rw [this]; rfl
  · funext a r
    rw [body_rel h]
theorem each_rel {g g' : Dn} (h : RelD g g') : eachS g = eachS g' := by
  funext l
  unfold eachS
  rw [body_rel h, show g.wds = g'.wds from funext h.2]
def RelO : Deeper → Deeper → Prop
  | none, none => True
  | some g, some g' => RelD g g'
  | _, _ => False
theorem part_rel {sub sub' : Deeper} (h : RelO sub sub') : partS sub = partS sub' := by
  funext q l
  unfold partS
  split
  · rfl
  · split
    · rename_i r _
      have hs : RelS (subS sub r) (subS sub' r) := by
        cases sub with
        | none => cases sub' with
          | none => exact .inl rfl
          | some g' => exact h.elim
        | some g => cases sub' with
          | none => exact h.elim
          | some g' => exact (show RelD g g' from h).1 r
      refine hs.bind (fun x r hv => ?_) rfl
      rw [vain_need hv]; rfl
    · rfl
theorem word_rel {sub sub' : Deeper} (h : partS sub = partS sub') : wordS sub = wordS sub' := by
  have h1 : dblStep sub = dblStep sub' := by funext st l; unfold dblStep; rw [h]
  have h2 : dblS sub = dblS sub' := by funext st l; unfold dblS; rw [h1]
  have h3 : wordStep sub = wordStep sub' := by funext st l; unfold wordStep; rw [h, h2]
  funext l
  unfold wordS
  rw [h3]
theorem words_rel {sub sub' : Deeper} (h : partS sub = partS sub') : wordsS sub = wordsS sub' := by
  have h1 : wordsStep sub = wordsStep sub' := by funext ws l; unfold wordsStep; rw [word_rel h]
  funext l
  unfold wordsS
  rw [h1]
theorem simple_rel {sub sub' : Deeper} (h : partS sub = partS sub') : simpleS sub = simpleS sub' := by
  have h1 : asgStep sub = asgStep sub' := by funext s l; unfold asgStep; rw [word_rel h]
  funext l
  unfold simpleS
  rw [h1, words_rel h]
theorem within_rel {sub sub' : Deeper} (h : RelO sub sub') {f : Dn → List UInt8 → Rr Co} (hf : ∀ g g', RelD g g' → f g = f g') (l : List UInt8) : withinS sub f l = withinS sub' f l := by
  cases sub with
  | none => cases sub' with
    | none => rfl
    | some g' => exact h.elim
  | some g => cases sub' with
    | none => exact h.elim
    | some g' => exact congrFun (hf g g' h) l
theorem cmd_rel {sub sub' : Deeper} (h : RelO sub sub') : cmdS sub = cmdS sub' := by
  funext l
  unfold cmdS
  rw [within_rel h (fun _ _ => choice_rel), within_rel h (fun _ _ => rounds_rel), within_rel h (fun _ _ => each_rel), simple_rel (part_rel h)]
theorem line_rel {sub sub' : Deeper} (h : RelO sub sub') : lineS sub = lineS sub' := by
  funext l
  unfold lineS pipeS
  rw [cmd_rel h]

/-- Behind ends no gap stands, and no end. -/
theorem skip_gapped (of : List UInt8) (h10 : of.contains 10 = true) : ∀ (n : Nat) (l : List UInt8), l.length = n → gapS (skipS of l) = skipS of l ∧ atS of (skipS of l) = false := by
  intro n
  induction n using Nat.strongRecOn with
  | ind n ih =>
    intro l hn
    have hg := gapS_len l
    rw [skipS_eq]
    cases hl : gapS l with
    | nil => exact ⟨rfl, rfl⟩
    | cons c r =>
      rw [hl, List.length_cons] at hg
      dsimp only
      by_cases hc : of.contains c = true
      · rw [if_pos hc]
        exact ih r.length (by omega) r rfl
      · rw [if_neg hc]
        refine ⟨?_, by simpa [atS] using hc⟩
        have hw : whiteS c = false ∧ c ≠ 35 := by
          unfold gapS remS at hl
          split at hl
          · exfalso
            unfold pastS at hl
            have h2 : [10].contains c = true := by
              have := List.head?_dropWhile_not (fun c => !([10] : List UInt8).contains c) (l.dropWhile whiteS)
              rw [hl] at this
              simpa using this
            have : c = 10 := by simpa using h2
            subst this
            exact hc h10
          · rename_i h3
            have := List.head?_dropWhile_not whiteS l
            rw [hl] at this h3
            refine ⟨by simpa using this, fun e => ?_⟩
            subst e
            exact h3 rfl
        unfold gapS
        rw [List.dropWhile_cons, hw.1]
        unfold remS
        rw [if_neg (by simp [atS, hw.2]), if_neg (by simp)]
theorem skip_ok (of l : List UInt8) (h10 : of.contains 10 = true) : gapS (skipS of l) = skipS of l ∧ atS of (skipS of l) = false := skip_gapped of h10 _ l rfl
set_option maxRecDepth 100000 in
theorem mark_rest (c : UInt8) (hc : shMarks.contains c = true) : restOk c = false ∧ c ≠ 61 := by
  have : ∀ d : Fin 256, shMarks.contains (UInt8.ofNat d.val) = true → restOk (UInt8.ofNat d.val) = false ∧ (UInt8.ofNat d.val) ≠ 61 := by decide
  have h := this ⟨c.toNat, UInt8.toNat_lt c⟩
  simp only [UInt8.ofNat_toNat] at h
  exact h hc
/-- A mark that is no part's sign begins no command. -/
theorem line_mark {sub : Deeper} (hg : GoodD sub) {c : UInt8} {r : List UInt8} (h1 : shMarks.contains c = true) (h2 : shOpens.contains c = false) (h3 : gapS (c :: r) = c :: r) : lineS sub (c :: r) = .bad 9 := by
  have hr : runS shMarks (c :: r) = [] := by unfold runS; rw [List.takeWhile_cons, h1]; rfl
  have hk : keyS (c :: r) = [] := by unfold keyS; rw [hr]; split <;> rfl
  have hl : isLet c = false := by
    have h := (mark_rest c h1).1
    unfold restOk at h
    cases hh : isLet c with
    | false => rfl
    | true => rw [hh] at h; simp at h
  have hm : nameS (c :: r) = [] := by
    show (if isLet c = true then _ else _) = _
    rw [hl]; rfl
  have hn : assignS (c :: r) = none := by unfold assignS; rw [hm]; rfl
  have ht : ∀ d, d ∈ shOpens → takeS [d] (c :: r) = none := by
    intro d hd
    unfold takeS
    rw [if_neg]
    intro e
    have : d = c := by simpa using e
    subst this
    have : shOpens.contains d = true := by simpa using hd
    rw [this] at h2
    cases h2
  have hw : wordS sub (c :: r) = .ok [] (c :: r) := by
    unfold wordS
    rw [iterS_eq (wordStep_nice hg)]
    unfold wordStep
    rw [ht 39 (by decide), ht 92 (by decide), ht 34 (by decide), ht 36 (by decide)]
    simp only []
    rw [if_pos (.inr (show atS shMarks (c :: r) = true from h1))]
    rfl
  have hws : wordsS sub (c :: r) = .ok [] (c :: r) := by
    unfold wordsS
    rw [iterS_eq (wordsStep_nice hg)]
    unfold wordsStep
    rw [h3, hw]
    rfl
  have hs : simpleS sub (c :: r) = .bad 9 := by
    unfold simpleS
    rw [iterS_eq (asgStep_nice hg)]
    unfold asgStep
    rw [hn]
    show (if shKeys.contains (keyS (c :: r)) = true then _ else _) = _
    rw [hk, if_neg (by decide), hws]
    rfl
  unfold lineS rowS pipeS rowS cmdS
  rw [hk, if_neg (by decide), if_neg (by decide), if_neg (by decide), hs]
  rfl
theorem run_key {l k : List UInt8} (h : keyS l = k) (hk : k ≠ []) : runS shMarks l = k ∧ atS shOpens (pastS shMarks l) = false := by
  unfold keyS at h
  split at h
  · exact absurd h.symm hk
  · rename_i h2
    exact ⟨h, by simpa using h2⟩
theorem past_at (of l : List UInt8) : pastS of l = [] ∨ ∃ c r, pastS of l = c :: r ∧ of.contains c = true := by
  cases h : pastS of l with
  | nil => exact .inl rfl
  | cons c r =>
    refine .inr ⟨c, r, rfl, ?_⟩
    unfold pastS at h
    have := List.head?_dropWhile_not (fun c => !of.contains c) l
    rw [h] at this
    simpa using this
/-- in begins no command. -/
theorem line_in {sub : Deeper} (hg : GoodD sub) {l : List UInt8} (h : keyS l = [105, 110]) : lineS sub l = .bad 9 := by
  obtain ⟨h1, _⟩ := run_key h (by simp)
  have h2 := run_past shMarks l
  rw [h1] at h2
  obtain ⟨m, hm⟩ : ∃ m, pastS shMarks l = m := ⟨_, rfl⟩
  have hp := past_at shMarks l
  rw [hm] at h2 hp
  have hn : assignS l = none := by
    rw [← h2]
    have hr := mark_rest
    have hname : nameS ([105, 110] ++ m) = [105, 110] := by
      show (if isLet 105 = true then 105 :: List.takeWhile restOk (110 :: m) else []) = _
      rw [if_pos (by decide)]
      show 105 :: List.takeWhile restOk (110 :: m) = _
      rw [List.takeWhile_cons, if_pos (by decide)]
      rcases hp with rfl | ⟨c, r, rfl, hc⟩
      · rfl
      · rw [List.takeWhile_cons, (hr c hc).1]; rfl
    unfold assignS
    rw [hname, if_neg (by simp)]
    show (takeS [61] m).map _ = none
    rcases hp with rfl | ⟨c, r, rfl, hc⟩
    · rfl
    · unfold takeS
      rw [if_neg]
      · rfl
      · intro e
        have : 61 = c := by simpa using e
        exact (hr c hc).2 this.symm
  have hs : simpleS sub l = .bad 9 := by
    unfold simpleS
    rw [iterS_eq (asgStep_nice hg)]
    unfold asgStep
    rw [hn]
    show (if shKeys.contains (keyS l) = true then _ else _) = _
    rw [h, if_pos (by decide)]
  unfold lineS rowS pipeS rowS cmdS
  rw [h, if_neg (by decide), if_neg (by decide), if_neg (by decide), hs]
  rfl
theorem list_rel {sub sub' : Deeper} (hg : GoodD sub) (hg' : GoodD sub') (h : lineS sub = lineS sub') : ∀ (n : Nat) (cs : List Co) (l : List UInt8), l.length = n → gapS l = l → atS shEnds l = false → RelS (iterS (listStep sub) cs l) (iterS (rlistStep sub') cs l) := by
  intro n
  induction n using Nat.strongRecOn with
  | ind n ih =>
    intro cs l hn hgap hend
    rw [iterS_eq (listStep_nice hg), iterS_eq (rlistStep_nice hg')]
    have e1 : listStep sub cs l = if beginsS l = false then .ok (.stop cs) l
      else (lineS sub l).bind fun c r => if wasS shEnds r = false then .ok (.stop (cs ++ [c])) (skipS shEnds r) else .ok (.go (cs ++ [c])) (skipS shEnds r) := rfl
    have e2 : rlistStep sub' cs l = if rstopS l = true then .ok (.stop cs) l
      else (lineS sub' l).bind fun c r => if wasS shEnds r = false then .ok (.stop (cs ++ [c])) (skipS shEnds r) else .ok (.go (cs ++ [c])) (skipS shEnds r) := rfl
    rw [e1, e2]
    cases hb : beginsS l with
    | false =>
      cases hr : rstopS l with
      | true => exact .inl rfl
      | false =>
        rw [if_pos rfl, if_neg (by simp)]
        unfold rstopS at hr
        unfold beginsS at hb
        simp only [Bool.or_eq_false_iff] at hr
        obtain ⟨⟨⟨r1, r2⟩, r3⟩, r4⟩ := hr
        rw [r1, r3] at hb
        cases l with
        | nil => cases r1
        | cons c r =>
          have hb : shOpens.contains c = false ∧ shMarks.contains c = true := by simpa [atS] using hb
          rw [← h, line_mark hg hb.2 hb.1 hgap]
          refine .inr (.inl ⟨cs, c :: r, rfl, ⟨by simp, r2, fun k hk e => ?_⟩, rfl⟩)
          rw [e] at r3
          have : stopKeys.contains k = true := by simpa using hk
          rw [this] at r3
          cases r3
    | true =>
      cases hr : rstopS l with
      | true =>
        rw [if_neg (by simp), if_pos rfl]
        unfold rstopS at hr
        unfold beginsS at hb
        have hb : (stopKeys.contains (keyS l) = false ∧ l.isEmpty = false) ∧ (atS shOpens l = true ∨ atS shMarks l = false) := by simpa using hb
        obtain ⟨⟨b1, b2⟩, b3⟩ := hb
        rw [b1, b2] at hr
        have hr : atS [41] l = true ∨ keyS l = [105, 110] := by simpa using hr
        have h41 : ¬ atS [41] l = true := by
          intro e
          cases l with
          | nil => cases e
          | cons c r =>
            have : c = 41 := by simpa [atS] using e
            subst this
            rcases b3 with b3 | b3
            · exact absurd b3 (by show ¬ (shOpens.contains 41 = true); decide)
            · exact absurd b3 (by show ¬ (shMarks.contains 41 = false); decide)
        rcases hr with hr | hr
        · exact absurd hr h41
        · rw [line_in hg hr]
          refine .inr (.inr ⟨cs, l, rfl, ⟨fun e => (by rw [e] at b2; cases b2), by simpa using h41, fun k hk e => ?_⟩, rfl⟩)
          rw [e] at b1
          have : stopKeys.contains k = true := by simpa using hk
          rw [this] at b1
          cases b1
      | false =>
        rw [if_neg (by simp), if_neg (by simp), h]
        cases hl : lineS sub' l with
        | bad e => exact .inl rfl
        | ok c r =>
          have h1 := lineS_lt hg' _ _ _ hl
          have h2 := skip_len shEnds r
          dsimp only [Rr.bind]
          by_cases hw : wasS shEnds r = false
          · rw [if_pos hw]; exact .inl rfl
          · rw [if_neg hw]
            have := skip_ok shEnds r (by decide)
            exact ih _ (by omega) _ _ rfl this.1 this.2
theorem lvl_rel : ∀ k, RelO (lvl k) (rlvl k)
  | 0 => trivial
  | k + 1 => by
    have ih := lvl_rel k
    refine ⟨fun l => ?_, fun l => congrFun (words_rel (part_rel ih)) l⟩
    have := skip_ok shEnds l (by decide)
    exact list_rel (lvl_good k) (rlvl_good k) (line_rel ih) _ [] _ rfl this.1 this.2
/-- The document's reading is package shell's. -/
theorem readRf_eq (l : List UInt8) : readRf l = readSh l := by
  unfold readRf readSh
  split
  · rfl
  · have h : RelS (lstS 30 l) (rlistS (rlvl 30) l) := by
      have := skip_ok shEnds l (by decide)
      exact list_rel (lvl_good 30) (rlvl_good 30) (line_rel (lvl_rel 30)) _ [] _ rfl this.1 this.2
    rcases h with h | ⟨x, r, h, hv, h'⟩ | ⟨x, r, h', hv, h⟩
    · rw [h]
      cases rlistS (rlvl 30) l <;> rfl
    · rw [h, h']
      show _ = if r = [] then _ else _
      rw [if_neg hv.1]
    · rw [h, h']
      show (if r = [] then _ else _) = _
      rw [if_neg hv.1]
end Go.Proofs.YtelfgobjnibooaaDoor
