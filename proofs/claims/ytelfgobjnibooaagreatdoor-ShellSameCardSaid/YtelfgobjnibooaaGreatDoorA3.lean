/- Packed texts: RfWord, HexNameRef, ShApp. What each of them proves stands above its theorems; the conditions stand in these. -/
import Derived.Test.YtelfgobjnibooaaGreatDoorA0
import Derived.Test.YtelfgobjnibooaaGreatDoorA1
import Derived.Test.YtelfgobjnibooaaGreatDoorA2
namespace Go.Proofs.YtelfgobjnibooaaGreatDoor
open Go.RowKit Go.Lib
def withP (l : List Pt) (p : Pt) : List Pt := match l.getLast? with
 | none => [p]
 | some q => if p.k = 1 ∧ q.k = 1 ∧ q.q = p.q then l.dropLast ++ [{ p with s := q.s ++ p.s }] else l ++ [p]
def mergeP (q p : Pt) : Prop := p.k = 1 ∧ q.k = 1 ∧ q.q = p.q
theorem with_nil (p : Pt) : withP [] p = [p] := rfl
theorem with_snoc (l : List Pt) (q p : Pt) : withP (l ++ [q]) p = if p.k = 1 ∧ q.k = 1 ∧ q.q = p.q then l ++ [{ p with s := q.s ++ p.s }] else l ++ [q] ++ [p] := by
 unfold withP
 rw [List.getLast?_append]
 simp
theorem with_other (l : List Pt) (p : Pt) (h : p.k ≠ 1) : withP l p = l ++ [p] := by
 rcases List.eq_nil_or_concat l with rfl | ⟨a, q, rfl⟩
 ·rfl
 ·rw [List.concat_eq_append, with_snoc, if_neg (fun e => h e.1)]
theorem with_with (l : List Pt) (q p : Pt) (h : mergeP q p) : withP (withP l q) p = withP l { p with s := q.s ++ p.s } := by
 obtain ⟨h1, h2, h3⟩ := h
 rcases List.eq_nil_or_concat l with rfl | ⟨a, b, rfl⟩
 ·rw [with_nil, with_nil, show [q] = [] ++ [q] from rfl, with_snoc, if_pos ⟨h1, h2, h3⟩]; rfl
 ·rw [List.concat_eq_append, with_snoc, with_snoc]
  by_cases hb : b.k = 1 ∧ b.q = q.q
  ·rw [if_pos ⟨h2, hb.1, hb.2⟩, with_snoc, if_pos ⟨h1, h2, h3⟩, if_pos ⟨h1, hb.1, hb.2.trans h3⟩]
   simp [List.append_assoc]
  ·rw [if_neg (fun e => hb e.2), with_snoc, if_pos ⟨h1, h2, h3⟩, if_neg (fun e => hb ⟨e.2.1, e.2.2.trans h3.symm⟩)]
theorem fold_with (base A : List Pt) (p : Pt) : (withP A p).foldl withP base = withP (A.foldl withP base) p := by
 rcases List.eq_nil_or_concat A with rfl | ⟨a, q, rfl⟩
 ·rfl
 ·rw [List.concat_eq_append, with_snoc]
  by_cases h : p.k = 1 ∧ q.k = 1 ∧ q.q = p.q
  ·rw [if_pos h, List.foldl_append, List.foldl_append]
   exact (with_with _ q p h).symm
  ·rw [if_neg h, List.foldl_append]
   rfl
def Sp.Nm (st : Sp) : Prop := ∀ q, st.ps.getLast? = some q → q.k = 1 → match st.cur with
 | none => False
 | some (b, _) => q.q ≠ b
theorem nm_start : Sp.Nm ⟨[], none⟩ := fun q h => by cases h
theorem nm_lit {st : Sp} (h : st.Nm) (s : List UInt8) (q : Bool) : (st.lit s q).Nm ∧ withP st.shut (litP q s) = (st.lit s q).shut := by
 obtain ⟨ps, cur⟩ := st
 cases cur with
 | none =>
  refine ⟨fun p hp hk => (h p hp hk).elim, ?_⟩
  show withP ps (litP q s) = ps ++ [litP q s]
  rcases List.eq_nil_or_concat ps with rfl | ⟨a, p, rfl⟩
  ·rfl
  ·rw [List.concat_eq_append, with_snoc, if_neg]
   rintro ⟨_, h2, _⟩
   exact h p (by simp) h2
 | some x =>
  obtain ⟨b, t⟩ := x
  by_cases hb : b = q
  ·subst hb
   have e : Sp.lit ⟨ps, some (b, t)⟩ s b = ⟨ps, some (b, t ++ s)⟩ := if_pos rfl
   rw [e]
   refine ⟨h, ?_⟩
   show withP (ps ++ [litP b t]) (litP b s) = ps ++ [litP b (t ++ s)]
   rw [with_snoc, if_pos ⟨rfl, rfl, rfl⟩]
   rfl
  ·have e : Sp.lit ⟨ps, some (b, t)⟩ s q = ⟨ps ++ [litP b t], some (q, s)⟩ := if_neg hb
   rw [e]
   refine ⟨fun p hp _ => ?_, ?_⟩
   ·have : litP b t = p := by simpa using hp
    subst this
    exact hb
   ·show withP (ps ++ [litP b t]) (litP q s) = ps ++ [litP b t] ++ [litP q s]
    rw [with_snoc, if_neg]
    rintro ⟨_, _, h3⟩
    exact hb h3
theorem nm_add {st : Sp} (p : Pt) (hp : p.k ≠ 1) : (st.add p).Nm ∧ withP st.shut p = (st.add p).shut ∧ st.shut ++ [p] = (st.add p).shut := by
 refine ⟨fun q hq hk => ?_, with_other _ _ hp, rfl⟩
 have : p = q := by simpa [Sp.add] using hq
 subst this
 exact absurd hk hp
theorem lit_lit (st : Sp) (a b : List UInt8) (q : Bool) : (st.lit a q).lit b q = st.lit (a ++ b) q := by
 obtain ⟨ps, cur⟩ := st
 cases cur with
 | none =>
  show Sp.lit ⟨ps, some (q, a)⟩ b q = _
  exact if_pos rfl
 | some x =>
  obtain ⟨c, t⟩ := x
  by_cases hc : c = q
  ·subst hc
   have e : ∀ s, Sp.lit ⟨ps, some (c, t)⟩ s c = ⟨ps, some (c, t ++ s)⟩ := fun s => if_pos rfl
   rw [e, e]
   show Sp.lit ⟨ps, some (c, t ++ a)⟩ b c = _
   rw [show Sp.lit ⟨ps, some (c, t ++ a)⟩ b c = ⟨ps, some (c, (t ++ a) ++ b)⟩ from if_pos rfl, List.append_assoc]
  ·have e : ∀ s, Sp.lit ⟨ps, some (c, t)⟩ s q = ⟨ps ++ [litP c t], some (q, s)⟩ := fun s => if_neg hc
   rw [e, e]
   exact if_pos rfl
theorem take_ne {d c : UInt8} {r : List UInt8} (h : d ≠ c) : takeS [d] (c :: r) = none := by
 unfold takeS
 rw [if_neg]
 intro e
 exact h (by simpa using e)
theorem take_eq (d : UInt8) (r : List UInt8) : takeS [d] (d :: r) = some r := takeS_app [d] r
theorem run_next {of : List UInt8} {c : UInt8} (h : of.contains c = false) (r : List UInt8) : runS of (c :: r) = c :: runS of r ∧ pastS of (c :: r) = pastS of r := by
 unfold runS pastS
 rw [List.takeWhile_cons, List.dropWhile_cons, h]
 exact ⟨rfl, rfl⟩
theorem run_stop {of : List UInt8} {c : UInt8} (h : of.contains c = true) (r : List UInt8) : runS of (c :: r) = [] ∧ pastS of (c :: r) = c :: r := by
 unfold runS pastS
 rw [List.takeWhile_cons, List.dropWhile_cons, h]
 exact ⟨rfl, rfl⟩
theorem mark_plain {c : UInt8} (h : shMarks.contains c = false) : 39 ≠ c ∧ 92 ≠ c ∧ 34 ≠ c ∧ 36 ≠ c := by
 refine ⟨?_, ?_, ?_, ?_⟩
 all_goals
  intro e
  subst e
  revert h
  decide
theorem bound_plain {c : UInt8} (h : shBound.contains c = false) : 34 ≠ c ∧ 36 ≠ c ∧ 92 ≠ c ∧ 96 ≠ c := by
 refine ⟨?_, ?_, ?_, ?_⟩
 all_goals
  intro e
  subst e
  revert h
  decide
def stepK {σ β : Type} (f : σ → List UInt8 → Rr β) : Rr (It σ β) → Rr β
 | .bad e => .bad e
 | .ok (.stop b) r => .ok b r
 | .ok (.go s') r => f s' r
theorem iterS_k {σ β : Type} {step : σ → List UInt8 → Rr (It σ β)} (hs : ∀ s l, NiceI l (step s l)) (s : σ) (l : List UInt8) : iterS step s l = stepK (iterS step) (step s l) := by
 rw [iterS_eq hs]
 cases step s l with
 | bad e => rfl
 | ok x r => cases x <;> rfl
section
variable {sub : Deeper} (hg : GoodD sub)
include hg
theorem word_step (st : Sp) (l : List UInt8) : iterS (wordStep sub) st l = stepK (iterS (wordStep sub)) (wordStep sub st l) := iterS_k (wordStep_nice hg) st l
theorem dbl_step (st : Sp) (l : List UInt8) : iterS (dblStep sub) st l = stepK (iterS (dblStep sub)) (dblStep sub st l) := iterS_k (dblStep_nice hg) st l
theorem word_char (st : Sp) (c : UInt8) (r : List UInt8) (h : shMarks.contains c = false) : iterS (wordStep sub) st (c :: r) = iterS (wordStep sub) (st.lit [c] false) r := by
 obtain ⟨h1, h2, h3, h4⟩ := mark_plain h
 have go : ∀ (st : Sp) (c : UInt8) (r : List UInt8), shMarks.contains c = false → wordStep sub st (c :: r) = .ok (.go (st.lit (c :: runS shMarks r) false)) (pastS shMarks r) := by
  intro st c r h
  obtain ⟨h1, h2, h3, h4⟩ := mark_plain h
  have hn := run_next h r
  unfold wordStep
  rw [take_ne h1, take_ne h2, take_ne h3, take_ne h4]
  dsimp only
  rw [if_neg, hn.1, hn.2]
  rintro (e | e)
  ·cases e
  ·rw [show atS shMarks (c :: r) = shMarks.contains c from rfl, h] at e; cases e
 rw [word_step hg, go st c r h]
 show iterS (wordStep sub) (st.lit (c :: runS shMarks r) false) (pastS shMarks r) = _
 cases r with
 | nil => rfl
 | cons d r =>
  cases hd : shMarks.contains d with
  | true =>
   have := run_stop hd r
   rw [this.1, this.2]
  | false =>
   rw [word_step hg (st.lit [c] false), go _ d r hd]
   show _ = iterS (wordStep sub) ((st.lit [c] false).lit (d :: runS shMarks r) false) (pastS shMarks r)
   rw [(run_next hd r).1, (run_next hd r).2, lit_lit]
   rfl
theorem dbl_char (st : Sp) (c : UInt8) (r : List UInt8) (h : shBound.contains c = false) : iterS (dblStep sub) st (c :: r) = iterS (dblStep sub) (st.lit [c] true) r := by
 have go : ∀ (st : Sp) (c : UInt8) (r : List UInt8), shBound.contains c = false → dblStep sub st (c :: r) = .ok (.go (st.lit (c :: runS shBound r) true)) (pastS shBound r) := by
  intro st c r h
  obtain ⟨h1, h2, h3, h4⟩ := bound_plain h
  have hn := run_next h r
  unfold dblStep
  rw [take_ne h1, take_ne h2, take_ne h3]
  dsimp only
  rw [if_neg, hn.1, hn.2]
  rw [hn.1]
  intro e
  cases e
 rw [dbl_step hg, go st c r h]
 show iterS (dblStep sub) (st.lit (c :: runS shBound r) true) (pastS shBound r) = _
 cases r with
 | nil => rfl
 | cons d r =>
  cases hd : shBound.contains d with
  | true =>
   have := run_stop hd r
   rw [this.1, this.2]
  | false =>
   rw [dbl_step hg (st.lit [c] true), go _ d r hd]
   show _ = iterS (dblStep sub) ((st.lit [c] true).lit (d :: runS shBound r) true) (pastS shBound r)
   rw [(run_next hd r).1, (run_next hd r).2, lit_lit]
   rfl
theorem dbl_nilF (st : Sp) : iterS (dblStep sub) st [] = .bad 9 := by
 rw [dbl_step hg]; rfl
theorem dbl_tick (st : Sp) (r : List UInt8) : iterS (dblStep sub) st (96 :: r) = .bad 9 := by
 rw [dbl_step hg]; rfl
theorem dbl_end (st : Sp) (r : List UInt8) : iterS (dblStep sub) st (34 :: r) = .ok st r := by
 have e : dblStep sub st (34 :: r) = .ok (.stop st) r := by
  unfold dblStep
  rw [take_eq]
 rw [dbl_step hg, e]
 rfl
theorem dbl_dollar (st : Sp) (r : List UInt8) : iterS (dblStep sub) st (36 :: r) = (partS sub true r).bind fun p r' => iterS (dblStep sub) (st.add p) r' := by
 have e : dblStep sub st (36 :: r) = (partS sub true r).bind fun p r' => .ok (.go (st.add p)) r' := by
  unfold dblStep
  rw [take_ne (by decide), take_eq]
  try dsimp only
 rw [dbl_step hg, e]
 cases partS sub true r <;> rfl
theorem dbl_back (st : Sp) (r : List UInt8) : iterS (dblStep sub) st (92 :: r) = if atS shBound r then iterS (dblStep sub) (st.lit (r.take 1) true) (r.drop 1) else .bad 9 := by
 have e : dblStep sub st (92 :: r) = if atS shBound r then .ok (.go (st.lit (r.take 1) true)) (r.drop 1) else .bad 9 := by
  unfold dblStep
  rw [take_ne (by decide), take_ne (by decide), take_eq]
  try dsimp only
 rw [dbl_step hg, e]
 split <;> rfl
theorem word_nil (st : Sp) : iterS (wordStep sub) st [] = .ok st.shut [] := by
 rw [word_step hg]; rfl
theorem word_stop (st : Sp) (c : UInt8) (r : List UInt8) (h : shMarks.contains c = true) (h2 : shOpens.contains c = false) : iterS (wordStep sub) st (c :: r) = .ok st.shut (c :: r) := by
 have hn : 39 ≠ c ∧ 92 ≠ c ∧ 34 ≠ c ∧ 36 ≠ c := by
  refine ⟨?_, ?_, ?_, ?_⟩
  all_goals
   intro e
   subst e
   revert h2
   decide
 have e : wordStep sub st (c :: r) = .ok (.stop st.shut) (c :: r) := by
  unfold wordStep
  rw [take_ne hn.1, take_ne hn.2.1, take_ne hn.2.2.1, take_ne hn.2.2.2]
  try dsimp only
  rw [if_pos (.inr (show atS shMarks (c :: r) = true from h))]
 rw [word_step hg, e]
 rfl
theorem word_single (st : Sp) (r : List UInt8) : iterS (wordStep sub) st (39 :: r) = (singleS r).bind fun s r' => iterS (wordStep sub) (st.lit s true) r' := by
 have e : wordStep sub st (39 :: r) = (singleS r).bind fun s r' => .ok (.go (st.lit s true)) r' := by
  unfold wordStep
  rw [take_eq]
  try dsimp only
 rw [word_step hg, e]
 cases singleS r <;> rfl
theorem word_back (st : Sp) (r : List UInt8) : iterS (wordStep sub) st (92 :: r) = if r = [] ∨ atS [10] r = true then .bad 9 else iterS (wordStep sub) (st.lit (r.take 1) true) (r.drop 1) := by
 have e : wordStep sub st (92 :: r) = if r = [] ∨ atS [10] r = true then .bad 9 else .ok (.go (st.lit (r.take 1) true)) (r.drop 1) := by
  unfold wordStep
  rw [take_ne (by decide), take_eq]
  try dsimp only
 rw [word_step hg, e]
 split <;> rfl
theorem word_dbl (st : Sp) (r : List UInt8) : iterS (wordStep sub) st (34 :: r) = (dblS sub st r).bind fun st' r' => iterS (wordStep sub) st' r' := by
 have e : wordStep sub st (34 :: r) = (dblS sub st r).bind fun st' r' => .ok (.go st') r' := by
  unfold wordStep
  rw [take_ne (by decide), take_ne (by decide), take_eq]
  try dsimp only
 rw [word_step hg, e]
 cases dblS sub st r <;> rfl
theorem word_dollar (st : Sp) (r : List UInt8) : iterS (wordStep sub) st (36 :: r) = (partS sub false r).bind fun p r' => iterS (wordStep sub) (st.add p) r' := by
 have e : wordStep sub st (36 :: r) = (partS sub false r).bind fun p r' => .ok (.go (st.add p)) r' := by
  unfold wordStep
  rw [take_ne (by decide), take_ne (by decide), take_ne (by decide), take_eq]
  try dsimp only
 rw [word_step hg, e]
 cases partS sub false r <;> rfl
end
theorem part_kind {sub : Deeper} {q : Bool} {l r : List UInt8} {p : Pt} (h : partS sub q l = .ok p r) : p.k ≠ 1 ∧ p.q = q := by
 unfold partS at h
 split at h
 ·obtain ⟨s, r1, _, h⟩ := bind_ok h; cases h; exact ⟨by show (8 : Nat) ≠ 1; omega, rfl⟩
 ·split at h
  ·obtain ⟨s, r1, _, h⟩ := bind_ok h
   obtain ⟨_, r2, _, h⟩ := bind_ok h
   cases h; exact ⟨by show (7 : Nat) ≠ 1; omega, rfl⟩
  ·split at h
   ·obtain ⟨s, r1, _, h⟩ := bind_ok h
    obtain ⟨_, r2, _, h⟩ := bind_ok h
    cases h; exact ⟨by show (4 : Nat) ≠ 1; omega, rfl⟩
   ·split at h
    ·unfold bracedS at h
     obtain ⟨n, r1, _, h⟩ := bind_ok h
     split at h
     ·cases h; exact ⟨by show (2 : Nat) ≠ 1; omega, rfl⟩
     ·have hw : ∀ k n l p r, k ≠ 1 → withT q k n l = .ok p r → p.k ≠ 1 ∧ p.q = q := by
       intro k n l p r hk h
       obtain ⟨_, r2, _, h⟩ := bind_ok h
       cases h; exact ⟨hk, rfl⟩
      split at h
      ·exact hw _ _ _ _ _ (by omega) h
      ·split at h
       ·exact hw _ _ _ _ _ (by omega) h
       ·split at h
        ·exact hw _ _ _ _ _ (by omega) h
        ·cases h
    ·obtain ⟨n, r1, _, h⟩ := bind_ok h; cases h; exact ⟨by show (2 : Nat) ≠ 1; omega, rfl⟩
theorem dbl_base {sub : Deeper} (hg : GoodD sub) (base : List Pt) : ∀ (n : Nat) (l : List UInt8), l.length = n → ∀ (st s0 : Sp), st.Nm → s0.Nm → st.shut = s0.shut.foldl withP base →
  (∃ e, iterS (dblStep sub) s0 l = .bad e ∧ iterS (dblStep sub) st l = .bad e) ∨ ∃ s1 st1 r, iterS (dblStep sub) s0 l = .ok s1 r ∧ iterS (dblStep sub) st l = .ok st1 r ∧ s1.Nm ∧ st1.Nm ∧ st1.shut = s1.shut.foldl withP base := by
 intro n
 induction n using Nat.strongRecOn with
 | ind n ih =>
  intro l hn st s0 h1 h2 he
  have hlit : ∀ (s : List UInt8) (r : List UInt8), r.length < n → (∃ e, iterS (dblStep sub) (s0.lit s true) r = .bad e ∧ iterS (dblStep sub) (st.lit s true) r = .bad e) ∨ ∃ s1 st1 r', iterS (dblStep sub) (s0.lit s true) r = .ok s1 r' ∧ iterS (dblStep sub) (st.lit s true) r = .ok st1 r' ∧ s1.Nm ∧ st1.Nm ∧ st1.shut = s1.shut.foldl withP base := by
   intro s r hr
   obtain ⟨a1, a2⟩ := nm_lit h1 s true
   obtain ⟨b1, b2⟩ := nm_lit h2 s true
   exact ih _ hr r rfl _ _ a1 b1 (by rw [← a2, ← b2, he, fold_with])
  cases l with
  | nil => exact .inl ⟨9, dbl_nilF hg _, dbl_nilF hg _⟩
  | cons c r =>
   have hr : r.length < n := by rw [← hn]; simp
   by_cases c1 : c = 34
   ·subst c1
    exact .inr ⟨s0, st, r, dbl_end hg _ _, dbl_end hg _ _, h2, h1, he⟩
   by_cases c2 : c = 36
   ·subst c2
    rw [dbl_dollar hg, dbl_dollar hg]
    have hnn := partS_nice hg true r
    cases hp : partS sub true r with
    | bad e => exact .inl ⟨e, rfl, rfl⟩
    | ok p r' =>
     rw [hp] at hnn
     have hnn : r'.length ≤ r.length := hnn
     have hk := (part_kind hp).1
     obtain ⟨a1, a2, _⟩ := nm_add (st := st) p hk
     obtain ⟨b1, b2, _⟩ := nm_add (st := s0) p hk
     exact ih _ (by omega) r' rfl _ _ a1 b1 (by rw [← a2, ← b2, he, fold_with])
   by_cases c3 : c = 92
   ·subst c3
    rw [dbl_back hg, dbl_back hg]
    by_cases hb : atS shBound r = true
    ·rw [if_pos hb, if_pos hb]
     exact hlit _ _ (by rw [List.length_drop]; omega)
    ·rw [if_neg hb, if_neg hb]
     exact .inl ⟨9, rfl, rfl⟩
   by_cases c4 : c = 96
   ·subst c4
    exact .inl ⟨9, dbl_tick hg _ _, dbl_tick hg _ _⟩
   have hb : shBound.contains c = false := by
    cases hh : shBound.contains c with
    | false => rfl
    | true =>
     have : c = 34 ∨ c = 36 ∨ c = 92 ∨ c = 96 := by simpa [shBound] using hh
     rcases this with h | h | h | h
     ·exact absurd h c1
     ·exact absurd h c2
     ·exact absurd h c3
     ·exact absurd h c4
   rw [dbl_char hg _ _ _ hb, dbl_char hg _ _ _ hb]
   exact hlit _ _ hr
def quotS (sub : Deeper) (l : List UInt8) : Rr (List Pt) := (dblS sub ⟨[], none⟩ l).bind fun st r => .ok st.shut r
theorem quot_word {sub : Deeper} (hg : GoodD sub) (st : Sp) (h : st.Nm) (l : List UInt8) :
  (∃ e, quotS sub l = .bad e ∧ dblS sub st l = .bad e) ∨ ∃ ps st1 r, quotS sub l = .ok ps r ∧ dblS sub st l = .ok st1 r ∧ st1.Nm ∧ st1.shut = ps.foldl withP st.shut := by
 unfold quotS dblS
 cases ht : takeS [34] l with
 | some r =>
  obtain ⟨a1, a2⟩ := nm_lit h [] true
  exact .inr ⟨_, _, r, rfl, rfl, a1, a2.symm⟩
 | none =>
  rcases dbl_base hg st.shut _ l rfl st ⟨[], none⟩ h nm_start rfl with ⟨e, h1, h2⟩ | ⟨s1, st1, r, h1, h2, _, h4, h5⟩
  ·exact .inl ⟨e, by dsimp only; rw [h1]; rfl, by dsimp only; rw [h2]⟩
  ·exact .inr ⟨s1.shut, st1, r, by dsimp only; rw [h1]; rfl, by dsimp only; rw [h2], h4, h5⟩
end Go.Proofs.YtelfgobjnibooaaGreatDoor
namespace Go.Proofs.YtelfgobjnibooaaGreatDoor
open Go.RowKit Go.Lib
theorem isEmpty_size (s : ByteArray) : s.data.toList.isEmpty = decide (s.size = 0) := by
 rw [Bool.eq_iff_iff, List.isEmpty_iff, decide_eq_true_iff, ← List.length_eq_zero_iff, Array.length_toList]
 exact Iff.rfl
set_option maxHeartbeats 1000000 in
theorem refIsName_any (s : ByteArray) (w : World) (hs : s.size ≤ 70000000000000) :
    Calls Tryz.prog 169 #[.string s] w fun e w' => e = .returned (.bool (isNameB s.data.toList)) ∧ w = w' := by
  go_enter Tryz.func169, Tryz.ntmps169
  go_wp2
  go_loop [3] (fun i => ∃ k : Nat, k ≤ s.size ∧ i = .int .i64 k ∧ namePre (s.data.toList.take k) = true) (fun i => s.size - (RowKit.intOf i).toNat)
  case atStart => exact ⟨0, Nat.zero_le _, rfl, rfl⟩
  case round =>
    obtain ⟨k, hk, rfl, hpre⟩ := hrel
    have HP := Lib.hid hpre
    clear hpre
    by_cases hlt : k < s.size
    · have hsn := Lib.hid (namePre_take s k hlt)
      have hno := Lib.hid (namePre_no s (k + 1))
      obtain ⟨c, hcc⟩ : ∃ c, s[k] = c := ⟨_, rfl⟩
      rw [hcc] at hsn
      have cls : ((c.toNat : Int) < 48) ∨ (48 ≤ (c.toNat : Int) ∧ (c.toNat : Int) ≤ 57) ∨ (58 ≤ (c.toNat : Int) ∧ (c.toNat : Int) ≤ 64) ∨ (65 ≤ (c.toNat : Int) ∧ (c.toNat : Int) ≤ 90) ∨ (91 ≤ (c.toNat : Int) ∧ (c.toNat : Int) ≤ 94) ∨ ((c.toNat : Int) = 95) ∨ ((c.toNat : Int) = 96) ∨ (97 ≤ (c.toNat : Int) ∧ (c.toNat : Int) ≤ 122) ∨ (123 ≤ (c.toNat : Int)) := by omega
      rcases cls with h | ⟨h, h'⟩ | ⟨h, h'⟩ | ⟨h, h'⟩ | ⟨h, h'⟩ | h | h | ⟨h, h'⟩ | h <;> by_cases h0 : 0 < k
      all_goals
        first
        | have hn := Lib.hid (show nameOk k c = true by simp [nameOk, isLet, isFig]; omega)
        | have hn := Lib.hid (show nameOk k c = false by rw [Bool.eq_false_iff]; simp [nameOk, isLet, isFig]; omega)
        first
        | have h9 : ((c.toNat : Int) == 95) = false := by simp; omega
        | have h9 : ((c.toNat : Int) == 95) = true := by simp; omega
        first
        | have h8 : ((k : Int) == 0) = false := by simp; omega
        | have h8 : ((k : Int) == 0) = true := by simp; omega
        first
        | have h7 : decide ((c.toNat : Int) ≤ 90) = false := by simp; omega
        | have h7 : decide ((c.toNat : Int) ≤ 90) = true := by simp; omega
        first
        | have h6 : decide ((c.toNat : Int) ≤ 122) = false := by simp; omega
        | have h6 : decide ((c.toNat : Int) ≤ 122) = true := by simp; omega
        go_wp2
        first
        | go_ret
          refine ⟨ret_bool ?_, rfl⟩
          rw [hno.out (by rw [hsn.out, hn.out]; simp)]
        | go_round
          case rel => exact ⟨k + 1, by omega, by go_num, by rw [hsn.out, hn.out, HP.out]; rfl⟩
          case measure => simp [RowKit.intOf]; omega
    · have hall : s.data.toList.take k = s.data.toList := List.take_of_length_le (by simp; omega)
      have HA := Lib.hid hall
      clear hall
      go_wp2
      all_goals
        go_ret
        refine ⟨ret_bool ?_, rfl⟩
        have := HP.out
        rw [HA.out] at this
        simp only [isNameB, this, isEmpty_size]
        by_cases h0 : s.size = 0 <;> simp [h0]
        try omega
end Go.Proofs.YtelfgobjnibooaaGreatDoor
namespace Go.Proofs.YtelfgobjnibooaaGreatDoor
open Go.RowKit Go.Lib
def AppR {X : Type} (E : ElemP X) (e : TypeId) (B : Nat) (F : Nat → Prop) (w : World) (v : Value) (xs : List X) : Prop :=
 ∃ css : List (List Value), css.length = xs.length ∧ (∀ (i : Nat) (x : X) (cs : List Value), xs[i]? = some x → css[i]? = some cs → E.q F w x cs) ∧ w.ownsRow B e E.size v xs.length css.flatten ∧ ∀ g, F g → g < B
theorem AppR.begin {X : Type} (E : ElemP X) (e : TypeId) (w : World) : AppR E e w.heap.size NoneF (w.alloc (.cells #[] e)) (.slice (some ⟨w.heap.size, 0, none⟩) 0 0) ([] : List X) :=
 ⟨[], rfl, fun i x cs hx => by simp at hx, ⟨by simp, .inr ⟨w.heap.size, 0, #[], rfl, Nat.le_refl _, heap_alloc_new w _, Nat.le_refl _, by unfold maxLen; omega, by simp, by simp⟩⟩, fun g hg => hg.elim⟩
theorem AppR.row {X : Type} {E : ElemP X} {e : TypeId} {B : Nat} {F : Nat → Prop} {w : World} {v : Value} {xs : List X} (h : AppR E e B F w v xs) (hB : B ≤ w.heap.size) : RowM E e (fun g => g < w.heap.size) w v xs := by
 obtain ⟨css, h1, h2, h3, h4⟩ := h
 exact ⟨css, h1, fun i x cs hx hc => E.mono _ _ _ _ _ (fun g hg => by have := h4 g hg; omega) (h2 i x cs hx hc), ownS_base h3 (Nat.zero_le _), fun g hg => (ownS_lt h3 hg).2⟩
section
variable {P : Program}
theorem run_append_none (w : World) (base : Nat) (t ty e : TypeId) (i : TypeInfo) (size : Nat) (ht : P.underlying t = some (.slice e)) (hi : P.info? e = some i)
  (v : Value) (n : Nat) (xs : List Value) (hown : w.ownsRow base e size v n xs) : (Builtin.append_ #[t, t] ty #[v, .slice none 0 0]).run P w = .ok v w := by
 obtain ⟨ao, cap, rfl, hc⟩ := ownS_shape hown
 cases ao with
 | none => simp [Builtin.append_, run_underlying ht, sizeOf, typeInfo, hi, Builtin.lenOf, Builtin.firstCells, Result.andThen, hc]
 | some a => simp [Builtin.append_, run_underlying ht, sizeOf, typeInfo, hi, Builtin.lenOf, Builtin.firstCells, Result.andThen, hc, storeCells]
theorem run_append_rowM {X : Type} {E : ElemP X} (hone : ∀ F w x cs, E.q F w x cs → ∀ u ∈ cs, u.oneCell' = true) {t ty e : TypeId} {i : TypeInfo} {z : Value} {bytes : Nat} (ht : P.underlying t = some (.slice e)) (hi : P.info? e = some i) (hz : i.zero = some z)
  (hsize : i.size = E.size) (hby : i.bytes = bytes) (hzs : z.cells.size = E.size) (hsz : 0 < E.size)
  {B : Nat} {F G : Nat → Prop} {w : World} {v u : Value} {xs ys : List X} (h : AppR E e B F w v xs) (k : RowM E e G w u ys) (hG : ∀ g, G g → g < B) (hB : B ≤ w.heap.size)
  (h63 : xs.length + ys.length ≤ maxLen) (hbytes : (xs.length + ys.length) * bytes ≤ 140737488355328) :
  ∃ v' w', (Builtin.append_ #[t, t] ty #[v, u]).run P w = .ok v' w' ∧ AppR E e B (fun g => F g ∨ G g) w' v' (xs ++ ys) ∧ Below B w w' := by
 obtain ⟨css, h1, h2, h3, h4⟩ := h
 obtain ⟨dss, k1, k2, k3, k4⟩ := k
 have el : ∀ w' : World, Below B w w' → ∀ (i : Nat) (x : X) (cs : List Value), (xs ++ ys)[i]? = some x → (css ++ dss)[i]? = some cs → E.q (fun g => F g ∨ G g) w' x cs := by
  intro w' hb i x cs hx hc
  by_cases hi : i < xs.length
  ·rw [List.getElem?_append_left hi] at hx
   rw [List.getElem?_append_left (by omega)] at hc
   exact E.mono _ _ _ _ _ (fun g hg => .inl hg) (E.same _ _ _ _ _ (fun g hg => hb.block g (h4 g hg)) (h2 i x cs hx hc))
  ·rw [List.getElem?_append_right (by omega)] at hx
   rw [List.getElem?_append_right (by omega), h1] at hc
   exact E.mono _ _ _ _ _ (fun g hg => .inr hg) (E.same _ _ _ _ _ (fun g hg => hb.block g (hG g hg)) (k2 _ x cs hx hc))
 have lt : ∀ g, (F g ∨ G g) → g < B := fun g hg => hg.elim (h4 g) (hG g)
 rcases k3.2 with ⟨hn, h0⟩ | ⟨g, cap, cur, hv, _, hg, hc, hm, hcs, htk⟩
 ·have e0 : ys = [] := by
   obtain ⟨_, _, e1, _⟩ := ownS_shape k3
   rw [hn] at e1
   injection e1 with _ e2 _
   exact List.eq_nil_of_length_eq_zero e2.symm
  subst e0
  subst hn
  have ed : dss = [] := List.eq_nil_of_length_eq_zero k1
  subst ed
  refine ⟨v, w, run_append_none w B t ty e i E.size ht hi v xs.length _ h3, ⟨css ++ [], by simpa using h1, el w (Below.refl _ _), ?_, lt⟩, Below.refl _ _⟩
  simpa using h3
 ·have hall : ∀ y ∈ dss, ∀ u ∈ y, u.oneCell' = true := by
   intro y hy
   obtain ⟨j, hj⟩ := List.mem_iff_getElem?.1 hy
   have hjl : j < ys.length := by have := (List.getElem?_eq_some_iff.1 hj).1; omega
   exact hone _ _ _ _ (k2 j _ _ (List.getElem?_eq_getElem hjl) hj)
  have hnews : ∀ j u, dss.flatten[j]? = some u → w.cell? ((⟨g, 0, none⟩ : Addr).add j) = some u := k3.cells (by rw [hv]; rfl)
  rw [hv]
  obtain ⟨v', w', hr, r1, r2, _⟩ := run_append_own (P := P) w B t ty e i z E.size bytes ht hi hz hsize hby hzs hsz v xs.length css.flatten h3 ⟨g, 0, none⟩ ys.length cap dss.flatten k3.1 hnews (fun u hu => by
   obtain ⟨y, hy, huy⟩ := List.mem_flatten.1 hu
   exact hall y hy u huy) h63 hbytes hB
  have hb : Below B w w' := (Below.refl B w).grown r2 hB (fun g hg => (ownS_lt h3 hg).1)
  refine ⟨v', w', hr, ⟨css ++ dss, by rw [List.length_append, List.length_append, h1, k1], el w' hb, ?_, lt⟩, hb⟩
  rw [List.length_append, List.flatten_append]
  exact r1
theorem wpList_append_rowM {X : Type} {E : ElemP X} (hone : ∀ F w x cs, E.q F w x cs → ∀ u ∈ cs, u.oneCell' = true) (w : World) {ops : Array Oper} {rest : List Oper} {o : Oper} {a : Act} {Q : Exit → Act → World → Prop} (hgd : o.guard = none) (s x : Operand) (t : TypeId)
  (ho : o.op = .call { callee := .builtin .append, args := #[s, x], argTypes := #[t, t] })
  {e : TypeId} {i : TypeInfo} {z : Value} {bytes : Nat} (ht : P.underlying t = some (.slice e)) (hi : P.info? e = some i) (hz : i.zero = some z)
  (hsize : i.size = E.size) (hby : i.bytes = bytes) (hzs : z.cells.size = E.size) (hsz : 0 < E.size)
  {B : Nat} {F G : Nat → Prop} {v u : Value} {xs ys : List X} (hs : a.eval s = v) (hx : a.eval x = u) (h : AppR E e B F w v xs) (k : RowM E e G w u ys) (hG : ∀ g, G g → g < B) (hB : B ≤ w.heap.size)
  (h63 : xs.length + ys.length ≤ maxLen) (hbytes : (xs.length + ys.length) * bytes ≤ 140737488355328)
  (hK : ∀ v' w', AppR E e B (fun g => F g ∨ G g) w' v' (xs ++ ys) → Below B w w' → wpList P ops Q rest (a.put o.dst v') w') : wpList P ops Q (o :: rest) a w := by
 refine wpList_plain hgd fun K hK' => ?_
 obtain ⟨v', w', hr, h2, h3⟩ := run_append_rowM (P := P) (ty := o.type) hone ht hi hz hsize hby hzs hsz h k hG hB h63 hbytes
 unfold Oper.wp execOp
 simp only [ho, resolve, invoke, builtin, Sem.run_bind, Sem.run_pure, Result.andThen_ok, List.map_toArray, List.map_cons, List.map_nil, hs, hx, hr]
 exact hK' _ _ (hK v' w' h2 h3)
end
end Go.Proofs.YtelfgobjnibooaaGreatDoor
