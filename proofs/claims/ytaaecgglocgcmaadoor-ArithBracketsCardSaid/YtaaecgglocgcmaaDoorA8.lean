/- Packed texts: ArBrack. What each of them proves stands above its theorems; the conditions stand in these. -/
import Derived.Test.YtaaecgglocgcmaaDoorA0
namespace Go.Proofs.YtaaecgglocgcmaaDoor
open Go.RowKit Go.Lib

theorem skip_app (l z : List UInt8) : skipA (l ++ 41 :: z) = skipA l ++ 41 :: z := by
  unfold skipA
  induction l with
  | nil => rfl
  | cons c l ih =>
    rw [List.cons_append, List.dropWhile_cons, List.dropWhile_cons]
    split
    · exact ih
    · rfl
theorem while_app (q : UInt8 → Bool) (hq : q 41 = false) (l z : List UInt8) : (l ++ 41 :: z).takeWhile q = l.takeWhile q := by
  induction l with
  | nil => simp [hq]
  | cons c l ih =>
    rw [List.cons_append, List.takeWhile_cons, List.takeWhile_cons]
    split
    · rw [ih]
    · rfl
theorem name_app (c : UInt8) (l z : List UInt8) : nameL (c :: l ++ 41 :: z) = nameL (c :: l) := by
  rw [List.cons_append]
  simp only [nameL]
  rw [while_app restOk (by decide)]
theorem pre_app (t l z : List UInt8) (ht : 41 ∉ t) : t.isPrefixOf (l ++ 41 :: z) = t.isPrefixOf l := by
  induction t generalizing l with
  | nil => cases l <;> rfl
  | cons a t ih =>
    have h1 : a ≠ 41 := fun e => ht (by rw [e]; simp)
    have h2 : 41 ∉ t := fun e => ht (List.mem_cons_of_mem _ e)
    cases l with
    | nil =>
      show (a == 41 && t.isPrefixOf z) = false
      have : (a == 41) = false := by simpa using h1
      rw [this]; rfl
    | cons b l =>
      show (a == b && t.isPrefixOf (l ++ 41 :: z)) = (a == b && t.isPrefixOf l)
      rw [ih l h2]
theorem markIn_app : ∀ (ms : List (List UInt8 × Mk)) (l z : List UInt8), (∀ t ∈ ms, 41 ∉ t.1) → markIn ms (l ++ 41 :: z) = match markIn ms l with | none => none | some (m, r) => some (m, r ++ 41 :: z)
  | [], l, z, _ => rfl
  | (t, m) :: ms, l, z, h => by
    unfold markIn
    rw [pre_app t l z (h (t, m) (by simp))]
    by_cases hp : t.isPrefixOf l = true
    · rw [if_pos hp, if_pos hp]
      have hle := (List.isPrefixOf_iff_prefix.1 hp).length_le
      simp only []
      rw [List.drop_append_of_le_length hle]
    · rw [if_neg hp, if_neg hp]
      exact markIn_app ms l z (fun t ht => h t (List.mem_cons_of_mem _ ht))
theorem marks_41 (k : Nat) : ∀ t ∈ marksAt k, 41 ∉ t.1 := by
  match k with
  | 0 | 1 | 2 | 3 | 4 | 5 => decide
  | _ + 6 => intro t h; simp [marksAt] at h
/-- With something behind a bracket's end. -/
def Pr.behind (z : List UInt8) : Pr → Pr
  | .ok e l => .ok e (l ++ 41 :: z)
  | .bad x => .bad x
theorem figs_app (l z : List UInt8) : figs (l ++ 41 :: z) = figs l := while_app isFig (by decide) l z
theorem whole_app (c : UInt8) (l z : List UInt8) : wholeD (c :: l ++ 41 :: z) = wholeD (c :: l) := by
  have hn : isNeg (c :: l ++ 41 :: z) = isNeg (c :: l) := rfl
  have ha : afterSign (c :: l ++ 41 :: z) = afterSign (c :: l) ++ 41 :: z := by
    unfold afterSign
    rw [hn]
    split <;> rfl
  unfold wholeD
  rw [hn, ha, figs_app]
theorem used_le (c : UInt8) (l : List UInt8) : (wholeD (c :: l)).2.1.toNat ≤ (c :: l).length := by
  have h := figs_length_le (afterSign (c :: l))
  have h2 : isNeg (c :: l) = true → (afterSign (c :: l)).length + 1 = (c :: l).length := fun hn => by unfold afterSign; rw [if_pos hn]; rfl
  have h3 : isNeg (c :: l) = false → afterSign (c :: l) = c :: l := fun hn => by unfold afterSign; rw [if_neg (by rw [hn]; simp)]
  unfold wholeD
  split
  · exact Nat.zero_le _
  · split
    · rename_i hn
      have := h2 hn
      split
      · simp only []; omega
      · exact Nat.zero_le _
    · rename_i hn
      have := h3 (by simpa using hn)
      split
      · simp only []
        rw [this] at h ⊢
        omega
      · exact Nat.zero_le _
theorem atom_app (c : UInt8) (r z : List UInt8) (R : Pr) (h : atomA c r = R) (hR : R ≠ .bad 9) : atomA c (r ++ 41 :: z) = R.behind z := by
  subst h
  unfold atomA at hR ⊢
  by_cases hf : isFig c = true
  · rw [if_pos hf] at hR ⊢
    rw [if_pos hf]
    unfold figA at hR ⊢
    rw [show c :: (r ++ 41 :: z) = c :: r ++ 41 :: z from rfl, whole_app]
    split
    · rw [List.drop_append_of_le_length (used_le c r)]; rfl
    · rename_i hx; rw [if_neg hx] at hR; exact absurd rfl hR
  · rw [if_neg hf] at hR ⊢
    rw [if_neg hf]
    split
    · rename_i hl
      rw [show c :: (r ++ 41 :: z) = c :: r ++ 41 :: z from rfl, name_app]
      have hle : (nameL (c :: r)).length ≤ (c :: r).length := by
        simp only [nameL]
        rw [if_pos hl]
        simp only [List.length_cons]
        have := (List.takeWhile_prefix restOk (l := r)).length_le
        omega
      rw [List.drop_append_of_le_length hle]; rfl
    · rename_i hl; rw [if_neg hl] at hR; exact absurd rfl hR
theorem behind_map (z : List UInt8) (g : Ex → Ex) (R : Pr) : (R.behind z).map g = (R.map g).behind z := by cases R <;> rfl
theorem map_ne {R : Pr} {g : Ex → Ex} {x : Int} (h : R.map g ≠ .bad x) : R ≠ .bad x := fun e => h (by rw [e]; rfl)
theorem behind_skip (z : List UInt8) (R : Pr) : (R.behind z).skipped = (R.skipped).behind z := by
  cases R with
  | bad x => rfl
  | ok e l => show Pr.ok e (skipA (l ++ 41 :: z)) = .ok e (skipA l ++ 41 :: z); rw [skip_app]
theorem behind_closed (z : List UInt8) (R : Pr) (h : R.closed ≠ .bad 9) : (R.behind z).closed = (R.closed).behind z := by
  cases R with
  | bad x => rfl
  | ok e l =>
    cases l with
    | nil => exact absurd rfl h
    | cons c l =>
      have h0 : (Pr.ok e (c :: l)).closed = if some c = some 41 then .ok e l else .bad 9 := rfl
      rw [h0] at h ⊢
      show (if some c = some 41 then Pr.ok e (l ++ 41 :: z) else .bad 9) = _
      split
      · rfl
      · rename_i hc; rw [if_neg hc] at h; exact absurd rfl h
/-- What stands behind a bracket's end changes nothing, but where something is missing. -/
theorem pF_behind (z : List UInt8) : ∀ (f : Nat) (j : Job) (d : Nat) (l : List UInt8), pF f j d l ≠ .bad 9 → pF f j d l ≠ .bad 0 → pF f j d (l ++ 41 :: z) = (pF f j d l).behind z
  | 0, j, d, l, _, h0 => absurd rfl h0
  | f + 1, .un, d, l, h, h0 => by
    unfold pF at h h0 ⊢
    rw [skip_app]
    cases hs : skipA l with
    | nil => rw [hs] at h; exact absurd rfl h
    | cons c r =>
      rw [hs] at h h0
      simp only [List.cons_append] at h h0 ⊢
      by_cases h40 : c = 40
      · rw [if_pos h40] at h h0 ⊢
        rw [if_pos h40]
        by_cases hd : d = 30
        · rw [if_pos hd, if_pos hd]; rfl
        · rw [if_neg hd] at h h0 ⊢
          rw [if_neg hd]
          have n9 : pF f (.row 0) (d + 1) r ≠ .bad 9 := fun e => h (by rw [e]; rfl)
          have n0 : pF f (.row 0) (d + 1) r ≠ .bad 0 := fun e => h0 (by rw [e]; rfl)
          rw [pF_behind z f (.row 0) (d + 1) r n9 n0]
          exact behind_closed z _ h
      · rw [if_neg h40] at h h0 ⊢
        rw [if_neg h40]
        by_cases h45 : c = 45
        · rw [if_pos h45] at h h0 ⊢
          rw [if_pos h45]
          by_cases hd : d = 30
          · rw [if_pos hd, if_pos hd]; rfl
          · rw [if_neg hd] at h h0 ⊢
            rw [if_neg hd, pF_behind z f .un (d + 1) r (map_ne h) (map_ne h0)]
            exact behind_map z _ _
        · rw [if_neg h45] at h h0 ⊢
          rw [if_neg h45]
          by_cases h33 : c = 33
          · rw [if_pos h33] at h h0 ⊢
            rw [if_pos h33]
            by_cases hd : d = 30
            · rw [if_pos hd, if_pos hd]; rfl
            · rw [if_neg hd] at h h0 ⊢
              rw [if_neg hd, pF_behind z f .un (d + 1) r (map_ne h) (map_ne h0)]
              exact behind_map z _ _
          · rw [if_neg h33] at h h0 ⊢
            rw [if_neg h33]
            by_cases h43 : c = 43
            · rw [if_pos h43] at h h0 ⊢
              rw [if_pos h43]
              by_cases hd : d = 30
              · rw [if_pos hd, if_pos hd]; rfl
              · rw [if_neg hd] at h h0 ⊢
                rw [if_neg hd]
                exact pF_behind z f .un (d + 1) r h h0
            · rw [if_neg h43] at h h0 ⊢
              rw [if_neg h43]
              exact atom_app c r z _ rfl h
  | f + 1, .row k, d, l, h, h0 => by
    unfold pF at h h0 ⊢
    by_cases h6 : k = 6
    · rw [if_pos h6] at h h0 ⊢
      rw [if_pos h6]
      have n9 : pF f .un d l ≠ .bad 9 := fun e => h (by rw [e]; rfl)
      have n0 : pF f .un d l ≠ .bad 0 := fun e => h0 (by rw [e]; rfl)
      rw [pF_behind z f .un d l n9 n0]
      exact behind_skip z _
    · rw [if_neg h6] at h h0 ⊢
      rw [if_neg h6]
      have n9 : pF f (.row (k + 1)) d l ≠ .bad 9 := fun e => h (by rw [e])
      have n0 : pF f (.row (k + 1)) d l ≠ .bad 0 := fun e => h0 (by rw [e])
      rw [pF_behind z f (.row (k + 1)) d l n9 n0]
      cases hr : pF f (.row (k + 1)) d l with
      | bad x => rfl
      | ok e r =>
        rw [hr] at h h0
        exact pF_behind z f (.more k e) d r h h0
  | f + 1, .more k e, d, l, h, h0 => by
    unfold pF at h h0 ⊢
    rw [markIn_app _ l z (marks_41 k)]
    cases hm : markIn (marksAt k) l with
    | none => rfl
    | some mr =>
      obtain ⟨m, r⟩ := mr
      rw [hm] at h h0
      simp only [] at h h0 ⊢
      have n9 : pF f (.row (k + 1)) d r ≠ .bad 9 := fun e => h (by rw [e])
      have n0 : pF f (.row (k + 1)) d r ≠ .bad 0 := fun e => h0 (by rw [e])
      rw [pF_behind z f (.row (k + 1)) d r n9 n0]
      cases hr : pF f (.row (k + 1)) d r with
      | bad x => rfl
      | ok b r' =>
        rw [hr] at h h0
        exact pF_behind z f (.more k (.bin m e b)) d r' h h0
/-- Deeper it is the same, or too deep. -/
def Deeper (R R' : Pr) : Prop := R' = R ∨ R' = .bad 7
theorem deeper_map {R R' : Pr} (g : Ex → Ex) (h : Deeper R R') : Deeper (R.map g) (R'.map g) := by
  rcases h with rfl | rfl
  · exact .inl rfl
  · exact .inr rfl
theorem deeper_closed {R R' : Pr} (h : Deeper R R') : Deeper R.closed R'.closed := by
  rcases h with rfl | rfl
  · exact .inl rfl
  · exact .inr rfl
theorem deeper_if {d : Nat} {R R' : Pr} (i : Nat) (hd : d + i ≤ 30) (h : d + i < 30 → Deeper R R') : Deeper (if d = 30 then .bad 7 else R) (if d + i = 30 then .bad 7 else R') := by
  by_cases h1 : d + i = 30
  · rw [if_pos h1]; exact .inr rfl
  · rw [if_neg h1, if_neg (by omega)]; exact h (by omega)
theorem pF_deeper (i : Nat) : ∀ (f : Nat) (j : Job) (d : Nat) (l : List UInt8), d + i ≤ 30 → Deeper (pF f j d l) (pF f j (d + i) l)
  | 0, j, d, l, _ => .inl rfl
  | f + 1, .un, d, l, hd => by
    have e : d + i + 1 = d + 1 + i := by omega
    unfold pF
    cases hs : skipA l with
    | nil => exact .inl rfl
    | cons c r =>
      simp only []
      have i1 := fun h : d + i < 30 => pF_deeper i f (.row 0) (d + 1) r (by omega)
      have i2 := fun h : d + i < 30 => pF_deeper i f .un (d + 1) r (by omega)
      rw [← e] at i1 i2
      by_cases h40 : c = 40
      · rw [if_pos h40, if_pos h40]; exact deeper_if i hd fun h => deeper_closed (i1 h)
      · rw [if_neg h40, if_neg h40]
        by_cases h45 : c = 45
        · rw [if_pos h45, if_pos h45]; exact deeper_if i hd fun h => deeper_map _ (i2 h)
        · rw [if_neg h45, if_neg h45]
          by_cases h33 : c = 33
          · rw [if_pos h33, if_pos h33]; exact deeper_if i hd fun h => deeper_map _ (i2 h)
          · rw [if_neg h33, if_neg h33]
            by_cases h43 : c = 43
            · rw [if_pos h43, if_pos h43]; exact deeper_if i hd i2
            · rw [if_neg h43, if_neg h43]; exact .inl rfl
  | f + 1, .row k, d, l, hd => by
    unfold pF
    by_cases h6 : k = 6
    · rw [if_pos h6, if_pos h6]
      rcases pF_deeper i f .un d l hd with h | h
      · rw [h]; exact .inl rfl
      · rw [h]; exact .inr rfl
    · rw [if_neg h6, if_neg h6]
      rcases pF_deeper i f (.row (k + 1)) d l hd with h | h
      · rw [h]
        cases hr : pF f (.row (k + 1)) d l with
        | bad x => exact .inl rfl
        | ok e r => exact pF_deeper i f (.more k e) d r hd
      · rw [h]; exact .inr rfl
  | f + 1, .more k e, d, l, hd => by
    unfold pF
    cases hm : markIn (marksAt k) l with
    | none => exact .inl rfl
    | some mr =>
      obtain ⟨m, r⟩ := mr
      simp only []
      rcases pF_deeper i f (.row (k + 1)) d r hd with h | h
      · rw [h]
        cases hr : pF f (.row (k + 1)) d r with
        | bad x => exact .inl rfl
        | ok b r' => exact pF_deeper i f (.more k (.bin m e b)) d r' hd
      · rw [h]; exact .inr rfl

/-- Two readings by fuel that is enough are the same. -/
theorem pF_eq {f f' : Nat} {j : Job} {d : Nat} {l : List UInt8} (h : pF f j d l ≠ .bad 0) (h' : pF f' j d l ≠ .bad 0) : pF f j d l = pF f' j d l := by
  rw [← pF_mono h (Nat.le_max_left f f'), ← pF_mono h' (Nat.le_max_right f f')]
/-- A number with its signs, behind which no mark stands of a level or a later one, is a row of that level. -/
theorem row_up {f d : Nat} {l r : List UInt8} {e : Ex} (h : pF f .un d l = .ok e r) : ∀ (i k : Nat), k + i = 6 → (∀ k', k ≤ k' → k' < 6 → markIn (marksAt k') (skipA r) = none) → pF (f + i + 1) (.row k) d l = .ok e (skipA r)
  | 0, k, hk, _ => by
    obtain rfl : k = 6 := by omega
    show (pF f .un d l).skipped = _
    rw [h]; rfl
  | i + 1, k, hk, hm => by
    have ih := row_up h i (k + 1) (by omega) (fun k' h1 h2 => hm k' (by omega) h2)
    show (if k = 6 then _ else match pF (f + i + 1) (.row (k + 1)) d l with | .ok e r => pF (f + i + 1) (.more k e) d r | .bad x => .bad x) = _
    rw [if_neg (by omega), ih]
    show pF (f + i + 1) (.more k e) d (skipA r) = _
    unfold pF
    rw [hm k (Nat.le_refl _) (by omega)]
theorem row_bad {f d : Nat} {l : List UInt8} {x : Int} (h : pF f .un d l = .bad x) : ∀ (i k : Nat), k + i = 6 → pF (f + i + 1) (.row k) d l = .bad x
  | 0, k, hk => by
    obtain rfl : k = 6 := by omega
    show (pF f .un d l).skipped = _
    rw [h]; rfl
  | i + 1, k, hk => by
    have ih := row_bad h i (k + 1) (by omega)
    show (if k = 6 then _ else match pF (f + i + 1) (.row (k + 1)) d l with | .ok e r => pF (f + i + 1) (.more k e) d r | .bad x => .bad x) = _
    rw [if_neg (by omega), ih]
theorem no_marks : ∀ k', k' < 6 → markIn (marksAt k') [] = none
  | 0, _ | 1, _ | 2, _ | 3, _ | 4, _ | 5, _ => rfl
/-- A row by some fuel is the whole text's reading. -/
theorem read_of {f : Nat} {l : List UInt8} (h : pF f (.row 0) 0 l ≠ .bad 0) : readA l = (pF f (.row 0) 0 l).whole := by
  unfold readA
  rw [pF_eq (readA_fuel l) h]
theorem un_paren (f d : Nat) (r : List UInt8) : pF (f + 1) .un d (40 :: r) = if d = 30 then .bad 7 else (pF f (.row 0) (d + 1) r).closed := rfl
/-- What stands in brackets, so deep, whatever stands behind. -/
theorem in_brackets (l : List UInt8) (e : Ex) (h : readA l = .ok e []) (d : Nat) (hd : d < 30) : ∃ f, (∀ z, pF f .un d (40 :: l ++ 41 :: z) = .ok e z) ∨ (∀ z, pF f .un d (40 :: l ++ 41 :: z) = .bad 7) := by
  have hr : pF (8 * l.length + 8) (.row 0) 0 l = .ok e [] := by
    unfold readA at h
    cases hp : pF (8 * l.length + 8) (.row 0) 0 l with
    | bad x => rw [hp] at h; cases h
    | ok e' l' =>
      rw [hp] at h
      have h : (if l' = [] then Pr.ok e' [] else .bad 9) = .ok e [] := h
      split at h
      · rename_i hl; cases h; rw [hl]
      · cases h
  refine ⟨8 * l.length + 8 + 1, ?_⟩
  have e1 : ∀ z, pF (8 * l.length + 8 + 1) .un d (40 :: l ++ 41 :: z) = (pF (8 * l.length + 8) (.row 0) (d + 1) (l ++ 41 :: z)).closed := by
    intro z
    rw [show (40 :: l ++ 41 :: z : List UInt8) = 40 :: (l ++ 41 :: z) from rfl, un_paren, if_neg (by omega)]
  rcases pF_deeper (d + 1) (8 * l.length + 8) (.row 0) 0 l (by omega) with hq | hq
  · rw [hr, Nat.zero_add] at hq
    refine .inl fun z => ?_
    rw [e1, pF_behind z _ _ _ _ (by rw [hq]; simp) (by rw [hq]; simp), hq]
    rfl
  · rw [Nat.zero_add] at hq
    refine .inr fun z => ?_
    rw [e1, pF_behind z _ _ _ _ (by rw [hq]; simp) (by rw [hq]; simp), hq]
    rfl
theorem read_round (l : List UInt8) (e : Ex) (h : readA l = .ok e []) : readA (40 :: l ++ [41]) = .ok e [] ∨ readA (40 :: l ++ [41]) = .bad 7 := by
  obtain ⟨f, hf | hf⟩ := in_brackets l e h 0 (by decide)
  · have := row_up (hf []) 6 0 rfl (fun k' _ hk => no_marks k' hk)
    rw [read_of (by rw [this]; simp), this]
    exact .inl rfl
  · have := row_bad (hf []) 6 0 rfl
    rw [read_of (by rw [this]; simp), this]
    exact .inr rfl
theorem read_bangs (l : List UInt8) (e : Ex) (h : readA l = .ok e []) : readA (33 :: 33 :: 40 :: l ++ [41]) = .ok (.bang (.bang e)) [] ∨ readA (33 :: 33 :: 40 :: l ++ [41]) = .bad 7 := by
  have up : ∀ f d r, pF (f + 1) .un d (33 :: r) = if d = 30 then .bad 7 else (pF f .un (d + 1) r).map .bang := fun f d r => rfl
  obtain ⟨f, hf | hf⟩ := in_brackets l e h 2 (by decide)
  · have hf : pF (f + 2) .un 0 (33 :: 33 :: 40 :: l ++ [41]) = .ok (.bang (.bang e)) [] := by
      show pF (f + 1 + 1) .un 0 (33 :: (33 :: 40 :: l ++ [41])) = _
      rw [up, if_neg (by decide)]
      show (pF (f + 1) .un 1 (33 :: (40 :: l ++ [41]))).map .bang = _
      rw [up, if_neg (by decide), hf]; rfl
    have := row_up hf 6 0 rfl (fun k' _ hk => no_marks k' hk)
    rw [read_of (by rw [this]; simp), this]
    exact .inl rfl
  · have hf : pF (f + 2) .un 0 (33 :: 33 :: 40 :: l ++ [41]) = .bad 7 := by
      show pF (f + 1 + 1) .un 0 (33 :: (33 :: 40 :: l ++ [41])) = _
      rw [up, if_neg (by decide)]
      show (pF (f + 1) .un 1 (33 :: (40 :: l ++ [41]))).map .bang = _
      rw [up, if_neg (by decide), hf]; rfl
    have := row_bad hf 6 0 rfl
    rw [read_of (by rw [this]; simp), this]
    exact .inr rfl
theorem row_lift {g k d : Nat} {l r r' : List UInt8} {e e' : Ex} (hk : k ≠ 6) (h1 : pF g (.row (k + 1)) d l = .ok e r) (h2 : pF g (.more k e) d r = .ok e' r') : pF (g + 1) (.row k) d l = .ok e' r' := by
  show (if k = 6 then _ else match pF g (.row (k + 1)) d l with | .ok e r => pF g (.more k e) d r | .bad x => .bad x) = _
  rw [if_neg hk, h1]
  exact h2
theorem more_end {g k d : Nat} {l : List UInt8} {e : Ex} (h : markIn (marksAt k) l = none) : pF (g + 1) (.more k e) d l = .ok e l := by
  unfold pF
  rw [h]
theorem minus_marks (x : List UInt8) : ∀ k', 5 ≤ k' → k' < 6 → markIn (marksAt k') (skipA (45 :: x)) = none := by
  intro k' h1 h2
  obtain rfl : k' = 5 := by omega
  rfl
theorem read_less (l : List UInt8) (e : Ex) (h : readA l = .ok e []) (hb : readA (40 :: l ++ [41]) = .ok e []) : readA (40 :: l ++ 41 :: 45 :: 40 :: l ++ [41]) = .ok (.bin .sub e e) [] := by
  obtain ⟨f, hf | hf⟩ := in_brackets l e h 0 (by decide)
  · have hA := row_up (hf (45 :: 40 :: l ++ [41])) 1 5 rfl (minus_marks _)
    have hB := row_up (hf []) 1 5 rfl (fun k' _ hk => no_marks k' hk)
    have hA : pF (f + 1 + 1) (.row 5) 0 (40 :: l ++ 41 :: 45 :: 40 :: l ++ [41]) = .ok e (45 :: 40 :: l ++ [41]) := by
      rw [show (40 :: l ++ 41 :: 45 :: 40 :: l ++ [41] : List UInt8) = 40 :: l ++ 41 :: (45 :: 40 :: l ++ [41]) by simp]
      exact hA
    have hA3 : pF (f + 1 + 1 + 1) (.row 5) 0 (40 :: l ++ 41 :: 45 :: 40 :: l ++ [41]) = .ok e (45 :: 40 :: l ++ [41]) := by rw [pF_more _ _ _ _ (by rw [hA]; simp), hA]
    have hM : pF (f + 1 + 1 + 1) (.more 4 e) 0 (45 :: 40 :: l ++ [41]) = .ok (.bin .sub e e) [] := by
      show (match pF (f + 1 + 1) (.row 5) 0 (40 :: l ++ [41]) with | .ok b r' => pF (f + 1 + 1) (.more 4 (.bin .sub e b)) 0 r' | .bad x => .bad x) = _
      rw [hB]
      exact more_end (no_marks 4 (by decide))
    have h4 := row_lift (k := 4) (by decide) hA3 hM
    have h3 := row_lift (k := 3) (by decide) h4 (more_end (no_marks 3 (by decide)))
    have h2 := row_lift (k := 2) (by decide) h3 (more_end (no_marks 2 (by decide)))
    have h1 := row_lift (k := 1) (by decide) h2 (more_end (no_marks 1 (by decide)))
    have h0 := row_lift (k := 0) (by decide) h1 (more_end (no_marks 0 (by decide)))
    rw [read_of (by rw [h0]; simp), h0]
    rfl
  · exfalso
    have := row_bad (hf []) 6 0 rfl
    rw [read_of (by rw [this]; simp), this] at hb
    cases hb
theorem ok_rest {l r : List UInt8} {e : Ex} (h : readA l = .ok e r) : r = [] := by
  unfold readA at h
  cases hp : pF (8 * l.length + 8) (.row 0) 0 l with
  | bad x => rw [hp] at h; cases h
  | ok e' l' =>
    rw [hp] at h
    have h : (if l' = [] then Pr.ok e' [] else .bad 9) = .ok e r := h
    split at h
    · cases h; rfl
    · cases h
end Go.Proofs.YtaaecgglocgcmaaDoor
