/- A text with something behind it that no piece begins with is read as it is alone. No condition. -/
import Derived.Test.YtgokkdalfkinnaaReBack
namespace Go.Proofs.Ytgokkdalfkinnaa
open Go.RowKit Go.Lib

theorem sign_more {l : List UInt8} {c n : Int} (h : signD l = some (c, n)) (y : List UInt8) : signD (l ++ y) = some (c, n) := by
  cases l with
  | nil => cases h
  | cons a r =>
    show signD (a :: (r ++ y)) = _
    by_cases ha : a = 92
    · cases r with
      | nil => simp only [signD, if_pos ha] at h; cases h
      | cons d t =>
        simp only [signD, if_pos ha, List.cons_append] at h ⊢
        by_cases hd : d = 120
        · rw [if_pos hd] at h ⊢
          cases t with
          | nil => cases h
          | cons p t =>
            cases t with
            | nil => cases h
            | cons q t => exact h
        · rw [if_neg hd] at h ⊢
          exact h
    · simp only [signD, if_neg ha] at h ⊢
      exact h
theorem drop_more {l : List UInt8} (y : List UInt8) {n : Nat} (h : n ≤ l.length) : (l ++ y).drop n = l.drop n ++ y := by
  rw [List.drop_append_of_le_length h]
theorem head_more {l y : List UInt8} (h : l ≠ []) : (l ++ y).head? = l.head? := by
  cases l with
  | nil => exact absurd rfl h
  | cons c l => rfl
theorem item_more {l : List UInt8} {a b : Int} {n : Nat} (h : itemD l = some (a, b, n)) (hne : l.drop n ≠ []) (y : List UInt8) : itemD (l ++ y) = some (a, b, n) := by
  unfold itemD at h ⊢
  cases hs : signD l with
  | none => rw [hs] at h; cases h
  | some r =>
    obtain ⟨c, m⟩ := r
    have hu := signD_used hs
    rw [hs] at h
    rw [sign_more hs y]
    dsimp only at h ⊢
    rw [drop_more y (by omega : m.toNat ≤ l.length)]
    by_cases h45 : (l.drop m.toNat).head? = some 45
    · have hnn : l.drop m.toNat ≠ [] := fun e => by rw [e] at h45; cases h45
      rw [if_pos h45] at h
      rw [if_pos (by rw [head_more hnn]; exact h45)]
      have hlen : m.toNat + 1 ≤ l.length := by
        have : (l.drop m.toNat).length ≠ 0 := fun e => hnn (List.eq_nil_of_length_eq_zero e)
        rw [List.length_drop] at this
        omega
      rw [drop_more y hlen]
      cases hs2 : signD (l.drop (m.toNat + 1)) with
      | none => rw [hs2] at h; cases h
      | some r2 =>
        obtain ⟨c2, m2⟩ := r2
        rw [hs2] at h
        rw [sign_more hs2 y]
        exact h
    · rw [if_neg h45] at h
      cases h
      rw [if_neg (by rw [head_more hne]; exact h45)]
theorem listed_app {y : List UInt8} : ∀ (m : Nat) (l : List UInt8), l.length ≤ m → ∀ (K : Cl) (pos : Nat) (R : Cl × Nat), listedD l K pos = some R → listedD (l ++ y) K pos = some R := by
  intro m
  induction m with
  | zero =>
    intro l hl K pos R h
    rw [List.eq_nil_of_length_eq_zero (Nat.le_zero.1 hl)] at h
    rw [listed_none rfl] at h
    cases h
  | succ m ih =>
    intro l hl K pos R h
    cases hi : itemD l with
    | none => rw [listed_none hi] at h; cases h
    | some r =>
      obtain ⟨a, b, n⟩ := r
      have hu := itemD_used hi
      have hne : l.drop n ≠ [] := fun e => by
        rw [listed_more hi (by rw [e]; simp), e, listed_none rfl] at h
        cases h
      have hi2 := item_more hi hne y
      have hd : (l ++ y).drop n = l.drop n ++ y := drop_more y hu.2.1
      by_cases he : (l.drop n).head? = some 93
      · rw [listed_end hi he] at h
        rw [listed_end hi2 (by rw [hd, head_more hne]; exact he)]
        exact h
      · rw [listed_more hi he] at h
        rw [listed_more hi2 (by rw [hd, head_more hne]; exact he), hd]
        exact ih _ (by rw [List.length_drop]; omega) _ _ _ h
theorem read_app {l : List UInt8} {R : Cl × Nat} (h : readD l = some R) (y : List UInt8) : readD (l ++ y) = some R := by
  unfold readD at h ⊢
  by_cases h1 : l.head? = some 91
  · rw [if_pos h1] at h
    have hne : l ≠ [] := fun e => by rw [e] at h1; cases h1
    rw [if_pos (by rw [head_more hne]; exact h1)]
    have hl1 : 1 ≤ l.length := by
      cases l with
      | nil => exact absurd rfl hne
      | cons _ _ => simp
    by_cases h2 : l[1]? = some 94
    · have hl2 : 2 ≤ l.length := by
        by_cases h3 : 2 ≤ l.length
        · exact h3
        · rw [List.getElem?_eq_none (by omega)] at h2; cases h2
      rw [if_pos h2] at h
      rw [if_pos (by rw [List.getElem?_append_left (by omega)]; exact h2), drop_more y hl2]
      cases hr : listedD (l.drop 2) zeroK 2 with
      | none => rw [hr] at h; cases h
      | some r =>
        rw [hr] at h
        rw [listed_app _ _ (Nat.le_refl _) _ _ _ hr]
        exact h
    · rw [if_neg h2] at h
      have hl2 : 2 ≤ l.length := by
        by_cases h3 : 2 ≤ l.length
        · exact h3
        · have h4 : l.drop 1 = [] := List.drop_eq_nil_of_le (by omega)
          rw [h4, listed_none rfl] at h
          cases h
      rw [if_neg (by rw [List.getElem?_append_left (by omega)]; exact h2), drop_more y hl1]
      exact listed_app _ _ (Nat.le_refl _) _ _ _ h
  · rw [if_neg h1] at h
    cases h
theorem list_more {l : List UInt8} {k : K4} {m : Nat} (h : listD l = some (k, m)) (y : List UInt8) : listD (l ++ y) = some (k, m) := by
  unfold listD at h ⊢
  cases hr : readD l with
  | some R => rw [hr] at h; rw [read_app hr y]; exact h
  | none =>
    rw [hr] at h
    dsimp only at h
    cases hs : signD l with
    | none => rw [hs] at h; cases h
    | some R =>
      obtain ⟨c, n⟩ := R
      rw [hs] at h
      have hr2 : readD (l ++ y) = none := by
        cases l with
        | nil => cases hs
        | cons a r =>
          have ha : a ≠ 91 := fun e => by
            subst e
            revert hs
            simp [signD, heldL]
          unfold readD
          rw [if_neg]
          simpa using ha
      rw [hr2, sign_more hs y]
      exact h

/-- What stands behind is nothing that goes on. -/
structure Fin' (y : List UInt8) : Prop where
  b : begins y = false
  s : signH y = none
  h : y.head? ≠ some 124
theorem fin41 (x : List UInt8) : Fin' (41 :: x) := ⟨rfl, rfl, by simp⟩
theorem begins_app {r y : List UInt8} (hy : begins y = false) (h : begins r = false) : begins (r ++ y) = false := by
  cases r with
  | nil => exact hy
  | cons c r => exact h
theorem begins_app1 {r : List UInt8} (y : List UInt8) (h : begins r = true) : begins (r ++ y) = true := by
  cases r with
  | nil => cases h
  | cons c r => exact h
theorem Ev.grows {J : Job} {d n : Nat} {l : List UInt8} {r : Res} (h : Ev J d n l r) : ∀ t l', r = .ok t l' → ∀ a, (J = .allL a ∨ J = .catL a ∨ J = .pieceL a) → a.size ≤ t.size := by
  induction h with
  | allL_end _ => intro t l' e a ha; cases e; rcases ha with h | h | h <;> cases h; exact Nat.le_refl _
  | @allL_more a _ _ _ b _ _ _ _ _ _ ih =>
    intro t l' e a' ha
    rcases ha with h | h | h <;> cases h
    have e2 : a.size + b.size + 1 ≤ t.size := ih _ _ e _ (.inl rfl)
    omega
  | catL_end _ => intro t l' e a ha; cases e; rcases ha with h | h | h <;> cases h; exact Nat.le_refl _
  | @catL_more a _ _ _ b _ _ _ _ _ _ _ ih =>
    intro t l' e a' ha
    rcases ha with h | h | h <;> cases h
    have e2 : a.size + b.size + 1 ≤ t.size := ih _ _ e _ (.inr (.inl rfl))
    omega
  | pieceL_end _ => intro t l' e a ha; cases e; rcases ha with h | h | h <;> cases h; exact Nat.le_refl _
  | @pieceL_more a _ _ _ _ _ _ _ _ _ ih =>
    intro t l' e a' ha
    rcases ha with h | h | h <;> cases h
    have e2 : a.size + 1 ≤ t.size := ih _ _ e _ (.inr (.inr rfl))
    omega
  | _ => intro t l' e a ha; first | (cases e; done) | (rcases ha with h | h | h <;> cases h)
theorem Ev.more {J : Job} {d n : Nat} {l : List UInt8} {r : Res} (h : Ev J d n l r) : ∀ t l', r = .ok t l' → ∀ (y : List UInt8), Fin' y → ∀ d' n', d' ≤ 30 → n' + t.size ≤ 2000 → Bk J d' n' (l ++ y) (.ok t (l' ++ y)) := by
  induction h with
  | all_ok h1 h2 ih1 ih2 =>
    intro t l' e y hy d' n' hd hn
    subst e
    have hg := h2.grows _ _ rfl _ (.inl rfl)
    rcases ih1 _ _ rfl y hy d' n' hd (by omega) with k1 | k1
    · rcases ih2 _ _ rfl y hy d' n' hd hn with k2 | k2
      · exact .inl (.all_ok k1 k2)
      · exact .inr (.all_ok k1 k2)
    · exact .inr (.all_bad k1)
  | @allL_end a d n l hh =>
    intro t l' e y hy d' n' hd hn
    cases e
    refine .inl (.allL_end ?_)
    cases l with
    | nil => exact hy.h
    | cons c l => exact hh
  | @allL_more a d n l b l2 r h1 hb h2 ih1 ih2 =>
    intro t l' e y hy d' n' hd hn
    subst e
    have hg := h2.grows _ _ rfl _ (.inl rfl)
    have hg : a.size + b.size + 1 ≤ t.size := hg
    rcases ih1 _ _ rfl y hy d' (n' + a.size) hd (by omega) with k1 | k1
    · rcases ih2 _ _ rfl y hy d' n' hd hn with k2 | k2
      · exact .inl (.allL_more k1 (by omega) k2)
      · exact .inr (.allL_more k1 (by omega) k2)
    · exact .inr (.allL_bad k1)
  | cat_none hb hn0 =>
    intro t l' e y hy d' n' hd hn
    cases e
    have hn : n' + 1 ≤ 2000 := hn
    exact .inl (.cat_none (begins_app hy.b hb) (by omega))
  | cat_ok hb h1 h2 ih1 ih2 =>
    intro t l' e y hy d' n' hd hn
    subst e
    have hg := h2.grows _ _ rfl _ (.inr (.inl rfl))
    rcases ih1 _ _ rfl y hy d' n' hd (by omega) with k1 | k1
    · rcases ih2 _ _ rfl y hy d' n' hd hn with k2 | k2
      · exact .inl (.cat_ok (begins_app1 y hb) k1 k2)
      · exact .inr (.cat_ok (begins_app1 y hb) k1 k2)
    · exact .inr (.cat_bad (begins_app1 y hb) k1)
  | catL_end hb =>
    intro t l' e y hy d' n' hd hn
    cases e
    exact .inl (.catL_end (begins_app hy.b hb))
  | @catL_more a d n l b l2 r hb h1 hs h2 ih1 ih2 =>
    intro t l' e y hy d' n' hd hn
    subst e
    have hg := h2.grows _ _ rfl _ (.inr (.inl rfl))
    have hg : a.size + b.size + 1 ≤ t.size := hg
    rcases ih1 _ _ rfl y hy d' (n' + a.size) hd (by omega) with k1 | k1
    · rcases ih2 _ _ rfl y hy d' n' hd hn with k2 | k2
      · exact .inl (.catL_more (begins_app1 y hb) k1 (by omega) k2)
      · exact .inr (.catL_more (begins_app1 y hb) k1 (by omega) k2)
    · exact .inr (.catL_bad (begins_app1 y hb) k1)
  | piece_ok h1 h2 ih1 ih2 =>
    intro t l' e y hy d' n' hd hn
    subst e
    have hg := h2.grows _ _ rfl _ (.inr (.inr rfl))
    rcases ih1 _ _ rfl y hy d' n' hd (by omega) with k1 | k1
    · rcases ih2 _ _ rfl y hy d' n' hd hn with k2 | k2
      · exact .inl (.piece_ok k1 k2)
      · exact .inr (.piece_ok k1 k2)
    · exact .inr (.piece_bad k1)
  | @pieceL_end a d n l hs =>
    intro t l' e y hy d' n' hd hn
    cases e
    refine .inl (.pieceL_end ?_)
    cases l with
    | nil => exact hy.s
    | cons c l => exact hs
  | @pieceL_more a d n c l j r hs hb h2 ih2 =>
    intro t l' e y hy d' n' hd hn
    subst e
    have hg := h2.grows _ _ rfl _ (.inr (.inr rfl))
    have hg : a.size + 1 ≤ t.size := hg
    rcases ih2 _ _ rfl y hy d' n' hd hn with k2 | k2
    · exact .inl (.pieceL_more hs (by omega) k2)
    · exact .inr (.pieceL_more hs (by omega) k2)
  | @atom_ok d n l t0 l0 hd0 h1 ih =>
    intro t l' e y hy d' n' hd hn
    cases e
    by_cases h30 : d' = 30
    · exact .inr (.atom_deep h30)
    · rcases ih _ _ rfl y hy (d' + 1) n' (by omega) hn with k | k
      · exact .inl (.atom_ok (by omega) k)
      · exact .inr (.atom_in (by omega) k)
  | atom_leaf hl hn0 =>
    intro t l' e y hy d' n' hd hn
    cases e
    have := (leaf_okK hl).2
    exact .inl (.atom_leaf hl (by omega))
  | @atom_set d n l k m h40 hb hD hn0 =>
    intro t l' e y hy d' n' hd hn
    cases e
    have hn : n' + 1 ≤ 2000 := hn
    have hm := listD_le hD
    have hne : l ≠ [] := fun e => by rw [e] at hm; simp at hm; omega
    rw [← drop_more y hm.2]
    exact .inl (.atom_set (by rw [head_more hne]; exact h40) (by rw [head_more hne]; exact hb) (list_more hD y) (by omega))
  | _ => intro t l' e; cases e
/-- A text in brackets, a choice of two texts in brackets. -/
theorem wrap_one {s : List UInt8} {S : Tr} (h : Ev .all 0 0 s (.ok S [])) (hS : S.size ≤ 2000) : Reads (40 :: (s ++ [41])) (.ok S []) ∨ Reads (40 :: (s ++ [41])) (.bad 7) := by
  have hb : begins (40 :: (s ++ [41])) = true := rfl
  rcases h.more _ _ rfl [41] (fin41 []) 1 0 (by omega) (by omega) with k | k
  · exact .inl (.ok (.all_ok (.cat_ok hb (.piece_ok (.atom_ok (by omega) k) (.pieceL_end rfl)) (.catL_end rfl)) (.allL_end (by simp))))
  · exact .inr (.bad (.all_bad (.cat_bad hb (.piece_bad (.atom_in (by omega) k)))))
theorem wrap_two {s t : List UInt8} {S T : Tr} (h : Ev .all 0 0 s (.ok S [])) (hT : Ev .all 0 0 t (.ok T [])) (hn : S.size + T.size < 2000) :
    Reads (40 :: (s ++ (41 :: 124 :: 40 :: (t ++ [41])))) (.ok (.two 3 S T) []) ∨ Reads (40 :: (s ++ (41 :: 124 :: 40 :: (t ++ [41])))) (.bad 7) := by
  have hb : begins (40 :: (s ++ (41 :: 124 :: 40 :: (t ++ [41])))) = true := rfl
  have hb2 : begins (40 :: (t ++ [41])) = true := rfl
  rcases h.more _ _ rfl (41 :: 124 :: 40 :: (t ++ [41])) (fin41 _) 1 0 (by omega) (by omega) with k | k
  · have kc : Ev .cat 0 0 (40 :: (s ++ (41 :: 124 :: 40 :: (t ++ [41])))) (.ok S (124 :: 40 :: (t ++ [41]))) := .cat_ok hb (.piece_ok (.atom_ok (by omega) k) (.pieceL_end rfl)) (.catL_end rfl)
    rcases hT.more _ _ rfl [41] (fin41 []) 1 (0 + S.size) (by omega) (by omega) with k2 | k2
    · exact .inl (.ok (.all_ok kc (.allL_more (.cat_ok hb2 (.piece_ok (.atom_ok (by omega) k2) (.pieceL_end rfl)) (.catL_end rfl)) (by omega) (.allL_end (by simp)))))
    · exact .inr (.bad (.all_ok kc (.allL_bad (.cat_bad hb2 (.piece_bad (.atom_in (by omega) k2))))))
  · exact .inr (.bad (.all_bad (.cat_bad hb (.piece_bad (.atom_in (by omega) k)))))
end Go.Proofs.Ytgokkdalfkinnaa
