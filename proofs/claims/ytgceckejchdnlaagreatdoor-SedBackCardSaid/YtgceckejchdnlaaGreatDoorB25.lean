/- Packed texts: ReMath, ReDet. What each of them proves stands above its theorems; the conditions stand in these. -/
import Derived.Laws.CopyOwn
import Derived.Test.YtgceckejchdnlaaGreatDoorB18
import Derived.Test.YtgceckejchdnlaaGreatDoorB19
import Derived.Test.YtgceckejchdnlaaGreatDoorB23
import Derived.Test.YtgceckejchdnlaaGreatDoorB24
namespace Go.Proofs.YtgceckejchdnlaaGreatDoor
open Go.RowKit Go.Lib

theorem right_row (t : Tr) (hok : t.ok) (hl : t.size ≤ 2000) : rightD (t.row 0) = true := by
  have h := run_row t hok 0 [] []
  rw [List.append_nil] at h
  unfold rightD
  rw [Tr.row_length, if_neg (by omega), h]
  rfl

/-- A job comes to something, and if to a tree, to a right one. -/
def Tot (J : Job) (d n : Nat) (l : List UInt8) : Prop := ∃ r, Ev J d n l r ∧ ∀ t l', r = .ok t l' → t.ok ∧ n + t.size ≤ 2000
theorem tot_bad {J : Job} {d n : Nat} {l : List UInt8} {e : Int} (h : Ev J d n l (.bad e)) : Tot J d n l := ⟨_, h, fun _ _ e => by cases e⟩
theorem tot_ok {J : Job} {d n : Nat} {l l' : List UInt8} {t : Tr} (h : Ev J d n l (.ok t l')) (hk : t.ok) (hs : n + t.size ≤ 2000) : Tot J d n l := ⟨_, h, fun _ _ e => by cases e; exact ⟨hk, hs⟩⟩
theorem sign_ok {c : UInt8} {j : Nat} (h : signK c = some j) : j = 4 ∨ j = 5 ∨ j = 6 := by rcases sign_some h with ⟨_, rfl⟩ | ⟨_, rfl⟩ | ⟨_, rfl⟩ <;> simp
theorem pieceL_tot (d n : Nat) : ∀ (l : List UInt8) (a : Tr), a.ok → n + a.size ≤ 2000 → Tot (.pieceL a) d n l
  | [], a, hk, hs => tot_ok (.pieceL_end rfl) hk hs
  | c :: l, a, hk, hs => by
    cases hc : signK c with
    | none => exact tot_ok (.pieceL_end hc) hk hs
    | some j =>
      by_cases hb : n + a.size < 2000
      · obtain ⟨r, h1, h2⟩ := pieceL_tot d n l (.rep j a) ⟨sign_ok hc, hk⟩ (by show n + (a.size + 1) ≤ 2000; omega)
        exact ⟨r, .pieceL_more hc hb h1, h2⟩
      · exact tot_bad (.pieceL_big hc (by omega))
theorem leaf_okK {c : UInt8} {t : Tr} (h : leafK c = some t) : t.ok ∧ t.size = 1 := by
  unfold leafK at h
  split at h
  · cases h; exact ⟨trivial, rfl⟩
  · split at h
    · cases h; exact ⟨.inr (.inl rfl), rfl⟩
    · split at h
      · cases h; exact ⟨.inr (.inr rfl), rfl⟩
      · cases h
theorem atom_tot (d n : Nat) (l : List UInt8) (hd : d ≤ 30) (hn : n ≤ 2000) (ih : ∀ l', l'.length < l.length → d < 30 → Tot .all (d + 1) n l') : Tot .atom d n l := by
  by_cases h40 : l.head? = some 40
  · cases l with
    | nil => cases h40
    | cons c l =>
      simp only [List.head?_cons, Option.some.injEq] at h40
      subst h40
      by_cases h30 : d = 30
      · exact tot_bad (.atom_deep h30)
      · obtain ⟨r, h1, h2⟩ := ih l (by simp) (by omega)
        cases r with
        | bad e => exact tot_bad (.atom_in (by omega) h1)
        | ok t l' =>
          obtain ⟨hk, hs⟩ := h2 _ _ rfl
          cases l' with
          | nil => exact tot_bad (.atom_open (by omega) h1 (by simp))
          | cons c' l' =>
            by_cases h41 : c' = 41
            · subst h41
              exact tot_ok (.atom_ok (by omega) h1) hk hs
            · exact tot_bad (.atom_open (by omega) h1 (by simpa using h41))
  · cases hl : l.head?.bind leafK with
    | some t =>
      cases l with
      | nil => cases hl
      | cons c l =>
        have hl : leafK c = some t := hl
        obtain ⟨hk, hs⟩ := leaf_okK hl
        by_cases hb : n < 2000
        · exact tot_ok (.atom_leaf hl hb) hk (by omega)
        · exact tot_bad (.atom_lbig hl (by omega))
    | none =>
      cases hD : listD l with
      | none => exact tot_bad (.atom_no h40 hl hD)
      | some r =>
        obtain ⟨k, m⟩ := r
        by_cases hb : n < 2000
        · exact tot_ok (.atom_set h40 hl hD hb) trivial (by show n + 1 ≤ 2000; omega)
        · exact tot_bad (.atom_sbig h40 hl hD (by omega))
theorem piece_tot {d n : Nat} {l : List UInt8} (h : Tot .atom d n l) : Tot .piece d n l := by
  obtain ⟨r, h1, h2⟩ := h
  cases r with
  | bad e => exact tot_bad (.piece_bad h1)
  | ok t l' =>
    obtain ⟨hk, hs⟩ := h2 _ _ rfl
    obtain ⟨r2, h3, h4⟩ := pieceL_tot d n l' t hk hs
    exact ⟨r2, .piece_ok h1 h3, h4⟩
theorem catL_tot (d n : Nat) : ∀ (m : Nat) (l : List UInt8), l.length ≤ m → (∀ n l', n ≤ 2000 → l'.length ≤ m → Tot .piece d n l') → ∀ a : Tr, a.ok → n + a.size ≤ 2000 → Tot (.catL a) d n l := by
  intro m
  induction m with
  | zero =>
    intro l hl hp a hk hs
    rw [List.eq_nil_of_length_eq_zero (Nat.le_zero.1 hl)]
    exact tot_ok (.catL_end rfl) hk hs
  | succ m ih =>
    intro l hl hp a hk hs
    cases hb : begins l with
    | false => exact tot_ok (.catL_end hb) hk hs
    | true =>
      obtain ⟨r, h1, h2⟩ := hp (n + a.size) l hs hl
      cases r with
      | bad e => exact tot_bad (.catL_bad hb h1)
      | ok b l' =>
        obtain ⟨hkb, hsb⟩ := h2 _ _ rfl
        have hlt := h1.lt (.inr rfl) _ _ rfl
        by_cases hbig : n + a.size + b.size < 2000
        · obtain ⟨r2, h3, h4⟩ := ih l' (by omega) (fun n l'' hn hl'' => hp n l'' hn (by omega)) (.two 2 a b) ⟨.inl rfl, hk, hkb⟩ (by show n + (a.size + b.size + 1) ≤ 2000; omega)
          exact ⟨r2, .catL_more hb h1 hbig h3, h4⟩
        · exact tot_bad (.catL_big hb h1 (by omega))
theorem cat_tot (d n : Nat) (l : List UInt8) (hn : n ≤ 2000) (hp : ∀ n l', n ≤ 2000 → l'.length ≤ l.length → Tot .piece d n l') : Tot .cat d n l := by
  cases hb : begins l with
  | false =>
    by_cases h : n < 2000
    · exact tot_ok (.cat_none hb h) (.inl rfl) (by show n + 1 ≤ 2000; omega)
    · exact tot_bad (.cat_nbig hb (by omega))
  | true =>
    obtain ⟨r, h1, h2⟩ := hp n l hn (Nat.le_refl _)
    cases r with
    | bad e => exact tot_bad (.cat_bad hb h1)
    | ok t l' =>
      obtain ⟨hk, hs⟩ := h2 _ _ rfl
      have hle := h1.le _ _ rfl
      obtain ⟨r2, h3, h4⟩ := catL_tot d n l'.length l' (Nat.le_refl _) (fun n l'' hn hl'' => hp n l'' hn (by omega)) t hk hs
      exact ⟨r2, .cat_ok hb h1 h3, h4⟩
theorem allL_tot (d n : Nat) : ∀ (m : Nat) (l : List UInt8), l.length ≤ m → (∀ n l', n ≤ 2000 → l'.length ≤ m → Tot .cat d n l') → ∀ a : Tr, a.ok → n + a.size ≤ 2000 → Tot (.allL a) d n l := by
  intro m
  induction m with
  | zero =>
    intro l hl hp a hk hs
    rw [List.eq_nil_of_length_eq_zero (Nat.le_zero.1 hl)]
    exact tot_ok (.allL_end (by simp)) hk hs
  | succ m ih =>
    intro l hl hp a hk hs
    by_cases hh : l.head? = some 124
    · cases l with
      | nil => cases hh
      | cons c l =>
        simp only [List.head?_cons, Option.some.injEq] at hh
        subst hh
        rw [List.length_cons] at hl
        obtain ⟨r, h1, h2⟩ := hp (n + a.size) l hs (by omega)
        cases r with
        | bad e => exact tot_bad (.allL_bad h1)
        | ok b l' =>
          obtain ⟨hkb, hsb⟩ := h2 _ _ rfl
          have hle := h1.le _ _ rfl
          by_cases hbig : n + a.size + b.size < 2000
          · obtain ⟨r2, h3, h4⟩ := ih l' (by omega) (fun n l'' hn hl'' => hp n l'' hn (by omega)) (.two 3 a b) ⟨.inr rfl, hk, hkb⟩ (by show n + (a.size + b.size + 1) ≤ 2000; omega)
            exact ⟨r2, .allL_more h1 hbig h3, h4⟩
          · exact tot_bad (.allL_big h1 (by omega))
    · exact tot_ok (.allL_end hh) hk hs
theorem all_tot : ∀ (m d n : Nat) (l : List UInt8), l.length ≤ m → d ≤ 30 → n ≤ 2000 → Tot .all d n l := by
  intro m
  induction m using Nat.strongRecOn with
  | ind m ih =>
    intro d n l hl hd hn
    have hp : ∀ n l', n ≤ 2000 → l'.length ≤ m → Tot .piece d n l' := fun n l' hn hl' => piece_tot (atom_tot d n l' hd hn fun l'' hl'' hd30 => ih l''.length (by omega) (d + 1) n l'' (Nat.le_refl _) (by omega) hn)
    have hc : ∀ n l', n ≤ 2000 → l'.length ≤ m → Tot .cat d n l' := fun n l' hn hl' => cat_tot d n l' hn fun n l'' hn hl'' => hp n l'' hn (by omega)
    obtain ⟨r, h1, h2⟩ := hc n l hn hl
    cases r with
    | bad e => exact tot_bad (.all_bad h1)
    | ok t l' =>
      obtain ⟨hk, hs⟩ := h2 _ _ rfl
      have hle := h1.le _ _ rfl
      obtain ⟨r2, h3, h4⟩ := allL_tot d n l'.length l' (Nat.le_refl _) (fun n l'' hn hl'' => hc n l'' hn (by omega)) t hk hs
      exact ⟨r2, .all_ok h1 h3, h4⟩
/-- Each text comes to something. -/
theorem reads_tot (l : List UInt8) : ∃ r, Reads l r ∧ ∀ t l', r = .ok t l' → Ev .all 0 0 l (.ok t []) ∧ t.ok ∧ t.size ≤ 2000 := by
  obtain ⟨r, h1, h2⟩ := all_tot l.length 0 0 l (Nat.le_refl _) (by omega) (by omega)
  cases r with
  | bad e => exact ⟨_, .bad h1, fun _ _ e => by cases e⟩
  | ok t l' =>
    cases l' with
    | nil =>
      obtain ⟨hk, hs⟩ := h2 _ _ rfl
      exact ⟨_, .ok h1, fun _ _ e => by cases e; exact ⟨h1, hk, by omega⟩⟩
    | cons c l' => exact ⟨_, .more h1, fun _ _ e => by cases e⟩
end Go.Proofs.YtgceckejchdnlaaGreatDoor
namespace Go.Proofs.YtgceckejchdnlaaGreatDoor
open Go.RowKit Go.Lib

theorem signH_cons (c : UInt8) (l : List UInt8) : signH (c :: l) = signK c := rfl
theorem leafK_40 : leafK 40 = none := rfl
theorem ev_det {J : Job} {d n : Nat} {l : List UInt8} {r : Res} (h : Ev J d n l r) : ∀ r', Ev J d n l r' → r' = r := by
  induction h <;> intro r' h' <;> cases h' <;> grind [signH_cons, leafK_40, Option.bind]
theorem reads_det {l : List UInt8} {r r' : Res} (h : Reads l r) (h' : Reads l r') : r' = r := by
  cases h with
  | ok h => cases h' with
    | ok h' => have := ev_det h _ h'; exact this
    | bad h' => have := ev_det h _ h'; cases this
    | more h' => have := ev_det h _ h'; cases this
  | bad h => cases h' with
    | ok h' => have := ev_det h _ h'; cases this
    | bad h' => have := ev_det h _ h'; exact this
    | more h' => have := ev_det h _ h'; cases this
  | more h => cases h' with
    | ok h' => have := ev_det h _ h'; cases this
    | bad h' => have := ev_det h _ h'; cases this
    | more h' => rfl
/-- What a text comes to, as a function. -/
noncomputable def reR (l : List UInt8) : Res := Classical.choose (reads_tot l)
theorem reR_reads (l : List UInt8) : Reads l (reR l) := (Classical.choose_spec (reads_tot l)).1
theorem reR_ok (p : List UInt8) (t : Tr) (l : List UInt8) (h : reR p = .ok t l) : t.ok ∧ t.size ≤ 2000 := by
  have := (Classical.choose_spec (reads_tot p)).2 t l h
  exact this.2
theorem reR_of {l : List UInt8} {r : Res} (h : Reads l r) : reR l = r := reads_det h (reR_reads l)
end Go.Proofs.YtgceckejchdnlaaGreatDoor
