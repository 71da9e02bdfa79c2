/- Packed texts: SeMath, SeScr, ReMath, ReDet. What each of them proves stands above its theorems; the conditions stand in these. -/
import Derived.Laws.CopyOwn
import Derived.Laws.StructEq
import Derived.WalkLawsBesides
import Derived.WalkSpells
import Derived.Test.YtkgpnlldlekcbaaGreatDoorX0
import Derived.Test.YtkgpnlldlekcbaaGreatDoorX3
import Derived.Test.YtkgpnlldlekcbaaGreatDoorX13
import Derived.Test.YtkgpnlldlekcbaaGreatDoorX20
namespace Go.Proofs.YtkgpnlldlekcbaaGreatDoor
open Go.RowKit Go.Lib

theorem partL_47 (l : List UInt8) : partL (47 :: l) = some ([], l) := by unfold partL; rw [if_pos rfl]
theorem partL_esc (d : UInt8) (l : List UInt8) : partL (92 :: d :: l) = (partL l).map fun p => (92 :: d :: p.1, p.2) := by
  rw [partL.eq_def]
  dsimp only
  rw [if_neg (by decide), if_pos rfl]
theorem partL_92 : partL [92] = none := by
  rw [partL.eq_def]
  dsimp only
  rw [if_neg (by decide), if_pos rfl]
theorem partL_other {c : UInt8} (l : List UInt8) (h1 : c ≠ 47) (h2 : c ≠ 92) : partL (c :: l) = (partL l).map fun p => (c :: p.1, p.2) := by
  rw [partL.eq_def]
  dsimp only
  rw [if_neg h1, if_neg h2]
theorem got_bind {α β : Type} {x : Got α} {f : α → List UInt8 → Got β} {b : β} {r : List UInt8} (h : x.bind f = .ok b r) : ∃ a l, x = .ok a l ∧ f a l = .ok b r := by
  cases x with
  | ok a l => exact ⟨a, l, rfl, h⟩
  | bad e => cases h
end Go.Proofs.YtkgpnlldlekcbaaGreatDoor
namespace Go.Proofs.YtkgpnlldlekcbaaGreatDoor
open Go.RowKit Go.Lib

theorem partL_len : ∀ (l p r : List UInt8), partL l = some (p, r) → r.length < l.length
  | [], _, _, h => by cases h
  | c :: l, p, r, h => by
    unfold partL at h
    by_cases h1 : c = 47
    · rw [if_pos h1] at h; cases h; simp
    · rw [if_neg h1] at h
      by_cases h2 : c = 92
      · rw [if_pos h2] at h
        cases l with
        | nil => cases h
        | cons d l' =>
          dsimp only at h
          cases hp : partL l' with
          | none => rw [hp] at h; cases h
          | some q =>
            obtain ⟨q1, q2⟩ := q
            have := partL_len l' q1 q2 hp
            rw [hp] at h
            cases h
            simp only [List.length_cons]
            omega
      · rw [if_neg h2] at h
        cases hp : partL l with
        | none => rw [hp] at h; cases h
        | some q =>
          obtain ⟨q1, q2⟩ := q
          have := partL_len l q1 q2 hp
          rw [hp] at h
          cases h
          simp only [List.length_cons]
          omega
theorem treeP_len {R : List UInt8 → Res} {l r : List UInt8} {t : Tr} (h : treeP R l = .ok t r) : r.length < l.length := by
  unfold treeP at h
  cases hp : partL l with
  | none => rw [hp] at h; cases h
  | some q =>
    obtain ⟨p, r'⟩ := q
    have := partL_len l p r' hp
    rw [hp] at h
    dsimp only at h
    cases hR : R p with
    | ok t' l' => rw [hR] at h; cases h; exact this
    | bad e => rw [hR] at h; cases h
theorem putP_len {l r : List UInt8} {ys : List (List UInt8)} (h : putP l = .ok ys r) : r.length < l.length := by
  unfold putP at h
  cases hp : partL l with
  | none => rw [hp] at h; cases h
  | some q =>
    obtain ⟨p, r'⟩ := q
    have := partL_len l p r' hp
    rw [hp] at h
    dsimp only at h
    cases hR : readD' p with
    | some t' => rw [hR] at h; cases h; exact this
    | none => rw [hR] at h; cases h
theorem adP_len {R : List UInt8 → Res} {l r : List UInt8} {a : Ad} (h : adP R l = .ok a r) : r.length ≤ l.length := by
  cases l with
  | nil => cases h; exact Nat.le_refl _
  | cons c l =>
    unfold adP at h
    dsimp only at h
    split at h
    · cases h; simp
    · split at h
      · obtain ⟨t, r', ht, h⟩ := got_bind h
        have := treeP_len ht
        cases h
        simp only [List.length_cons]
        omega
      · split at h
        · obtain ⟨n, r', hn, h⟩ := got_bind h
          cases h
          unfold lineP at hn
          split at hn
          · cases hn; rw [List.length_drop]; omega
          · cases hn
        · cases h; exact Nat.le_refl _
theorem dw_len (p : UInt8 → Bool) : ∀ l : List UInt8, (l.dropWhile p).length ≤ l.length
  | [] => Nat.le_refl _
  | c :: l => by
    have := dw_len p l
    unfold List.dropWhile
    split <;> simp only [List.length_cons] <;> omega
theorem blk_len (l : List UInt8) : (blk l).length ≤ l.length := dw_len _ l
theorem secP_len {R : List UInt8 → Res} {a b : Ad} {l r : List UInt8} (h : secP R a l = .ok b r) : r.length ≤ l.length := by
  unfold secP at h
  split at h
  · obtain ⟨b', r', hb, h⟩ := got_bind h
    have := adP_len hb
    rw [List.length_tail] at this
    split at h
    · cases h
    · cases h; omega
  · cases h; exact Nat.le_refl _
theorem notL_len (l : List UInt8) : (notL l).length ≤ l.length := by
  unfold notL
  have h1 := blk_len l
  split
  · have := blk_len (blk l).tail
    rw [List.length_tail] at this
    omega
  · have := blk_len (blk l)
    omega
theorem labP_len {l r y : List UInt8} (h : labP l = .ok y r) : r.length < l.length := by
  cases l with
  | nil => cases h
  | cons c l =>
    unfold labP at h
    dsimp only at h
    split at h
    · cases h
      have := dw_len restOk l
      simp only [List.length_cons]
      omega
    · cases h
theorem flagP_len : ∀ (l : List UInt8) (a p : Bool), (flagP a p l).2.2.length ≤ l.length
  | [], _, _ => Nat.le_refl _
  | c :: l, a, p => by
    unfold flagP
    split
    · have := flagP_len l true p; simp only [List.length_cons]; omega
    · split
      · have := flagP_len l a true; simp only [List.length_cons]; omega
      · exact Nat.le_refl _
theorem letP_len {R : List UInt8 → Res} {a b : Ad} {neg : Bool} {l r : List UInt8} {c : Cm} (h : letP R a b neg l = .ok c r) : r.length < l.length := by
  cases l with
  | nil => cases h
  | cons o l =>
    unfold letP at h
    dsimp only at h
    simp only [List.length_cons]
    split at h
    · cases l with
      | nil => cases h
      | cons d l1 =>
        dsimp only at h
        split at h
        · obtain ⟨t, l2, ht, h⟩ := got_bind h
          obtain ⟨ys, l3, hy, h⟩ := got_bind h
          have h1 := treeP_len ht
          have h2 := putP_len hy
          cases h
          have h3 := flagP_len l3 false false
          simp only [List.length_cons]
          omega
        · cases h
    · have hb := blk_len l
      split at h
      · split at h
        · cases h; omega
        · obtain ⟨y, r', hy, h⟩ := got_bind h
          have := labP_len hy
          cases h; omega
      · split at h
        · split at h
          · obtain ⟨y, r', hy, h⟩ := got_bind h
            have := labP_len hy
            cases h; omega
          · cases h
        · split at h
          · cases h; omega
          · cases h
theorem comP_len {R : List UInt8 → Res} {l r : List UInt8} {c : Cm} (h : comP R l = .ok c r) : r.length < l.length := by
  unfold comP at h
  obtain ⟨a, l1, ha, h⟩ := got_bind h
  obtain ⟨b, l2, hb, h⟩ := got_bind h
  obtain ⟨c', l3, hc, h⟩ := got_bind h
  have h1 := adP_len ha
  have h2 := secP_len hb
  have h3 := letP_len hc
  have h4 := notL_len l2
  have h5 := blk_len l3
  split at h
  · cases h; omega
  · cases h
/-- What stands at a place, one step on. -/
def scrS (R : List UInt8 → Res) (go : List UInt8 → List Cm → All) (l : List UInt8) (cs : List Cm) : All :=
  match l with
  | [] => .ok cs
  | c :: l1 => if opensS.contains c = false then .bad 9 else if cs.length = 2000 then .bad 6 else
    match comP R (c :: l1) with
    | .ok d l2 => go l2 (cs ++ [d])
    | .bad e => .bad e
theorem scrP_eq (R : List UInt8 → Res) (f : Nat) (l : List UInt8) (cs : List Cm) : scrP R (f + 1) l cs = scrS R (scrP R f) (l.dropWhile sepS) cs := rfl
theorem scrP_fuel (R : List UInt8 → Res) : ∀ (f g : Nat) (l : List UInt8) (cs : List Cm), l.length < f → l.length < g → scrP R f l cs = scrP R g l cs
  | 0, _, _, _, h, _ => by omega
  | _ + 1, 0, _, _, _, h => by omega
  | f + 1, g + 1, l, cs, h1, h2 => by
    rw [scrP_eq, scrP_eq]
    have hd := dw_len sepS l
    cases hl : l.dropWhile sepS with
    | nil => rfl
    | cons c l1 =>
      rw [hl] at hd
      unfold scrS
      dsimp only
      split
      · rfl
      · split
        · rfl
        · cases hc : comP R (c :: l1) with
          | bad e => rfl
          | ok d l2 =>
            have := comP_len hc
            exact scrP_fuel R f g l2 _ (by omega) (by omega)
/-- All commands of a text, behind those that are there. -/
def scr (R : List UInt8 → Res) (l : List UInt8) (cs : List Cm) : All := scrP R (l.length + 1) l cs
theorem scr_eq (R : List UInt8 → Res) (l : List UInt8) (cs : List Cm) : scr R l cs = scrS R (scr R) (l.dropWhile sepS) cs := by
  have hd := dw_len sepS l
  unfold scr
  rw [scrP_eq]
  cases hl : l.dropWhile sepS with
  | nil => rfl
  | cons c l1 =>
    rw [hl] at hd
    unfold scrS
    dsimp only
    split
    · rfl
    · split
      · rfl
      · cases hc : comP R (c :: l1) with
        | bad e => rfl
        | ok d l2 =>
          have := comP_len hc
          exact scrP_fuel R _ _ l2 _ (by omega) (by omega)
theorem scrS_ok {R : List UInt8 → Res} {go : List UInt8 → List Cm → All} {l : List UInt8} {cs ds : List Cm} (h : scrS R go l cs = .ok ds) : (l = [] ∧ ds = cs) ∨ ∃ c l1 d l2, l = c :: l1 ∧ opensS.contains c = true ∧ cs.length ≠ 2000 ∧ comP R (c :: l1) = .ok d l2 ∧ go l2 (cs ++ [d]) = .ok ds := by
  cases l with
  | nil => cases h; exact .inl ⟨rfl, rfl⟩
  | cons c l1 =>
    right
    unfold scrS at h
    dsimp only at h
    split at h
    · cases h
    · rename_i h1
      split at h
      · cases h
      · rename_i h2
        cases hc : comP R (c :: l1) with
        | bad e => rw [hc] at h; cases h
        | ok d l2 => rw [hc] at h; exact ⟨c, l1, d, l2, rfl, by simpa using h1, h2, hc, h⟩
theorem scrS_more {R : List UInt8 → Res} {go : List UInt8 → List Cm → All} {c : UInt8} {l1 l2 : List UInt8} {cs : List Cm} {d : Cm} (h1 : opensS.contains c = true) (h2 : cs.length ≠ 2000) (h3 : comP R (c :: l1) = .ok d l2) : scrS R go (c :: l1) cs = go l2 (cs ++ [d]) := by
  unfold scrS
  dsimp only
  rw [if_neg (by rw [h1]; simp), if_neg h2, h3]
theorem scr_len {R : List UInt8 → Res} : ∀ (k : Nat) (l : List UInt8) (cs ds : List Cm), l.length = k → scr R l cs = .ok ds → cs.length ≤ ds.length ∧ ds.length ≤ cs.length + l.length := by
  intro k
  induction k using Nat.strongRecOn with
  | ind k ih =>
    intro l cs ds hk h
    rw [scr_eq] at h
    rcases scrS_ok h with ⟨he, rfl⟩ | ⟨c, l1, d, l2, he, h1, h2, h3, h4⟩
    · omega
    · have hd := dw_len sepS l
      rw [he] at hd
      have hl := comP_len h3
      have := ih l2.length (by omega) l2 _ _ rfl h4
      rw [List.length_append] at this
      simp only [List.length_cons, List.length_nil] at this
      simp only [List.length_cons] at hd hl
      omega
theorem readSd_of {R : List UInt8 → Res} {l : List UInt8} {cs : List Cm} (h : scr R l [] = .ok cs) : readSd R l = if boundD cs then .ok cs else .bad 8 := by
  unfold readSd
  have : scrP R (l.length + 1) l [] = .ok cs := h
  rw [this]
end Go.Proofs.YtkgpnlldlekcbaaGreatDoor
namespace Go.Proofs.YtkgpnlldlekcbaaGreatDoor
open Go.RowKit Go.Lib

/-- A job comes to something, and if to a tree, to a right one. -/
def Tot (J : Job) (d n : Nat) (l : List UInt8) : Prop := ∃ r, Ev J d n l r ∧ ∀ t l', r = .ok t l' → t.ok ∧ n + t.size ≤ 2000
theorem tot_bad {J : Job} {d n : Nat} {l : List UInt8} {e : Int} (h : Ev J d n l (.bad e)) : Tot J d n l := ⟨_, h, fun _ _ e => by cases e⟩
theorem tot_ok {J : Job} {d n : Nat} {l l' : List UInt8} {t : Tr} (h : Ev J d n l (.ok t l')) (hk : t.ok) (hs : n + t.size ≤ 2000) : Tot J d n l := ⟨_, h, fun _ _ e => by cases e; exact ⟨hk, hs⟩⟩
theorem sign_ok {c : UInt8} {j : Nat} (h : signK c = some j) : j = 4 ∨ j = 5 ∨ j = 6 := by rcases sign_some h with ⟨_, rfl⟩ | ⟨_, rfl⟩ | ⟨_, rfl⟩ <;> simp
theorem pieceL_tot (d n : Nat) : ∀ (l : List UInt8) (a : Tr), a.ok → n + a.size ≤ 2000 → Tot (.pieceL a) d n l
  | [], a, hk, hs => tot_ok (.pieceL_end rfl) hk hs
  | c :: l, a, hk, hs => by
    cases hc : signK c with
    | none => exact tot_ok (.pieceL_end hc) hk hs
    | some j =>
      by_cases hb : n + a.size < 2000
      · obtain ⟨r, h1, h2⟩ := pieceL_tot d n l (.rep j a) ⟨sign_ok hc, hk⟩ (by show n + (a.size + 1) ≤ 2000; omega)
        exact ⟨r, .pieceL_more hc hb h1, h2⟩
      · exact tot_bad (.pieceL_big hc (by omega))
theorem leaf_okK {c : UInt8} {t : Tr} (h : leafK c = some t) : t.ok ∧ t.size = 1 := by
  unfold leafK at h
  split at h
  · cases h; exact ⟨trivial, rfl⟩
  · split at h
    · cases h; exact ⟨.inr (.inl rfl), rfl⟩
    · split at h
      · cases h; exact ⟨.inr (.inr rfl), rfl⟩
      · cases h
theorem atom_tot (d n : Nat) (l : List UInt8) (hd : d ≤ 30) (hn : n ≤ 2000) (ih : ∀ l', l'.length < l.length → d < 30 → Tot .all (d + 1) n l') : Tot .atom d n l := by
  by_cases h40 : l.head? = some 40
  · cases l with
    | nil => cases h40
    | cons c l =>
      simp only [List.head?_cons, Option.some.injEq] at h40
      subst h40
      by_cases h30 : d = 30
      · exact tot_bad (.atom_deep h30)
      · obtain ⟨r, h1, h2⟩ := ih l (by simp) (by omega)
        cases r with
        | bad e => exact tot_bad (.atom_in (by omega) h1)
        | ok t l' =>
          obtain ⟨hk, hs⟩ := h2 _ _ rfl
          cases l' with
          | nil => exact tot_bad (.atom_open (by omega) h1 (by simp))
          | cons c' l' =>
            by_cases h41 : c' = 41
            · subst h41
              exact tot_ok (.atom_ok (by omega) h1) hk hs
            · exact tot_bad (.atom_open (by omega) h1 (by simpa using h41))
  · cases hl : l.head?.bind leafK with
    | some t =>
      cases l with
      | nil => cases hl
      | cons c l =>
        have hl : leafK c = some t := hl
        obtain ⟨hk, hs⟩ := leaf_okK hl
        by_cases hb : n < 2000
        · exact tot_ok (.atom_leaf hl hb) hk (by omega)
        · exact tot_bad (.atom_lbig hl (by omega))
    | none =>
      cases hD : listD l with
      | none => exact tot_bad (.atom_no h40 hl hD)
      | some r =>
        obtain ⟨k, m⟩ := r
        by_cases hb : n < 2000
        · exact tot_ok (.atom_set h40 hl hD hb) trivial (by show n + 1 ≤ 2000; omega)
        · exact tot_bad (.atom_sbig h40 hl hD (by omega))
theorem piece_tot {d n : Nat} {l : List UInt8} (h : Tot .atom d n l) : Tot .piece d n l := by
  obtain ⟨r, h1, h2⟩ := h
  cases r with
  | bad e => exact tot_bad (.piece_bad h1)
  | ok t l' =>
    obtain ⟨hk, hs⟩ := h2 _ _ rfl
    obtain ⟨r2, h3, h4⟩ := pieceL_tot d n l' t hk hs
    exact ⟨r2, .piece_ok h1 h3, h4⟩
theorem catL_tot (d n : Nat) : ∀ (m : Nat) (l : List UInt8), l.length ≤ m → (∀ n l', n ≤ 2000 → l'.length ≤ m → Tot .piece d n l') → ∀ a : Tr, a.ok → n + a.size ≤ 2000 → Tot (.catL a) d n l := by
  intro m
  induction m with
  | zero =>
    intro l hl hp a hk hs
    rw [List.eq_nil_of_length_eq_zero (Nat.le_zero.1 hl)]
    exact tot_ok (.catL_end rfl) hk hs
  | succ m ih =>
    intro l hl hp a hk hs
    cases hb : begins l with
    | false => exact tot_ok (.catL_end hb) hk hs
    | true =>
      obtain ⟨r, h1, h2⟩ := hp (n + a.size) l hs hl
      cases r with
      | bad e => exact tot_bad (.catL_bad hb h1)
      | ok b l' =>
        obtain ⟨hkb, hsb⟩ := h2 _ _ rfl
        have hlt := h1.lt (.inr rfl) _ _ rfl
        by_cases hbig : n + a.size + b.size < 2000
        · obtain ⟨r2, h3, h4⟩ := ih l' (by omega) (fun n l'' hn hl'' => hp n l'' hn (by omega)) (.two 2 a b) ⟨.inl rfl, hk, hkb⟩ (by show n + (a.size + b.size + 1) ≤ 2000; omega)
          exact ⟨r2, .catL_more hb h1 hbig h3, h4⟩
        · exact tot_bad (.catL_big hb h1 (by omega))
theorem cat_tot (d n : Nat) (l : List UInt8) (hn : n ≤ 2000) (hp : ∀ n l', n ≤ 2000 → l'.length ≤ l.length → Tot .piece d n l') : Tot .cat d n l := by
  cases hb : begins l with
  | false =>
    by_cases h : n < 2000
    · exact tot_ok (.cat_none hb h) (.inl rfl) (by show n + 1 ≤ 2000; omega)
    · exact tot_bad (.cat_nbig hb (by omega))
  | true =>
    obtain ⟨r, h1, h2⟩ := hp n l hn (Nat.le_refl _)
    cases r with
    | bad e => exact tot_bad (.cat_bad hb h1)
    | ok t l' =>
      obtain ⟨hk, hs⟩ := h2 _ _ rfl
      have hle := h1.le _ _ rfl
      obtain ⟨r2, h3, h4⟩ := catL_tot d n l'.length l' (Nat.le_refl _) (fun n l'' hn hl'' => hp n l'' hn (by omega)) t hk hs
      exact ⟨r2, .cat_ok hb h1 h3, h4⟩
theorem allL_tot (d n : Nat) : ∀ (m : Nat) (l : List UInt8), l.length ≤ m → (∀ n l', n ≤ 2000 → l'.length ≤ m → Tot .cat d n l') → ∀ a : Tr, a.ok → n + a.size ≤ 2000 → Tot (.allL a) d n l := by
  intro m
  induction m with
  | zero =>
    intro l hl hp a hk hs
    rw [List.eq_nil_of_length_eq_zero (Nat.le_zero.1 hl)]
    exact tot_ok (.allL_end (by simp)) hk hs
  | succ m ih =>
    intro l hl hp a hk hs
    by_cases hh : l.head? = some 124
    · cases l with
      | nil => cases hh
      | cons c l =>
        simp only [List.head?_cons, Option.some.injEq] at hh
        subst hh
        rw [List.length_cons] at hl
        obtain ⟨r, h1, h2⟩ := hp (n + a.size) l hs (by omega)
        cases r with
        | bad e => exact tot_bad (.allL_bad h1)
        | ok b l' =>
          obtain ⟨hkb, hsb⟩ := h2 _ _ rfl
          have hle := h1.le _ _ rfl
          by_cases hbig : n + a.size + b.size < 2000
          · obtain ⟨r2, h3, h4⟩ := ih l' (by omega) (fun n l'' hn hl'' => hp n l'' hn (by omega)) (.two 3 a b) ⟨.inr rfl, hk, hkb⟩ (by show n + (a.size + b.size + 1) ≤ 2000; omega)
            exact ⟨r2, .allL_more h1 hbig h3, h4⟩
          · exact tot_bad (.allL_big h1 (by omega))
    · exact tot_ok (.allL_end hh) hk hs
theorem all_tot : ∀ (m d n : Nat) (l : List UInt8), l.length ≤ m → d ≤ 30 → n ≤ 2000 → Tot .all d n l := by
  intro m
  induction m using Nat.strongRecOn with
  | ind m ih =>
    intro d n l hl hd hn
    have hp : ∀ n l', n ≤ 2000 → l'.length ≤ m → Tot .piece d n l' := fun n l' hn hl' => piece_tot (atom_tot d n l' hd hn fun l'' hl'' hd30 => ih l''.length (by omega) (d + 1) n l'' (Nat.le_refl _) (by omega) hn)
    have hc : ∀ n l', n ≤ 2000 → l'.length ≤ m → Tot .cat d n l' := fun n l' hn hl' => cat_tot d n l' hn fun n l'' hn hl'' => hp n l'' hn (by omega)
    obtain ⟨r, h1, h2⟩ := hc n l hn hl
    cases r with
    | bad e => exact tot_bad (.all_bad h1)
    | ok t l' =>
      obtain ⟨hk, hs⟩ := h2 _ _ rfl
      have hle := h1.le _ _ rfl
      obtain ⟨r2, h3, h4⟩ := allL_tot d n l'.length l' (Nat.le_refl _) (fun n l'' hn hl'' => hc n l'' hn (by omega)) t hk hs
      exact ⟨r2, .all_ok h1 h3, h4⟩
/-- Each text comes to something. -/
theorem reads_tot (l : List UInt8) : ∃ r, Reads l r ∧ ∀ t l', r = .ok t l' → Ev .all 0 0 l (.ok t []) ∧ t.ok ∧ t.size ≤ 2000 := by
  obtain ⟨r, h1, h2⟩ := all_tot l.length 0 0 l (Nat.le_refl _) (by omega) (by omega)
  cases r with
  | bad e => exact ⟨_, .bad h1, fun _ _ e => by cases e⟩
  | ok t l' =>
    cases l' with
    | nil =>
      obtain ⟨hk, hs⟩ := h2 _ _ rfl
      exact ⟨_, .ok h1, fun _ _ e => by cases e; exact ⟨h1, hk, by omega⟩⟩
    | cons c l' => exact ⟨_, .more h1, fun _ _ e => by cases e⟩
end Go.Proofs.YtkgpnlldlekcbaaGreatDoor
namespace Go.Proofs.YtkgpnlldlekcbaaGreatDoor
open Go.RowKit Go.Lib

/-- What a text comes to, as a function. -/
noncomputable def reR (l : List UInt8) : Res := Classical.choose (reads_tot l)
theorem reR_reads (l : List UInt8) : Reads l (reR l) := (Classical.choose_spec (reads_tot l)).1
end Go.Proofs.YtkgpnlldlekcbaaGreatDoor
