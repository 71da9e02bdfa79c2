/- Packed texts: SeMath, SeScr, ReKids. What each of them proves stands above its theorems; the conditions stand in these. -/
import Derived.Test.YtgceckejchdnlaaGreatDoorB3
import Derived.Test.YtgceckejchdnlaaGreatDoorB18
import Derived.Test.YtgceckejchdnlaaGreatDoorB19
import Derived.Test.YtgceckejchdnlaaGreatDoorB21
namespace Go.Proofs.YtgceckejchdnlaaGreatDoor
open Go.RowKit Go.Lib

/-- Texts that begin with what ends a command. -/
def Sep (x : List UInt8) : Prop := ∃ c r, x = c :: r ∧ (c = 59 ∨ c = 10)
theorem partL_47 (l : List UInt8) : partL (47 :: l) = some ([], l) := by unfold partL; rw [if_pos rfl]
theorem partL_esc (d : UInt8) (l : List UInt8) : partL (92 :: d :: l) = (partL l).map fun p => (92 :: d :: p.1, p.2) := by
  rw [partL.eq_def]
  dsimp only
  rw [if_neg (by decide), if_pos rfl]
theorem partL_92 : partL [92] = none := by
  rw [partL.eq_def]
  dsimp only
  rw [if_neg (by decide), if_pos rfl]
theorem partL_other {c : UInt8} (l : List UInt8) (h1 : c ≠ 47) (h2 : c ≠ 92) : partL (c :: l) = (partL l).map fun p => (c :: p.1, p.2) := by
  rw [partL.eq_def]
  dsimp only
  rw [if_neg h1, if_neg h2]
theorem tw_app (p : UInt8 → Bool) (c : UInt8) (r : List UInt8) (h : p c = false) : ∀ l : List UInt8, (l ++ c :: r).takeWhile p = l.takeWhile p ∧ (l ++ c :: r).dropWhile p = l.dropWhile p ++ c :: r
  | [] => by simp [h]
  | d :: l => by
    have := tw_app p c r h l
    cases hd : p d
    · simp [List.takeWhile, List.dropWhile, hd]
    · simp only [List.cons_append, List.takeWhile, List.dropWhile, hd, this.1, this.2]
      exact ⟨trivial, trivial⟩
theorem sep_not (p : UInt8 → Bool) (h1 : p 59 = false) (h2 : p 10 = false) {x : List UInt8} (hx : Sep x) (l : List UInt8) : (l ++ x).takeWhile p = l.takeWhile p ∧ (l ++ x).dropWhile p = l.dropWhile p ++ x := by
  obtain ⟨c, r, rfl, rfl | rfl⟩ := hx
  · exact tw_app p 59 r h1 l
  · exact tw_app p 10 r h2 l
theorem got_bind {α β : Type} {x : Got α} {f : α → List UInt8 → Got β} {b : β} {r : List UInt8} (h : x.bind f = .ok b r) : ∃ a l, x = .ok a l ∧ f a l = .ok b r := by
  cases x with
  | ok a l => exact ⟨a, l, rfl, h⟩
  | bad e => cases h
end Go.Proofs.YtgceckejchdnlaaGreatDoor
namespace Go.Proofs.YtgceckejchdnlaaGreatDoor
open Go.RowKit Go.Lib

theorem partL_len : ∀ (l p r : List UInt8), partL l = some (p, r) → r.length < l.length
  | [], _, _, h => by cases h
  | c :: l, p, r, h => by
    unfold partL at h
    by_cases h1 : c = 47
    · rw [if_pos h1] at h; cases h; simp
    · rw [if_neg h1] at h
      by_cases h2 : c = 92
      · rw [if_pos h2] at h
        cases l with
        | nil => cases h
        | cons d l' =>
          dsimp only at h
          cases hp : partL l' with
          | none => rw [hp] at h; cases h
          | some q =>
            obtain ⟨q1, q2⟩ := q
            have := partL_len l' q1 q2 hp
            rw [hp] at h
            cases h
            simp only [List.length_cons]
            omega
      · rw [if_neg h2] at h
        cases hp : partL l with
        | none => rw [hp] at h; cases h
        | some q =>
          obtain ⟨q1, q2⟩ := q
          have := partL_len l q1 q2 hp
          rw [hp] at h
          cases h
          simp only [List.length_cons]
          omega
theorem treeP_len {R : List UInt8 → Res} {l r : List UInt8} {t : Tr} (h : treeP R l = .ok t r) : r.length < l.length := by
  unfold treeP at h
  cases hp : partL l with
  | none => rw [hp] at h; cases h
  | some q =>
    obtain ⟨p, r'⟩ := q
    have := partL_len l p r' hp
    rw [hp] at h
    dsimp only at h
    cases hR : R p with
    | ok t' l' => rw [hR] at h; cases h; exact this
    | bad e => rw [hR] at h; cases h
theorem putP_len {l r : List UInt8} {ys : List (List UInt8)} (h : putP l = .ok ys r) : r.length < l.length := by
  unfold putP at h
  cases hp : partL l with
  | none => rw [hp] at h; cases h
  | some q =>
    obtain ⟨p, r'⟩ := q
    have := partL_len l p r' hp
    rw [hp] at h
    dsimp only at h
    cases hR : readD' p with
    | some t' => rw [hR] at h; cases h; exact this
    | none => rw [hR] at h; cases h
theorem adP_len {R : List UInt8 → Res} {l r : List UInt8} {a : Ad} (h : adP R l = .ok a r) : r.length ≤ l.length := by
  cases l with
  | nil => cases h; exact Nat.le_refl _
  | cons c l =>
    unfold adP at h
    dsimp only at h
    split at h
    · cases h; simp
    · split at h
      · obtain ⟨t, r', ht, h⟩ := got_bind h
        have := treeP_len ht
        cases h
        simp only [List.length_cons]
        omega
      · split at h
        · obtain ⟨n, r', hn, h⟩ := got_bind h
          cases h
          unfold lineP at hn
          split at hn
          · cases hn; rw [List.length_drop]; omega
          · cases hn
        · cases h; exact Nat.le_refl _
theorem dw_len (p : UInt8 → Bool) : ∀ l : List UInt8, (l.dropWhile p).length ≤ l.length
  | [] => Nat.le_refl _
  | c :: l => by
    have := dw_len p l
    unfold List.dropWhile
    split <;> simp only [List.length_cons] <;> omega
theorem blk_len (l : List UInt8) : (blk l).length ≤ l.length := dw_len _ l
theorem secP_len {R : List UInt8 → Res} {a b : Ad} {l r : List UInt8} (h : secP R a l = .ok b r) : r.length ≤ l.length := by
  unfold secP at h
  split at h
  · obtain ⟨b', r', hb, h⟩ := got_bind h
    have := adP_len hb
    rw [List.length_tail] at this
    split at h
    · cases h
    · cases h; omega
  · cases h; exact Nat.le_refl _
theorem notL_len (l : List UInt8) : (notL l).length ≤ l.length := by
  unfold notL
  have h1 := blk_len l
  split
  · have := blk_len (blk l).tail
    rw [List.length_tail] at this
    omega
  · have := blk_len (blk l)
    omega
theorem labP_len {l r y : List UInt8} (h : labP l = .ok y r) : r.length < l.length := by
  cases l with
  | nil => cases h
  | cons c l =>
    unfold labP at h
    dsimp only at h
    split at h
    · cases h
      have := dw_len restOk l
      simp only [List.length_cons]
      omega
    · cases h
theorem flagP_len : ∀ (l : List UInt8) (a p : Bool), (flagP a p l).2.2.length ≤ l.length
  | [], _, _ => Nat.le_refl _
  | c :: l, a, p => by
    unfold flagP
    split
    · have := flagP_len l true p; simp only [List.length_cons]; omega
    · split
      · have := flagP_len l a true; simp only [List.length_cons]; omega
      · exact Nat.le_refl _
theorem letP_len {R : List UInt8 → Res} {a b : Ad} {neg : Bool} {l r : List UInt8} {c : Cm} (h : letP R a b neg l = .ok c r) : r.length < l.length := by
  cases l with
  | nil => cases h
  | cons o l =>
    unfold letP at h
    dsimp only at h
    simp only [List.length_cons]
    split at h
    · cases l with
      | nil => cases h
      | cons d l1 =>
        dsimp only at h
        split at h
        · obtain ⟨t, l2, ht, h⟩ := got_bind h
          obtain ⟨ys, l3, hy, h⟩ := got_bind h
          have h1 := treeP_len ht
          have h2 := putP_len hy
          cases h
          have h3 := flagP_len l3 false false
          simp only [List.length_cons]
          omega
        · cases h
    · have hb := blk_len l
      split at h
      · split at h
        · cases h; omega
        · obtain ⟨y, r', hy, h⟩ := got_bind h
          have := labP_len hy
          cases h; omega
      · split at h
        · split at h
          · obtain ⟨y, r', hy, h⟩ := got_bind h
            have := labP_len hy
            cases h; omega
          · cases h
        · split at h
          · cases h; omega
          · cases h
theorem comP_len {R : List UInt8 → Res} {l r : List UInt8} {c : Cm} (h : comP R l = .ok c r) : r.length < l.length := by
  unfold comP at h
  obtain ⟨a, l1, ha, h⟩ := got_bind h
  obtain ⟨b, l2, hb, h⟩ := got_bind h
  obtain ⟨c', l3, hc, h⟩ := got_bind h
  have h1 := adP_len ha
  have h2 := secP_len hb
  have h3 := letP_len hc
  have h4 := notL_len l2
  have h5 := blk_len l3
  split at h
  · cases h; omega
  · cases h
/-- What stands at a place, one step on. -/
def scrS (R : List UInt8 → Res) (go : List UInt8 → List Cm → All) (l : List UInt8) (cs : List Cm) : All :=
  match l with
  | [] => .ok cs
  | c :: l1 => if opensS.contains c = false then .bad 9 else if cs.length = 2000 then .bad 6 else
    match comP R (c :: l1) with
    | .ok d l2 => go l2 (cs ++ [d])
    | .bad e => .bad e
theorem scrP_eq (R : List UInt8 → Res) (f : Nat) (l : List UInt8) (cs : List Cm) : scrP R (f + 1) l cs = scrS R (scrP R f) (l.dropWhile sepS) cs := rfl
theorem scrP_fuel (R : List UInt8 → Res) : ∀ (f g : Nat) (l : List UInt8) (cs : List Cm), l.length < f → l.length < g → scrP R f l cs = scrP R g l cs
  | 0, _, _, _, h, _ => by omega
  | _ + 1, 0, _, _, _, h => by omega
  | f + 1, g + 1, l, cs, h1, h2 => by
    rw [scrP_eq, scrP_eq]
    have hd := dw_len sepS l
    cases hl : l.dropWhile sepS with
    | nil => rfl
    | cons c l1 =>
      rw [hl] at hd
      unfold scrS
      dsimp only
      split
      · rfl
      · split
        · rfl
        · cases hc : comP R (c :: l1) with
          | bad e => rfl
          | ok d l2 =>
            have := comP_len hc
            exact scrP_fuel R f g l2 _ (by omega) (by omega)
/-- All commands of a text, behind those that are there. -/
def scr (R : List UInt8 → Res) (l : List UInt8) (cs : List Cm) : All := scrP R (l.length + 1) l cs
theorem scr_eq (R : List UInt8 → Res) (l : List UInt8) (cs : List Cm) : scr R l cs = scrS R (scr R) (l.dropWhile sepS) cs := by
  have hd := dw_len sepS l
  unfold scr
  rw [scrP_eq]
  cases hl : l.dropWhile sepS with
  | nil => rfl
  | cons c l1 =>
    rw [hl] at hd
    unfold scrS
    dsimp only
    split
    · rfl
    · split
      · rfl
      · cases hc : comP R (c :: l1) with
        | bad e => rfl
        | ok d l2 =>
          have := comP_len hc
          exact scrP_fuel R _ _ l2 _ (by omega) (by omega)
theorem scr_drop (R : List UInt8 → Res) (l m : List UInt8) (cs : List Cm) (h : l.dropWhile sepS = m.dropWhile sepS) : scr R l cs = scr R m cs := by rw [scr_eq, scr_eq R m, h]
theorem scrS_ok {R : List UInt8 → Res} {go : List UInt8 → List Cm → All} {l : List UInt8} {cs ds : List Cm} (h : scrS R go l cs = .ok ds) : (l = [] ∧ ds = cs) ∨ ∃ c l1 d l2, l = c :: l1 ∧ opensS.contains c = true ∧ cs.length ≠ 2000 ∧ comP R (c :: l1) = .ok d l2 ∧ go l2 (cs ++ [d]) = .ok ds := by
  cases l with
  | nil => cases h; exact .inl ⟨rfl, rfl⟩
  | cons c l1 =>
    right
    unfold scrS at h
    dsimp only at h
    split at h
    · cases h
    · rename_i h1
      split at h
      · cases h
      · rename_i h2
        cases hc : comP R (c :: l1) with
        | bad e => rw [hc] at h; cases h
        | ok d l2 => rw [hc] at h; exact ⟨c, l1, d, l2, rfl, by simpa using h1, h2, hc, h⟩
theorem scrS_more {R : List UInt8 → Res} {go : List UInt8 → List Cm → All} {c : UInt8} {l1 l2 : List UInt8} {cs : List Cm} {d : Cm} (h1 : opensS.contains c = true) (h2 : cs.length ≠ 2000) (h3 : comP R (c :: l1) = .ok d l2) : scrS R go (c :: l1) cs = go l2 (cs ++ [d]) := by
  unfold scrS
  dsimp only
  rw [if_neg (by rw [h1]; simp), if_neg h2, h3]
theorem scr_len {R : List UInt8 → Res} : ∀ (k : Nat) (l : List UInt8) (cs ds : List Cm), l.length = k → scr R l cs = .ok ds → cs.length ≤ ds.length ∧ ds.length ≤ cs.length + l.length := by
  intro k
  induction k using Nat.strongRecOn with
  | ind k ih =>
    intro l cs ds hk h
    rw [scr_eq] at h
    rcases scrS_ok h with ⟨he, rfl⟩ | ⟨c, l1, d, l2, he, h1, h2, h3, h4⟩
    · omega
    · have hd := dw_len sepS l
      rw [he] at hd
      have hl := comP_len h3
      have := ih l2.length (by omega) l2 _ _ rfl h4
      rw [List.length_append] at this
      simp only [List.length_cons, List.length_nil] at this
      simp only [List.length_cons] at hd hl
      omega
theorem readSd_ok {R : List UInt8 → Res} {l : List UInt8} {cs : List Cm} (h : readSd R l = .ok cs) : scr R l [] = .ok cs ∧ boundD cs = true := by
  unfold readSd at h
  show scrP R (l.length + 1) l [] = .ok cs ∧ _
  cases hs : scrP R (l.length + 1) l [] with
  | bad e => rw [hs] at h; cases h
  | ok ds =>
    rw [hs] at h
    dsimp only at h
    split at h
    · rename_i hb; cases h; exact ⟨rfl, hb⟩
    · cases h
theorem readSd_of {R : List UInt8 → Res} {l : List UInt8} {cs : List Cm} (h : scr R l [] = .ok cs) : readSd R l = if boundD cs then .ok cs else .bad 8 := by
  unfold readSd
  have : scrP R (l.length + 1) l [] = .ok cs := h
  rw [this]
end Go.Proofs.YtgceckejchdnlaaGreatDoor
namespace Go.Proofs.YtgceckejchdnlaaGreatDoor
open Go.RowKit Go.Lib

set_option maxHeartbeats 1000000 in
set_option maxRecDepth 20000 in
theorem kids_any (k : Int) (w : World) : Calls Tryz.prog 70 #[.int .i64 k] w fun e w' => e = .returned (.int .i64 (kidsN k)) ∧ w' = w := by
  rcases kinds_cases k with rfl | rfl | rfl | rfl | rfl | rfl | rfl | rfl | rfl | ⟨h0, h1, h2, h3, h4, h5, h6, h7, h8, hk⟩
  case inr.inr.inr.inr.inr.inr.inr.inr.inr =>
    rw [hk]
    clear hk
    go_enter Tryz.func70, Tryz.ntmps70
    go_wp2
    exact bodyPost_ret (results_tmp rfl _ _ _) rfl ⟨rfl, rfl⟩
  all_goals
    go_enter Tryz.func70, Tryz.ntmps70
    go_wp2
    exact bodyPost_ret (results_tmp rfl _ _ _) rfl ⟨rfl, rfl⟩

theorem IsRow.lies {B : Nat} {ts : List Nd} {v : Value} {w : World} (h : IsRow B ts v w) (hl : ts.length ≤ 140737488355328) : Lies v ts w := by
  obtain ⟨ao, cap, hv⟩ := isRow_slice h
  refine ⟨ao, cap, hv, hl, fun j n hj => ?_⟩
  rcases h.2 with ⟨_, h0⟩ | ⟨g, cap', cur, hv', hB, hg, _, _, _, htk⟩
  · rw [List.eq_nil_of_length_eq_zero h0] at hj; simp at hj
  · rw [hv] at hv'
    cases hv'
    refine ⟨g, 0, rfl, block_lt hg, ?_⟩
    have hjl : j < ts.length := by
      by_cases hlt : j < ts.length
      · exact hlt
      · rw [List.getElem?_eq_none (by omega)] at hj; cases hj
    have e : ∀ i, i < 7 → w.cell? ⟨g, 0 + j * 7 + i, none⟩ = n.cells[i]? := fun i hi => by
      rw [cell_of_heap hg, ← ndC_get ts j i n hj hi, ← htk, List.getElem?_take_of_lt (by omega)]
      simp
    refine ⟨e 0 (by omega), e 1 (by omega), e 2 (by omega), e 3 (by omega), e 4 (by omega), e 5 (by omega), e 6 (by omega)⟩
end Go.Proofs.YtgceckejchdnlaaGreatDoor
