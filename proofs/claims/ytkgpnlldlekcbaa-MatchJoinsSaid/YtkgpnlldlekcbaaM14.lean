/- Packed texts: MaInv. What each of them proves stands above its theorems; the conditions stand in these. -/
import Derived.Test.YtkgpnlldlekcbaaM12
import Derived.Test.YtkgpnlldlekcbaaM13
namespace Go.Proofs.Ytkgpnlldlekcbaa
open Go.RowKit Go.Lib

def setT (T : Nat → Bool) (p : Nat) : Nat → Bool := fun q => if q = p then true else T q
theorem setM_at (M : Nat → Nat → Bool) (g p : Nat) : setM M g p g p = true := by unfold setM; rw [if_pos ⟨rfl, rfl⟩]
theorem setM_keep {M : Nat → Nat → Bool} {g p h q : Nat} (hm : M h q = true) : setM M g p h q = true := by
  unfold setM
  split
  · rfl
  · exact hm
theorem setM_new {M : Nat → Nat → Bool} {g p h q : Nat} (hm : setM M g p h q = true) : M h q = true ∨ (h = g ∧ q = p) := by
  unfold setM at hm
  split at hm
  · rename_i e; exact .inr e
  · exact .inl hm
theorem mks_keep : ∀ (l : List (Nat × Nat)) (S : (Nat → Nat → Bool) × List (Nat × Nat)) (g p : Nat), S.1 g p = true → (mks l S).1 g p = true
  | [], _, _, _, h => h
  | _q :: r, _S, g, p, h => mks_keep r _ g p (setM_keep h)
theorem mks_all : ∀ (l : List (Nat × Nat)) (S : (Nat → Nat → Bool) × List (Nat × Nat)), ∀ q ∈ l, (mks l S).1 q.1 q.2 = true
  | [], _, _, h => by simp at h
  | x :: r, S, q, h => by
    rcases List.mem_cons.1 h with rfl | h
    · exact mks_keep r _ _ _ (setM_at _ _ _)
    · exact mks_all r _ q h
theorem mks_new : ∀ (l : List (Nat × Nat)) (S : (Nat → Nat → Bool) × List (Nat × Nat)) (g p : Nat), (mks l S).1 g p = true → S.1 g p = true ∨ (g, p) ∈ l
  | [], _, _, _, h => .inl h
  | x :: r, S, g, p, h => by
    rcases mks_new r _ g p h with h | h
    · rcases setM_new h with h | ⟨rfl, rfl⟩
      · exact .inl h
      · exact .inr (List.mem_cons_self)
    · exact .inr (List.mem_cons_of_mem _ h)
theorem mks_sub : ∀ (l : List (Nat × Nat)) (S : (Nat → Nat → Bool) × List (Nat × Nat)), ∀ q ∈ S.2, q ∈ (mks l S).2
  | [], _, _, h => h
  | x :: r, S, q, h => mks_sub r _ q (by
    dsimp only
    split
    · exact h
    · exact List.mem_append_left _ h)
theorem mks_fresh : ∀ (l : List (Nat × Nat)) (S : (Nat → Nat → Bool) × List (Nat × Nat)) (g p : Nat), (mks l S).1 g p = true → S.1 g p = true ∨ (g, p) ∈ (mks l S).2
  | [], _, _, _, h => .inl h
  | x :: r, S, g, p, h => by
    rcases mks_fresh r _ g p h with h2 | h2
    · rcases setM_new h2 with h3 | ⟨rfl, rfl⟩
      · exact .inl h3
      · by_cases hS : S.1 x.1 x.2 = true
        · exact .inl hS
        · refine .inr (mks_sub r _ _ ?_)
          dsimp only
          rw [if_neg hS]
          exact List.mem_append_right _ (List.mem_singleton.2 rfl)
    · exact .inr h2
theorem mks_old : ∀ (l : List (Nat × Nat)) (S : (Nat → Nat → Bool) × List (Nat × Nat)), ∀ q ∈ (mks l S).2, q ∈ S.2 ∨ (S.1 q.1 q.2 = false ∧ (mks l S).1 q.1 q.2 = true)
  | [], _, _, h => .inl h
  | x :: r, S, q, h => by
    rcases mks_old r _ q h with h2 | ⟨h2, h3⟩
    · dsimp only at h2
      by_cases hS : S.1 x.1 x.2 = true
      · rw [if_pos hS] at h2
        exact .inl h2
      · rw [if_neg hS] at h2
        rcases List.mem_append.1 h2 with h4 | h4
        · exact .inl h4
        · obtain rfl := List.mem_singleton.1 h4
          exact .inr ⟨by simpa using hS, mks_keep r _ _ _ (setM_at _ _ _)⟩
    · refine .inr ⟨?_, h3⟩
      dsimp only at h2
      cases hS : S.1 q.1 q.2 with
      | false => rfl
      | true => rw [setM_keep hS] at h2; exact h2
theorem mks_free {n L : Nat} : ∀ (l : List (Nat × Nat)) (S : (Nat → Nat → Bool) × List (Nat × Nat)), (∀ q ∈ l, q.1 < 2 * L ∧ q.2 ≤ n) → (mks l S).2.length + free (mks l S).1 n L = S.2.length + free S.1 n L
  | [], _, _ => rfl
  | x :: r, S, h => by
    have hx := h x (List.mem_cons_self)
    rw [mks, mks_free r _ (fun q hq => h q (List.mem_cons_of_mem _ hq))]
    dsimp only
    by_cases hS : S.1 x.1 x.2 = true
    · rw [if_pos hS, setM_same hS]
    · rw [if_neg hS, free_set S.1 n L x.1 x.2 hx.1 hx.2 (by simpa using hS), List.length_append]
      simp
      omega
/-- Each node that isn't the last one has a parent, where 'up' says. -/
theorem up_parent {up : Nat → Nat} : ∀ (t : Tr) (n : Nat), t.ok → UpOk up t n → ∀ r, n ≤ r → r + 1 < n + t.size → ∃ nd : Nd, n ≤ up r ∧ up r < n + t.size ∧ (t.row n)[up r - n]? = some nd ∧ (nd.k = 2 ∨ nd.k = 3 ∨ nd.k = 4 ∨ nd.k = 5 ∨ nd.k = 6)
  | .leaf k, n, _, _, r, h1, h2 => by have ez : (Tr.leaf k).size = 1 := rfl; omega
  | .set k, n, _, _, r, h1, h2 => by have ez : (Tr.set k).size = 1 := rfl; omega
  | .rep k a, n, hok, hu, r, h1, h2 => by
    have ez : (Tr.rep k a).size = a.size + 1 := rfl
    have hp := a.size_pos
    rw [ez] at h2 ⊢
    by_cases hr : r + 1 < n + a.size
    · obtain ⟨nd, e1, e2, e3, e4⟩ := up_parent a n hok.2 hu.2 r h1 hr
      refine ⟨nd, e1, by omega, ?_, e4⟩
      show (a.row n ++ [_])[up r - n]? = _
      rw [List.getElem?_append_left (by rw [Tr.row_length]; omega), e3]
    · have hr : r = n + a.size - 1 := by omega
      have e := hu.1
      rw [← hr] at e
      rw [e]
      refine ⟨⟨(k : Int), k0, (n : Int) + a.size - 1, 0⟩, by omega, by omega, ?_, ?_⟩
      · show (a.row n ++ [_])[n + a.size - n]? = _
        rw [List.getElem?_append_right (by rw [Tr.row_length]; omega), Tr.row_length, show n + a.size - n - a.size = 0 by omega]
        rfl
      · rcases hok.1 with rfl | rfl | rfl <;> simp
  | .two k a b, n, hok, hu, r, h1, h2 => by
    have ez : (Tr.two k a b).size = a.size + b.size + 1 := rfl
    have hp := a.size_pos
    have hq := b.size_pos
    rw [ez] at h2 ⊢
    have last : up r = n + a.size + b.size → ∃ nd : Nd, n ≤ up r ∧ up r < n + (a.size + b.size + 1) ∧ ((Tr.two k a b).row n)[up r - n]? = some nd ∧ (nd.k = 2 ∨ nd.k = 3 ∨ nd.k = 4 ∨ nd.k = 5 ∨ nd.k = 6) := fun e => by
      rw [e]
      refine ⟨⟨(k : Int), k0, (n : Int) + a.size - 1, (n : Int) + a.size + b.size - 1⟩, by omega, by omega, ?_, ?_⟩
      · show (a.row n ++ (b.row (n + a.size) ++ [_]))[n + a.size + b.size - n]? = _
        rw [List.getElem?_append_right (by rw [Tr.row_length]; omega), Tr.row_length, List.getElem?_append_right (by rw [Tr.row_length]; omega), Tr.row_length, show n + a.size + b.size - n - a.size - b.size = 0 by omega]
        rfl
      · rcases hok.1 with rfl | rfl <;> simp
    by_cases hr : r + 1 < n + a.size
    · obtain ⟨nd, e1, e2, e3, e4⟩ := up_parent a n hok.2.1 hu.2.2.1 r h1 hr
      refine ⟨nd, e1, by omega, ?_, e4⟩
      show (a.row n ++ (b.row (n + a.size) ++ [_]))[up r - n]? = _
      rw [List.getElem?_append_left (by rw [Tr.row_length]; omega), e3]
    · by_cases hr2 : r = n + a.size - 1
      · have e := hu.1
        rw [← hr2] at e
        exact last e
      · by_cases hr3 : r + 1 < n + a.size + b.size
        · obtain ⟨nd, e1, e2, e3, e4⟩ := up_parent b (n + a.size) hok.2.2 hu.2.2.2 r (by omega) hr3
          refine ⟨nd, by omega, by omega, ?_, e4⟩
          show (a.row n ++ (b.row (n + a.size) ++ [_]))[up r - n]? = _
          rw [List.getElem?_append_right (by rw [Tr.row_length]; omega), Tr.row_length, List.getElem?_append_left (by rw [Tr.row_length]; omega), show up r - n - a.size = up r - (n + a.size) by omega, e3]
        · have hr4 : r = n + a.size + b.size - 1 := by omega
          have e := hu.2.1
          rw [← hr4] at e
          exact last e
/-- A row that is a tree's, with its parents. -/
structure Tree (ts : List Nd) (up : Nat → Nat) (T : Tr) : Prop where
  row : ts = T.row 0
  ok : T.ok
  occ : Occ ts up T 0
theorem Tree.len {ts : List Nd} {up : Nat → Nat} {T : Tr} (h : Tree ts up T) : T.size = ts.length := by rw [h.row, Tr.row_length]
theorem Tree.fit {ts : List Nd} {up : Nat → Nat} {T : Tr} (h : Tree ts up T) {r : Nat} {n : Nd} (hn : ts[r]? = some n) : NdFit n ts.length := by
  have hl := h.len
  rw [h.row] at hn
  exact row_fit T 0 h.ok r n hn _ (by omega)
theorem Tree.parent {ts : List Nd} {up : Nat → Nat} {T : Tr} (h : Tree ts up T) {r : Nat} (hr : r + 1 < ts.length) : ∃ n, ts[up r]? = some n ∧ (n.k = 2 ∨ n.k = 3 ∨ n.k = 4 ∨ n.k = 5 ∨ n.k = 6) ∧ up r < ts.length := by
  have hl := h.len
  obtain ⟨nd, e1, e2, e3, e4⟩ := up_parent T 0 h.ok h.occ.up r (by omega) (by omega)
  exact ⟨nd, by rw [h.row]; exact e3, e4, by omega⟩
theorem enter_inb {bk : Bool} {l : List UInt8} {n : Nd} {r p L : Nat} (hf : NdFit n L) (hr : r < L) (hp : p ≤ l.length) : ∀ q ∈ enterD bk l n r p, q.1 < 2 * L ∧ q.2 ≤ l.length := by
  obtain ⟨_, x, y, hx, hy, hxl, hyl⟩ := hf
  intro q hq
  unfold enterD at hq
  rw [hx, hy] at hq
  split at hq
  · obtain rfl := List.mem_singleton.1 hq
    refine ⟨?_, hp⟩
    cases bk <;> simp <;> omega
  · split at hq
    · simp at hq
      rcases hq with rfl | rfl <;> exact ⟨by dsimp only; omega, hp⟩
    · split at hq
      · simp at hq
        rcases hq with rfl | rfl <;> exact ⟨by dsimp only; omega, hp⟩
      · split at hq
        · simp at hq
          subst hq
          exact ⟨by dsimp only; omega, hp⟩
        · split at hq
          · rename_i q' he
            obtain rfl := List.mem_singleton.1 hq
            exact ⟨by dsimp only; omega, stepD_le he hp⟩
          · simp at hq
theorem leave_inb {bk : Bool} {n : Nd} {u r p L m : Nat} (hf : NdFit n L) (hr : r < L) (hu : u < L) (hp : p ≤ m) : ∀ q ∈ leaveD bk n u r p, q.1 < 2 * L ∧ q.2 ≤ m := by
  obtain ⟨_, x, y, hx, hy, hxl, hyl⟩ := hf
  intro q hq
  unfold leaveD at hq
  rw [hx, hy] at hq
  by_cases h1 : n.k = 2 ∧ (r : Int) = (if bk = true then (y : Int) else (x : Int))
  · rw [if_pos h1] at hq
    obtain rfl := List.mem_singleton.1 hq
    refine ⟨?_, hp⟩
    cases bk <;> simp <;> omega
  · rw [if_neg h1] at hq
    by_cases h2 : n.k = 4 ∨ n.k = 5
    · rw [if_pos h2] at hq
      simp at hq
      rcases hq with rfl | rfl <;> exact ⟨by dsimp only; omega, hp⟩
    · rw [if_neg h2] at hq
      obtain rfl := List.mem_singleton.1 hq
      exact ⟨by dsimp only; omega, hp⟩
theorem next_even (bk : Bool) (l : List UInt8) {ts : List Nd} (up : Nat → Nat) {r : Nat} {n : Nd} (p : Nat) (hn : ts[r]? = some n) : nextD bk l ts up (2 * r) p = enterD bk l n r p := by
  unfold nextD
  rw [if_pos (by omega), show 2 * r / 2 = r by omega, hn]
theorem next_odd (bk : Bool) (l : List UInt8) {ts : List Nd} {up : Nat → Nat} {r : Nat} {n : Nd} (p : Nat) (hr : r + 1 < ts.length) (hn : ts[up r]? = some n) : nextD bk l ts up (2 * r + 1) p = leaveD bk n (up r) r p := by
  unfold nextD
  rw [if_neg (by omega), show (2 * r + 1) / 2 = r by omega, if_neg (by omega), hn]
theorem next_top (bk : Bool) (l : List UInt8) {ts : List Nd} (up : Nat → Nat) {r : Nat} (p : Nat) (hr : r + 1 = ts.length) : nextD bk l ts up (2 * r + 1) p = [] := by
  unfold nextD
  rw [if_neg (by omega), if_pos (by omega)]
/-- What holds between two steps. -/
structure Inv (bk : Bool) (l : List UInt8) (ts : List Nd) (up : Nat → Nat) (last a : Nat) (M0 : Nat → Nat → Bool) (M : Nat → Nat → Bool) (F : List (Nat × Nat)) (T : Nat → Bool) : Prop where
  i1 : ∀ q ∈ F, M q.1 q.2 = true ∧ M0 q.1 q.2 = false
  i2 : ∀ g p, M g p = true → (g, p) ∈ F ∨ ((∀ q ∈ nextD bk l ts up g p, M q.1 q.2 = true) ∧ (g = 2 * last + 1 → M0 g p = true ∨ T p = true))
  i3 : ∀ p, T p = true → M (2 * last + 1) p = true ∧ M0 (2 * last + 1) p = false
  i4 : ∀ X : Nat → Nat → Prop, Closed bk l ts up X → (∀ g p, M0 g p = true → X g p) → X (2 * last) a → ∀ g p, M g p = true → X g p
  i5 : ∀ g p, M0 g p = true → M g p = true
  i6 : M (2 * last) a = true
theorem Inv.start {bk : Bool} {l : List UInt8} {ts : List Nd} {up : Nat → Nat} {last a : Nat} {M0 : Nat → Nat → Bool} (h0 : ∀ g p, M0 g p = true → ∀ q ∈ nextD bk l ts up g p, M0 q.1 q.2 = true) :
    Inv bk l ts up last a M0 (mks [(2 * last, a)] (M0, [])).1 (mks [(2 * last, a)] (M0, [])).2 (fun _ => false) := by
  refine ⟨fun q hq => ?_, fun g p h => ?_, fun p h => (by cases h), fun X hX hs ha g p h => ?_, fun g p h => mks_keep _ _ _ _ h, mks_all [(2 * last, a)] _ (2 * last, a) (List.mem_singleton.2 rfl)⟩
  · rcases mks_old _ _ q hq with h | ⟨h, h2⟩
    · simp at h
    · exact ⟨h2, h⟩
  · rcases mks_fresh _ _ g p h with h | h
    · exact .inr ⟨fun q hq => mks_keep _ _ _ _ (h0 g p h q hq), fun _ => .inl h⟩
    · exact .inl h
  · rcases mks_new _ _ g p h with h | h
    · exact hs g p h
    · obtain ⟨rfl, rfl⟩ : g = 2 * last ∧ p = a := by simpa using h
      exact ha
theorem Inv.step {bk : Bool} {l : List UInt8} {ts : List Nd} {up : Nat → Nat} {last a : Nat} {M0 M : Nat → Nat → Bool} {F : List (Nat × Nat)} {g p : Nat} {T T' : Nat → Bool} (h : Inv bk l ts up last a M0 M (F ++ [(g, p)]) T)
    (hT : (g ≠ 2 * last + 1 ∧ T' = T) ∨ (g = 2 * last + 1 ∧ T' = setT T p)) :
    Inv bk l ts up last a M0 (mks (nextD bk l ts up g p) (M, F)).1 (mks (nextD bk l ts up g p) (M, F)).2 T' := by
  have hgp := h.i1 (g, p) (List.mem_append_right _ (List.mem_singleton.2 rfl))
  have hTm : ∀ q, T q = true → T' q = true := fun q hq => by
    rcases hT with ⟨_, rfl⟩ | ⟨_, rfl⟩
    · exact hq
    · unfold setT; split
      · rfl
      · exact hq
  refine ⟨fun q hq => ?_, fun g' p' hm => ?_, fun p' hp' => ?_, fun X hX hs ha g' p' hm => ?_, fun g' p' hm => mks_keep _ _ _ _ (h.i5 g' p' hm), mks_keep _ _ _ _ h.i6⟩
  · rcases mks_old _ _ q hq with h2 | ⟨h2, h3⟩
    · obtain ⟨h4, h5⟩ := h.i1 q (List.mem_append_left _ h2)
      exact ⟨mks_keep _ _ _ _ h4, h5⟩
    · refine ⟨h3, ?_⟩
      cases hM : M0 q.1 q.2 with
      | false => rfl
      | true => have := h.i5 _ _ hM; dsimp only at h2; rw [this] at h2; cases h2
  · rcases mks_fresh _ _ g' p' hm with h2 | h2
    · rcases h.i2 g' p' h2 with h3 | ⟨h3, h4⟩
      · rcases List.mem_append.1 h3 with h5 | h5
        · exact .inl (mks_sub _ _ _ h5)
        · obtain ⟨rfl, rfl⟩ : g' = g ∧ p' = p := by simpa using h5
          refine .inr ⟨fun q hq => mks_all _ _ q hq, fun hg => ?_⟩
          rcases hT with ⟨h6, _⟩ | ⟨_, rfl⟩
          · exact absurd hg h6
          · right; unfold setT; rw [if_pos rfl]
      · exact .inr ⟨fun q hq => mks_keep _ _ _ _ (h3 q hq), fun hg => (h4 hg).imp id (hTm _)⟩
    · exact .inl h2
  · rcases hT with ⟨_, rfl⟩ | ⟨hg, rfl⟩
    · obtain ⟨h2, h3⟩ := h.i3 p' hp'
      exact ⟨mks_keep _ _ _ _ h2, h3⟩
    · by_cases e : p' = p
      · subst e
        rw [← hg]
        exact ⟨mks_keep _ _ _ _ hgp.1, hgp.2⟩
      · unfold setT at hp'
        rw [if_neg e] at hp'
        obtain ⟨h2, h3⟩ := h.i3 p' hp'
        exact ⟨mks_keep _ _ _ _ h2, h3⟩
  · rcases mks_new _ _ g' p' hm with h2 | h2
    · exact h.i4 X hX hs ha g' p' h2
    · exact hX g p (h.i4 X hX hs ha g p hgp.1) (g', p') h2
/-- What a search leaves. -/
structure Done (bk : Bool) (l : List UInt8) (ts : List Nd) (up : Nat → Nat) (last a : Nat) (M0 M : Nat → Nat → Bool) : Prop where
  closed : ∀ g p, M g p = true → ∀ q ∈ nextD bk l ts up g p, M q.1 q.2 = true
  least : ∀ X : Nat → Nat → Prop, Closed bk l ts up X → (∀ g p, M0 g p = true → X g p) → X (2 * last) a → ∀ g p, M g p = true → X g p
  old : ∀ g p, M0 g p = true → M g p = true
  src : M (2 * last) a = true
theorem Inv.done {bk : Bool} {l : List UInt8} {ts : List Nd} {up : Nat → Nat} {last a : Nat} {M0 M : Nat → Nat → Bool} {T : Nat → Bool} (h : Inv bk l ts up last a M0 M [] T) :
    Done bk l ts up last a M0 M ∧ T = fun p => M (2 * last + 1) p && !M0 (2 * last + 1) p := by
  refine ⟨⟨fun g p hm q hq => ?_, h.i4, h.i5, h.i6⟩, ?_⟩
  · rcases h.i2 g p hm with h2 | ⟨h2, _⟩
    · simp at h2
    · exact h2 q hq
  · funext p
    cases hT : T p with
    | true => obtain ⟨h1, h2⟩ := h.i3 p hT; rw [h1, h2]; rfl
    | false =>
      cases hM : M (2 * last + 1) p with
      | false => rfl
      | true =>
        rcases h.i2 _ _ hM with h2 | ⟨_, h2⟩
        · simp at h2
        · rcases h2 rfl with h3 | h3
          · rw [h3]; rfl
          · rw [hT] at h3; cases h3
end Go.Proofs.Ytkgpnlldlekcbaa
