/- Packed texts: MaUp, MaInv, MbKid. What each of them proves stands above its theorems; the conditions stand in these. -/
import Derived.Test.YtgffmbdbjbhocaaR1
import Derived.Test.YtgffmbdbjbhocaaR3
namespace Go.Proofs.Ytgffmbdbjbhocaa
open Go.RowKit Go.Lib

def upStep (f : Nat → Nat) (st : List Int) (j m : Nat) : Nat → Nat := fun q => if (q : Int) ∈ st.drop (st.length - m) then j else f q
def upRun : List Nd → Nat → List Int → (Nat → Nat) → (Nat → Nat)
  | [], _, _, f => f
  | n :: ts, j, st, f => match rightStep st j n with
    | some st' => upRun ts (j + 1) st' (upStep f st j (kidsN n.k).toNat)
    | none => f
theorem upStep_zero (f : Nat → Nat) (st : List Int) (j : Nat) : upStep f st j 0 = f := by
  funext q
  unfold upStep
  rw [if_neg]
  rw [List.drop_of_length_le (by omega)]
  simp
theorem upStep_one (f : Nat → Nat) (st : List Int) (x : Int) (j : Nat) : upStep f (st ++ [x]) j 1 = fun q : Nat => if (q : Int) = x then j else f q := by
  funext q
  unfold upStep
  have : (st ++ [x]).drop ((st ++ [x]).length - 1) = [x] := by rw [List.length_append]; simp
  rw [this]
  simp
theorem upStep_two (f : Nat → Nat) (st : List Int) (x y : Int) (j : Nat) : upStep f (st ++ [x, y]) j 2 = fun q : Nat => if (q : Int) = x ∨ (q : Int) = y then j else f q := by
  funext q
  unfold upStep
  have : (st ++ [x, y]).drop ((st ++ [x, y]).length - 2) = [x, y] := by rw [List.length_append]; simp
  rw [this]
  simp
theorem UpOk.congr {f g : Nat → Nat} : ∀ {t : Tr} {n : Nat}, UpOk f t n → (∀ q, n ≤ q → q + 1 < n + t.size → g q = f q) → UpOk g t n
  | .leaf _, _, _, _ => trivial
  | .set _, _, _, _ => trivial
  | .rep _ x, n, h, k => by
    have hp := x.size_pos
    have ez : ∀ j, (Tr.rep j x).size = x.size + 1 := fun _ => rfl
    refine ⟨(k _ (by omega) (by rw [ez]; omega)).trans h.1, h.2.congr fun q h1 h2 => k q h1 (by rw [ez]; omega)⟩
  | .two _ x y, n, h, k => by
    have hp := x.size_pos
    have hq := y.size_pos
    have ez : ∀ j, (Tr.two j x y).size = x.size + y.size + 1 := fun _ => rfl
    refine ⟨(k _ (by omega) (by rw [ez]; omega)).trans h.1, (k _ (by omega) (by rw [ez]; omega)).trans h.2.1, h.2.2.1.congr fun q h1 h2 => k q h1 (by rw [ez]; omega), h.2.2.2.congr fun q h1 h2 => k q (by omega) (by rw [ez]; omega)⟩
theorem upRun_cons {n : Nd} {ts : List Nd} {j : Nat} {st st' : List Int} {f : Nat → Nat} (h : rightStep st j n = some st') : upRun (n :: ts) j st f = upRun ts (j + 1) st' (upStep f st j (kidsN n.k).toNat) := by
  show (match rightStep st j n with | some st' => upRun ts (j + 1) st' (upStep f st j (kidsN n.k).toNat) | none => f) = _
  rw [h]
theorem up_row : ∀ (t : Tr), t.ok → ∀ (n : Nat) (rest : List Nd) (st : List Int) (f : Nat → Nat), ∃ f', upRun (t.row n ++ rest) n st f = upRun rest (n + t.size) (st ++ [(n : Int) + t.size - 1]) f' ∧ UpOk f' t n ∧ ∀ q, q < n ∨ n + t.size ≤ q + 1 → f' q = f q
  | .leaf j, hok, n, rest, st, f => by
    have hk : kidsN (j : Int) = 0 := by rcases hok with rfl | rfl | rfl <;> rfl
    have e : rightStep st n ⟨(j : Int), k0, 0, 0⟩ = some (st ++ [(n : Int)]) := by
      unfold rightStep wantL
      simp [hk]
    refine ⟨f, ?_, trivial, fun _ _ => rfl⟩
    show upRun (⟨(j : Int), k0, 0, 0⟩ :: rest) n st f = upRun rest (n + 1) (st ++ [(n : Int) + ((1 : Nat) : Int) - 1]) f
    rw [upRun_cons e, show (n : Int) + ((1 : Nat) : Int) - 1 = n by omega]
    dsimp only
    rw [hk]
    show upRun rest (n + 1) _ (upStep f st n 0) = _
    rw [upStep_zero]
  | .set k, _, n, rest, st, f => by
    have hk : kidsN 1 = 0 := rfl
    have e : rightStep st n ⟨1, k, 0, 0⟩ = some (st ++ [(n : Int)]) := by
      unfold rightStep wantL
      simp [hk]
    refine ⟨f, ?_, trivial, fun _ _ => rfl⟩
    show upRun (⟨1, k, 0, 0⟩ :: rest) n st f = upRun rest (n + 1) (st ++ [(n : Int) + ((1 : Nat) : Int) - 1]) f
    rw [upRun_cons e, show (n : Int) + ((1 : Nat) : Int) - 1 = n by omega]
    dsimp only
    rw [hk]
    show upRun rest (n + 1) _ (upStep f st n 0) = _
    rw [upStep_zero]
  | .rep j a, hok, n, rest, st, f => by
    have hk : kidsN (j : Int) = 1 := by rcases hok.1 with rfl | rfl | rfl <;> rfl
    have hp := a.size_pos
    obtain ⟨f1, h1, h2, h3⟩ := up_row a hok.2 n ([⟨(j : Int), k0, (n : Int) + a.size - 1, 0⟩] ++ rest) st f
    have e : rightStep (st ++ [(n : Int) + a.size - 1]) (n + a.size) ⟨(j : Int), k0, (n : Int) + a.size - 1, 0⟩ = some (st ++ [((n + a.size : Nat) : Int)]) := by
      unfold rightStep wantL
      simp [hk]
      omega
    refine ⟨upStep f1 (st ++ [(n : Int) + a.size - 1]) (n + a.size) 1, ?_, ?_, ?_⟩
    · show upRun ((a.row n ++ [_]) ++ rest) n st f = _
      rw [List.append_assoc, h1]
      show upRun (⟨(j : Int), k0, (n : Int) + a.size - 1, 0⟩ :: rest) (n + a.size) _ f1 = upRun rest (n + (a.size + 1)) (st ++ [(n : Int) + ((a.size + 1 : Nat) : Int) - 1]) _
      rw [upRun_cons e, show (n : Int) + ((a.size + 1 : Nat) : Int) - 1 = ((n + a.size : Nat) : Int) by omega]
      dsimp only
      rw [hk]
      rfl
    · rw [upStep_one]
      refine ⟨by dsimp only; rw [if_pos (by omega)], h2.congr fun q hq1 hq2 => by rw [if_neg (by omega)]⟩
    · intro q hq
      have ez : (Tr.rep j a).size = a.size + 1 := rfl
      rw [ez] at hq
      rw [upStep_one]
      dsimp only
      rw [if_neg (by omega), h3 q (by omega)]
  | .two j a b, hok, n, rest, st, f => by
    have hk : kidsN (j : Int) = 2 := by rcases hok.1 with rfl | rfl <;> rfl
    have hj1 : ¬ (j : Int) = 1 := by rcases hok.1 with rfl | rfl <;> decide
    have hp := a.size_pos
    have hq := b.size_pos
    obtain ⟨f1, h1, h2, h3⟩ := up_row a hok.2.1 n (b.row (n + a.size) ++ ([⟨(j : Int), k0, (n : Int) + a.size - 1, (n : Int) + a.size + b.size - 1⟩] ++ rest)) st f
    obtain ⟨f2, g1, g2, g3⟩ := up_row b hok.2.2 (n + a.size) ([⟨(j : Int), k0, (n : Int) + a.size - 1, (n : Int) + a.size + b.size - 1⟩] ++ rest) (st ++ [(n : Int) + a.size - 1]) f1
    have e1 : (st ++ [(n : Int) + a.size - 1]) ++ [((n + a.size : Nat) : Int) + b.size - 1] = st ++ [(n : Int) + a.size - 1, (n : Int) + a.size + b.size - 1] := by
      rw [List.append_assoc]
      congr 2
    have e : rightStep (st ++ [(n : Int) + a.size - 1, (n : Int) + a.size + b.size - 1]) (n + a.size + b.size) ⟨(j : Int), k0, (n : Int) + a.size - 1, (n : Int) + a.size + b.size - 1⟩ = some (st ++ [((n + a.size + b.size : Nat) : Int)]) := by
      have hw : wantL (st ++ [(n : Int) + a.size - 1, (n : Int) + a.size + b.size - 1]) 2 = ((n : Int) + a.size - 1, (n : Int) + a.size + b.size - 1) := by
        unfold wantL
        simp
      have hl : (st ++ [(n : Int) + a.size - 1, (n : Int) + a.size + b.size - 1]).length = st.length + 2 := by simp
      unfold rightStep
      dsimp only
      rw [hk, hw, if_neg (by rw [hl]; omega), if_neg (by rintro (h | ⟨_, h⟩) <;> exact h (by first | exact ⟨rfl, rfl⟩ | rfl)), hl]
      simp
    refine ⟨upStep f2 (st ++ [(n : Int) + a.size - 1, (n : Int) + a.size + b.size - 1]) (n + a.size + b.size) 2, ?_, ?_, ?_⟩
    · show upRun ((a.row n ++ (b.row (n + a.size) ++ [_])) ++ rest) n st f = _
      rw [List.append_assoc, List.append_assoc, h1, g1, e1]
      show upRun (⟨(j : Int), k0, (n : Int) + a.size - 1, (n : Int) + a.size + b.size - 1⟩ :: rest) (n + a.size + b.size) _ f2 = upRun rest (n + (a.size + b.size + 1)) (st ++ [(n : Int) + ((a.size + b.size + 1 : Nat) : Int) - 1]) _
      rw [upRun_cons e, show (n : Int) + ((a.size + b.size + 1 : Nat) : Int) - 1 = ((n + a.size + b.size : Nat) : Int) by omega, show n + a.size + b.size + 1 = n + (a.size + b.size + 1) by omega]
      dsimp only
      rw [hk]
      rfl
    · rw [upStep_two]
      refine ⟨by dsimp only; rw [if_pos (by omega)], by dsimp only; rw [if_pos (by omega)], h2.congr fun q hq1 hq2 => ?_, g2.congr fun q hq1 hq2 => ?_⟩
      · rw [if_neg (by omega), g3 q (by omega)]
      · rw [if_neg (by omega)]
    · intro q hq
      have ez : (Tr.two j a b).size = a.size + b.size + 1 := rfl
      rw [ez] at hq
      rw [upStep_two]
      dsimp only
      rw [if_neg (by omega), g3 q (by omega), h3 q (by omega)]
theorem up_drop {ts : List Nd} {j : Nat} {n : Nd} {st st' : List Int} {f : Nat → Nat} (h : ts[j]? = some n) (hs : rightStep st j n = some st') : upRun (ts.drop j) j st f = upRun (ts.drop (j + 1)) (j + 1) st' (upStep f st j (kidsN n.k).toNat) := by
  have hlt : j < ts.length := by
    by_cases hl : j < ts.length
    · exact hl
    · rw [List.getElem?_eq_none (by omega)] at h; cases h
  rw [List.getElem?_eq_getElem hlt] at h
  cases h
  rw [List.drop_eq_getElem_cons hlt, upRun_cons hs]
/-- What the whole row's run gives. -/
def upT (T : Tr) : Nat → Nat := upRun (T.row 0) 0 [] (fun _ => 0)
theorem upT_occ (T : Tr) (hok : T.ok) : Occ (T.row 0) (upT T) T 0 := by
  obtain ⟨f', h1, h2, _⟩ := up_row T hok 0 [] [] (fun _ => 0)
  refine ⟨sub_row T, hok, ?_, by rw [Tr.row_length]; omega⟩
  unfold upT
  rw [List.append_nil] at h1
  rw [h1]
  exact h2
end Go.Proofs.Ytgffmbdbjbhocaa
namespace Go.Proofs.Ytgffmbdbjbhocaa
open Go.RowKit Go.Lib

def setT (T : Nat → Bool) (p : Nat) : Nat → Bool := fun q => if q = p then true else T q
theorem setM_at (M : Nat → Nat → Bool) (g p : Nat) : setM M g p g p = true := by unfold setM; rw [if_pos ⟨rfl, rfl⟩]
theorem setM_keep {M : Nat → Nat → Bool} {g p h q : Nat} (hm : M h q = true) : setM M g p h q = true := by
  unfold setM
  split
  · rfl
  · exact hm
theorem setM_new {M : Nat → Nat → Bool} {g p h q : Nat} (hm : setM M g p h q = true) : M h q = true ∨ (h = g ∧ q = p) := by
  unfold setM at hm
  split at hm
  · rename_i e; exact .inr e
  · exact .inl hm
theorem mks_keep : ∀ (l : List (Nat × Nat)) (S : (Nat → Nat → Bool) × List (Nat × Nat)) (g p : Nat), S.1 g p = true → (mks l S).1 g p = true
  | [], _, _, _, h => h
  | _q :: r, _S, g, p, h => mks_keep r _ g p (setM_keep h)
theorem mks_all : ∀ (l : List (Nat × Nat)) (S : (Nat → Nat → Bool) × List (Nat × Nat)), ∀ q ∈ l, (mks l S).1 q.1 q.2 = true
  | [], _, _, h => by simp at h
  | x :: r, S, q, h => by
    rcases List.mem_cons.1 h with rfl | h
    · exact mks_keep r _ _ _ (setM_at _ _ _)
    · exact mks_all r _ q h
theorem mks_new : ∀ (l : List (Nat × Nat)) (S : (Nat → Nat → Bool) × List (Nat × Nat)) (g p : Nat), (mks l S).1 g p = true → S.1 g p = true ∨ (g, p) ∈ l
  | [], _, _, _, h => .inl h
  | x :: r, S, g, p, h => by
    rcases mks_new r _ g p h with h | h
    · rcases setM_new h with h | ⟨rfl, rfl⟩
      · exact .inl h
      · exact .inr (List.mem_cons_self)
    · exact .inr (List.mem_cons_of_mem _ h)
theorem mks_sub : ∀ (l : List (Nat × Nat)) (S : (Nat → Nat → Bool) × List (Nat × Nat)), ∀ q ∈ S.2, q ∈ (mks l S).2
  | [], _, _, h => h
  | x :: r, S, q, h => mks_sub r _ q (by
    dsimp only
    split
    · exact h
    · exact List.mem_append_left _ h)
theorem mks_fresh : ∀ (l : List (Nat × Nat)) (S : (Nat → Nat → Bool) × List (Nat × Nat)) (g p : Nat), (mks l S).1 g p = true → S.1 g p = true ∨ (g, p) ∈ (mks l S).2
  | [], _, _, _, h => .inl h
  | x :: r, S, g, p, h => by
    rcases mks_fresh r _ g p h with h2 | h2
    · rcases setM_new h2 with h3 | ⟨rfl, rfl⟩
      · exact .inl h3
      · by_cases hS : S.1 x.1 x.2 = true
        · exact .inl hS
        · refine .inr (mks_sub r _ _ ?_)
          dsimp only
          rw [if_neg hS]
          exact List.mem_append_right _ (List.mem_singleton.2 rfl)
    · exact .inr h2
theorem mks_old : ∀ (l : List (Nat × Nat)) (S : (Nat → Nat → Bool) × List (Nat × Nat)), ∀ q ∈ (mks l S).2, q ∈ S.2 ∨ (S.1 q.1 q.2 = false ∧ (mks l S).1 q.1 q.2 = true)
  | [], _, _, h => .inl h
  | x :: r, S, q, h => by
    rcases mks_old r _ q h with h2 | ⟨h2, h3⟩
    · dsimp only at h2
      by_cases hS : S.1 x.1 x.2 = true
      · rw [if_pos hS] at h2
        exact .inl h2
      · rw [if_neg hS] at h2
        rcases List.mem_append.1 h2 with h4 | h4
        · exact .inl h4
        · obtain rfl := List.mem_singleton.1 h4
          exact .inr ⟨by simpa using hS, mks_keep r _ _ _ (setM_at _ _ _)⟩
    · refine .inr ⟨?_, h3⟩
      dsimp only at h2
      cases hS : S.1 q.1 q.2 with
      | false => rfl
      | true => rw [setM_keep hS] at h2; exact h2
theorem mks_free {n L : Nat} : ∀ (l : List (Nat × Nat)) (S : (Nat → Nat → Bool) × List (Nat × Nat)), (∀ q ∈ l, q.1 < 2 * L ∧ q.2 ≤ n) → (mks l S).2.length + free (mks l S).1 n L = S.2.length + free S.1 n L
  | [], _, _ => rfl
  | x :: r, S, h => by
    have hx := h x (List.mem_cons_self)
    rw [mks, mks_free r _ (fun q hq => h q (List.mem_cons_of_mem _ hq))]
    dsimp only
    by_cases hS : S.1 x.1 x.2 = true
    · rw [if_pos hS, setM_same hS]
    · rw [if_neg hS, free_set S.1 n L x.1 x.2 hx.1 hx.2 (by simpa using hS), List.length_append]
      simp
      omega
/-- Each node that isn't the last one has a parent, where 'up' says. -/
theorem up_parent {up : Nat → Nat} : ∀ (t : Tr) (n : Nat), t.ok → UpOk up t n → ∀ r, n ≤ r → r + 1 < n + t.size → ∃ nd : Nd, n ≤ up r ∧ up r < n + t.size ∧ (t.row n)[up r - n]? = some nd ∧ (nd.k = 2 ∨ nd.k = 3 ∨ nd.k = 4 ∨ nd.k = 5 ∨ nd.k = 6)
  | .leaf k, n, _, _, r, h1, h2 => by have ez : (Tr.leaf k).size = 1 := rfl; omega
  | .set k, n, _, _, r, h1, h2 => by have ez : (Tr.set k).size = 1 := rfl; omega
  | .rep k a, n, hok, hu, r, h1, h2 => by
    have ez : (Tr.rep k a).size = a.size + 1 := rfl
    have hp := a.size_pos
    rw [ez] at h2 ⊢
    by_cases hr : r + 1 < n + a.size
    · obtain ⟨nd, e1, e2, e3, e4⟩ := up_parent a n hok.2 hu.2 r h1 hr
      refine ⟨nd, e1, by omega, ?_, e4⟩
      show (a.row n ++ [_])[up r - n]? = _
      rw [List.getElem?_append_left (by rw [Tr.row_length]; omega), e3]
    · have hr : r = n + a.size - 1 := by omega
      have e := hu.1
      rw [← hr] at e
      rw [e]
      refine ⟨⟨(k : Int), k0, (n : Int) + a.size - 1, 0⟩, by omega, by omega, ?_, ?_⟩
      · show (a.row n ++ [_])[n + a.size - n]? = _
        rw [List.getElem?_append_right (by rw [Tr.row_length]; omega), Tr.row_length, show n + a.size - n - a.size = 0 by omega]
        rfl
      · rcases hok.1 with rfl | rfl | rfl <;> simp
  | .two k a b, n, hok, hu, r, h1, h2 => by
    have ez : (Tr.two k a b).size = a.size + b.size + 1 := rfl
    have hp := a.size_pos
    have hq := b.size_pos
    rw [ez] at h2 ⊢
    have last : up r = n + a.size + b.size → ∃ nd : Nd, n ≤ up r ∧ up r < n + (a.size + b.size + 1) ∧ ((Tr.two k a b).row n)[up r - n]? = some nd ∧ (nd.k = 2 ∨ nd.k = 3 ∨ nd.k = 4 ∨ nd.k = 5 ∨ nd.k = 6) := fun e => by
      rw [e]
      refine ⟨⟨(k : Int), k0, (n : Int) + a.size - 1, (n : Int) + a.size + b.size - 1⟩, by omega, by omega, ?_, ?_⟩
      · show (a.row n ++ (b.row (n + a.size) ++ [_]))[n + a.size + b.size - n]? = _
        rw [List.getElem?_append_right (by rw [Tr.row_length]; omega), Tr.row_length, List.getElem?_append_right (by rw [Tr.row_length]; omega), Tr.row_length, show n + a.size + b.size - n - a.size - b.size = 0 by omega]
        rfl
      · rcases hok.1 with rfl | rfl <;> simp
    by_cases hr : r + 1 < n + a.size
    · obtain ⟨nd, e1, e2, e3, e4⟩ := up_parent a n hok.2.1 hu.2.2.1 r h1 hr
      refine ⟨nd, e1, by omega, ?_, e4⟩
      show (a.row n ++ (b.row (n + a.size) ++ [_]))[up r - n]? = _
      rw [List.getElem?_append_left (by rw [Tr.row_length]; omega), e3]
    · by_cases hr2 : r = n + a.size - 1
      · have e := hu.1
        rw [← hr2] at e
        exact last e
      · by_cases hr3 : r + 1 < n + a.size + b.size
        · obtain ⟨nd, e1, e2, e3, e4⟩ := up_parent b (n + a.size) hok.2.2 hu.2.2.2 r (by omega) hr3
          refine ⟨nd, by omega, by omega, ?_, e4⟩
          show (a.row n ++ (b.row (n + a.size) ++ [_]))[up r - n]? = _
          rw [List.getElem?_append_right (by rw [Tr.row_length]; omega), Tr.row_length, List.getElem?_append_left (by rw [Tr.row_length]; omega), show up r - n - a.size = up r - (n + a.size) by omega, e3]
        · have hr4 : r = n + a.size + b.size - 1 := by omega
          have e := hu.2.1
          rw [← hr4] at e
          exact last e
/-- A row that is a tree's, with its parents. -/
structure Tree (ts : List Nd) (up : Nat → Nat) (T : Tr) : Prop where
  row : ts = T.row 0
  ok : T.ok
  occ : Occ ts up T 0
theorem Tree.len {ts : List Nd} {up : Nat → Nat} {T : Tr} (h : Tree ts up T) : T.size = ts.length := by rw [h.row, Tr.row_length]
theorem Tree.fit {ts : List Nd} {up : Nat → Nat} {T : Tr} (h : Tree ts up T) {r : Nat} {n : Nd} (hn : ts[r]? = some n) : NdFit n ts.length := by
  have hl := h.len
  rw [h.row] at hn
  exact row_fit T 0 h.ok r n hn _ (by omega)
theorem Tree.parent {ts : List Nd} {up : Nat → Nat} {T : Tr} (h : Tree ts up T) {r : Nat} (hr : r + 1 < ts.length) : ∃ n, ts[up r]? = some n ∧ (n.k = 2 ∨ n.k = 3 ∨ n.k = 4 ∨ n.k = 5 ∨ n.k = 6) ∧ up r < ts.length := by
  have hl := h.len
  obtain ⟨nd, e1, e2, e3, e4⟩ := up_parent T 0 h.ok h.occ.up r (by omega) (by omega)
  exact ⟨nd, by rw [h.row]; exact e3, e4, by omega⟩
theorem enter_inb {bk : Bool} {l : List UInt8} {n : Nd} {r p L : Nat} (hf : NdFit n L) (hr : r < L) (hp : p ≤ l.length) : ∀ q ∈ enterD bk l n r p, q.1 < 2 * L ∧ q.2 ≤ l.length := by
  obtain ⟨_, x, y, hx, hy, hxl, hyl⟩ := hf
  intro q hq
  unfold enterD at hq
  rw [hx, hy] at hq
  split at hq
  · obtain rfl := List.mem_singleton.1 hq
    refine ⟨?_, hp⟩
    cases bk <;> simp <;> omega
  · split at hq
    · simp at hq
      rcases hq with rfl | rfl <;> exact ⟨by dsimp only; omega, hp⟩
    · split at hq
      · simp at hq
        rcases hq with rfl | rfl <;> exact ⟨by dsimp only; omega, hp⟩
      · split at hq
        · simp at hq
          subst hq
          exact ⟨by dsimp only; omega, hp⟩
        · split at hq
          · rename_i q' he
            obtain rfl := List.mem_singleton.1 hq
            exact ⟨by dsimp only; omega, stepD_le he hp⟩
          · simp at hq
theorem leave_inb {bk : Bool} {n : Nd} {u r p L m : Nat} (hf : NdFit n L) (hr : r < L) (hu : u < L) (hp : p ≤ m) : ∀ q ∈ leaveD bk n u r p, q.1 < 2 * L ∧ q.2 ≤ m := by
  obtain ⟨_, x, y, hx, hy, hxl, hyl⟩ := hf
  intro q hq
  unfold leaveD at hq
  rw [hx, hy] at hq
  by_cases h1 : n.k = 2 ∧ (r : Int) = (if bk = true then (y : Int) else (x : Int))
  · rw [if_pos h1] at hq
    obtain rfl := List.mem_singleton.1 hq
    refine ⟨?_, hp⟩
    cases bk <;> simp <;> omega
  · rw [if_neg h1] at hq
    by_cases h2 : n.k = 4 ∨ n.k = 5
    · rw [if_pos h2] at hq
      simp at hq
      rcases hq with rfl | rfl <;> exact ⟨by dsimp only; omega, hp⟩
    · rw [if_neg h2] at hq
      obtain rfl := List.mem_singleton.1 hq
      exact ⟨by dsimp only; omega, hp⟩
theorem next_even (bk : Bool) (l : List UInt8) {ts : List Nd} (up : Nat → Nat) {r : Nat} {n : Nd} (p : Nat) (hn : ts[r]? = some n) : nextD bk l ts up (2 * r) p = enterD bk l n r p := by
  unfold nextD
  rw [if_pos (by omega), show 2 * r / 2 = r by omega, hn]
theorem next_odd (bk : Bool) (l : List UInt8) {ts : List Nd} {up : Nat → Nat} {r : Nat} {n : Nd} (p : Nat) (hr : r + 1 < ts.length) (hn : ts[up r]? = some n) : nextD bk l ts up (2 * r + 1) p = leaveD bk n (up r) r p := by
  unfold nextD
  rw [if_neg (by omega), show (2 * r + 1) / 2 = r by omega, if_neg (by omega), hn]
theorem next_top (bk : Bool) (l : List UInt8) {ts : List Nd} (up : Nat → Nat) {r : Nat} (p : Nat) (hr : r + 1 = ts.length) : nextD bk l ts up (2 * r + 1) p = [] := by
  unfold nextD
  rw [if_neg (by omega), if_pos (by omega)]
/-- What holds between two steps. -/
structure Inv (bk : Bool) (l : List UInt8) (ts : List Nd) (up : Nat → Nat) (last a : Nat) (M0 : Nat → Nat → Bool) (M : Nat → Nat → Bool) (F : List (Nat × Nat)) (T : Nat → Bool) : Prop where
  i1 : ∀ q ∈ F, M q.1 q.2 = true ∧ M0 q.1 q.2 = false
  i2 : ∀ g p, M g p = true → (g, p) ∈ F ∨ ((∀ q ∈ nextD bk l ts up g p, M q.1 q.2 = true) ∧ (g = 2 * last + 1 → M0 g p = true ∨ T p = true))
  i3 : ∀ p, T p = true → M (2 * last + 1) p = true ∧ M0 (2 * last + 1) p = false
  i4 : ∀ X : Nat → Nat → Prop, Closed bk l ts up X → (∀ g p, M0 g p = true → X g p) → X (2 * last) a → ∀ g p, M g p = true → X g p
  i5 : ∀ g p, M0 g p = true → M g p = true
  i6 : M (2 * last) a = true
theorem Inv.start {bk : Bool} {l : List UInt8} {ts : List Nd} {up : Nat → Nat} {last a : Nat} {M0 : Nat → Nat → Bool} (h0 : ∀ g p, M0 g p = true → ∀ q ∈ nextD bk l ts up g p, M0 q.1 q.2 = true) :
    Inv bk l ts up last a M0 (mks [(2 * last, a)] (M0, [])).1 (mks [(2 * last, a)] (M0, [])).2 (fun _ => false) := by
  refine ⟨fun q hq => ?_, fun g p h => ?_, fun p h => (by cases h), fun X hX hs ha g p h => ?_, fun g p h => mks_keep _ _ _ _ h, mks_all [(2 * last, a)] _ (2 * last, a) (List.mem_singleton.2 rfl)⟩
  · rcases mks_old _ _ q hq with h | ⟨h, h2⟩
    · simp at h
    · exact ⟨h2, h⟩
  · rcases mks_fresh _ _ g p h with h | h
    · exact .inr ⟨fun q hq => mks_keep _ _ _ _ (h0 g p h q hq), fun _ => .inl h⟩
    · exact .inl h
  · rcases mks_new _ _ g p h with h | h
    · exact hs g p h
    · obtain ⟨rfl, rfl⟩ : g = 2 * last ∧ p = a := by simpa using h
      exact ha
theorem Inv.step {bk : Bool} {l : List UInt8} {ts : List Nd} {up : Nat → Nat} {last a : Nat} {M0 M : Nat → Nat → Bool} {F : List (Nat × Nat)} {g p : Nat} {T T' : Nat → Bool} (h : Inv bk l ts up last a M0 M (F ++ [(g, p)]) T)
    (hT : (g ≠ 2 * last + 1 ∧ T' = T) ∨ (g = 2 * last + 1 ∧ T' = setT T p)) :
    Inv bk l ts up last a M0 (mks (nextD bk l ts up g p) (M, F)).1 (mks (nextD bk l ts up g p) (M, F)).2 T' := by
  have hgp := h.i1 (g, p) (List.mem_append_right _ (List.mem_singleton.2 rfl))
  have hTm : ∀ q, T q = true → T' q = true := fun q hq => by
    rcases hT with ⟨_, rfl⟩ | ⟨_, rfl⟩
    · exact hq
    · unfold setT; split
      · rfl
      · exact hq
  refine ⟨fun q hq => ?_, fun g' p' hm => ?_, fun p' hp' => ?_, fun X hX hs ha g' p' hm => ?_, fun g' p' hm => mks_keep _ _ _ _ (h.i5 g' p' hm), mks_keep _ _ _ _ h.i6⟩
  · rcases mks_old _ _ q hq with h2 | ⟨h2, h3⟩
    · obtain ⟨h4, h5⟩ := h.i1 q (List.mem_append_left _ h2)
      exact ⟨mks_keep _ _ _ _ h4, h5⟩
    · refine ⟨h3, ?_⟩
      cases hM : M0 q.1 q.2 with
      | false => rfl
      | true => have := h.i5 _ _ hM; dsimp only at h2; rw [this] at h2; cases h2
  · rcases mks_fresh _ _ g' p' hm with h2 | h2
    · rcases h.i2 g' p' h2 with h3 | ⟨h3, h4⟩
      · rcases List.mem_append.1 h3 with h5 | h5
        · exact .inl (mks_sub _ _ _ h5)
        · obtain ⟨rfl, rfl⟩ : g' = g ∧ p' = p := by simpa using h5
          refine .inr ⟨fun q hq => mks_all _ _ q hq, fun hg => ?_⟩
          rcases hT with ⟨h6, _⟩ | ⟨_, rfl⟩
          · exact absurd hg h6
          · right; unfold setT; rw [if_pos rfl]
      · exact .inr ⟨fun q hq => mks_keep _ _ _ _ (h3 q hq), fun hg => (h4 hg).imp id (hTm _)⟩
    · exact .inl h2
  · rcases hT with ⟨_, rfl⟩ | ⟨hg, rfl⟩
    · obtain ⟨h2, h3⟩ := h.i3 p' hp'
      exact ⟨mks_keep _ _ _ _ h2, h3⟩
    · by_cases e : p' = p
      · subst e
        rw [← hg]
        exact ⟨mks_keep _ _ _ _ hgp.1, hgp.2⟩
      · unfold setT at hp'
        rw [if_neg e] at hp'
        obtain ⟨h2, h3⟩ := h.i3 p' hp'
        exact ⟨mks_keep _ _ _ _ h2, h3⟩
  · rcases mks_new _ _ g' p' hm with h2 | h2
    · exact h.i4 X hX hs ha g' p' h2
    · exact hX g p (h.i4 X hX hs ha g p hgp.1) (g', p') h2
/-- What a search leaves. -/
structure Done (bk : Bool) (l : List UInt8) (ts : List Nd) (up : Nat → Nat) (last a : Nat) (M0 M : Nat → Nat → Bool) : Prop where
  closed : ∀ g p, M g p = true → ∀ q ∈ nextD bk l ts up g p, M q.1 q.2 = true
  least : ∀ X : Nat → Nat → Prop, Closed bk l ts up X → (∀ g p, M0 g p = true → X g p) → X (2 * last) a → ∀ g p, M g p = true → X g p
  old : ∀ g p, M0 g p = true → M g p = true
  src : M (2 * last) a = true
theorem Inv.done {bk : Bool} {l : List UInt8} {ts : List Nd} {up : Nat → Nat} {last a : Nat} {M0 M : Nat → Nat → Bool} {T : Nat → Bool} (h : Inv bk l ts up last a M0 M [] T) :
    Done bk l ts up last a M0 M ∧ T = fun p => M (2 * last + 1) p && !M0 (2 * last + 1) p := by
  refine ⟨⟨fun g p hm q hq => ?_, h.i4, h.i5, h.i6⟩, ?_⟩
  · rcases h.i2 g p hm with h2 | ⟨h2, _⟩
    · simp at h2
    · exact h2 q hq
  · funext p
    cases hT : T p with
    | true => obtain ⟨h1, h2⟩ := h.i3 p hT; rw [h1, h2]; rfl
    | false =>
      cases hM : M (2 * last + 1) p with
      | false => rfl
      | true =>
        rcases h.i2 _ _ hM with h2 | ⟨_, h2⟩
        · simp at h2
        · rcases h2 rfl with h3 | h3
          · rw [h3]; rfl
          · rw [hT] at h3; cases h3
end Go.Proofs.Ytgffmbdbjbhocaa
namespace Go.Proofs.Ytgffmbdbjbhocaa
open Go.RowKit Go.Lib

/-- Has a node this one as a kid? -/
def isKid (n : Nd) (i : Nat) : Prop := ((n.k = 2 ∨ n.k = 3 ∨ n.k = 4 ∨ n.k = 5 ∨ n.k = 6) ∧ n.x = (i : Int)) ∨ ((n.k = 2 ∨ n.k = 3) ∧ n.y = (i : Int))
theorem up_kid {up : Nat → Nat} : ∀ (t : Tr) (n : Nat), t.ok → UpOk up t n → ∀ r, n ≤ r → r + 1 < n + t.size → ∃ nd : Nd, r < up r ∧ up r < n + t.size ∧ (t.row n)[up r - n]? = some nd ∧ isKid nd r
  | .leaf k, n, _, _, r, h1, h2 => by have ez : (Tr.leaf k).size = 1 := rfl; omega
  | .set k, n, _, _, r, h1, h2 => by have ez : (Tr.set k).size = 1 := rfl; omega
  | .rep k a, n, hok, hu, r, h1, h2 => by
    have ez : (Tr.rep k a).size = a.size + 1 := rfl
    have hl := Tr.row_length a n
    have hz := a.size_pos
    by_cases h : r + 1 < n + a.size
    · obtain ⟨nd, e1, e2, e3, e4⟩ := up_kid a n hok.2 hu.2 r h1 h
      refine ⟨nd, e1, by omega, ?_, e4⟩
      show (a.row n ++ [_])[up r - n]? = _
      rw [List.getElem?_append_left (by omega)]
      exact e3
    · have hr : r = n + a.size - 1 := by omega
      have e := hu.1
      rw [← hr] at e
      have hk := hok.1
      refine ⟨⟨(k : Int), k0, (n : Int) + a.size - 1, 0⟩, by omega, by omega, ?_, .inl ⟨by dsimp only; omega, by dsimp only; omega⟩⟩
      show (a.row n ++ [_])[up r - n]? = _
      rw [List.getElem?_append_right (by omega), hl, e]
      simp
  | .two k a b, n, hok, hu, r, h1, h2 => by
    have ez : (Tr.two k a b).size = a.size + b.size + 1 := rfl
    have hl := Tr.row_length a n
    have hl2 := Tr.row_length b (n + a.size)
    have hz := a.size_pos
    have hz2 := b.size_pos
    have hk := hok.1
    by_cases h : r + 1 < n + a.size
    · obtain ⟨nd, e1, e2, e3, e4⟩ := up_kid a n hok.2.1 hu.2.2.1 r h1 h
      refine ⟨nd, e1, by omega, ?_, e4⟩
      show (a.row n ++ _)[up r - n]? = _
      rw [List.getElem?_append_left (by omega)]
      exact e3
    · by_cases h3 : r + 1 = n + a.size
      · have hr : r = n + a.size - 1 := by omega
        have e := hu.1
        rw [← hr] at e
        refine ⟨⟨(k : Int), k0, (n : Int) + a.size - 1, (n : Int) + a.size + b.size - 1⟩, by omega, by omega, ?_, .inl ⟨by dsimp only; omega, by dsimp only; omega⟩⟩
        show (a.row n ++ (b.row (n + a.size) ++ [_]))[up r - n]? = _
        rw [List.getElem?_append_right (by omega), List.getElem?_append_right (by omega), hl, hl2, e]
        rw [show n + a.size + b.size - n - a.size - b.size = 0 by omega]
        rfl
      · by_cases h4 : r + 1 < n + a.size + b.size
        · obtain ⟨nd, e1, e2, e3, e4⟩ := up_kid b (n + a.size) hok.2.2 hu.2.2.2 r (by omega) h4
          refine ⟨nd, e1, by omega, ?_, e4⟩
          show (a.row n ++ (b.row (n + a.size) ++ [_]))[up r - n]? = _
          rw [List.getElem?_append_right (by omega), hl, List.getElem?_append_left (by omega), ← e3]
          congr 1
          omega
        · have hr : r = n + a.size + b.size - 1 := by omega
          have e := hu.2.1
          rw [← hr] at e
          refine ⟨⟨(k : Int), k0, (n : Int) + a.size - 1, (n : Int) + a.size + b.size - 1⟩, by omega, by omega, ?_, .inr ⟨by dsimp only; omega, by dsimp only; omega⟩⟩
          show (a.row n ++ (b.row (n + a.size) ++ [_]))[up r - n]? = _
          rw [List.getElem?_append_right (by omega), List.getElem?_append_right (by omega), hl, hl2, e]
          rw [show n + a.size + b.size - n - a.size - b.size = 0 by omega]
          rfl
theorem Tree.up {ts : List Nd} {up : Nat → Nat} {T : Tr} (h : Tree ts up T) {r : Nat} (hr : r + 1 < ts.length) : ∃ n, r < up r ∧ up r < ts.length ∧ ts[up r]? = some n ∧ isKid n r := by
  have hl := h.len
  obtain ⟨nd, e1, e2, e3, e4⟩ := up_kid T 0 h.ok h.occ.up r (by omega) (by omega)
  exact ⟨nd, e1, by omega, by rw [h.row]; exact e3, e4⟩
end Go.Proofs.Ytgffmbdbjbhocaa
