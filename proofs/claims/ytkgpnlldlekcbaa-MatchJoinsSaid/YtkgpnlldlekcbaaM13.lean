/- Packed texts: MaUp. What each of them proves stands above its theorems; the conditions stand in these. -/
import Derived.Test.YtkgpnlldlekcbaaM9
namespace Go.Proofs.Ytkgpnlldlekcbaa
open Go.RowKit Go.Lib

def upStep (f : Nat → Nat) (st : List Int) (j m : Nat) : Nat → Nat := fun q => if (q : Int) ∈ st.drop (st.length - m) then j else f q
def upRun : List Nd → Nat → List Int → (Nat → Nat) → (Nat → Nat)
  | [], _, _, f => f
  | n :: ts, j, st, f => match rightStep st j n with
    | some st' => upRun ts (j + 1) st' (upStep f st j (kidsN n.k).toNat)
    | none => f
theorem upStep_zero (f : Nat → Nat) (st : List Int) (j : Nat) : upStep f st j 0 = f := by
  funext q
  unfold upStep
  rw [if_neg]
  rw [List.drop_of_length_le (by omega)]
  simp
theorem upStep_one (f : Nat → Nat) (st : List Int) (x : Int) (j : Nat) : upStep f (st ++ [x]) j 1 = fun q : Nat => if (q : Int) = x then j else f q := by
  funext q
  unfold upStep
  have : (st ++ [x]).drop ((st ++ [x]).length - 1) = [x] := by rw [List.length_append]; simp
  rw [this]
  simp
theorem upStep_two (f : Nat → Nat) (st : List Int) (x y : Int) (j : Nat) : upStep f (st ++ [x, y]) j 2 = fun q : Nat => if (q : Int) = x ∨ (q : Int) = y then j else f q := by
  funext q
  unfold upStep
  have : (st ++ [x, y]).drop ((st ++ [x, y]).length - 2) = [x, y] := by rw [List.length_append]; simp
  rw [this]
  simp
theorem UpOk.congr {f g : Nat → Nat} : ∀ {t : Tr} {n : Nat}, UpOk f t n → (∀ q, n ≤ q → q + 1 < n + t.size → g q = f q) → UpOk g t n
  | .leaf _, _, _, _ => trivial
  | .set _, _, _, _ => trivial
  | .rep _ x, n, h, k => by
    have hp := x.size_pos
    have ez : ∀ j, (Tr.rep j x).size = x.size + 1 := fun _ => rfl
    refine ⟨(k _ (by omega) (by rw [ez]; omega)).trans h.1, h.2.congr fun q h1 h2 => k q h1 (by rw [ez]; omega)⟩
  | .two _ x y, n, h, k => by
    have hp := x.size_pos
    have hq := y.size_pos
    have ez : ∀ j, (Tr.two j x y).size = x.size + y.size + 1 := fun _ => rfl
    refine ⟨(k _ (by omega) (by rw [ez]; omega)).trans h.1, (k _ (by omega) (by rw [ez]; omega)).trans h.2.1, h.2.2.1.congr fun q h1 h2 => k q h1 (by rw [ez]; omega), h.2.2.2.congr fun q h1 h2 => k q (by omega) (by rw [ez]; omega)⟩
theorem upRun_cons {n : Nd} {ts : List Nd} {j : Nat} {st st' : List Int} {f : Nat → Nat} (h : rightStep st j n = some st') : upRun (n :: ts) j st f = upRun ts (j + 1) st' (upStep f st j (kidsN n.k).toNat) := by
  show (match rightStep st j n with | some st' => upRun ts (j + 1) st' (upStep f st j (kidsN n.k).toNat) | none => f) = _
  rw [h]
theorem up_row : ∀ (t : Tr), t.ok → ∀ (n : Nat) (rest : List Nd) (st : List Int) (f : Nat → Nat), ∃ f', upRun (t.row n ++ rest) n st f = upRun rest (n + t.size) (st ++ [(n : Int) + t.size - 1]) f' ∧ UpOk f' t n ∧ ∀ q, q < n ∨ n + t.size ≤ q + 1 → f' q = f q
  | .leaf j, hok, n, rest, st, f => by
    have hk : kidsN (j : Int) = 0 := by rcases hok with rfl | rfl | rfl <;> rfl
    have e : rightStep st n ⟨(j : Int), k0, 0, 0⟩ = some (st ++ [(n : Int)]) := by
      unfold rightStep wantL
      simp [hk]
    refine ⟨f, ?_, trivial, fun _ _ => rfl⟩
    show upRun (⟨(j : Int), k0, 0, 0⟩ :: rest) n st f = upRun rest (n + 1) (st ++ [(n : Int) + ((1 : Nat) : Int) - 1]) f
    rw [upRun_cons e, show (n : Int) + ((1 : Nat) : Int) - 1 = n by omega]
    dsimp only
    rw [hk]
    show upRun rest (n + 1) _ (upStep f st n 0) = _
    rw [upStep_zero]
  | .set k, _, n, rest, st, f => by
    have hk : kidsN 1 = 0 := rfl
    have e : rightStep st n ⟨1, k, 0, 0⟩ = some (st ++ [(n : Int)]) := by
      unfold rightStep wantL
      simp [hk]
    refine ⟨f, ?_, trivial, fun _ _ => rfl⟩
    show upRun (⟨1, k, 0, 0⟩ :: rest) n st f = upRun rest (n + 1) (st ++ [(n : Int) + ((1 : Nat) : Int) - 1]) f
    rw [upRun_cons e, show (n : Int) + ((1 : Nat) : Int) - 1 = n by omega]
    dsimp only
    rw [hk]
    show upRun rest (n + 1) _ (upStep f st n 0) = _
    rw [upStep_zero]
  | .rep j a, hok, n, rest, st, f => by
    have hk : kidsN (j : Int) = 1 := by rcases hok.1 with rfl | rfl | rfl <;> rfl
    have hp := a.size_pos
    obtain ⟨f1, h1, h2, h3⟩ := up_row a hok.2 n ([⟨(j : Int), k0, (n : Int) + a.size - 1, 0⟩] ++ rest) st f
    have e : rightStep (st ++ [(n : Int) + a.size - 1]) (n + a.size) ⟨(j : Int), k0, (n : Int) + a.size - 1, 0⟩ = some (st ++ [((n + a.size : Nat) : Int)]) := by
      unfold rightStep wantL
      simp [hk]
      omega
    refine ⟨upStep f1 (st ++ [(n : Int) + a.size - 1]) (n + a.size) 1, ?_, ?_, ?_⟩
    · show upRun ((a.row n ++ [_]) ++ rest) n st f = _
      rw [List.append_assoc, h1]
      show upRun (⟨(j : Int), k0, (n : Int) + a.size - 1, 0⟩ :: rest) (n + a.size) _ f1 = upRun rest (n + (a.size + 1)) (st ++ [(n : Int) + ((a.size + 1 : Nat) : Int) - 1]) _
      rw [upRun_cons e, show (n : Int) + ((a.size + 1 : Nat) : Int) - 1 = ((n + a.size : Nat) : Int) by omega]
      dsimp only
      rw [hk]
      rfl
    · rw [upStep_one]
      refine ⟨by dsimp only; rw [if_pos (by omega)], h2.congr fun q hq1 hq2 => by rw [if_neg (by omega)]⟩
    · intro q hq
      have ez : (Tr.rep j a).size = a.size + 1 := rfl
      rw [ez] at hq
      rw [upStep_one]
      dsimp only
      rw [if_neg (by omega), h3 q (by omega)]
  | .two j a b, hok, n, rest, st, f => by
    have hk : kidsN (j : Int) = 2 := by rcases hok.1 with rfl | rfl <;> rfl
    have hj1 : ¬ (j : Int) = 1 := by rcases hok.1 with rfl | rfl <;> decide
    have hp := a.size_pos
    have hq := b.size_pos
    obtain ⟨f1, h1, h2, h3⟩ := up_row a hok.2.1 n (b.row (n + a.size) ++ ([⟨(j : Int), k0, (n : Int) + a.size - 1, (n : Int) + a.size + b.size - 1⟩] ++ rest)) st f
    obtain ⟨f2, g1, g2, g3⟩ := up_row b hok.2.2 (n + a.size) ([⟨(j : Int), k0, (n : Int) + a.size - 1, (n : Int) + a.size + b.size - 1⟩] ++ rest) (st ++ [(n : Int) + a.size - 1]) f1
    have e1 : (st ++ [(n : Int) + a.size - 1]) ++ [((n + a.size : Nat) : Int) + b.size - 1] = st ++ [(n : Int) + a.size - 1, (n : Int) + a.size + b.size - 1] := by
      rw [List.append_assoc]
      congr 2
    have e : rightStep (st ++ [(n : Int) + a.size - 1, (n : Int) + a.size + b.size - 1]) (n + a.size + b.size) ⟨(j : Int), k0, (n : Int) + a.size - 1, (n : Int) + a.size + b.size - 1⟩ = some (st ++ [((n + a.size + b.size : Nat) : Int)]) := by
      have hw : wantL (st ++ [(n : Int) + a.size - 1, (n : Int) + a.size + b.size - 1]) 2 = ((n : Int) + a.size - 1, (n : Int) + a.size + b.size - 1) := by
        unfold wantL
        simp
      have hl : (st ++ [(n : Int) + a.size - 1, (n : Int) + a.size + b.size - 1]).length = st.length + 2 := by simp
      unfold rightStep
      dsimp only
      rw [hk, hw, if_neg (by rw [hl]; omega), if_neg (by rintro (h | ⟨_, h⟩) <;> exact h (by first | exact ⟨rfl, rfl⟩ | rfl)), hl]
      simp
    refine ⟨upStep f2 (st ++ [(n : Int) + a.size - 1, (n : Int) + a.size + b.size - 1]) (n + a.size + b.size) 2, ?_, ?_, ?_⟩
    · show upRun ((a.row n ++ (b.row (n + a.size) ++ [_])) ++ rest) n st f = _
      rw [List.append_assoc, List.append_assoc, h1, g1, e1]
      show upRun (⟨(j : Int), k0, (n : Int) + a.size - 1, (n : Int) + a.size + b.size - 1⟩ :: rest) (n + a.size + b.size) _ f2 = upRun rest (n + (a.size + b.size + 1)) (st ++ [(n : Int) + ((a.size + b.size + 1 : Nat) : Int) - 1]) _
      rw [upRun_cons e, show (n : Int) + ((a.size + b.size + 1 : Nat) : Int) - 1 = ((n + a.size + b.size : Nat) : Int) by omega, show n + a.size + b.size + 1 = n + (a.size + b.size + 1) by omega]
      dsimp only
      rw [hk]
      rfl
    · rw [upStep_two]
      refine ⟨by dsimp only; rw [if_pos (by omega)], by dsimp only; rw [if_pos (by omega)], h2.congr fun q hq1 hq2 => ?_, g2.congr fun q hq1 hq2 => ?_⟩
      · rw [if_neg (by omega), g3 q (by omega)]
      · rw [if_neg (by omega)]
    · intro q hq
      have ez : (Tr.two j a b).size = a.size + b.size + 1 := rfl
      rw [ez] at hq
      rw [upStep_two]
      dsimp only
      rw [if_neg (by omega), g3 q (by omega), h3 q (by omega)]
theorem up_drop {ts : List Nd} {j : Nat} {n : Nd} {st st' : List Int} {f : Nat → Nat} (h : ts[j]? = some n) (hs : rightStep st j n = some st') : upRun (ts.drop j) j st f = upRun (ts.drop (j + 1)) (j + 1) st' (upStep f st j (kidsN n.k).toNat) := by
  have hlt : j < ts.length := by
    by_cases hl : j < ts.length
    · exact hl
    · rw [List.getElem?_eq_none (by omega)] at h; cases h
  rw [List.getElem?_eq_getElem hlt] at h
  cases h
  rw [List.drop_eq_getElem_cons hlt, upRun_cons hs]
/-- What the whole row's run gives. -/
def upT (T : Tr) : Nat → Nat := upRun (T.row 0) 0 [] (fun _ => 0)
theorem upT_occ (T : Tr) (hok : T.ok) : Occ (T.row 0) (upT T) T 0 := by
  obtain ⟨f', h1, h2, _⟩ := up_row T hok 0 [] [] (fun _ => 0)
  refine ⟨sub_row T, hok, ?_, by rw [Tr.row_length]; omega⟩
  unfold upT
  rw [List.append_nil] at h1
  rw [h1]
  exact h2
end Go.Proofs.Ytkgpnlldlekcbaa
