/- Which rows are trees, by a stack; where a tree stands in a row. No condition. -/
import Derived.Test.YtolofcfegoeenaaReLies
import Derived.Laws.CopyOwn
namespace Go.Proofs.Ytolofcfegoeenaa
open Go.RowKit Go.Lib

def ints (st : List Int) : List Value := st.map (Value.int .i64)
/-- The kids that a node must have, so many of them, above a stack. -/
def wantL (st : List Int) (m : Int) : Int × Int :=
  if m = 1 then (st.getLast?.getD 0, 0) else if m = 2 then (st.dropLast.getLast?.getD 0, st.getLast?.getD 0) else (0, 0)
def rightStep (st : List Int) (j : Nat) (n : Nd) : Option (List Int) :=
  if kidsN n.k < 0 ∨ (st.length : Int) < kidsN n.k then none
  else if ¬ (n.x = (wantL st (kidsN n.k)).1 ∧ n.y = (wantL st (kidsN n.k)).2) ∨ (n.k ≠ 1 ∧ n.s ≠ k0) then none
  else some (st.take (st.length - (kidsN n.k).toNat) ++ [(j : Int)])
def rightRun : List Nd → Nat → List Int → Option (List Int)
  | [], _, st => some st
  | n :: ts, j, st => (rightStep st j n).bind (rightRun ts (j + 1))
def rightD (ts : List Nd) : Bool := if 2000 < ts.length then false else match rightRun ts 0 [] with | some st => st.length == 1 | none => false

/-- Two kids compared. -/
theorem eql_two (n : Nat) (a b c d : Int) (w : World) : (Op.equalIn (n + 1 + 1) 41 (.agg #[.int .i64 a, .int .i64 b]) (.agg #[.int .i64 c, .int .i64 d])).run Try.prog w = .ok (a == c && b == d) w := by
  rw [Op.equalIn]
  simp only [Sem.run_bind, run_underlying Try.underlying41, Result.andThen_ok, Try.sizeOf3]
  simp only [Std.Legacy.Range.forIn_eq_forIn_range', Std.Legacy.Range.size, List.range', List.forIn_cons, List.forIn_nil]
  simp only [Nat.zero_add, Nat.mul_one]
  have r0 : ∀ w, (Op.equalIn (n + 1) 3 (.int .i64 a) (.int .i64 c)).run Try.prog w = .ok (a == c) w := fun w => run_equalIn_int w n 3 .i64 .i64 a c Try.underlying3
  have r1 : ∀ w, (Op.equalIn (n + 1) 3 (.int .i64 b) (.int .i64 d)).run Try.prog w = .ok (b == d) w := fun w => run_equalIn_int w n 3 .i64 .i64 b d Try.underlying3
  have rp : ∀ (xs : Array Value) (o : Nat) (v : Value) (w : World), xs[o]? = some v → (part 3 xs o).run Try.prog w = .ok v w := fun xs o v w h => by
    simp [part, Sem.run_bind, Try.isAgg3, Result.andThen, h]
  have x0 := fun w => rp #[.int .i64 a, .int .i64 b] 0 _ w rfl
  have x1 := fun w => rp #[.int .i64 a, .int .i64 b] 1 _ w rfl
  have y0 := fun w => rp #[.int .i64 c, .int .i64 d] 0 _ w rfl
  have y1 := fun w => rp #[.int .i64 c, .int .i64 d] 1 _ w rfl
  cases hp : (a == c) <;> cases hq : (b == d) <;> simp [Sem.run_bind, Result.andThen, r0, r1, x0, x1, y0, y1, hp, hq]
/-- A tree's last node. -/
def Tr.node : Tr → Nat → Nd
  | .leaf j, _ => ⟨j, k0, 0, 0⟩
  | .set k, _ => ⟨1, k, 0, 0⟩
  | .rep j a, n => ⟨j, k0, (n : Int) + a.size - 1, 0⟩
  | .two j a b, n => ⟨j, k0, (n : Int) + a.size - 1, (n : Int) + a.size + b.size - 1⟩
/-- A tree's nodes stand in a row from some place on. -/
def Sub (ts : List Nd) (t : Tr) (n : Nat) : Prop := ∀ j, j < t.size → ts[n + j]? = (t.row n)[j]?
theorem row_root : ∀ (t : Tr) (n : Nat), (t.row n)[t.size - 1]? = some (t.node n)
  | .leaf _, _ => rfl
  | .set _, _ => rfl
  | .rep j a, n => by
    show (a.row n ++ [_])[a.size + 1 - 1]? = _
    rw [List.getElem?_append_right (by rw [Tr.row_length]; omega), Tr.row_length, show a.size + 1 - 1 - a.size = 0 by omega]
    rfl
  | .two j a b, n => by
    show (a.row n ++ (b.row (n + a.size) ++ [_]))[a.size + b.size + 1 - 1]? = _
    rw [List.getElem?_append_right (by rw [Tr.row_length]; omega), Tr.row_length, List.getElem?_append_right (by rw [Tr.row_length]; omega), Tr.row_length, show a.size + b.size + 1 - 1 - a.size - b.size = 0 by omega]
    rfl
theorem Sub.root {ts : List Nd} {t : Tr} {n r : Nat} (h : Sub ts t n) (hr : r + 1 = n + t.size) : ts[r]? = some (t.node n) := by
  have hp := t.size_pos
  have := h (t.size - 1) (by omega)
  rw [row_root] at this
  rwa [show n + (t.size - 1) = r by omega] at this
theorem Sub.rep {ts : List Nd} {j : Nat} {a : Tr} {n : Nat} (h : Sub ts (.rep j a) n) : Sub ts a n := fun i hi => by
  rw [h i (by show i < a.size + 1; omega)]
  show (a.row n ++ [_])[i]? = _
  rw [List.getElem?_append_left (by rw [Tr.row_length]; exact hi)]
theorem Sub.fst {ts : List Nd} {j : Nat} {a b : Tr} {n : Nat} (h : Sub ts (.two j a b) n) : Sub ts a n := fun i hi => by
  rw [h i (by show i < a.size + b.size + 1; omega)]
  show (a.row n ++ (b.row (n + a.size) ++ [_]))[i]? = _
  rw [List.getElem?_append_left (by rw [Tr.row_length]; exact hi)]
theorem Sub.snd {ts : List Nd} {j : Nat} {a b : Tr} {n : Nat} (h : Sub ts (.two j a b) n) : Sub ts b (n + a.size) := fun i hi => by
  rw [Nat.add_assoc, h (a.size + i) (by show a.size + i < a.size + b.size + 1; omega)]
  show (a.row n ++ (b.row (n + a.size) ++ [_]))[a.size + i]? = _
  rw [List.getElem?_append_right (by rw [Tr.row_length]; omega), Tr.row_length, List.getElem?_append_left (by rw [Tr.row_length]; omega), show a.size + i - a.size = i by omega]
theorem sub_row (t : Tr) : Sub (t.row 0) t 0 := fun j _ => by rw [Nat.zero_add]

theorem run_row : ∀ (t : Tr), t.ok → ∀ (n : Nat) (rest : List Nd) (st : List Int), rightRun (t.row n ++ rest) n st = rightRun rest (n + t.size) (st ++ [(n : Int) + t.size - 1])
  | .leaf j, hok, n, rest, st => by
    have hk : kidsN (j : Int) = 0 := by rcases hok with rfl | rfl | rfl <;> rfl
    show (rightStep st n ⟨(j : Int), k0, 0, 0⟩).bind (rightRun rest (n + 1)) = _
    have e : rightStep st n ⟨(j : Int), k0, 0, 0⟩ = some (st ++ [(n : Int)]) := by
      unfold rightStep wantL
      simp [hk]
    rw [e]
    show rightRun rest (n + 1) (st ++ [(n : Int)]) = rightRun rest (n + 1) (st ++ [(n : Int) + ((1 : Nat) : Int) - 1])
    rw [show (n : Int) + ((1 : Nat) : Int) - 1 = n by omega]
  | .set k, _, n, rest, st => by
    show (rightStep st n ⟨1, k, 0, 0⟩).bind (rightRun rest (n + 1)) = _
    have e : rightStep st n ⟨1, k, 0, 0⟩ = some (st ++ [(n : Int)]) := by
      have hk : kidsN 1 = 0 := rfl
      unfold rightStep wantL
      simp [hk]
    rw [e]
    show rightRun rest (n + 1) (st ++ [(n : Int)]) = rightRun rest (n + 1) (st ++ [(n : Int) + ((1 : Nat) : Int) - 1])
    rw [show (n : Int) + ((1 : Nat) : Int) - 1 = n by omega]
  | .rep j a, hok, n, rest, st => by
    have hk : kidsN (j : Int) = 1 := by rcases hok.1 with rfl | rfl | rfl <;> rfl
    show rightRun ((a.row n ++ [_]) ++ rest) n st = _
    rw [List.append_assoc, run_row a hok.2 n]
    show (rightStep _ (n + a.size) ⟨(j : Int), k0, (n : Int) + a.size - 1, 0⟩).bind (rightRun rest (n + a.size + 1)) = _
    have e : rightStep (st ++ [(n : Int) + a.size - 1]) (n + a.size) ⟨(j : Int), k0, (n : Int) + a.size - 1, 0⟩ = some (st ++ [((n + a.size : Nat) : Int)]) := by
      unfold rightStep wantL
      simp [hk]
      omega
    rw [e]
    show rightRun rest (n + a.size + 1) _ = rightRun rest (n + (a.size + 1)) (st ++ [(n : Int) + ((a.size + 1 : Nat) : Int) - 1])
    rw [show (n : Int) + ((a.size + 1 : Nat) : Int) - 1 = ((n + a.size : Nat) : Int) by omega]
    rfl
  | .two j a b, hok, n, rest, st => by
    have hk : kidsN (j : Int) = 2 := by rcases hok.1 with rfl | rfl <;> rfl
    have hj1 : ¬ (j : Int) = 1 := by rcases hok.1 with rfl | rfl <;> decide
    show rightRun ((a.row n ++ (b.row (n + a.size) ++ [_])) ++ rest) n st = _
    rw [List.append_assoc, run_row a hok.2.1 n, List.append_assoc, run_row b hok.2.2 (n + a.size)]
    show (rightStep _ (n + a.size + b.size) ⟨(j : Int), k0, (n : Int) + a.size - 1, (n : Int) + a.size + b.size - 1⟩).bind (rightRun rest (n + a.size + b.size + 1)) = _
    have e : rightStep ((st ++ [(n : Int) + a.size - 1]) ++ [((n + a.size : Nat) : Int) + b.size - 1]) (n + a.size + b.size) ⟨(j : Int), k0, (n : Int) + a.size - 1, (n : Int) + a.size + b.size - 1⟩ = some (st ++ [((n + a.size + b.size : Nat) : Int)]) := by
      have e1 : (st ++ [(n : Int) + a.size - 1]) ++ [((n + a.size : Nat) : Int) + b.size - 1] = st ++ [(n : Int) + a.size - 1, (n : Int) + a.size + b.size - 1] := by
        rw [List.append_assoc]
        congr 2
      rw [e1]
      have hw : wantL (st ++ [(n : Int) + a.size - 1, (n : Int) + a.size + b.size - 1]) 2 = ((n : Int) + a.size - 1, (n : Int) + a.size + b.size - 1) := by
        unfold wantL
        simp
      have hl : (st ++ [(n : Int) + a.size - 1, (n : Int) + a.size + b.size - 1]).length = st.length + 2 := by simp
      unfold rightStep
      dsimp only
      rw [hk, hw, if_neg (by rw [hl]; omega), if_neg (by rintro (h | ⟨_, h⟩) <;> exact h (by first | exact ⟨rfl, rfl⟩ | rfl)), hl]
      simp
    rw [e]
    show rightRun rest (n + a.size + b.size + 1) _ = rightRun rest (n + (a.size + b.size + 1)) (st ++ [(n : Int) + ((a.size + b.size + 1 : Nat) : Int) - 1])
    rw [show (n : Int) + ((a.size + b.size + 1 : Nat) : Int) - 1 = ((n + a.size + b.size : Nat) : Int) by omega, show n + a.size + b.size + 1 = n + (a.size + b.size + 1) by omega]
end Go.Proofs.Ytolofcfegoeenaa
