/- Which rows are trees: by a stack, as package regex asks it. No condition. -/
import Derived.Test.YtgokkdalfkinnaaReKids
import Derived.Laws.CopyOwn
namespace Go.Proofs.Ytgokkdalfkinnaa
open Go.RowKit Go.Lib

def ints (st : List Int) : List Value := st.map (Value.int .i64)
/-- The kids that a node must have, so many of them, above a stack. -/
def wantL (st : List Int) (m : Int) : Int × Int :=
  if m = 1 then (st.getLast?.getD 0, 0) else if m = 2 then (st.dropLast.getLast?.getD 0, st.getLast?.getD 0) else (0, 0)
def rightStep (st : List Int) (j : Nat) (n : Nd) : Option (List Int) :=
  if kidsN n.k < 0 ∨ (st.length : Int) < kidsN n.k then none
  else if ¬ (n.x = (wantL st (kidsN n.k)).1 ∧ n.y = (wantL st (kidsN n.k)).2) ∨ (n.k ≠ 1 ∧ n.s ≠ k0) then none
  else some (st.take (st.length - (kidsN n.k).toNat) ++ [(j : Int)])
def rightRun : List Nd → Nat → List Int → Option (List Int)
  | [], _, st => some st
  | n :: ts, j, st => (rightStep st j n).bind (rightRun ts (j + 1))
def rightD (ts : List Nd) : Bool := if 2000 < ts.length then false else match rightRun ts 0 [] with | some st => st.length == 1 | none => false

/-- Two kids compared. -/
theorem eql_two (n : Nat) (a b c d : Int) (w : World) : (Op.equalIn (n + 1 + 1) 44 (.agg #[.int .i64 a, .int .i64 b]) (.agg #[.int .i64 c, .int .i64 d])).run Try.prog w = .ok (a == c && b == d) w := by
  rw [Op.equalIn]
  simp only [Sem.run_bind, run_underlying Try.underlying44, Result.andThen_ok, Try.sizeOf3]
  simp only [Std.Legacy.Range.forIn_eq_forIn_range', Std.Legacy.Range.size, List.range', List.forIn_cons, List.forIn_nil]
  simp only [Nat.zero_mul, Nat.zero_add, Nat.mul_one, Nat.one_add, Nat.reduceAdd]
  have r0 : ∀ w, (Op.equalIn (n + 1) 3 (.int .i64 a) (.int .i64 c)).run Try.prog w = .ok (a == c) w := fun w => run_equalIn_int w n 3 .i64 .i64 a c Try.underlying3
  have r1 : ∀ w, (Op.equalIn (n + 1) 3 (.int .i64 b) (.int .i64 d)).run Try.prog w = .ok (b == d) w := fun w => run_equalIn_int w n 3 .i64 .i64 b d Try.underlying3
  have rp : ∀ (xs : Array Value) (o : Nat) (v : Value) (w : World), xs[o]? = some v → (part 3 xs o).run Try.prog w = .ok v w := fun xs o v w h => by
    simp [part, Sem.run_bind, Try.isAgg3, Result.andThen, h]
  have x0 := fun w => rp #[.int .i64 a, .int .i64 b] 0 _ w rfl
  have x1 := fun w => rp #[.int .i64 a, .int .i64 b] 1 _ w rfl
  have y0 := fun w => rp #[.int .i64 c, .int .i64 d] 0 _ w rfl
  have y1 := fun w => rp #[.int .i64 c, .int .i64 d] 1 _ w rfl
  cases hp : (a == c) <;> cases hq : (b == d) <;> simp [Sem.run_bind, Result.andThen, r0, r1, x0, x1, y0, y1, hp, hq]
theorem run_neq_two (a b c d : Int) (w : World) : (binOp .neq 44 (.agg #[.int .i64 a, .int .i64 b]) (.agg #[.int .i64 c, .int .i64 d])).run Try.prog w = .ok (.bool (!(a == c && b == d))) w := by
  rw [run_neq_struct, eql_two]
  rfl
theorem run_neq_cls (a b c d e f g h : Int) (w : World) :
    (binOp .neq 43 (.agg #[.int .u64 a, .int .u64 b, .int .u64 c, .int .u64 d]) (.agg #[.int .u64 e, .int .u64 f, .int .u64 g, .int .u64 h])).run Try.prog w = .ok (.bool (!(a == e && (b == f && (c == g && d == h))))) w := by
  rw [run_neq_struct, eql_cls]
  rfl
end Go.Proofs.Ytgokkdalfkinnaa
