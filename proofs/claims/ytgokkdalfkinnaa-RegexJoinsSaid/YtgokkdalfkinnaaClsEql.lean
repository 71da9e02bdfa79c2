/- Two classes compared: the words are. No condition. -/
import Derived.Test.YtgokkdalfkinnaaClsMath
import Derived.Laws.StructEq
import Derived.WalkSpells
import Derived.WalkLawsBesides
namespace Go.Proofs.Ytgokkdalfkinnaa
open Go.RowKit

theorem run_equalIn_word (n : Nat) (a b : Int) (w : World) : (Op.equalIn (n + 1) 41 (.int .u64 a) (.int .u64 b)).run Try.prog w = .ok (a == b) w := run_equalIn_int w n 41 .u64 .u64 a b Try.underlying41
theorem run_part_word (xs : Array Value) (o : Nat) (v : Value) (w : World) (h : xs[o]? = some v) : (part 41 xs o).run Try.prog w = .ok v w := by
  simp [part, Sem.run_bind, Try.isAgg41, Result.andThen, h]
set_option maxRecDepth 20000 in
theorem eql_cls (n : Nat) (a b c d e f g h : Int) (w : World) :
    (Op.equalIn (n + 1 + 1) 43 (.agg #[.int .u64 a, .int .u64 b, .int .u64 c, .int .u64 d]) (.agg #[.int .u64 e, .int .u64 f, .int .u64 g, .int .u64 h])).run Try.prog w = .ok (a == e && (b == f && (c == g && d == h))) w := by
  rw [Op.equalIn]
  simp only [Sem.run_bind, run_underlying Try.underlying43, Result.andThen_ok, Try.sizeOf41]
  simp only [Std.Legacy.Range.forIn_eq_forIn_range', Std.Legacy.Range.size, List.range', List.forIn_cons, List.forIn_nil]
  simp only [Nat.zero_mul, Nat.zero_add, Nat.mul_one, Nat.one_add, Nat.reduceAdd]
  obtain ⟨p, hp⟩ : ∃ p, (a == e) = p := ⟨_, rfl⟩
  obtain ⟨q, hq⟩ : ∃ p, (b == f) = p := ⟨_, rfl⟩
  obtain ⟨r, hr⟩ : ∃ p, (c == g) = p := ⟨_, rfl⟩
  obtain ⟨s, hs⟩ : ∃ p, (d == h) = p := ⟨_, rfl⟩
  have r0 := fun w => run_equalIn_word n a e w
  have r1 := fun w => run_equalIn_word n b f w
  have r2 := fun w => run_equalIn_word n c g w
  have r3 := fun w => run_equalIn_word n d h w
  rw [hp] at r0
  rw [hq] at r1
  rw [hr] at r2
  rw [hs] at r3
  rw [hp, hq, hr, hs]
  clear hp hq hr hs
  have x0 := fun w => run_part_word #[.int .u64 a, .int .u64 b, .int .u64 c, .int .u64 d] 0 _ w rfl
  have x1 := fun w => run_part_word #[.int .u64 a, .int .u64 b, .int .u64 c, .int .u64 d] 1 _ w rfl
  have x2 := fun w => run_part_word #[.int .u64 a, .int .u64 b, .int .u64 c, .int .u64 d] 2 _ w rfl
  have x3 := fun w => run_part_word #[.int .u64 a, .int .u64 b, .int .u64 c, .int .u64 d] 3 _ w rfl
  have y0 := fun w => run_part_word #[.int .u64 e, .int .u64 f, .int .u64 g, .int .u64 h] 0 _ w rfl
  have y1 := fun w => run_part_word #[.int .u64 e, .int .u64 f, .int .u64 g, .int .u64 h] 1 _ w rfl
  have y2 := fun w => run_part_word #[.int .u64 e, .int .u64 f, .int .u64 g, .int .u64 h] 2 _ w rfl
  have y3 := fun w => run_part_word #[.int .u64 e, .int .u64 f, .int .u64 g, .int .u64 h] 3 _ w rfl
  cases p <;> cases q <;> cases r <;> cases s <;> simp [Sem.run_bind, Result.andThen, r0, r1, r2, r3, x0, x1, x2, x3, y0, y1, y2, y3]
/-- '==' of two classes, as the walk meets it. -/
theorem run_eql_cls (a b c d e f g h : Int) (w : World) :
    (binOp .eql 43 (.agg #[.int .u64 a, .int .u64 b, .int .u64 c, .int .u64 d]) (.agg #[.int .u64 e, .int .u64 f, .int .u64 g, .int .u64 h])).run Try.prog w = .ok (.bool (a == e && (b == f && (c == g && d == h)))) w := by
  rw [run_eql_struct, eql_cls]
  rfl
end Go.Proofs.Ytgokkdalfkinnaa
