/- The document's Same: are two rows of nodes the same? Condition: both can be read. -/
import Derived.Test.YtgokkdalfkinnaaReRight
namespace Go.Proofs.Ytgokkdalfkinnaa
open Go.RowKit Go.Lib

/-- Two nodes compared. -/
def ndEq (m n : Nd) : Bool := m.k == n.k && (((m.s.a.toNat : Int) == (n.s.a.toNat : Int) && ((m.s.b.toNat : Int) == (n.s.b.toNat : Int) && ((m.s.c.toNat : Int) == (n.s.c.toNat : Int) && (m.s.d.toNat : Int) == (n.s.d.toNat : Int)))) && (m.x == n.x && m.y == n.y))
theorem Try.structRe : Try.prog.underlying 46 = some (.struct (Try.prog.fieldsOf 46)) := by kernel_rfl
theorem Try.heldRe : Try.prog.stoodInHeld 46 = false := by kernel_rfl
theorem Try.fieldsRe : (Try.prog.fieldsOf 46).toList.map (fun f => (f.name, f.type, f.offset)) = [("Kind", 3, 0), ("Set", 43, 1), ("Kids", 44, 5)] := by kernel_rfl
theorem part_int (xs : Array Value) (o : Nat) (v : Value) (w : World) (h : xs[o]? = some v) : (part 3 xs o).run Try.prog w = .ok v w := by
  simp [part, Sem.run_bind, Try.isAgg3, Result.andThen, h]
theorem part_cls (a b c d e f g : Value) (w : World) : (part 43 #[a, b, c, d, e, f, g] 1).run Try.prog w = .ok (.agg #[b, c, d, e]) w := by
  simp [part, Sem.run_bind, Try.isAgg43, Try.sizeOf43, Result.andThen]
theorem part_two (a b c d e f g : Value) (w : World) : (part 44 #[a, b, c, d, e, f, g] 5).run Try.prog w = .ok (.agg #[f, g]) w := by
  simp [part, Sem.run_bind, Try.isAgg44, Try.sizeOf44, Result.andThen]
theorem eql_node (k : Nat) (m n : Nd) (w : World) : (Op.equalIn (k + 1 + 1 + 1) 46 m.val n.val).run Try.prog w = .ok (ndEq m n) w := by
  unfold Nd.val
  rw [run_equalIn_struct w _ 46 _ _ Try.structRe Try.heldRe]
  have hf := Try.fieldsRe
  obtain ⟨fs, hfs⟩ : ∃ fs, fs = (Try.prog.fieldsOf 46).toList := ⟨_, rfl⟩
  rw [← hfs] at hf ⊢
  clear hfs
  obtain ⟨f1, f2, f3, rfl⟩ : ∃ f1 f2 f3, fs = [f1, f2, f3] := by
    cases fs with
    | nil => cases hf
    | cons f1 fs =>
      cases fs with
      | nil => simp at hf
      | cons f2 fs =>
        cases fs with
        | nil => simp at hf
        | cons f3 fs =>
          cases fs with
          | nil => exact ⟨f1, f2, f3, rfl⟩
          | cons f4 fs => simp at hf
  · simp only [List.map_cons, List.map_nil, List.cons.injEq, Prod.mk.injEq, and_true] at hf
    obtain ⟨⟨n1, t1, o1⟩, ⟨n2, t2, o2⟩, ⟨n3, t3, o3⟩⟩ := hf
    have r1 : ∀ w, (Op.equalIn (k + 1 + 1) 3 (.int .i64 m.k) (.int .i64 n.k)).run Try.prog w = .ok (m.k == n.k) w := fun w => run_equalIn_int w (k + 1) 3 .i64 .i64 m.k n.k Try.underlying3
    have r2 := fun w => eql_cls k (m.s.a.toNat : Int) (m.s.b.toNat : Int) (m.s.c.toNat : Int) (m.s.d.toNat : Int) (n.s.a.toNat : Int) (n.s.b.toNat : Int) (n.s.c.toNat : Int) (n.s.d.toNat : Int) w
    have r3 := fun w => eql_two k m.x m.y n.x n.y w
    have p1 : ∀ (b c d e f g : Value) (i : Int) w, (part 3 #[.int .i64 i, b, c, d, e, f, g] 0).run Try.prog w = .ok (.int .i64 i) w := fun b c d e f g i w => part_int _ 0 _ w rfl
    unfold wd ndEq
    cases h1 : (m.k == n.k) <;> cases h2 : ((m.s.a.toNat : Int) == (n.s.a.toNat : Int) && ((m.s.b.toNat : Int) == (n.s.b.toNat : Int) && ((m.s.c.toNat : Int) == (n.s.c.toNat : Int) && (m.s.d.toNat : Int) == (n.s.d.toNat : Int)))) <;> cases h3 : (m.x == n.x && m.y == n.y) <;> (rw [h1] at r1; rw [h2] at r2; rw [h3] at r3; simp [Op.eqFields, Sem.run_bind, Result.andThen, n1, n2, n3, t1, t2, t3, o1, o2, o3, p1, part_cls, part_two, r1, r2, r3])
theorem k4_beq' (m n : K4) : ((m.a.toNat : Int) == (n.a.toNat : Int) && ((m.b.toNat : Int) == (n.b.toNat : Int) && ((m.c.toNat : Int) == (n.c.toNat : Int) && (m.d.toNat : Int) == (n.d.toNat : Int)))) = true → m = n := fun h => by
  simp only [Bool.and_eq_true, beq_iff_eq] at h
  obtain ⟨a, b, c, d⟩ := m
  obtain ⟨p, q, r, s⟩ := n
  dsimp only at h
  have z : ∀ x y : BitVec 64, (x.toNat : Int) = (y.toNat : Int) → x = y := fun x y hx => BitVec.eq_of_toNat_eq (by omega)
  rw [z a p h.1, z b q h.2.1, z c r h.2.2.1, z d s h.2.2.2]
theorem ndEq_iff (m n : Nd) : ndEq m n = true ↔ m = n := by
  constructor
  · intro h
    unfold ndEq at h
    obtain ⟨h1, h⟩ := (Bool.and_eq_true _ _).mp h
    obtain ⟨h2, h⟩ := (Bool.and_eq_true _ _).mp h
    obtain ⟨h3, h4⟩ := (Bool.and_eq_true _ _).mp h
    rw [beq_iff_eq] at h1 h3 h4
    obtain ⟨k, s, x, y⟩ := m
    obtain ⟨k', s', x', y'⟩ := n
    dsimp only at h1 h2 h3 h4
    rw [h1, k4_beq' _ _ h2, h3, h4]
  · intro h; rw [h]; unfold ndEq; simp
theorem run_neq_node (m n : Nd) (w : World) : (binOp .neq 46 m.val n.val).run Try.prog w = .ok (.bool (!ndEq m n)) w := by
  have h := eql_node 9997 m n w
  unfold Nd.val at h ⊢
  rw [run_neq_struct, h]
  rfl
end Go.Proofs.Ytgokkdalfkinnaa
