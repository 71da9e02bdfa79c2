/- Packed texts: ReSame, ReRefSame. What each of them proves stands above its theorems; the conditions stand in these. -/
import Derived.Test.YtgceckejchdnlaaGreatDoorB32
namespace Go.Proofs.YtgceckejchdnlaaGreatDoor
open Go.RowKit Go.Lib

/-- Two nodes compared. -/
def ndEq (m n : Nd) : Bool := m.k == n.k && (((m.s.a.toNat : Int) == (n.s.a.toNat : Int) && ((m.s.b.toNat : Int) == (n.s.b.toNat : Int) && ((m.s.c.toNat : Int) == (n.s.c.toNat : Int) && (m.s.d.toNat : Int) == (n.s.d.toNat : Int)))) && (m.x == n.x && m.y == n.y))
theorem Tryz.structRe : Tryz.prog.underlying 72 = some (.struct (Tryz.prog.fieldsOf 72)) := by kernel_rfl
theorem Tryz.heldRe : Tryz.prog.stoodInHeld 72 = false := by kernel_rfl
theorem Tryz.fieldsRe : (Tryz.prog.fieldsOf 72).toList.map (fun f => (f.name, f.type, f.offset)) = [("Kind", 3, 0), ("Set", 69, 1), ("Kids", 70, 5)] := by kernel_rfl
theorem part_int (xs : Array Value) (o : Nat) (v : Value) (w : World) (h : xs[o]? = some v) : (part 3 xs o).run Tryz.prog w = .ok v w := by
  simp [part, Sem.run_bind, Tryz.isAgg3, Result.andThen, h]
theorem part_cls (a b c d e f g : Value) (w : World) : (part 69 #[a, b, c, d, e, f, g] 1).run Tryz.prog w = .ok (.agg #[b, c, d, e]) w := by
  simp [part, Sem.run_bind, Tryz.isAgg69, Tryz.sizeOf69, Result.andThen]
theorem part_two (a b c d e f g : Value) (w : World) : (part 70 #[a, b, c, d, e, f, g] 5).run Tryz.prog w = .ok (.agg #[f, g]) w := by
  simp [part, Sem.run_bind, Tryz.isAgg70, Tryz.sizeOf70, Result.andThen]
theorem eql_node (k : Nat) (m n : Nd) (w : World) : (Op.equalIn (k + 1 + 1 + 1) 72 m.val n.val).run Tryz.prog w = .ok (ndEq m n) w := by
  unfold Nd.val
  rw [run_equalIn_struct w _ 72 _ _ Tryz.structRe Tryz.heldRe]
  have hf := Tryz.fieldsRe
  obtain ⟨fs, hfs⟩ : ∃ fs, fs = (Tryz.prog.fieldsOf 72).toList := ⟨_, rfl⟩
  rw [← hfs] at hf ⊢
  clear hfs
  obtain ⟨f1, f2, f3, rfl⟩ : ∃ f1 f2 f3, fs = [f1, f2, f3] := by
    cases fs with
    | nil => cases hf
    | cons f1 fs =>
      cases fs with
      | nil => simp at hf
      | cons f2 fs =>
        cases fs with
        | nil => simp at hf
        | cons f3 fs =>
          cases fs with
          | nil => exact ⟨f1, f2, f3, rfl⟩
          | cons f4 fs => simp at hf
  · simp only [List.map_cons, List.map_nil, List.cons.injEq, Prod.mk.injEq, and_true] at hf
    obtain ⟨⟨n1, t1, o1⟩, ⟨n2, t2, o2⟩, ⟨n3, t3, o3⟩⟩ := hf
    have r1 : ∀ w, (Op.equalIn (k + 1 + 1) 3 (.int .i64 m.k) (.int .i64 n.k)).run Tryz.prog w = .ok (m.k == n.k) w := fun w => run_equalIn_int w (k + 1) 3 .i64 .i64 m.k n.k Tryz.underlying3
    have r2 := fun w => eql_cls k (m.s.a.toNat : Int) (m.s.b.toNat : Int) (m.s.c.toNat : Int) (m.s.d.toNat : Int) (n.s.a.toNat : Int) (n.s.b.toNat : Int) (n.s.c.toNat : Int) (n.s.d.toNat : Int) w
    have r3 := fun w => eql_two k m.x m.y n.x n.y w
    have p1 : ∀ (b c d e f g : Value) (i : Int) w, (part 3 #[.int .i64 i, b, c, d, e, f, g] 0).run Tryz.prog w = .ok (.int .i64 i) w := fun b c d e f g i w => part_int _ 0 _ w rfl
    unfold wd ndEq
    cases h1 : (m.k == n.k) <;> cases h2 : ((m.s.a.toNat : Int) == (n.s.a.toNat : Int) && ((m.s.b.toNat : Int) == (n.s.b.toNat : Int) && ((m.s.c.toNat : Int) == (n.s.c.toNat : Int) && (m.s.d.toNat : Int) == (n.s.d.toNat : Int)))) <;> cases h3 : (m.x == n.x && m.y == n.y) <;> (rw [h1] at r1; rw [h2] at r2; rw [h3] at r3; simp [Op.eqFields, Sem.run_bind, Result.andThen, n1, n2, n3, t1, t2, t3, o1, o2, o3, p1, part_cls, part_two, r1, r2, r3])
theorem k4_beq' (m n : K4) : ((m.a.toNat : Int) == (n.a.toNat : Int) && ((m.b.toNat : Int) == (n.b.toNat : Int) && ((m.c.toNat : Int) == (n.c.toNat : Int) && (m.d.toNat : Int) == (n.d.toNat : Int)))) = true → m = n := fun h => by
  simp only [Bool.and_eq_true, beq_iff_eq] at h
  obtain ⟨a, b, c, d⟩ := m
  obtain ⟨p, q, r, s⟩ := n
  dsimp only at h
  have z : ∀ x y : BitVec 64, (x.toNat : Int) = (y.toNat : Int) → x = y := fun x y hx => BitVec.eq_of_toNat_eq (by omega)
  rw [z a p h.1, z b q h.2.1, z c r h.2.2.1, z d s h.2.2.2]
theorem ndEq_iff (m n : Nd) : ndEq m n = true ↔ m = n := by
  constructor
  · intro h
    unfold ndEq at h
    obtain ⟨h1, h⟩ := (Bool.and_eq_true _ _).mp h
    obtain ⟨h2, h⟩ := (Bool.and_eq_true _ _).mp h
    obtain ⟨h3, h4⟩ := (Bool.and_eq_true _ _).mp h
    rw [beq_iff_eq] at h1 h3 h4
    obtain ⟨k, s, x, y⟩ := m
    obtain ⟨k', s', x', y'⟩ := n
    dsimp only at h1 h2 h3 h4
    rw [h1, k4_beq' _ _ h2, h3, h4]
  · intro h; rw [h]; unfold ndEq; simp
theorem run_neq_node (m n : Nd) (w : World) : (binOp .neq 72 m.val n.val).run Tryz.prog w = .ok (.bool (!ndEq m n)) w := by
  have h := eql_node 9997 m n w
  unfold Nd.val at h ⊢
  rw [run_neq_struct, h]
  rfl
end Go.Proofs.YtgceckejchdnlaaGreatDoor
namespace Go.Proofs.YtgceckejchdnlaaGreatDoor
open Go.RowKit Go.Lib

theorem lies_none {ao : Option Addr} {N cap : Nat} {ts : List Nd} {w : World} (h : Lies (.slice ao N cap) ts w) : N = ts.length ∧ ts.length ≤ 140737488355328 := by
  obtain ⟨_, _, h1, h2, _⟩ := h
  cases h1
  exact ⟨rfl, h2⟩
set_option maxHeartbeats 2000000 in
set_option maxRecDepth 20000 in
theorem same_len (ao bo : Option Addr) (N M cap cap2 : Nat) (w : World) (_hN : N ≤ 140737488355328) (_hM : M ≤ 140737488355328) (h : N ≠ M) :
    Calls Tryz.prog 21 #[.slice ao N cap, .slice bo M cap2] w fun e w' => e = .returned (.bool false) ∧ Below w.heap.size w w' := by
  have h1 : ((N : Int) != (M : Int)) = true := by simp; omega
  go_enter Tryz.func21, Tryz.ntmps21
  go_wp2
  exact bodyPost_ret (results_tmp rfl _ _ _) rfl ⟨rfl, Below.refl _ _⟩
set_option maxHeartbeats 2000000 in
set_option maxRecDepth 20000 in
theorem same_walk (ao bo : Option Addr) (N cap cap2 : Nat) (xs ys : List Nd) (w : World) (h : Lies (.slice ao N cap) xs w) (h2 : Lies (.slice bo N cap2) ys w) :
    Calls Tryz.prog 21 #[.slice ao N cap, .slice bo N cap2] w fun e w' => e = .returned (.bool (decide (xs = ys))) ∧ Below w.heap.size w w' := by
  obtain ⟨hN, hNl⟩ := lies_none h
  obtain ⟨hM, _⟩ := lies_none h2
  have H := Lib.hid h
  have H2 := Lib.hid h2
  have hNl : N ≤ 140737488355328 := by omega
  have HN := Lib.hid (And.intro hN hM)
  have h1 : ((N : Int) != (N : Int)) = false := by simp
  clear h h2 hN hM
  go_enter Tryz.func21, Tryz.ntmps21
  go_wp2
  go_loopg [5] (N + 1) (fun k i wr => ∃ (j : Nat), i = .int .i64 j ∧ j ≤ N ∧ Hid (k = N + 1 - j) ∧ Hid (∀ q, q < j → xs[q]? = ys[q]?) ∧ Hid (Below w.heap.size w wr))
  case atStart => exact ⟨0, rfl, by omega, rfl, fun q hq => by omega, Below.refl _ _⟩
  case round =>
    obtain ⟨j, rfl, hj, HK, HS, HB⟩ := hrel
    by_cases hlt : j < N
    · obtain ⟨m, hm⟩ : ∃ n, xs[j]? = some n := ⟨xs[j]'(by have := HN.out.1; omega), List.getElem?_eq_getElem _⟩
      obtain ⟨n, hn⟩ : ∃ n, ys[j]? = some n := ⟨ys[j]'(by have := HN.out.2; omega), List.getElem?_eq_getElem _⟩
      obtain ⟨b, o, rfl, hb, ha⟩ := H.out.at hm
      obtain ⟨b2, o2, rfl, hb2, ha2⟩ := H2.out.at hn
      obtain ⟨a0, a1, a2, a3, a4, a5, a6⟩ := ha.below HB.out hb
      obtain ⟨c0, c1, c2, c3, c4, c5, c6⟩ := ha2.below HB.out hb2
      have hI : IntKind.i64.wrap ((j : Int) + 1) = ((j + 1 : Nat) : Int) := by rw [IntWalk.i64_in _ (by omega)]; omega
      have e := run_neq_node m n
      obtain ⟨q, hq⟩ : ∃ q, ndEq m n = q := ⟨_, rfl⟩
      rw [hq] at e
      unfold Nd.val wd at e
      unfold wd at a1 a2 a3 a4 c1 c2 c3 c4
      have HQ := Lib.hid (And.intro hq (And.intro hm hn))
      clear hq hm hn ha ha2
      cases q
      · have hne : xs ≠ ys := fun e => by
          have h1 := HQ.out.2.1
          rw [e, HQ.out.2.2] at h1
          have h2 := HQ.out.1
          rw [(ndEq_iff m n).2 (Option.some.inj h1).symm] at h2
          cases h2
        have HD := Lib.hid (decide_eq_false hne)
        clear hne
        go_wp2_with fail
        go_region
        all_goals
          go_wp2
          exact bodyPost_ret (results_tmp rfl _ _ _) rfl ⟨by rw [HD.out]; rfl, HB.out.drew⟩
      · go_wp2_with fail
        go_region
        all_goals
          go_wp2
          go_roundg (N - j)
          case rel => exact ⟨j + 1, by go_num, by omega, by show _ = _; omega, fun q hq => by
            by_cases hqj : q = j
            · rw [hqj, HQ.out.2.1, HQ.out.2.2, (ndEq_iff m n).1 HQ.out.1]
            · exact HS.out q (by omega), HB.out.drew⟩
          case measure => have := HK.out; omega
    · have hd : decide ((j : Int) < (N : Int)) = false := by simp; omega
      have heq : xs = ys := by
        apply List.ext_getElem?
        intro q
        by_cases hq : q < j
        · exact HS.out q hq
        · rw [List.getElem?_eq_none (by have := HN.out.1; omega), List.getElem?_eq_none (by have := HN.out.2; omega)]
      have HD := Lib.hid (decide_eq_true heq)
      clear heq
      go_wp2
      exact bodyPost_ret (results_tmp rfl _ _ _) rfl ⟨by rw [HD.out]; rfl, HB.out⟩
/-- The document's Same. -/
theorem same_any (u v : Value) (xs ys : List Nd) (w : World) (h : Lies u xs w) (h2 : Lies v ys w) :
    Calls Tryz.prog 21 #[u, v] w fun e w' => e = .returned (.bool (decide (xs = ys))) ∧ Below w.heap.size w w' := by
  have h' := h
  have h2' := h2
  obtain ⟨ao, cap, rfl, hl, _⟩ := h
  obtain ⟨bo, cap2, rfl, hl2, _⟩ := h2
  by_cases hN : xs.length = ys.length
  · rw [← hN] at h2' ⊢
    exact same_walk ao bo xs.length cap cap2 xs ys w h' h2'
  · have hD : decide (xs = ys) = false := decide_eq_false fun e => hN (by rw [e])
    rw [hD]
    exact same_len ao bo _ _ cap cap2 w hl hl2 hN
end Go.Proofs.YtgceckejchdnlaaGreatDoor
