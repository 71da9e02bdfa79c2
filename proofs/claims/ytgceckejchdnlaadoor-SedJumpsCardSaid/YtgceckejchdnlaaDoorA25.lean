/- Packed texts: SeGood, ReSame, ReRefSame. What each of them proves stands above its theorems; the conditions stand in these. -/
import Derived.Deep.LoopGhost
import Derived.Laws.CopyOwn
import Derived.Test.YtgceckejchdnlaaDoorA13
import Derived.Test.YtgceckejchdnlaaDoorA17
import Derived.Test.YtgceckejchdnlaaDoorA18
namespace Go.Proofs.YtgceckejchdnlaaDoor
open Go.RowKit Go.Lib

def Ad.good : Ad → Prop
  | .line n => 1 ≤ n ∧ n ≤ 1000000000
  | .re t => t.ok ∧ t.size ≤ 2000
  | _ => True
structure Cm.Good (c : Cm) : Prop where
  a : c.a.good
  b : c.b.good
  ab : c.a.k = 0 → c.b.k = 0
  kind : (c.op = 115 ∧ (∃ t, c.re = some t ∧ t.ok ∧ t.size ≤ 2000) ∧ c.put ≠ [] ∧ c.label = [])
    ∨ ((c.re = none ∧ c.put = [] ∧ c.all = false ∧ c.prt = false) ∧
      (((c.op = 98 ∨ c.op = 116) ∧ (c.label = [] ∨ isNameB c.label = true))
        ∨ (c.op = 58 ∧ c.a.k = 0 ∧ c.neg = false ∧ isNameB c.label = true)
        ∨ (plainS.contains c.op = true ∧ c.label = [])))
def Rok (R : List UInt8 → Res) : Prop := ∀ p t l, R p = .ok t l → t.ok ∧ t.size ≤ 2000
theorem treeP_good {R : List UInt8 → Res} (hR : Rok R) {l r : List UInt8} {t : Tr} (h : treeP R l = .ok t r) : t.ok ∧ t.size ≤ 2000 := by
  unfold treeP at h
  split at h
  · cases h
  · rename_i p r' _
    cases hp : R p with
    | ok t' l' => rw [hp] at h; cases h; exact hR _ _ _ hp
    | bad e => rw [hp] at h; cases h
theorem readR_ne : ∀ (f : Nat) (l : List UInt8) (acc : List (List UInt8)) (now : List UInt8) (ys : List (List UInt8)), readR f l acc now = some ys → ys ≠ []
  | 0, _, _, _, _, h => by cases h
  | f + 1, l, acc, now, ys, h => by
    unfold readR at h
    split at h
    · cases h; simp
    · split at h
      · cases h
      · exact readR_ne f _ _ _ _ h
      · exact readR_ne f _ _ _ _ h
theorem putP_good {l r : List UInt8} {ys : List (List UInt8)} (h : putP l = .ok ys r) : ys ≠ [] := by
  unfold putP at h
  split at h
  · cases h
  · split at h
    · rename_i hp; cases h; exact readR_ne _ _ _ _ _ hp
    · cases h
theorem adP_good {R : List UInt8 → Res} (hR : Rok R) {l r : List UInt8} {a : Ad} (h : adP R l = .ok a r) : a.good := by
  cases l with
  | nil => cases h; exact trivial
  | cons c l =>
    unfold adP at h
    dsimp only at h
    split at h
    · cases h; exact trivial
    · split at h
      · obtain ⟨t, r', ht, h⟩ := got_bind h
        cases h
        exact treeP_good hR ht
      · split at h
        · obtain ⟨n, r', hn, h⟩ := got_bind h
          cases h
          unfold lineP at hn
          split at hn
          · rename_i h1; cases hn; exact h1
          · cases hn
        · cases h; exact trivial
theorem secP_good {R : List UInt8 → Res} (hR : Rok R) {a b : Ad} {l r : List UInt8} (h : secP R a l = .ok b r) : b.good ∧ (a.k = 0 → b.k = 0) := by
  unfold secP at h
  split at h
  · rename_i h1
    obtain ⟨b', r', hb, h⟩ := got_bind h
    split at h
    · cases h
    · cases h; exact ⟨adP_good hR hb, fun e => absurd e h1.1⟩
  · cases h; exact ⟨trivial, fun _ => rfl⟩
theorem tw_all (p : UInt8 → Bool) : ∀ l : List UInt8, (l.takeWhile p).all p = true
  | [] => rfl
  | c :: l => by
    unfold List.takeWhile
    split
    · rename_i h; simp only [List.all_cons, h, Bool.true_and]; exact tw_all p l
    · rfl
theorem labP_good {l r y : List UInt8} (h : labP l = .ok y r) : isNameB y = true := by
  cases l with
  | nil => cases h
  | cons c l =>
    unfold labP at h
    dsimp only at h
    split at h
    · rename_i hc
      cases h
      show (!(c :: l.takeWhile restOk).isEmpty && (isLet c && (l.takeWhile restOk).all restOk)) = true
      rw [hc, tw_all]; rfl
    · cases h
theorem letP_good {R : List UInt8 → Res} (hR : Rok R) {a b : Ad} {neg : Bool} {l r : List UInt8} {c : Cm} (ha : a.good) (hb : b.good ∧ (a.k = 0 → b.k = 0)) (h : letP R a b neg l = .ok c r) : c.Good := by
  cases l with
  | nil => cases h
  | cons o l =>
    unfold letP at h
    dsimp only at h
    split at h
    · rename_i h1
      cases l with
      | nil => cases h
      | cons d l1 =>
        dsimp only at h
        split at h
        · obtain ⟨t, l2, ht, h⟩ := got_bind h
          obtain ⟨ys, l3, hy, h⟩ := got_bind h
          cases h
          exact ⟨ha, hb.1, hb.2, .inl ⟨h1, ⟨t, rfl, treeP_good hR ht⟩, putP_good hy, rfl⟩⟩
        · cases h
    · split at h
      · rename_i h2
        split at h
        · cases h
          exact ⟨ha, hb.1, hb.2, .inr ⟨⟨rfl, rfl, rfl, rfl⟩, .inl ⟨h2, .inl rfl⟩⟩⟩
        · obtain ⟨y, r', hy, h⟩ := got_bind h
          cases h
          exact ⟨ha, hb.1, hb.2, .inr ⟨⟨rfl, rfl, rfl, rfl⟩, .inl ⟨h2, .inr (labP_good hy)⟩⟩⟩
      · split at h
        · rename_i h3
          split at h
          · rename_i h4
            obtain ⟨y, r', hy, h⟩ := got_bind h
            cases h
            exact ⟨ha, hb.1, hb.2, .inr ⟨⟨rfl, rfl, rfl, rfl⟩, .inr (.inl ⟨h3, h4.1, h4.2, labP_good hy⟩)⟩⟩
          · cases h
        · split at h
          · rename_i h5
            cases h
            exact ⟨ha, hb.1, hb.2, .inr ⟨⟨rfl, rfl, rfl, rfl⟩, .inr (.inr ⟨h5, rfl⟩)⟩⟩
          · cases h
theorem comP_good {R : List UInt8 → Res} (hR : Rok R) {l r : List UInt8} {c : Cm} (h : comP R l = .ok c r) : c.Good := by
  unfold comP at h
  obtain ⟨a, l1, ha, h⟩ := got_bind h
  obtain ⟨b, l2, hb, h⟩ := got_bind h
  obtain ⟨c', l3, hc, h⟩ := got_bind h
  have := letP_good hR (adP_good hR ha) (secP_good hR hb) hc
  split at h
  · cases h; exact this
  · cases h
theorem scr_good {R : List UInt8 → Res} (hR : Rok R) : ∀ (k : Nat) (l : List UInt8) (cs ds : List Cm), l.length = k → scr R l cs = .ok ds → (∀ c ∈ cs, c.Good) → ∀ c ∈ ds, c.Good := by
  intro k
  induction k using Nat.strongRecOn with
  | ind k ih =>
    intro l cs ds hk h hc
    rw [scr_eq] at h
    rcases scrS_ok h with ⟨he, rfl⟩ | ⟨c, l1, d, l2, he, h1, h2, h3, h4⟩
    · exact hc
    · have hd := dw_len sepS l
      rw [he] at hd
      have hl := comP_len h3
      refine ih l2.length (by omega) l2 _ _ rfl h4 fun c' hc' => ?_
      rcases List.mem_append.mp hc' with h | h
      · exact hc c' h
      · rw [List.mem_singleton] at h; subst h; exact comP_good hR h3

end Go.Proofs.YtgceckejchdnlaaDoor
namespace Go.Proofs.YtgceckejchdnlaaDoor
open Go.RowKit Go.Lib

/-- Two nodes compared. -/
def ndEq (m n : Nd) : Bool := m.k == n.k && (((m.s.a.toNat : Int) == (n.s.a.toNat : Int) && ((m.s.b.toNat : Int) == (n.s.b.toNat : Int) && ((m.s.c.toNat : Int) == (n.s.c.toNat : Int) && (m.s.d.toNat : Int) == (n.s.d.toNat : Int)))) && (m.x == n.x && m.y == n.y))
theorem Tryd.structRe : Tryd.prog.underlying 58 = some (.struct (Tryd.prog.fieldsOf 58)) := by kernel_rfl
theorem Tryd.heldRe : Tryd.prog.stoodInHeld 58 = false := by kernel_rfl
theorem Tryd.fieldsRe : (Tryd.prog.fieldsOf 58).toList.map (fun f => (f.name, f.type, f.offset)) = [("Kind", 3, 0), ("Set", 55, 1), ("Kids", 56, 5)] := by kernel_rfl
theorem part_int (xs : Array Value) (o : Nat) (v : Value) (w : World) (h : xs[o]? = some v) : (part 3 xs o).run Tryd.prog w = .ok v w := by
  simp [part, Sem.run_bind, Tryd.isAgg3, Result.andThen, h]
theorem part_cls (a b c d e f g : Value) (w : World) : (part 55 #[a, b, c, d, e, f, g] 1).run Tryd.prog w = .ok (.agg #[b, c, d, e]) w := by
  simp [part, Sem.run_bind, Tryd.isAgg55, Tryd.sizeOf55, Result.andThen]
theorem part_two (a b c d e f g : Value) (w : World) : (part 56 #[a, b, c, d, e, f, g] 5).run Tryd.prog w = .ok (.agg #[f, g]) w := by
  simp [part, Sem.run_bind, Tryd.isAgg56, Tryd.sizeOf56, Result.andThen]
theorem eql_node (k : Nat) (m n : Nd) (w : World) : (Op.equalIn (k + 1 + 1 + 1) 58 m.val n.val).run Tryd.prog w = .ok (ndEq m n) w := by
  unfold Nd.val
  rw [run_equalIn_struct w _ 58 _ _ Tryd.structRe Tryd.heldRe]
  have hf := Tryd.fieldsRe
  obtain ⟨fs, hfs⟩ : ∃ fs, fs = (Tryd.prog.fieldsOf 58).toList := ⟨_, rfl⟩
  rw [← hfs] at hf ⊢
  clear hfs
  obtain ⟨f1, f2, f3, rfl⟩ : ∃ f1 f2 f3, fs = [f1, f2, f3] := by
    cases fs with
    | nil => cases hf
    | cons f1 fs =>
      cases fs with
      | nil => simp at hf
      | cons f2 fs =>
        cases fs with
        | nil => simp at hf
        | cons f3 fs =>
          cases fs with
          | nil => exact ⟨f1, f2, f3, rfl⟩
          | cons f4 fs => simp at hf
  · simp only [List.map_cons, List.map_nil, List.cons.injEq, Prod.mk.injEq, and_true] at hf
    obtain ⟨⟨n1, t1, o1⟩, ⟨n2, t2, o2⟩, ⟨n3, t3, o3⟩⟩ := hf
    have r1 : ∀ w, (Op.equalIn (k + 1 + 1) 3 (.int .i64 m.k) (.int .i64 n.k)).run Tryd.prog w = .ok (m.k == n.k) w := fun w => run_equalIn_int w (k + 1) 3 .i64 .i64 m.k n.k Tryd.underlying3
    have r2 := fun w => eql_cls k (m.s.a.toNat : Int) (m.s.b.toNat : Int) (m.s.c.toNat : Int) (m.s.d.toNat : Int) (n.s.a.toNat : Int) (n.s.b.toNat : Int) (n.s.c.toNat : Int) (n.s.d.toNat : Int) w
    have r3 := fun w => eql_two k m.x m.y n.x n.y w
    have p1 : ∀ (b c d e f g : Value) (i : Int) w, (part 3 #[.int .i64 i, b, c, d, e, f, g] 0).run Tryd.prog w = .ok (.int .i64 i) w := fun b c d e f g i w => part_int _ 0 _ w rfl
    unfold wd ndEq
    cases h1 : (m.k == n.k) <;> cases h2 : ((m.s.a.toNat : Int) == (n.s.a.toNat : Int) && ((m.s.b.toNat : Int) == (n.s.b.toNat : Int) && ((m.s.c.toNat : Int) == (n.s.c.toNat : Int) && (m.s.d.toNat : Int) == (n.s.d.toNat : Int)))) <;> cases h3 : (m.x == n.x && m.y == n.y) <;> (rw [h1] at r1; rw [h2] at r2; rw [h3] at r3; simp [Op.eqFields, Sem.run_bind, Result.andThen, n1, n2, n3, t1, t2, t3, o1, o2, o3, p1, part_cls, part_two, r1, r2, r3])
theorem k4_beq' (m n : K4) : ((m.a.toNat : Int) == (n.a.toNat : Int) && ((m.b.toNat : Int) == (n.b.toNat : Int) && ((m.c.toNat : Int) == (n.c.toNat : Int) && (m.d.toNat : Int) == (n.d.toNat : Int)))) = true → m = n := fun h => by
  simp only [Bool.and_eq_true, beq_iff_eq] at h
  obtain ⟨a, b, c, d⟩ := m
  obtain ⟨p, q, r, s⟩ := n
  dsimp only at h
  have z : ∀ x y : BitVec 64, (x.toNat : Int) = (y.toNat : Int) → x = y := fun x y hx => BitVec.eq_of_toNat_eq (by omega)
  rw [z a p h.1, z b q h.2.1, z c r h.2.2.1, z d s h.2.2.2]
theorem ndEq_iff (m n : Nd) : ndEq m n = true ↔ m = n := by
  constructor
  · intro h
    unfold ndEq at h
    obtain ⟨h1, h⟩ := (Bool.and_eq_true _ _).mp h
    obtain ⟨h2, h⟩ := (Bool.and_eq_true _ _).mp h
    obtain ⟨h3, h4⟩ := (Bool.and_eq_true _ _).mp h
    rw [beq_iff_eq] at h1 h3 h4
    obtain ⟨k, s, x, y⟩ := m
    obtain ⟨k', s', x', y'⟩ := n
    dsimp only at h1 h2 h3 h4
    rw [h1, k4_beq' _ _ h2, h3, h4]
  · intro h; rw [h]; unfold ndEq; simp
theorem run_neq_node (m n : Nd) (w : World) : (binOp .neq 58 m.val n.val).run Tryd.prog w = .ok (.bool (!ndEq m n)) w := by
  have h := eql_node 9997 m n w
  unfold Nd.val at h ⊢
  rw [run_neq_struct, h]
  rfl
end Go.Proofs.YtgceckejchdnlaaDoor
namespace Go.Proofs.YtgceckejchdnlaaDoor
open Go.RowKit Go.Lib

theorem lies_none {ao : Option Addr} {N cap : Nat} {ts : List Nd} {w : World} (h : Lies (.slice ao N cap) ts w) : N = ts.length ∧ ts.length ≤ 140737488355328 := by
  obtain ⟨_, _, h1, h2, _⟩ := h
  cases h1
  exact ⟨rfl, h2⟩
set_option maxHeartbeats 2000000 in
set_option maxRecDepth 20000 in
theorem same_len (ao bo : Option Addr) (N M cap cap2 : Nat) (w : World) (_hN : N ≤ 140737488355328) (_hM : M ≤ 140737488355328) (h : N ≠ M) :
    Calls Tryd.prog 16 #[.slice ao N cap, .slice bo M cap2] w fun e w' => e = .returned (.bool false) ∧ Below w.heap.size w w' := by
  have h1 : ((N : Int) != (M : Int)) = true := by simp; omega
  go_enter Tryd.func16, Tryd.ntmps16
  go_wp2
  exact bodyPost_ret (results_tmp rfl _ _ _) rfl ⟨rfl, Below.refl _ _⟩
set_option maxHeartbeats 2000000 in
set_option maxRecDepth 20000 in
theorem same_walk (ao bo : Option Addr) (N cap cap2 : Nat) (xs ys : List Nd) (w : World) (h : Lies (.slice ao N cap) xs w) (h2 : Lies (.slice bo N cap2) ys w) :
    Calls Tryd.prog 16 #[.slice ao N cap, .slice bo N cap2] w fun e w' => e = .returned (.bool (decide (xs = ys))) ∧ Below w.heap.size w w' := by
  obtain ⟨hN, hNl⟩ := lies_none h
  obtain ⟨hM, _⟩ := lies_none h2
  have H := Lib.hid h
  have H2 := Lib.hid h2
  have hNl : N ≤ 140737488355328 := by omega
  have HN := Lib.hid (And.intro hN hM)
  have h1 : ((N : Int) != (N : Int)) = false := by simp
  clear h h2 hN hM
  go_enter Tryd.func16, Tryd.ntmps16
  go_wp2
  go_loopg [5] (N + 1) (fun k i wr => ∃ (j : Nat), i = .int .i64 j ∧ j ≤ N ∧ Hid (k = N + 1 - j) ∧ Hid (∀ q, q < j → xs[q]? = ys[q]?) ∧ Hid (Below w.heap.size w wr))
  case atStart => exact ⟨0, rfl, by omega, rfl, fun q hq => by omega, Below.refl _ _⟩
  case round =>
    obtain ⟨j, rfl, hj, HK, HS, HB⟩ := hrel
    by_cases hlt : j < N
    · obtain ⟨m, hm⟩ : ∃ n, xs[j]? = some n := ⟨xs[j]'(by have := HN.out.1; omega), List.getElem?_eq_getElem _⟩
      obtain ⟨n, hn⟩ : ∃ n, ys[j]? = some n := ⟨ys[j]'(by have := HN.out.2; omega), List.getElem?_eq_getElem _⟩
      obtain ⟨b, o, rfl, hb, ha⟩ := H.out.at hm
      obtain ⟨b2, o2, rfl, hb2, ha2⟩ := H2.out.at hn
      obtain ⟨a0, a1, a2, a3, a4, a5, a6⟩ := ha.below HB.out hb
      obtain ⟨c0, c1, c2, c3, c4, c5, c6⟩ := ha2.below HB.out hb2
      have hI : IntKind.i64.wrap ((j : Int) + 1) = ((j + 1 : Nat) : Int) := by rw [IntWalk.i64_in _ (by omega)]; omega
      have e := run_neq_node m n
      obtain ⟨q, hq⟩ : ∃ q, ndEq m n = q := ⟨_, rfl⟩
      rw [hq] at e
      unfold Nd.val wd at e
      unfold wd at a1 a2 a3 a4 c1 c2 c3 c4
      have HQ := Lib.hid (And.intro hq (And.intro hm hn))
      clear hq hm hn ha ha2
      cases q
      · have hne : xs ≠ ys := fun e => by
          have h1 := HQ.out.2.1
          rw [e, HQ.out.2.2] at h1
          have h2 := HQ.out.1
          rw [(ndEq_iff m n).2 (Option.some.inj h1).symm] at h2
          cases h2
        have HD := Lib.hid (decide_eq_false hne)
        clear hne
        go_wp2_with fail
        go_region
        all_goals
          go_wp2
          exact bodyPost_ret (results_tmp rfl _ _ _) rfl ⟨by rw [HD.out]; rfl, HB.out.drew⟩
      · go_wp2_with fail
        go_region
        all_goals
          go_wp2
          go_roundg (N - j)
          case rel => exact ⟨j + 1, by go_num, by omega, by show _ = _; omega, fun q hq => by
            by_cases hqj : q = j
            · rw [hqj, HQ.out.2.1, HQ.out.2.2, (ndEq_iff m n).1 HQ.out.1]
            · exact HS.out q (by omega), HB.out.drew⟩
          case measure => have := HK.out; omega
    · have hd : decide ((j : Int) < (N : Int)) = false := by simp; omega
      have heq : xs = ys := by
        apply List.ext_getElem?
        intro q
        by_cases hq : q < j
        · exact HS.out q hq
        · rw [List.getElem?_eq_none (by have := HN.out.1; omega), List.getElem?_eq_none (by have := HN.out.2; omega)]
      have HD := Lib.hid (decide_eq_true heq)
      clear heq
      go_wp2
      exact bodyPost_ret (results_tmp rfl _ _ _) rfl ⟨by rw [HD.out]; rfl, HB.out⟩
/-- The document's Same. -/
theorem same_any (u v : Value) (xs ys : List Nd) (w : World) (h : Lies u xs w) (h2 : Lies v ys w) :
    Calls Tryd.prog 16 #[u, v] w fun e w' => e = .returned (.bool (decide (xs = ys))) ∧ Below w.heap.size w w' := by
  have h' := h
  have h2' := h2
  obtain ⟨ao, cap, rfl, hl, _⟩ := h
  obtain ⟨bo, cap2, rfl, hl2, _⟩ := h2
  by_cases hN : xs.length = ys.length
  · rw [← hN] at h2' ⊢
    exact same_walk ao bo xs.length cap cap2 xs ys w h' h2'
  · have hD : decide (xs = ys) = false := decide_eq_false fun e => hN (by rw [e])
    rw [hD]
    exact same_len ao bo _ _ cap cap2 w hl hl2 hN
end Go.Proofs.YtgceckejchdnlaaDoor
