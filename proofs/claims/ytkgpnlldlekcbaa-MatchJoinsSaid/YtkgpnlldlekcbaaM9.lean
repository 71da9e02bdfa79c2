/- Packed texts: ReRun, ReOwn, MaMath. What each of them proves stands above its theorems; the conditions stand in these. -/
import Derived.Deep.LoopGhost
import Derived.Laws.CopyOwn
import Derived.Test.YtkgpnlldlekcbaaM3
namespace Go.Proofs.Ytkgpnlldlekcbaa
open Go.RowKit Go.Lib

def ints (st : List Int) : List Value := st.map (Value.int .i64)
/-- The kids that a node must have, so many of them, above a stack. -/
def wantL (st : List Int) (m : Int) : Int × Int :=
  if m = 1 then (st.getLast?.getD 0, 0) else if m = 2 then (st.dropLast.getLast?.getD 0, st.getLast?.getD 0) else (0, 0)
def rightStep (st : List Int) (j : Nat) (n : Nd) : Option (List Int) :=
  if kidsN n.k < 0 ∨ (st.length : Int) < kidsN n.k then none
  else if ¬ (n.x = (wantL st (kidsN n.k)).1 ∧ n.y = (wantL st (kidsN n.k)).2) ∨ (n.k ≠ 1 ∧ n.s ≠ k0) then none
  else some (st.take (st.length - (kidsN n.k).toNat) ++ [(j : Int)])
def rightRun : List Nd → Nat → List Int → Option (List Int)
  | [], _, st => some st
  | n :: ts, j, st => (rightStep st j n).bind (rightRun ts (j + 1))
/-- Two kids compared. -/
theorem eql_two (n : Nat) (a b c d : Int) (w : World) : (Op.equalIn (n + 1 + 1) 48 (.agg #[.int .i64 a, .int .i64 b]) (.agg #[.int .i64 c, .int .i64 d])).run Try.prog w = .ok (a == c && b == d) w := by
  rw [Op.equalIn]
  simp only [Sem.run_bind, run_underlying Try.underlying48, Result.andThen_ok, Try.sizeOf3]
  simp only [Std.Legacy.Range.forIn_eq_forIn_range', Std.Legacy.Range.size, List.range', List.forIn_cons, List.forIn_nil]
  simp only [Nat.zero_add, Nat.mul_one]
  have r0 : ∀ w, (Op.equalIn (n + 1) 3 (.int .i64 a) (.int .i64 c)).run Try.prog w = .ok (a == c) w := fun w => run_equalIn_int w n 3 .i64 .i64 a c Try.underlying3
  have r1 : ∀ w, (Op.equalIn (n + 1) 3 (.int .i64 b) (.int .i64 d)).run Try.prog w = .ok (b == d) w := fun w => run_equalIn_int w n 3 .i64 .i64 b d Try.underlying3
  have rp : ∀ (xs : Array Value) (o : Nat) (v : Value) (w : World), xs[o]? = some v → (part 3 xs o).run Try.prog w = .ok v w := fun xs o v w h => by
    simp [part, Sem.run_bind, Try.isAgg3, Result.andThen, h]
  have x0 := fun w => rp #[.int .i64 a, .int .i64 b] 0 _ w rfl
  have x1 := fun w => rp #[.int .i64 a, .int .i64 b] 1 _ w rfl
  have y0 := fun w => rp #[.int .i64 c, .int .i64 d] 0 _ w rfl
  have y1 := fun w => rp #[.int .i64 c, .int .i64 d] 1 _ w rfl
  cases hp : (a == c) <;> cases hq : (b == d) <;> simp [Sem.run_bind, Result.andThen, r0, r1, x0, x1, y0, y1, hp, hq]
/-- A tree's last node. -/
def Tr.node : Tr → Nat → Nd
  | .leaf j, _ => ⟨j, k0, 0, 0⟩
  | .set k, _ => ⟨1, k, 0, 0⟩
  | .rep j a, n => ⟨j, k0, (n : Int) + a.size - 1, 0⟩
  | .two j a b, n => ⟨j, k0, (n : Int) + a.size - 1, (n : Int) + a.size + b.size - 1⟩
/-- A tree's nodes stand in a row from some place on. -/
def Sub (ts : List Nd) (t : Tr) (n : Nat) : Prop := ∀ j, j < t.size → ts[n + j]? = (t.row n)[j]?
theorem row_root : ∀ (t : Tr) (n : Nat), (t.row n)[t.size - 1]? = some (t.node n)
  | .leaf _, _ => rfl
  | .set _, _ => rfl
  | .rep j a, n => by
    show (a.row n ++ [_])[a.size + 1 - 1]? = _
    rw [List.getElem?_append_right (by rw [Tr.row_length]; omega), Tr.row_length, show a.size + 1 - 1 - a.size = 0 by omega]
    rfl
  | .two j a b, n => by
    show (a.row n ++ (b.row (n + a.size) ++ [_]))[a.size + b.size + 1 - 1]? = _
    rw [List.getElem?_append_right (by rw [Tr.row_length]; omega), Tr.row_length, List.getElem?_append_right (by rw [Tr.row_length]; omega), Tr.row_length, show a.size + b.size + 1 - 1 - a.size - b.size = 0 by omega]
    rfl
theorem Sub.root {ts : List Nd} {t : Tr} {n r : Nat} (h : Sub ts t n) (hr : r + 1 = n + t.size) : ts[r]? = some (t.node n) := by
  have hp := t.size_pos
  have := h (t.size - 1) (by omega)
  rw [row_root] at this
  rwa [show n + (t.size - 1) = r by omega] at this
theorem Sub.rep {ts : List Nd} {j : Nat} {a : Tr} {n : Nat} (h : Sub ts (.rep j a) n) : Sub ts a n := fun i hi => by
  rw [h i (by show i < a.size + 1; omega)]
  show (a.row n ++ [_])[i]? = _
  rw [List.getElem?_append_left (by rw [Tr.row_length]; exact hi)]
theorem Sub.fst {ts : List Nd} {j : Nat} {a b : Tr} {n : Nat} (h : Sub ts (.two j a b) n) : Sub ts a n := fun i hi => by
  rw [h i (by show i < a.size + b.size + 1; omega)]
  show (a.row n ++ (b.row (n + a.size) ++ [_]))[i]? = _
  rw [List.getElem?_append_left (by rw [Tr.row_length]; exact hi)]
theorem Sub.snd {ts : List Nd} {j : Nat} {a b : Tr} {n : Nat} (h : Sub ts (.two j a b) n) : Sub ts b (n + a.size) := fun i hi => by
  rw [Nat.add_assoc, h (a.size + i) (by show a.size + i < a.size + b.size + 1; omega)]
  show (a.row n ++ (b.row (n + a.size) ++ [_]))[a.size + i]? = _
  rw [List.getElem?_append_right (by rw [Tr.row_length]; omega), Tr.row_length, List.getElem?_append_left (by rw [Tr.row_length]; omega), show a.size + i - a.size = i by omega]
theorem sub_row (t : Tr) : Sub (t.row 0) t 0 := fun j _ => by rw [Nat.zero_add]

theorem run_row : ∀ (t : Tr), t.ok → ∀ (n : Nat) (rest : List Nd) (st : List Int), rightRun (t.row n ++ rest) n st = rightRun rest (n + t.size) (st ++ [(n : Int) + t.size - 1])
  | .leaf j, hok, n, rest, st => by
    have hk : kidsN (j : Int) = 0 := by rcases hok with rfl | rfl | rfl <;> rfl
    show (rightStep st n ⟨(j : Int), k0, 0, 0⟩).bind (rightRun rest (n + 1)) = _
    have e : rightStep st n ⟨(j : Int), k0, 0, 0⟩ = some (st ++ [(n : Int)]) := by
      unfold rightStep wantL
      simp [hk]
    rw [e]
    show rightRun rest (n + 1) (st ++ [(n : Int)]) = rightRun rest (n + 1) (st ++ [(n : Int) + ((1 : Nat) : Int) - 1])
    rw [show (n : Int) + ((1 : Nat) : Int) - 1 = n by omega]
  | .set k, _, n, rest, st => by
    show (rightStep st n ⟨1, k, 0, 0⟩).bind (rightRun rest (n + 1)) = _
    have e : rightStep st n ⟨1, k, 0, 0⟩ = some (st ++ [(n : Int)]) := by
      have hk : kidsN 1 = 0 := rfl
      unfold rightStep wantL
      simp [hk]
    rw [e]
    show rightRun rest (n + 1) (st ++ [(n : Int)]) = rightRun rest (n + 1) (st ++ [(n : Int) + ((1 : Nat) : Int) - 1])
    rw [show (n : Int) + ((1 : Nat) : Int) - 1 = n by omega]
  | .rep j a, hok, n, rest, st => by
    have hk : kidsN (j : Int) = 1 := by rcases hok.1 with rfl | rfl | rfl <;> rfl
    show rightRun ((a.row n ++ [_]) ++ rest) n st = _
    rw [List.append_assoc, run_row a hok.2 n]
    show (rightStep _ (n + a.size) ⟨(j : Int), k0, (n : Int) + a.size - 1, 0⟩).bind (rightRun rest (n + a.size + 1)) = _
    have e : rightStep (st ++ [(n : Int) + a.size - 1]) (n + a.size) ⟨(j : Int), k0, (n : Int) + a.size - 1, 0⟩ = some (st ++ [((n + a.size : Nat) : Int)]) := by
      unfold rightStep wantL
      simp [hk]
      omega
    rw [e]
    show rightRun rest (n + a.size + 1) _ = rightRun rest (n + (a.size + 1)) (st ++ [(n : Int) + ((a.size + 1 : Nat) : Int) - 1])
    rw [show (n : Int) + ((a.size + 1 : Nat) : Int) - 1 = ((n + a.size : Nat) : Int) by omega]
    rfl
  | .two j a b, hok, n, rest, st => by
    have hk : kidsN (j : Int) = 2 := by rcases hok.1 with rfl | rfl <;> rfl
    have hj1 : ¬ (j : Int) = 1 := by rcases hok.1 with rfl | rfl <;> decide
    show rightRun ((a.row n ++ (b.row (n + a.size) ++ [_])) ++ rest) n st = _
    rw [List.append_assoc, run_row a hok.2.1 n, List.append_assoc, run_row b hok.2.2 (n + a.size)]
    show (rightStep _ (n + a.size + b.size) ⟨(j : Int), k0, (n : Int) + a.size - 1, (n : Int) + a.size + b.size - 1⟩).bind (rightRun rest (n + a.size + b.size + 1)) = _
    have e : rightStep ((st ++ [(n : Int) + a.size - 1]) ++ [((n + a.size : Nat) : Int) + b.size - 1]) (n + a.size + b.size) ⟨(j : Int), k0, (n : Int) + a.size - 1, (n : Int) + a.size + b.size - 1⟩ = some (st ++ [((n + a.size + b.size : Nat) : Int)]) := by
      have e1 : (st ++ [(n : Int) + a.size - 1]) ++ [((n + a.size : Nat) : Int) + b.size - 1] = st ++ [(n : Int) + a.size - 1, (n : Int) + a.size + b.size - 1] := by
        rw [List.append_assoc]
        congr 2
      rw [e1]
      have hw : wantL (st ++ [(n : Int) + a.size - 1, (n : Int) + a.size + b.size - 1]) 2 = ((n : Int) + a.size - 1, (n : Int) + a.size + b.size - 1) := by
        unfold wantL
        simp
      have hl : (st ++ [(n : Int) + a.size - 1, (n : Int) + a.size + b.size - 1]).length = st.length + 2 := by simp
      unfold rightStep
      dsimp only
      rw [hk, hw, if_neg (by rw [hl]; omega), if_neg (by rintro (h | ⟨_, h⟩) <;> exact h (by first | exact ⟨rfl, rfl⟩ | rfl)), hl]
      simp
    rw [e]
    show rightRun rest (n + a.size + b.size + 1) _ = rightRun rest (n + (a.size + b.size + 1)) (st ++ [(n : Int) + ((a.size + b.size + 1 : Nat) : Int) - 1])
    rw [show (n : Int) + ((a.size + b.size + 1 : Nat) : Int) - 1 = ((n + a.size + b.size : Nat) : Int) by omega, show n + a.size + b.size + 1 = n + (a.size + b.size + 1) by omega]
end Go.Proofs.Ytkgpnlldlekcbaa
namespace Go.Proofs.Ytkgpnlldlekcbaa
open Go.RowKit Go.Lib

theorem Try.infoInt : (Try.prog.info? 3).map (fun i => (i.zero, i.size, i.bytes)) = some (some (.int .i64 0), 1, 8) := by kernel_rfl
theorem Try.sizeInt : (Try.prog.info? 3).map (·.size) = some 1 := by kernel_rfl
theorem owns_take {w : World} {B L r cp : Nat} {e : TypeId} {ao : Option Addr} {xs : List Value} (h : w.ownsRow B e 1 (.slice ao L cp) L xs) (hr : r ≤ L) : w.ownsRow B e 1 (.slice ao r cp) r (xs.take r) := by
  obtain ⟨h1, h2⟩ := h
  refine ⟨by rw [List.length_take]; omega, ?_⟩
  rcases h2 with ⟨hv, h0⟩ | ⟨g, cap, cur, hv, hB, hg, hc, hm, hs, htk⟩
  · cases hv
    have : r = 0 := by omega
    subst this
    exact .inl ⟨rfl, rfl⟩
  · cases hv
    refine .inr ⟨g, cp, cur, rfl, hB, hg, by omega, hm, hs, ?_⟩
    rw [← htk, List.take_take]
    congr 1
    omega
theorem wpList_prefix_own {P : Program} {w : World} {ops : Array Oper} {rest : List Oper} {o : Oper} {a : Act} {Q : Exit → Act → World → Prop} (hg : o.guard = none) (s hi : Operand) (t e : TypeId) (hu : P.underlying t = some (.slice e)) (hse : ∀ w, (sizeOf e).run P w = .ok 1 w) (hop : o.op = Op.slice t s none (some hi) none)
    (B L r : Nat) (v : Value) (xs : List Value) (hs : a.eval s = v) (hh : a.eval hi = .int .i64 (r : Int)) (hown : w.ownsRow B e 1 v L xs) (hr : r ≤ L)
    (hK : ∀ v', w.ownsRow B e 1 v' r (xs.take r) → v'.ownBlock = v.ownBlock → wpList P ops Q rest (a.put o.dst v') w) : wpList P ops Q (o :: rest) a w := by
  refine wpList_plain hg fun K hK' => ?_
  have hown0 := hown
  rcases hown.2 with ⟨rfl, h0⟩ | ⟨g, cap, cur, rfl, hB, hgg, hc, hm, hz, htk⟩
  · obtain rfl : r = 0 := by omega
    subst h0
    have h2 := hK' _ _ (hK _ (owns_take hown0 (Nat.le_refl _)) rfl)
    unfold Oper.wp
    simp [execOp, hop, hs, hh]
    go_simp
    exact h2
  · have h2 := hK' _ _ (hK _ (owns_take hown0 hr) rfl)
    unfold Oper.wp
    simp [execOp, hop, hs, hh]
    have hrc : r ≤ cap := by omega
    go_simp
    exact h2
theorem own_zeroB {w : World} {B k : Nat} {e : TypeId} {v : Value} {xs : List Value} {n : Nat} (h : w.ownsRow B e k v n xs) : ∃ ao cap, v = .slice ao n cap := by
  rcases h.2 with ⟨hv, h0⟩ | ⟨g, cap, cur, hv, _⟩
  · exact ⟨_, _, by rw [hv, h0]⟩
  · exact ⟨_, _, hv⟩
theorem owns_cap {w : World} {B L cp : Nat} {e : TypeId} {ao : Option Addr} {xs : List Value} (h : w.ownsRow B e 1 (.slice ao L cp) L xs) : L ≤ cp ∧ cp ≤ maxLen := by
  rcases h.2 with ⟨hv, h0⟩ | ⟨g, cap, cur, hv, hB, hg, hc, hm, _⟩
  · cases hv; exact ⟨Nat.le_refl _, Nat.zero_le _⟩
  · cases hv; exact ⟨hc, hm⟩
theorem owns_cell {w : World} {B L cp g : Nat} {e : TypeId} {xs : List Value} (h : w.ownsRow B e 1 (.slice (some ⟨g, 0, none⟩) L cp) L xs) {j : Nat} {v : Value} (hj : xs[j]? = some v) : w.cell? ⟨g, j, none⟩ = some v := by
  obtain ⟨h1, h2⟩ := h
  rcases h2 with ⟨hv, _⟩ | ⟨g', cap, cur, hv, hB, hg, hc, hm, hs, htk⟩
  · cases hv
  · cases hv
    have hjl : j < L := by
      by_cases hl : j < xs.length
      · omega
      · rw [List.getElem?_eq_none (by omega)] at hj; cases hj
    rw [cell_of_heap hg]
    rw [← htk, List.getElem?_take_of_lt (by omega)] at hj
    simpa using hj
theorem run_drop {ts : List Nd} {j : Nat} {n : Nd} (st : List Int) (h : ts[j]? = some n) : rightRun (ts.drop j) j st = (rightStep st j n).bind (rightRun (ts.drop (j + 1)) (j + 1)) := by
  have hlt : j < ts.length := by
    by_cases hl : j < ts.length
    · exact hl
    · rw [List.getElem?_eq_none (by omega)] at h; cases h
  rw [List.getElem?_eq_getElem hlt] at h
  cases h
  rw [List.drop_eq_getElem_cons hlt]
  rfl
theorem owns_alloc {w : World} {B n size : Nat} {e : TypeId} {v : Value} {xs : List Value} {o : Obj} (h : w.ownsRow B e size v n xs) : (w.alloc o).ownsRow B e size v n xs := owns_same h fun _g hg => Below.heap_alloc _ _ _ (own_block_lt h hg)
theorem take_snoc_length (st : List Int) (r : Nat) (j : Nat) : (st.take r ++ [(j : Int)]).length ≤ st.length + 1 := by
  rw [List.length_append, List.length_take]
  simp
  omega
theorem ints_snoc (st : List Int) (j : Int) : ints (st ++ [j]) = ints st ++ [.int .i64 j] := by unfold ints; rw [List.map_append]; rfl
theorem cell_one' (w : World) (t : TypeId) (p : Value) : ∀ j x, [p][j]? = some x → (w.alloc (.cells #[p] t)).cell? ((⟨w.heap.size, 0, none⟩ : Addr).add j) = some x := by
  intro j x hj
  have h := heap_alloc_new w (.cells #[p] t)
  have e : (⟨w.heap.size, 0, none⟩ : Addr).add j = ⟨w.heap.size, j, none⟩ := by simp [Addr.add]; intro h; exact h.symm
  rw [e, cell_of_heap h]
  simpa using hj
theorem ints_take (st : List Int) (r : Nat) : (ints st).take r = ints (st.take r) := by unfold ints; rw [List.map_take]
theorem take_snoc_len (st : List Int) (r : Nat) (j : Nat) (h : r ≤ st.length) : (st.take r ++ [(j : Int)]).length = r + 1 := by
  rw [List.length_append, List.length_take]
  simp
  omega
theorem split_one (st : List Int) (h : 1 ≤ st.length) : ∃ (s : List Int) (x : Int), st = s ++ [x] := by
  cases hr : st.reverse with
  | nil => rw [List.reverse_eq_nil_iff] at hr; rw [hr] at h; simp at h
  | cons x s => exact ⟨s.reverse, x, by rw [← List.reverse_reverse st, hr, List.reverse_cons]⟩
theorem split_two (st : List Int) (h : 2 ≤ st.length) : ∃ (s : List Int) (x y : Int), st = s ++ [x, y] := by
  obtain ⟨s, y, rfl⟩ := split_one st (by omega)
  obtain ⟨s, x, rfl⟩ := split_one s (by simp at h; omega)
  exact ⟨s, x, y, by simp⟩
end Go.Proofs.Ytkgpnlldlekcbaa
namespace Go.Proofs.Ytkgpnlldlekcbaa

/-- Any number of steps. -/
inductive Many (R : Nat → Nat → Prop) : Nat → Nat → Prop
  | refl (a : Nat) : Many R a a
  | tail {a b c : Nat} : Many R a b → R b c → Many R a c
theorem Many.trans {R : Nat → Nat → Prop} {a b c : Nat} (h : Many R a b) (k : Many R b c) : Many R a c := by
  induction k with
  | refl => exact h
  | tail _ h2 ih => exact ih.tail h2
theorem Many.one {R : Nat → Nat → Prop} {a b : Nat} (h : R a b) : Many R a b := (Many.refl a).tail h
theorem Many.head {R : Nat → Nat → Prop} {a b c : Nat} (h : R a b) (k : Many R b c) : Many R a c := (Many.one h).trans k
theorem Many.flip {R : Nat → Nat → Prop} {a b : Nat} (h : Many R a b) : Many (fun x y => R y x) b a := by
  induction h with
  | refl => exact .refl _
  | tail _ h2 ih => exact Many.head h2 ih
theorem Many.head_cases {R : Nat → Nat → Prop} {a b : Nat} (h : Many R a b) : a = b ∨ ∃ c, R a c ∧ Many R c b := by
  induction h with
  | refl => exact .inl rfl
  | tail h1 h2 ih =>
    rcases ih with rfl | ⟨c, hc, hm⟩
    · exact .inr ⟨_, h2, .refl _⟩
    · exact .inr ⟨c, hc, hm.tail h2⟩
/-- Is a byte of the set here? -/
def inSet (s : List UInt8) (k : K4) (p : Nat) : Bool := match s[p]? with
  | some c => has k.cl c.toNat
  | none => false
theorem inSet_lt {s : List UInt8} {k : K4} {p : Nat} (h : inSet s k p = true) : p < s.length := by
  by_cases hl : p < s.length
  · exact hl
  · unfold inSet at h
    rw [List.getElem?_eq_none (by omega)] at h
    cases h
/-- A tree stands from a place to another one. -/
def St (s : List UInt8) : Tr → Nat → Nat → Prop
  | .leaf j, a, b => a = b ∧ (j = 7 → a = 0) ∧ (j = 8 → a = s.length)
  | .set k, a, b => b = a + 1 ∧ inSet s k a = true
  | .rep j x, a, b => if j = 6 then a = b ∨ St s x a b else if j = 4 then Many (St s x) a b else ∃ c, St s x a c ∧ Many (St s x) c b
  | .two j x y, a, b => if j = 2 then ∃ c, St s x a c ∧ St s y c b else St s x a b ∨ St s y a b
theorem many_le {R : Nat → Nat → Prop} (hR : ∀ a b, R a b → a ≤ b) {a b : Nat} (h : Many R a b) : a ≤ b := by
  induction h with
  | refl => exact Nat.le_refl _
  | tail _ h2 ih => exact Nat.le_trans ih (hR _ _ h2)
theorem St.le (s : List UInt8) : ∀ (t : Tr) (a b : Nat), St s t a b → a ≤ b
  | .leaf j, a, b, h => Nat.le_of_eq h.1
  | .set k, a, b, h => by have := h.1; omega
  | .rep j x, a, b, h => by
    unfold St at h
    split at h
    · rcases h with h | h
      · omega
      · exact St.le s x a b h
    · split at h
      · exact many_le (St.le s x) h
      · obtain ⟨c, h1, h2⟩ := h
        exact Nat.le_trans (St.le s x a c h1) (many_le (St.le s x) h2)
  | .two j x y, a, b, h => by
    unfold St at h
    split at h
    · obtain ⟨c, h1, h2⟩ := h
      exact Nat.le_trans (St.le s x a c h1) (St.le s y c b h2)
    · rcases h with h | h
      · exact St.le s x a b h
      · exact St.le s y a b h
theorem many_to {R : Nat → Nat → Prop} {n : Nat} (hR : ∀ a b, R a b → a ≤ n → b ≤ n) {a b : Nat} (h : Many R a b) (ha : a ≤ n) : b ≤ n := by
  induction h with
  | refl => exact ha
  | tail _ h2 ih => exact hR _ _ h2 ih
theorem St.to (s : List UInt8) : ∀ (t : Tr) (a b : Nat), St s t a b → a ≤ s.length → b ≤ s.length
  | .leaf j, a, b, h, ha => by have := h.1; omega
  | .set k, a, b, h, ha => by
    have := inSet_lt h.2
    have := h.1
    omega
  | .rep j x, a, b, h, ha => by
    unfold St at h
    split at h
    · rcases h with h | h
      · omega
      · exact St.to s x a b h ha
    · split at h
      · exact many_to (St.to s x) h ha
      · obtain ⟨c, h1, h2⟩ := h
        exact many_to (St.to s x) h2 (St.to s x a c h1 ha)
  | .two j x y, a, b, h, ha => by
    unfold St at h
    split at h
    · obtain ⟨c, h1, h2⟩ := h
      exact St.to s y c b h2 (St.to s x a c h1 ha)
    · rcases h with h | h
      · exact St.to s x a b h ha
      · exact St.to s y a b h ha
/-- The same, or from its end to its beginning. -/
def SD (bk : Bool) (s : List UInt8) (t : Tr) (a b : Nat) : Prop := if bk = true then St s t b a else St s t a b
/-- A step over a node without kids. -/
def stepD (bk : Bool) (s : List UInt8) (n : Nd) (p : Nat) : Option Nat :=
  if n.k = 0 then some p
  else if n.k = 7 then if p = 0 then some p else none
  else if n.k = 8 then if p = s.length then some p else none
  else if bk = true then
    if 0 < p ∧ inSet s n.s (p - 1) = true then some (p - 1) else none
  else if inSet s n.s p = true then some (p + 1) else none
/-- What follows when a node is entered. -/
def enterD (bk : Bool) (s : List UInt8) (n : Nd) (r p : Nat) : List (Nat × Nat) :=
  if n.k = 2 then [(2 * (if bk = true then n.y else n.x).toNat, p)]
  else if n.k = 3 then [(2 * n.x.toNat, p), (2 * n.y.toNat, p)]
  else if n.k = 4 ∨ n.k = 6 then [(2 * r + 1, p), (2 * n.x.toNat, p)]
  else if n.k = 5 then [(2 * n.x.toNat, p)]
  else match stepD bk s n p with
    | some q => [(2 * r + 1, q)]
    | none => []
/-- What follows when a node is left that is another one's kid. -/
def leaveD (bk : Bool) (n : Nd) (u r p : Nat) : List (Nat × Nat) :=
  if n.k = 2 ∧ (r : Int) = (if bk = true then n.y else n.x) then [(2 * (if bk = true then n.x else n.y).toNat, p)]
  else if n.k = 4 ∨ n.k = 5 then [(2 * r, p), (2 * u + 1, p)]
  else [(2 * u + 1, p)]
/-- What follows a spot: a gate (twice a node's place, and one if it is left), and a place. -/
def nextD (bk : Bool) (s : List UInt8) (ts : List Nd) (up : Nat → Nat) (g p : Nat) : List (Nat × Nat) :=
  if g % 2 = 0 then match ts[g / 2]? with
    | some n => enterD bk s n (g / 2) p
    | none => []
  else if g / 2 + 1 = ts.length then []
  else match ts[up (g / 2)]? with
    | some n => leaveD bk n (up (g / 2)) (g / 2) p
    | none => []
def Closed (bk : Bool) (s : List UInt8) (ts : List Nd) (up : Nat → Nat) (X : Nat → Nat → Prop) : Prop := ∀ g p, X g p → ∀ q ∈ nextD bk s ts up g p, X q.1 q.2
/-- Whose kid each node is. -/
def UpOk (up : Nat → Nat) : Tr → Nat → Prop
  | .leaf _, _ => True
  | .set _, _ => True
  | .rep _ x, n => up (n + x.size - 1) = n + x.size ∧ UpOk up x n
  | .two _ x y, n => up (n + x.size - 1) = n + x.size + y.size ∧ up (n + x.size + y.size - 1) = n + x.size + y.size ∧ UpOk up x n ∧ UpOk up y (n + x.size)
/-- A tree that stands in the row, not the whole one, or that. -/
structure Occ (ts : List Nd) (up : Nat → Nat) (t : Tr) (n : Nat) : Prop where
  sub : Sub ts t n
  ok : t.ok
  up : UpOk up t n
  le : n + t.size ≤ ts.length
theorem Occ.rep {ts : List Nd} {up : Nat → Nat} {j : Nat} {x : Tr} {n : Nat} (h : Occ ts up (.rep j x) n) : Occ ts up x n ∧ n + x.size + 1 ≤ ts.length :=
  ⟨⟨h.sub.rep, h.ok.2, h.up.2, by have := h.le; have e : (Tr.rep j x).size = x.size + 1 := rfl; omega⟩, by have := h.le; have e : (Tr.rep j x).size = x.size + 1 := rfl; omega⟩
theorem Occ.fst {ts : List Nd} {up : Nat → Nat} {j : Nat} {x y : Tr} {n : Nat} (h : Occ ts up (.two j x y) n) : Occ ts up x n ∧ n + x.size + y.size + 1 ≤ ts.length :=
  ⟨⟨h.sub.fst, h.ok.2.1, h.up.2.2.1, by have := h.le; have e : (Tr.two j x y).size = x.size + y.size + 1 := rfl; omega⟩, by have := h.le; have e : (Tr.two j x y).size = x.size + y.size + 1 := rfl; omega⟩
theorem Occ.snd {ts : List Nd} {up : Nat → Nat} {j : Nat} {x y : Tr} {n : Nat} (h : Occ ts up (.two j x y) n) : Occ ts up y (n + x.size) ∧ n + x.size + y.size + 1 ≤ ts.length :=
  ⟨⟨h.sub.snd, h.ok.2.2, h.up.2.2.2, by have := h.le; have e : (Tr.two j x y).size = x.size + y.size + 1 := rfl; omega⟩, by have := h.le; have e : (Tr.two j x y).size = x.size + y.size + 1 := rfl; omega⟩
theorem Occ.next_in {bk : Bool} {s : List UInt8} {ts : List Nd} {up : Nat → Nat} {t : Tr} {n r : Nat} (h : Occ ts up t n) (hr : r + 1 = n + t.size) (p : Nat) : nextD bk s ts up (2 * r) p = enterD bk s (t.node n) r p := by
  unfold nextD
  rw [if_pos (by omega), show 2 * r / 2 = r by omega, h.sub.root hr]
theorem next_out {bk : Bool} {s : List UInt8} {ts : List Nd} {up : Nat → Nat} {u : Tr} {m r v : Nat} (h : Occ ts up u m) (hr : up r = v) (hv : v + 1 = m + u.size) (hlt : r < v) (p : Nat) : nextD bk s ts up (2 * r + 1) p = leaveD bk (u.node m) v r p := by
  have hl := h.le
  unfold nextD
  rw [if_neg (by omega), show (2 * r + 1) / 2 = r by omega, if_neg (by omega), hr, h.sub.root hv]

/-- The spots at which a tree is entered. -/
inductive Ent (bk : Bool) (s : List UInt8) (T : Tr) (Src : Nat → Prop) : Tr → Nat → Nat → Prop
  | root {a} : Src a → Ent bk s T Src T 0 a
  | rep {j x n a c} : Ent bk s T Src (.rep j x) n a → (c = a ∨ (j ≠ 6 ∧ Many (SD bk s x) a c)) → Ent bk s T Src x n c
  | alt1 {j x y n a} : j ≠ 2 → Ent bk s T Src (.two j x y) n a → Ent bk s T Src x n a
  | alt2 {j x y n a} : j ≠ 2 → Ent bk s T Src (.two j x y) n a → Ent bk s T Src y (n + x.size) a
  | cat1 {x y n a} : bk = false → Ent bk s T Src (.two 2 x y) n a → Ent bk s T Src x n a
  | cat2 {x y n a c} : bk = false → Ent bk s T Src (.two 2 x y) n a → SD bk s x a c → Ent bk s T Src y (n + x.size) c
  | tac1 {x y n a} : bk = true → Ent bk s T Src (.two 2 x y) n a → Ent bk s T Src y (n + x.size) a
  | tac2 {x y n a c} : bk = true → Ent bk s T Src (.two 2 x y) n a → SD bk s y a c → Ent bk s T Src x n c
theorem Ent.occ {bk : Bool} {s : List UInt8} {ts : List Nd} {up : Nat → Nat} {T : Tr} {Src : Nat → Prop} (h0 : Occ ts up T 0) {t : Tr} {n a : Nat} (h : Ent bk s T Src t n a) : Occ ts up t n := by
  induction h with
  | root _ => exact h0
  | rep _ _ ih => exact ih.rep.1
  | alt1 _ _ ih => exact ih.fst.1
  | alt2 _ _ ih => exact ih.snd.1
  | cat1 _ _ ih => exact ih.fst.1
  | cat2 _ _ _ ih => exact ih.snd.1
  | tac1 _ _ ih => exact ih.snd.1
  | tac2 _ _ _ ih => exact ih.fst.1
theorem SD.leaf {bk : Bool} {s : List UInt8} {j a b : Nat} : SD bk s (.leaf j) a b ↔ a = b ∧ (j = 7 → a = 0) ∧ (j = 8 → a = s.length) := by
  unfold SD St
  cases bk
  · simp
  · simp
    constructor
    · rintro ⟨rfl, h1, h2⟩; exact ⟨rfl, h1, h2⟩
    · rintro ⟨rfl, h1, h2⟩; exact ⟨rfl, h1, h2⟩
theorem many_sd {bk : Bool} {s : List UInt8} {x : Tr} {a b : Nat} : Many (SD bk s x) a b ↔ (if bk = true then Many (St s x) b a else Many (St s x) a b) := by
  cases bk
  · exact Iff.rfl
  · constructor
    · intro h; exact h.flip
    · intro h; exact Many.flip (R := St s x) h
theorem SD.rep {bk : Bool} {s : List UInt8} {j : Nat} {x : Tr} {a b : Nat} : SD bk s (.rep j x) a b ↔ (if j = 6 then a = b ∨ SD bk s x a b else if j = 4 then Many (SD bk s x) a b else ∃ c, SD bk s x a c ∧ Many (SD bk s x) c b) := by
  by_cases h6 : j = 6
  · subst h6
    cases bk <;> simp [SD, St, eq_comm]
  · by_cases h4 : j = 4
    · subst h4
      simp only [many_sd]
      cases bk <;> simp [SD, St]
    · rw [if_neg h6, if_neg h4]
      simp only [many_sd]
      cases bk
      · simp [SD, St, h6, h4]
      · simp [SD, St, h6, h4]
        constructor
        · rintro ⟨c, h1, h2⟩
          cases h2 with
          | refl => exact ⟨_, h1, .refl _⟩
          | tail h3 h4 => exact ⟨_, h4, Many.head h1 h3⟩
        · rintro ⟨c, h1, h2⟩
          rcases Many.head_cases h2 with rfl | ⟨d, h3, h4⟩
          · exact ⟨_, h1, .refl _⟩
          · exact ⟨_, h3, h4.tail h1⟩
theorem SD.alt {bk : Bool} {s : List UInt8} {j : Nat} {x y : Tr} {a b : Nat} (h : j ≠ 2) : SD bk s (.two j x y) a b ↔ SD bk s x a b ∨ SD bk s y a b := by
  cases bk <;> simp [SD, St, h]
theorem SD.cat {s : List UInt8} {x y : Tr} {a b : Nat} : SD false s (.two 2 x y) a b ↔ ∃ c, SD false s x a c ∧ SD false s y c b := by
  simp [SD, St]
theorem SD.tac {s : List UInt8} {x y : Tr} {a b : Nat} : SD true s (.two 2 x y) a b ↔ ∃ c, SD true s y a c ∧ SD true s x c b := by
  simp [SD, St]
  constructor
  · rintro ⟨c, h1, h2⟩; exact ⟨c, h2, h1⟩
  · rintro ⟨c, h1, h2⟩; exact ⟨c, h2, h1⟩
theorem step_leaf {bk : Bool} {s : List UInt8} {t : Tr} {n p q : Nat} (hl : (∃ j, t = .leaf j) ∨ ∃ k, t = .set k) (hok : t.ok) : stepD bk s (t.node n) p = some q ↔ SD bk s t p q := by
  rcases hl with ⟨j, rfl⟩ | ⟨k, rfl⟩
  · rw [SD.leaf]
    have hok : j = 0 ∨ j = 7 ∨ j = 8 := hok
    rcases hok with rfl | rfl | rfl
    · simp [stepD, Tr.node]
    · simp [stepD, Tr.node]; constructor
      · rintro ⟨rfl, rfl⟩; exact ⟨rfl, rfl⟩
      · rintro ⟨rfl, rfl⟩; exact ⟨rfl, rfl⟩
    · simp [stepD, Tr.node]; constructor
      · rintro ⟨rfl, rfl⟩; exact ⟨rfl, rfl⟩
      · rintro ⟨rfl, rfl⟩; exact ⟨rfl, rfl⟩
  · have e : ∀ b, stepD b s ((Tr.set k).node n) p = (if b = true then if 0 < p ∧ inSet s k (p - 1) = true then some (p - 1) else none else if inSet s k p = true then some (p + 1) else none) := fun b => rfl
    rw [e]
    cases bk
    · simp only [SD, St, Bool.false_eq_true, if_false]
      by_cases h : inSet s k p = true
      · rw [if_pos h]; simp [h, eq_comm]
      · rw [if_neg h]; simp [h]
    · simp only [SD, St, if_true]
      by_cases h : 0 < p ∧ inSet s k (p - 1) = true
      · rw [if_pos h]
        obtain ⟨h0, h⟩ := h
        simp only [Option.some.injEq]
        constructor
        · rintro rfl; exact ⟨by omega, h⟩
        · rintro ⟨h1, _⟩; omega
      · rw [if_neg h]
        constructor
        · intro h; cases h
        · rintro ⟨h1, h2⟩
          exact absurd ⟨by omega, by rw [show p - 1 = q by omega]; exact h2⟩ h
theorem enter_leaf {bk : Bool} {s : List UInt8} {t : Tr} {n r p : Nat} (hl : (∃ j, t = .leaf j) ∨ ∃ k, t = .set k) (hok : t.ok) : enterD bk s (t.node n) r p = match stepD bk s (t.node n) p with | some q => [(2 * r + 1, q)] | none => [] := by
  have hk : (t.node n).k = 0 ∨ (t.node n).k = 1 ∨ (t.node n).k = 7 ∨ (t.node n).k = 8 := by
    rcases hl with ⟨j, rfl⟩ | ⟨k, rfl⟩
    · have hok : j = 0 ∨ j = 7 ∨ j = 8 := hok
      rcases hok with rfl | rfl | rfl <;> simp [Tr.node]
    · exact .inr (.inl rfl)
  unfold enterD
  rw [if_neg (by omega), if_neg (by omega), if_neg (by omega), if_neg (by omega)]
/-- Each set that holds what follows, and a tree's entry, holds the leaving to which it stands. -/
theorem closed_does {bk : Bool} {s : List UInt8} {ts : List Nd} {up : Nat → Nat} {X : Nat → Nat → Prop} (hX : Closed bk s ts up X) : ∀ (t : Tr) (n r : Nat), Occ ts up t n → r + 1 = n + t.size → ∀ a b, X (2 * r) a → SD bk s t a b → X (2 * r + 1) b := by
  intro t
  induction t with
  | leaf j =>
    intro n r ho hr a b ha h
    have h := (step_leaf (n := n) (.inl ⟨j, rfl⟩) ho.ok).2 h
    refine hX _ _ ha (2 * r + 1, b) ?_
    rw [ho.next_in hr, enter_leaf (.inl ⟨j, rfl⟩) ho.ok, h]
    simp
  | set k =>
    intro n r ho hr a b ha h
    have h := (step_leaf (n := n) (.inr ⟨k, rfl⟩) ho.ok).2 h
    refine hX _ _ ha (2 * r + 1, b) ?_
    rw [ho.next_in hr, enter_leaf (.inr ⟨k, rfl⟩) ho.ok, h]
    simp
  | rep j x ih =>
    intro n r ho hr a b ha h
    have ez : (Tr.rep j x).size = x.size + 1 := rfl
    have hp := x.size_pos
    obtain ⟨hox, hle⟩ := ho.rep
    have hj : j = 4 ∨ j = 5 ∨ j = 6 := ho.ok.1
    obtain ⟨v, hv⟩ : ∃ v, v + 1 = n + x.size := ⟨n + x.size - 1, by omega⟩
    have hkid : ((Tr.rep j x).node n).x.toNat = v := by show ((n : Int) + x.size - 1).toNat = v; omega
    have hnode : ((Tr.rep j x).node n).k = (j : Int) := rfl
    have hupv : up v = r := by have := ho.up.1; rw [show n + x.size - 1 = v by omega] at this; omega
    have hin := ho.next_in (bk := bk) (s := s) hr a
    have hxa : X (2 * v) a := by
      refine hX _ _ ha (2 * v, a) ?_
      rw [hin]
      unfold enterD
      rw [hnode, hkid]
      rcases hj with rfl | rfl | rfl <;> simp
    have hout : ∀ c, nextD bk s ts up (2 * v + 1) c = leaveD bk ((Tr.rep j x).node n) r v c := fun c => next_out ho hupv hr (by omega) c
    have hup : ∀ c, X (2 * v + 1) c → X (2 * r + 1) c := fun c hc => by
      refine hX _ _ hc (2 * r + 1, c) ?_
      rw [hout]
      unfold leaveD
      rw [hnode]
      rcases hj with rfl | rfl | rfl <;> simp
    have hmore : j ≠ 6 → ∀ c, X (2 * v + 1) c → X (2 * v) c := fun h6 c hc => by
      refine hX _ _ hc (2 * v, c) ?_
      rw [hout]
      unfold leaveD
      rw [hnode]
      rcases hj with rfl | rfl | rfl
      · simp
      · simp
      · exact absurd rfl h6
    have hown : j ≠ 5 → X (2 * r + 1) a := fun h5 => by
      refine hX _ _ ha (2 * r + 1, a) ?_
      rw [hin]
      unfold enterD
      rw [hnode]
      rcases hj with rfl | rfl | rfl
      · simp
      · exact absurd rfl h5
      · simp
    have hmany : j ≠ 6 → ∀ c d, X (2 * v) c → Many (SD bk s x) c d → X (2 * v) d := fun h6 c d hc hm => by
      induction hm with
      | refl => exact hc
      | tail _ h2 ih2 => exact hmore h6 _ (ih n v hox hv _ _ ih2 h2)
    rw [SD.rep] at h
    rcases hj with rfl | rfl | rfl
    · rw [if_neg (by omega), if_pos rfl] at h
      cases h with
      | refl => exact hown (by omega)
      | tail h1 h2 => exact hup _ (ih n v hox hv _ _ (hmany (by omega) _ _ hxa h1) h2)
    · rw [if_neg (by omega), if_neg (by omega)] at h
      obtain ⟨c, h1, h2⟩ := h
      have hc := ih n v hox hv _ _ hxa h1
      cases h2 with
      | refl => exact hup _ hc
      | tail h3 h4 => exact hup _ (ih n v hox hv _ _ (hmany (by omega) _ _ (hmore (by omega) _ hc) h3) h4)
    · rw [if_pos rfl] at h
      rcases h with rfl | h
      · exact hown (by omega)
      · exact hup _ (ih n v hox hv _ _ hxa h)
  | two j x y ihx ihy =>
    intro n r ho hr a b ha h
    have ez : (Tr.two j x y).size = x.size + y.size + 1 := rfl
    have hp := x.size_pos
    have hq := y.size_pos
    obtain ⟨hox, hle⟩ := ho.fst
    obtain ⟨hoy, _⟩ := ho.snd
    have hj : j = 2 ∨ j = 3 := ho.ok.1
    obtain ⟨v, hv⟩ : ∃ v, v + 1 = n + x.size := ⟨n + x.size - 1, by omega⟩
    obtain ⟨u, hu⟩ : ∃ u, u + 1 = n + x.size + y.size := ⟨n + x.size + y.size - 1, by omega⟩
    have hkx : ((Tr.two j x y).node n).x = (v : Int) := by show (n : Int) + x.size - 1 = v; omega
    have hky : ((Tr.two j x y).node n).y = (u : Int) := by show (n : Int) + x.size + y.size - 1 = u; omega
    have hnode : ((Tr.two j x y).node n).k = (j : Int) := rfl
    have hupv : up v = r := by have := ho.up.1; rw [show n + x.size - 1 = v by omega] at this; omega
    have hupu : up u = r := by have := ho.up.2.1; rw [show n + x.size + y.size - 1 = u by omega] at this; omega
    have hin := ho.next_in (bk := bk) (s := s) hr a
    have houtv : ∀ c, nextD bk s ts up (2 * v + 1) c = leaveD bk ((Tr.two j x y).node n) r v c := fun c => next_out ho hupv hr (by omega) c
    have houtu : ∀ c, nextD bk s ts up (2 * u + 1) c = leaveD bk ((Tr.two j x y).node n) r u c := fun c => next_out ho hupu hr (by omega) c
    rcases hj with rfl | rfl
    · cases bk with
      | false =>
        obtain ⟨c, h1, h2⟩ := SD.cat.1 h
        have hxa : X (2 * v) a := by
          refine hX _ _ ha (2 * v, a) ?_
          rw [hin]; unfold enterD; rw [hnode, hkx]; simp
        have hc := ihx n v hox hv _ _ hxa h1
        have hyc : X (2 * u) c := by
          refine hX _ _ hc (2 * u, c) ?_
          rw [houtv]; unfold leaveD; rw [hnode, hkx, hky]; simp
        have hb := ihy (n + x.size) u hoy hu _ _ hyc h2
        refine hX _ _ hb (2 * r + 1, b) ?_
        rw [houtu]; unfold leaveD; rw [hnode, hkx, hky]
        rw [if_neg (by simp; omega)]; simp
      | true =>
        obtain ⟨c, h1, h2⟩ := SD.tac.1 h
        have hya : X (2 * u) a := by
          refine hX _ _ ha (2 * u, a) ?_
          rw [hin]; unfold enterD; rw [hnode, hky]; simp
        have hc := ihy (n + x.size) u hoy hu _ _ hya h1
        have hxc : X (2 * v) c := by
          refine hX _ _ hc (2 * v, c) ?_
          rw [houtu]; unfold leaveD; rw [hnode, hkx, hky]; simp
        have hb := ihx n v hox hv _ _ hxc h2
        refine hX _ _ hb (2 * r + 1, b) ?_
        rw [houtv]; unfold leaveD; rw [hnode, hkx, hky]
        rw [if_neg (by simp; omega)]; simp
    · have hxa : X (2 * v) a := by
        refine hX _ _ ha (2 * v, a) ?_
        rw [hin]; unfold enterD; rw [hnode, hkx, hky]; simp
      have hya : X (2 * u) a := by
        refine hX _ _ ha (2 * u, a) ?_
        rw [hin]; unfold enterD; rw [hnode, hkx, hky]; simp
      rcases (SD.alt (by omega)).1 h with h | h
      · have hb := ihx n v hox hv _ _ hxa h
        refine hX _ _ hb (2 * r + 1, b) ?_
        rw [houtv]; unfold leaveD; rw [hnode]; simp
      · have hb := ihy (n + x.size) u hoy hu _ _ hya h
        refine hX _ _ hb (2 * r + 1, b) ?_
        rw [houtu]; unfold leaveD; rw [hnode]; simp
/-- The spots that are come to, and no other ones. -/
def Come (bk : Bool) (s : List UInt8) (T : Tr) (Src : Nat → Prop) (g p : Nat) : Prop :=
  (∃ t n r, g = 2 * r ∧ r + 1 = n + t.size ∧ Ent bk s T Src t n p) ∨ ∃ t n r a, g = 2 * r + 1 ∧ r + 1 = n + t.size ∧ Ent bk s T Src t n a ∧ SD bk s t a p
theorem come_closed {bk : Bool} {s : List UInt8} {ts : List Nd} {up : Nat → Nat} {T : Tr} (Src : Nat → Prop) (h0 : Occ ts up T 0) (hlen : T.size = ts.length) : Closed bk s ts up (Come bk s T Src) := by
  intro g p h
  rcases h with ⟨t, n, r, rfl, hr, he⟩ | ⟨t, n, r, a, rfl, hr, he, hs⟩
  · have ho := he.occ h0
    rw [ho.next_in hr]
    cases t with
    | leaf j =>
      rw [enter_leaf (.inl ⟨j, rfl⟩) ho.ok]
      cases hq : stepD bk s ((Tr.leaf j).node n) p with
      | none => intro q hq2; simp at hq2
      | some q0 =>
        intro q hq2
        obtain rfl : q = (2 * r + 1, q0) := by simpa using hq2
        exact .inr ⟨_, n, r, p, rfl, hr, he, (step_leaf (.inl ⟨j, rfl⟩) ho.ok).1 hq⟩
    | set k =>
      rw [enter_leaf (.inr ⟨k, rfl⟩) ho.ok]
      cases hq : stepD bk s ((Tr.set k).node n) p with
      | none => intro q hq2; simp at hq2
      | some q0 =>
        intro q hq2
        obtain rfl : q = (2 * r + 1, q0) := by simpa using hq2
        exact .inr ⟨_, n, r, p, rfl, hr, he, (step_leaf (.inr ⟨k, rfl⟩) ho.ok).1 hq⟩
    | rep j x =>
      have hp := x.size_pos
      have ez : (Tr.rep j x).size = x.size + 1 := rfl
      have hj : j = 4 ∨ j = 5 ∨ j = 6 := ho.ok.1
      obtain ⟨v, hv⟩ : ∃ v, v + 1 = n + x.size := ⟨n + x.size - 1, by omega⟩
      have hkid : ((Tr.rep j x).node n).x.toNat = v := by show ((n : Int) + x.size - 1).toNat = v; omega
      have hnode : ((Tr.rep j x).node n).k = (j : Int) := rfl
      have hkidIn : Come bk s T Src (2 * v) p := .inl ⟨x, n, v, rfl, hv, .rep he (.inl rfl)⟩
      have hown : j ≠ 5 → Come bk s T Src (2 * r + 1) p := fun h5 => .inr ⟨_, n, r, p, rfl, hr, he, by
        rw [SD.rep]
        rcases hj with rfl | rfl | rfl
        · rw [if_neg (by omega), if_pos rfl]; exact .refl _
        · exact absurd rfl h5
        · rw [if_pos rfl]; exact .inl rfl⟩
      unfold enterD
      rw [hnode, hkid]
      rcases hj with rfl | rfl | rfl
      · intro q hq
        have hq : q = (2 * r + 1, p) ∨ q = (2 * v, p) := by simpa using hq
        rcases hq with rfl | rfl
        · exact hown (by omega)
        · exact hkidIn
      · intro q hq
        have hq : q = (2 * v, p) := by simpa using hq
        subst hq
        exact hkidIn
      · intro q hq
        have hq : q = (2 * r + 1, p) ∨ q = (2 * v, p) := by simpa using hq
        rcases hq with rfl | rfl
        · exact hown (by omega)
        · exact hkidIn
    | two j x y =>
      have hp := x.size_pos
      have hq := y.size_pos
      have ez : (Tr.two j x y).size = x.size + y.size + 1 := rfl
      have hj : j = 2 ∨ j = 3 := ho.ok.1
      obtain ⟨v, hv⟩ : ∃ v, v + 1 = n + x.size := ⟨n + x.size - 1, by omega⟩
      obtain ⟨u, hu⟩ : ∃ u, u + 1 = n + x.size + y.size := ⟨n + x.size + y.size - 1, by omega⟩
      have hkx : ((Tr.two j x y).node n).x = (v : Int) := by show (n : Int) + x.size - 1 = v; omega
      have hky : ((Tr.two j x y).node n).y = (u : Int) := by show (n : Int) + x.size + y.size - 1 = u; omega
      have hnode : ((Tr.two j x y).node n).k = (j : Int) := rfl
      unfold enterD
      rw [hnode, hkx, hky]
      rcases hj with rfl | rfl
      · cases bk with
        | false =>
          intro q hq
          have hq : q = (2 * v, p) := by simpa using hq
          subst hq
          exact .inl ⟨x, n, v, rfl, hv, .cat1 rfl he⟩
        | true =>
          intro q hq
          have hq : q = (2 * u, p) := by simpa using hq
          subst hq
          exact .inl ⟨y, n + x.size, u, rfl, hu, .tac1 rfl he⟩
      · intro q hq
        have hq : q = (2 * v, p) ∨ q = (2 * u, p) := by simpa using hq
        rcases hq with rfl | rfl
        · exact .inl ⟨x, n, v, rfl, hv, .alt1 (by omega) he⟩
        · exact .inl ⟨y, n + x.size, u, rfl, hu, .alt2 (by omega) he⟩
  · cases he with
    | root ha =>
      have : nextD bk s ts up (2 * r + 1) p = [] := by
        unfold nextD
        rw [if_neg (by omega), if_pos (by omega)]
      rw [this]
      intro q hq
      simp at hq
    | rep he2 hc =>
      rename_i j a0
      have ho := he2.occ h0
      have hp := t.size_pos
      have hj : j = 4 ∨ j = 5 ∨ j = 6 := ho.ok.1
      have ez : (Tr.rep j t).size = t.size + 1 := rfl
      have hup : up r = r + 1 := by have := ho.up.1; rw [show n + t.size - 1 = r by omega] at this; omega
      have hnode : ((Tr.rep j t).node n).k = (j : Int) := rfl
      rw [next_out ho hup (by omega) (by omega)]
      have hout : Come bk s T Src (2 * (r + 1) + 1) p := by
        refine .inr ⟨_, n, r + 1, a0, rfl, by omega, he2, ?_⟩
        rw [SD.rep]
        rcases hj with rfl | rfl | rfl
        · rw [if_neg (by omega), if_pos rfl]
          rcases hc with rfl | ⟨_, hm⟩
          · exact .one hs
          · exact hm.tail hs
        · rw [if_neg (by omega), if_neg (by omega)]
          rcases hc with rfl | ⟨_, hm⟩
          · exact ⟨_, hs, .refl _⟩
          · rcases hm.head_cases with rfl | ⟨d, h1, h2⟩
            · exact ⟨_, hs, .refl _⟩
            · exact ⟨d, h1, h2.tail hs⟩
        · rw [if_pos rfl]
          rcases hc with rfl | ⟨h6, _⟩
          · exact .inr hs
          · exact absurd rfl h6
      have hin : j ≠ 6 → Come bk s T Src (2 * r) p := fun h6 => by
        refine .inl ⟨t, n, r, rfl, hr, .rep he2 (.inr ⟨h6, ?_⟩)⟩
        rcases hc with rfl | ⟨_, hm⟩
        · exact .one hs
        · exact hm.tail hs
      unfold leaveD
      rw [hnode]
      rcases hj with rfl | rfl | rfl
      · intro q hq
        have hq : q = (2 * r, p) ∨ q = (2 * (r + 1) + 1, p) := by simpa using hq
        rcases hq with rfl | rfl
        · exact hin (by omega)
        · exact hout
      · intro q hq
        have hq : q = (2 * r, p) ∨ q = (2 * (r + 1) + 1, p) := by simpa using hq
        rcases hq with rfl | rfl
        · exact hin (by omega)
        · exact hout
      · intro q hq
        have hq : q = (2 * (r + 1) + 1, p) := by simpa using hq
        subst hq
        exact hout
    | alt1 hj2 he2 =>
      rename_i j y
      have ho := he2.occ h0
      have hp := t.size_pos
      have hq := y.size_pos
      have hj : j = 3 := by rcases ho.ok.1 with h | h; exact absurd h hj2; exact h
      subst hj
      have ez : (Tr.two 3 t y).size = t.size + y.size + 1 := rfl
      have hup : up r = n + t.size + y.size := by have := ho.up.1; rw [show n + t.size - 1 = r by omega] at this; exact this
      have hnode : ((Tr.two 3 t y).node n).k = 3 := rfl
      rw [next_out ho hup (by omega) (by omega)]
      unfold leaveD
      rw [hnode]
      intro q hq
      have hq : q = (2 * (n + t.size + y.size) + 1, p) := by simpa using hq
      subst hq
      exact .inr ⟨_, n, _, a, rfl, by omega, he2, (SD.alt (by omega)).2 (.inl hs)⟩
    | alt2 hj2 he2 =>
      rename_i j x n
      have ho := he2.occ h0
      have hp := x.size_pos
      have hq := t.size_pos
      have hj : j = 3 := by rcases ho.ok.1 with h | h; exact absurd h hj2; exact h
      subst hj
      have ez : (Tr.two 3 x t).size = x.size + t.size + 1 := rfl
      have hup : up r = n + x.size + t.size := by have := ho.up.2.1; rw [show n + x.size + t.size - 1 = r by omega] at this; exact this
      have hnode : ((Tr.two 3 x t).node n).k = 3 := rfl
      rw [next_out ho hup (by omega) (by omega)]
      unfold leaveD
      rw [hnode]
      intro q hq
      have hq : q = (2 * (n + x.size + t.size) + 1, p) := by simpa using hq
      subst hq
      exact .inr ⟨_, n, _, a, rfl, by omega, he2, (SD.alt (by omega)).2 (.inr hs)⟩
    | cat1 hb he2 =>
      rename_i y
      subst hb
      have ho := he2.occ h0
      have hp := t.size_pos
      have hq := y.size_pos
      have ez : (Tr.two 2 t y).size = t.size + y.size + 1 := rfl
      have hup : up r = n + t.size + y.size := by have := ho.up.1; rw [show n + t.size - 1 = r by omega] at this; exact this
      have hnode : ((Tr.two 2 t y).node n).k = 2 := rfl
      have hkx : ((Tr.two 2 t y).node n).x = (r : Int) := by show (n : Int) + t.size - 1 = r; omega
      obtain ⟨u, hu⟩ : ∃ u, u + 1 = n + t.size + y.size := ⟨n + t.size + y.size - 1, by omega⟩
      have hky : ((Tr.two 2 t y).node n).y = (u : Int) := by show (n : Int) + t.size + y.size - 1 = u; omega
      rw [next_out ho hup (by omega) (by omega)]
      unfold leaveD
      rw [hnode, hkx, hky]
      intro q hq
      have hq : q = (2 * u, p) := by simpa using hq
      subst hq
      exact .inl ⟨y, n + t.size, u, rfl, by omega, .cat2 rfl he2 hs⟩
    | cat2 hb he2 hs2 =>
      rename_i x n a0
      subst hb
      have ho := he2.occ h0
      have hp := x.size_pos
      have hq := t.size_pos
      have ez : (Tr.two 2 x t).size = x.size + t.size + 1 := rfl
      have hup : up r = n + x.size + t.size := by have := ho.up.2.1; rw [show n + x.size + t.size - 1 = r by omega] at this; exact this
      have hnode : ((Tr.two 2 x t).node n).k = 2 := rfl
      have hkx : ¬ (r : Int) = ((Tr.two 2 x t).node n).x := by show ¬ (r : Int) = (n : Int) + x.size - 1; omega
      rw [next_out ho hup (by omega) (by omega)]
      unfold leaveD
      rw [hnode]
      intro q hq
      rw [if_neg (by simp; exact hkx)] at hq
      have hq : q = (2 * (n + x.size + t.size) + 1, p) := by simpa using hq
      subst hq
      exact .inr ⟨_, n, _, a0, rfl, by omega, he2, SD.cat.2 ⟨_, hs2, hs⟩⟩
    | tac1 hb he2 =>
      rename_i x n
      subst hb
      have ho := he2.occ h0
      have hp := x.size_pos
      have hq := t.size_pos
      have ez : (Tr.two 2 x t).size = x.size + t.size + 1 := rfl
      have hup : up r = n + x.size + t.size := by have := ho.up.2.1; rw [show n + x.size + t.size - 1 = r by omega] at this; exact this
      have hnode : ((Tr.two 2 x t).node n).k = 2 := rfl
      have hky : ((Tr.two 2 x t).node n).y = (r : Int) := by show (n : Int) + x.size + t.size - 1 = r; omega
      obtain ⟨v, hv⟩ : ∃ v, v + 1 = n + x.size := ⟨n + x.size - 1, by omega⟩
      have hkx : ((Tr.two 2 x t).node n).x = (v : Int) := by show (n : Int) + x.size - 1 = v; omega
      rw [next_out ho hup (by omega) (by omega)]
      unfold leaveD
      rw [hnode, hkx, hky]
      intro q hq
      have hq : q = (2 * v, p) := by simpa using hq
      subst hq
      exact .inl ⟨x, n, v, rfl, by omega, .tac2 rfl he2 hs⟩
    | tac2 hb he2 hs2 =>
      rename_i y a0
      subst hb
      have ho := he2.occ h0
      have hp := t.size_pos
      have hq := y.size_pos
      have ez : (Tr.two 2 t y).size = t.size + y.size + 1 := rfl
      have hup : up r = n + t.size + y.size := by have := ho.up.1; rw [show n + t.size - 1 = r by omega] at this; exact this
      have hnode : ((Tr.two 2 t y).node n).k = 2 := rfl
      have hky : ¬ (r : Int) = ((Tr.two 2 t y).node n).y := by show ¬ (r : Int) = (n : Int) + t.size + y.size - 1; omega
      rw [next_out ho hup (by omega) (by omega)]
      unfold leaveD
      rw [hnode]
      intro q hq
      rw [if_neg (by simp; exact hky)] at hq
      have hq : q = (2 * (n + t.size + y.size) + 1, p) := by simpa using hq
      subst hq
      exact .inr ⟨_, n, _, a0, rfl, by omega, he2, SD.tac.2 ⟨_, hs2, hs⟩⟩
theorem ent_root {bk : Bool} {s : List UInt8} {T : Tr} {Src : Nat → Prop} {t : Tr} {n a : Nat} (h : Ent bk s T Src t n a) : (t = T ∧ n = 0 ∧ Src a) ∨ n + t.size < T.size := by
  have step : ∀ {P t : Tr} {m n : Nat}, (P = T ∧ m = 0 ∧ True) ∨ m + P.size < T.size → n + t.size < m + P.size → n + t.size < T.size := fun {P t m n} h hlt => by
    rcases h with ⟨rfl, rfl, _⟩ | h <;> omega
  have weak : ∀ {P : Tr} {m a : Nat}, (P = T ∧ m = 0 ∧ Src a) ∨ m + P.size < T.size → (P = T ∧ m = 0 ∧ True) ∨ m + P.size < T.size := fun h => h.imp (fun h => ⟨h.1, h.2.1, trivial⟩) id
  induction h with
  | root ha => exact .inl ⟨rfl, rfl, ha⟩
  | rep _ _ ih => exact .inr (step (weak ih) (by show _ < _ + (_ + 1); omega))
  | @alt1 j x y n a _ _ ih => have := y.size_pos; exact .inr (step (weak ih) (by show _ < _ + (_ + _ + 1); omega))
  | @alt2 j x y n a _ _ ih => have := x.size_pos; exact .inr (step (weak ih) (by show _ < _ + (_ + _ + 1); omega))
  | @cat1 x y n a _ _ ih => have := y.size_pos; exact .inr (step (weak ih) (by show _ < _ + (_ + _ + 1); omega))
  | @cat2 x y n a c _ _ _ ih => have := x.size_pos; exact .inr (step (weak ih) (by show _ < _ + (_ + _ + 1); omega))
  | @tac1 x y n a _ _ ih => have := x.size_pos; exact .inr (step (weak ih) (by show _ < _ + (_ + _ + 1); omega))
  | @tac2 x y n a c _ _ _ ih => have := y.size_pos; exact .inr (step (weak ih) (by show _ < _ + (_ + _ + 1); omega))
/-- What is marked when nothing new comes: just the places to which the tree stands. -/
theorem marked_is {bk : Bool} {s : List UInt8} {ts : List Nd} {up : Nat → Nat} {T : Tr} {Src : Nat → Prop} {M : Nat → Nat → Prop} {last : Nat} (h0 : Occ ts up T 0) (hlen : T.size = ts.length) (hl : last + 1 = ts.length)
    (hM : Closed bk s ts up M) (hsrc : ∀ a, Src a → M (2 * last) a) (hmin : ∀ X : Nat → Nat → Prop, Closed bk s ts up X → (∀ a, Src a → X (2 * last) a) → ∀ g p, M g p → X g p) (b : Nat) :
    M (2 * last + 1) b ↔ ∃ a, Src a ∧ SD bk s T a b := by
  constructor
  · intro h
    have := hmin _ (come_closed Src h0 hlen) (fun a ha => .inl ⟨T, 0, last, rfl, by omega, .root ha⟩) _ _ h
    rcases this with ⟨t, n, r, h1, _⟩ | ⟨t, n, r, a, h1, hr, he, hs⟩
    · omega
    · rcases ent_root he with ⟨rfl, rfl, ha⟩ | hlt
      · exact ⟨a, ha, hs⟩
      · omega
  · rintro ⟨a, ha, hs⟩
    exact closed_does hM T 0 last h0 (by omega) a b (hsrc a ha) hs
end Go.Proofs.Ytkgpnlldlekcbaa
