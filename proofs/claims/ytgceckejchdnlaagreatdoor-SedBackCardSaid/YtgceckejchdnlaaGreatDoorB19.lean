/- Packed texts: ReLies, ReRun, ReOwn, SuMem, SuPut, SuSpec, SuRow. What each of them proves stands above its theorems; the conditions stand in these. -/
import Derived.Deep.LoopGhost
import Derived.Laws.CopyOwn
import Derived.Lib.Hide
import Derived.Lib.Join
import Derived.Test.YtgceckejchdnlaaGreatDoorShelf
import Derived.Test.YtgceckejchdnlaaGreatDoorB0
import Derived.Test.YtgceckejchdnlaaGreatDoorB7
import Derived.Test.YtgceckejchdnlaaGreatDoorB10
import Derived.Test.YtgceckejchdnlaaGreatDoorB12
namespace Go.Proofs.YtgceckejchdnlaaGreatDoor
open Go.RowKit Go.Lib

def kidsN (k : Int) : Int := if k = 0 ∨ k = 1 ∨ k = 7 ∨ k = 8 then 0 else if k = 4 ∨ k = 5 ∨ k = 6 then 1 else if k = 2 ∨ k = 3 then 2 else -1
theorem kinds_cases (k : Int) : k = 0 ∨ k = 1 ∨ k = 2 ∨ k = 3 ∨ k = 4 ∨ k = 5 ∨ k = 6 ∨ k = 7 ∨ k = 8 ∨ ((k == 0) = false ∧ (k == 1) = false ∧ (k == 2) = false ∧ (k == 3) = false ∧ (k == 4) = false ∧ (k == 5) = false ∧ (k == 6) = false ∧ (k == 7) = false ∧ (k == 8) = false ∧ kidsN k = -1) := by
  by_cases h0 : k = 0
  · exact .inl h0
  by_cases h1 : k = 1
  · exact .inr (.inl h1)
  by_cases h2 : k = 2
  · exact .inr (.inr (.inl h2))
  by_cases h3 : k = 3
  · exact .inr (.inr (.inr (.inl h3)))
  by_cases h4 : k = 4
  · exact .inr (.inr (.inr (.inr (.inl h4))))
  by_cases h5 : k = 5
  · exact .inr (.inr (.inr (.inr (.inr (.inl h5)))))
  by_cases h6 : k = 6
  · exact .inr (.inr (.inr (.inr (.inr (.inr (.inl h6))))))
  by_cases h7 : k = 7
  · exact .inr (.inr (.inr (.inr (.inr (.inr (.inr (.inl h7)))))))
  by_cases h8 : k = 8
  · exact .inr (.inr (.inr (.inr (.inr (.inr (.inr (.inr (.inl h8))))))))
  refine .inr (.inr (.inr (.inr (.inr (.inr (.inr (.inr (.inr ⟨beq_eq_false_iff_ne.2 h0, beq_eq_false_iff_ne.2 h1, beq_eq_false_iff_ne.2 h2, beq_eq_false_iff_ne.2 h3, beq_eq_false_iff_ne.2 h4, beq_eq_false_iff_ne.2 h5, beq_eq_false_iff_ne.2 h6, beq_eq_false_iff_ne.2 h7, beq_eq_false_iff_ne.2 h8, ?_⟩))))))))
  unfold kidsN
  simp [h0, h1, h2, h3, h4, h5, h6, h7, h8]

/-- The cells of a node, one by one. -/
def NdAt (b o : Nat) (n : Nd) (w : World) : Prop :=
  w.cell? ⟨b, o, none⟩ = some (.int .i64 n.k) ∧ w.cell? ⟨b, o + 1, none⟩ = some (wd n.s.a) ∧ w.cell? ⟨b, o + 2, none⟩ = some (wd n.s.b) ∧ w.cell? ⟨b, o + 3, none⟩ = some (wd n.s.c) ∧ w.cell? ⟨b, o + 4, none⟩ = some (wd n.s.d) ∧ w.cell? ⟨b, o + 5, none⟩ = some (.int .i64 n.x) ∧ w.cell? ⟨b, o + 6, none⟩ = some (.int .i64 n.y)
/-- A row of nodes that can be read. -/
def Lies (v : Value) (ts : List Nd) (w : World) : Prop :=
  ∃ ao cap, v = .slice ao ts.length cap ∧ ts.length ≤ 140737488355328 ∧ ∀ (j : Nat) (n : Nd), ts[j]? = some n → ∃ b o, ao = some ⟨b, o, none⟩ ∧ b < w.heap.size ∧ NdAt b (o + j * 7) n w
theorem Lies.below {v : Value} {ts : List Nd} {w w' : World} (h : Lies v ts w) (hb : Below w.heap.size w w') : Lies v ts w' := by
  obtain ⟨ao, cap, h1, hl, h2⟩ := h
  refine ⟨ao, cap, h1, hl, fun j n hj => ?_⟩
  obtain ⟨b, o, h3, h4, h5⟩ := h2 j n hj
  refine ⟨b, o, h3, Nat.lt_of_lt_of_le h4 hb.size, ?_⟩
  have e : ∀ i, w'.cell? ⟨b, i, none⟩ = w.cell? ⟨b, i, none⟩ := fun i => by unfold World.cell?; rw [hb.block b h4]
  unfold NdAt
  rw [e, e, e, e, e, e, e]
  exact h5
theorem NdAt.below {b o : Nat} {n : Nd} {w w' : World} {B : Nat} (h : NdAt b o n w) (hb : Below B w w') (hlt : b < B) : NdAt b o n w' := by
  have e : ∀ i, w'.cell? ⟨b, i, none⟩ = w.cell? ⟨b, i, none⟩ := fun i => by unfold World.cell?; rw [hb.block b hlt]
  unfold NdAt
  rw [e, e, e, e, e, e, e]
  exact h
theorem Lies.at {ao : Option Addr} {N cap : Nat} {ts : List Nd} {w : World} (h : Lies (.slice ao N cap) ts w) {j : Nat} {n : Nd} (hj : ts[j]? = some n) : ∃ b o, ao = some ⟨b, o, none⟩ ∧ b < w.heap.size ∧ NdAt b (o + j * 7) n w := by
  obtain ⟨_, _, h1, _, h2⟩ := h
  cases h1
  exact h2 j n hj
theorem ndC_get : ∀ (ts : List Nd) (j i : Nat) (n : Nd), ts[j]? = some n → i < 7 → (ndC ts)[j * 7 + i]? = n.cells[i]?
  | [], j, i, n, h, _ => by simp at h
  | t :: ts, 0, i, n, h, hi => by
    simp at h
    subst h
    show (t.cells ++ ndC ts)[0 * 7 + i]? = _
    rw [List.getElem?_append_left (by show 0 * 7 + i < 7; omega)]
    congr 1
    omega
  | t :: ts, j + 1, i, n, h, hi => by
    have h : ts[j]? = some n := by simpa using h
    show (t.cells ++ ndC ts)[(j + 1) * 7 + i]? = _
    rw [List.getElem?_append_right (by show 7 ≤ _; omega)]
    have e : (j + 1) * 7 + i - t.cells.length = j * 7 + i := by show (j + 1) * 7 + i - 7 = _; omega
    rw [e, ndC_get ts j i n h hi]
end Go.Proofs.YtgceckejchdnlaaGreatDoor
namespace Go.Proofs.YtgceckejchdnlaaGreatDoor
open Go.RowKit Go.Lib

def ints (st : List Int) : List Value := st.map (Value.int .i64)
/-- The kids that a node must have, so many of them, above a stack. -/
def wantL (st : List Int) (m : Int) : Int × Int :=
  if m = 1 then (st.getLast?.getD 0, 0) else if m = 2 then (st.dropLast.getLast?.getD 0, st.getLast?.getD 0) else (0, 0)
def rightStep (st : List Int) (j : Nat) (n : Nd) : Option (List Int) :=
  if kidsN n.k < 0 ∨ (st.length : Int) < kidsN n.k then none
  else if ¬ (n.x = (wantL st (kidsN n.k)).1 ∧ n.y = (wantL st (kidsN n.k)).2) ∨ (n.k ≠ 1 ∧ n.s ≠ k0) then none
  else some (st.take (st.length - (kidsN n.k).toNat) ++ [(j : Int)])
def rightRun : List Nd → Nat → List Int → Option (List Int)
  | [], _, st => some st
  | n :: ts, j, st => (rightStep st j n).bind (rightRun ts (j + 1))
def rightD (ts : List Nd) : Bool := if 2000 < ts.length then false else match rightRun ts 0 [] with | some st => st.length == 1 | none => false

/-- Two kids compared. -/
theorem eql_two (n : Nat) (a b c d : Int) (w : World) : (Op.equalIn (n + 1 + 1) 70 (.agg #[.int .i64 a, .int .i64 b]) (.agg #[.int .i64 c, .int .i64 d])).run Tryz.prog w = .ok (a == c && b == d) w := by
  rw [Op.equalIn]
  simp only [Sem.run_bind, run_underlying Tryz.underlying70, Result.andThen_ok, Tryz.sizeOf3]
  simp only [Std.Legacy.Range.forIn_eq_forIn_range', Std.Legacy.Range.size, List.range', List.forIn_cons, List.forIn_nil]
  simp only [Nat.zero_add, Nat.mul_one]
  have r0 : ∀ w, (Op.equalIn (n + 1) 3 (.int .i64 a) (.int .i64 c)).run Tryz.prog w = .ok (a == c) w := fun w => run_equalIn_int w n 3 .i64 .i64 a c Tryz.underlying3
  have r1 : ∀ w, (Op.equalIn (n + 1) 3 (.int .i64 b) (.int .i64 d)).run Tryz.prog w = .ok (b == d) w := fun w => run_equalIn_int w n 3 .i64 .i64 b d Tryz.underlying3
  have rp : ∀ (xs : Array Value) (o : Nat) (v : Value) (w : World), xs[o]? = some v → (part 3 xs o).run Tryz.prog w = .ok v w := fun xs o v w h => by
    simp [part, Sem.run_bind, Tryz.isAgg3, Result.andThen, h]
  have x0 := fun w => rp #[.int .i64 a, .int .i64 b] 0 _ w rfl
  have x1 := fun w => rp #[.int .i64 a, .int .i64 b] 1 _ w rfl
  have y0 := fun w => rp #[.int .i64 c, .int .i64 d] 0 _ w rfl
  have y1 := fun w => rp #[.int .i64 c, .int .i64 d] 1 _ w rfl
  cases hp : (a == c) <;> cases hq : (b == d) <;> simp [Sem.run_bind, Result.andThen, r0, r1, x0, x1, y0, y1, hp, hq]
/-- A tree's last node. -/
def Tr.node : Tr → Nat → Nd
  | .leaf j, _ => ⟨j, k0, 0, 0⟩
  | .set k, _ => ⟨1, k, 0, 0⟩
  | .rep j a, n => ⟨j, k0, (n : Int) + a.size - 1, 0⟩
  | .two j a b, n => ⟨j, k0, (n : Int) + a.size - 1, (n : Int) + a.size + b.size - 1⟩
/-- A tree's nodes stand in a row from some place on. -/
def Sub (ts : List Nd) (t : Tr) (n : Nat) : Prop := ∀ j, j < t.size → ts[n + j]? = (t.row n)[j]?
theorem row_root : ∀ (t : Tr) (n : Nat), (t.row n)[t.size - 1]? = some (t.node n)
  | .leaf _, _ => rfl
  | .set _, _ => rfl
  | .rep j a, n => by
    show (a.row n ++ [_])[a.size + 1 - 1]? = _
    rw [List.getElem?_append_right (by rw [Tr.row_length]; omega), Tr.row_length, show a.size + 1 - 1 - a.size = 0 by omega]
    rfl
  | .two j a b, n => by
    show (a.row n ++ (b.row (n + a.size) ++ [_]))[a.size + b.size + 1 - 1]? = _
    rw [List.getElem?_append_right (by rw [Tr.row_length]; omega), Tr.row_length, List.getElem?_append_right (by rw [Tr.row_length]; omega), Tr.row_length, show a.size + b.size + 1 - 1 - a.size - b.size = 0 by omega]
    rfl
theorem Sub.root {ts : List Nd} {t : Tr} {n r : Nat} (h : Sub ts t n) (hr : r + 1 = n + t.size) : ts[r]? = some (t.node n) := by
  have hp := t.size_pos
  have := h (t.size - 1) (by omega)
  rw [row_root] at this
  rwa [show n + (t.size - 1) = r by omega] at this
theorem Sub.rep {ts : List Nd} {j : Nat} {a : Tr} {n : Nat} (h : Sub ts (.rep j a) n) : Sub ts a n := fun i hi => by
  rw [h i (by show i < a.size + 1; omega)]
  show (a.row n ++ [_])[i]? = _
  rw [List.getElem?_append_left (by rw [Tr.row_length]; exact hi)]
theorem Sub.fst {ts : List Nd} {j : Nat} {a b : Tr} {n : Nat} (h : Sub ts (.two j a b) n) : Sub ts a n := fun i hi => by
  rw [h i (by show i < a.size + b.size + 1; omega)]
  show (a.row n ++ (b.row (n + a.size) ++ [_]))[i]? = _
  rw [List.getElem?_append_left (by rw [Tr.row_length]; exact hi)]
theorem Sub.snd {ts : List Nd} {j : Nat} {a b : Tr} {n : Nat} (h : Sub ts (.two j a b) n) : Sub ts b (n + a.size) := fun i hi => by
  rw [Nat.add_assoc, h (a.size + i) (by show a.size + i < a.size + b.size + 1; omega)]
  show (a.row n ++ (b.row (n + a.size) ++ [_]))[a.size + i]? = _
  rw [List.getElem?_append_right (by rw [Tr.row_length]; omega), Tr.row_length, List.getElem?_append_left (by rw [Tr.row_length]; omega), show a.size + i - a.size = i by omega]
theorem sub_row (t : Tr) : Sub (t.row 0) t 0 := fun j _ => by rw [Nat.zero_add]

theorem run_row : ∀ (t : Tr), t.ok → ∀ (n : Nat) (rest : List Nd) (st : List Int), rightRun (t.row n ++ rest) n st = rightRun rest (n + t.size) (st ++ [(n : Int) + t.size - 1])
  | .leaf j, hok, n, rest, st => by
    have hk : kidsN (j : Int) = 0 := by rcases hok with rfl | rfl | rfl <;> rfl
    show (rightStep st n ⟨(j : Int), k0, 0, 0⟩).bind (rightRun rest (n + 1)) = _
    have e : rightStep st n ⟨(j : Int), k0, 0, 0⟩ = some (st ++ [(n : Int)]) := by
      unfold rightStep wantL
      simp [hk]
    rw [e]
    show rightRun rest (n + 1) (st ++ [(n : Int)]) = rightRun rest (n + 1) (st ++ [(n : Int) + ((1 : Nat) : Int) - 1])
    rw [show (n : Int) + ((1 : Nat) : Int) - 1 = n by omega]
  | .set k, _, n, rest, st => by
    show (rightStep st n ⟨1, k, 0, 0⟩).bind (rightRun rest (n + 1)) = _
    have e : rightStep st n ⟨1, k, 0, 0⟩ = some (st ++ [(n : Int)]) := by
      have hk : kidsN 1 = 0 := rfl
      unfold rightStep wantL
      simp [hk]
    rw [e]
    show rightRun rest (n + 1) (st ++ [(n : Int)]) = rightRun rest (n + 1) (st ++ [(n : Int) + ((1 : Nat) : Int) - 1])
    rw [show (n : Int) + ((1 : Nat) : Int) - 1 = n by omega]
  | .rep j a, hok, n, rest, st => by
    have hk : kidsN (j : Int) = 1 := by rcases hok.1 with rfl | rfl | rfl <;> rfl
    show rightRun ((a.row n ++ [_]) ++ rest) n st = _
    rw [List.append_assoc, run_row a hok.2 n]
    show (rightStep _ (n + a.size) ⟨(j : Int), k0, (n : Int) + a.size - 1, 0⟩).bind (rightRun rest (n + a.size + 1)) = _
    have e : rightStep (st ++ [(n : Int) + a.size - 1]) (n + a.size) ⟨(j : Int), k0, (n : Int) + a.size - 1, 0⟩ = some (st ++ [((n + a.size : Nat) : Int)]) := by
      unfold rightStep wantL
      simp [hk]
      omega
    rw [e]
    show rightRun rest (n + a.size + 1) _ = rightRun rest (n + (a.size + 1)) (st ++ [(n : Int) + ((a.size + 1 : Nat) : Int) - 1])
    rw [show (n : Int) + ((a.size + 1 : Nat) : Int) - 1 = ((n + a.size : Nat) : Int) by omega]
    rfl
  | .two j a b, hok, n, rest, st => by
    have hk : kidsN (j : Int) = 2 := by rcases hok.1 with rfl | rfl <;> rfl
    have hj1 : ¬ (j : Int) = 1 := by rcases hok.1 with rfl | rfl <;> decide
    show rightRun ((a.row n ++ (b.row (n + a.size) ++ [_])) ++ rest) n st = _
    rw [List.append_assoc, run_row a hok.2.1 n, List.append_assoc, run_row b hok.2.2 (n + a.size)]
    show (rightStep _ (n + a.size + b.size) ⟨(j : Int), k0, (n : Int) + a.size - 1, (n : Int) + a.size + b.size - 1⟩).bind (rightRun rest (n + a.size + b.size + 1)) = _
    have e : rightStep ((st ++ [(n : Int) + a.size - 1]) ++ [((n + a.size : Nat) : Int) + b.size - 1]) (n + a.size + b.size) ⟨(j : Int), k0, (n : Int) + a.size - 1, (n : Int) + a.size + b.size - 1⟩ = some (st ++ [((n + a.size + b.size : Nat) : Int)]) := by
      have e1 : (st ++ [(n : Int) + a.size - 1]) ++ [((n + a.size : Nat) : Int) + b.size - 1] = st ++ [(n : Int) + a.size - 1, (n : Int) + a.size + b.size - 1] := by
        rw [List.append_assoc]
        congr 2
      rw [e1]
      have hw : wantL (st ++ [(n : Int) + a.size - 1, (n : Int) + a.size + b.size - 1]) 2 = ((n : Int) + a.size - 1, (n : Int) + a.size + b.size - 1) := by
        unfold wantL
        simp
      have hl : (st ++ [(n : Int) + a.size - 1, (n : Int) + a.size + b.size - 1]).length = st.length + 2 := by simp
      unfold rightStep
      dsimp only
      rw [hk, hw, if_neg (by rw [hl]; omega), if_neg (by rintro (h | ⟨_, h⟩) <;> exact h (by first | exact ⟨rfl, rfl⟩ | rfl)), hl]
      simp
    rw [e]
    show rightRun rest (n + a.size + b.size + 1) _ = rightRun rest (n + (a.size + b.size + 1)) (st ++ [(n : Int) + ((a.size + b.size + 1 : Nat) : Int) - 1])
    rw [show (n : Int) + ((a.size + b.size + 1 : Nat) : Int) - 1 = ((n + a.size + b.size : Nat) : Int) by omega, show n + a.size + b.size + 1 = n + (a.size + b.size + 1) by omega]
end Go.Proofs.YtgceckejchdnlaaGreatDoor
namespace Go.Proofs.YtgceckejchdnlaaGreatDoor
open Go.RowKit Go.Lib

theorem Tryz.infoInt : (Tryz.prog.info? 3).map (fun i => (i.zero, i.size, i.bytes)) = some (some (.int .i64 0), 1, 8) := by kernel_rfl
theorem Tryz.sizeInt : (Tryz.prog.info? 3).map (·.size) = some 1 := by kernel_rfl
theorem owns_take {w : World} {B L r cp : Nat} {e : TypeId} {ao : Option Addr} {xs : List Value} (h : w.ownsRow B e 1 (.slice ao L cp) L xs) (hr : r ≤ L) : w.ownsRow B e 1 (.slice ao r cp) r (xs.take r) := by
  obtain ⟨h1, h2⟩ := h
  refine ⟨by rw [List.length_take]; omega, ?_⟩
  rcases h2 with ⟨hv, h0⟩ | ⟨g, cap, cur, hv, hB, hg, hc, hm, hs, htk⟩
  · cases hv
    have : r = 0 := by omega
    subst this
    exact .inl ⟨rfl, rfl⟩
  · cases hv
    refine .inr ⟨g, cp, cur, rfl, hB, hg, by omega, hm, hs, ?_⟩
    rw [← htk, List.take_take]
    congr 1
    omega
theorem wpList_prefix_own {P : Program} {w : World} {ops : Array Oper} {rest : List Oper} {o : Oper} {a : Act} {Q : Exit → Act → World → Prop} (hg : o.guard = none) (s hi : Operand) (t e : TypeId) (hu : P.underlying t = some (.slice e)) (hse : ∀ w, (sizeOf e).run P w = .ok 1 w) (hop : o.op = Op.slice t s none (some hi) none)
    (B L r : Nat) (v : Value) (xs : List Value) (hs : a.eval s = v) (hh : a.eval hi = .int .i64 (r : Int)) (hown : w.ownsRow B e 1 v L xs) (hr : r ≤ L)
    (hK : ∀ v', w.ownsRow B e 1 v' r (xs.take r) → v'.ownBlock = v.ownBlock → wpList P ops Q rest (a.put o.dst v') w) : wpList P ops Q (o :: rest) a w := by
  refine wpList_plain hg fun K hK' => ?_
  have hown0 := hown
  rcases hown.2 with ⟨rfl, h0⟩ | ⟨g, cap, cur, rfl, hB, hgg, hc, hm, hz, htk⟩
  · obtain rfl : r = 0 := by omega
    subst h0
    have h2 := hK' _ _ (hK _ (owns_take hown0 (Nat.le_refl _)) rfl)
    unfold Oper.wp
    simp [execOp, hop, hs, hh]
    go_simp
    exact h2
  · have h2 := hK' _ _ (hK _ (owns_take hown0 hr) rfl)
    unfold Oper.wp
    simp [execOp, hop, hs, hh]
    have hrc : r ≤ cap := by omega
    go_simp
    exact h2
theorem owns_kind {w : World} {B n size : Nat} {e t : TypeId} {v : Value} {xs : List Value} {g : Nat} {cs : Array Value} {fz : Nat × Nat} (h : w.ownsRow B e size v n xs) (hg : w.heap[g]? = some (.cells cs t fz)) (hne : t ≠ e) : v.ownBlock ≠ some g := by
  intro e0
  rcases h.2 with ⟨hv, _⟩ | ⟨g', cap, cur, hv, _, hh, _⟩
  · rw [hv] at e0; cases e0
  · rw [hv] at e0
    cases e0
    rw [hg] at hh
    injection hh with hh
    injection hh with _ hh _
    exact hne hh
theorem own_zeroB {w : World} {B k : Nat} {e : TypeId} {v : Value} {xs : List Value} {n : Nat} (h : w.ownsRow B e k v n xs) : ∃ ao cap, v = .slice ao n cap := by
  rcases h.2 with ⟨hv, h0⟩ | ⟨g, cap, cur, hv, _⟩
  · exact ⟨_, _, by rw [hv, h0]⟩
  · exact ⟨_, _, hv⟩
theorem owns_cap {w : World} {B L cp : Nat} {e : TypeId} {ao : Option Addr} {xs : List Value} (h : w.ownsRow B e 1 (.slice ao L cp) L xs) : L ≤ cp ∧ cp ≤ maxLen := by
  rcases h.2 with ⟨hv, h0⟩ | ⟨g, cap, cur, hv, hB, hg, hc, hm, _⟩
  · cases hv; exact ⟨Nat.le_refl _, Nat.zero_le _⟩
  · cases hv; exact ⟨hc, hm⟩
theorem owns_cell {w : World} {B L cp g : Nat} {e : TypeId} {xs : List Value} (h : w.ownsRow B e 1 (.slice (some ⟨g, 0, none⟩) L cp) L xs) {j : Nat} {v : Value} (hj : xs[j]? = some v) : w.cell? ⟨g, j, none⟩ = some v := by
  obtain ⟨h1, h2⟩ := h
  rcases h2 with ⟨hv, _⟩ | ⟨g', cap, cur, hv, hB, hg, hc, hm, hs, htk⟩
  · cases hv
  · cases hv
    have hjl : j < L := by
      by_cases hl : j < xs.length
      · omega
      · rw [List.getElem?_eq_none (by omega)] at hj; cases hj
    rw [cell_of_heap hg]
    rw [← htk, List.getElem?_take_of_lt (by omega)] at hj
    simpa using hj
theorem rightD_false {ts : List Nd} (h : rightRun ts 0 [] = none) : rightD ts = false := by
  unfold rightD
  rw [h]
  split <;> rfl
theorem rightD_some {ts : List Nd} {st : List Int} (hl : ¬ 2000 < ts.length) (h : rightRun ts 0 [] = some st) : rightD ts = (st.length == 1) := by
  unfold rightD
  rw [if_neg hl, h]
theorem run_drop {ts : List Nd} {j : Nat} {n : Nd} (st : List Int) (h : ts[j]? = some n) : rightRun (ts.drop j) j st = (rightStep st j n).bind (rightRun (ts.drop (j + 1)) (j + 1)) := by
  have hlt : j < ts.length := by
    by_cases hl : j < ts.length
    · exact hl
    · rw [List.getElem?_eq_none (by omega)] at h; cases h
  rw [List.getElem?_eq_getElem hlt] at h
  cases h
  rw [List.drop_eq_getElem_cons hlt]
  rfl
theorem pair_cells {w : World} {g : Nat} {t : TypeId} {p q : Value} (h : w.heap[g]? = some (.cells #[p, q] t (0, 0))) : w.cell? ⟨g, 0, none⟩ = some p ∧ w.cell? ⟨g, 1, none⟩ = some q :=
  ⟨cell_of_row w g 0 _ _ _ h, cell_of_row w g 1 _ _ _ h⟩
theorem set_zero {s : K4} (h : ((s.a.toNat : Int) == 0 && ((s.b.toNat : Int) == 0 && ((s.c.toNat : Int) == 0 && (s.d.toNat : Int) == 0))) = true) : s = k0 := by
  simp only [Bool.and_eq_true, beq_iff_eq] at h
  obtain ⟨h1, h2, h3, h4⟩ := h
  obtain ⟨a, b, c, d⟩ := s
  unfold k0
  dsimp only at h1 h2 h3 h4
  have z : ∀ x : BitVec 64, (x.toNat : Int) = 0 → x = 0 := fun x hx => BitVec.eq_of_toNat_eq (by show x.toNat = 0; omega)
  rw [z a h1, z b h2, z c h3, z d h4]
theorem owns_alloc {w : World} {B n size : Nat} {e : TypeId} {v : Value} {xs : List Value} {o : Obj} (h : w.ownsRow B e size v n xs) : (w.alloc o).ownsRow B e size v n xs := owns_same h fun _g hg => Below.heap_alloc _ _ _ (own_block_lt h hg)
theorem ints_snoc (st : List Int) (j : Int) : ints (st ++ [j]) = ints st ++ [.int .i64 j] := by unfold ints; rw [List.map_append]; rfl
theorem cell_one' (w : World) (t : TypeId) (p : Value) : ∀ j x, [p][j]? = some x → (w.alloc (.cells #[p] t)).cell? ((⟨w.heap.size, 0, none⟩ : Addr).add j) = some x := by
  intro j x hj
  have h := heap_alloc_new w (.cells #[p] t)
  have e : (⟨w.heap.size, 0, none⟩ : Addr).add j = ⟨w.heap.size, j, none⟩ := by simp [Addr.add]; intro h; exact h.symm
  rw [e, cell_of_heap h]
  simpa using hj
theorem ints_take (st : List Int) (r : Nat) : (ints st).take r = ints (st.take r) := by unfold ints; rw [List.map_take]
theorem take_snoc_len (st : List Int) (r : Nat) (j : Nat) (h : r ≤ st.length) : (st.take r ++ [(j : Int)]).length = r + 1 := by
  rw [List.length_append, List.length_take]
  simp
  omega
theorem split_one (st : List Int) (h : 1 ≤ st.length) : ∃ (s : List Int) (x : Int), st = s ++ [x] := by
  cases hr : st.reverse with
  | nil => rw [List.reverse_eq_nil_iff] at hr; rw [hr] at h; simp at h
  | cons x s => exact ⟨s.reverse, x, by rw [← List.reverse_reverse st, hr, List.reverse_cons]⟩
theorem split_two (st : List Int) (h : 2 ≤ st.length) : ∃ (s : List Int) (x y : Int), st = s ++ [x, y] := by
  obtain ⟨s, y, rfl⟩ := split_one st (by omega)
  obtain ⟨s, x, rfl⟩ := split_one s (by simp at h; omega)
  exact ⟨s, x, y, by simp⟩
end Go.Proofs.YtgceckejchdnlaaGreatDoor
namespace Go.Proofs.YtgceckejchdnlaaGreatDoor
open Go.RowKit Go.Lib

/-- A row of texts that can be read. -/
def Strs (v : Value) (xs : List ByteArray) (w : World) : Prop :=
  ∃ ao cap, v = .slice ao xs.length cap ∧ xs.length ≤ cap ∧ xs.length ≤ 140737488355328 ∧ ∀ j x, xs[j]? = some x → ∃ b o, ao = some ⟨b, o, none⟩ ∧ b < w.heap.size ∧ w.cell? ⟨b, o + j, none⟩ = some (.string x)
theorem Strs.below {v : Value} {xs : List ByteArray} {w w' : World} (h : Strs v xs w) (hb : Below w.heap.size w w') : Strs v xs w' := by
  obtain ⟨ao, cap, h1, hc, hl, h2⟩ := h
  refine ⟨ao, cap, h1, hc, hl, fun j x hj => ?_⟩
  obtain ⟨b, o, h3, h4, h5⟩ := h2 j x hj
  refine ⟨b, o, h3, Nat.lt_of_lt_of_le h4 hb.size, ?_⟩
  rw [← h5]
  unfold World.cell?
  rw [hb.block b h4]
theorem Strs.len {ao : Option Addr} {N cap : Nat} {xs : List ByteArray} {w : World} (h : Strs (.slice ao N cap) xs w) : N = xs.length ∧ N ≤ cap ∧ N ≤ 140737488355328 := by
  obtain ⟨_, _, h1, h2, h3, _⟩ := h
  cases h1
  exact ⟨rfl, h2, h3⟩
theorem Strs.at {ao : Option Addr} {N cap : Nat} {xs : List ByteArray} {w : World} (h : Strs (.slice ao N cap) xs w) {j : Nat} {x : ByteArray} (hj : xs[j]? = some x) : ∃ b o, ao = some ⟨b, o, none⟩ ∧ b < w.heap.size ∧ w.cell? ⟨b, o + j, none⟩ = some (.string x) := by
  obtain ⟨_, _, h1, _, _, h2⟩ := h
  cases h1
  exact h2 j x hj
theorem Strs.nil (w : World) : Strs (.slice none 0 0) [] w := ⟨none, 0, rfl, Nat.le_refl _, Nat.zero_le _, fun j x h => by simp at h⟩
/-- The bytes of a row of texts, with something between. -/
def joinB (xs : List ByteArray) (sep : ByteArray) : ByteArray := ⟨(Lib.join (xs.map (·.data.toList)) sep.data.toList).toArray⟩
theorem joinB_size (xs : List ByteArray) (sep : ByteArray) : (joinB xs sep).size = (Lib.join (xs.map (·.data.toList)) sep.data.toList).length := List.size_toArray
theorem joinS_any (v : Value) (xs : List ByteArray) (sep : ByteArray) (w : World) (h : Strs v xs w) (hl : (joinB xs sep).size ≤ 140737488355328) :
    Calls Tryz.prog 14 #[v, .string sep] w fun e w' => e = .returned (.string (joinB xs sep)) ∧ Below w.heap.size w w' := by
  rw [joinB_size] at hl
  obtain ⟨ao, cap, rfl, hc, hn, h2⟩ := h
  cases hx : xs with
  | nil =>
    refine (Tryz.strings_Join_none ao cap sep w).mono ?_
    rintro e w' ⟨rfl, rfl⟩
    exact ⟨rfl, Below.refl _ _⟩
  | cons x r =>
    rw [← hx]
    obtain ⟨b, o, rfl, hb, _⟩ := h2 0 x (by rw [hx]; rfl)
    refine Tryz.strings_Join b o cap xs sep w (fun j y hj => ?_) hb hn hc hl
    obtain ⟨_, _, h3, _, h4⟩ := h2 j y hj
    cases h3
    exact h4
set_option maxHeartbeats 1000000 in
set_option maxRecDepth 20000 in
theorem layS_any (v : Value) (xs : List ByteArray) (sep : ByteArray) (w : World) (h : Strs v xs w) (hl : (joinB xs sep).size ≤ 140737488355328) :
    Calls Tryz.prog 54 #[.string sep, v] w fun e w' => e = .returned (.string (joinB xs sep)) ∧ Below w.heap.size w w' := by
  have k := joinS_any v xs sep w h hl
  obtain ⟨ao, cap, rfl, _⟩ := h
  generalize joinB xs sep = r at k
  generalize xs.length = N at k
  clear hl
  go_enter Tryz.func54, Tryz.ntmps54
  go_wp2_with (first
    | (go_at_call 14; refine k.mono ?_; rintro e w1 ⟨rfl, hb1⟩)
    | fail)
  exact bodyPost_ret (results_tmp rfl _ _ _) rfl ⟨rfl, hb1⟩
end Go.Proofs.YtgceckejchdnlaaGreatDoor
namespace Go.Proofs.YtgceckejchdnlaaGreatDoor
open Go.RowKit Go.Lib

theorem ba_ext {a b : ByteArray} (h : a.data.toList = b.data.toList) : a = b := by
  cases a; cases b
  simp at h
  subst h
  rfl
theorem joinB_list (xs : List ByteArray) (sep : ByteArray) : (joinB xs sep).data.toList = Lib.join (xs.map (·.data.toList)) sep.data.toList := by simp [joinB]
theorem ba_eq (x y : ByteArray) : (x.toList == y.toList) = true ↔ x = y := by
  rw [beq_iff_eq, ByteArray.toList_eq, ByteArray.toList_eq]
  constructor
  · exact ba_ext
  · intro h; rw [h]
set_option maxHeartbeats 2000000 in
set_option maxRecDepth 20000 in
theorem refSameS_len (ao bo : Option Addr) (N M cap cap2 : Nat) (w : World) (_hN : N ≤ 140737488355328) (_hM : M ≤ 140737488355328) (h : N ≠ M) :
    Calls Tryz.prog 22 #[.slice ao N cap, .slice bo M cap2] w fun e w' => e = .returned (.bool false) ∧ Below w.heap.size w w' := by
  have h1 : ((N : Int) != (M : Int)) = true := by simp; omega
  go_enter Tryz.func22, Tryz.ntmps22
  go_wp2
  exact bodyPost_ret (results_tmp rfl _ _ _) rfl ⟨rfl, Below.refl _ _⟩
set_option maxHeartbeats 2000000 in
set_option maxRecDepth 20000 in
theorem refSameS_walk (ao bo : Option Addr) (N cap cap2 : Nat) (xs ys : List ByteArray) (w : World) (h : Strs (.slice ao N cap) xs w) (h2 : Strs (.slice bo N cap2) ys w) :
    Calls Tryz.prog 22 #[.slice ao N cap, .slice bo N cap2] w fun e w' => e = .returned (.bool (decide (xs = ys))) ∧ Below w.heap.size w w' := by
  obtain ⟨hN, _, hN2⟩ := h.len
  obtain ⟨hM, _, _⟩ := h2.len
  have H := Lib.hid h
  have H2 := Lib.hid h2
  have HN := Lib.hid (And.intro hN hM)
  have h1 : ((N : Int) != (N : Int)) = false := by simp
  clear h h2 hN hM
  go_enter Tryz.func22, Tryz.ntmps22
  go_wp2
  go_loopg [5] (N + 1) (fun k i wr => ∃ (j : Nat), i = .int .i64 j ∧ j ≤ N ∧ Hid (k = N + 1 - j) ∧ Hid (∀ q, q < j → xs[q]? = ys[q]?) ∧ Hid (Below w.heap.size w wr))
  case atStart => exact ⟨0, rfl, by omega, rfl, fun q hq => by omega, Below.refl _ _⟩
  case round =>
    obtain ⟨j, rfl, hj, HK, HS, HB⟩ := hrel
    by_cases hlt : j < N
    · obtain ⟨m, hm⟩ : ∃ n, xs[j]? = some n := ⟨xs[j]'(by have := HN.out.1; omega), List.getElem?_eq_getElem _⟩
      obtain ⟨n, hn⟩ : ∃ n, ys[j]? = some n := ⟨ys[j]'(by have := HN.out.2; omega), List.getElem?_eq_getElem _⟩
      obtain ⟨b, o, rfl, hb, ca⟩ := (H.out.below HB.out).at hm
      obtain ⟨b2, o2, rfl, hb2, cb⟩ := (H2.out.below HB.out).at hn
      have hI : IntKind.i64.wrap ((j : Int) + 1) = ((j + 1 : Nat) : Int) := by rw [IntWalk.i64_in _ (by omega)]; omega
      obtain ⟨q, hq⟩ : ∃ q, (m.toList == n.toList) = q := ⟨_, rfl⟩
      have HQ := Lib.hid (And.intro hq (And.intro hm hn))
      clear hm hn
      cases q
      · have hne : xs ≠ ys := fun e => by
          have h1 := HQ.out.2.1
          rw [e, HQ.out.2.2] at h1
          have e : n = m := Option.some.inj h1
          have h2 := HQ.out.1
          rw [(ba_eq m n).2 e.symm] at h2
          cases h2
        have HD := Lib.hid (decide_eq_false hne)
        clear hne
        go_wp2_with fail
        go_region
        all_goals
          go_wp2
          exact bodyPost_ret (results_tmp rfl _ _ _) rfl ⟨by rw [HD.out]; rfl, HB.out.drew⟩
      · have e : m = n := (ba_eq m n).1 hq
        have HE := Lib.hid e
        clear e
        go_wp2_with fail
        go_region
        all_goals
          go_wp2
          go_roundg (N - j)
          case rel => exact ⟨j + 1, by go_num, by omega, by show _ = _; omega, fun q hq => by
            by_cases hqj : q = j
            · rw [hqj, HQ.out.2.1, HQ.out.2.2, HE.out]
            · exact HS.out q (by omega), HB.out.drew⟩
          case measure => have := HK.out; omega
    · have hd : decide ((j : Int) < (N : Int)) = false := by simp; omega
      have heq : xs = ys := by
        apply List.ext_getElem?
        intro q
        by_cases hq : q < j
        · exact HS.out q hq
        · rw [List.getElem?_eq_none (by have := HN.out.1; omega), List.getElem?_eq_none (by have := HN.out.2; omega)]
      have HD := Lib.hid (decide_eq_true heq)
      clear heq
      go_wp2
      exact bodyPost_ret (results_tmp rfl _ _ _) rfl ⟨by rw [HD.out]; rfl, HB.out⟩
/-- The document's Same, of rows of texts. -/
theorem refSameS_any (u v : Value) (xs ys : List ByteArray) (w : World) (h : Strs u xs w) (h2 : Strs v ys w) :
    Calls Tryz.prog 22 #[u, v] w fun e w' => e = .returned (.bool (decide (xs = ys))) ∧ Below w.heap.size w w' := by
  have h' := h
  have h2' := h2
  obtain ⟨ao, cap, rfl, _, hl, _⟩ := h
  obtain ⟨bo, cap2, rfl, _, hl2, _⟩ := h2
  by_cases hN : xs.length = ys.length
  · rw [← hN] at h2' ⊢
    exact refSameS_walk ao bo xs.length cap cap2 xs ys w h' h2'
  · have hD : decide (xs = ys) = false := decide_eq_false fun e => hN (by rw [e])
    rw [hD]
    exact refSameS_len ao bo _ _ cap cap2 w hl hl2 hN
end Go.Proofs.YtgceckejchdnlaaGreatDoor
namespace Go.Proofs.YtgceckejchdnlaaGreatDoor
open Go.RowKit Go.Lib

/-- The byte that a sign tells, and how many bytes it has. -/
def signU (l : List UInt8) : Option (UInt8 × Nat) := (signD l).map fun p => (p.1.toNat.toUInt8, p.2.toNat)
/-- What a replacement begins with: a place (none), or a byte; and how many bytes that takes. -/
def stepR : List UInt8 → Option (Option UInt8 × Nat)
  | [] => none
  | c :: r => if c = 38 then some (none, 1) else if c = 47 ∨ c = 10 then none else if c ≠ 92 then some (some c, 1)
    else if r.head? = some 38 then some (some 38, 2) else (signU (c :: r)).map fun p => (some p.1, p.2)
def readR : Nat → List UInt8 → List (List UInt8) → List UInt8 → Option (List (List UInt8))
  | 0, _, _, _ => none
  | f + 1, l, acc, now => if l = [] then some (acc ++ [now]) else match stepR l with
    | none => none
    | some (none, n) => readR f (l.drop n) (acc ++ [now]) []
    | some (some c, n) => readR f (l.drop n) acc (now ++ [c])
def readD' (l : List UInt8) : Option (List (List UInt8)) := readR (l.length + 1) l [] []
theorem digN_hi (c : UInt8) : digN c ≤ 15 := (digN_ge c).2
theorem toldD_fit {l : List UInt8} {b n : Int} (h : toldD l = some (b, n)) : 0 ≤ b ∧ b ≤ 255 ∧ n = 4 ∧ 2 ≤ l.length := by
  unfold toldD at h
  split at h
  · rename_i x y r
    split at h
    · cases h
    · rename_i hn
      have h1 := digN_hi x
      have h2 := digN_hi y
      cases h
      refine ⟨by omega, by omega, rfl, by simp⟩
  · cases h
theorem signD_fit {l : List UInt8} {b n : Int} (h : signD l = some (b, n)) : 0 ≤ b ∧ b ≤ 255 ∧ 1 ≤ n ∧ n ≤ l.length := by
  cases l with
  | nil => cases h
  | cons c r =>
    unfold signD at h
    dsimp only at h
    split at h
    · cases r with
      | nil => cases h
      | cons d t =>
        dsimp only at h
        split at h
        · obtain ⟨h1, h2, h3, h4⟩ := toldD_fit h
          exact ⟨h1, h2, by omega, by simp; omega⟩
        · split at h
          · cases h
            have := d.toNat_lt
            exact ⟨by omega, by omega, by omega, by simp; omega⟩
          · cases h
    · split at h
      · cases h
      · cases h
        have := c.toNat_lt
        exact ⟨by omega, by omega, by omega, by simp; omega⟩
theorem signU_none {l : List UInt8} (h : signU l = none) : signD l = none := by
  unfold signU at h
  cases hs : signD l with
  | none => rfl
  | some p => rw [hs] at h; cases h
theorem signU_some {l : List UInt8} {c : UInt8} {n : Nat} (h : signU l = some (c, n)) : signD l = some ((c.toNat : Int), (n : Int)) ∧ 1 ≤ n ∧ n ≤ l.length := by
  unfold signU at h
  cases hs : signD l with
  | none => rw [hs] at h; cases h
  | some p =>
    obtain ⟨b, m⟩ := p
    rw [hs] at h
    obtain ⟨h1, h2, h3, h4⟩ := signD_fit hs
    simp only [Option.map_some, Option.some.injEq, Prod.mk.injEq] at h
    obtain ⟨e1, e2⟩ := h
    have e3 : c.toNat = b.toNat := by
      rw [← e1]
      show (UInt8.ofNat b.toNat).toNat = _
      rw [UInt8.toNat_ofNat']
      omega
    refine ⟨by rw [e3, ← e2]; congr 2 <;> omega, by omega, by omega⟩
theorem stepR_fit {l : List UInt8} {o : Option UInt8} {n : Nat} (h : stepR l = some (o, n)) : 1 ≤ n ∧ n ≤ l.length := by
  cases l with
  | nil => cases h
  | cons c r =>
    have h : (if c = 38 then some (none, 1) else if c = 47 ∨ c = 10 then none else if c ≠ 92 then some (some c, 1)
      else if r.head? = some 38 then some (some 38, 2) else (signU (c :: r)).map fun p => (some p.1, p.2)) = some (o, n) := h
    by_cases h1 : c = 38
    · rw [if_pos h1] at h
      cases h
      simp
    · rw [if_neg h1] at h
      by_cases h2 : c = 47 ∨ c = 10
      · rw [if_pos h2] at h
        cases h
      · rw [if_neg h2] at h
        by_cases h3 : c ≠ 92
        · rw [if_pos h3] at h
          cases h
          simp
        · rw [if_neg h3] at h
          by_cases h4 : r.head? = some 38
          · rw [if_pos h4] at h
            cases h
            cases r with
            | nil => cases h4
            | cons d t => simp
          · rw [if_neg h4] at h
            cases hs : signU (c :: r) with
            | none => rw [hs] at h; cases h
            | some p =>
              rw [hs] at h
              cases h
              exact (signU_some hs).2
/-- What escaped answers. -/
def escV (l : List UInt8) : Ending := if l.tail.head? = some 38 ∧ l.head? = some 92 then .returned (.tuple #[.int .u8 38, .int .i64 2]) else match signU l with
  | some (c, n) => .returned (.tuple #[.int .u8 (c.toNat : Int), .int .i64 (n : Int)])
  | none => .returned (.tuple #[.int .u8 0, .int .i64 0])
theorem pref_two (l : List UInt8) : Lib.hasPrefix l [92, 38] = decide (l.tail.head? = some 38 ∧ l.head? = some 92) := by
  unfold Lib.hasPrefix
  rw [Bool.eq_iff_iff, decide_eq_true_eq]
  match l with
  | [] => simp
  | [c] => simp
  | c :: d :: r =>
    simp
    constructor
    · rintro ⟨h1, h2⟩; exact ⟨h2.symm, h1.symm⟩
    · rintro ⟨h1, h2⟩; exact ⟨h2.symm, h1.symm⟩
set_option maxHeartbeats 1000000 in
set_option maxRecDepth 20000 in
theorem escaped_any (s : ByteArray) (w : World) : Calls Tryz.prog 96 #[.string s] w fun e w' => e = escV s.data.toList ∧ Below w.heap.size w w' := by
  have k1 := Tryz.strings_HasPrefix s ⟨#[92, 38]⟩ w
  have e1 : (⟨#[92, 38]⟩ : ByteArray).data.toList = [92, 38] := rfl
  rw [e1, pref_two] at k1
  by_cases hp : s.data.toList.tail.head? = some 38 ∧ s.data.toList.head? = some 92
  · have hE : escV s.data.toList = .returned (.tuple #[.int .u8 38, .int .i64 2]) := by unfold escV; rw [if_pos hp]
    rw [hE]
    rw [decide_eq_true hp] at k1
    clear hE hp e1
    go_enter Tryz.func96, Tryz.ntmps96
    go_wp2_with (first
      | (go_at_call 113; refine k1.mono ?_; rintro e w1 ⟨rfl, hw⟩; replace hw := hw.symm; subst hw)
      | fail)
    exact bodyPost_ret (results_tmp2 rfl _ _ _) rfl ⟨rfl, Below.refl _ _⟩
  · have k2 := fun w => sign_any s w
    rw [decide_eq_false hp] at k1
    cases hs : signU s.data.toList with
    | none =>
      have hE : escV s.data.toList = .returned (.tuple #[.int .u8 0, .int .i64 0]) := by unfold escV; rw [if_neg hp, hs]
      rw [hE]
      rw [signU_none hs] at k2
      unfold signE at k2
      clear hE hp e1 hs
      go_enter Tryz.func96, Tryz.ntmps96
      go_wp2_with (first
        | (go_at_call 113; refine k1.mono ?_; rintro e w1 ⟨rfl, hw⟩; replace hw := hw.symm; subst hw)
        | (go_at_call 114; refine (k2 _).mono ?_; rintro e w2 ⟨rfl, hb2⟩)
        | fail)
      exact bodyPost_ret (results_tmp2 rfl _ _ _) rfl ⟨rfl, hb2⟩
    | some p =>
      obtain ⟨c, n⟩ := p
      have hE : escV s.data.toList = .returned (.tuple #[.int .u8 (c.toNat : Int), .int .i64 (n : Int)]) := by unfold escV; rw [if_neg hp, hs]
      rw [hE]
      rw [(signU_some hs).1] at k2
      unfold signE at k2
      clear hE hp e1 hs
      go_enter Tryz.func96, Tryz.ntmps96
      go_wp2_with (first
        | (go_at_call 113; refine k1.mono ?_; rintro e w1 ⟨rfl, hw⟩; replace hw := hw.symm; subst hw)
        | (go_at_call 114; refine (k2 _).mono ?_; rintro e w2 ⟨rfl, hb2⟩)
        | fail)
      exact bodyPost_ret (results_tmp2 rfl _ _ _) rfl ⟨rfl, hb2⟩
end Go.Proofs.YtgceckejchdnlaaGreatDoor
namespace Go.Proofs.YtgceckejchdnlaaGreatDoor
open Go.RowKit Go.Lib
attribute [local go_sem] Oper.semAt_some

theorem Tryz.infoStrU : (Tryz.prog.info? 9).map (fun i => (i.zero, i.size, i.bytes)) = some (some (.string ByteArray.empty), 1, 16) := by kernel_rfl
def strC (xs : List ByteArray) : List Value := xs.map Value.string
theorem strC_append (a b : List ByteArray) : strC (a ++ b) = strC a ++ strC b := List.map_append
/-- A row of texts of one's own can be read. -/
theorem strs_of_owns {w : World} {B n : Nat} {v : Value} {xs : List ByteArray} (h : w.ownsRow B 9 1 v n (strC xs)) (hn : n = xs.length) (hl : n ≤ 140737488355328) : Strs v xs w := by
  subst hn
  rcases h.2 with ⟨hv, h0⟩ | ⟨g, cap, cur, hv, _, hg, hc, _, hz, htk⟩
  · have e : xs = [] := List.eq_nil_of_length_eq_zero h0
    subst e
    subst hv
    exact Strs.nil w
  · refine ⟨some ⟨g, 0, none⟩, cap, hv, hc, hl, fun j x hj => ⟨g, 0, rfl, block_lt hg, ?_⟩⟩
    have hjl : j < xs.length := by
      by_cases h : j < xs.length
      · exact h
      · rw [List.getElem?_eq_none (by omega)] at hj; cases hj
    have e : (strC xs)[j]? = some (.string x) := by unfold strC; rw [List.getElem?_map, hj]; rfl
    rw [← htk, List.getElem?_take_of_lt (by omega)] at e
    rw [cell_of_heap hg, Nat.zero_add]
    simpa using e
end Go.Proofs.YtgceckejchdnlaaGreatDoor
