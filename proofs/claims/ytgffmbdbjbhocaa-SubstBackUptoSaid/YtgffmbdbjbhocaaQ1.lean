/- Packed texts: ReRun, ReOwn, SuMem, SuFrame, SuPut, SuFrameUp, ClsSign2, SuSpec. What each of them proves stands above its theorems; the conditions stand in these. -/
import Derived.Deep.LoopGhost
import Derived.Laws.CopyOwn
import Derived.Lib.Hide
import Derived.Test.YtgffmbdbjbhocaaRows
import Derived.Test.YtgffmbdbjbhocaaShelf
import Derived.Test.YtgffmbdbjbhocaaQ0
namespace Go.Proofs.Ytgffmbdbjbhocaa
open Go.RowKit Go.Lib

def ints (st : List Int) : List Value := st.map (Value.int .i64)
/-- The kids that a node must have, so many of them, above a stack. -/
def wantL (st : List Int) (m : Int) : Int × Int :=
  if m = 1 then (st.getLast?.getD 0, 0) else if m = 2 then (st.dropLast.getLast?.getD 0, st.getLast?.getD 0) else (0, 0)
def rightStep (st : List Int) (j : Nat) (n : Nd) : Option (List Int) :=
  if kidsN n.k < 0 ∨ (st.length : Int) < kidsN n.k then none
  else if ¬ (n.x = (wantL st (kidsN n.k)).1 ∧ n.y = (wantL st (kidsN n.k)).2) ∨ (n.k ≠ 1 ∧ n.s ≠ k0) then none
  else some (st.take (st.length - (kidsN n.k).toNat) ++ [(j : Int)])
def rightRun : List Nd → Nat → List Int → Option (List Int)
  | [], _, st => some st
  | n :: ts, j, st => (rightStep st j n).bind (rightRun ts (j + 1))
/-- A tree's last node. -/
def Tr.node : Tr → Nat → Nd
  | .leaf j, _ => ⟨j, k0, 0, 0⟩
  | .set k, _ => ⟨1, k, 0, 0⟩
  | .rep j a, n => ⟨j, k0, (n : Int) + a.size - 1, 0⟩
  | .two j a b, n => ⟨j, k0, (n : Int) + a.size - 1, (n : Int) + a.size + b.size - 1⟩
/-- A tree's nodes stand in a row from some place on. -/
def Sub (ts : List Nd) (t : Tr) (n : Nat) : Prop := ∀ j, j < t.size → ts[n + j]? = (t.row n)[j]?
theorem row_root : ∀ (t : Tr) (n : Nat), (t.row n)[t.size - 1]? = some (t.node n)
  | .leaf _, _ => rfl
  | .set _, _ => rfl
  | .rep j a, n => by
    show (a.row n ++ [_])[a.size + 1 - 1]? = _
    rw [List.getElem?_append_right (by rw [Tr.row_length]; omega), Tr.row_length, show a.size + 1 - 1 - a.size = 0 by omega]
    rfl
  | .two j a b, n => by
    show (a.row n ++ (b.row (n + a.size) ++ [_]))[a.size + b.size + 1 - 1]? = _
    rw [List.getElem?_append_right (by rw [Tr.row_length]; omega), Tr.row_length, List.getElem?_append_right (by rw [Tr.row_length]; omega), Tr.row_length, show a.size + b.size + 1 - 1 - a.size - b.size = 0 by omega]
    rfl
theorem Sub.root {ts : List Nd} {t : Tr} {n r : Nat} (h : Sub ts t n) (hr : r + 1 = n + t.size) : ts[r]? = some (t.node n) := by
  have hp := t.size_pos
  have := h (t.size - 1) (by omega)
  rw [row_root] at this
  rwa [show n + (t.size - 1) = r by omega] at this
theorem Sub.rep {ts : List Nd} {j : Nat} {a : Tr} {n : Nat} (h : Sub ts (.rep j a) n) : Sub ts a n := fun i hi => by
  rw [h i (by show i < a.size + 1; omega)]
  show (a.row n ++ [_])[i]? = _
  rw [List.getElem?_append_left (by rw [Tr.row_length]; exact hi)]
theorem Sub.fst {ts : List Nd} {j : Nat} {a b : Tr} {n : Nat} (h : Sub ts (.two j a b) n) : Sub ts a n := fun i hi => by
  rw [h i (by show i < a.size + b.size + 1; omega)]
  show (a.row n ++ (b.row (n + a.size) ++ [_]))[i]? = _
  rw [List.getElem?_append_left (by rw [Tr.row_length]; exact hi)]
theorem Sub.snd {ts : List Nd} {j : Nat} {a b : Tr} {n : Nat} (h : Sub ts (.two j a b) n) : Sub ts b (n + a.size) := fun i hi => by
  rw [Nat.add_assoc, h (a.size + i) (by show a.size + i < a.size + b.size + 1; omega)]
  show (a.row n ++ (b.row (n + a.size) ++ [_]))[a.size + i]? = _
  rw [List.getElem?_append_right (by rw [Tr.row_length]; omega), Tr.row_length, List.getElem?_append_left (by rw [Tr.row_length]; omega), show a.size + i - a.size = i by omega]
theorem sub_row (t : Tr) : Sub (t.row 0) t 0 := fun j _ => by rw [Nat.zero_add]

theorem run_row : ∀ (t : Tr), t.ok → ∀ (n : Nat) (rest : List Nd) (st : List Int), rightRun (t.row n ++ rest) n st = rightRun rest (n + t.size) (st ++ [(n : Int) + t.size - 1])
  | .leaf j, hok, n, rest, st => by
    have hk : kidsN (j : Int) = 0 := by rcases hok with rfl | rfl | rfl <;> rfl
    show (rightStep st n ⟨(j : Int), k0, 0, 0⟩).bind (rightRun rest (n + 1)) = _
    have e : rightStep st n ⟨(j : Int), k0, 0, 0⟩ = some (st ++ [(n : Int)]) := by
      unfold rightStep wantL
      simp [hk]
    rw [e]
    show rightRun rest (n + 1) (st ++ [(n : Int)]) = rightRun rest (n + 1) (st ++ [(n : Int) + ((1 : Nat) : Int) - 1])
    rw [show (n : Int) + ((1 : Nat) : Int) - 1 = n by omega]
  | .set k, _, n, rest, st => by
    show (rightStep st n ⟨1, k, 0, 0⟩).bind (rightRun rest (n + 1)) = _
    have e : rightStep st n ⟨1, k, 0, 0⟩ = some (st ++ [(n : Int)]) := by
      have hk : kidsN 1 = 0 := rfl
      unfold rightStep wantL
      simp [hk]
    rw [e]
    show rightRun rest (n + 1) (st ++ [(n : Int)]) = rightRun rest (n + 1) (st ++ [(n : Int) + ((1 : Nat) : Int) - 1])
    rw [show (n : Int) + ((1 : Nat) : Int) - 1 = n by omega]
  | .rep j a, hok, n, rest, st => by
    have hk : kidsN (j : Int) = 1 := by rcases hok.1 with rfl | rfl | rfl <;> rfl
    show rightRun ((a.row n ++ [_]) ++ rest) n st = _
    rw [List.append_assoc, run_row a hok.2 n]
    show (rightStep _ (n + a.size) ⟨(j : Int), k0, (n : Int) + a.size - 1, 0⟩).bind (rightRun rest (n + a.size + 1)) = _
    have e : rightStep (st ++ [(n : Int) + a.size - 1]) (n + a.size) ⟨(j : Int), k0, (n : Int) + a.size - 1, 0⟩ = some (st ++ [((n + a.size : Nat) : Int)]) := by
      unfold rightStep wantL
      simp [hk]
      omega
    rw [e]
    show rightRun rest (n + a.size + 1) _ = rightRun rest (n + (a.size + 1)) (st ++ [(n : Int) + ((a.size + 1 : Nat) : Int) - 1])
    rw [show (n : Int) + ((a.size + 1 : Nat) : Int) - 1 = ((n + a.size : Nat) : Int) by omega]
    rfl
  | .two j a b, hok, n, rest, st => by
    have hk : kidsN (j : Int) = 2 := by rcases hok.1 with rfl | rfl <;> rfl
    have hj1 : ¬ (j : Int) = 1 := by rcases hok.1 with rfl | rfl <;> decide
    show rightRun ((a.row n ++ (b.row (n + a.size) ++ [_])) ++ rest) n st = _
    rw [List.append_assoc, run_row a hok.2.1 n, List.append_assoc, run_row b hok.2.2 (n + a.size)]
    show (rightStep _ (n + a.size + b.size) ⟨(j : Int), k0, (n : Int) + a.size - 1, (n : Int) + a.size + b.size - 1⟩).bind (rightRun rest (n + a.size + b.size + 1)) = _
    have e : rightStep ((st ++ [(n : Int) + a.size - 1]) ++ [((n + a.size : Nat) : Int) + b.size - 1]) (n + a.size + b.size) ⟨(j : Int), k0, (n : Int) + a.size - 1, (n : Int) + a.size + b.size - 1⟩ = some (st ++ [((n + a.size + b.size : Nat) : Int)]) := by
      have e1 : (st ++ [(n : Int) + a.size - 1]) ++ [((n + a.size : Nat) : Int) + b.size - 1] = st ++ [(n : Int) + a.size - 1, (n : Int) + a.size + b.size - 1] := by
        rw [List.append_assoc]
        congr 2
      rw [e1]
      have hw : wantL (st ++ [(n : Int) + a.size - 1, (n : Int) + a.size + b.size - 1]) 2 = ((n : Int) + a.size - 1, (n : Int) + a.size + b.size - 1) := by
        unfold wantL
        simp
      have hl : (st ++ [(n : Int) + a.size - 1, (n : Int) + a.size + b.size - 1]).length = st.length + 2 := by simp
      unfold rightStep
      dsimp only
      rw [hk, hw, if_neg (by rw [hl]; omega), if_neg (by rintro (h | ⟨_, h⟩) <;> exact h (by first | exact ⟨rfl, rfl⟩ | rfl)), hl]
      simp
    rw [e]
    show rightRun rest (n + a.size + b.size + 1) _ = rightRun rest (n + (a.size + b.size + 1)) (st ++ [(n : Int) + ((a.size + b.size + 1 : Nat) : Int) - 1])
    rw [show (n : Int) + ((a.size + b.size + 1 : Nat) : Int) - 1 = ((n + a.size + b.size : Nat) : Int) by omega, show n + a.size + b.size + 1 = n + (a.size + b.size + 1) by omega]
end Go.Proofs.Ytgffmbdbjbhocaa
namespace Go.Proofs.Ytgffmbdbjbhocaa
open Go.RowKit Go.Lib

theorem Try.infoInt : (Try.prog.info? 3).map (fun i => (i.zero, i.size, i.bytes)) = some (some (.int .i64 0), 1, 8) := by kernel_rfl
theorem Try.sizeInt : (Try.prog.info? 3).map (·.size) = some 1 := by kernel_rfl
theorem owns_take {w : World} {B L r cp : Nat} {e : TypeId} {ao : Option Addr} {xs : List Value} (h : w.ownsRow B e 1 (.slice ao L cp) L xs) (hr : r ≤ L) : w.ownsRow B e 1 (.slice ao r cp) r (xs.take r) := by
  obtain ⟨h1, h2⟩ := h
  refine ⟨by rw [List.length_take]; omega, ?_⟩
  rcases h2 with ⟨hv, h0⟩ | ⟨g, cap, cur, hv, hB, hg, hc, hm, hs, htk⟩
  · cases hv
    have : r = 0 := by omega
    subst this
    exact .inl ⟨rfl, rfl⟩
  · cases hv
    refine .inr ⟨g, cp, cur, rfl, hB, hg, by omega, hm, hs, ?_⟩
    rw [← htk, List.take_take]
    congr 1
    omega
theorem wpList_prefix_own {P : Program} {w : World} {ops : Array Oper} {rest : List Oper} {o : Oper} {a : Act} {Q : Exit → Act → World → Prop} (hg : o.guard = none) (s hi : Operand) (t e : TypeId) (hu : P.underlying t = some (.slice e)) (hse : ∀ w, (sizeOf e).run P w = .ok 1 w) (hop : o.op = Op.slice t s none (some hi) none)
    (B L r : Nat) (v : Value) (xs : List Value) (hs : a.eval s = v) (hh : a.eval hi = .int .i64 (r : Int)) (hown : w.ownsRow B e 1 v L xs) (hr : r ≤ L)
    (hK : ∀ v', w.ownsRow B e 1 v' r (xs.take r) → v'.ownBlock = v.ownBlock → wpList P ops Q rest (a.put o.dst v') w) : wpList P ops Q (o :: rest) a w := by
  refine wpList_plain hg fun K hK' => ?_
  have hown0 := hown
  rcases hown.2 with ⟨rfl, h0⟩ | ⟨g, cap, cur, rfl, hB, hgg, hc, hm, hz, htk⟩
  · obtain rfl : r = 0 := by omega
    subst h0
    have h2 := hK' _ _ (hK _ (owns_take hown0 (Nat.le_refl _)) rfl)
    unfold Oper.wp
    simp [execOp, hop, hs, hh]
    go_simp
    exact h2
  · have h2 := hK' _ _ (hK _ (owns_take hown0 hr) rfl)
    unfold Oper.wp
    simp [execOp, hop, hs, hh]
    have hrc : r ≤ cap := by omega
    go_simp
    exact h2
theorem owns_cap {w : World} {B L cp : Nat} {e : TypeId} {ao : Option Addr} {xs : List Value} (h : w.ownsRow B e 1 (.slice ao L cp) L xs) : L ≤ cp ∧ cp ≤ maxLen := by
  rcases h.2 with ⟨hv, h0⟩ | ⟨g, cap, cur, hv, hB, hg, hc, hm, _⟩
  · cases hv; exact ⟨Nat.le_refl _, Nat.zero_le _⟩
  · cases hv; exact ⟨hc, hm⟩
theorem owns_cell {w : World} {B L cp g : Nat} {e : TypeId} {xs : List Value} (h : w.ownsRow B e 1 (.slice (some ⟨g, 0, none⟩) L cp) L xs) {j : Nat} {v : Value} (hj : xs[j]? = some v) : w.cell? ⟨g, j, none⟩ = some v := by
  obtain ⟨h1, h2⟩ := h
  rcases h2 with ⟨hv, _⟩ | ⟨g', cap, cur, hv, hB, hg, hc, hm, hs, htk⟩
  · cases hv
  · cases hv
    have hjl : j < L := by
      by_cases hl : j < xs.length
      · omega
      · rw [List.getElem?_eq_none (by omega)] at hj; cases hj
    rw [cell_of_heap hg]
    rw [← htk, List.getElem?_take_of_lt (by omega)] at hj
    simpa using hj
theorem run_drop {ts : List Nd} {j : Nat} {n : Nd} (st : List Int) (h : ts[j]? = some n) : rightRun (ts.drop j) j st = (rightStep st j n).bind (rightRun (ts.drop (j + 1)) (j + 1)) := by
  have hlt : j < ts.length := by
    by_cases hl : j < ts.length
    · exact hl
    · rw [List.getElem?_eq_none (by omega)] at h; cases h
  rw [List.getElem?_eq_getElem hlt] at h
  cases h
  rw [List.drop_eq_getElem_cons hlt]
  rfl
theorem owns_alloc {w : World} {B n size : Nat} {e : TypeId} {v : Value} {xs : List Value} {o : Obj} (h : w.ownsRow B e size v n xs) : (w.alloc o).ownsRow B e size v n xs := owns_same h fun _g hg => Below.heap_alloc _ _ _ (own_block_lt h hg)
theorem take_snoc_length (st : List Int) (r : Nat) (j : Nat) : (st.take r ++ [(j : Int)]).length ≤ st.length + 1 := by
  rw [List.length_append, List.length_take]
  simp
  omega
theorem ints_snoc (st : List Int) (j : Int) : ints (st ++ [j]) = ints st ++ [.int .i64 j] := by unfold ints; rw [List.map_append]; rfl
theorem cell_one' (w : World) (t : TypeId) (p : Value) : ∀ j x, [p][j]? = some x → (w.alloc (.cells #[p] t)).cell? ((⟨w.heap.size, 0, none⟩ : Addr).add j) = some x := by
  intro j x hj
  have h := heap_alloc_new w (.cells #[p] t)
  have e : (⟨w.heap.size, 0, none⟩ : Addr).add j = ⟨w.heap.size, j, none⟩ := by simp [Addr.add]; intro h; exact h.symm
  rw [e, cell_of_heap h]
  simpa using hj
theorem ints_take (st : List Int) (r : Nat) : (ints st).take r = ints (st.take r) := by unfold ints; rw [List.map_take]
theorem take_snoc_len (st : List Int) (r : Nat) (j : Nat) (h : r ≤ st.length) : (st.take r ++ [(j : Int)]).length = r + 1 := by
  rw [List.length_append, List.length_take]
  simp
  omega
theorem split_one (st : List Int) (h : 1 ≤ st.length) : ∃ (s : List Int) (x : Int), st = s ++ [x] := by
  cases hr : st.reverse with
  | nil => rw [List.reverse_eq_nil_iff] at hr; rw [hr] at h; simp at h
  | cons x s => exact ⟨s.reverse, x, by rw [← List.reverse_reverse st, hr, List.reverse_cons]⟩
theorem split_two (st : List Int) (h : 2 ≤ st.length) : ∃ (s : List Int) (x y : Int), st = s ++ [x, y] := by
  obtain ⟨s, y, rfl⟩ := split_one st (by omega)
  obtain ⟨s, x, rfl⟩ := split_one s (by simp at h; omega)
  exact ⟨s, x, y, by simp⟩
end Go.Proofs.Ytgffmbdbjbhocaa
namespace Go.Proofs.Ytgffmbdbjbhocaa
open Go.RowKit Go.Lib

/-- A row of texts that can be read. -/
def Strs (v : Value) (xs : List ByteArray) (w : World) : Prop :=
  ∃ ao cap, v = .slice ao xs.length cap ∧ xs.length ≤ cap ∧ xs.length ≤ 140737488355328 ∧ ∀ j x, xs[j]? = some x → ∃ b o, ao = some ⟨b, o, none⟩ ∧ b < w.heap.size ∧ w.cell? ⟨b, o + j, none⟩ = some (.string x)
theorem Strs.below {v : Value} {xs : List ByteArray} {w w' : World} (h : Strs v xs w) (hb : Below w.heap.size w w') : Strs v xs w' := by
  obtain ⟨ao, cap, h1, hc, hl, h2⟩ := h
  refine ⟨ao, cap, h1, hc, hl, fun j x hj => ?_⟩
  obtain ⟨b, o, h3, h4, h5⟩ := h2 j x hj
  refine ⟨b, o, h3, Nat.lt_of_lt_of_le h4 hb.size, ?_⟩
  rw [← h5]
  unfold World.cell?
  rw [hb.block b h4]
theorem Strs.len {ao : Option Addr} {N cap : Nat} {xs : List ByteArray} {w : World} (h : Strs (.slice ao N cap) xs w) : N = xs.length ∧ N ≤ cap ∧ N ≤ 140737488355328 := by
  obtain ⟨_, _, h1, h2, h3, _⟩ := h
  cases h1
  exact ⟨rfl, h2, h3⟩
theorem Strs.at {ao : Option Addr} {N cap : Nat} {xs : List ByteArray} {w : World} (h : Strs (.slice ao N cap) xs w) {j : Nat} {x : ByteArray} (hj : xs[j]? = some x) : ∃ b o, ao = some ⟨b, o, none⟩ ∧ b < w.heap.size ∧ w.cell? ⟨b, o + j, none⟩ = some (.string x) := by
  obtain ⟨_, _, h1, _, _, h2⟩ := h
  cases h1
  exact h2 j x hj
theorem Strs.nil (w : World) : Strs (.slice none 0 0) [] w := ⟨none, 0, rfl, Nat.le_refl _, Nat.zero_le _, fun j x h => by simp at h⟩
/-- The bytes of a row of texts, with something between. -/
def joinB (xs : List ByteArray) (sep : ByteArray) : ByteArray := ⟨(Lib.join (xs.map (·.data.toList)) sep.data.toList).toArray⟩
theorem joinB_size (xs : List ByteArray) (sep : ByteArray) : (joinB xs sep).size = (Lib.join (xs.map (·.data.toList)) sep.data.toList).length := List.size_toArray
theorem joinS_any (v : Value) (xs : List ByteArray) (sep : ByteArray) (w : World) (h : Strs v xs w) (hl : (joinB xs sep).size ≤ 140737488355328) :
    Calls Try.prog 114 #[v, .string sep] w fun e w' => e = .returned (.string (joinB xs sep)) ∧ Below w.heap.size w w' := by
  rw [joinB_size] at hl
  obtain ⟨ao, cap, rfl, hc, hn, h2⟩ := h
  cases hx : xs with
  | nil =>
    refine (Try.strings_Join_none ao cap sep w).mono ?_
    rintro e w' ⟨rfl, rfl⟩
    exact ⟨rfl, Below.refl _ _⟩
  | cons x r =>
    rw [← hx]
    obtain ⟨b, o, rfl, hb, _⟩ := h2 0 x (by rw [hx]; rfl)
    refine Try.strings_Join b o cap xs sep w (fun j y hj => ?_) hb hn hc hl
    obtain ⟨_, _, h3, _, h4⟩ := h2 j y hj
    cases h3
    exact h4
set_option maxHeartbeats 1000000 in
set_option maxRecDepth 20000 in
theorem layS_any (v : Value) (xs : List ByteArray) (sep : ByteArray) (w : World) (h : Strs v xs w) (hl : (joinB xs sep).size ≤ 140737488355328) :
    Calls Try.prog 83 #[.string sep, v] w fun e w' => e = .returned (.string (joinB xs sep)) ∧ Below w.heap.size w w' := by
  have k := joinS_any v xs sep w h hl
  obtain ⟨ao, cap, rfl, _⟩ := h
  generalize joinB xs sep = r at k
  generalize xs.length = N at k
  clear hl
  go_enter Try.func83, Try.ntmps83
  go_wp2_with (first
    | (go_at_call 114; refine k.mono ?_; rintro e w1 ⟨rfl, hb1⟩)
    | fail)
  exact bodyPost_ret (results_tmp rfl _ _ _) rfl ⟨rfl, hb1⟩
set_option maxHeartbeats 1000000 in
set_option maxRecDepth 20000 in
theorem putS_any (v : Value) (xs : List ByteArray) (what : ByteArray) (w : World) (h : Strs v xs w) (hl : (joinB xs what).size ≤ 140737488355328) :
    Calls Try.prog 44 #[v, .string what] w fun e w' => e = .returned (.string (joinB xs what)) ∧ Below w.heap.size w w' := by
  have k := layS_any v xs what w h hl
  obtain ⟨ao, cap, rfl, _⟩ := h
  generalize joinB xs what = r at k
  generalize xs.length = N at k
  clear hl
  go_enter Try.func44, Try.ntmps44
  go_wp2_with (first
    | (go_at_call 83; refine k.mono ?_; rintro e w1 ⟨rfl, hb1⟩)
    | fail)
  exact bodyPost_ret (results_tmp rfl _ _ _) rfl ⟨rfl, hb1⟩
end Go.Proofs.Ytgffmbdbjbhocaa
namespace Go.Proofs.Ytgffmbdbjbhocaa
open Go.ChangeShapes Go.WideShapes Go.ChangeAt Go.RowKit Go.Deep

theorem cellsStr : Try.prog.cellsOf 9 = 1 := by kernel_rfl
/-- It reads again behind a call that laid new memory alone. -/
theorem texts_again {H : Type} {enc : TypeId × Value → H} {W W' : World} {v : Value} {d : DataW H} {p : List MemPlace} {sp : Nat → Bool} (h : DataW.Trod enc Try.prog W 0 (fun _ => true) true 59 v d p)
    (hlt : ∀ q ∈ p, q.block < W.heap.size) (hb : Below W.heap.size W W') (hs : ∀ q ∈ p, sp q.block = true) : DataW.Trod enc Try.prog W' 0 sp true 59 v d p :=
  Go.WideElems.Trod_stays laidOut (by kernel_rfl) (of_decide_eq_true (by kernel_rfl)) h (fun q hq => hb.same (hlt q hq)) hs
end Go.Proofs.Ytgffmbdbjbhocaa
namespace Go.Proofs.Ytgffmbdbjbhocaa
open Go.RowKit Go.Lib

theorem ba_ext {a b : ByteArray} (h : a.data.toList = b.data.toList) : a = b := by
  cases a; cases b
  simp at h
  subst h
  rfl
theorem joinB_list (xs : List ByteArray) (sep : ByteArray) : (joinB xs sep).data.toList = Lib.join (xs.map (·.data.toList)) sep.data.toList := by simp [joinB]
theorem joinB_first {xs : List ByteArray} (sep : ByteArray) {x : ByteArray} (h : xs[0]? = some x) : joinB (xs.take 1) sep = x := by
  cases xs with
  | nil => simp at h
  | cons y r =>
    simp at h
    subst h
    apply ba_ext
    rw [joinB_list]
    simp [Lib.join_one]
theorem joinB_next {xs : List ByteArray} (sep : ByteArray) {k : Nat} {x : ByteArray} (hk : 0 < k) (h : xs[k]? = some x) : joinB (xs.take (k + 1)) sep = joinB (xs.take k) sep ++ sep ++ x := by
  cases xs with
  | nil => simp at h
  | cons y r =>
    obtain ⟨j, rfl⟩ : ∃ j, k = j + 1 := ⟨k - 1, by omega⟩
    have h : r[j]? = some x := by simpa using h
    apply ba_ext
    rw [ByteArray.data_append, ByteArray.data_append, Array.toList_append, Array.toList_append, joinB_list, joinB_list, List.take_succ_cons, List.take_succ_cons, List.map_cons, List.map_cons, Lib.join_cons, Lib.join_cons, List.map_take, List.map_take, Lib.joinTail_take_succ _ _ j x.data.toList (by rw [List.getElem?_map, h]; rfl)]
    simp [List.append_assoc]
theorem joinB_take_le (xs : List ByteArray) (sep : ByteArray) (k : Nat) : (joinB (xs.take k) sep).size ≤ (joinB xs sep).size := by
  cases xs with
  | nil => simp
  | cons y r =>
    cases k with
    | zero => exact Nat.zero_le _
    | succ k =>
      rw [joinB_size, joinB_size, List.take_succ_cons, List.map_cons, List.map_cons, Lib.join_cons, Lib.join_cons, List.length_append, List.length_append, List.map_take]
      have := Lib.joinTail_take_le sep.data.toList (r.map (·.data.toList)) k
      omega
set_option maxHeartbeats 2000000 in
set_option maxRecDepth 20000 in
theorem refPut_walk (ao : Option Addr) (N cap M : Nat) (xs : List ByteArray) (what : ByteArray) (A : Nat → ByteArray) (w : World) (h : Strs (.slice ao N cap) xs w) (hM : M ≤ 140737488355328) (hA : ∀ k, (A k).size ≤ M) (h0 : A 0 = ⟨#[]⟩)
    (h1 : ∀ x, xs[0]? = some x → ⟨#[]⟩ ++ x = A 1) (h2 : ∀ k x, 0 < k → xs[k]? = some x → A k ++ what ++ x = A (k + 1)) :
    Calls Try.prog 45 #[.slice ao N cap, .string what] w fun e w' => e = .returned (.string (A N)) ∧ w = w' := by
  obtain ⟨hN, _, hN2⟩ := h.len
  have H := Lib.hid (And.intro h (And.intro hA (And.intro h0 (And.intro h1 (And.intro h2 hN)))))
  clear h hA h0 h1 h2 hN
  go_enter Try.func45, Try.ntmps45
  go_wp2
  go_loop [5, 6] (fun s i => ∃ k : Nat, k ≤ N ∧ s = .string (A k) ∧ i = .int .i64 k) (fun _ i => N - (RowKit.intOf i).toNat)
  case atStart => exact ⟨0, by omega, by rw [H.out.2.2.1], rfl⟩
  case round =>
    obtain ⟨k, hk, rfl, rfl⟩ := hrel
    by_cases hlt : k < N
    · have hT : (k : Int) < (N : Int) := by omega
      obtain ⟨x, hx⟩ : ∃ x, xs[k]? = some x := ⟨xs[k]'(by have := H.out.2.2.2.2.2; omega), List.getElem?_eq_getElem _⟩
      obtain ⟨b, o, rfl, _, cx⟩ := H.out.1.at hx
      have s1 := H.out.2.1 k
      have s2 := H.out.2.1 (k + 1)
      by_cases hk0 : k = 0
      · subst hk0
        have e := H.out.2.2.2.1 x hx
        have s2 : (A 1).size ≤ M := H.out.2.1 1
        rw [Nat.add_zero] at cx
        have s3 : x.size ≤ M := by
          have := congrArg ByteArray.size e
          rw [ByteArray.size_append] at this
          have h0 : (⟨#[]⟩ : ByteArray).size = 0 := rfl
          omega
        have HE := Lib.hid (And.intro e H.out.2.2.1)
        rw [H.out.2.2.1] at s1 ⊢
        have hn : ¬ 9223372036854775807 < (0 : Nat) + x.size := by omega
        clear e hx s1 s2
        go_wp2
        go_round
        case rel => exact ⟨1, by omega, by rw [HE.out.1], by go_num⟩
        case measure => simp [RowKit.intOf]; omega
      · have e := H.out.2.2.2.2.1 k x (by omega) hx
        have hz := congrArg ByteArray.size e
        rw [ByteArray.size_append, ByteArray.size_append] at hz
        have n1 : ¬ 9223372036854775807 < (A k).size + what.size := by omega
        have n2 : ¬ 9223372036854775807 < (A k).size + what.size + x.size := by omega
        have hpos : (0 : Int) < (k : Int) := by omega
        have HE := Lib.hid e
        clear e hx hz
        obtain ⟨a, ha⟩ : ∃ a, a = A k := ⟨_, rfl⟩
        rw [← ha] at HE s1 n1 n2 ⊢
        clear ha s2
        go_wp2
        go_round
        case rel => exact ⟨k + 1, by omega, by rw [HE.out], by go_num⟩
        case measure => simp [RowKit.intOf]; omega
    · obtain rfl : k = N := by omega
      go_wp2
      go_ret
      exact ⟨rfl, rfl⟩
theorem refPut_any (v : Value) (xs : List ByteArray) (what : ByteArray) (w : World) (h : Strs v xs w) (hl : (joinB xs what).size ≤ 140737488355328) :
    Calls Try.prog 45 #[v, .string what] w fun e w' => e = .returned (.string (joinB xs what)) ∧ w = w' := by
  have h' := h
  obtain ⟨ao, cap, rfl, _⟩ := h
  have := refPut_walk ao xs.length cap (joinB xs what).size xs what (fun k => joinB (xs.take k) what) w h' hl (joinB_take_le xs what) rfl (fun x hx => by
    show _ = joinB (xs.take 1) what
    rw [joinB_first what hx]
    apply ba_ext
    rw [ByteArray.data_append, Array.toList_append]; rfl) (fun k x hk hx => (joinB_next what hk hx).symm)
  rwa [List.take_of_length_le (Nat.le_refl _)] at this
/-- How many bytes texts have, and how many there are. -/
def longN (xs : List ByteArray) : Nat := xs.length + (xs.map (·.size)).sum
set_option maxHeartbeats 2000000 in
set_option maxRecDepth 20000 in
theorem refLong_walk (ao : Option Addr) (N cap M : Nat) (xs : List ByteArray) (A : Nat → Nat) (w : World) (h : Strs (.slice ao N cap) xs w) (hM : M ≤ 9223372036854775807) (hA : ∀ k, k ≤ N → A k ≤ M) (h0 : A 0 = N)
    (h2 : ∀ k x, xs[k]? = some x → A (k + 1) = A k + x.size) :
    Calls Try.prog 38 #[.slice ao N cap] w fun e w' => e = .returned (.int .i64 (A N : Nat)) ∧ w = w' := by
  obtain ⟨hN, _, hN2⟩ := h.len
  have H := Lib.hid (And.intro h (And.intro hA (And.intro h0 (And.intro h2 hN))))
  clear h hA h0 h2 hN
  go_enter Try.func38, Try.ntmps38
  go_wp2
  go_loop [3, 4] (fun s i => ∃ k : Nat, k ≤ N ∧ s = .int .i64 (A k : Nat) ∧ i = .int .i64 k) (fun _ i => N - (RowKit.intOf i).toNat)
  case atStart => exact ⟨0, by omega, by rw [H.out.2.2.1], rfl⟩
  case round =>
    obtain ⟨k, hk, rfl, rfl⟩ := hrel
    by_cases hlt : k < N
    · have hT : (k : Int) < (N : Int) := by omega
      obtain ⟨x, hx⟩ : ∃ x, xs[k]? = some x := ⟨xs[k]'(by have := H.out.2.2.2.2; omega), List.getElem?_eq_getElem _⟩
      obtain ⟨b, o, rfl, _, cx⟩ := H.out.1.at hx
      have s1 := H.out.2.1 k (by omega)
      have s2 := H.out.2.1 (k + 1) (by omega)
      have e := H.out.2.2.2.1 k x hx
      have s3 : A k + x.size ≤ M := by omega
      have HE := Lib.hid e
      clear e hx s2
      obtain ⟨a, ha⟩ : ∃ a, a = A k := ⟨_, rfl⟩
      rw [← ha] at HE s1 s3 ⊢
      clear ha
      go_wp2
      go_round
      case rel => exact ⟨k + 1, by omega, by rw [HE.out]; go_num, by go_num⟩
      case measure => simp [RowKit.intOf]; omega
    · obtain rfl : k = N := by omega
      go_wp2
      go_ret
      exact ⟨rfl, rfl⟩
theorem long_take {xs : List ByteArray} {k : Nat} {x : ByteArray} (h : xs[k]? = some x) : ((xs.take (k + 1)).map (·.size)).sum = ((xs.take k).map (·.size)).sum + x.size := by
  rw [List.take_add_one, h]
  simp
theorem long_le (xs : List ByteArray) : ∀ k, ((xs.take k).map (·.size)).sum ≤ (xs.map (·.size)).sum := by
  induction xs with
  | nil => simp
  | cons y r ih =>
    intro k
    cases k with
    | zero => simp
    | succ k => have := ih k; rw [List.take_succ_cons, List.map_cons, List.map_cons, List.sum_cons, List.sum_cons]; omega
/-- How many bytes texts have, and how many there are. -/
theorem refLong_any (v : Value) (xs : List ByteArray) (w : World) (h : Strs v xs w) (hl : longN xs ≤ 9223372036854775807) :
    Calls Try.prog 38 #[v] w fun e w' => e = .returned (.int .i64 (longN xs : Nat)) ∧ w = w' := by
  have h' := h
  obtain ⟨ao, cap, rfl, _⟩ := h
  have := refLong_walk ao xs.length cap (longN xs) xs (fun k => xs.length + ((xs.take k).map (·.size)).sum) w h' hl (fun k _ => by have := long_le xs k; unfold longN; omega) rfl (fun k x hx => by rw [long_take hx]; omega)
  rwa [List.take_of_length_le (Nat.le_refl _)] at this
theorem ba_eq (x y : ByteArray) : (x.toList == y.toList) = true ↔ x = y := by
  rw [beq_iff_eq, ByteArray.toList_eq, ByteArray.toList_eq]
  constructor
  · exact ba_ext
  · intro h; rw [h]
set_option maxHeartbeats 2000000 in
set_option maxRecDepth 20000 in
theorem refSameS_len (ao bo : Option Addr) (N M cap cap2 : Nat) (w : World) (_hN : N ≤ 140737488355328) (_hM : M ≤ 140737488355328) (h : N ≠ M) :
    Calls Try.prog 41 #[.slice ao N cap, .slice bo M cap2] w fun e w' => e = .returned (.bool false) ∧ Below w.heap.size w w' := by
  have h1 : ((N : Int) != (M : Int)) = true := by simp; omega
  go_enter Try.func41, Try.ntmps41
  go_wp2
  exact bodyPost_ret (results_tmp rfl _ _ _) rfl ⟨rfl, Below.refl _ _⟩
set_option maxHeartbeats 2000000 in
set_option maxRecDepth 20000 in
theorem refSameS_walk (ao bo : Option Addr) (N cap cap2 : Nat) (xs ys : List ByteArray) (w : World) (h : Strs (.slice ao N cap) xs w) (h2 : Strs (.slice bo N cap2) ys w) :
    Calls Try.prog 41 #[.slice ao N cap, .slice bo N cap2] w fun e w' => e = .returned (.bool (decide (xs = ys))) ∧ Below w.heap.size w w' := by
  obtain ⟨hN, _, hN2⟩ := h.len
  obtain ⟨hM, _, _⟩ := h2.len
  have H := Lib.hid h
  have H2 := Lib.hid h2
  have HN := Lib.hid (And.intro hN hM)
  have h1 : ((N : Int) != (N : Int)) = false := by simp
  clear h h2 hN hM
  go_enter Try.func41, Try.ntmps41
  go_wp2
  go_loopg [5] (N + 1) (fun k i wr => ∃ (j : Nat), i = .int .i64 j ∧ j ≤ N ∧ Hid (k = N + 1 - j) ∧ Hid (∀ q, q < j → xs[q]? = ys[q]?) ∧ Hid (Below w.heap.size w wr))
  case atStart => exact ⟨0, rfl, by omega, rfl, fun q hq => by omega, Below.refl _ _⟩
  case round =>
    obtain ⟨j, rfl, hj, HK, HS, HB⟩ := hrel
    by_cases hlt : j < N
    · obtain ⟨m, hm⟩ : ∃ n, xs[j]? = some n := ⟨xs[j]'(by have := HN.out.1; omega), List.getElem?_eq_getElem _⟩
      obtain ⟨n, hn⟩ : ∃ n, ys[j]? = some n := ⟨ys[j]'(by have := HN.out.2; omega), List.getElem?_eq_getElem _⟩
      obtain ⟨b, o, rfl, hb, ca⟩ := (H.out.below HB.out).at hm
      obtain ⟨b2, o2, rfl, hb2, cb⟩ := (H2.out.below HB.out).at hn
      have hI : IntKind.i64.wrap ((j : Int) + 1) = ((j + 1 : Nat) : Int) := by rw [IntWalk.i64_in _ (by omega)]; omega
      obtain ⟨q, hq⟩ : ∃ q, (m.toList == n.toList) = q := ⟨_, rfl⟩
      have HQ := Lib.hid (And.intro hq (And.intro hm hn))
      clear hm hn
      cases q
      · have hne : xs ≠ ys := fun e => by
          have h1 := HQ.out.2.1
          rw [e, HQ.out.2.2] at h1
          have e : n = m := Option.some.inj h1
          have h2 := HQ.out.1
          rw [(ba_eq m n).2 e.symm] at h2
          cases h2
        have HD := Lib.hid (decide_eq_false hne)
        clear hne
        go_wp2_with fail
        go_region
        all_goals
          go_wp2
          exact bodyPost_ret (results_tmp rfl _ _ _) rfl ⟨by rw [HD.out]; rfl, HB.out.drew⟩
      · have e : m = n := (ba_eq m n).1 hq
        have HE := Lib.hid e
        clear e
        go_wp2_with fail
        go_region
        all_goals
          go_wp2
          go_roundg (N - j)
          case rel => exact ⟨j + 1, by go_num, by omega, by show _ = _; omega, fun q hq => by
            by_cases hqj : q = j
            · rw [hqj, HQ.out.2.1, HQ.out.2.2, HE.out]
            · exact HS.out q (by omega), HB.out.drew⟩
          case measure => have := HK.out; omega
    · have hd : decide ((j : Int) < (N : Int)) = false := by simp; omega
      have heq : xs = ys := by
        apply List.ext_getElem?
        intro q
        by_cases hq : q < j
        · exact HS.out q hq
        · rw [List.getElem?_eq_none (by have := HN.out.1; omega), List.getElem?_eq_none (by have := HN.out.2; omega)]
      have HD := Lib.hid (decide_eq_true heq)
      clear heq
      go_wp2
      exact bodyPost_ret (results_tmp rfl _ _ _) rfl ⟨by rw [HD.out]; rfl, HB.out⟩
/-- The document's Same, of rows of texts. -/
theorem refSameS_any (u v : Value) (xs ys : List ByteArray) (w : World) (h : Strs u xs w) (h2 : Strs v ys w) :
    Calls Try.prog 41 #[u, v] w fun e w' => e = .returned (.bool (decide (xs = ys))) ∧ Below w.heap.size w w' := by
  have h' := h
  have h2' := h2
  obtain ⟨ao, cap, rfl, _, hl, _⟩ := h
  obtain ⟨bo, cap2, rfl, _, hl2, _⟩ := h2
  by_cases hN : xs.length = ys.length
  · rw [← hN] at h2' ⊢
    exact refSameS_walk ao bo xs.length cap cap2 xs ys w h' h2'
  · have hD : decide (xs = ys) = false := decide_eq_false fun e => hN (by rw [e])
    rw [hD]
    exact refSameS_len ao bo _ _ cap cap2 w hl hl2 hN
end Go.Proofs.Ytgffmbdbjbhocaa
namespace Go.Proofs.Ytgffmbdbjbhocaa
open Go.ChangeShapes Go.WideShapes Go.ChangeAt Go.RowKit Go.Deep

theorem up_string {H : Type} (bytes : List UInt8) : Rows.uptoBulk (DataW.lit (H := H) (.string bytes)) = bytes.length + 1 := by
  simp [Rows.uptoBulk]
theorem up_range {H : Type} (F : Nat → ByteArray) : ∀ n, Rows.uptoBulkAll ((List.range n).map fun i => DataW.lit (H := H) (.string (F i).data.toList)) = longN ((List.range n).map F) := by
  have app : ∀ l r : List (DataW H), Rows.uptoBulkAll (l ++ r) = Rows.uptoBulkAll l + Rows.uptoBulkAll r := by
    intro l r
    induction l with
    | nil => simp [Rows.uptoBulkAll]
    | cons x l ih => simp only [List.cons_append, Rows.uptoBulkAll, ih]; omega
  intro n
  induction n with
  | zero => rfl
  | succ n ih =>
    rw [List.range_succ, List.map_append, app, ih, List.map_append]
    have e : (F n).data.toList.length = (F n).size := Array.length_toList
    simp only [List.map_cons, List.map_nil, Rows.uptoBulkAll, up_string, longN, List.length_append, List.map_append, List.sum_append, List.length_cons, List.length_nil, List.sum_cons, List.sum_nil]
    omega
theorem long_len (xs : List ByteArray) : xs.length ≤ longN xs := Nat.le_add_right _ _
set_option maxRecDepth 20000 in
/-- An argument that is a row of texts, and its bulk. -/
theorem open_bulk {H : Type} {enc : TypeId × Value → H} {W : World} {base : Nat} {v : Value} {d : DataW H} {p : List MemPlace} (hv : Value.okWide Try.prog W .any base 59 v) (h : DataW.Trod enc Try.prog W 0 (fun _ => true) true 59 v d p) :
    ∃ (ao : Option Addr) (cap : Nat) (xs : List ByteArray), v = .slice ao xs.length cap ∧ (xs.length ≤ 140737488355328 → Strs v xs W) ∧ longN xs ≤ Rows.uptoBulk d := by
  obtain ⟨ao, N, cap, rfl⟩ : ∃ ao N cap, v = .slice ao N cap := by
    cases v <;> first | exact ⟨_, _, _, rfl⟩ | (exfalso; simp [Value.okWide, Cell.okWide, Cell.ok, Try.underlying59] at hv)
  obtain ⟨fuel, hf⟩ := h
  have hf : DataW.trod enc Try.prog W 0 (fun _ => true) true fuel 59 [.slice ao N cap] = some (d, p) := hf
  rcases open_strs Try.underlying59 Try.underlying9 cellsStr hf with ⟨h1, h2⟩ | ⟨a, len, cap', m, Sx, h1, _, hl, hm, hmm, h2, hx⟩
  · obtain ⟨rfl, rfl, rfl⟩ : ao = none ∧ N = 0 ∧ cap = 0 := by simpa using h1
    exact ⟨none, 0, [], rfl, fun _ => Strs.nil W, Nat.zero_le _⟩
  · obtain ⟨rfl, rfl, rfl⟩ : ao = some a ∧ N = len ∧ cap = cap' := by simpa using h1
    have hd : d = .slice ((List.range N).map fun i => .lit (.string (Sx i).data.toList)) ((List.range (m - N)).map fun j => .lit (.string (Sx (N + j)).data.toList)) := (Prod.mk.inj h2).1
    rw [if_pos rfl] at hmm
    refine ⟨some a, cap, (List.range N).map Sx, by simp, fun hN => ⟨some a, cap, by simp, by simpa using hl, hN, fun j x hj => ?_⟩, ?_⟩
    · have hjN : j < N := by
        by_cases h : j < N
        · exact h
        · rw [List.getElem?_eq_none (by simp; omega)] at hj; cases hj
      have hq : Sx j = x := by simpa [hjN] using hj
      have hc := (hx j (by omega)).1
      have hc0 := (hx 0 (by omega)).1
      rw [hq] at hc
      obtain ⟨ab, aoff, asp⟩ := a
      have hsp : asp = none := by
        have e : (⟨ab, aoff, asp⟩ : Addr).add 0 = ⟨ab, aoff, asp⟩ := rfl
        rw [e] at hc0
        exact (cell_plain hc0).1
      subst hsp
      have ea : (⟨ab, aoff, none⟩ : Addr).add j = ⟨ab, aoff + j, none⟩ := by
        unfold Addr.add
        by_cases h2 : j = 0 <;> simp [h2]
      rw [ea] at hc
      exact ⟨ab, aoff, rfl, (cell_plain hc).2, hc⟩
    · rw [hd, ← up_range (H := H) Sx N]
      simp only [Rows.uptoBulk]
      omega
end Go.Proofs.Ytgffmbdbjbhocaa
namespace Go.Proofs.Ytgffmbdbjbhocaa
open Go.RowKit Go.Lib

theorem byte_at {s : ByteArray} {l : List UInt8} (h : s.data.toList = l) {i : Nat} {d : UInt8} (hd : l[i]? = some d) (hs : i < s.size) : s[i] = d := by
  have : s.data.toList[i]? = some s[i] := by rw [List.getElem?_eq_getElem (by rw [Array.length_toList]; exact hs)]; rfl
  rw [h, hd] at this
  exact (Option.some.inj this).symm
theorem sign_byte {x : Int} (h0 : 0 ≤ x) (h1 : x < 256) : Ending.returned (.tuple #[.int .u8 (x % 256), .int .i64 4, .int .i64 0]) = signE (some (x, 4)) := by
  rw [Int.emod_eq_of_lt h0 h1]; rfl
set_option maxHeartbeats 2000000 in
set_option maxRecDepth 20000 in
theorem refSign_short (s : ByteArray) (d : UInt8) (E : Ending) (w : World) (hs : 0 < s.size) (hs2 : 1 < s.size) (hx : (s[0].toNat : Int) = 92) (hd : s[1] = d) (hcond : s.size < 4)
    (hyes : namedL.contains d = true → E = signE (some ((d.toNat : Int), 2))) (hno : namedL.contains d = false → E = signE none) :
    Calls Try.prog 81 #[.string s] w fun e w' => e = E ∧ Below w.heap.size w w' := by
  have HY := Lib.hid hyes
  have HN := Lib.hid hno
  clear hyes hno
  go_enter Try.func81, Try.ntmps81
  go_wp2
  go_loopg [7] 16 (fun n i wr => ∃ k : Nat, k ≤ 16 ∧ i = .int .i64 k ∧ Hid (n + k = 16) ∧ Hid (∀ j, j < k → namedL[j]? ≠ some d) ∧ Hid (Below w.heap.size w wr))
  case atStart => exact ⟨0, Nat.zero_le _, rfl, rfl, fun j hj => by omega, Below.refl _ _⟩
  case round =>
    obtain ⟨k, hk, rfl, HK, HJ, HB⟩ := hrel
    by_cases hlt : k < 16
    · have hsz : k < (⟨#[92, 93, 91, 94, 45, 47, 46, 42, 43, 63, 40, 41, 124, 123, 125, 36]⟩ : ByteArray).size := hlt
      obtain ⟨m, hm⟩ : ∃ m, (⟨#[92, 93, 91, 94, 45, 47, 46, 42, 43, 63, 40, 41, 124, 123, 125, 36]⟩ : ByteArray)[k] = m := ⟨_, rfl⟩
      have hat : namedL[k]? = some m := by rw [← hm]; exact List.getElem?_eq_getElem (by exact hlt)
      have HA := Lib.hid hat
      clear hat
      by_cases hdm : d = m
      · subst hdm
        have hdd : ((d.toNat : Int) == (d.toNat : Int)) = true := by simp
        go_wp2
        go_quiet (fail)
        go_wp2
        refine bodyPost_ret (results_tmp3 rfl _ _ _) rfl ⟨?_, below_draws HB.out _⟩
        rw [HY.out (by rw [List.contains_iff_mem]; exact List.mem_of_getElem? HA.out)]
        first | rfl | (rw [hd0]; rfl)
      · have hne := ne_int hdm
        have HJ2 : Hid (∀ j, j < k + 1 → namedL[j]? ≠ some d) := fun j hj => by
          by_cases hjk : j = k
          · rw [hjk, HA.out]
            intro e
            exact hdm (Option.some.inj e).symm
          · exact HJ.out j (by omega)
        go_wp2
        go_quiet (fail)
        go_wp2
        go_roundg (gk - 1)
        case measure => have h1 := HK.out; omega
        case rel => exact ⟨k + 1, by omega, by go_num, by have h1 := HK.out; show _ = _; omega, HJ2, below_draws HB.out _⟩
    · obtain rfl : k = 16 := by omega
      have hE := HN.out (by
        cases hc : namedL.contains d with
        | false => rfl
        | true =>
          obtain ⟨j, hj⟩ := List.mem_iff_getElem?.1 (List.contains_iff_mem.1 hc)
          have hj16 : j < 16 := (List.getElem?_eq_some_iff.1 hj).1
          exact absurd hj (HJ.out j hj16))
      have HE := Lib.hid hE
      clear hE
      go_wp2
      all_goals first
        | (exfalso; omega)
        | (refine bodyPost_ret (results_tmp3 rfl _ _ _) rfl ⟨?_, HB.out⟩; rw [HE.out]; rfl)

set_option maxHeartbeats 2000000 in
set_option maxRecDepth 20000 in
theorem refSign_other (s : ByteArray) (d : UInt8) (E : Ending) (w : World) (hs : 0 < s.size) (hs2 : 1 < s.size) (hx : (s[0].toNat : Int) = 92) (hd : s[1] = d) (hcond : ((d.toNat : Int) != 120) = true)
    (hyes : namedL.contains d = true → E = signE (some ((d.toNat : Int), 2))) (hno : namedL.contains d = false → E = signE none) :
    Calls Try.prog 81 #[.string s] w fun e w' => e = E ∧ Below w.heap.size w w' := by
  have HY := Lib.hid hyes
  have HN := Lib.hid hno
  clear hyes hno
  go_enter Try.func81, Try.ntmps81
  go_wp2
  go_loopg [7] 16 (fun n i wr => ∃ k : Nat, k ≤ 16 ∧ i = .int .i64 k ∧ Hid (n + k = 16) ∧ Hid (∀ j, j < k → namedL[j]? ≠ some d) ∧ Hid (Below w.heap.size w wr))
  case atStart => exact ⟨0, Nat.zero_le _, rfl, rfl, fun j hj => by omega, Below.refl _ _⟩
  case round =>
    obtain ⟨k, hk, rfl, HK, HJ, HB⟩ := hrel
    by_cases hlt : k < 16
    · have hsz : k < (⟨#[92, 93, 91, 94, 45, 47, 46, 42, 43, 63, 40, 41, 124, 123, 125, 36]⟩ : ByteArray).size := hlt
      obtain ⟨m, hm⟩ : ∃ m, (⟨#[92, 93, 91, 94, 45, 47, 46, 42, 43, 63, 40, 41, 124, 123, 125, 36]⟩ : ByteArray)[k] = m := ⟨_, rfl⟩
      have hat : namedL[k]? = some m := by rw [← hm]; exact List.getElem?_eq_getElem (by exact hlt)
      have HA := Lib.hid hat
      clear hat
      by_cases hdm : d = m
      · subst hdm
        have hdd : ((d.toNat : Int) == (d.toNat : Int)) = true := by simp
        go_wp2
        go_quiet (fail)
        go_wp2
        refine bodyPost_ret (results_tmp3 rfl _ _ _) rfl ⟨?_, below_draws HB.out _⟩
        rw [HY.out (by rw [List.contains_iff_mem]; exact List.mem_of_getElem? HA.out)]
        first | rfl | (rw [hd0]; rfl)
      · have hne := ne_int hdm
        have HJ2 : Hid (∀ j, j < k + 1 → namedL[j]? ≠ some d) := fun j hj => by
          by_cases hjk : j = k
          · rw [hjk, HA.out]
            intro e
            exact hdm (Option.some.inj e).symm
          · exact HJ.out j (by omega)
        go_wp2
        go_quiet (fail)
        go_wp2
        go_roundg (gk - 1)
        case measure => have h1 := HK.out; omega
        case rel => exact ⟨k + 1, by omega, by go_num, by have h1 := HK.out; show _ = _; omega, HJ2, below_draws HB.out _⟩
    · obtain rfl : k = 16 := by omega
      have hE := HN.out (by
        cases hc : namedL.contains d with
        | false => rfl
        | true =>
          obtain ⟨j, hj⟩ := List.mem_iff_getElem?.1 (List.contains_iff_mem.1 hc)
          have hj16 : j < 16 := (List.getElem?_eq_some_iff.1 hj).1
          exact absurd hj (HJ.out j hj16))
      have HE := Lib.hid hE
      clear hE
      go_wp2
      all_goals first
        | (exfalso; omega)
        | (refine bodyPost_ret (results_tmp3 rfl _ _ _) rfl ⟨?_, HB.out⟩; rw [HE.out]; rfl)

set_option maxHeartbeats 2000000 in
set_option maxRecDepth 20000 in
theorem refSign_bad (s : ByteArray) (d : UInt8) (E : Ending) (w : World) (hs : 0 < s.size) (hs2 : 1 < s.size) (hx : (s[0].toNat : Int) = 92) (hd : s[1] = d) (hs4 : 4 ≤ s.size) (hs3 : 3 < s.size) (hs3' : 2 < s.size) (hd0 : (d.toNat : Int) = 120) (a b : UInt8) (ha : s[2] = a) (hb : s[3] = b) (p q : Int)
    (c1 : ∀ w, Calls Try.prog 112 #[.int .u8 (a.toNat : Int)] w fun e w' => e = .returned (.int .i64 p) ∧ w = w')
    (c2 : ∀ w, Calls Try.prog 112 #[.int .u8 (b.toNat : Int)] w fun e w' => e = .returned (.int .i64 q) ∧ w = w') (hp1 : p ≤ 15) (hq1 : q ≤ 15) (hpq : p < 0 ∨ q < 0)
    (hyes : namedL.contains d = true → E = signE (some ((d.toNat : Int), 2))) (hno : namedL.contains d = false → E = signE none) :
    Calls Try.prog 81 #[.string s] w fun e w' => e = E ∧ Below w.heap.size w w' := by
  have HY := Lib.hid hyes
  have HN := Lib.hid hno
  clear hyes hno
  go_enter Try.func81, Try.ntmps81
  go_wp2
  go_loopg [7] 16 (fun n i wr => ∃ k : Nat, k ≤ 16 ∧ i = .int .i64 k ∧ Hid (n + k = 16) ∧ Hid (∀ j, j < k → namedL[j]? ≠ some d) ∧ Hid (Below w.heap.size w wr))
  case atStart => exact ⟨0, Nat.zero_le _, rfl, rfl, fun j hj => by omega, Below.refl _ _⟩
  case round =>
    obtain ⟨k, hk, rfl, HK, HJ, HB⟩ := hrel
    by_cases hlt : k < 16
    · have hsz : k < (⟨#[92, 93, 91, 94, 45, 47, 46, 42, 43, 63, 40, 41, 124, 123, 125, 36]⟩ : ByteArray).size := hlt
      obtain ⟨m, hm⟩ : ∃ m, (⟨#[92, 93, 91, 94, 45, 47, 46, 42, 43, 63, 40, 41, 124, 123, 125, 36]⟩ : ByteArray)[k] = m := ⟨_, rfl⟩
      have hat : namedL[k]? = some m := by rw [← hm]; exact List.getElem?_eq_getElem (by exact hlt)
      have HA := Lib.hid hat
      clear hat
      by_cases hdm : d = m
      · subst hdm
        have hdd : ((d.toNat : Int) == (d.toNat : Int)) = true := by simp
        go_wp2
        go_quiet (fail)
        go_wp2
        refine bodyPost_ret (results_tmp3 rfl _ _ _) rfl ⟨?_, below_draws HB.out _⟩
        rw [HY.out (by rw [List.contains_iff_mem]; exact List.mem_of_getElem? HA.out)]
        first | rfl | (rw [hd0]; rfl)
      · have hne := ne_int hdm
        have HJ2 : Hid (∀ j, j < k + 1 → namedL[j]? ≠ some d) := fun j hj => by
          by_cases hjk : j = k
          · rw [hjk, HA.out]
            intro e
            exact hdm (Option.some.inj e).symm
          · exact HJ.out j (by omega)
        go_wp2
        go_quiet (fail)
        go_wp2
        go_roundg (gk - 1)
        case measure => have h1 := HK.out; omega
        case rel => exact ⟨k + 1, by omega, by go_num, by have h1 := HK.out; show _ = _; omega, HJ2, below_draws HB.out _⟩
    · obtain rfl : k = 16 := by omega
      have hE := HN.out (by
        cases hc : namedL.contains d with
        | false => rfl
        | true =>
          obtain ⟨j, hj⟩ := List.mem_iff_getElem?.1 (List.contains_iff_mem.1 hc)
          have hj16 : j < 16 := (List.getElem?_eq_some_iff.1 hj).1
          exact absurd hj (HJ.out j hj16))
      have HE := Lib.hid hE
      clear hE
      go_wp2_with (go_at_call 112; first | (with_reducible refine (c1 _).mono ?_; rintro e w1 ⟨rfl, rfl⟩) | (with_reducible refine (c2 _).mono ?_; rintro e w1 ⟨rfl, rfl⟩))
      all_goals first
        | (exfalso; omega)
        | (refine bodyPost_ret (results_tmp3 rfl _ _ _) rfl ⟨?_, HB.out⟩; rw [HE.out]; rfl)

set_option maxHeartbeats 2000000 in
set_option maxRecDepth 20000 in
theorem refSign_good (s : ByteArray) (d : UInt8) (E : Ending) (w : World) (hs : 0 < s.size) (hs2 : 1 < s.size) (hx : (s[0].toNat : Int) = 92) (hd : s[1] = d) (hs4 : 4 ≤ s.size) (hs3 : 3 < s.size) (hs3' : 2 < s.size) (hd0 : (d.toNat : Int) = 120) (a b : UInt8) (ha : s[2] = a) (hb : s[3] = b) (p q : Int)
    (c1 : ∀ w, Calls Try.prog 112 #[.int .u8 (a.toNat : Int)] w fun e w' => e = .returned (.int .i64 p) ∧ w = w')
    (c2 : ∀ w, Calls Try.prog 112 #[.int .u8 (b.toNat : Int)] w fun e w' => e = .returned (.int .i64 q) ∧ w = w') (hp0 : 0 ≤ p) (hp1 : p ≤ 15) (hq0 : 0 ≤ q) (hq1 : q ≤ 15)
    (hyes : namedL.contains d = true → E = signE (some ((d.toNat : Int), 2))) (hno : namedL.contains d = false → E = signE (some ((16 : Int) * p + q, 4))) :
    Calls Try.prog 81 #[.string s] w fun e w' => e = E ∧ Below w.heap.size w w' := by
  have HY := Lib.hid hyes
  have HN := Lib.hid hno
  clear hyes hno
  go_enter Try.func81, Try.ntmps81
  go_wp2
  go_loopg [7] 16 (fun n i wr => ∃ k : Nat, k ≤ 16 ∧ i = .int .i64 k ∧ Hid (n + k = 16) ∧ Hid (∀ j, j < k → namedL[j]? ≠ some d) ∧ Hid (Below w.heap.size w wr))
  case atStart => exact ⟨0, Nat.zero_le _, rfl, rfl, fun j hj => by omega, Below.refl _ _⟩
  case round =>
    obtain ⟨k, hk, rfl, HK, HJ, HB⟩ := hrel
    by_cases hlt : k < 16
    · have hsz : k < (⟨#[92, 93, 91, 94, 45, 47, 46, 42, 43, 63, 40, 41, 124, 123, 125, 36]⟩ : ByteArray).size := hlt
      obtain ⟨m, hm⟩ : ∃ m, (⟨#[92, 93, 91, 94, 45, 47, 46, 42, 43, 63, 40, 41, 124, 123, 125, 36]⟩ : ByteArray)[k] = m := ⟨_, rfl⟩
      have hat : namedL[k]? = some m := by rw [← hm]; exact List.getElem?_eq_getElem (by exact hlt)
      have HA := Lib.hid hat
      clear hat
      by_cases hdm : d = m
      · subst hdm
        have hdd : ((d.toNat : Int) == (d.toNat : Int)) = true := by simp
        go_wp2
        go_quiet (fail)
        go_wp2
        refine bodyPost_ret (results_tmp3 rfl _ _ _) rfl ⟨?_, below_draws HB.out _⟩
        rw [HY.out (by rw [List.contains_iff_mem]; exact List.mem_of_getElem? HA.out)]
        first | rfl | (rw [hd0]; rfl)
      · have hne := ne_int hdm
        have HJ2 : Hid (∀ j, j < k + 1 → namedL[j]? ≠ some d) := fun j hj => by
          by_cases hjk : j = k
          · rw [hjk, HA.out]
            intro e
            exact hdm (Option.some.inj e).symm
          · exact HJ.out j (by omega)
        go_wp2
        go_quiet (fail)
        go_wp2
        go_roundg (gk - 1)
        case measure => have h1 := HK.out; omega
        case rel => exact ⟨k + 1, by omega, by go_num, by have h1 := HK.out; show _ = _; omega, HJ2, below_draws HB.out _⟩
    · obtain rfl : k = 16 := by omega
      have hE := HN.out (by
        cases hc : namedL.contains d with
        | false => rfl
        | true =>
          obtain ⟨j, hj⟩ := List.mem_iff_getElem?.1 (List.contains_iff_mem.1 hc)
          have hj16 : j < 16 := (List.getElem?_eq_some_iff.1 hj).1
          exact absurd hj (HJ.out j hj16))
      have HE := Lib.hid hE
      clear hE
      go_wp2_with (go_at_call 112; first | (with_reducible refine (c1 _).mono ?_; rintro e w1 ⟨rfl, rfl⟩) | (with_reducible refine (c2 _).mono ?_; rintro e w1 ⟨rfl, rfl⟩))
      refine bodyPost_ret (results_tmp3 rfl _ _ _) rfl ⟨?_, HB.out⟩
      rw [HE.out]
      first | rfl | exact sign_byte (by omega) (by omega)

theorem refSign_any (s : ByteArray) (w : World) : Calls Try.prog 81 #[.string s] w fun e w' => e = signE (signD s.data.toList) ∧ Below w.heap.size w w' := by
  obtain ⟨l, hl⟩ : ∃ l, s.data.toList = l := ⟨_, rfl⟩
  rw [hl]
  have hz := size_list hl
  cases l with
  | nil => exact refSign_empty s w (by rw [hz]; simp)
  | cons c r =>
    have hs : 0 < s.size := by rw [hz]; simp
    have h0 := byte0 hl hs
    by_cases hc : c = 92
    · have hx : (s[0].toNat : Int) = 92 := by rw [h0, hc]; rfl
      cases r with
      | nil =>
        have h := refSign_alone s w hs (by rw [hz]; simp) hx
        rw [show signD [c] = none by simp [signD, hc]]
        exact h
      | cons d t =>
        have hs2 : 1 < s.size := by rw [hz]; simp
        have h1 := byte1 hl hs2
        have e : signD (c :: d :: t) = if d = 120 then toldD t else if namedL.contains d = true then some ((d.toNat : Int), 2) else none := by simp only [signD, if_pos hc]
        rw [e]
        by_cases hd : d = 120
        · have hno : namedL.contains d = false := by rw [hd]; rfl
          rw [if_pos hd]
          have hd0 : (d.toNat : Int) = 120 := by rw [hd]; rfl
          match t, hl, hz with
          | [], _, hz => exact refSign_short s d _ w hs hs2 hx h1 (by rw [hz]; simp) (fun h => by rw [hno] at h; cases h) (fun _ => rfl)
          | [_], _, hz => exact refSign_short s d _ w hs hs2 hx h1 (by rw [hz]; simp) (fun h => by rw [hno] at h; cases h) (fun _ => rfl)
          | a :: b :: t, hl, hz =>
            have hs4 : 4 ≤ s.size := by rw [hz]; simp
            have h2 : s[2] = a := byte_at hl rfl _
            have h3 : s[3] = b := byte_at hl rfl _
            have g1 := digN_ge a
            have g2 := digN_ge b
            by_cases hpq : digN a < 0 ∨ digN b < 0
            · have e2 : toldD (a :: b :: t) = none := by simp only [toldD, if_pos hpq]
              rw [e2]
              exact refSign_bad s d _ w hs hs2 hx h1 hs4 (by omega) (by omega) hd0 a b h2 h3 _ _ (fun w => refDigit_any a w) (fun w => refDigit_any b w) g1.2 g2.2 hpq (fun h => by rw [hno] at h; cases h) (fun _ => rfl)
            · have e2 : toldD (a :: b :: t) = some ((16 : Int) * digN a + digN b, 4) := by simp only [toldD, if_neg hpq]
              rw [e2]
              exact refSign_good s d _ w hs hs2 hx h1 hs4 (by omega) (by omega) hd0 a b h2 h3 _ _ (fun w => refDigit_any a w) (fun w => refDigit_any b w) (by omega) g1.2 (by omega) g2.2 (fun h => by rw [hno] at h; cases h) (fun _ => rfl)
        · rw [if_neg hd]
          have hne : ((d.toNat : Int) != 120) = true := by
            have := ne_int hd
            show (!((d.toNat : Int) == 120)) = true
            rw [show (120 : Int) = ((120 : UInt8).toNat : Int) from rfl, this]; rfl
          exact refSign_other s d _ w hs hs2 hx h1 hne (fun h => by rw [if_pos h]) (fun h => by rw [h]; rfl)
    · have e : signD (c :: r) = if c = 10 ∨ heldL.contains c = true then none else some ((c.toNat : Int), 1) := by simp only [signD, if_neg hc]
      rw [e]
      have ne := fun (y : UInt8) (h : c ≠ y) => ne_int h
      by_cases hn : c = 10 ∨ c = 93 ∨ c = 91 ∨ c = 94 ∨ c = 45
      · have hst : c = 10 ∨ heldL.contains c = true := by
          rcases hn with h | h | h | h | h
          · exact .inl h
          all_goals exact .inr (by rw [h]; rfl)
        rw [if_pos hst]
        exact refSign_stop s _ w hs rfl (by
          rw [h0]
          rcases hn with h | h | h | h | h <;> rw [h]
          · exact .inl rfl
          · exact .inr (.inl rfl)
          · exact .inr (.inr (.inl rfl))
          · exact .inr (.inr (.inr (.inl rfl)))
          · exact .inr (.inr (.inr (.inr rfl))))
      · have hst : ¬(c = 10 ∨ heldL.contains c = true) := by
          intro h
          rcases h with h | h
          · exact hn (.inl h)
          · rw [List.contains_iff_mem] at h
            simp only [heldL, List.mem_cons, List.not_mem_nil, or_false] at h
            rcases h with h | h | h | h | h
            · exact hc h
            · exact hn (.inr (.inl h))
            · exact hn (.inr (.inr (.inl h)))
            · exact hn (.inr (.inr (.inr (.inl h))))
            · exact hn (.inr (.inr (.inr (.inr h))))
        rw [if_neg hst]
        exact refSign_plain s _ w hs (by rw [h0]) (ne 10 fun h => hn (.inl h)) (ne 93 fun h => hn (.inr (.inl h))) (ne 91 fun h => hn (.inr (.inr (.inl h)))) (ne 94 fun h => hn (.inr (.inr (.inr (.inl h)))))
          (ne 45 fun h => hn (.inr (.inr (.inr (.inr h))))) (by
            show (!((c.toNat : Int) == 92)) = true
            rw [show (92 : Int) = ((92 : UInt8).toNat : Int) from rfl, ne 92 hc]; rfl)
end Go.Proofs.Ytgffmbdbjbhocaa
namespace Go.Proofs.Ytgffmbdbjbhocaa
open Go.RowKit Go.Lib

/-- The byte that a sign tells, and how many bytes it has. -/
def signU (l : List UInt8) : Option (UInt8 × Nat) := (signD l).map fun p => (p.1.toNat.toUInt8, p.2.toNat)
/-- What a replacement begins with: a place (none), or a byte; and how many bytes that takes. -/
def stepR : List UInt8 → Option (Option UInt8 × Nat)
  | [] => none
  | c :: r => if c = 38 then some (none, 1) else if c = 47 ∨ c = 10 then none else if c ≠ 92 then some (some c, 1)
    else if r.head? = some 38 then some (some 38, 2) else (signU (c :: r)).map fun p => (some p.1, p.2)
def readR : Nat → List UInt8 → List (List UInt8) → List UInt8 → Option (List (List UInt8))
  | 0, _, _, _ => none
  | f + 1, l, acc, now => if l = [] then some (acc ++ [now]) else match stepR l with
    | none => none
    | some (none, n) => readR f (l.drop n) (acc ++ [now]) []
    | some (some c, n) => readR f (l.drop n) acc (now ++ [c])
def readD' (l : List UInt8) : Option (List (List UInt8)) := readR (l.length + 1) l [] []
theorem digN_hi (c : UInt8) : digN c ≤ 15 := (digN_ge c).2
theorem toldD_fit {l : List UInt8} {b n : Int} (h : toldD l = some (b, n)) : 0 ≤ b ∧ b ≤ 255 ∧ n = 4 ∧ 2 ≤ l.length := by
  unfold toldD at h
  split at h
  · rename_i x y r
    split at h
    · cases h
    · rename_i hn
      have h1 := digN_hi x
      have h2 := digN_hi y
      cases h
      refine ⟨by omega, by omega, rfl, by simp⟩
  · cases h
theorem signD_fit {l : List UInt8} {b n : Int} (h : signD l = some (b, n)) : 0 ≤ b ∧ b ≤ 255 ∧ 1 ≤ n ∧ n ≤ l.length := by
  cases l with
  | nil => cases h
  | cons c r =>
    unfold signD at h
    dsimp only at h
    split at h
    · cases r with
      | nil => cases h
      | cons d t =>
        dsimp only at h
        split at h
        · obtain ⟨h1, h2, h3, h4⟩ := toldD_fit h
          exact ⟨h1, h2, by omega, by simp; omega⟩
        · split at h
          · cases h
            have := d.toNat_lt
            exact ⟨by omega, by omega, by omega, by simp; omega⟩
          · cases h
    · split at h
      · cases h
      · cases h
        have := c.toNat_lt
        exact ⟨by omega, by omega, by omega, by simp; omega⟩
theorem signU_none {l : List UInt8} (h : signU l = none) : signD l = none := by
  unfold signU at h
  cases hs : signD l with
  | none => rfl
  | some p => rw [hs] at h; cases h
theorem signU_some {l : List UInt8} {c : UInt8} {n : Nat} (h : signU l = some (c, n)) : signD l = some ((c.toNat : Int), (n : Int)) ∧ 1 ≤ n ∧ n ≤ l.length := by
  unfold signU at h
  cases hs : signD l with
  | none => rw [hs] at h; cases h
  | some p =>
    obtain ⟨b, m⟩ := p
    rw [hs] at h
    obtain ⟨h1, h2, h3, h4⟩ := signD_fit hs
    simp only [Option.map_some, Option.some.injEq, Prod.mk.injEq] at h
    obtain ⟨e1, e2⟩ := h
    have e3 : c.toNat = b.toNat := by
      rw [← e1]
      show (UInt8.ofNat b.toNat).toNat = _
      rw [UInt8.toNat_ofNat']
      omega
    refine ⟨by rw [e3, ← e2]; congr 2 <;> omega, by omega, by omega⟩
theorem stepR_fit {l : List UInt8} {o : Option UInt8} {n : Nat} (h : stepR l = some (o, n)) : 1 ≤ n ∧ n ≤ l.length := by
  cases l with
  | nil => cases h
  | cons c r =>
    have h : (if c = 38 then some (none, 1) else if c = 47 ∨ c = 10 then none else if c ≠ 92 then some (some c, 1)
      else if r.head? = some 38 then some (some 38, 2) else (signU (c :: r)).map fun p => (some p.1, p.2)) = some (o, n) := h
    by_cases h1 : c = 38
    · rw [if_pos h1] at h
      cases h
      simp
    · rw [if_neg h1] at h
      by_cases h2 : c = 47 ∨ c = 10
      · rw [if_pos h2] at h
        cases h
      · rw [if_neg h2] at h
        by_cases h3 : c ≠ 92
        · rw [if_pos h3] at h
          cases h
          simp
        · rw [if_neg h3] at h
          by_cases h4 : r.head? = some 38
          · rw [if_pos h4] at h
            cases h
            cases r with
            | nil => cases h4
            | cons d t => simp
          · rw [if_neg h4] at h
            cases hs : signU (c :: r) with
            | none => rw [hs] at h; cases h
            | some p =>
              rw [hs] at h
              cases h
              exact (signU_some hs).2
/-- What escaped answers. -/
def escV (l : List UInt8) : Ending := if l.tail.head? = some 38 ∧ l.head? = some 92 then .returned (.tuple #[.int .u8 38, .int .i64 2]) else match signU l with
  | some (c, n) => .returned (.tuple #[.int .u8 (c.toNat : Int), .int .i64 (n : Int)])
  | none => .returned (.tuple #[.int .u8 0, .int .i64 0])
theorem pref_two (l : List UInt8) : Lib.hasPrefix l [92, 38] = decide (l.tail.head? = some 38 ∧ l.head? = some 92) := by
  unfold Lib.hasPrefix
  rw [Bool.eq_iff_iff, decide_eq_true_eq]
  match l with
  | [] => simp
  | [c] => simp
  | c :: d :: r =>
    simp
    constructor
    · rintro ⟨h1, h2⟩; exact ⟨h2.symm, h1.symm⟩
    · rintro ⟨h1, h2⟩; exact ⟨h2.symm, h1.symm⟩
set_option maxHeartbeats 1000000 in
set_option maxRecDepth 20000 in
theorem escaped_any (s : ByteArray) (w : World) : Calls Try.prog 80 #[.string s] w fun e w' => e = escV s.data.toList ∧ Below w.heap.size w w' := by
  have k1 := Try.strings_HasPrefix s ⟨#[92, 38]⟩ w
  have e1 : (⟨#[92, 38]⟩ : ByteArray).data.toList = [92, 38] := rfl
  rw [e1, pref_two] at k1
  by_cases hp : s.data.toList.tail.head? = some 38 ∧ s.data.toList.head? = some 92
  · have hE : escV s.data.toList = .returned (.tuple #[.int .u8 38, .int .i64 2]) := by unfold escV; rw [if_pos hp]
    rw [hE]
    rw [decide_eq_true hp] at k1
    clear hE hp e1
    go_enter Try.func80, Try.ntmps80
    go_wp2_with (first
      | (go_at_call 110; refine k1.mono ?_; rintro e w1 ⟨rfl, hw⟩; replace hw := hw.symm; subst hw)
      | fail)
    exact bodyPost_ret (results_tmp2 rfl _ _ _) rfl ⟨rfl, Below.refl _ _⟩
  · have k2 := fun w => sign_any s w
    rw [decide_eq_false hp] at k1
    cases hs : signU s.data.toList with
    | none =>
      have hE : escV s.data.toList = .returned (.tuple #[.int .u8 0, .int .i64 0]) := by unfold escV; rw [if_neg hp, hs]
      rw [hE]
      rw [signU_none hs] at k2
      unfold signE at k2
      clear hE hp e1 hs
      go_enter Try.func80, Try.ntmps80
      go_wp2_with (first
        | (go_at_call 110; refine k1.mono ?_; rintro e w1 ⟨rfl, hw⟩; replace hw := hw.symm; subst hw)
        | (go_at_call 111; refine (k2 _).mono ?_; rintro e w2 ⟨rfl, hb2⟩)
        | fail)
      exact bodyPost_ret (results_tmp2 rfl _ _ _) rfl ⟨rfl, hb2⟩
    | some p =>
      obtain ⟨c, n⟩ := p
      have hE : escV s.data.toList = .returned (.tuple #[.int .u8 (c.toNat : Int), .int .i64 (n : Int)]) := by unfold escV; rw [if_neg hp, hs]
      rw [hE]
      rw [(signU_some hs).1] at k2
      unfold signE at k2
      clear hE hp e1 hs
      go_enter Try.func80, Try.ntmps80
      go_wp2_with (first
        | (go_at_call 110; refine k1.mono ?_; rintro e w1 ⟨rfl, hw⟩; replace hw := hw.symm; subst hw)
        | (go_at_call 111; refine (k2 _).mono ?_; rintro e w2 ⟨rfl, hb2⟩)
        | fail)
      exact bodyPost_ret (results_tmp2 rfl _ _ _) rfl ⟨rfl, hb2⟩
end Go.Proofs.Ytgffmbdbjbhocaa
