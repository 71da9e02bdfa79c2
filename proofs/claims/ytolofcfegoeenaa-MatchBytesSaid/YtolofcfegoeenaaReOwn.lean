/- Rows of one's own: what is taken of them, put behind them, and read. No condition. -/
import Derived.Test.YtolofcfegoeenaaReRun
import Derived.Deep.LoopGhost
namespace Go.Proofs.Ytolofcfegoeenaa
open Go.RowKit Go.Lib

theorem Try.infoInt : (Try.prog.info? 3).map (fun i => (i.zero, i.size, i.bytes)) = some (some (.int .i64 0), 1, 8) := by kernel_rfl
theorem Try.sizeInt : (Try.prog.info? 3).map (·.size) = some 1 := by kernel_rfl
theorem owns_take {w : World} {B L r cp : Nat} {e : TypeId} {ao : Option Addr} {xs : List Value} (h : w.ownsRow B e 1 (.slice ao L cp) L xs) (hr : r ≤ L) : w.ownsRow B e 1 (.slice ao r cp) r (xs.take r) := by
  obtain ⟨h1, h2⟩ := h
  refine ⟨by rw [List.length_take]; omega, ?_⟩
  rcases h2 with ⟨hv, h0⟩ | ⟨g, cap, cur, hv, hB, hg, hc, hm, hs, htk⟩
  · cases hv
    have : r = 0 := by omega
    subst this
    exact .inl ⟨rfl, rfl⟩
  · cases hv
    refine .inr ⟨g, cp, cur, rfl, hB, hg, by omega, hm, hs, ?_⟩
    rw [← htk, List.take_take]
    congr 1
    omega
theorem wpList_prefix_own {P : Program} {w : World} {ops : Array Oper} {rest : List Oper} {o : Oper} {a : Act} {Q : Exit → Act → World → Prop} (hg : o.guard = none) (s hi : Operand) (t e : TypeId) (hu : P.underlying t = some (.slice e)) (hse : ∀ w, (sizeOf e).run P w = .ok 1 w) (hop : o.op = Op.slice t s none (some hi) none)
    (B L r : Nat) (v : Value) (xs : List Value) (hs : a.eval s = v) (hh : a.eval hi = .int .i64 (r : Int)) (hown : w.ownsRow B e 1 v L xs) (hr : r ≤ L)
    (hK : ∀ v', w.ownsRow B e 1 v' r (xs.take r) → v'.ownBlock = v.ownBlock → wpList P ops Q rest (a.put o.dst v') w) : wpList P ops Q (o :: rest) a w := by
  refine wpList_plain hg fun K hK' => ?_
  have hown0 := hown
  rcases hown.2 with ⟨rfl, h0⟩ | ⟨g, cap, cur, rfl, hB, hgg, hc, hm, hz, htk⟩
  · obtain rfl : r = 0 := by omega
    subst h0
    have h2 := hK' _ _ (hK _ (owns_take hown0 (Nat.le_refl _)) rfl)
    unfold Oper.wp
    simp [execOp, hop, hs, hh]
    go_simp
    exact h2
  · have h2 := hK' _ _ (hK _ (owns_take hown0 hr) rfl)
    unfold Oper.wp
    simp [execOp, hop, hs, hh]
    have hrc : r ≤ cap := by omega
    go_simp
    exact h2
theorem owns_cap {w : World} {B L cp : Nat} {e : TypeId} {ao : Option Addr} {xs : List Value} (h : w.ownsRow B e 1 (.slice ao L cp) L xs) : L ≤ cp ∧ cp ≤ maxLen := by
  rcases h.2 with ⟨hv, h0⟩ | ⟨g, cap, cur, hv, hB, hg, hc, hm, _⟩
  · cases hv; exact ⟨Nat.le_refl _, Nat.zero_le _⟩
  · cases hv; exact ⟨hc, hm⟩
theorem owns_cell {w : World} {B L cp g : Nat} {e : TypeId} {xs : List Value} (h : w.ownsRow B e 1 (.slice (some ⟨g, 0, none⟩) L cp) L xs) {j : Nat} {v : Value} (hj : xs[j]? = some v) : w.cell? ⟨g, j, none⟩ = some v := by
  obtain ⟨h1, h2⟩ := h
  rcases h2 with ⟨hv, _⟩ | ⟨g', cap, cur, hv, hB, hg, hc, hm, hs, htk⟩
  · cases hv
  · cases hv
    have hjl : j < L := by
      by_cases hl : j < xs.length
      · omega
      · rw [List.getElem?_eq_none (by omega)] at hj; cases hj
    rw [cell_of_heap hg]
    rw [← htk, List.getElem?_take_of_lt (by omega)] at hj
    simpa using hj
theorem rightD_false {ts : List Nd} (h : rightRun ts 0 [] = none) : rightD ts = false := by
  unfold rightD
  rw [h]
  split <;> rfl
theorem rightD_some {ts : List Nd} {st : List Int} (hl : ¬ 2000 < ts.length) (h : rightRun ts 0 [] = some st) : rightD ts = (st.length == 1) := by
  unfold rightD
  rw [if_neg hl, h]
theorem run_drop {ts : List Nd} {j : Nat} {n : Nd} (st : List Int) (h : ts[j]? = some n) : rightRun (ts.drop j) j st = (rightStep st j n).bind (rightRun (ts.drop (j + 1)) (j + 1)) := by
  have hlt : j < ts.length := by
    by_cases hl : j < ts.length
    · exact hl
    · rw [List.getElem?_eq_none (by omega)] at h; cases h
  rw [List.getElem?_eq_getElem hlt] at h
  cases h
  rw [List.drop_eq_getElem_cons hlt]
  rfl
theorem pair_cells {w : World} {g : Nat} {t : TypeId} {p q : Value} (h : w.heap[g]? = some (.cells #[p, q] t (0, 0))) : w.cell? ⟨g, 0, none⟩ = some p ∧ w.cell? ⟨g, 1, none⟩ = some q :=
  ⟨cell_of_row w g 0 _ _ _ h, cell_of_row w g 1 _ _ _ h⟩
theorem set_zero {s : K4} (h : ((s.a.toNat : Int) == 0 && ((s.b.toNat : Int) == 0 && ((s.c.toNat : Int) == 0 && (s.d.toNat : Int) == 0))) = true) : s = k0 := by
  simp only [Bool.and_eq_true, beq_iff_eq] at h
  obtain ⟨h1, h2, h3, h4⟩ := h
  obtain ⟨a, b, c, d⟩ := s
  unfold k0
  dsimp only at h1 h2 h3 h4
  have z : ∀ x : BitVec 64, (x.toNat : Int) = 0 → x = 0 := fun x hx => BitVec.eq_of_toNat_eq (by show x.toNat = 0; omega)
  rw [z a h1, z b h2, z c h3, z d h4]
theorem owns_alloc {w : World} {B n size : Nat} {e : TypeId} {v : Value} {xs : List Value} {o : Obj} (h : w.ownsRow B e size v n xs) : (w.alloc o).ownsRow B e size v n xs := owns_same h fun _g hg => Below.heap_alloc _ _ _ (own_block_lt h hg)
theorem take_snoc_length (st : List Int) (r : Nat) (j : Nat) : (st.take r ++ [(j : Int)]).length ≤ st.length + 1 := by
  rw [List.length_append, List.length_take]
  simp
  omega
theorem ints_snoc (st : List Int) (j : Int) : ints (st ++ [j]) = ints st ++ [.int .i64 j] := by unfold ints; rw [List.map_append]; rfl
theorem cell_one' (w : World) (t : TypeId) (p : Value) : ∀ j x, [p][j]? = some x → (w.alloc (.cells #[p] t)).cell? ((⟨w.heap.size, 0, none⟩ : Addr).add j) = some x := by
  intro j x hj
  have h := heap_alloc_new w (.cells #[p] t)
  have e : (⟨w.heap.size, 0, none⟩ : Addr).add j = ⟨w.heap.size, j, none⟩ := by simp [Addr.add]; intro h; exact h.symm
  rw [e, cell_of_heap h]
  simpa using hj
theorem ints_take (st : List Int) (r : Nat) : (ints st).take r = ints (st.take r) := by unfold ints; rw [List.map_take]
theorem take_snoc_len (st : List Int) (r : Nat) (j : Nat) (h : r ≤ st.length) : (st.take r ++ [(j : Int)]).length = r + 1 := by
  rw [List.length_append, List.length_take]
  simp
  omega
theorem split_one (st : List Int) (h : 1 ≤ st.length) : ∃ (s : List Int) (x : Int), st = s ++ [x] := by
  cases hr : st.reverse with
  | nil => rw [List.reverse_eq_nil_iff] at hr; rw [hr] at h; simp at h
  | cons x s => exact ⟨s.reverse, x, by rw [← List.reverse_reverse st, hr, List.reverse_cons]⟩
theorem split_two (st : List Int) (h : 2 ≤ st.length) : ∃ (s : List Int) (x y : Int), st = s ++ [x, y] := by
  obtain ⟨s, y, rfl⟩ := split_one st (by omega)
  obtain ⟨s, x, rfl⟩ := split_one s (by simp at h; omega)
  exact ⟨s, x, y, by simp⟩
theorem ints_length (st : List Int) : (ints st).length = st.length := by unfold ints; rw [List.length_map]

end Go.Proofs.Ytolofcfegoeenaa
