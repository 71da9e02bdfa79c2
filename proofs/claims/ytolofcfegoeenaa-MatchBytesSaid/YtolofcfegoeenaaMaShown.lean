/- The document's examples of spans, as the statements ask of them. No condition. -/
import Derived.Test.YtolofcfegoeenaaMaShown0
import Derived.Test.YtolofcfegoeenaaMaRead2
namespace Go.Proofs.Ytolofcfegoeenaa
open Go.RowKit Go.Lib

theorem run_eql_twoM (a b c d : Int) (w : World) : (binOp .eql 41 (.agg #[.int .i64 a, .int .i64 b]) (.agg #[.int .i64 c, .int .i64 d])).run Try.prog w = .ok (.bool (a == c && b == d)) w := by
  rw [run_eql_struct, eql_two]
  rfl
theorem owns_lies {w : World} {B n : Nat} {v : Value} {ts : List Nd} (h : w.ownsRow B 56 7 v n (ndC ts)) (hn : n = ts.length) (hl : ts.length ≤ 2000) : Lies v ts w := by
  subst hn
  rcases h.2 with ⟨hv, h0⟩ | ⟨g, cap, cur, hv, _, hg, _, _, hz, htk⟩
  · have e : ts = [] := List.eq_nil_of_length_eq_zero h0
    subst e
    exact ⟨none, 0, hv, by simp, fun j n hj => by simp at hj⟩
  · refine ⟨some ⟨g, 0, none⟩, cap, hv, by omega, fun j n hj => ⟨g, 0, rfl, block_lt hg, ?_⟩⟩
    have hjl : j < ts.length := by
      by_cases h : j < ts.length
      · exact h
      · rw [List.getElem?_eq_none (by omega)] at hj; cases hj
    have key : ∀ i u, i < 7 → n.cells[i]? = some u → w.cell? ⟨g, 0 + j * 7 + i, none⟩ = some u := fun i u hi hu => by
      have e := ndC_get ts j i n hj hi
      rw [hu, ← htk, List.getElem?_take_of_lt (by omega)] at e
      rw [cell_of_heap hg, Nat.zero_add]
      simpa using e
    exact ⟨by simpa using key 0 _ (by omega) rfl, key 1 _ (by omega) rfl, key 2 _ (by omega) rfl, key 3 _ (by omega) rfl, key 4 _ (by omega) rfl, key 5 _ (by omega) rfl, key 6 _ (by omega) rfl⟩
theorem owns_cell2 {w : World} {B L cp g k : Nat} {e : TypeId} {xs : List Value} (h : w.ownsRow B e k (.slice (some ⟨g, 0, none⟩) L cp) L xs) {j : Nat} {v : Value} (hj : xs[j]? = some v) : w.cell? ⟨g, j, none⟩ = some v := by
  obtain ⟨h1, h2⟩ := h
  rcases h2 with ⟨hv, _⟩ | ⟨g', cap, cur, hv, hB, hg, hc, hm, hs, htk⟩
  · cases hv
  · cases hv
    have hjl : j < L * k := by
      by_cases hl : j < xs.length
      · omega
      · rw [List.getElem?_eq_none (by omega)] at hj; cases hj
    rw [cell_of_heap hg]
    rw [← htk, List.getElem?_take_of_lt (by omega)] at hj
    simpa using hj
set_option maxHeartbeats 4000000 in
set_option maxRecDepth 20000 in
theorem shownM_any (w : World) : Calls Try.prog 20 #[] w fun e w' => e = .returned (.bool true) ∧ Below w.heap.size w w' := by
  have kA := fun w => readRe_two 97 43 5 ⟨#[97, 43]⟩ w rfl (by decide) (by decide) rfl (.inr ⟨rfl, rfl⟩)
  have kB := fun w => readRe_two 98 42 4 ⟨#[98, 42]⟩ w rfl (by decide) (by decide) rfl (.inl ⟨rfl, rfl⟩)
  have kS : ∀ (v : Value) (w : World), Lies v (tA.row 0) w → Calls Try.prog 28 #[v, .string ⟨#[120, 97, 97, 121]⟩, .int .i64 0] w fun e w' => e = .returned (.tuple #[.int .i64 1, .int .i64 3, .bool true]) ∧ Below w.heap.size w w' := fun v w h => by
    have hh := span_first v 0 tA (tA.row 0) ⟨#[120, 97, 97, 121]⟩ w rfl ⟨.inr (.inl rfl), trivial⟩ (by decide) (by decide) h
    have e : spansL (⟨#[120, 97, 97, 121]⟩ : ByteArray).data.toList tA (0 : Int).toNat = [(1, 3)] := spans_A
    rw [e] at hh
    exact hh
  have kP : ∀ (v : Value) (w : World), Lies v (tB.row 0) w → Calls Try.prog 23 #[v, .string ⟨#[97, 98, 98]⟩] w fun e w' => ∃ v', e = .returned v' ∧ w'.ownsRow w.heap.size 41 2 v' 2 [.int .i64 0, .int .i64 0, .int .i64 1, .int .i64 3] ∧ Below w.heap.size w w' := fun v w h => by
    have hh := spans_any v tB (tB.row 0) ⟨#[97, 98, 98]⟩ w rfl ⟨.inl rfl, trivial⟩ (by decide) (by decide) h
    have e : spansL (⟨#[97, 98, 98]⟩ : ByteArray).data.toList tB 0 = [(0, 0), (1, 3)] := spans_B
    rw [e] at hh
    exact hh
  have e1 := run_eql_twoM 0 0 0 0
  have e2 := run_eql_twoM 1 3 1 3
  go_enter Try.func20, Try.ntmps20
  go_wp2_with (first
    | (go_at_call 54; first
        | (with_reducible refine (kA _).mono ?_; rintro e w1 ⟨v1, rfl, ho1, hb1⟩; have HA := Lib.hid (And.intro (owns_lies (ts := tA.row 0) ho1 rfl (by decide)) hb1); clear kA ho1 hb1)
        | (with_reducible refine (kB _).mono ?_; rintro e w2 ⟨v2, rfl, ho2, hb2⟩; have HB := Lib.hid (And.intro (owns_lies (ts := tB.row 0) ho2 rfl (by decide)) hb2); clear kB ho2 hb2))
    | (go_at_call 28; refine (kS _ _ (HA.out.1.below HB.out.2)).mono ?_; rintro e w3 ⟨rfl, hb3⟩; have H3 := Lib.hid hb3; clear kS hb3)
    | (go_at_call 23; refine (kP _ _ (HB.out.1.below H3.out)).mono ?_; rintro e w4 ⟨v4, rfl, ho4, hb4⟩
       obtain ⟨g4, cap4, rfl⟩ := owned_slice ho4 (by omega)
       have q0 := owns_cell2 ho4 (j := 0) rfl
       have q1 := owns_cell2 ho4 (j := 1) rfl
       have q2 := owns_cell2 ho4 (j := 2) rfl
       have q3 := owns_cell2 ho4 (j := 3) rfl
       have H4 := Lib.hid hb4
       clear kP ho4 hb4)
    | fail)
  have z1 := HA.out.2.size
  have z2 := HB.out.2.size
  have z3 := H3.out.size
  exact bodyPost_ret (results_tmp rfl _ _ _) rfl ⟨rfl, HA.out.2.trans ((HB.out.2.mono z1).trans ((H3.out.mono (by omega)).trans (H4.out.mono (by omega))))⟩
end Go.Proofs.Ytolofcfegoeenaa
