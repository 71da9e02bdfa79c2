/- The document's own sets of bytes: a span. No condition. -/
import Derived.Test.YtojjjkicgbdknaaClsRefWith
import Derived.Deep.QuietTactic
import Derived.BigQuiet
import Derived.Deep.LoopGhost
namespace Go.Proofs.Ytojjjkicgbdknaa
open Go.RowKit Go.Lib

theorem has_zero (d : Nat) : has (fun _ => 0#64) d = false := by simp [has]
/-- Two boxes of four cells, newly laid: the first zero, the second written over. -/
theorem boxes_zero (w : World) (Z K : Array Value) (t : TypeId) : ((w.alloc (.cells Z t)).alloc (.cells K t)).heap[w.heap.size]? = some (.cells Z t (0, 0)) ∧ ((w.alloc (.cells Z t)).alloc (.cells K t)).heap[w.heap.size + 1]? = some (.cells K t (0, 0)) ∧ Below w.heap.size w ((w.alloc (.cells Z t)).alloc (.cells K t)) :=
  two_boxes (Below.refl _ _)

theorem four_other {w : World} {g k : Nat} (p q r s : Value) (h : k ≠ g) : ((((w.setCell ⟨g, 0, none⟩ p).setCell ⟨g, 1, none⟩ q).setCell ⟨g, 2, none⟩ r).setCell ⟨g, 3, none⟩ s).heap[k]? = w.heap[k]? := by
  rw [Below.heap_setCell _ _ _ _ (by exact h), Below.heap_setCell _ _ _ _ (by exact h), Below.heap_setCell _ _ _ _ (by exact h), Below.heap_setCell _ _ _ _ (by exact h)]
theorem cells_cls {w : World} {g : Nat} {K : Cl} {t : TypeId} (h : w.heap[g]? = some (.cells (clsA K) t (0, 0))) :
    (w.cell? ⟨g, 0, none⟩ = some (.int .u64 ((K 0).toNat : Int)) ∧ w.cell? ⟨g, 1, none⟩ = some (.int .u64 ((K 1).toNat : Int)) ∧ w.cell? ⟨g, 2, none⟩ = some (.int .u64 ((K 2).toNat : Int)) ∧ w.cell? ⟨g, 3, none⟩ = some (.int .u64 ((K 3).toNat : Int))) ∧
    (w.frozen? ⟨g, 0, none⟩ = false ∧ w.frozen? ⟨g, 1, none⟩ = false ∧ w.frozen? ⟨g, 2, none⟩ = false ∧ w.frozen? ⟨g, 3, none⟩ = false) := res_four h

set_option maxHeartbeats 2000000 in
set_option maxRecDepth 20000 in
theorem refSpan_any (x y : Int) (w : World) (hx0 : 0 ≤ x) (hx1 : x ≤ 255) (hy0 : 0 ≤ y) (hy1 : y ≤ 255) :
    Calls Try.prog 28 #[.int .u8 x, .int .u8 y] w fun e w' => e = .returned (clsV (spanK x.toNat y.toNat)) ∧ Below w.heap.size w w' := by
  have k1 : ∀ (K : Cl) (i : Int) Z, 0 ≤ i → i ≤ 255 → Calls Try.prog 29 #[.agg #[.int .u64 ((K 0).toNat : Int), .int .u64 ((K 1).toNat : Int), .int .u64 ((K 2).toNat : Int), .int .u64 ((K 3).toNat : Int)], .int .u8 i] Z fun e w' => e = .returned (.agg #[.int .u64 ((addK K i.toNat 0).toNat : Int), .int .u64 ((addK K i.toNat 1).toNat : Int), .int .u64 ((addK K i.toNat 2).toNat : Int), .int .u64 ((addK K i.toNat 3).toNat : Int)]) ∧ Below Z.heap.size Z w' := fun K i Z h0 h1 => with_any K i Z h0 h1
  have wx : IntKind.i64.wrap x = x := by rw [IntKind.wrap_i64]; omega
  have wy : IntKind.i64.wrap y = y := by rw [IntKind.wrap_i64]; omega
  go_enter Try.func28, Try.ntmps28
  go_wp2

  go_loopg [6] (256 : Nat) (fun n i wr => ∃ (j : Int) (K : Cl), i = .int .i64 j ∧ Hid (x ≤ j ∧ j ≤ 256 ∧ 256 ≤ (n : Int) + j ∧ (j ≤ y + 1 ∨ j = x)) ∧ Hid (∃ Z : Cl, wr.heap[w.heap.size]? = some (.cells (clsA Z) 30 (0, 0))) ∧ Hid (wr.heap[w.heap.size + 1]? = some (.cells (clsA K) 30 (0, 0))) ∧ Hid (∀ d : Nat, has K d = (decide (x ≤ (d : Int)) && decide ((d : Int) < j))) ∧ Hid (Below w.heap.size w wr))
  case atStart =>
    refine ⟨x, fun _ => 0#64, rfl, (by show x ≤ x ∧ x ≤ 256 ∧ _ ∧ _; omega), ⟨fun _ => 0#64, (boxes_zero w _ _ _).1⟩, (boxes_zero w _ _ _).2.1, fun d => ?_, (boxes_zero w _ _ _).2.2⟩
    rw [has_zero]
    symm
    rw [Bool.and_eq_false_iff]
    simp only [decide_eq_false_iff_not]
    omega
  case round =>
    obtain ⟨j, K, rfl, HJ, HZ, HK, HD, HB⟩ := hrel
    obtain ⟨⟨c0, c1, c2, c3⟩, e0, e1, e2, e3⟩ := cells_cls HK.out
    by_cases hlt : j ≤ y
    · have hj0 : 0 ≤ j := by have := HJ.out; omega
      have hj1 : j ≤ 255 := by omega
      have w8 : IntKind.u8.wrap j = j := by rw [IntKind.wrap_u8']; omega
      have w64 : IntKind.i64.wrap (j + 1) = j + 1 := by rw [IntKind.wrap_i64]; omega
      go_wp2_with (first
        | (go_at_call 29; refine (k1 K j _ hj0 hj1).mono ?_; clear k1; rintro en w1 ⟨rfl, hb1⟩
           have hg1 := (hb1.block _ (block_at HK.out)).trans HK.out
           have hz1 := HZ.out.imp fun Z hz => (hb1.block _ (block_at hz)).trans hz
           clear c0 c1 c2 c3 e0 e1 e2 e3
           obtain ⟨⟨c0, c1, c2, c3⟩, e0, e1, e2, e3⟩ := cells_cls hg1
           have HG := Lib.hid hg1
           have HZ1 := Lib.hid hz1
           have H1 := Lib.hid (HB.out.trans (hb1.mono HB.out.size))
           clear hg1 hz1 hb1))
      go_roundg (gk - 1)
      case measure => have h1 := HJ.out; omega
      case rel =>
        refine ⟨j + 1, addK K j.toNat, by go_num, (by have h1 := HJ.out; show _ ∧ _ ∧ _ ∧ _; omega), HZ1.out.imp fun Z hz => (four_other _ _ _ _ (by omega)).trans hz, set_four _ _ _ _ HG.out, fun d => ?_, below_four H1.out (by omega) _ _ _ _⟩
        rw [has_add, HD.out]
        have h1 := HJ.out
        rw [Bool.eq_iff_iff]
        simp only [Bool.or_eq_true, Bool.and_eq_true, decide_eq_true_eq]
        omega
    · obtain ⟨Z, hz⟩ := HZ.out
      obtain ⟨⟨z0, z1, z2, z3⟩, g0, g1, g2, g3⟩ := cells_cls hz
      have HZ1 := Lib.hid hz
      clear hz
      go_wp2
      refine bodyPost_ret (v := .agg _) (results_cell_row (p := 4) (ty := 30) Try.results28 _ _ w.heap.size 30 _ (0, 0) _ rfl
        (set_four _ _ _ _ HZ1.out) Try.underlying30 rfl Try.infoCls) rfl ⟨?_, below_four HB.out (Nat.le_refl _) _ _ _ _⟩
      show Ending.returned (clsV K) = _
      rw [clsV_ext (k := K) (l := spanK x.toNat y.toNat) fun d _ => ?_]
      rw [HD.out, has_span, Bool.eq_iff_iff]
      have h1 := HJ.out
      simp only [Bool.and_eq_true, decide_eq_true_eq]
      omega
end Go.Proofs.Ytojjjkicgbdknaa
