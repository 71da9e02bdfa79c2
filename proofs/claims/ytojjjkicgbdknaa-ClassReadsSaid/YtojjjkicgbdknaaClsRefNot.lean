/- The document's own sets of bytes: all others. No condition. -/
import Derived.Test.YtojjjkicgbdknaaClsRefOr
namespace Go.Proofs.Ytojjjkicgbdknaa
open Go.RowKit Go.Lib

set_option maxHeartbeats 4000000 in
set_option maxRecDepth 20000 in
theorem refNot_any (l : Cl) (w : World) :
    Calls Try.prog 30 #[clsV l] w fun e w' => e = .returned (clsV (notK l)) ∧ Below w.heap.size w w' := by
  have k1 : ∀ (K : Cl) (i : Int) Z, 0 ≤ i → i ≤ 255 → Calls Try.prog 29 #[.agg #[.int .u64 ((K 0).toNat : Int), .int .u64 ((K 1).toNat : Int), .int .u64 ((K 2).toNat : Int), .int .u64 ((K 3).toNat : Int)], .int .u8 i] Z fun e w' => e = .returned (.agg #[.int .u64 ((addK K i.toNat 0).toNat : Int), .int .u64 ((addK K i.toNat 1).toNat : Int), .int .u64 ((addK K i.toNat 2).toNat : Int), .int .u64 ((addK K i.toNat 3).toNat : Int)]) ∧ Below Z.heap.size Z w' := fun K i Z h0 h1 => with_any K i Z h0 h1
  have k2 : ∀ (i : Int) Z (b : Bool), 0 ≤ i → i ≤ 255 → has l i.toNat = b → Calls Try.prog 42 #[.agg #[.int .u64 ((l 0).toNat : Int), .int .u64 ((l 1).toNat : Int), .int .u64 ((l 2).toNat : Int), .int .u64 ((l 3).toNat : Int)], .int .u8 i] Z fun e w' => e = .returned (.bool b) ∧ Below Z.heap.size Z w' := fun i Z b h0 h1 hb => by rw [← hb]; exact refHas_any l i Z h0 h1
  have h3 := three_boxes (w := w) (A := clsA l) (B := clsA fun _ => 0#64) (C := clsA fun _ => 0#64) (t := 30) (u := 30) (v := 30) (Below.refl _ _)
  have H3 := Lib.hid h3
  clear h3
  obtain ⟨E, hE⟩ : ∃ E : Ending, E = .returned (clsV (notK l)) := ⟨_, rfl⟩
  have HE := Lib.hid hE
  rw [← hE]
  clear hE
  unfold clsV clsA wd
  go_enter Try.func30, Try.ntmps30
  go_wp2
  go_loopg [4] (256 : Nat) (fun n i wr => ∃ (j : Int) (K : Cl), i = .int .i64 j ∧ Hid (0 ≤ j ∧ j ≤ 256 ∧ (n : Int) + j = 256) ∧ Hid (∃ Z : Cl, wr.heap[w.heap.size + 1]? = some (.cells (clsA Z) 30 (0, 0))) ∧ Hid (wr.heap[w.heap.size + 1 + 1]? = some (.cells (clsA K) 30 (0, 0))) ∧ Hid (wr.heap[w.heap.size]? = some (.cells (clsA l) 30 (0, 0))) ∧ Hid (∀ d : Nat, d < 256 → has K d = (decide ((d : Int) < j) && !has l d)) ∧ Hid (Below w.heap.size w wr))
  case atStart =>
    refine ⟨0, fun _ => 0#64, rfl, (by show (0 : Int) ≤ 0 ∧ (0 : Int) ≤ 256 ∧ _; omega), ⟨fun _ => 0#64, H3.out.2.1⟩, H3.out.2.2.1, H3.out.1, fun d _ => ?_, H3.out.2.2.2⟩
    rw [has_zero, show decide ((d : Int) < 0) = false by rw [decide_eq_false_iff_not]; omega, Bool.false_and]
  case round =>
    clear H3
    obtain ⟨j, K, rfl, HJ, HZ, HK, HL, HD, HB⟩ := hrel
    obtain ⟨⟨c0, c1, c2, c3⟩, e0, e1, e2, e3⟩ := cells_cls HK.out
    obtain ⟨⟨l0, l1, l2, l3⟩, m0, m1, m2, m3⟩ := cells_cls HL.out
    by_cases hlt : j < 256
    · have hj0 : 0 ≤ j := by have := HJ.out; omega
      have hj1 : j ≤ 255 := by omega
      have w8 : IntKind.u8.wrap j = j := by rw [IntKind.wrap_u8']; omega
      have w64 : IntKind.i64.wrap (j + 1) = j + 1 := by rw [IntKind.wrap_i64]; omega
      cases hb : has l j.toNat
      · have HQ := Lib.hid hb
        clear hb
        go_wp2_with (first
          | (go_at_call 42; refine (k2 j _ false hj0 hj1 HQ.out).mono ?_; clear k2; rintro en w1 ⟨rfl, hb1⟩
             have hg1 := (hb1.block _ (block_at HK.out)).trans HK.out
             have hl1 := (hb1.block _ (block_at HL.out)).trans HL.out
             have hz1 := HZ.out.imp fun Z hz => (hb1.block _ (block_at hz)).trans hz
             clear c0 c1 c2 c3 e0 e1 e2 e3
             obtain ⟨⟨c0, c1, c2, c3⟩, e0, e1, e2, e3⟩ := cells_cls hg1
             have HG := Lib.hid hg1
             have HL1 := Lib.hid hl1
             have HZ1 := Lib.hid hz1
             have H1 := Lib.hid (HB.out.trans (hb1.mono HB.out.size))
             clear hg1 hz1 hl1 hb1)
          | (go_at_call 29; refine (k1 K j _ hj0 hj1).mono ?_; clear k1; rintro en w2 ⟨rfl, hb1⟩
             have hg1 := (hb1.block _ (block_at HG.out)).trans HG.out
             have hl1 := (hb1.block _ (block_at HL1.out)).trans HL1.out
             have hz1 := HZ1.out.imp fun Z hz => (hb1.block _ (block_at hz)).trans hz
             clear c0 c1 c2 c3 e0 e1 e2 e3
             obtain ⟨⟨c0, c1, c2, c3⟩, e0, e1, e2, e3⟩ := cells_cls hg1
             have HG2 := Lib.hid hg1
             have HL2 := Lib.hid hl1
             have HZ2 := Lib.hid hz1
             have H2 := Lib.hid (H1.out.trans (hb1.mono H1.out.size))
             clear hg1 hz1 hl1 hb1))
        go_roundg (gk - 1)
        case measure => have h1 := HJ.out; omega
        case rel =>
          refine ⟨j + 1, addK K j.toNat, by go_num, (by have h1 := HJ.out; show _ ∧ _ ∧ _; omega), HZ2.out.imp fun Z hz => (four_other _ _ _ _ (by omega)).trans hz, set_four _ _ _ _ HG2.out, (four_other _ _ _ _ (by omega)).trans HL2.out, fun d hd => ?_, below_four H2.out (by omega) _ _ _ _⟩
          rw [has_add, HD.out d hd]
          by_cases hdj : (d : Int) = j
          · have : d = j.toNat := by omega
            rw [this, HQ.out, Bool.not_false, Bool.and_true, Bool.and_true]
            rw [show decide (((j.toNat : Nat) : Int) < j + 1) = true by rw [decide_eq_true_eq]; omega]
            simp
          · rw [show decide ((d : Int) < j + 1) = decide ((d : Int) < j) by rw [decide_eq_decide]; omega, show decide (d = j.toNat) = false by rw [decide_eq_false_iff_not]; omega, Bool.or_false]
      · have HQ := Lib.hid hb
        clear hb
        go_wp2_with (first
          | (go_at_call 42; refine (k2 j _ true hj0 hj1 HQ.out).mono ?_; clear k2; rintro en w1 ⟨rfl, hb1⟩))
        go_roundg (gk - 1)
        case measure => have h1 := HJ.out; omega
        case rel =>
          refine ⟨j + 1, K, by go_num, (by have h1 := HJ.out; show _ ∧ _ ∧ _; omega), HZ.out.imp fun Z hz => (hb1.block _ (block_at hz)).trans hz, (hb1.block _ (block_at HK.out)).trans HK.out, (hb1.block _ (block_at HL.out)).trans HL.out, fun d hd => ?_, HB.out.trans (hb1.mono HB.out.size)⟩
          rw [HD.out d hd]
          by_cases hdj : (d : Int) = j
          · have : d = j.toNat := by omega
            rw [this, HQ.out, Bool.not_true, Bool.and_false, Bool.and_false]
          · rw [show decide ((d : Int) < j + 1) = decide ((d : Int) < j) by rw [decide_eq_decide]; omega]
    · obtain ⟨Z, hz⟩ := HZ.out
      obtain ⟨⟨z0, z1, z2, z3⟩, g0, g1, g2, g3⟩ := cells_cls hz
      have HZ1 := Lib.hid hz
      clear hz
      go_wp2
      refine bodyPost_ret (v := .agg _) (results_cell_row (p := 2) (ty := 30) Try.results30 _ _ (w.heap.size + 1) 30 _ (0, 0) _ rfl
        (set_four _ _ _ _ HZ1.out) Try.underlying30 rfl Try.infoCls) rfl ⟨?_, below_four HB.out (by omega) _ _ _ _⟩
      rw [HE.out]
      show Ending.returned (clsV K) = _
      rw [clsV_ext (k := K) (l := notK l) fun d hd => ?_]
      rw [HD.out d hd, has_not, show decide ((d : Int) < j) = true by (rw [decide_eq_true_eq]; have := HJ.out; omega), Bool.true_and]
end Go.Proofs.Ytojjjkicgbdknaa
