/- Packed texts: ShCount, ShSame. What each of them proves stands above its theorems; the conditions stand in these. -/
import Derived.Deep.CutBlock
import Derived.Deep.DeepCutAuto
import Derived.Deep.LoopGhost
import Derived.Deep.RegionHeld3
import Derived.Test.YtabkmimpkoiajaaDoorA1
import Derived.Test.YtabkmimpkoiajaaDoorA3
import Derived.Test.YtabkmimpkoiajaaDoorA13
namespace Go.Proofs.YtabkmimpkoiajaaDoor
open Go.RowKit Go.Lib

/-- Count is right of rows so deep. -/
def CntOk (n : Nat) : Prop := ∀ (v : Value) (cs : List Co) (F : Nat → Prop) (w : World), (cosV n).q F w v cs → (∀ g, F g → g < w.heap.size) → cntCs cs ≤ 1099511627776 →
  Calls Tryd.prog 16 #[v] w fun e w' => e = .returned (.int .i64 (cntCs cs : Nat)) ∧ Below w.heap.size w w'
def HeldOk (n : Nat) : Prop := ∀ (v : Value) (ws : List (List Pt)) (F : Nat → Prop) (w : World), (WdsV (cosV n)).q F w v ws → (∀ g, F g → g < w.heap.size) → cntWs ws ≤ 1099511627776 →
  Calls Tryd.prog 30 #[v] w fun e w' => e = .returned (.int .i64 (cntWs ws : Nat)) ∧ Below w.heap.size w w'
set_option maxHeartbeats 4000000 in
set_option maxRecDepth 20000 in
theorem held_any (n : Nat) (H : CntOk n) : HeldOk n := by
  intro v ws F w h hF hc
  obtain ⟨ao, cap, rfl, hcap⟩ := wds_shape h
  have HQ := Lib.hid (And.intro h (And.intro hF hc))
  have KC := Lib.hid H
  have hN : ∃ N, N = ws.length := ⟨_, rfl⟩
  obtain ⟨N, hN⟩ := hN
  have hNL := Lib.hid hN
  have hNb : (N : Int) ≤ 9223372036854775807 := by rw [hN]; have := RowM.short h; unfold maxLen at this; omega
  rw [← hN] at hcap ⊢
  clear h hF hc hN
  go_enter Tryd.func30, Tryd.ntmps30
  go_wp2
  go_loopg [3, 10] (N + 1) (fun k s i wr => ∃ (j : Nat), s = .int .i64 (cntWs (ws.take j) : Nat) ∧ i = .int .i64 j ∧ j ≤ N ∧ Hid (k = N + 1 - j) ∧ Hid (Below w.heap.size w wr))
  case atStart => exact ⟨0, rfl, rfl, by omega, rfl, Below.refl _ _⟩
  case round =>
    obtain ⟨j, rfl, rfl, hj, HK, HB⟩ := hrel
    by_cases hlt : j < N
    · obtain ⟨x, hx⟩ : ∃ x, ws[j]? = some x := ⟨ws[j]'(by have := hNL.out; omega), List.getElem?_eq_getElem _⟩
      obtain ⟨g, c2, bo, m, cp, e, -, hg, c0, hm, hmc, hp⟩ := wd_at HQ.out.1 hx
      cases e
      have c0 := (World.cell?_of_block (HB.out.block g hg)).trans c0
      have hmb := RowM.short hp
      rw [← hm] at hmb
      have hmi : (m : Int) ≤ 9223372036854775807 := by unfold maxLen at hmb; omega
      have hT := cntW_take ws j x hx
      have hL := cntWs_le ws (j + 1)
      have hc := HQ.out.2.2
      obtain ⟨s0, hs0⟩ : ∃ s, s = cntWs (ws.take j) := ⟨_, rfl⟩
      rw [← hs0] at hT ⊢
      have HT := Lib.hid (And.intro hT (And.intro hL hc))
      have HX := Lib.hid (And.intro hp hm)
      have hgw : g < w.heap.size := hg
      clear hT hL hc hp hm hs0 hx hg
      have hbA : Below w.heap.size w (wr.alloc (Obj.cells #[Value.slice bo m cp] 36)) := HB.out.alloc HB.out.size _
      have HA := Lib.hid hbA
      clear hbA
      go_wp2
      go_loopg [3, 17] (m + 1) (fun k s i wz => ∃ (q : Nat), s = .int .i64 (s0 + cntPs (x.take q) : Nat) ∧ i = .int .i64 q ∧ q ≤ m ∧ Hid (k = m + 1 - q) ∧ Hid (Below w.heap.size w wz))
      case atStart => exact ⟨0, rfl, rfl, by omega, rfl, HA⟩
      case round =>
        obtain ⟨q, rfl, rfl, hq, HK2, HB2⟩ := hrel
        by_cases hlt2 : q < m
        · obtain ⟨y, hy⟩ : ∃ y, x[q]? = some y := ⟨x[q]'(by have := HX.out.2; omega), List.getElem?_eq_getElem _⟩
          obtain ⟨g2, c3, lo, m3, cp3, e, -, hg2, ⟨d0, d1, d2, d3, d4⟩, hm3, hmc3, hl3⟩ := pt_at HX.out.1 hy
          injection e with ee e2 e3
          subst ee
          clear e2 e3
          have cel : ∀ i u, w.cell? ⟨g2, i, none⟩ = some u → wr.cell? ⟨g2, i, none⟩ = some u := fun i u h => (World.cell?_of_block (HB2.out.block g2 hg2)).trans h
          have e0 := cel _ _ d0
          have e1 := cel _ _ d1
          have e2 := cel _ _ d2
          have e3 := cel _ _ d3
          have e4 := cel _ _ d4
          have hT2 := cntP_take x q y hy
          have hL2 := cntPs_le x (q + 1)
          rw [cntP_eq] at hT2
          have hsum := HT.out
          obtain ⟨t0, ht0⟩ : ∃ t, t = cntPs (x.take q) := ⟨_, rfl⟩
          obtain ⟨t1, ht1⟩ : ∃ t, t = cntCs y.l := ⟨_, rfl⟩
          rw [← ht0, ← ht1] at hT2
          rw [← ht0]
          have KQ := Lib.hid (fun (w1 : World) (hb : Below w.heap.size w w1) => KC.out (.slice lo m3 cp3) y.l F w1 (val_below hl3 HQ.out.2.1 hb) (fun g hg => Nat.lt_of_lt_of_le (HQ.out.2.1 g hg) hb.size) (by omega))
          rw [← ht1] at KQ
          have hbA2 := Lib.hid (HB2.out.alloc HB2.out.size (Obj.cells #[.int .i64 (y.k : Int), .bool y.q, .string ⟨y.s.toArray⟩, .string ⟨y.t.toArray⟩, .slice lo m3 cp3] 38))
          have hsm : Hid (wrap64 ((s0 : Int) + (t0 : Int) + (t1 : Int)) = ((s0 + (t0 + t1) : Nat) : Int)) := (IntWalk.wrap64_in _ ⟨by omega, by omega⟩).trans (by omega)
          have hI2 : IntKind.i64.wrap ((q : Int) + 1) = ((q + 1 : Nat) : Int) := by rw [IntWalk.i64_in _ (by omega)]; omega
          have HT2 := Lib.hid hT2
          clear cel d0 d1 d2 d3 d4 hl3 hm3 hT2 hL2 hsum ht0 ht1 hy hg2
          generalize (⟨y.s.toArray⟩ : ByteArray) = ys at *
          generalize (⟨y.t.toArray⟩ : ByteArray) = yt at *
          go_wp2_with (go_at_call 16; (with_reducible refine (KQ.out _ hbA2.out).mono ?_); rintro e w5 ⟨rfl, hb5⟩)
          go_roundg (m - q)
          case measure => have := HK2.out; omega
          case rel => exact ⟨q + 1, by rw [HT2.out, ← hsm.out], by go_num, by omega, by show _ = _; omega, hbA2.out.trans (hb5.mono hbA2.out.size)⟩
        · have hd2 : decide ((q : Int) < (m : Int)) = false := by simp; omega
          have he : q = m := by omega
          have hE : x.take q = x := by rw [he, HX.out.2]; exact List.take_of_length_le (Nat.le_refl _)
          rw [hE]
          clear he hE
          have hI : IntKind.i64.wrap ((j : Int) + 1) = ((j + 1 : Nat) : Int) := by rw [IntWalk.i64_in _ (by omega)]; omega
          go_wp2
          go_roundg (N - j)
          case measure => have := HK.out; omega
          case rel => exact ⟨j + 1, by rw [HT.out.1], by go_num, by omega, by show _ = _; omega, HB2⟩
    · have hd : decide ((j : Int) < (N : Int)) = false := by simp; omega
      have he : j = N := by omega
      have hE : ws.take j = ws := by rw [he, hNL.out]; exact List.take_of_length_le (Nat.le_refl _)
      rw [hE]
      clear he hE
      go_wp2
      go_ret
      exact ⟨rfl, HB.out⟩
theorem below_cell {w w' : World} {g i : Nat} {u : Value} (hb : Below w.heap.size w w') (hg : g < w.heap.size) (h : w.cell? ⟨g, i, none⟩ = some u) : w'.cell? ⟨g, i, none⟩ = some u := (World.cell?_of_block (hb.block g hg)).trans h
/-- The five rows of a command that has been copied. -/
def Five (b : Nat) (vv vw va vb vc : Value) (W : World) : Prop := W.cell? ⟨b, 2, none⟩ = some vv ∧ W.cell? ⟨b, 3, none⟩ = some vw ∧ W.cell? ⟨b, 4, none⟩ = some va ∧ W.cell? ⟨b, 5, none⟩ = some vb ∧ W.cell? ⟨b, 6, none⟩ = some vc
theorem five_new (w : World) (v0 v1 v2 v3 v4 v5 v6 : Value) : Five w.heap.size v2 v3 v4 v5 v6 (w.alloc (.cells #[v0, v1, v2, v3, v4, v5, v6] 33)) := by
  have h := heap_alloc_new w (.cells #[v0, v1, v2, v3, v4, v5, v6] 33)
  exact ⟨by rw [cell_of_heap h]; rfl, by rw [cell_of_heap h]; rfl, by rw [cell_of_heap h]; rfl, by rw [cell_of_heap h]; rfl, by rw [cell_of_heap h]; rfl⟩
theorem Five.on {b : Nat} {vv vw va vb vc : Value} {W W' : World} (h : Five b vv vw va vb vc W) (hb : Below W.heap.size W W') (hlt : b < W.heap.size) : Five b vv vw va vb vc W' :=
  ⟨below_cell hb hlt h.1, below_cell hb hlt h.2.1, below_cell hb hlt h.2.2.1, below_cell hb hlt h.2.2.2.1, below_cell hb hlt h.2.2.2.2⟩
set_option maxHeartbeats 8000000 in
set_option maxRecDepth 20000 in
theorem count_step (n : Nat) (H : CntOk n) : CntOk (n + 1) := by
  intro v cs F w h hF hc
  have HH := Lib.hid (held_any n H)
  obtain ⟨ao, cap, rfl, hcap⟩ := cos_shape h
  have HQ := Lib.hid (And.intro h (And.intro hF hc))
  have KC := Lib.hid H
  obtain ⟨N, hN⟩ : ∃ N, N = cs.length := ⟨_, rfl⟩
  have hNL := Lib.hid hN
  have hNb : (N : Int) ≤ 9223372036854775807 := by rw [hN]; have := cos_short h; unfold maxLen at this; omega
  rw [← hN] at hcap ⊢
  clear h hF hc hN H
  go_enter Tryd.func16, Tryd.ntmps16
  go_wp2
  go_loopg [3, 10] (N + 1) (fun k s i wr => ∃ (j : Nat), s = .int .i64 (N + cntCs (cs.take j) - j : Nat) ∧ i = .int .i64 j ∧ j ≤ N ∧ Hid (k = N + 1 - j) ∧ Hid (Below w.heap.size w wr))
  case atStart => exact ⟨0, by simp [cntCs], rfl, by omega, rfl, Below.refl _ _⟩
  case round =>
    obtain ⟨j, rfl, rfl, hj, HK, HB⟩ := hrel
    by_cases hlt : j < N
    · obtain ⟨x, hx⟩ : ∃ x, cs[j]? = some x := ⟨cs[j]'(by have := hNL.out; omega), List.getElem?_eq_getElem _⟩
      obtain ⟨g, c2, an, nn, cn, av, nv, cv, aw, nw, cw, aa, na, ca, ab, nb, cb, ac, nc, cc, e, -, hg, ⟨d0, d1, d2, d3, d4, d5, d6⟩, -, -, -, -, -, -, q1, q2, q3, q4, q5, q6⟩ := cmd_at HQ.out.1 hx
      injection e with ee e2 e3
      subst ee
      clear e2 e3
      have e0 := below_cell HB.out hg d0
      have e1 := below_cell HB.out hg d1
      have e2 := below_cell HB.out hg d2
      have e3 := below_cell HB.out hg d3
      have e4 := below_cell HB.out hg d4
      have e5 := below_cell HB.out hg d5
      have e6 := below_cell HB.out hg d6
      have hT := cnt_take cs j x hx
      have hL := cntCs_le cs (j + 1)
      have hB1 := cnt_len cs j (by have := hNL.out; omega)
      have hB2 := cnt_len cs (j + 1) (by have := hNL.out; omega)
      rw [← hNL.out] at hB1 hB2
      rw [cntC_eq] at hT
      have hc := HQ.out.2.2
      obtain ⟨s0, hs0⟩ : ∃ s, s = cntCs (cs.take j) := ⟨_, rfl⟩
      obtain ⟨s1, hs1⟩ : ∃ s, s = cntCs (cs.take (j + 1)) := ⟨_, rfl⟩
      obtain ⟨tA, htA⟩ : ∃ t, t = cntCs x.a := ⟨_, rfl⟩
      obtain ⟨tB, htB⟩ : ∃ t, t = cntCs x.b := ⟨_, rfl⟩
      obtain ⟨tC, htC⟩ : ∃ t, t = cntCs x.c := ⟨_, rfl⟩
      obtain ⟨tV, htV⟩ : ∃ t, t = cntWs x.v := ⟨_, rfl⟩
      obtain ⟨tW, htW⟩ : ∃ t, t = cntWs x.w := ⟨_, rfl⟩
      rw [← hs0, ← hs1, ← htA, ← htB, ← htC, ← htV, ← htW] at hT
      rw [← hs0] at hB1 ⊢
      rw [← hs1] at hL hB2
      obtain ⟨S0, hS0⟩ : ∃ S0, S0 = N + s0 - j := ⟨_, rfl⟩
      obtain ⟨S1, hS1⟩ : ∃ S1, S1 = N + s1 - (j + 1) := ⟨_, rfl⟩
      rw [← hS0]
      have KA := Lib.hid (fun (w1 : World) (hb : Below w.heap.size w w1) => KC.out (.slice aa na ca) x.a F w1 (val_below q4 HQ.out.2.1 hb) (fun g hg => Nat.lt_of_lt_of_le (HQ.out.2.1 g hg) hb.size) (by omega))
      have KB := Lib.hid (fun (w1 : World) (hb : Below w.heap.size w w1) => KC.out (.slice ab nb cb) x.b F w1 (val_below q5 HQ.out.2.1 hb) (fun g hg => Nat.lt_of_lt_of_le (HQ.out.2.1 g hg) hb.size) (by omega))
      have KD := Lib.hid (fun (w1 : World) (hb : Below w.heap.size w w1) => KC.out (.slice ac nc cc) x.c F w1 (val_below q6 HQ.out.2.1 hb) (fun g hg => Nat.lt_of_lt_of_le (HQ.out.2.1 g hg) hb.size) (by omega))
      have KV := Lib.hid (fun (w1 : World) (hb : Below w.heap.size w w1) => HH.out (.slice av nv cv) x.v F w1 (val_below q2 HQ.out.2.1 hb) (fun g hg => Nat.lt_of_lt_of_le (HQ.out.2.1 g hg) hb.size) (by omega))
      have KW := Lib.hid (fun (w1 : World) (hb : Below w.heap.size w w1) => HH.out (.slice aw nw cw) x.w F w1 (val_below q3 HQ.out.2.1 hb) (fun g hg => Nat.lt_of_lt_of_le (HQ.out.2.1 g hg) hb.size) (by omega))
      rw [← htA] at KA
      rw [← htB] at KB
      rw [← htC] at KD
      rw [← htV] at KV
      rw [← htW] at KW
      have hsum := Lib.hid (show S0 + (tA + tB + tC + tV + tW) = S1 by omega)
      have hI : IntKind.i64.wrap ((j : Int) + 1) = ((j + 1 : Nat) : Int) := by rw [IntWalk.i64_in _ (by omega)]; omega
      have b0 : S0 + (tA + tB + tC + tV + tW) ≤ 1099511627776 := by omega
      clear d0 d1 d2 d3 d4 d5 d6 q1 q2 q3 q4 q5 q6 hT hL hB1 hB2 hc htA htB htC htV htW hx
      have HS1 := Lib.hid (And.intro hS1 hs1)
      clear hS0 hs0 hS1 hs1
      have hz := HB.out.size
      have F0 := five_new wr (.int .i64 (x.k : Int)) (.slice an nn cn) (.slice av nv cv) (.slice aw nw cw) (.slice aa na ca) (.slice ab nb cb) (.slice ac nc cc)
      have B0 := HB.out.alloc HB.out.size (Obj.cells #[.int .i64 (x.k : Int), .slice an nn cn, .slice av nv cv, .slice aw nw cw, .slice aa na ca, .slice ab nb cb, .slice ac nc cc] 33)
      go_wp2_with fail
      have hW0z : wr.heap.size < (wr.alloc (Obj.cells #[.int .i64 (x.k : Int), .slice an nn cn, .slice av nv cv, .slice aw nw cw, .slice aa na ca, .slice ab nb cb, .slice ac nc cc] 33)).heap.size := by simp
      generalize wr.alloc (Obj.cells #[.int .i64 (x.k : Int), .slice an nn cn, .slice av nv cv, .slice aw nw cw, .slice aa na ca, .slice ab nb cb, .slice ac nc cc] 33) = W0 at F0 B0 hW0z ⊢
      have SB := Lib.hid (fun (Z : World) (hb : Below W0.heap.size W0 Z) => (show Five wr.heap.size (.slice av nv cv) (.slice aw nw cw) (.slice aa na ca) (.slice ab nb cb) (.slice ac nc cc) Z from F0.on hb hW0z))
      have BB := Lib.hid (fun (Z : World) (hb : Below W0.heap.size W0 Z) => B0.trans (hb.mono B0.size))
      unfold Five at SB
      clear F0 B0 e0 e1 e2 e3 e4 e5 e6
      have W0D := Lib.hid (Below.refl W0.heap.size W0).drew
      go_region_held3 (fun Z => Z.cell? ⟨wr.heap.size, 2, none⟩ = some (.slice av nv cv) ∧ Z.cell? ⟨wr.heap.size, 3, none⟩ = some (.slice aw nw cw) ∧ Z.cell? ⟨wr.heap.size, 4, none⟩ = some (.slice aa na ca) ∧ Z.cell? ⟨wr.heap.size, 5, none⟩ = some (.slice ab nb cb) ∧ Z.cell? ⟨wr.heap.size, 6, none⟩ = some (.slice ac nc cc))
        (first | with_reducible exact SB.out _ W0D.out | with_reducible exact SB.out _ M7.out | with_reducible exact SB.out _ M6.out | with_reducible exact SB.out _ M5.out | with_reducible exact SB.out _ M4.out | with_reducible exact SB.out _ M3.out)
        (first
          | (go_at_call 16; first | ((with_reducible refine (KD.out _ (BB.out _ M4.out)).mono ?_); rintro e w5 ⟨rfl, hb⟩; have M5 : Hid (Below W0.heap.size W0 w5) := M4.out.trans (hb.mono M4.out.size); clear hb) | ((with_reducible refine (KB.out _ (BB.out _ M3.out)).mono ?_); rintro e w4 ⟨rfl, hb⟩; have M4 : Hid (Below W0.heap.size W0 w4) := M3.out.trans (hb.mono M3.out.size); clear hb) | ((with_reducible refine (KA.out _ (BB.out _ W0D.out)).mono ?_); rintro e w3 ⟨rfl, hb⟩; have M3 : Hid (Below W0.heap.size W0 w3) := W0D.out.trans (hb.mono W0D.out.size); clear hb))
          | (go_at_call 30; first | ((with_reducible refine (KW.out _ (BB.out _ M6.out)).mono ?_); rintro e w7 ⟨rfl, hb⟩; have M7 : Hid (Below W0.heap.size W0 w7) := M6.out.trans (hb.mono M6.out.size); clear hb) | ((with_reducible refine (KV.out _ (BB.out _ M5.out)).mono ?_); rintro e w6 ⟨rfl, hb⟩; have M6 : Hid (Below W0.heap.size W0 w6) := M5.out.trans (hb.mono M5.out.size); clear hb)))
      have x1 : IntKind.i64.wrap ((tA : Int) + (tB : Int)) = ((tA + tB : Nat) : Int) := by rw [IntWalk.i64_in _ (by omega)]; omega
      have x2 : IntKind.i64.wrap (((tA + tB : Nat) : Int) + (tC : Int)) = ((tA + tB + tC : Nat) : Int) := by rw [IntWalk.i64_in _ (by omega)]; omega
      have x3 : IntKind.i64.wrap (((tA + tB + tC : Nat) : Int) + (tV : Int)) = ((tA + tB + tC + tV : Nat) : Int) := by rw [IntWalk.i64_in _ (by omega)]; omega
      have x4 : IntKind.i64.wrap (((tA + tB + tC + tV : Nat) : Int) + (tW : Int)) = ((tA + tB + tC + tV + tW : Nat) : Int) := by rw [IntWalk.i64_in _ (by omega)]; omega
      have x5 : IntKind.i64.wrap ((S0 : Int) + ((tA + tB + tC + tV + tW : Nat) : Int)) = ((S1 : Nat) : Int) := by have := hsum.out; rw [IntWalk.i64_in _ (by omega)]; omega
      rw [x1, x2, x3, x4, x5]
      clear x1 x2 x3 x4 x5
      go_wp2
      go_roundg (N - j)
      case measure => have := HK.out; omega
      case rel => exact ⟨j + 1, by rw [← HS1.out.2, ← HS1.out.1], by go_num, by omega, by show _ = _; omega, BB.out _ M7.out⟩
    · have hd : decide ((j : Int) < (N : Int)) = false := by simp; omega
      have he : j = N := by omega
      have hE : cs.take j = cs := by rw [he, hNL.out]; exact List.take_of_length_le (Nat.le_refl _)
      rw [hE]
      have hS : N + cntCs cs - j = cntCs cs := by omega
      rw [hS]
      clear he hE hS
      go_wp2
      go_ret
      exact ⟨rfl, HB.out⟩
set_option maxRecDepth 20000 in
theorem count_zero : CntOk 0 := by
  intro v cs F w h hF hc
  obtain ⟨rfl, rfl⟩ := h
  go_enter Tryd.func16, Tryd.ntmps16
  go_wp2
  go_loopg [3, 10] 1 (fun k s i wr => s = .int .i64 0 ∧ i = .int .i64 0 ∧ wr = w)
  case atStart => exact ⟨rfl, rfl, rfl⟩
  case round =>
    obtain ⟨rfl, rfl, rfl⟩ := hrel
    go_wp2
    go_ret
    exact ⟨rfl, Below.refl _ _⟩
/-- Count, of any row of commands. -/
theorem count_any : ∀ n, CntOk n
  | 0 => count_zero
  | n + 1 => count_step n (count_any n)
end Go.Proofs.YtabkmimpkoiajaaDoor
namespace Go.Proofs.YtabkmimpkoiajaaDoor
open Go.RowKit Go.Lib

set_option maxHeartbeats 4000000 in
set_option maxRecDepth 20000 in
/-- Rows of texts. -/
theorem sameN_any (u v : Value) (xs ys : List (List UInt8)) (F G : Nat → Prop) (w : World) (h : StrV.q F w u xs) (h2 : StrV.q G w v ys) :
    Calls Tryd.prog 28 #[u, v] w fun e w' => e = .returned (.bool (eqB xs ys)) ∧ Below w.heap.size w w' := by
  obtain ⟨ao, cap, rfl, hcap⟩ := str_shape h
  obtain ⟨bo, cap2, rfl, hcap2⟩ := str_shape h2
  have hs1 := RowM.short h
  have hs2 := RowM.short h2
  unfold maxLen at hs1 hs2
  by_cases hN : xs.length = ys.length
  · have HQ := Lib.hid (And.intro h h2)
    obtain ⟨N, hM⟩ : ∃ N, N = xs.length := ⟨_, rfl⟩
    have hM2 : N = ys.length := by omega
    have HN := Lib.hid (And.intro hM.symm hM2.symm)
    rw [← hM] at hs1 hcap ⊢
    rw [← hM2] at hs2 hcap2 ⊢
    have h1 : ((N : Int) != (N : Int)) = false := by simp
    have hNb : (N : Int) ≤ 9223372036854775807 := by omega
    clear h h2 hN hM hM2 hs1 hs2
    go_enter Tryd.func28, Tryd.ntmps28
    go_wp2
    go_loopg [5] (N + 1) (fun k i wr => ∃ (j : Nat), i = .int .i64 j ∧ j ≤ N ∧ Hid (k = N + 1 - j) ∧ Hid (∀ q, q < j → xs[q]? = ys[q]?) ∧ Hid (Below w.heap.size w wr))
    case atStart => exact ⟨0, rfl, by omega, rfl, fun q hq => by omega, Below.refl _ _⟩
    case round =>
      obtain ⟨j, rfl, hj, HK, HS, HB⟩ := hrel
      by_cases hlt : j < N
      · obtain ⟨x, hx⟩ := row_short HN.out.1 hlt
        obtain ⟨y, hy⟩ := row_short HN.out.2 hlt
        obtain ⟨g1, c1, e, -, hg1, d1⟩ := nm_at HQ.out.1 hx
        injection e with ee e2 e3
        subst ee
        clear e2 e3
        obtain ⟨g2, c2, e, -, hg2, d2⟩ := nm_at HQ.out.2 hy
        injection e with ee e2 e3
        subst ee
        clear e2 e3
        have ca := below_cellS HB.out hg1 d1
        have cb := below_cellS HB.out hg2 d2
        have hI : IntKind.i64.wrap ((j : Int) + 1) = ((j + 1 : Nat) : Int) := by rw [IntWalk.i64_in _ (by omega)]; omega
        have hq := str_eqS x y
        have HXY := Lib.hid (And.intro hx hy)
        clear hx hy d1 d2
        cases hc : eqB x y
        · have HD := Lib.hid (row_ne HXY.out.1 HXY.out.2 (eqB_false.1 hc))
          rw [hc] at hq
          clear hc
          generalize (⟨x.toArray⟩ : ByteArray) = X at ca hq
          generalize (⟨y.toArray⟩ : ByteArray) = Y at cb hq
          go_wp2_with fail
          go_region
          all_goals
            go_wp2
            exact bodyPost_ret (results_tmp rfl _ _ _) rfl ⟨by rw [HD.out]; rfl, HB.out.drew⟩
        · have HE := Lib.hid (eqB_true.1 hc)
          rw [hc] at hq
          clear hc
          generalize (⟨x.toArray⟩ : ByteArray) = X at ca hq
          generalize (⟨y.toArray⟩ : ByteArray) = Y at cb hq
          go_wp2_with fail
          go_region
          all_goals
            go_wp2
            go_roundg (N - j)
            case rel => exact ⟨j + 1, by go_num, by omega, by show _ = _; omega, fun q hq => by
              by_cases hqj : q = j
              · rw [hqj, HXY.out.1, HXY.out.2, HE.out]
              · exact HS.out q (by omega), HB.out.drew⟩
            case measure => have := HK.out; omega
      · have hd : decide ((j : Int) < (N : Int)) = false := by simp; omega
        have HD := Lib.hid (eqB_true.2 (row_eq HN.out.1 HN.out.2 fun q hq => HS.out q (by omega)))
        go_wp2
        exact bodyPost_ret (results_tmp rfl _ _ _) rfl ⟨by rw [HD.out]; rfl, HB.out⟩
  · rw [eqB_len hN]
    have h1 : ((xs.length : Int) != (ys.length : Int)) = true := by simp; omega
    clear h h2
    generalize xs.length = N at *
    generalize ys.length = M at *
    go_enter Tryd.func28, Tryd.ntmps28
    go_wp2
    exact bodyPost_ret (results_tmp rfl _ _ _) rfl ⟨rfl, Below.refl _ _⟩
theorem bool_ne : ∀ a b : Bool, a ≠ b → (a != b) = true := by decide
/-- Two parts that have been copied. -/
theorem two_parts (w : World) (a0 a1 a2 a3 a4 b0 b1 b2 b3 b4 : Value) : ((w.alloc (.cells #[a0, a1, a2, a3, a4] 38)).alloc (.cells #[b0, b1, b2, b3, b4] 38)).heap.size = w.heap.size + 2 ∧
    ((w.alloc (.cells #[a0, a1, a2, a3, a4] 38)).alloc (.cells #[b0, b1, b2, b3, b4] 38)).cell? ⟨w.heap.size, 0, none⟩ = some a0 ∧ ((w.alloc (.cells #[a0, a1, a2, a3, a4] 38)).alloc (.cells #[b0, b1, b2, b3, b4] 38)).cell? ⟨w.heap.size, 1, none⟩ = some a1 ∧ ((w.alloc (.cells #[a0, a1, a2, a3, a4] 38)).alloc (.cells #[b0, b1, b2, b3, b4] 38)).cell? ⟨w.heap.size, 2, none⟩ = some a2 ∧ ((w.alloc (.cells #[a0, a1, a2, a3, a4] 38)).alloc (.cells #[b0, b1, b2, b3, b4] 38)).cell? ⟨w.heap.size, 3, none⟩ = some a3 ∧ ((w.alloc (.cells #[a0, a1, a2, a3, a4] 38)).alloc (.cells #[b0, b1, b2, b3, b4] 38)).cell? ⟨w.heap.size, 4, none⟩ = some a4 ∧
    ((w.alloc (.cells #[a0, a1, a2, a3, a4] 38)).alloc (.cells #[b0, b1, b2, b3, b4] 38)).cell? ⟨w.heap.size + 1, 0, none⟩ = some b0 ∧ ((w.alloc (.cells #[a0, a1, a2, a3, a4] 38)).alloc (.cells #[b0, b1, b2, b3, b4] 38)).cell? ⟨w.heap.size + 1, 1, none⟩ = some b1 ∧ ((w.alloc (.cells #[a0, a1, a2, a3, a4] 38)).alloc (.cells #[b0, b1, b2, b3, b4] 38)).cell? ⟨w.heap.size + 1, 2, none⟩ = some b2 ∧ ((w.alloc (.cells #[a0, a1, a2, a3, a4] 38)).alloc (.cells #[b0, b1, b2, b3, b4] 38)).cell? ⟨w.heap.size + 1, 3, none⟩ = some b3 ∧ ((w.alloc (.cells #[a0, a1, a2, a3, a4] 38)).alloc (.cells #[b0, b1, b2, b3, b4] 38)).cell? ⟨w.heap.size + 1, 4, none⟩ = some b4 := by
  have main : ∀ O1 O2 : Obj, ((w.alloc O1).alloc O2).heap.size = w.heap.size + 2 ∧ ((w.alloc O1).alloc O2).heap[w.heap.size]? = some O1 ∧ ((w.alloc O1).alloc O2).heap[w.heap.size + 1]? = some O2 := fun O1 O2 => by
    have z1 : (w.alloc O1).heap.size = w.heap.size + 1 := by simp
    have h1 := heap_alloc_new w O1
    have h2 := heap_alloc_new (w.alloc O1) O2
    rw [z1] at h2
    refine ⟨by simp, ?_, h2⟩
    rw [Below.heap_alloc _ _ _ (by omega)]; exact h1
  obtain ⟨z, h1, h2⟩ := main (.cells #[a0, a1, a2, a3, a4] 38) (.cells #[b0, b1, b2, b3, b4] 38)
  exact ⟨z, by rw [cell_of_heap h1]; rfl, by rw [cell_of_heap h1]; rfl, by rw [cell_of_heap h1]; rfl, by rw [cell_of_heap h1]; rfl, by rw [cell_of_heap h1]; rfl, by rw [cell_of_heap h2]; rfl, by rw [cell_of_heap h2]; rfl, by rw [cell_of_heap h2]; rfl, by rw [cell_of_heap h2]; rfl, by rw [cell_of_heap h2]; rfl⟩
/-- Same is right of rows so deep. -/
def SamOk (n : Nat) : Prop := ∀ (u v : Value) (cs ds : List Co) (F G : Nat → Prop) (w : World), (cosV n).q F w u cs → (cosV n).q G w v ds → (∀ g, F g → g < w.heap.size) → (∀ g, G g → g < w.heap.size) →
  Calls Tryd.prog 15 #[u, v] w fun e w' => e = .returned (.bool (eqB cs ds)) ∧ Below w.heap.size w w'
def SamWs (n : Nat) : Prop := ∀ (u v : Value) (xs ys : List (List Pt)) (F G : Nat → Prop) (w : World), (WdsV (cosV n)).q F w u xs → (WdsV (cosV n)).q G w v ys → (∀ g, F g → g < w.heap.size) → (∀ g, G g → g < w.heap.size) →
  Calls Tryd.prog 29 #[u, v] w fun e w' => e = .returned (.bool (eqB xs ys)) ∧ Below w.heap.size w w'
/-- How far the words are the same. -/
def UpTo {α : Type} (a b : List α) (j : Nat) : Prop := ∀ q, q < j → a[q]? = b[q]?
theorem UpTo.succ {α : Type} {a b : List α} {j : Nat} {x y : α} (h : UpTo a b j) (ha : a[j]? = some x) (hb : b[j]? = some y) (he : x = y) : UpTo a b (j + 1) := fun q hq => by
  by_cases hqj : q = j
  · rw [hqj, ha, hb, he]
  · exact h q (by omega)
set_option maxHeartbeats 8000000 in
set_option maxRecDepth 20000 in
theorem sameWs_any (n : Nat) (H : SamOk n) : SamWs n := by
  intro u v xs ys F G w h h2 hF hG
  obtain ⟨ao, cap, rfl, hcap⟩ := wds_shape h
  obtain ⟨bo, cap2, rfl, hcap2⟩ := wds_shape h2
  have hs1 := RowM.short h
  have hs2 := RowM.short h2
  unfold maxLen at hs1 hs2
  by_cases hN : xs.length = ys.length
  · have HQ := Lib.hid (And.intro h h2)
    have HF := Lib.hid (And.intro hF hG)
    have KS := Lib.hid H
    obtain ⟨N, hM⟩ : ∃ N, N = xs.length := ⟨_, rfl⟩
    have hM2 : N = ys.length := by omega
    have HN := Lib.hid (And.intro hM.symm hM2.symm)
    rw [← hM] at hs1 hcap ⊢
    rw [← hM2] at hs2 hcap2 ⊢
    have h1 : ((N : Int) != (N : Int)) = false := by simp
    have hNb : (N : Int) ≤ 9223372036854775807 := by omega
    clear h h2 hN hM hM2 hs1 hs2 hF hG H
    go_enter Tryd.func29, Tryd.ntmps29
    go_wp2
    go_loopg [5] (N + 1) (fun k i wr => ∃ (j : Nat), i = .int .i64 j ∧ j ≤ N ∧ Hid (k = N + 1 - j) ∧ Hid (UpTo xs ys j) ∧ Hid (Below w.heap.size w wr))
    case atStart => exact ⟨0, rfl, by omega, rfl, fun q hq => by omega, Below.refl _ _⟩
    case round =>
      obtain ⟨j, rfl, hj, HK, HS, HB⟩ := hrel
      by_cases hlt : j < N
      · obtain ⟨x, hx⟩ := row_short HN.out.1 hlt
        obtain ⟨y, hy⟩ := row_short HN.out.2 hlt
        obtain ⟨g1, c1, xo, m1, p1, e, -, hg1, d1, hm1, hmp1, hx1⟩ := wd_at HQ.out.1 hx
        injection e with ee e2 e3
        subst ee
        clear e2 e3
        obtain ⟨g2, c2, yo, m2, p2, e, -, hg2, d2, hm2, hmp2, hy1⟩ := wd_at HQ.out.2 hy
        injection e with ee e2 e3
        subst ee
        clear e2 e3
        have ca := below_cellS HB.out hg1 d1
        have cb := below_cellS HB.out hg2 d2
        have hz1 := RowM.short hx1
        have hz2 := RowM.short hy1
        rw [← hm1] at hz1
        rw [← hm2] at hz2
        unfold maxLen at hz1 hz2
        have hI : IntKind.i64.wrap ((j : Int) + 1) = ((j + 1 : Nat) : Int) := by rw [IntWalk.i64_in _ (by omega)]; omega
        have HXY := Lib.hid (And.intro hx hy)
        have HX := Lib.hid (And.intro hx1 hy1)
        by_cases hmm : m1 = m2
        · subst hmm
          have hne : ((m1 : Int) != (m1 : Int)) = false := by simp
          have HM := Lib.hid (And.intro hm1.symm hm2.symm)
          have hmi : (m1 : Int) ≤ 9223372036854775807 := by omega
          have HG := Lib.hid (And.intro (And.intro hg1 hg2) (And.intro d1 d2))
          clear hx hy d1 d2 hz1 hz2 hm1 hm2 hx1 hy1
          go_wp2_with fail
          go_region
          all_goals
            have HBd := Lib.hid HB.out.drew
            go_wp2
            go_loopg [6] (m1 + 1) (fun k i wz => ∃ (q : Nat), i = .int .i64 q ∧ q ≤ m1 ∧ Hid (k = m1 + 1 - q) ∧ Hid (UpTo x y q) ∧ Hid (Below w.heap.size w wz))
            case atStart => exact ⟨0, rfl, by omega, rfl, fun q hq => by omega, HBd⟩
            case round =>
              obtain ⟨q, rfl, hq, HK2, HS2, HB2⟩ := hrel
              have ca := below_cellS HB2.out HG.out.1.1 HG.out.2.1
              have cb := below_cellS HB2.out HG.out.1.2 HG.out.2.2
              by_cases hlq : q < m1
              · obtain ⟨xp, hxp⟩ := row_short HM.out.1 hlq
                obtain ⟨yp, hyp⟩ := row_short HM.out.2 hlq
                obtain ⟨g3, c3, lo1, n1, r1, e, -, hg3, ⟨a0, a1, a2, a3, a4⟩, hn1, hnr1, hl1⟩ := pt_at HX.out.1 hxp
                injection e with ee e2 e3
                subst ee
                clear e2 e3
                obtain ⟨g4, c4, lo2, n2, r2, e, -, hg4, ⟨b0, b1, b2, b3, b4⟩, hn2, hnr2, hl2⟩ := pt_at HX.out.2 hyp
                injection e with ee e2 e3
                subst ee
                clear e2 e3
                have a0 := below_cellS HB2.out hg3 a0
                have a1 := below_cellS HB2.out hg3 a1
                have a2 := below_cellS HB2.out hg3 a2
                have a3 := below_cellS HB2.out hg3 a3
                have a4 := below_cellS HB2.out hg3 a4
                have KS2 := Lib.hid (fun (w1 : World) (hb : Below w.heap.size w w1) => KS.out (.slice lo1 n1 r1) (.slice lo2 n2 r2) xp.l yp.l F G w1 (val_below hl1 HF.out.1 hb) (val_below hl2 HF.out.2 hb) (fun g hg => Nat.lt_of_lt_of_le (HF.out.1 g hg) hb.size) (fun g hg => Nat.lt_of_lt_of_le (HF.out.2 g hg) hb.size))
                have hI2 : IntKind.i64.wrap ((q : Int) + 1) = ((q + 1 : Nat) : Int) := by rw [IntWalk.i64_in _ (by omega)]; omega
                have hqs := str_eqS xp.s yp.s
                have hqt := str_eqS xp.t yp.t
                have HP := Lib.hid (And.intro hxp hyp)
                have hE := pt_eq xp yp
                obtain ⟨xk, hxk⟩ : ∃ z, z = xp.k := ⟨_, rfl⟩
                obtain ⟨yk, hyk⟩ : ∃ z, z = yp.k := ⟨_, rfl⟩
                obtain ⟨xq, hxq⟩ : ∃ z, z = xp.q := ⟨_, rfl⟩
                obtain ⟨yq, hyq⟩ : ∃ z, z = yp.q := ⟨_, rfl⟩
                obtain ⟨XS, hXS⟩ : ∃ z : ByteArray, z = ⟨xp.s.toArray⟩ := ⟨_, rfl⟩
                obtain ⟨YS, hYS⟩ : ∃ z : ByteArray, z = ⟨yp.s.toArray⟩ := ⟨_, rfl⟩
                obtain ⟨XT, hXT⟩ : ∃ z : ByteArray, z = ⟨xp.t.toArray⟩ := ⟨_, rfl⟩
                obtain ⟨YT, hYT⟩ : ∃ z : ByteArray, z = ⟨yp.t.toArray⟩ := ⟨_, rfl⟩
                rw [← hxk] at a0 hE
                rw [← hyk] at b0 hE
                rw [← hxq] at a1 hE
                rw [← hyq] at b1 hE
                rw [← hXS, ← hYS] at hqs
                rw [← hXT, ← hYT] at hqt
                rw [← hXS] at a2
                rw [← hYS] at b2
                rw [← hXT] at a3
                rw [← hYT] at b3
                clear hxk hyk hxq hyq hXS hYS hXT hYT hl1 hl2 hn1 hn2 hxp hyp
                have A1 : Below w.heap.size w (wr.alloc (Obj.cells #[.int .i64 (xk : Int), .bool xq, .string XS, .string XT, .slice lo1 n1 r1] 38)) := HB2.out.alloc HB2.out.size _
                have cb := below_cellS A1 HG.out.1.2 HG.out.2.2
                have b0 := below_cellS A1 hg4 b0
                have b1 := below_cellS A1 hg4 b1
                have b2 := below_cellS A1 hg4 b2
                have b3 := below_cellS A1 hg4 b3
                have b4 := below_cellS A1 hg4 b4
                have A2 : Below w.heap.size w ((wr.alloc (Obj.cells #[.int .i64 (xk : Int), .bool xq, .string XS, .string XT, .slice lo1 n1 r1] 38)).alloc (Obj.cells #[.int .i64 (yk : Int), .bool yq, .string YS, .string YT, .slice lo2 n2 r2] 38)) := A1.alloc A1.size _
                have TWO := two_parts wr (.int .i64 (xk : Int)) (.bool xq) (.string XS) (.string XT) (.slice lo1 n1 r1) (.int .i64 (yk : Int)) (.bool yq) (.string YS) (.string YT) (.slice lo2 n2 r2)
                have LOW := Lib.hid (fun (hne : xp ≠ yp) => row_ne HXY.out.1 HXY.out.2 (fun e => hne (by have h1 := HP.out.1; have h2 := HP.out.2; rw [e, h2] at h1; exact (Option.some.inj h1).symm)))
                go_upto_region 13 with fail
                generalize (wr.alloc (Obj.cells #[.int .i64 (xk : Int), .bool xq, .string XS, .string XT, .slice lo1 n1 r1] 38)).alloc (Obj.cells #[.int .i64 (yk : Int), .bool yq, .string YS, .string YT, .slice lo2 n2 r2] 38) = W2 at A2 TWO ⊢
                obtain ⟨z2, x0, x1, x2, x3, x4, y0, y1, y2, y3, y4⟩ := TWO
                have A2H := Lib.hid A2
                have X4 := Lib.hid (fun (w5 : World) (hb : Below W2.heap.size W2 w5) => And.intro (below_cellS hb (by omega) x0) (And.intro (below_cellS hb (by omega) x1) (And.intro (below_cellS hb (by omega) x2) (below_cellS hb (by omega) x3))))
                have Y4 := Lib.hid (fun (w5 : World) (hb : Below W2.heap.size W2 w5) => And.intro (below_cellS hb (by omega) y0) (And.intro (below_cellS hb (by omega) y1) (And.intro (below_cellS hb (by omega) y2) (below_cellS hb (by omega) y3))))
                clear a0 a1 a2 a3 a4 b0 b1 b2 b3 b4 cb ca A1 A2 x0 x1 x2 x3 y0 y1 y2 y3
                have KS3 := KS2.out W2 A2H.out
                cases cL : eqB xp.l yp.l with
                | false =>
                  rw [cL] at KS3
                  have HD := Lib.hid (LOW.out fun e => (eqB_false.1 cL) (hE.1 e).1)
                  clear hE cL
                  go_wp2_with (go_at_call 15; (with_reducible refine KS3.mono ?_); rintro e w5 ⟨rfl, hb5⟩; obtain ⟨u0, u1, u2, u3⟩ := X4.out w5 hb5; obtain ⟨t0, t1, t2, t3⟩ := Y4.out w5 hb5; have H5 := Lib.hid (A2H.out.trans (hb5.mono A2H.out.size)); clear hb5)
                  exact bodyPost_ret (results_tmp rfl _ _ _) rfl ⟨by rw [HD.out]; rfl, H5.out⟩
                | true =>
                  rw [cL] at KS3
                  by_cases hk : xk = yk
                  · subst hk
                    have hk1 : ((xk : Int) != (xk : Int)) = false := by simp
                    by_cases hq' : xq = yq
                    · subst hq'
                      have hq1 : (xq != xq) = false := by simp
                      cases cS : eqB xp.s yp.s with
                      | false =>
                        rw [cS] at hqs
                        have HD := Lib.hid (LOW.out fun e => (eqB_false.1 cS) (hE.1 e).2.2.2.1)
                        clear hE cL cS
                        go_wp2_with (go_at_call 15; (with_reducible refine KS3.mono ?_); rintro e w5 ⟨rfl, hb5⟩; obtain ⟨u0, u1, u2, u3⟩ := X4.out w5 hb5; obtain ⟨t0, t1, t2, t3⟩ := Y4.out w5 hb5; have H5 := Lib.hid (A2H.out.trans (hb5.mono A2H.out.size)); clear hb5)
                        exact bodyPost_ret (results_tmp rfl _ _ _) rfl ⟨by rw [HD.out]; rfl, H5.out⟩
                      | true =>
                        rw [cS] at hqs
                        cases cT : eqB xp.t yp.t with
                        | false =>
                          rw [cT] at hqt
                          have HD := Lib.hid (LOW.out fun e => (eqB_false.1 cT) (hE.1 e).2.2.2.2)
                          clear hE cL cS cT
                          go_wp2_with (go_at_call 15; (with_reducible refine KS3.mono ?_); rintro e w5 ⟨rfl, hb5⟩; obtain ⟨u0, u1, u2, u3⟩ := X4.out w5 hb5; obtain ⟨t0, t1, t2, t3⟩ := Y4.out w5 hb5; have H5 := Lib.hid (A2H.out.trans (hb5.mono A2H.out.size)); clear hb5)
                          exact bodyPost_ret (results_tmp rfl _ _ _) rfl ⟨by rw [HD.out]; rfl, H5.out⟩
                        | true =>
                          rw [cT] at hqt
                          have HD := Lib.hid (hE.2 ⟨eqB_true.1 cL, rfl, rfl, eqB_true.1 cS, eqB_true.1 cT⟩)
                          clear hE cL cS cT
                          go_wp2_with (go_at_call 15; (with_reducible refine KS3.mono ?_); rintro e w5 ⟨rfl, hb5⟩; obtain ⟨u0, u1, u2, u3⟩ := X4.out w5 hb5; obtain ⟨t0, t1, t2, t3⟩ := Y4.out w5 hb5; have H5 := Lib.hid (A2H.out.trans (hb5.mono A2H.out.size)); clear hb5)
                          go_roundg (m1 - q)
                          case measure => have := HK2.out; omega
                          case rel => exact ⟨q + 1, by go_num, by omega, by show _ = _; omega, HS2.out.succ HP.out.1 HP.out.2 HD.out, H5⟩
                    · have hq1 : (xq != yq) = true := bool_ne xq yq hq'
                      have HD := Lib.hid (LOW.out fun e => hq' (hE.1 e).2.2.1)
                      clear hE cL
                      go_wp2_with (go_at_call 15; (with_reducible refine KS3.mono ?_); rintro e w5 ⟨rfl, hb5⟩; obtain ⟨u0, u1, u2, u3⟩ := X4.out w5 hb5; obtain ⟨t0, t1, t2, t3⟩ := Y4.out w5 hb5; have H5 := Lib.hid (A2H.out.trans (hb5.mono A2H.out.size)); clear hb5)
                      exact bodyPost_ret (results_tmp rfl _ _ _) rfl ⟨by rw [HD.out]; rfl, H5.out⟩
                  · have hk1 : ((xk : Int) != (yk : Int)) = true := by simp; omega
                    have HD := Lib.hid (LOW.out fun e => hk (hE.1 e).2.1)
                    clear hE cL
                    go_wp2_with (go_at_call 15; (with_reducible refine KS3.mono ?_); rintro e w5 ⟨rfl, hb5⟩; obtain ⟨u0, u1, u2, u3⟩ := X4.out w5 hb5; obtain ⟨t0, t1, t2, t3⟩ := Y4.out w5 hb5; have H5 := Lib.hid (A2H.out.trans (hb5.mono A2H.out.size)); clear hb5)
                    exact bodyPost_ret (results_tmp rfl _ _ _) rfl ⟨by rw [HD.out]; rfl, H5.out⟩
              · have hd2 : decide ((q : Int) < (m1 : Int)) = false := by simp; omega
                have HD := Lib.hid (row_eq HM.out.1 HM.out.2 fun p hp => HS2.out p (by omega))
                go_wp2
                go_roundg (N - j)
                case measure => have := HK.out; omega
                case rel => exact ⟨j + 1, by go_num, by omega, by show _ = _; omega, HS.out.succ HXY.out.1 HXY.out.2 HD.out, HB2⟩
        · have hne : ((m1 : Int) != (m2 : Int)) = true := by simp; omega
          have HD := Lib.hid (row_ne HXY.out.1 HXY.out.2 (fun e => hmm (by rw [hm1, hm2, e])))
          clear hx hy d1 d2 hz1 hz2 hm1 hm2 hx1 hy1
          go_wp2_with fail
          go_region
          all_goals
            go_wp2
            exact bodyPost_ret (results_tmp rfl _ _ _) rfl ⟨by rw [HD.out]; rfl, HB.out.drew⟩
      · have hd : decide ((j : Int) < (N : Int)) = false := by simp; omega
        have HD := Lib.hid (eqB_true.2 (row_eq HN.out.1 HN.out.2 fun q hq => HS.out q (by omega)))
        go_wp2
        exact bodyPost_ret (results_tmp rfl _ _ _) rfl ⟨by rw [HD.out]; rfl, HB.out⟩
  · rw [eqB_len hN]
    have h1 : ((xs.length : Int) != (ys.length : Int)) = true := by simp; omega
    clear h h2
    generalize xs.length = N at *
    generalize ys.length = M at *
    go_enter Tryd.func29, Tryd.ntmps29
    go_wp2
    exact bodyPost_ret (results_tmp rfl _ _ _) rfl ⟨rfl, Below.refl _ _⟩
end Go.Proofs.YtabkmimpkoiajaaDoor
