/- Packed texts: ShCount, ShCountR. What each of them proves stands above its theorems; the conditions stand in these. -/
import Derived.Deep.LoopGhost
import Derived.Deep.RegionHeld3
import Derived.Test.YtelfgobjnibooaaGreatDoorA1
import Derived.Test.YtelfgobjnibooaaGreatDoorA13
namespace Go.Proofs.YtelfgobjnibooaaGreatDoor
open Go.RowKit Go.Lib
def CntOk (n : Nat) : Prop := ∀ (v : Value) (cs : List Co) (F : Nat → Prop) (w : World), (cosV n).q F w v cs → (∀ g, F g → g < w.heap.size) → cntCs cs ≤ 1099511627776 →
 Calls Tryz.prog 9 #[v] w fun e w' => e = .returned (.int .i64 (cntCs cs : Nat)) ∧ Below w.heap.size w w'
def HeldOk (n : Nat) : Prop := ∀ (v : Value) (ws : List (List Pt)) (F : Nat → Prop) (w : World), (WdsV (cosV n)).q F w v ws → (∀ g, F g → g < w.heap.size) → cntWs ws ≤ 1099511627776 →
 Calls Tryz.prog 21 #[v] w fun e w' => e = .returned (.int .i64 (cntWs ws : Nat)) ∧ Below w.heap.size w w'
set_option maxHeartbeats 4000000 in
set_option maxRecDepth 20000 in
theorem held_any (n : Nat) (H : CntOk n) : HeldOk n := by
 intro v ws F w h hF hc
 obtain ⟨ao, cap, rfl, hcap⟩ := wds_shape h
 have HQ := Lib.hid (And.intro h (And.intro hF hc))
 have KC := Lib.hid H
 have hN : ∃ N, N = ws.length := ⟨_, rfl⟩
 obtain ⟨N, hN⟩ := hN
 have hNL := Lib.hid hN
 have hNb : (N : Int) ≤ 9223372036854775807 := by rw [hN]; have := RowM.short h; unfold maxLen at this; omega
 rw [← hN] at hcap ⊢
 clear h hF hc hN
 go_enter Tryz.func21, Tryz.ntmps21
 go_wp2
 go_loopg [3, 10] (N + 1) (fun k s i wr => ∃ (j : Nat), s = .int .i64 (cntWs (ws.take j) : Nat) ∧ i = .int .i64 j ∧ j ≤ N ∧ Hid (k = N + 1 - j) ∧ Hid (Below w.heap.size w wr))
 case atStart => exact ⟨0, rfl, rfl, by omega, rfl, Below.refl _ _⟩
 case round =>
  obtain ⟨j, rfl, rfl, hj, HK, HB⟩ := hrel
  by_cases hlt : j < N
  ·obtain ⟨x, hx⟩ : ∃ x, ws[j]? = some x := ⟨ws[j]'(by have := hNL.out; omega), List.getElem?_eq_getElem _⟩
   obtain ⟨g, c2, bo, m, cp, e, -, hg, c0, hm, hmc, hp⟩ := wd_at HQ.out.1 hx
   cases e
   have c0 := (World.cell?_of_block (HB.out.block g hg)).trans c0
   have hmb := RowM.short hp
   rw [← hm] at hmb
   have hmi : (m : Int) ≤ 9223372036854775807 := by unfold maxLen at hmb; omega
   have hT := cntW_take ws j x hx
   have hL := cntWs_le ws (j + 1)
   have hc := HQ.out.2.2
   obtain ⟨s0, hs0⟩ : ∃ s, s = cntWs (ws.take j) := ⟨_, rfl⟩
   rw [← hs0] at hT ⊢
   have HT := Lib.hid (And.intro hT (And.intro hL hc))
   have HX := Lib.hid (And.intro hp hm)
   have hgw : g < w.heap.size := hg
   clear hT hL hc hp hm hs0 hx hg
   have hbA : Below w.heap.size w (wr.alloc (Obj.cells #[Value.slice bo m cp] 40)) := HB.out.alloc HB.out.size _
   have HA := Lib.hid hbA
   clear hbA
   go_wp2
   go_loopg [3, 17] (m + 1) (fun k s i wz => ∃ (q : Nat), s = .int .i64 (s0 + cntPs (x.take q) : Nat) ∧ i = .int .i64 q ∧ q ≤ m ∧ Hid (k = m + 1 - q) ∧ Hid (Below w.heap.size w wz))
   case atStart => exact ⟨0, rfl, rfl, by omega, rfl, HA⟩
   case round =>
    obtain ⟨q, rfl, rfl, hq, HK2, HB2⟩ := hrel
    by_cases hlt2 : q < m
    ·obtain ⟨y, hy⟩ : ∃ y, x[q]? = some y := ⟨x[q]'(by have := HX.out.2; omega), List.getElem?_eq_getElem _⟩
     obtain ⟨g2, c3, lo, m3, cp3, e, -, hg2, ⟨d0, d1, d2, d3, d4⟩, hm3, hmc3, hl3⟩ := pt_at HX.out.1 hy
     injection e with ee e2 e3
     subst ee
     clear e2 e3
     have cel : ∀ i u, w.cell? ⟨g2, i, none⟩ = some u → wr.cell? ⟨g2, i, none⟩ = some u := fun i u h => (World.cell?_of_block (HB2.out.block g2 hg2)).trans h
     have e0 := cel _ _ d0
     have e1 := cel _ _ d1
     have e2 := cel _ _ d2
     have e3 := cel _ _ d3
     have e4 := cel _ _ d4
     have hT2 := cntP_take x q y hy
     have hL2 := cntPs_le x (q + 1)
     rw [cntP_eq] at hT2
     have hsum := HT.out
     obtain ⟨t0, ht0⟩ : ∃ t, t = cntPs (x.take q) := ⟨_, rfl⟩
     obtain ⟨t1, ht1⟩ : ∃ t, t = cntCs y.l := ⟨_, rfl⟩
     rw [← ht0, ← ht1] at hT2
     rw [← ht0]
     have KQ := Lib.hid (fun (w1 : World) (hb : Below w.heap.size w w1) => KC.out (.slice lo m3 cp3) y.l F w1 (val_below hl3 HQ.out.2.1 hb) (fun g hg => Nat.lt_of_lt_of_le (HQ.out.2.1 g hg) hb.size) (by omega))
     rw [← ht1] at KQ
     have hbA2 := Lib.hid (HB2.out.alloc HB2.out.size (Obj.cells #[.int .i64 (y.k : Int), .bool y.q, .string ⟨y.s.toArray⟩, .string ⟨y.t.toArray⟩, .slice lo m3 cp3] 42))
     have hsm : Hid (wrap64 ((s0 : Int) + (t0 : Int) + (t1 : Int)) = ((s0 + (t0 + t1) : Nat) : Int)) := (IntWalk.wrap64_in _ ⟨by omega, by omega⟩).trans (by omega)
     have hI2 : IntKind.i64.wrap ((q : Int) + 1) = ((q + 1 : Nat) : Int) := by rw [IntWalk.i64_in _ (by omega)]; omega
     have HT2 := Lib.hid hT2
     clear cel d0 d1 d2 d3 d4 hl3 hm3 hT2 hL2 hsum ht0 ht1 hy hg2
     generalize (⟨y.s.toArray⟩ : ByteArray) = ys at *
     generalize (⟨y.t.toArray⟩ : ByteArray) = yt at *
     go_wp2_with (go_at_call 9; (with_reducible refine (KQ.out _ hbA2.out).mono ?_); rintro e w5 ⟨rfl, hb5⟩)
     go_roundg (m - q)
     case measure => have := HK2.out; omega
     case rel => exact ⟨q + 1, by rw [HT2.out, ← hsm.out], by go_num, by omega, by show _ = _; omega, hbA2.out.trans (hb5.mono hbA2.out.size)⟩
    ·have hd2 : decide ((q : Int) < (m : Int)) = false := by simp; omega
     have he : q = m := by omega
     have hE : x.take q = x := by rw [he, HX.out.2]; exact List.take_of_length_le (Nat.le_refl _)
     rw [hE]
     clear he hE
     have hI : IntKind.i64.wrap ((j : Int) + 1) = ((j + 1 : Nat) : Int) := by rw [IntWalk.i64_in _ (by omega)]; omega
     go_wp2
     go_roundg (N - j)
     case measure => have := HK.out; omega
     case rel => exact ⟨j + 1, by rw [HT.out.1], by go_num, by omega, by show _ = _; omega, HB2⟩
  ·have hd : decide ((j : Int) < (N : Int)) = false := by simp; omega
   have he : j = N := by omega
   have hE : ws.take j = ws := by rw [he, hNL.out]; exact List.take_of_length_le (Nat.le_refl _)
   rw [hE]
   clear he hE
   go_wp2
   go_ret
   exact ⟨rfl, HB.out⟩
theorem below_cell {w w' : World} {g i : Nat} {u : Value} (hb : Below w.heap.size w w') (hg : g < w.heap.size) (h : w.cell? ⟨g, i, none⟩ = some u) : w'.cell? ⟨g, i, none⟩ = some u := (World.cell?_of_block (hb.block g hg)).trans h
def Five (b : Nat) (vv vw va vb vc : Value) (W : World) : Prop := W.cell? ⟨b, 2, none⟩ = some vv ∧ W.cell? ⟨b, 3, none⟩ = some vw ∧ W.cell? ⟨b, 4, none⟩ = some va ∧ W.cell? ⟨b, 5, none⟩ = some vb ∧ W.cell? ⟨b, 6, none⟩ = some vc
theorem five_new (w : World) (v0 v1 v2 v3 v4 v5 v6 : Value) : Five w.heap.size v2 v3 v4 v5 v6 (w.alloc (.cells #[v0, v1, v2, v3, v4, v5, v6] 37)) := by
 have h := heap_alloc_new w (.cells #[v0, v1, v2, v3, v4, v5, v6] 37)
 exact ⟨by rw [cell_of_heap h]; rfl, by rw [cell_of_heap h]; rfl, by rw [cell_of_heap h]; rfl, by rw [cell_of_heap h]; rfl, by rw [cell_of_heap h]; rfl⟩
theorem Five.on {b : Nat} {vv vw va vb vc : Value} {W W' : World} (h : Five b vv vw va vb vc W) (hb : Below W.heap.size W W') (hlt : b < W.heap.size) : Five b vv vw va vb vc W' :=
 ⟨below_cell hb hlt h.1, below_cell hb hlt h.2.1, below_cell hb hlt h.2.2.1, below_cell hb hlt h.2.2.2.1, below_cell hb hlt h.2.2.2.2⟩
set_option maxHeartbeats 8000000 in
set_option maxRecDepth 20000 in
theorem count_step (n : Nat) (H : CntOk n) : CntOk (n + 1) := by
 intro v cs F w h hF hc
 have HH := Lib.hid (held_any n H)
 obtain ⟨ao, cap, rfl, hcap⟩ := cos_shape h
 have HQ := Lib.hid (And.intro h (And.intro hF hc))
 have KC := Lib.hid H
 obtain ⟨N, hN⟩ : ∃ N, N = cs.length := ⟨_, rfl⟩
 have hNL := Lib.hid hN
 have hNb : (N : Int) ≤ 9223372036854775807 := by rw [hN]; have := cos_short h; unfold maxLen at this; omega
 rw [← hN] at hcap ⊢
 clear h hF hc hN H
 go_enter Tryz.func9, Tryz.ntmps9
 go_wp2
 go_loopg [3, 10] (N + 1) (fun k s i wr => ∃ (j : Nat), s = .int .i64 (N + cntCs (cs.take j) - j : Nat) ∧ i = .int .i64 j ∧ j ≤ N ∧ Hid (k = N + 1 - j) ∧ Hid (Below w.heap.size w wr))
 case atStart => exact ⟨0, by simp [cntCs], rfl, by omega, rfl, Below.refl _ _⟩
 case round =>
  obtain ⟨j, rfl, rfl, hj, HK, HB⟩ := hrel
  by_cases hlt : j < N
  ·obtain ⟨x, hx⟩ : ∃ x, cs[j]? = some x := ⟨cs[j]'(by have := hNL.out; omega), List.getElem?_eq_getElem _⟩
   obtain ⟨g, c2, an, nn, cn, av, nv, cv, aw, nw, cw, aa, na, ca, ab, nb, cb, ac, nc, cc, e, -, hg, ⟨d0, d1, d2, d3, d4, d5, d6⟩, -, -, -, -, -, -, q1, q2, q3, q4, q5, q6⟩ := cmd_at HQ.out.1 hx
   injection e with ee e2 e3
   subst ee
   clear e2 e3
   have e0 := below_cell HB.out hg d0
   have e1 := below_cell HB.out hg d1
   have e2 := below_cell HB.out hg d2
   have e3 := below_cell HB.out hg d3
   have e4 := below_cell HB.out hg d4
   have e5 := below_cell HB.out hg d5
   have e6 := below_cell HB.out hg d6
   have hT := cnt_take cs j x hx
   have hL := cntCs_le cs (j + 1)
   have hB1 := cnt_len cs j (by have := hNL.out; omega)
   have hB2 := cnt_len cs (j + 1) (by have := hNL.out; omega)
   rw [← hNL.out] at hB1 hB2
   rw [cntC_eq] at hT
   have hc := HQ.out.2.2
   obtain ⟨s0, hs0⟩ : ∃ s, s = cntCs (cs.take j) := ⟨_, rfl⟩
   obtain ⟨s1, hs1⟩ : ∃ s, s = cntCs (cs.take (j + 1)) := ⟨_, rfl⟩
   obtain ⟨tA, htA⟩ : ∃ t, t = cntCs x.a := ⟨_, rfl⟩
   obtain ⟨tB, htB⟩ : ∃ t, t = cntCs x.b := ⟨_, rfl⟩
   obtain ⟨tC, htC⟩ : ∃ t, t = cntCs x.c := ⟨_, rfl⟩
   obtain ⟨tV, htV⟩ : ∃ t, t = cntWs x.v := ⟨_, rfl⟩
   obtain ⟨tW, htW⟩ : ∃ t, t = cntWs x.w := ⟨_, rfl⟩
   rw [← hs0, ← hs1, ← htA, ← htB, ← htC, ← htV, ← htW] at hT
   rw [← hs0] at hB1 ⊢
   rw [← hs1] at hL hB2
   obtain ⟨S0, hS0⟩ : ∃ S0, S0 = N + s0 - j := ⟨_, rfl⟩
   obtain ⟨S1, hS1⟩ : ∃ S1, S1 = N + s1 - (j + 1) := ⟨_, rfl⟩
   rw [← hS0]
   have KA := Lib.hid (fun (w1 : World) (hb : Below w.heap.size w w1) => KC.out (.slice aa na ca) x.a F w1 (val_below q4 HQ.out.2.1 hb) (fun g hg => Nat.lt_of_lt_of_le (HQ.out.2.1 g hg) hb.size) (by omega))
   have KB := Lib.hid (fun (w1 : World) (hb : Below w.heap.size w w1) => KC.out (.slice ab nb cb) x.b F w1 (val_below q5 HQ.out.2.1 hb) (fun g hg => Nat.lt_of_lt_of_le (HQ.out.2.1 g hg) hb.size) (by omega))
   have KD := Lib.hid (fun (w1 : World) (hb : Below w.heap.size w w1) => KC.out (.slice ac nc cc) x.c F w1 (val_below q6 HQ.out.2.1 hb) (fun g hg => Nat.lt_of_lt_of_le (HQ.out.2.1 g hg) hb.size) (by omega))
   have KV := Lib.hid (fun (w1 : World) (hb : Below w.heap.size w w1) => HH.out (.slice av nv cv) x.v F w1 (val_below q2 HQ.out.2.1 hb) (fun g hg => Nat.lt_of_lt_of_le (HQ.out.2.1 g hg) hb.size) (by omega))
   have KW := Lib.hid (fun (w1 : World) (hb : Below w.heap.size w w1) => HH.out (.slice aw nw cw) x.w F w1 (val_below q3 HQ.out.2.1 hb) (fun g hg => Nat.lt_of_lt_of_le (HQ.out.2.1 g hg) hb.size) (by omega))
   rw [← htA] at KA
   rw [← htB] at KB
   rw [← htC] at KD
   rw [← htV] at KV
   rw [← htW] at KW
   have hsum := Lib.hid (show S0 + (tA + tB + tC + tV + tW) = S1 by omega)
   have hI : IntKind.i64.wrap ((j : Int) + 1) = ((j + 1 : Nat) : Int) := by rw [IntWalk.i64_in _ (by omega)]; omega
   have b0 : S0 + (tA + tB + tC + tV + tW) ≤ 1099511627776 := by omega
   clear d0 d1 d2 d3 d4 d5 d6 q1 q2 q3 q4 q5 q6 hT hL hB1 hB2 hc htA htB htC htV htW hx
   have HS1 := Lib.hid (And.intro hS1 hs1)
   clear hS0 hs0 hS1 hs1
   have hz := HB.out.size
   have F0 := five_new wr (.int .i64 (x.k : Int)) (.slice an nn cn) (.slice av nv cv) (.slice aw nw cw) (.slice aa na ca) (.slice ab nb cb) (.slice ac nc cc)
   have B0 := HB.out.alloc HB.out.size (Obj.cells #[.int .i64 (x.k : Int), .slice an nn cn, .slice av nv cv, .slice aw nw cw, .slice aa na ca, .slice ab nb cb, .slice ac nc cc] 37)
   go_wp2_with fail
   have hW0z : wr.heap.size < (wr.alloc (Obj.cells #[.int .i64 (x.k : Int), .slice an nn cn, .slice av nv cv, .slice aw nw cw, .slice aa na ca, .slice ab nb cb, .slice ac nc cc] 37)).heap.size := by simp
   generalize wr.alloc (Obj.cells #[.int .i64 (x.k : Int), .slice an nn cn, .slice av nv cv, .slice aw nw cw, .slice aa na ca, .slice ab nb cb, .slice ac nc cc] 37) = W0 at F0 B0 hW0z ⊢
   have SB := Lib.hid (fun (Z : World) (hb : Below W0.heap.size W0 Z) => (show Five wr.heap.size (.slice av nv cv) (.slice aw nw cw) (.slice aa na ca) (.slice ab nb cb) (.slice ac nc cc) Z from F0.on hb hW0z))
   have BB := Lib.hid (fun (Z : World) (hb : Below W0.heap.size W0 Z) => B0.trans (hb.mono B0.size))
   unfold Five at SB
   clear F0 B0 e0 e1 e2 e3 e4 e5 e6
   have W0D := Lib.hid (Below.refl W0.heap.size W0).drew
   go_region_held3 (fun Z => Z.cell? ⟨wr.heap.size, 2, none⟩ = some (.slice av nv cv) ∧ Z.cell? ⟨wr.heap.size, 3, none⟩ = some (.slice aw nw cw) ∧ Z.cell? ⟨wr.heap.size, 4, none⟩ = some (.slice aa na ca) ∧ Z.cell? ⟨wr.heap.size, 5, none⟩ = some (.slice ab nb cb) ∧ Z.cell? ⟨wr.heap.size, 6, none⟩ = some (.slice ac nc cc))
    (first | with_reducible exact SB.out _ W0D.out | with_reducible exact SB.out _ M7.out | with_reducible exact SB.out _ M6.out | with_reducible exact SB.out _ M5.out | with_reducible exact SB.out _ M4.out | with_reducible exact SB.out _ M3.out)
    (first
     | (go_at_call 9; first | ((with_reducible refine (KD.out _ (BB.out _ M4.out)).mono ?_); rintro e w5 ⟨rfl, hb⟩; have M5 : Hid (Below W0.heap.size W0 w5) := M4.out.trans (hb.mono M4.out.size); clear hb) | ((with_reducible refine (KB.out _ (BB.out _ M3.out)).mono ?_); rintro e w4 ⟨rfl, hb⟩; have M4 : Hid (Below W0.heap.size W0 w4) := M3.out.trans (hb.mono M3.out.size); clear hb) | ((with_reducible refine (KA.out _ (BB.out _ W0D.out)).mono ?_); rintro e w3 ⟨rfl, hb⟩; have M3 : Hid (Below W0.heap.size W0 w3) := W0D.out.trans (hb.mono W0D.out.size); clear hb))
     | (go_at_call 21; first | ((with_reducible refine (KW.out _ (BB.out _ M6.out)).mono ?_); rintro e w7 ⟨rfl, hb⟩; have M7 : Hid (Below W0.heap.size W0 w7) := M6.out.trans (hb.mono M6.out.size); clear hb) | ((with_reducible refine (KV.out _ (BB.out _ M5.out)).mono ?_); rintro e w6 ⟨rfl, hb⟩; have M6 : Hid (Below W0.heap.size W0 w6) := M5.out.trans (hb.mono M5.out.size); clear hb)))
   have x1 : IntKind.i64.wrap ((tA : Int) + (tB : Int)) = ((tA + tB : Nat) : Int) := by rw [IntWalk.i64_in _ (by omega)]; omega
   have x2 : IntKind.i64.wrap (((tA + tB : Nat) : Int) + (tC : Int)) = ((tA + tB + tC : Nat) : Int) := by rw [IntWalk.i64_in _ (by omega)]; omega
   have x3 : IntKind.i64.wrap (((tA + tB + tC : Nat) : Int) + (tV : Int)) = ((tA + tB + tC + tV : Nat) : Int) := by rw [IntWalk.i64_in _ (by omega)]; omega
   have x4 : IntKind.i64.wrap (((tA + tB + tC + tV : Nat) : Int) + (tW : Int)) = ((tA + tB + tC + tV + tW : Nat) : Int) := by rw [IntWalk.i64_in _ (by omega)]; omega
   have x5 : IntKind.i64.wrap ((S0 : Int) + ((tA + tB + tC + tV + tW : Nat) : Int)) = ((S1 : Nat) : Int) := by have := hsum.out; rw [IntWalk.i64_in _ (by omega)]; omega
   rw [x1, x2, x3, x4, x5]
   clear x1 x2 x3 x4 x5
   go_wp2
   go_roundg (N - j)
   case measure => have := HK.out; omega
   case rel => exact ⟨j + 1, by rw [← HS1.out.2, ← HS1.out.1], by go_num, by omega, by show _ = _; omega, BB.out _ M7.out⟩
  ·have hd : decide ((j : Int) < (N : Int)) = false := by simp; omega
   have he : j = N := by omega
   have hE : cs.take j = cs := by rw [he, hNL.out]; exact List.take_of_length_le (Nat.le_refl _)
   rw [hE]
   have hS : N + cntCs cs - j = cntCs cs := by omega
   rw [hS]
   clear he hE hS
   go_wp2
   go_ret
   exact ⟨rfl, HB.out⟩
set_option maxRecDepth 20000 in
theorem count_zero : CntOk 0 := by
 intro v cs F w h hF hc
 obtain ⟨rfl, rfl⟩ := h
 go_enter Tryz.func9, Tryz.ntmps9
 go_wp2
 go_loopg [3, 10] 1 (fun k s i wr => s = .int .i64 0 ∧ i = .int .i64 0 ∧ wr = w)
 case atStart => exact ⟨rfl, rfl, rfl⟩
 case round =>
  obtain ⟨rfl, rfl, rfl⟩ := hrel
  go_wp2
  go_ret
  exact ⟨rfl, Below.refl _ _⟩
theorem count_any : ∀ n, CntOk n
 | 0 => count_zero
 | n + 1 => count_step n (count_any n)
end Go.Proofs.YtelfgobjnibooaaGreatDoor
namespace Go.Proofs.YtelfgobjnibooaaGreatDoor
open Go.RowKit Go.Lib
def CntR (n : Nat) : Prop := ∀ (v : Value) (cs : List Co) (F : Nat → Prop) (w : World), (cosV n).q F w v cs → (∀ g, F g → g < w.heap.size) → cntCs cs ≤ 1099511627776 →
 Calls Tryz.prog 10 #[v] w fun e w' => e = .returned (.int .i64 (cntCs cs : Nat)) ∧ Below w.heap.size w w'
def WdsR (n : Nat) : Prop := ∀ (v : Value) (ws : List (List Pt)) (F : Nat → Prop) (w : World), (WdsV (cosV n)).q F w v ws → (∀ g, F g → g < w.heap.size) → cntWs ws ≤ 1099511627776 →
 Calls Tryz.prog 22 #[v] w fun e w' => e = .returned (.int .i64 (cntWs ws : Nat)) ∧ Below w.heap.size w w'
set_option maxHeartbeats 4000000 in
set_option maxRecDepth 20000 in
theorem wdsR_any (n : Nat) (H : CntR n) : WdsR n := by
 intro v ws F w h hF hc
 obtain ⟨ao, cap, rfl, hcap⟩ := wds_shape h
 have HQ := Lib.hid (And.intro h (And.intro hF hc))
 have KC := Lib.hid H
 have hN : ∃ N, N = ws.length := ⟨_, rfl⟩
 obtain ⟨N, hN⟩ := hN
 have hNL := Lib.hid hN
 have hNb : (N : Int) ≤ 9223372036854775807 := by rw [hN]; have := RowM.short h; unfold maxLen at this; omega
 rw [← hN] at hcap ⊢
 clear h hF hc hN
 go_enter Tryz.func22, Tryz.ntmps22
 go_wp2
 go_loopg [3, 4] (N + 1) (fun k s i wr => ∃ (j : Nat), s = .int .i64 (cntWs (ws.take j) : Nat) ∧ i = .int .i64 j ∧ j ≤ N ∧ Hid (k = N + 1 - j) ∧ Hid (Below w.heap.size w wr))
 case atStart => exact ⟨0, rfl, rfl, by omega, rfl, Below.refl _ _⟩
 case round =>
  obtain ⟨j, rfl, rfl, hj, HK, HB⟩ := hrel
  by_cases hlt : j < N
  ·obtain ⟨x, hx⟩ : ∃ x, ws[j]? = some x := ⟨ws[j]'(by have := hNL.out; omega), List.getElem?_eq_getElem _⟩
   obtain ⟨g, c2, bo, m, cp, e, -, hg, c0, hm, hmc, hp⟩ := wd_at HQ.out.1 hx
   injection e with ee e2 e3
   subst ee
   clear e2 e3
   have hmb := RowM.short hp
   rw [← hm] at hmb
   have hmi : (m : Int) ≤ 9223372036854775807 := by unfold maxLen at hmb; omega
   have hT := cntW_take ws j x hx
   have hL := cntWs_le ws (j + 1)
   have hc := HQ.out.2.2
   obtain ⟨s0, hs0⟩ : ∃ s, s = cntWs (ws.take j) := ⟨_, rfl⟩
   rw [← hs0] at hT ⊢
   have HT := Lib.hid (And.intro hT (And.intro hL hc))
   have HX := Lib.hid (And.intro hp hm)
   have C0 := Lib.hid (fun (z : World) (hb : Below w.heap.size w z) => below_cellS hb hg c0)
   have hI : IntKind.i64.wrap ((j : Int) + 1) = ((j + 1 : Nat) : Int) := by rw [IntWalk.i64_in _ (by omega)]; omega
   clear hT hL hc hp hm hs0 hx hg c0
   go_wp2
   go_loopg [3, 5] (m + 1) (fun k s i wz => ∃ (q : Nat), s = .int .i64 (s0 + cntPs (x.take q) : Nat) ∧ i = .int .i64 q ∧ q ≤ m ∧ Hid (k = m + 1 - q) ∧ Hid (Below w.heap.size w wz))
   case atStart => exact ⟨0, rfl, rfl, by omega, rfl, HB⟩
   case round =>
    obtain ⟨q, rfl, rfl, hq, HK2, HB2⟩ := hrel
    have c0 := C0.out _ HB2.out
    by_cases hlt2 : q < m
    ·obtain ⟨y, hy⟩ : ∃ y, x[q]? = some y := ⟨x[q]'(by have := HX.out.2; omega), List.getElem?_eq_getElem _⟩
     obtain ⟨g2, c3, lo, m3, cp3, e, -, hg2, ⟨d0, d1, d2, d3, d4⟩, hm3, hmc3, hl3⟩ := pt_at HX.out.1 hy
     injection e with ee e2 e3
     subst ee
     clear e2 e3
     have e4 := below_cellS HB2.out hg2 d4
     have hT2 := cntP_take x q y hy
     have hL2 := cntPs_le x (q + 1)
     rw [cntP_eq] at hT2
     have hsum := HT.out
     obtain ⟨t0, ht0⟩ : ∃ t, t = cntPs (x.take q) := ⟨_, rfl⟩
     obtain ⟨t1, ht1⟩ : ∃ t, t = cntCs y.l := ⟨_, rfl⟩
     rw [← ht0, ← ht1] at hT2
     rw [← ht0]
     have KQ := KC.out (.slice lo m3 cp3) y.l F _ (val_below hl3 HQ.out.2.1 HB2.out) (fun g hg => Nat.lt_of_lt_of_le (HQ.out.2.1 g hg) HB2.out.size) (by omega)
     rw [← ht1] at KQ
     have hsm : Hid (wrap64 ((s0 : Int) + (t0 : Int) + (t1 : Int)) = ((s0 + (t0 + t1) : Nat) : Int)) := (IntWalk.wrap64_in _ ⟨by omega, by omega⟩).trans (by omega)
     have hI2 : IntKind.i64.wrap ((q : Int) + 1) = ((q + 1 : Nat) : Int) := by rw [IntWalk.i64_in _ (by omega)]; omega
     have HT2 := Lib.hid hT2
     clear d0 d1 d2 d3 d4 hl3 hm3 hT2 hL2 hsum ht0 ht1 hy hg2
     go_wp2_with (go_at_call 10; (with_reducible refine KQ.mono ?_); rintro e w5 ⟨rfl, hb5⟩; have F5 := Lib.hid (HB2.out.trans (hb5.mono HB2.out.size)); clear hb5 KQ)
     go_roundg (m - q)
     case measure => have := HK2.out; omega
     case rel => exact ⟨q + 1, by rw [HT2.out, ← hsm.out], by go_num, by omega, by show _ = _; omega, F5⟩
    ·have hd2 : decide ((q : Int) < (m : Int)) = false := by simp; omega
     have he : q = m := by omega
     have hE : x.take q = x := by rw [he, HX.out.2]; exact List.take_of_length_le (Nat.le_refl _)
     rw [hE]
     clear he hE
     go_wp2
     go_roundg (N - j)
     case measure => have := HK.out; omega
     case rel => exact ⟨j + 1, by rw [HT.out.1], by go_num, by omega, by show _ = _; omega, HB2⟩
  ·have hd : decide ((j : Int) < (N : Int)) = false := by simp; omega
   have he : j = N := by omega
   have hE : ws.take j = ws := by rw [he, hNL.out]; exact List.take_of_length_le (Nat.le_refl _)
   rw [hE]
   clear he hE
   go_wp2
   go_ret
   exact ⟨rfl, HB.out⟩
set_option maxHeartbeats 8000000 in
set_option maxRecDepth 20000 in
theorem countR_step (n : Nat) (H : CntR n) : CntR (n + 1) := by
 intro v cs F w h hF hc
 have HH := Lib.hid (wdsR_any n H)
 obtain ⟨ao, cap, rfl, hcap⟩ := cos_shape h
 have HQ := Lib.hid (And.intro h (And.intro hF hc))
 have KC := Lib.hid H
 obtain ⟨N, hN⟩ : ∃ N, N = cs.length := ⟨_, rfl⟩
 have hNL := Lib.hid hN
 have hNb : (N : Int) ≤ 9223372036854775807 := by rw [hN]; have := cos_short h; unfold maxLen at this; omega
 rw [← hN] at hcap ⊢
 clear h hF hc hN H
 go_enter Tryz.func10, Tryz.ntmps10
 go_wp2
 go_loopg [3, 4] (N + 1) (fun k s i wr => ∃ (j : Nat), s = .int .i64 (N + cntCs (cs.take j) - j : Nat) ∧ i = .int .i64 j ∧ j ≤ N ∧ Hid (k = N + 1 - j) ∧ Hid (Below w.heap.size w wr))
 case atStart => exact ⟨0, by simp [cntCs], rfl, by omega, rfl, Below.refl _ _⟩
 case round =>
  obtain ⟨j, rfl, rfl, hj, HK, HB⟩ := hrel
  by_cases hlt : j < N
  ·obtain ⟨x, hx⟩ : ∃ x, cs[j]? = some x := ⟨cs[j]'(by have := hNL.out; omega), List.getElem?_eq_getElem _⟩
   obtain ⟨g, c2, an, nn, cn, av, nv, cv, aw, nw, cw, aa, na, ca, ab, nb, cb, ac, nc, cc, e, -, hg, ⟨d0, d1, d2, d3, d4, d5, d6⟩, -, -, -, -, -, -, q1, q2, q3, q4, q5, q6⟩ := cmd_at HQ.out.1 hx
   injection e with ee e2 e3
   subst ee
   clear e2 e3
   have hT := cnt_take cs j x hx
   have hL := cntCs_le cs (j + 1)
   have hB1 := cnt_len cs j (by have := hNL.out; omega)
   have hB2 := cnt_len cs (j + 1) (by have := hNL.out; omega)
   rw [← hNL.out] at hB1 hB2
   rw [cntC_eq] at hT
   have hc := HQ.out.2.2
   obtain ⟨s0, hs0⟩ : ∃ s, s = cntCs (cs.take j) := ⟨_, rfl⟩
   obtain ⟨s1, hs1⟩ : ∃ s, s = cntCs (cs.take (j + 1)) := ⟨_, rfl⟩
   obtain ⟨tA, htA⟩ : ∃ t, t = cntCs x.a := ⟨_, rfl⟩
   obtain ⟨tB, htB⟩ : ∃ t, t = cntCs x.b := ⟨_, rfl⟩
   obtain ⟨tC, htC⟩ : ∃ t, t = cntCs x.c := ⟨_, rfl⟩
   obtain ⟨tV, htV⟩ : ∃ t, t = cntWs x.v := ⟨_, rfl⟩
   obtain ⟨tW, htW⟩ : ∃ t, t = cntWs x.w := ⟨_, rfl⟩
   rw [← hs0, ← hs1, ← htA, ← htB, ← htC, ← htV, ← htW] at hT
   rw [← hs0] at hB1 ⊢
   rw [← hs1] at hL hB2
   obtain ⟨S0, hS0⟩ : ∃ S0, S0 = N + s0 - j := ⟨_, rfl⟩
   obtain ⟨S1, hS1⟩ : ∃ S1, S1 = N + s1 - (j + 1) := ⟨_, rfl⟩
   rw [← hS0]
   have KA := Lib.hid (fun (w1 : World) (hb : Below w.heap.size w w1) => KC.out (.slice aa na ca) x.a F w1 (val_below q4 HQ.out.2.1 hb) (fun g hg => Nat.lt_of_lt_of_le (HQ.out.2.1 g hg) hb.size) (by omega))
   have KB := Lib.hid (fun (w1 : World) (hb : Below w.heap.size w w1) => KC.out (.slice ab nb cb) x.b F w1 (val_below q5 HQ.out.2.1 hb) (fun g hg => Nat.lt_of_lt_of_le (HQ.out.2.1 g hg) hb.size) (by omega))
   have KD := Lib.hid (fun (w1 : World) (hb : Below w.heap.size w w1) => KC.out (.slice ac nc cc) x.c F w1 (val_below q6 HQ.out.2.1 hb) (fun g hg => Nat.lt_of_lt_of_le (HQ.out.2.1 g hg) hb.size) (by omega))
   have KV := Lib.hid (fun (w1 : World) (hb : Below w.heap.size w w1) => HH.out (.slice av nv cv) x.v F w1 (val_below q2 HQ.out.2.1 hb) (fun g hg => Nat.lt_of_lt_of_le (HQ.out.2.1 g hg) hb.size) (by omega))
   have KW := Lib.hid (fun (w1 : World) (hb : Below w.heap.size w w1) => HH.out (.slice aw nw cw) x.w F w1 (val_below q3 HQ.out.2.1 hb) (fun g hg => Nat.lt_of_lt_of_le (HQ.out.2.1 g hg) hb.size) (by omega))
   rw [← htA] at KA
   rw [← htB] at KB
   rw [← htC] at KD
   rw [← htV] at KV
   rw [← htW] at KW
   have hsum := Lib.hid (show S0 + (tA + tB + tC + tV + tW) = S1 by omega)
   have hI : IntKind.i64.wrap ((j : Int) + 1) = ((j + 1 : Nat) : Int) := by rw [IntWalk.i64_in _ (by omega)]; omega
   have b0 : S0 + (tA + tB + tC + tV + tW) ≤ 1099511627776 := by omega
   have SB := Lib.hid (fun (Z : World) (hb : Below w.heap.size w Z) => And.intro (below_cellS hb hg d2) (And.intro (below_cellS hb hg d3) (And.intro (below_cellS hb hg d4) (And.intro (below_cellS hb hg d5) (below_cellS hb hg d6)))))
   clear d0 d1 d2 d3 d4 d5 d6 q1 q2 q3 q4 q5 q6 hT hL hB1 hB2 hc htA htB htC htV htW hx hg
   have HS1 := Lib.hid (And.intro hS1 hs1)
   clear hS0 hs0 hS1 hs1
   go_wp2_with fail
   have W0D := Lib.hid HB.out.drew
   go_region_held3 (fun Z => Z.cell? ⟨g, j * 7 + 2, none⟩ = some (.slice av nv cv) ∧ Z.cell? ⟨g, j * 7 + 3, none⟩ = some (.slice aw nw cw) ∧ Z.cell? ⟨g, j * 7 + 4, none⟩ = some (.slice aa na ca) ∧ Z.cell? ⟨g, j * 7 + 5, none⟩ = some (.slice ab nb cb) ∧ Z.cell? ⟨g, j * 7 + 6, none⟩ = some (.slice ac nc cc))
    (first | with_reducible exact SB.out _ W0D.out | with_reducible exact SB.out _ M7.out | with_reducible exact SB.out _ M6.out | with_reducible exact SB.out _ M5.out | with_reducible exact SB.out _ M4.out | with_reducible exact SB.out _ M3.out)
    (first
     | (go_at_call 10; first | ((with_reducible refine (KD.out _ M4.out).mono ?_); rintro e w5 ⟨rfl, hb⟩; have M5 : Hid (Below w.heap.size w w5) := M4.out.trans (hb.mono M4.out.size); clear hb) | ((with_reducible refine (KB.out _ M3.out).mono ?_); rintro e w4 ⟨rfl, hb⟩; have M4 : Hid (Below w.heap.size w w4) := M3.out.trans (hb.mono M3.out.size); clear hb) | ((with_reducible refine (KA.out _ W0D.out).mono ?_); rintro e w3 ⟨rfl, hb⟩; have M3 : Hid (Below w.heap.size w w3) := W0D.out.trans (hb.mono W0D.out.size); clear hb))
     | (go_at_call 22; first | ((with_reducible refine (KW.out _ M6.out).mono ?_); rintro e w7 ⟨rfl, hb⟩; have M7 : Hid (Below w.heap.size w w7) := M6.out.trans (hb.mono M6.out.size); clear hb) | ((with_reducible refine (KV.out _ M5.out).mono ?_); rintro e w6 ⟨rfl, hb⟩; have M6 : Hid (Below w.heap.size w w6) := M5.out.trans (hb.mono M5.out.size); clear hb)))
   have x1 : IntKind.i64.wrap ((S0 : Int) + (tA : Int)) = ((S0 + tA : Nat) : Int) := by rw [IntWalk.i64_in _ (by omega)]; omega
   have x2 : IntKind.i64.wrap (((S0 + tA : Nat) : Int) + (tB : Int)) = ((S0 + tA + tB : Nat) : Int) := by rw [IntWalk.i64_in _ (by omega)]; omega
   have x3 : IntKind.i64.wrap (((S0 + tA + tB : Nat) : Int) + (tC : Int)) = ((S0 + tA + tB + tC : Nat) : Int) := by rw [IntWalk.i64_in _ (by omega)]; omega
   have x4 : IntKind.i64.wrap (((S0 + tA + tB + tC : Nat) : Int) + (tV : Int)) = ((S0 + tA + tB + tC + tV : Nat) : Int) := by rw [IntWalk.i64_in _ (by omega)]; omega
   have x5 : IntKind.i64.wrap (((S0 + tA + tB + tC + tV : Nat) : Int) + (tW : Int)) = ((S1 : Nat) : Int) := by have := hsum.out; rw [IntWalk.i64_in _ (by omega)]; omega
   rw [x1, x2, x3, x4, x5]
   clear x1 x2 x3 x4 x5
   go_wp2
   go_roundg (N - j)
   case measure => have := HK.out; omega
   case rel => exact ⟨j + 1, by rw [← HS1.out.2, ← HS1.out.1], by go_num, by omega, by show _ = _; omega, M7⟩
  ·have hd : decide ((j : Int) < (N : Int)) = false := by simp; omega
   have he : j = N := by omega
   have hE : cs.take j = cs := by rw [he, hNL.out]; exact List.take_of_length_le (Nat.le_refl _)
   rw [hE]
   have hS : N + cntCs cs - j = cntCs cs := by omega
   rw [hS]
   clear he hE hS
   go_wp2
   go_ret
   exact ⟨rfl, HB.out⟩
set_option maxRecDepth 20000 in
theorem countR_zero : CntR 0 := by
 intro v cs F w h hF hc
 obtain ⟨rfl, rfl⟩ := h
 go_enter Tryz.func10, Tryz.ntmps10
 go_wp2
 go_loopg [3, 4] 1 (fun k s i wr => s = .int .i64 0 ∧ i = .int .i64 0 ∧ wr = w)
 case atStart => exact ⟨rfl, rfl, rfl⟩
 case round =>
  obtain ⟨rfl, rfl, rfl⟩ := hrel
  go_wp2
  go_ret
  exact ⟨rfl, Below.refl _ _⟩
theorem countR_any : ∀ n, CntR n
 | 0 => countR_zero
 | n + 1 => countR_step n (countR_any n)
end Go.Proofs.YtelfgobjnibooaaGreatDoor
