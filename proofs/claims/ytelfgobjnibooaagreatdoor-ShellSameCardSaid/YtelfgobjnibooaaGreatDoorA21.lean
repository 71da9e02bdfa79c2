/- Packed texts: ShSame2, ShEqG. What each of them proves stands above its theorems; the conditions stand in these. -/
import Derived.Test.YtelfgobjnibooaaGreatDoorA20
namespace Go.Proofs.YtelfgobjnibooaaGreatDoor
open Go.RowKit Go.Lib
theorem two_cmds (w : World) (a0 a1 a2 a3 a4 a5 a6 b0 b1 b2 b3 b4 b5 b6 : Value) : ((w.alloc (.cells #[a0, a1, a2, a3, a4, a5, a6] 37)).alloc (.cells #[b0, b1, b2, b3, b4, b5, b6] 37)).heap.size = w.heap.size + 2 ∧
  (((w.alloc (.cells #[a0, a1, a2, a3, a4, a5, a6] 37)).alloc (.cells #[b0, b1, b2, b3, b4, b5, b6] 37)).cell? ⟨w.heap.size, 0, none⟩ = some a0 ∧ ((w.alloc (.cells #[a0, a1, a2, a3, a4, a5, a6] 37)).alloc (.cells #[b0, b1, b2, b3, b4, b5, b6] 37)).cell? ⟨w.heap.size, 1, none⟩ = some a1 ∧ ((w.alloc (.cells #[a0, a1, a2, a3, a4, a5, a6] 37)).alloc (.cells #[b0, b1, b2, b3, b4, b5, b6] 37)).cell? ⟨w.heap.size, 2, none⟩ = some a2 ∧ ((w.alloc (.cells #[a0, a1, a2, a3, a4, a5, a6] 37)).alloc (.cells #[b0, b1, b2, b3, b4, b5, b6] 37)).cell? ⟨w.heap.size, 3, none⟩ = some a3 ∧ ((w.alloc (.cells #[a0, a1, a2, a3, a4, a5, a6] 37)).alloc (.cells #[b0, b1, b2, b3, b4, b5, b6] 37)).cell? ⟨w.heap.size, 4, none⟩ = some a4 ∧ ((w.alloc (.cells #[a0, a1, a2, a3, a4, a5, a6] 37)).alloc (.cells #[b0, b1, b2, b3, b4, b5, b6] 37)).cell? ⟨w.heap.size, 5, none⟩ = some a5 ∧ ((w.alloc (.cells #[a0, a1, a2, a3, a4, a5, a6] 37)).alloc (.cells #[b0, b1, b2, b3, b4, b5, b6] 37)).cell? ⟨w.heap.size, 6, none⟩ = some a6) ∧
  (((w.alloc (.cells #[a0, a1, a2, a3, a4, a5, a6] 37)).alloc (.cells #[b0, b1, b2, b3, b4, b5, b6] 37)).cell? ⟨w.heap.size + 1, 0, none⟩ = some b0 ∧ ((w.alloc (.cells #[a0, a1, a2, a3, a4, a5, a6] 37)).alloc (.cells #[b0, b1, b2, b3, b4, b5, b6] 37)).cell? ⟨w.heap.size + 1, 1, none⟩ = some b1 ∧ ((w.alloc (.cells #[a0, a1, a2, a3, a4, a5, a6] 37)).alloc (.cells #[b0, b1, b2, b3, b4, b5, b6] 37)).cell? ⟨w.heap.size + 1, 2, none⟩ = some b2 ∧ ((w.alloc (.cells #[a0, a1, a2, a3, a4, a5, a6] 37)).alloc (.cells #[b0, b1, b2, b3, b4, b5, b6] 37)).cell? ⟨w.heap.size + 1, 3, none⟩ = some b3 ∧ ((w.alloc (.cells #[a0, a1, a2, a3, a4, a5, a6] 37)).alloc (.cells #[b0, b1, b2, b3, b4, b5, b6] 37)).cell? ⟨w.heap.size + 1, 4, none⟩ = some b4 ∧ ((w.alloc (.cells #[a0, a1, a2, a3, a4, a5, a6] 37)).alloc (.cells #[b0, b1, b2, b3, b4, b5, b6] 37)).cell? ⟨w.heap.size + 1, 5, none⟩ = some b5 ∧ ((w.alloc (.cells #[a0, a1, a2, a3, a4, a5, a6] 37)).alloc (.cells #[b0, b1, b2, b3, b4, b5, b6] 37)).cell? ⟨w.heap.size + 1, 6, none⟩ = some b6) := by
 have main : ∀ O1 O2 : Obj, ((w.alloc O1).alloc O2).heap.size = w.heap.size + 2 ∧ ((w.alloc O1).alloc O2).heap[w.heap.size]? = some O1 ∧ ((w.alloc O1).alloc O2).heap[w.heap.size + 1]? = some O2 := fun O1 O2 => by
  have z1 : (w.alloc O1).heap.size = w.heap.size + 1 := by simp
  have h1 := heap_alloc_new w O1
  have h2 := heap_alloc_new (w.alloc O1) O2
  rw [z1] at h2
  refine ⟨by simp, ?_, h2⟩
  rw [Below.heap_alloc _ _ _ (by omega)]; exact h1
 obtain ⟨z, h1, h2⟩ := main (.cells #[a0, a1, a2, a3, a4, a5, a6] 37) (.cells #[b0, b1, b2, b3, b4, b5, b6] 37)
 exact ⟨z, ⟨by rw [cell_of_heap h1]; rfl, by rw [cell_of_heap h1]; rfl, by rw [cell_of_heap h1]; rfl, by rw [cell_of_heap h1]; rfl, by rw [cell_of_heap h1]; rfl, by rw [cell_of_heap h1]; rfl, by rw [cell_of_heap h1]; rfl⟩, ⟨by rw [cell_of_heap h2]; rfl, by rw [cell_of_heap h2]; rfl, by rw [cell_of_heap h2]; rfl, by rw [cell_of_heap h2]; rfl, by rw [cell_of_heap h2]; rfl, by rw [cell_of_heap h2]; rfl, by rw [cell_of_heap h2]; rfl⟩⟩
set_option maxHeartbeats 8000000 in
set_option maxRecDepth 20000 in
theorem same_step (n : Nat) (H : SamOk n) : SamOk (n + 1) := by
 intro u v xs ys F G w h h2 hF hG
 have HH := Lib.hid (sameWs_any n H)
 obtain ⟨ao, cap, rfl, hcap⟩ := cos_shape h
 obtain ⟨bo, cap2, rfl, hcap2⟩ := cos_shape h2
 have hs1 := cos_short h
 have hs2 := cos_short h2
 unfold maxLen at hs1 hs2
 by_cases hN : xs.length = ys.length
 ·have HQ := Lib.hid (And.intro h h2)
  have HF := Lib.hid (And.intro hF hG)
  have KS := Lib.hid H
  obtain ⟨N, hM⟩ : ∃ N, N = xs.length := ⟨_, rfl⟩
  have hM2 : N = ys.length := by omega
  have HN := Lib.hid (And.intro hM.symm hM2.symm)
  rw [← hM] at hs1 hcap ⊢
  rw [← hM2] at hs2 hcap2 ⊢
  have h1 : ((N : Int) != (N : Int)) = false := by simp
  have hNb : (N : Int) ≤ 9223372036854775807 := by omega
  clear h h2 hN hM hM2 hs1 hs2 hF hG H
  go_enter Tryz.func8, Tryz.ntmps8
  go_wp2
  go_loopg [5] (N + 1) (fun k i wr => ∃ (j : Nat), i = .int .i64 j ∧ j ≤ N ∧ Hid (k = N + 1 - j) ∧ Hid (UpTo xs ys j) ∧ Hid (Below w.heap.size w wr))
  case atStart => exact ⟨0, rfl, by omega, rfl, fun q hq => by omega, Below.refl _ _⟩
  case round =>
   obtain ⟨j, rfl, hj, HK, HS, HB⟩ := hrel
   by_cases hlt : j < N
   ·obtain ⟨x, hx⟩ := row_short HN.out.1 hlt
    obtain ⟨y, hy⟩ := row_short HN.out.2 hlt
    obtain ⟨g1, c1, an, nn, cn, av, nv, cv, aw, nw, cw, aa, na, ca, ab, nb, cb, ac, nc, cc, e, -, hg1, ⟨a0, a1, a2, a3, a4, a5, a6⟩, -, -, -, -, -, -, q1, q2, q3, q4, q5, q6⟩ := cmd_at HQ.out.1 hx
    injection e with ee e2 e3
    subst ee
    clear e2 e3
    obtain ⟨g2, c2, bn, mn, dn, bv, mv, dv, bw, mw, dw, ba, ma, da, bb, mb, db, bc, mc, dc, e, -, hg2, ⟨b0, b1, b2, b3, b4, b5, b6⟩, -, -, -, -, -, -, r1, r2, r3, r4, r5, r6⟩ := cmd_at HQ.out.2 hy
    injection e with ee e2 e3
    subst ee
    clear e2 e3
    have a0 := below_cellS HB.out hg1 a0
    have a1 := below_cellS HB.out hg1 a1
    have a2 := below_cellS HB.out hg1 a2
    have a3 := below_cellS HB.out hg1 a3
    have a4 := below_cellS HB.out hg1 a4
    have a5 := below_cellS HB.out hg1 a5
    have a6 := below_cellS HB.out hg1 a6
    have hI : IntKind.i64.wrap ((j : Int) + 1) = ((j + 1 : Nat) : Int) := by rw [IntWalk.i64_in _ (by omega)]; omega
    have HXY := Lib.hid (And.intro hx hy)
    have hE := Lib.hid (co_eq x y)
    have LOW := Lib.hid (fun (hne : x ≠ y) => row_ne hx hy hne)
    have KN := Lib.hid (fun (w1 : World) (hb : Below w.heap.size w w1) => sameN_any (.slice an nn cn) (.slice bn mn dn) x.n y.n F G w1 (val_below q1 HF.out.1 hb) (val_below r1 HF.out.2 hb))
    have KV := Lib.hid (fun (w1 : World) (hb : Below w.heap.size w w1) => HH.out (.slice av nv cv) (.slice bv mv dv) x.v y.v F G w1 (val_below q2 HF.out.1 hb) (val_below r2 HF.out.2 hb) (fun g hg => Nat.lt_of_lt_of_le (HF.out.1 g hg) hb.size) (fun g hg => Nat.lt_of_lt_of_le (HF.out.2 g hg) hb.size))
    have KW := Lib.hid (fun (w1 : World) (hb : Below w.heap.size w w1) => HH.out (.slice aw nw cw) (.slice bw mw dw) x.w y.w F G w1 (val_below q3 HF.out.1 hb) (val_below r3 HF.out.2 hb) (fun g hg => Nat.lt_of_lt_of_le (HF.out.1 g hg) hb.size) (fun g hg => Nat.lt_of_lt_of_le (HF.out.2 g hg) hb.size))
    have KA := Lib.hid (fun (w1 : World) (hb : Below w.heap.size w w1) => KS.out (.slice aa na ca) (.slice ba ma da) x.a y.a F G w1 (val_below q4 HF.out.1 hb) (val_below r4 HF.out.2 hb) (fun g hg => Nat.lt_of_lt_of_le (HF.out.1 g hg) hb.size) (fun g hg => Nat.lt_of_lt_of_le (HF.out.2 g hg) hb.size))
    have KB := Lib.hid (fun (w1 : World) (hb : Below w.heap.size w w1) => KS.out (.slice ab nb cb) (.slice bb mb db) x.b y.b F G w1 (val_below q5 HF.out.1 hb) (val_below r5 HF.out.2 hb) (fun g hg => Nat.lt_of_lt_of_le (HF.out.1 g hg) hb.size) (fun g hg => Nat.lt_of_lt_of_le (HF.out.2 g hg) hb.size))
    have KC := Lib.hid (fun (w1 : World) (hb : Below w.heap.size w w1) => KS.out (.slice ac nc cc) (.slice bc mc dc) x.c y.c F G w1 (val_below q6 HF.out.1 hb) (val_below r6 HF.out.2 hb) (fun g hg => Nat.lt_of_lt_of_le (HF.out.1 g hg) hb.size) (fun g hg => Nat.lt_of_lt_of_le (HF.out.2 g hg) hb.size))
    obtain ⟨bN, hbN⟩ : ∃ z, z = eqB x.n y.n := ⟨_, rfl⟩
    obtain ⟨bV, hbV⟩ : ∃ z, z = eqB x.v y.v := ⟨_, rfl⟩
    obtain ⟨bW, hbW⟩ : ∃ z, z = eqB x.w y.w := ⟨_, rfl⟩
    obtain ⟨bA, hbA⟩ : ∃ z, z = eqB x.a y.a := ⟨_, rfl⟩
    obtain ⟨bB, hbB⟩ : ∃ z, z = eqB x.b y.b := ⟨_, rfl⟩
    obtain ⟨bC, hbC⟩ : ∃ z, z = eqB x.c y.c := ⟨_, rfl⟩
    rw [← hbN] at KN
    rw [← hbV] at KV
    rw [← hbW] at KW
    rw [← hbA] at KA
    rw [← hbB] at KB
    rw [← hbC] at KC
    have HBS := Lib.hid (And.intro hbN (And.intro hbV (And.intro hbW (And.intro hbA (And.intro hbB hbC)))))
    obtain ⟨xk, hxk⟩ : ∃ z, z = x.k := ⟨_, rfl⟩
    obtain ⟨yk, hyk⟩ : ∃ z, z = y.k := ⟨_, rfl⟩
    rw [← hxk] at a0 hE
    rw [← hyk] at b0 hE
    clear hxk hyk hx hy hbN hbV hbW hbA hbB hbC q1 q2 q3 q4 q5 q6 r1 r2 r3 r4 r5 r6
    have A1 : Below w.heap.size w (wr.alloc (Obj.cells #[.int .i64 (xk : Int), .slice an nn cn, .slice av nv cv, .slice aw nw cw, .slice aa na ca, .slice ab nb cb, .slice ac nc cc] 37)) := HB.out.alloc HB.out.size _
    have b0 := below_cellS A1 hg2 b0
    have b1 := below_cellS A1 hg2 b1
    have b2 := below_cellS A1 hg2 b2
    have b3 := below_cellS A1 hg2 b3
    have b4 := below_cellS A1 hg2 b4
    have b5 := below_cellS A1 hg2 b5
    have b6 := below_cellS A1 hg2 b6
    have A2 : Below w.heap.size w ((wr.alloc (Obj.cells #[.int .i64 (xk : Int), .slice an nn cn, .slice av nv cv, .slice aw nw cw, .slice aa na ca, .slice ab nb cb, .slice ac nc cc] 37)).alloc (Obj.cells #[.int .i64 (yk : Int), .slice bn mn dn, .slice bv mv dv, .slice bw mw dw, .slice ba ma da, .slice bb mb db, .slice bc mc dc] 37)) := A1.alloc A1.size _
    have TWO := two_cmds wr (.int .i64 (xk : Int)) (.slice an nn cn) (.slice av nv cv) (.slice aw nw cw) (.slice aa na ca) (.slice ab nb cb) (.slice ac nc cc) (.int .i64 (yk : Int)) (.slice bn mn dn) (.slice bv mv dv) (.slice bw mw dw) (.slice ba ma da) (.slice bb mb db) (.slice bc mc dc)
    go_upto_region 8 with fail
    generalize (wr.alloc (Obj.cells #[.int .i64 (xk : Int), .slice an nn cn, .slice av nv cv, .slice aw nw cw, .slice aa na ca, .slice ab nb cb, .slice ac nc cc] 37)).alloc (Obj.cells #[.int .i64 (yk : Int), .slice bn mn dn, .slice bv mv dv, .slice bw mw dw, .slice ba ma da, .slice bb mb db, .slice bc mc dc] 37) = W2 at A2 TWO ⊢
    obtain ⟨z2, ⟨x0, x1, x2, x3, x4, x5, x6⟩, ⟨y0, y1, y2, y3, y4, y5, y6⟩⟩ := TWO
    have A2H := Lib.hid A2
    have X23 := Lib.hid (fun (w5 : World) (hb : Below W2.heap.size W2 w5) => (And.intro (below_cellS hb (by omega) x2) (below_cellS hb (by omega) x3)))
    have Y23 := Lib.hid (fun (w5 : World) (hb : Below W2.heap.size W2 w5) => (And.intro (below_cellS hb (by omega) y2) (below_cellS hb (by omega) y3)))
    have X456 := Lib.hid (fun (w5 : World) (hb : Below W2.heap.size W2 w5) => (And.intro (below_cellS hb (by omega) x4) (And.intro (below_cellS hb (by omega) x5) (below_cellS hb (by omega) x6))))
    have Y456 := Lib.hid (fun (w5 : World) (hb : Below W2.heap.size W2 w5) => (And.intro (below_cellS hb (by omega) y4) (And.intro (below_cellS hb (by omega) y5) (below_cellS hb (by omega) y6))))
    have X0 := Lib.hid (fun (w5 : World) (hb : Below W2.heap.size W2 w5) => (below_cellS hb (by omega) x0))
    have Y0 := Lib.hid (fun (w5 : World) (hb : Below W2.heap.size W2 w5) => (below_cellS hb (by omega) y0))
    have BB := Lib.hid (fun (w5 : World) (hb : Below W2.heap.size W2 w5) => A2H.out.trans (hb.mono A2H.out.size))
    clear a0 b0 a1 b1 a2 b2 a3 b3 a4 b4 a5 b5 a6 b6 A1 A2 x0 x2 x3 x4 x5 x6 y0 y2 y3 y4 y5 y6
    have KN2 := KN.out W2 A2H.out
    go_upto_region 9 with (go_at_call 19; (with_reducible refine KN2.mono ?_); rintro e w5 ⟨rfl, hb5⟩; have HB5 : Hid (Below W2.heap.size W2 w5) := hb5; clear hb5)
    go_cut [9] (fun s9 wx => s9 = .bool (bV && bW) ∧ Hid (Below W2.heap.size W2 wx))
    case first =>
     obtain ⟨v2, v3⟩ := X23.out w5 HB5.out
     obtain ⟨t2, t3⟩ := Y23.out w5 HB5.out
     have KV2 := KV.out w5 (BB.out _ HB5.out)
     cases bV with
     | false =>
      go_wp2_with (go_at_call 20; (with_reducible refine KV2.mono ?_); rintro e w6 ⟨rfl, hb6⟩; have HB6 := Lib.hid (HB5.out.trans (hb6.mono HB5.out.size)); clear hb6)
      go_meet
      case rel => exact ⟨rfl, HB6⟩
     | true =>
      go_wp2_with (go_at_call 20; first | ((with_reducible refine (KW.out _ (BB.out _ HB6.out)).mono ?_); rintro e w7 ⟨rfl, hb7⟩; have HB7 := Lib.hid (HB6.out.trans (hb7.mono HB6.out.size)); clear hb7) | ((with_reducible refine KV2.mono ?_); rintro e w6 ⟨rfl, hb6⟩; have HB6 := Lib.hid (HB5.out.trans (hb6.mono HB5.out.size)); obtain ⟨-, v3⟩ := X23.out w6 HB6.out; obtain ⟨-, t3⟩ := Y23.out w6 HB6.out; clear hb6))
      go_meet
      case rel => exact ⟨rfl, HB7⟩
    case rest =>
     obtain ⟨rfl, HB9⟩ := hcut
     go_upto_region 10 with fail
     go_cut [10] (fun s10 wx => s10 = .bool (bA && bB && bC) ∧ Hid (Below W2.heap.size W2 wx))
     case first =>
      obtain ⟨v4, v5, v6⟩ := X456.out wc HB9.out
      obtain ⟨t4, t5, t6⟩ := Y456.out wc HB9.out
      have KA2 := KA.out wc (BB.out _ HB9.out)
      cases bA with
      | false =>
       go_wp2_with (go_at_call 8; ((with_reducible refine KA2.mono ?_); rintro e w6 ⟨rfl, hb6⟩; have HB6 := Lib.hid (HB9.out.trans (hb6.mono HB9.out.size)); obtain ⟨-, v5, v6⟩ := X456.out w6 HB6.out; obtain ⟨-, t5, t6⟩ := Y456.out w6 HB6.out; clear hb6))
       go_meet
       case rel => exact ⟨rfl, HB6⟩
      | true =>
       cases bB with
       | false =>
        go_wp2_with (go_at_call 8; first | ((with_reducible refine (KB.out _ (BB.out _ HB6.out)).mono ?_); rintro e w7 ⟨rfl, hb7⟩; have HB7 := Lib.hid (HB6.out.trans (hb7.mono HB6.out.size)); obtain ⟨-, -, v6⟩ := X456.out w7 HB7.out; obtain ⟨-, -, t6⟩ := Y456.out w7 HB7.out; clear hb7) | ((with_reducible refine KA2.mono ?_); rintro e w6 ⟨rfl, hb6⟩; have HB6 := Lib.hid (HB9.out.trans (hb6.mono HB9.out.size)); obtain ⟨-, v5, v6⟩ := X456.out w6 HB6.out; obtain ⟨-, t5, t6⟩ := Y456.out w6 HB6.out; clear hb6))
        go_meet
        case rel => exact ⟨rfl, HB7⟩
       | true =>
        go_wp2_with (go_at_call 8; first | ((with_reducible refine (KC.out _ (BB.out _ HB7.out)).mono ?_); rintro e w8 ⟨rfl, hb8⟩; have HB8 := Lib.hid (HB7.out.trans (hb8.mono HB7.out.size)); clear hb8) | ((with_reducible refine (KB.out _ (BB.out _ HB6.out)).mono ?_); rintro e w7 ⟨rfl, hb7⟩; have HB7 := Lib.hid (HB6.out.trans (hb7.mono HB6.out.size)); obtain ⟨-, -, v6⟩ := X456.out w7 HB7.out; obtain ⟨-, -, t6⟩ := Y456.out w7 HB7.out; clear hb7) | ((with_reducible refine KA2.mono ?_); rintro e w6 ⟨rfl, hb6⟩; have HB6 := Lib.hid (HB9.out.trans (hb6.mono HB9.out.size)); obtain ⟨-, v5, v6⟩ := X456.out w6 HB6.out; obtain ⟨-, t5, t6⟩ := Y456.out w6 HB6.out; clear hb6))
        go_meet
        case rel => exact ⟨rfl, HB8⟩
     case rest =>
      obtain ⟨rfl, HB10⟩ := hcut
      have v0 := X0.out _ HB10.out
      have t0 := Y0.out _ HB10.out
      have HBE := Lib.hid (BB.out _ HB10.out)
      obtain ⟨hN1, hV1, hW1, hA1, hB1, hC1⟩ := HBS.out
      have HVW := Lib.hid (show (bV && bW) = true ↔ x.v = y.v ∧ x.w = y.w by rw [hV1, hW1, Bool.and_eq_true, eqB_true, eqB_true])
      have HABC := Lib.hid (show (bA && bB && bC) = true ↔ x.a = y.a ∧ x.b = y.b ∧ x.c = y.c by rw [hA1, hB1, hC1, Bool.and_eq_true, Bool.and_eq_true, eqB_true, eqB_true, eqB_true, and_assoc])
      have HNN := Lib.hid (show bN = true ↔ x.n = y.n by rw [hN1, eqB_true])
      clear hN1 hV1 hW1 hA1 hB1 hC1
      generalize (bV && bW) = P at HVW ⊢
      generalize (bA && bB && bC) = Q at HABC ⊢
      cases bN with
      | false =>
       have HD := Lib.hid (LOW.out fun e => (by have := HNN.out.2 (hE.out.1 e).1; cases this))
       go_wp2
       exact bodyPost_ret (results_tmp rfl _ _ _) rfl ⟨by rw [HD.out]; rfl, HBE.out⟩
      | true =>
       cases P with
       | false =>
        have HD := Lib.hid (LOW.out fun e => (by have := HVW.out.2 (hE.out.1 e).2.1; cases this))
        go_wp2
        exact bodyPost_ret (results_tmp rfl _ _ _) rfl ⟨by rw [HD.out]; rfl, HBE.out⟩
       | true =>
        cases Q with
        | false =>
         have HD := Lib.hid (LOW.out fun e => (by have := HABC.out.2 (hE.out.1 e).2.2.1; cases this))
         go_wp2
         exact bodyPost_ret (results_tmp rfl _ _ _) rfl ⟨by rw [HD.out]; rfl, HBE.out⟩
        | true =>
         by_cases hk : xk = yk
         ·subst hk
          have hk1 : ((xk : Int) != (xk : Int)) = false := by simp
          have HD := Lib.hid (hE.out.2 ⟨HNN.out.1 rfl, HVW.out.1 rfl, HABC.out.1 rfl, rfl⟩)
          go_wp2
          go_roundg (N - j)
          case measure => have := HK.out; omega
          case rel => exact ⟨j + 1, by go_num, by omega, by show _ = _; omega, HS.out.succ HXY.out.1 HXY.out.2 HD.out, HBE⟩
         ·have hk1 : ((xk : Int) != (yk : Int)) = true := by simp; omega
          have HD := Lib.hid (LOW.out fun e => hk (hE.out.1 e).2.2.2)
          go_wp2
          exact bodyPost_ret (results_tmp rfl _ _ _) rfl ⟨by rw [HD.out]; rfl, HBE.out⟩
   ·have hd : decide ((j : Int) < (N : Int)) = false := by simp; omega
    have HD := Lib.hid (eqB_true.2 (row_eq HN.out.1 HN.out.2 fun q hq => HS.out q (by omega)))
    go_wp2
    exact bodyPost_ret (results_tmp rfl _ _ _) rfl ⟨by rw [HD.out]; rfl, HB.out⟩
 ·rw [eqB_len hN]
  have h1 : ((xs.length : Int) != (ys.length : Int)) = true := by simp; omega
  clear h h2
  generalize xs.length = N at *
  generalize ys.length = M at *
  go_enter Tryz.func8, Tryz.ntmps8
  go_wp2
  exact bodyPost_ret (results_tmp rfl _ _ _) rfl ⟨rfl, Below.refl _ _⟩
set_option maxRecDepth 20000 in
theorem same_zero : SamOk 0 := by
 intro u v xs ys F G w h h2 hF hG
 obtain ⟨rfl, rfl⟩ := h
 obtain ⟨rfl, rfl⟩ := h2
 rw [eqB_self]
 go_enter Tryz.func8, Tryz.ntmps8
 go_wp2
 go_loopg [5] 1 (fun k i wr => i = .int .i64 0 ∧ wr = w)
 case atStart => exact ⟨rfl, rfl⟩
 case round =>
  obtain ⟨rfl, rfl⟩ := hrel
  go_wp2
  exact bodyPost_ret (results_tmp rfl _ _ _) rfl ⟨rfl, Below.refl _ _⟩
theorem same_all : ∀ n, SamOk n
 | 0 => same_zero
 | n + 1 => same_step n (same_all n)
end Go.Proofs.YtelfgobjnibooaaGreatDoor
namespace Go.Proofs.YtelfgobjnibooaaGreatDoor
open Go.RowKit Go.Lib
set_option maxHeartbeats 4000000 in
set_option maxRecDepth 20000 in
theorem equalS_any (u v : Value) (xs ys : List (List UInt8)) (F G : Nat → Prop) (w : World) (h : StrV.q F w u xs) (h2 : StrV.q G w v ys) :
  Calls Tryz.prog 36 #[u, v] w fun e w' => e = .returned (.bool (eqB xs ys)) ∧ Below w.heap.size w w' := by
 obtain ⟨ao, cap, rfl, hcap⟩ := str_shape h
 obtain ⟨bo, cap2, rfl, hcap2⟩ := str_shape h2
 have hs1 := RowM.short h
 have hs2 := RowM.short h2
 unfold maxLen at hs1 hs2
 by_cases hN : xs.length = ys.length
 ·have HQ := Lib.hid (And.intro h h2)
  obtain ⟨N, hM⟩ : ∃ N, N = xs.length := ⟨_, rfl⟩
  have hM2 : N = ys.length := by omega
  have HN := Lib.hid (And.intro hM.symm hM2.symm)
  rw [← hM] at hs1 hcap ⊢
  rw [← hM2] at hs2 hcap2 ⊢
  have h1 : ((N : Int) != (N : Int)) = false := by simp
  have hNb : (N : Int) ≤ 9223372036854775807 := by omega
  clear h h2 hN hM hM2 hs1 hs2
  go_enter Tryz.func36, Tryz.ntmps36
  go_wp2
  go_loopg [13] (N + 1) (fun k i wr => ∃ (j : Nat), i = .int .i64 j ∧ j ≤ N ∧ Hid (k = N + 1 - j) ∧ Hid (∀ q, q < j → xs[q]? = ys[q]?) ∧ Hid (Below w.heap.size w wr))
  case atStart => exact ⟨0, rfl, by omega, rfl, fun q hq => by omega, Below.refl _ _⟩
  case round =>
   obtain ⟨j, rfl, hj, HK, HS, HB⟩ := hrel
   by_cases hlt : j < N
   ·obtain ⟨x, hx⟩ := row_short HN.out.1 hlt
    obtain ⟨y, hy⟩ := row_short HN.out.2 hlt
    obtain ⟨g1, c1, e, -, hg1, d1⟩ := nm_at HQ.out.1 hx
    injection e with ee e2 e3
    subst ee
    clear e2 e3
    obtain ⟨g2, c2, e, -, hg2, d2⟩ := nm_at HQ.out.2 hy
    injection e with ee e2 e3
    subst ee
    clear e2 e3
    have ca := below_cellS HB.out hg1 d1
    have cb := below_cellS HB.out hg2 d2
    have hI : IntKind.i64.wrap ((j : Int) + 1) = ((j + 1 : Nat) : Int) := by rw [IntWalk.i64_in _ (by omega)]; omega
    have hq := str_eqS x y
    have HXY := Lib.hid (And.intro hx hy)
    clear hx hy d1 d2
    cases hc : eqB x y
    ·have HD := Lib.hid (row_ne HXY.out.1 HXY.out.2 (eqB_false.1 hc))
     rw [hc] at hq
     clear hc
     generalize (⟨x.toArray⟩ : ByteArray) = X at ca hq
     generalize (⟨y.toArray⟩ : ByteArray) = Y at cb hq
     go_wp2_with fail
     go_region
     all_goals
      go_wp2
      exact bodyPost_ret (results_tmp rfl _ _ _) rfl ⟨by rw [HD.out]; rfl, HB.out.drew⟩
    ·have HE := Lib.hid (eqB_true.1 hc)
     rw [hc] at hq
     clear hc
     generalize (⟨x.toArray⟩ : ByteArray) = X at ca hq
     generalize (⟨y.toArray⟩ : ByteArray) = Y at cb hq
     go_wp2_with fail
     go_region
     all_goals
      go_wp2
      go_roundg (N - j)
      case rel => exact ⟨j + 1, by go_num, by omega, by show _ = _; omega, fun q hq => by
       by_cases hqj : q = j
       ·rw [hqj, HXY.out.1, HXY.out.2, HE.out]
       ·exact HS.out q (by omega), HB.out.drew⟩
      case measure => have := HK.out; omega
   ·have hd : decide ((j : Int) < (N : Int)) = false := by simp; omega
    have HD := Lib.hid (eqB_true.2 (row_eq HN.out.1 HN.out.2 fun q hq => HS.out q (by omega)))
    go_wp2
    exact bodyPost_ret (results_tmp rfl _ _ _) rfl ⟨by rw [HD.out]; rfl, HB.out⟩
 ·rw [eqB_len hN]
  have h1 : ((xs.length : Int) != (ys.length : Int)) = true := by simp; omega
  clear h h2
  generalize xs.length = N at *
  generalize ys.length = M at *
  go_enter Tryz.func36, Tryz.ntmps36
  go_wp2
  exact bodyPost_ret (results_tmp rfl _ _ _) rfl ⟨rfl, Below.refl _ _⟩
set_option maxHeartbeats 4000000 in
set_option maxRecDepth 20000 in
theorem oneW_any (n : Nat) (H : RowP n) : OneW n := by
 intro x y a c F G w h h2 hF hG
 obtain ⟨va, rfl, hva⟩ := h
 obtain ⟨vb, rfl, hvb⟩ := h2
 obtain ⟨ao, ac, rfl, -⟩ := pts_shape hva
 obtain ⟨bo, bc, rfl, -⟩ := pts_shape hvb
 have K := Lib.hid (fun (w1 : World) (hb : Below w.heap.size w w1) => H _ _ _ _ F G w1 (val_below hva hF hb) (val_below hvb hG hb) (fun g hg => Nat.lt_of_lt_of_le (hF g hg) hb.size) (fun g hg => Nat.lt_of_lt_of_le (hG g hg) hb.size))
 generalize x.length = an at *
 generalize y.length = bn at *
 clear hva hvb hF hG H
 have A1 : Below w.heap.size w (w.alloc (Obj.cells #[.slice ao an ac] 40)) := (Below.refl _ _).alloc (Nat.le_refl _) _
 have A2 : Below w.heap.size w ((w.alloc (Obj.cells #[.slice ao an ac] 40)).alloc (Obj.cells #[.slice bo bn bc] 40)) := A1.alloc A1.size _
 have k := K.out _ A2
 have HA := Lib.hid A2
 clear A1 A2
 show Calls Tryz.prog 38 #[.agg #[.slice ao an ac], .agg #[.slice bo bn bc]] w _
 go_enter Tryz.func38, Tryz.ntmps38
 go_wp2_with (go_at_call 55; (with_reducible refine k.mono ?_); rintro e w5 ⟨rfl, b5⟩; have F5 := Lib.hid (HA.out.trans (b5.mono HA.out.size)); clear b5 k)
 exact bodyPost_ret (results_tmp rfl _ _ _) rfl ⟨rfl, F5.out⟩
set_option maxHeartbeats 8000000 in
set_option maxRecDepth 20000 in
theorem oneP_any (n : Nat) (H : SamF n) : OneP n := by
 intro x y a c F G w h h2 hF hG
 obtain ⟨va, rfl, hva⟩ := h
 obtain ⟨vb, rfl, hvb⟩ := h2
 obtain ⟨ao, ac, rfl, -⟩ := cos_shape hva
 obtain ⟨bo, bc, rfl, -⟩ := cos_shape hvb
 have K := Lib.hid (fun (w1 : World) (hb : Below w.heap.size w w1) => H _ _ _ _ F G w1 (val_below hva hF hb) (val_below hvb hG hb) (fun g hg => Nat.lt_of_lt_of_le (hF g hg) hb.size) (fun g hg => Nat.lt_of_lt_of_le (hG g hg) hb.size))
 have hE := pt_eq x y
 have hqs := str_eqS x.s y.s
 have hqt := str_eqS x.t y.t
 obtain ⟨bL, hL⟩ : ∃ z, z = eqB x.l y.l := ⟨_, rfl⟩
 obtain ⟨bS, hS⟩ : ∃ z, z = eqB x.s y.s := ⟨_, rfl⟩
 obtain ⟨bT, hT⟩ : ∃ z, z = eqB x.t y.t := ⟨_, rfl⟩
 rw [← hL] at K
 rw [← hS] at hqs
 rw [← hT] at hqt
 have L1 := Lib.hid (show bL = true ↔ x.l = y.l by rw [hL, eqB_true])
 have S1 := Lib.hid (show bS = true ↔ x.s = y.s by rw [hS, eqB_true])
 have T1 := Lib.hid (show bT = true ↔ x.t = y.t by rw [hT, eqB_true])
 generalize x.l.length = an at *
 generalize y.l.length = bn at *
 generalize (⟨x.s.toArray⟩ : ByteArray) = aS at *
 generalize (⟨x.t.toArray⟩ : ByteArray) = aT at *
 generalize (⟨y.s.toArray⟩ : ByteArray) = bS' at *
 generalize (⟨y.t.toArray⟩ : ByteArray) = bT' at *
 obtain ⟨xk, hxk⟩ : ∃ z, z = x.k := ⟨_, rfl⟩
 obtain ⟨yk, hyk⟩ : ∃ z, z = y.k := ⟨_, rfl⟩
 obtain ⟨xq, hxq⟩ : ∃ z, z = x.q := ⟨_, rfl⟩
 obtain ⟨yq, hyq⟩ : ∃ z, z = y.q := ⟨_, rfl⟩
 rw [← hxk, ← hxq, ← hyk, ← hyq] at hE
 rw [← hxk, ← hxq, ← hyk, ← hyq]
 have HE := Lib.hid hE
 clear hva hvb hF hG H hE hL hS hT hxk hyk hxq hyq
 have A1 : Below w.heap.size w (w.alloc (Obj.cells #[.int .i64 (xk : Int), .bool xq, .string aS, .string aT, .slice ao an ac] 42)) := (Below.refl _ _).alloc (Nat.le_refl _) _
 have A2 : Below w.heap.size w ((w.alloc (Obj.cells #[.int .i64 (xk : Int), .bool xq, .string aS, .string aT, .slice ao an ac] 42)).alloc (Obj.cells #[.int .i64 (yk : Int), .bool yq, .string bS', .string bT', .slice bo bn bc] 42)) := A1.alloc A1.size _
 have TWO := two_parts w (.int .i64 (xk : Int)) (.bool xq) (.string aS) (.string aT) (.slice ao an ac) (.int .i64 (yk : Int)) (.bool yq) (.string bS') (.string bT') (.slice bo bn bc)
 show Calls Tryz.prog 56 #[.agg #[.int .i64 (xk : Int), .bool xq, .string aS, .string aT, .slice ao an ac], .agg #[.int .i64 (yk : Int), .bool yq, .string bS', .string bT', .slice bo bn bc]] w _
 go_enter Tryz.func56, Tryz.ntmps56
 go_upto_region 1 with fail
 generalize (w.alloc (Obj.cells #[.int .i64 (xk : Int), .bool xq, .string aS, .string aT, .slice ao an ac] 42)).alloc (Obj.cells #[.int .i64 (yk : Int), .bool yq, .string bS', .string bT', .slice bo bn bc] 42) = W2 at A2 TWO ⊢
 obtain ⟨z2, x0, x1, x2, x3, x4, y0, y1, y2, y3, y4⟩ := TWO
 have k := K.out _ A2
 have HA := Lib.hid A2
 clear A1 A2 K z2
 by_cases hk : xk = yk
 ·subst hk
  have hk1 : ((xk : Int) == (xk : Int)) = true := by simp
  by_cases hq : xq = yq
  ·subst hq
   have hq1 : (xq == xq) = true := by simp
   cases bS with
   | false =>
    have HD := Lib.hid (eqB_false.2 fun e => by have := S1.out.2 (HE.out.1 e).2.2.2.1; cases this)
    clear k
    go_wp2
    exact bodyPost_ret (results_tmp rfl _ _ _) rfl ⟨by rw [HD.out]; rfl, HA.out⟩
   | true =>
    cases bT with
    | false =>
     have HD := Lib.hid (eqB_false.2 fun e => by have := T1.out.2 (HE.out.1 e).2.2.2.2; cases this)
     clear k
     go_wp2
     exact bodyPost_ret (results_tmp rfl _ _ _) rfl ⟨by rw [HD.out]; rfl, HA.out⟩
    | true =>
     have HD := Lib.hid (show eqB x y = bL from by
      cases bL with
      | false => exact eqB_false.2 fun e => by have := L1.out.2 (HE.out.1 e).1; cases this
      | true => exact eqB_true.2 (HE.out.2 ⟨L1.out.1 rfl, rfl, rfl, S1.out.1 rfl, T1.out.1 rfl⟩))
     cases bL with
     | false =>
      go_wp2_with (go_at_call 7; (with_reducible refine k.mono ?_); rintro e w5 ⟨rfl, b5⟩; have F5 := Lib.hid (HA.out.trans (b5.mono HA.out.size)); clear b5 k)
      exact bodyPost_ret (results_tmp rfl _ _ _) rfl ⟨by rw [HD.out]; rfl, F5.out⟩
     | true =>
      go_wp2_with (go_at_call 7; (with_reducible refine k.mono ?_); rintro e w5 ⟨rfl, b5⟩; have F5 := Lib.hid (HA.out.trans (b5.mono HA.out.size)); clear b5 k)
      exact bodyPost_ret (results_tmp rfl _ _ _) rfl ⟨by rw [HD.out]; rfl, F5.out⟩
  ·have hq1 : (xq == yq) = false := by simp [hq]
   have HD := Lib.hid (eqB_false.2 fun e => hq (HE.out.1 e).2.2.1)
   clear k
   go_wp2
   exact bodyPost_ret (results_tmp rfl _ _ _) rfl ⟨by rw [HD.out]; rfl, HA.out⟩
 ·have hk1 : ((xk : Int) == (yk : Int)) = false := by simp; omega
  have HD := Lib.hid (eqB_false.2 fun e => hk (HE.out.1 e).2.1)
  clear k
  go_wp2
  exact bodyPost_ret (results_tmp rfl _ _ _) rfl ⟨by rw [HD.out]; rfl, HA.out⟩
set_option maxHeartbeats 16000000 in
set_option maxRecDepth 20000 in
theorem oneC_any (n : Nat) (H : SamF n) (HR : RowW n) : OneC n := by
 intro x y a c F G w h h2 hF hG
 obtain ⟨va1, va2, va3, va4, va5, va6, rfl, ha1, ha2, ha3, ha4, ha5, ha6⟩ := h
 obtain ⟨vb1, vb2, vb3, vb4, vb5, vb6, rfl, hb1, hb2, hb3, hb4, hb5, hb6⟩ := h2
 obtain ⟨po1, pc1, rfl, -⟩ := str_shape ha1
 obtain ⟨po2, pc2, rfl, -⟩ := wds_shape ha2
 obtain ⟨po3, pc3, rfl, -⟩ := wds_shape ha3
 obtain ⟨po4, pc4, rfl, -⟩ := cos_shape ha4
 obtain ⟨po5, pc5, rfl, -⟩ := cos_shape ha5
 obtain ⟨po6, pc6, rfl, -⟩ := cos_shape ha6
 obtain ⟨qo1, qc1, rfl, -⟩ := str_shape hb1
 obtain ⟨qo2, qc2, rfl, -⟩ := wds_shape hb2
 obtain ⟨qo3, qc3, rfl, -⟩ := wds_shape hb3
 obtain ⟨qo4, qc4, rfl, -⟩ := cos_shape hb4
 obtain ⟨qo5, qc5, rfl, -⟩ := cos_shape hb5
 obtain ⟨qo6, qc6, rfl, -⟩ := cos_shape hb6
 have hE := co_eq x y
 have K1 := Lib.hid (fun (w1 : World) (hb : Below w.heap.size w w1) => equalS_any _ _ _ _ F G w1 (val_below ha1 hF hb) (val_below hb1 hG hb))
 obtain ⟨b1, h1⟩ : ∃ z, z = eqB x.n y.n := ⟨_, rfl⟩
 rw [← h1] at K1
 have E1 := Lib.hid (show b1 = true ↔ x.n = y.n by rw [h1, eqB_true])
 have K2 := Lib.hid (fun (w1 : World) (hb : Below w.heap.size w w1) => HR _ _ _ _ F G w1 (val_below ha2 hF hb) (val_below hb2 hG hb) (fun g hg => Nat.lt_of_lt_of_le (hF g hg) hb.size) (fun g hg => Nat.lt_of_lt_of_le (hG g hg) hb.size))
 obtain ⟨b2, h2⟩ : ∃ z, z = eqB x.v y.v := ⟨_, rfl⟩
 rw [← h2] at K2
 have E2 := Lib.hid (show b2 = true ↔ x.v = y.v by rw [h2, eqB_true])
 have K3 := Lib.hid (fun (w1 : World) (hb : Below w.heap.size w w1) => HR _ _ _ _ F G w1 (val_below ha3 hF hb) (val_below hb3 hG hb) (fun g hg => Nat.lt_of_lt_of_le (hF g hg) hb.size) (fun g hg => Nat.lt_of_lt_of_le (hG g hg) hb.size))
 obtain ⟨b3, h3⟩ : ∃ z, z = eqB x.w y.w := ⟨_, rfl⟩
 rw [← h3] at K3
 have E3 := Lib.hid (show b3 = true ↔ x.w = y.w by rw [h3, eqB_true])
 have K4 := Lib.hid (fun (w1 : World) (hb : Below w.heap.size w w1) => H _ _ _ _ F G w1 (val_below ha4 hF hb) (val_below hb4 hG hb) (fun g hg => Nat.lt_of_lt_of_le (hF g hg) hb.size) (fun g hg => Nat.lt_of_lt_of_le (hG g hg) hb.size))
 obtain ⟨b4, h4⟩ : ∃ z, z = eqB x.a y.a := ⟨_, rfl⟩
 rw [← h4] at K4
 have E4 := Lib.hid (show b4 = true ↔ x.a = y.a by rw [h4, eqB_true])
 have K5 := Lib.hid (fun (w1 : World) (hb : Below w.heap.size w w1) => H _ _ _ _ F G w1 (val_below ha5 hF hb) (val_below hb5 hG hb) (fun g hg => Nat.lt_of_lt_of_le (hF g hg) hb.size) (fun g hg => Nat.lt_of_lt_of_le (hG g hg) hb.size))
 obtain ⟨b5, h5⟩ : ∃ z, z = eqB x.b y.b := ⟨_, rfl⟩
 rw [← h5] at K5
 have E5 := Lib.hid (show b5 = true ↔ x.b = y.b by rw [h5, eqB_true])
 have K6 := Lib.hid (fun (w1 : World) (hb : Below w.heap.size w w1) => H _ _ _ _ F G w1 (val_below ha6 hF hb) (val_below hb6 hG hb) (fun g hg => Nat.lt_of_lt_of_le (hF g hg) hb.size) (fun g hg => Nat.lt_of_lt_of_le (hG g hg) hb.size))
 obtain ⟨b6, h6⟩ : ∃ z, z = eqB x.c y.c := ⟨_, rfl⟩
 rw [← h6] at K6
 have E6 := Lib.hid (show b6 = true ↔ x.c = y.c by rw [h6, eqB_true])
 generalize x.n.length = pn1 at *
 generalize y.n.length = qn1 at *
 generalize x.v.length = pn2 at *
 generalize y.v.length = qn2 at *
 generalize x.w.length = pn3 at *
 generalize y.w.length = qn3 at *
 generalize x.a.length = pn4 at *
 generalize y.a.length = qn4 at *
 generalize x.b.length = pn5 at *
 generalize y.b.length = qn5 at *
 generalize x.c.length = pn6 at *
 generalize y.c.length = qn6 at *
 obtain ⟨xk, hxk⟩ : ∃ z, z = x.k := ⟨_, rfl⟩
 obtain ⟨yk, hyk⟩ : ∃ z, z = y.k := ⟨_, rfl⟩
 rw [← hxk, ← hyk] at hE
 rw [← hxk, ← hyk]
 have HE := Lib.hid hE
 clear hF hG H HR hE hxk hyk ha1 hb1 h1 ha2 hb2 h2 ha3 hb3 h3 ha4 hb4 h4 ha5 hb5 h5 ha6 hb6 h6
 have A1 : Below w.heap.size w (w.alloc (Obj.cells #[.int .i64 (xk : Int), .slice po1 pn1 pc1, .slice po2 pn2 pc2, .slice po3 pn3 pc3, .slice po4 pn4 pc4, .slice po5 pn5 pc5, .slice po6 pn6 pc6] 37)) := (Below.refl _ _).alloc (Nat.le_refl _) _
 have A2 : Below w.heap.size w ((w.alloc (Obj.cells #[.int .i64 (xk : Int), .slice po1 pn1 pc1, .slice po2 pn2 pc2, .slice po3 pn3 pc3, .slice po4 pn4 pc4, .slice po5 pn5 pc5, .slice po6 pn6 pc6] 37)).alloc (Obj.cells #[.int .i64 (yk : Int), .slice qo1 qn1 qc1, .slice qo2 qn2 qc2, .slice qo3 qn3 qc3, .slice qo4 qn4 qc4, .slice qo5 qn5 qc5, .slice qo6 qn6 qc6] 37)) := A1.alloc A1.size _
 have TWO := two_cmds w (.int .i64 (xk : Int)) (.slice po1 pn1 pc1) (.slice po2 pn2 pc2) (.slice po3 pn3 pc3) (.slice po4 pn4 pc4) (.slice po5 pn5 pc5) (.slice po6 pn6 pc6) (.int .i64 (yk : Int)) (.slice qo1 qn1 qc1) (.slice qo2 qn2 qc2) (.slice qo3 qn3 qc3) (.slice qo4 qn4 qc4) (.slice qo5 qn5 qc5) (.slice qo6 qn6 qc6)
 show Calls Tryz.prog 18 #[.agg #[.int .i64 (xk : Int), .slice po1 pn1 pc1, .slice po2 pn2 pc2, .slice po3 pn3 pc3, .slice po4 pn4 pc4, .slice po5 pn5 pc5, .slice po6 pn6 pc6], .agg #[.int .i64 (yk : Int), .slice qo1 qn1 qc1, .slice qo2 qn2 qc2, .slice qo3 qn3 qc3, .slice qo4 qn4 qc4, .slice qo5 qn5 qc5, .slice qo6 qn6 qc6]] w _
 go_enter Tryz.func18, Tryz.ntmps18
 go_upto_region 1 with fail
 generalize (w.alloc (Obj.cells #[.int .i64 (xk : Int), .slice po1 pn1 pc1, .slice po2 pn2 pc2, .slice po3 pn3 pc3, .slice po4 pn4 pc4, .slice po5 pn5 pc5, .slice po6 pn6 pc6] 37)).alloc (Obj.cells #[.int .i64 (yk : Int), .slice qo1 qn1 qc1, .slice qo2 qn2 qc2, .slice qo3 qn3 qc3, .slice qo4 qn4 qc4, .slice qo5 qn5 qc5, .slice qo6 qn6 qc6] 37) = W2 at A2 TWO ⊢
 obtain ⟨z2, ⟨x0, x1, x2, x3, x4, x5, x6⟩, ⟨y0, y1, y2, y3, y4, y5, y6⟩⟩ := TWO
 have HA := Lib.hid A2
 have BB := Lib.hid (fun (w5 : World) (hb : Below W2.heap.size W2 w5) => HA.out.trans (hb.mono HA.out.size))
 have X2 := Lib.hid (fun (w5 : World) (hb : Below W2.heap.size W2 w5) => And.intro (below_cellS hb (by omega) x2) (below_cellS hb (by omega) y2))
 have X3 := Lib.hid (fun (w5 : World) (hb : Below W2.heap.size W2 w5) => And.intro (below_cellS hb (by omega) x3) (below_cellS hb (by omega) y3))
 have X4 := Lib.hid (fun (w5 : World) (hb : Below W2.heap.size W2 w5) => And.intro (below_cellS hb (by omega) x4) (below_cellS hb (by omega) y4))
 have X5 := Lib.hid (fun (w5 : World) (hb : Below W2.heap.size W2 w5) => And.intro (below_cellS hb (by omega) x5) (below_cellS hb (by omega) y5))
 have X6 := Lib.hid (fun (w5 : World) (hb : Below W2.heap.size W2 w5) => And.intro (below_cellS hb (by omega) x6) (below_cellS hb (by omega) y6))
 have k1 := K1.out _ A2
 clear A1 A2 K1 z2 x2 y2 x3 y3 x4 y4 x5 y5 x6 y6
 by_cases hk : xk = yk
 ·subst hk
  have hk1 : ((xk : Int) == (xk : Int)) = true := by simp
  cases b1 with
  | false =>
   have HD := Lib.hid (eqB_false.2 fun e => by have := E1.out.2 (HE.out.1 e).1; cases this)
   go_wp2_with (go_at_call 36; (with_reducible refine k1.mono ?_); rintro e w3 ⟨rfl, c1⟩; have H1 := Lib.hid c1; obtain ⟨x2, y2⟩ := X2.out _ H1.out; have k2 := K2.out _ (BB.out _ H1.out); clear k1 c1)
   exact bodyPost_ret (results_tmp rfl _ _ _) rfl ⟨by rw [HD.out]; rfl, BB.out _ H1.out⟩
  | true =>
   cases b2 with
   | false =>
    have HD := Lib.hid (eqB_false.2 fun e => by have := E2.out.2 (HE.out.1 e).2.1.1; cases this)
    go_wp2_with (first
     | (go_at_call 36; (with_reducible refine k1.mono ?_); rintro e w3 ⟨rfl, c1⟩; have H1 := Lib.hid c1; obtain ⟨x2, y2⟩ := X2.out _ H1.out; have k2 := K2.out _ (BB.out _ H1.out); clear k1 c1)
     | (go_at_call 37; (with_reducible refine k2.mono ?_); rintro e w4 ⟨rfl, c2⟩; have H2 := Lib.hid (H1.out.trans (c2.mono H1.out.size)); obtain ⟨x3, y3⟩ := X3.out _ H2.out; have k3 := K3.out _ (BB.out _ H2.out); clear k2 c2))
    exact bodyPost_ret (results_tmp rfl _ _ _) rfl ⟨by rw [HD.out]; rfl, BB.out _ H2.out⟩
   | true =>
    cases b3 with
    | false =>
     have HD := Lib.hid (eqB_false.2 fun e => by have := E3.out.2 (HE.out.1 e).2.1.2; cases this)
     go_wp2_with (first
      | (go_at_call 36; (with_reducible refine k1.mono ?_); rintro e w3 ⟨rfl, c1⟩; have H1 := Lib.hid c1; obtain ⟨x2, y2⟩ := X2.out _ H1.out; have k2 := K2.out _ (BB.out _ H1.out); clear k1 c1)
      | (go_at_call 37; (with_reducible refine k2.mono ?_); rintro e w4 ⟨rfl, c2⟩; have H2 := Lib.hid (H1.out.trans (c2.mono H1.out.size)); obtain ⟨x3, y3⟩ := X3.out _ H2.out; have k3 := K3.out _ (BB.out _ H2.out); clear k2 c2)
      | (go_at_call 37; (with_reducible refine k3.mono ?_); rintro e w5 ⟨rfl, c3⟩; have H3 := Lib.hid (H2.out.trans (c3.mono H2.out.size)); obtain ⟨x4, y4⟩ := X4.out _ H3.out; have k4 := K4.out _ (BB.out _ H3.out); clear k3 c3))
     exact bodyPost_ret (results_tmp rfl _ _ _) rfl ⟨by rw [HD.out]; rfl, BB.out _ H3.out⟩
    | true =>
     cases b4 with
     | false =>
      have HD := Lib.hid (eqB_false.2 fun e => by have := E4.out.2 (HE.out.1 e).2.2.1.1; cases this)
      go_wp2_with (first
       | (go_at_call 36; (with_reducible refine k1.mono ?_); rintro e w3 ⟨rfl, c1⟩; have H1 := Lib.hid c1; obtain ⟨x2, y2⟩ := X2.out _ H1.out; have k2 := K2.out _ (BB.out _ H1.out); clear k1 c1)
       | (go_at_call 37; (with_reducible refine k2.mono ?_); rintro e w4 ⟨rfl, c2⟩; have H2 := Lib.hid (H1.out.trans (c2.mono H1.out.size)); obtain ⟨x3, y3⟩ := X3.out _ H2.out; have k3 := K3.out _ (BB.out _ H2.out); clear k2 c2)
       | (go_at_call 37; (with_reducible refine k3.mono ?_); rintro e w5 ⟨rfl, c3⟩; have H3 := Lib.hid (H2.out.trans (c3.mono H2.out.size)); obtain ⟨x4, y4⟩ := X4.out _ H3.out; have k4 := K4.out _ (BB.out _ H3.out); clear k3 c3)
       | (go_at_call 7; (with_reducible refine k4.mono ?_); rintro e w6 ⟨rfl, c4⟩; have H4 := Lib.hid (H3.out.trans (c4.mono H3.out.size)); obtain ⟨x5, y5⟩ := X5.out _ H4.out; have k5 := K5.out _ (BB.out _ H4.out); clear k4 c4))
      exact bodyPost_ret (results_tmp rfl _ _ _) rfl ⟨by rw [HD.out]; rfl, BB.out _ H4.out⟩
     | true =>
      cases b5 with
      | false =>
       have HD := Lib.hid (eqB_false.2 fun e => by have := E5.out.2 (HE.out.1 e).2.2.1.2.1; cases this)
       go_wp2_with (first
        | (go_at_call 36; (with_reducible refine k1.mono ?_); rintro e w3 ⟨rfl, c1⟩; have H1 := Lib.hid c1; obtain ⟨x2, y2⟩ := X2.out _ H1.out; have k2 := K2.out _ (BB.out _ H1.out); clear k1 c1)
        | (go_at_call 37; (with_reducible refine k2.mono ?_); rintro e w4 ⟨rfl, c2⟩; have H2 := Lib.hid (H1.out.trans (c2.mono H1.out.size)); obtain ⟨x3, y3⟩ := X3.out _ H2.out; have k3 := K3.out _ (BB.out _ H2.out); clear k2 c2)
        | (go_at_call 37; (with_reducible refine k3.mono ?_); rintro e w5 ⟨rfl, c3⟩; have H3 := Lib.hid (H2.out.trans (c3.mono H2.out.size)); obtain ⟨x4, y4⟩ := X4.out _ H3.out; have k4 := K4.out _ (BB.out _ H3.out); clear k3 c3)
        | (go_at_call 7; (with_reducible refine k4.mono ?_); rintro e w6 ⟨rfl, c4⟩; have H4 := Lib.hid (H3.out.trans (c4.mono H3.out.size)); obtain ⟨x5, y5⟩ := X5.out _ H4.out; have k5 := K5.out _ (BB.out _ H4.out); clear k4 c4)
        | (go_at_call 7; (with_reducible refine k5.mono ?_); rintro e w7 ⟨rfl, c5⟩; have H5 := Lib.hid (H4.out.trans (c5.mono H4.out.size)); obtain ⟨x6, y6⟩ := X6.out _ H5.out; have k6 := K6.out _ (BB.out _ H5.out); clear k5 c5))
       exact bodyPost_ret (results_tmp rfl _ _ _) rfl ⟨by rw [HD.out]; rfl, BB.out _ H5.out⟩
      | true =>
       cases b6 with
       | false =>
        have HD := Lib.hid (eqB_false.2 fun e => by have := E6.out.2 (HE.out.1 e).2.2.1.2.2; cases this)
        go_wp2_with (first
         | (go_at_call 36; (with_reducible refine k1.mono ?_); rintro e w3 ⟨rfl, c1⟩; have H1 := Lib.hid c1; obtain ⟨x2, y2⟩ := X2.out _ H1.out; have k2 := K2.out _ (BB.out _ H1.out); clear k1 c1)
         | (go_at_call 37; (with_reducible refine k2.mono ?_); rintro e w4 ⟨rfl, c2⟩; have H2 := Lib.hid (H1.out.trans (c2.mono H1.out.size)); obtain ⟨x3, y3⟩ := X3.out _ H2.out; have k3 := K3.out _ (BB.out _ H2.out); clear k2 c2)
         | (go_at_call 37; (with_reducible refine k3.mono ?_); rintro e w5 ⟨rfl, c3⟩; have H3 := Lib.hid (H2.out.trans (c3.mono H2.out.size)); obtain ⟨x4, y4⟩ := X4.out _ H3.out; have k4 := K4.out _ (BB.out _ H3.out); clear k3 c3)
         | (go_at_call 7; (with_reducible refine k4.mono ?_); rintro e w6 ⟨rfl, c4⟩; have H4 := Lib.hid (H3.out.trans (c4.mono H3.out.size)); obtain ⟨x5, y5⟩ := X5.out _ H4.out; have k5 := K5.out _ (BB.out _ H4.out); clear k4 c4)
         | (go_at_call 7; (with_reducible refine k5.mono ?_); rintro e w7 ⟨rfl, c5⟩; have H5 := Lib.hid (H4.out.trans (c5.mono H4.out.size)); obtain ⟨x6, y6⟩ := X6.out _ H5.out; have k6 := K6.out _ (BB.out _ H5.out); clear k5 c5)
         | (go_at_call 7; (with_reducible refine k6.mono ?_); rintro e w8 ⟨rfl, c6⟩; have H6 := Lib.hid (H5.out.trans (c6.mono H5.out.size)); clear k6 c6))
        exact bodyPost_ret (results_tmp rfl _ _ _) rfl ⟨by rw [HD.out]; rfl, BB.out _ H6.out⟩
       | true =>
        have HD := Lib.hid (eqB_true.2 (HE.out.2 ⟨E1.out.1 rfl, ⟨E2.out.1 rfl, E3.out.1 rfl⟩, ⟨E4.out.1 rfl, E5.out.1 rfl, E6.out.1 rfl⟩, rfl⟩))
        go_wp2_with (first
         | (go_at_call 36; (with_reducible refine k1.mono ?_); rintro e w3 ⟨rfl, c1⟩; have H1 := Lib.hid c1; obtain ⟨x2, y2⟩ := X2.out _ H1.out; have k2 := K2.out _ (BB.out _ H1.out); clear k1 c1)
         | (go_at_call 37; (with_reducible refine k2.mono ?_); rintro e w4 ⟨rfl, c2⟩; have H2 := Lib.hid (H1.out.trans (c2.mono H1.out.size)); obtain ⟨x3, y3⟩ := X3.out _ H2.out; have k3 := K3.out _ (BB.out _ H2.out); clear k2 c2)
         | (go_at_call 37; (with_reducible refine k3.mono ?_); rintro e w5 ⟨rfl, c3⟩; have H3 := Lib.hid (H2.out.trans (c3.mono H2.out.size)); obtain ⟨x4, y4⟩ := X4.out _ H3.out; have k4 := K4.out _ (BB.out _ H3.out); clear k3 c3)
         | (go_at_call 7; (with_reducible refine k4.mono ?_); rintro e w6 ⟨rfl, c4⟩; have H4 := Lib.hid (H3.out.trans (c4.mono H3.out.size)); obtain ⟨x5, y5⟩ := X5.out _ H4.out; have k5 := K5.out _ (BB.out _ H4.out); clear k4 c4)
         | (go_at_call 7; (with_reducible refine k5.mono ?_); rintro e w7 ⟨rfl, c5⟩; have H5 := Lib.hid (H4.out.trans (c5.mono H4.out.size)); obtain ⟨x6, y6⟩ := X6.out _ H5.out; have k6 := K6.out _ (BB.out _ H5.out); clear k5 c5)
         | (go_at_call 7; (with_reducible refine k6.mono ?_); rintro e w8 ⟨rfl, c6⟩; have H6 := Lib.hid (H5.out.trans (c6.mono H5.out.size)); clear k6 c6))
        exact bodyPost_ret (results_tmp rfl _ _ _) rfl ⟨by rw [HD.out]; rfl, BB.out _ H6.out⟩
 ·have hk1 : ((xk : Int) == (yk : Int)) = false := by simp; omega
  have HD := Lib.hid (eqB_false.2 fun e => hk (HE.out.1 e).2.2.2)
  clear k1
  go_wp2
  exact bodyPost_ret (results_tmp rfl _ _ _) rfl ⟨by rw [HD.out]; rfl, HA.out⟩
theorem samF_step (n : Nat) (H : SamF n) : SamF (n + 1) := by
 intro u v cs ds F G w h h2 hF hG
 have k := rowC_any n (oneC_any n H (rowW_any n (oneW_any n (rowP_any n (oneP_any n H))))) u v cs ds F G w h h2 hF hG
 obtain ⟨ao, cap, rfl, -⟩ := cos_shape h
 obtain ⟨bo, cap2, rfl, -⟩ := cos_shape h2
 generalize cs.length = N at *
 generalize ds.length = M at *
 clear h h2 hF hG H
 go_enter Tryz.func7, Tryz.ntmps7
 go_wp2_with (go_at_call 17; (with_reducible refine k.mono ?_); rintro e w5 ⟨rfl, b5⟩; have F5 := Lib.hid b5; clear b5 k)
 exact bodyPost_ret (results_tmp rfl _ _ _) rfl ⟨rfl, F5.out⟩
theorem equalC_nil (w : World) : Calls Tryz.prog 17 #[.slice none 0 0, .slice none 0 0, .func (.func 18) #[] #[]] w fun e w' => e = .returned (.bool true) ∧ Below w.heap.size w w' := by
 go_enter Tryz.func17, Tryz.ntmps17
 go_wp2
 go_loopg [17] 1 (fun k i wr => i = .int .i64 0 ∧ wr = w)
 case atStart => exact ⟨rfl, rfl⟩
 case round =>
  obtain ⟨rfl, rfl⟩ := hrel
  go_wp2
  exact bodyPost_ret (results_tmp rfl _ _ _) rfl ⟨rfl, Below.refl _ _⟩
theorem samF_zero : SamF 0 := by
 intro u v cs ds F G w h h2 hF hG
 obtain ⟨rfl, rfl⟩ := h
 obtain ⟨rfl, rfl⟩ := h2
 have k := equalC_nil w
 rw [eqB_self]
 clear hF hG
 go_enter Tryz.func7, Tryz.ntmps7
 go_wp2_with (go_at_call 17; (with_reducible refine k.mono ?_); rintro e w5 ⟨rfl, b5⟩; have F5 := Lib.hid b5; clear b5 k)
 exact bodyPost_ret (results_tmp rfl _ _ _) rfl ⟨rfl, F5.out⟩
theorem samF_any : ∀ n, SamF n
 | 0 => samF_zero
 | n + 1 => samF_step n (samF_any n)
end Go.Proofs.YtelfgobjnibooaaGreatDoor
