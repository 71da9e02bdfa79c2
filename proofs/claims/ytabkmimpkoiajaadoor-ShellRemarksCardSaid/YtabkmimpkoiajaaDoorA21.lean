/- Packed texts: ShSame2. What each of them proves stands above its theorems; the conditions stand in these. -/
import Derived.Test.YtabkmimpkoiajaaDoorA20
namespace Go.Proofs.YtabkmimpkoiajaaDoor
open Go.RowKit Go.Lib

/-- Two commands that have been copied. -/
theorem two_cmds (w : World) (a0 a1 a2 a3 a4 a5 a6 b0 b1 b2 b3 b4 b5 b6 : Value) : ((w.alloc (.cells #[a0, a1, a2, a3, a4, a5, a6] 33)).alloc (.cells #[b0, b1, b2, b3, b4, b5, b6] 33)).heap.size = w.heap.size + 2 ∧
    (((w.alloc (.cells #[a0, a1, a2, a3, a4, a5, a6] 33)).alloc (.cells #[b0, b1, b2, b3, b4, b5, b6] 33)).cell? ⟨w.heap.size, 0, none⟩ = some a0 ∧ ((w.alloc (.cells #[a0, a1, a2, a3, a4, a5, a6] 33)).alloc (.cells #[b0, b1, b2, b3, b4, b5, b6] 33)).cell? ⟨w.heap.size, 1, none⟩ = some a1 ∧ ((w.alloc (.cells #[a0, a1, a2, a3, a4, a5, a6] 33)).alloc (.cells #[b0, b1, b2, b3, b4, b5, b6] 33)).cell? ⟨w.heap.size, 2, none⟩ = some a2 ∧ ((w.alloc (.cells #[a0, a1, a2, a3, a4, a5, a6] 33)).alloc (.cells #[b0, b1, b2, b3, b4, b5, b6] 33)).cell? ⟨w.heap.size, 3, none⟩ = some a3 ∧ ((w.alloc (.cells #[a0, a1, a2, a3, a4, a5, a6] 33)).alloc (.cells #[b0, b1, b2, b3, b4, b5, b6] 33)).cell? ⟨w.heap.size, 4, none⟩ = some a4 ∧ ((w.alloc (.cells #[a0, a1, a2, a3, a4, a5, a6] 33)).alloc (.cells #[b0, b1, b2, b3, b4, b5, b6] 33)).cell? ⟨w.heap.size, 5, none⟩ = some a5 ∧ ((w.alloc (.cells #[a0, a1, a2, a3, a4, a5, a6] 33)).alloc (.cells #[b0, b1, b2, b3, b4, b5, b6] 33)).cell? ⟨w.heap.size, 6, none⟩ = some a6) ∧
    (((w.alloc (.cells #[a0, a1, a2, a3, a4, a5, a6] 33)).alloc (.cells #[b0, b1, b2, b3, b4, b5, b6] 33)).cell? ⟨w.heap.size + 1, 0, none⟩ = some b0 ∧ ((w.alloc (.cells #[a0, a1, a2, a3, a4, a5, a6] 33)).alloc (.cells #[b0, b1, b2, b3, b4, b5, b6] 33)).cell? ⟨w.heap.size + 1, 1, none⟩ = some b1 ∧ ((w.alloc (.cells #[a0, a1, a2, a3, a4, a5, a6] 33)).alloc (.cells #[b0, b1, b2, b3, b4, b5, b6] 33)).cell? ⟨w.heap.size + 1, 2, none⟩ = some b2 ∧ ((w.alloc (.cells #[a0, a1, a2, a3, a4, a5, a6] 33)).alloc (.cells #[b0, b1, b2, b3, b4, b5, b6] 33)).cell? ⟨w.heap.size + 1, 3, none⟩ = some b3 ∧ ((w.alloc (.cells #[a0, a1, a2, a3, a4, a5, a6] 33)).alloc (.cells #[b0, b1, b2, b3, b4, b5, b6] 33)).cell? ⟨w.heap.size + 1, 4, none⟩ = some b4 ∧ ((w.alloc (.cells #[a0, a1, a2, a3, a4, a5, a6] 33)).alloc (.cells #[b0, b1, b2, b3, b4, b5, b6] 33)).cell? ⟨w.heap.size + 1, 5, none⟩ = some b5 ∧ ((w.alloc (.cells #[a0, a1, a2, a3, a4, a5, a6] 33)).alloc (.cells #[b0, b1, b2, b3, b4, b5, b6] 33)).cell? ⟨w.heap.size + 1, 6, none⟩ = some b6) := by
  have main : ∀ O1 O2 : Obj, ((w.alloc O1).alloc O2).heap.size = w.heap.size + 2 ∧ ((w.alloc O1).alloc O2).heap[w.heap.size]? = some O1 ∧ ((w.alloc O1).alloc O2).heap[w.heap.size + 1]? = some O2 := fun O1 O2 => by
    have z1 : (w.alloc O1).heap.size = w.heap.size + 1 := by simp
    have h1 := heap_alloc_new w O1
    have h2 := heap_alloc_new (w.alloc O1) O2
    rw [z1] at h2
    refine ⟨by simp, ?_, h2⟩
    rw [Below.heap_alloc _ _ _ (by omega)]; exact h1
  obtain ⟨z, h1, h2⟩ := main (.cells #[a0, a1, a2, a3, a4, a5, a6] 33) (.cells #[b0, b1, b2, b3, b4, b5, b6] 33)
  exact ⟨z, ⟨by rw [cell_of_heap h1]; rfl, by rw [cell_of_heap h1]; rfl, by rw [cell_of_heap h1]; rfl, by rw [cell_of_heap h1]; rfl, by rw [cell_of_heap h1]; rfl, by rw [cell_of_heap h1]; rfl, by rw [cell_of_heap h1]; rfl⟩, ⟨by rw [cell_of_heap h2]; rfl, by rw [cell_of_heap h2]; rfl, by rw [cell_of_heap h2]; rfl, by rw [cell_of_heap h2]; rfl, by rw [cell_of_heap h2]; rfl, by rw [cell_of_heap h2]; rfl, by rw [cell_of_heap h2]; rfl⟩⟩
set_option maxHeartbeats 8000000 in
set_option maxRecDepth 20000 in
theorem same_step (n : Nat) (H : SamOk n) : SamOk (n + 1) := by
  intro u v xs ys F G w h h2 hF hG
  have HH := Lib.hid (sameWs_any n H)
  obtain ⟨ao, cap, rfl, hcap⟩ := cos_shape h
  obtain ⟨bo, cap2, rfl, hcap2⟩ := cos_shape h2
  have hs1 := cos_short h
  have hs2 := cos_short h2
  unfold maxLen at hs1 hs2
  by_cases hN : xs.length = ys.length
  · have HQ := Lib.hid (And.intro h h2)
    have HF := Lib.hid (And.intro hF hG)
    have KS := Lib.hid H
    obtain ⟨N, hM⟩ : ∃ N, N = xs.length := ⟨_, rfl⟩
    have hM2 : N = ys.length := by omega
    have HN := Lib.hid (And.intro hM.symm hM2.symm)
    rw [← hM] at hs1 hcap ⊢
    rw [← hM2] at hs2 hcap2 ⊢
    have h1 : ((N : Int) != (N : Int)) = false := by simp
    have hNb : (N : Int) ≤ 9223372036854775807 := by omega
    clear h h2 hN hM hM2 hs1 hs2 hF hG H
    go_enter Tryd.func15, Tryd.ntmps15
    go_wp2
    go_loopg [5] (N + 1) (fun k i wr => ∃ (j : Nat), i = .int .i64 j ∧ j ≤ N ∧ Hid (k = N + 1 - j) ∧ Hid (UpTo xs ys j) ∧ Hid (Below w.heap.size w wr))
    case atStart => exact ⟨0, rfl, by omega, rfl, fun q hq => by omega, Below.refl _ _⟩
    case round =>
      obtain ⟨j, rfl, hj, HK, HS, HB⟩ := hrel
      by_cases hlt : j < N
      · obtain ⟨x, hx⟩ := row_short HN.out.1 hlt
        obtain ⟨y, hy⟩ := row_short HN.out.2 hlt
        obtain ⟨g1, c1, an, nn, cn, av, nv, cv, aw, nw, cw, aa, na, ca, ab, nb, cb, ac, nc, cc, e, -, hg1, ⟨a0, a1, a2, a3, a4, a5, a6⟩, -, -, -, -, -, -, q1, q2, q3, q4, q5, q6⟩ := cmd_at HQ.out.1 hx
        injection e with ee e2 e3
        subst ee
        clear e2 e3
        obtain ⟨g2, c2, bn, mn, dn, bv, mv, dv, bw, mw, dw, ba, ma, da, bb, mb, db, bc, mc, dc, e, -, hg2, ⟨b0, b1, b2, b3, b4, b5, b6⟩, -, -, -, -, -, -, r1, r2, r3, r4, r5, r6⟩ := cmd_at HQ.out.2 hy
        injection e with ee e2 e3
        subst ee
        clear e2 e3
        have a0 := below_cellS HB.out hg1 a0
        have a1 := below_cellS HB.out hg1 a1
        have a2 := below_cellS HB.out hg1 a2
        have a3 := below_cellS HB.out hg1 a3
        have a4 := below_cellS HB.out hg1 a4
        have a5 := below_cellS HB.out hg1 a5
        have a6 := below_cellS HB.out hg1 a6
        have hI : IntKind.i64.wrap ((j : Int) + 1) = ((j + 1 : Nat) : Int) := by rw [IntWalk.i64_in _ (by omega)]; omega
        have HXY := Lib.hid (And.intro hx hy)
        have hE := Lib.hid (co_eq x y)
        have LOW := Lib.hid (fun (hne : x ≠ y) => row_ne hx hy hne)
        have KN := Lib.hid (fun (w1 : World) (hb : Below w.heap.size w w1) => sameN_any (.slice an nn cn) (.slice bn mn dn) x.n y.n F G w1 (val_below q1 HF.out.1 hb) (val_below r1 HF.out.2 hb))
        have KV := Lib.hid (fun (w1 : World) (hb : Below w.heap.size w w1) => HH.out (.slice av nv cv) (.slice bv mv dv) x.v y.v F G w1 (val_below q2 HF.out.1 hb) (val_below r2 HF.out.2 hb) (fun g hg => Nat.lt_of_lt_of_le (HF.out.1 g hg) hb.size) (fun g hg => Nat.lt_of_lt_of_le (HF.out.2 g hg) hb.size))
        have KW := Lib.hid (fun (w1 : World) (hb : Below w.heap.size w w1) => HH.out (.slice aw nw cw) (.slice bw mw dw) x.w y.w F G w1 (val_below q3 HF.out.1 hb) (val_below r3 HF.out.2 hb) (fun g hg => Nat.lt_of_lt_of_le (HF.out.1 g hg) hb.size) (fun g hg => Nat.lt_of_lt_of_le (HF.out.2 g hg) hb.size))
        have KA := Lib.hid (fun (w1 : World) (hb : Below w.heap.size w w1) => KS.out (.slice aa na ca) (.slice ba ma da) x.a y.a F G w1 (val_below q4 HF.out.1 hb) (val_below r4 HF.out.2 hb) (fun g hg => Nat.lt_of_lt_of_le (HF.out.1 g hg) hb.size) (fun g hg => Nat.lt_of_lt_of_le (HF.out.2 g hg) hb.size))
        have KB := Lib.hid (fun (w1 : World) (hb : Below w.heap.size w w1) => KS.out (.slice ab nb cb) (.slice bb mb db) x.b y.b F G w1 (val_below q5 HF.out.1 hb) (val_below r5 HF.out.2 hb) (fun g hg => Nat.lt_of_lt_of_le (HF.out.1 g hg) hb.size) (fun g hg => Nat.lt_of_lt_of_le (HF.out.2 g hg) hb.size))
        have KC := Lib.hid (fun (w1 : World) (hb : Below w.heap.size w w1) => KS.out (.slice ac nc cc) (.slice bc mc dc) x.c y.c F G w1 (val_below q6 HF.out.1 hb) (val_below r6 HF.out.2 hb) (fun g hg => Nat.lt_of_lt_of_le (HF.out.1 g hg) hb.size) (fun g hg => Nat.lt_of_lt_of_le (HF.out.2 g hg) hb.size))
        obtain ⟨bN, hbN⟩ : ∃ z, z = eqB x.n y.n := ⟨_, rfl⟩
        obtain ⟨bV, hbV⟩ : ∃ z, z = eqB x.v y.v := ⟨_, rfl⟩
        obtain ⟨bW, hbW⟩ : ∃ z, z = eqB x.w y.w := ⟨_, rfl⟩
        obtain ⟨bA, hbA⟩ : ∃ z, z = eqB x.a y.a := ⟨_, rfl⟩
        obtain ⟨bB, hbB⟩ : ∃ z, z = eqB x.b y.b := ⟨_, rfl⟩
        obtain ⟨bC, hbC⟩ : ∃ z, z = eqB x.c y.c := ⟨_, rfl⟩
        rw [← hbN] at KN
        rw [← hbV] at KV
        rw [← hbW] at KW
        rw [← hbA] at KA
        rw [← hbB] at KB
        rw [← hbC] at KC
        have HBS := Lib.hid (And.intro hbN (And.intro hbV (And.intro hbW (And.intro hbA (And.intro hbB hbC)))))
        obtain ⟨xk, hxk⟩ : ∃ z, z = x.k := ⟨_, rfl⟩
        obtain ⟨yk, hyk⟩ : ∃ z, z = y.k := ⟨_, rfl⟩
        rw [← hxk] at a0 hE
        rw [← hyk] at b0 hE
        clear hxk hyk hx hy hbN hbV hbW hbA hbB hbC q1 q2 q3 q4 q5 q6 r1 r2 r3 r4 r5 r6
        have A1 : Below w.heap.size w (wr.alloc (Obj.cells #[.int .i64 (xk : Int), .slice an nn cn, .slice av nv cv, .slice aw nw cw, .slice aa na ca, .slice ab nb cb, .slice ac nc cc] 33)) := HB.out.alloc HB.out.size _
        have b0 := below_cellS A1 hg2 b0
        have b1 := below_cellS A1 hg2 b1
        have b2 := below_cellS A1 hg2 b2
        have b3 := below_cellS A1 hg2 b3
        have b4 := below_cellS A1 hg2 b4
        have b5 := below_cellS A1 hg2 b5
        have b6 := below_cellS A1 hg2 b6
        have A2 : Below w.heap.size w ((wr.alloc (Obj.cells #[.int .i64 (xk : Int), .slice an nn cn, .slice av nv cv, .slice aw nw cw, .slice aa na ca, .slice ab nb cb, .slice ac nc cc] 33)).alloc (Obj.cells #[.int .i64 (yk : Int), .slice bn mn dn, .slice bv mv dv, .slice bw mw dw, .slice ba ma da, .slice bb mb db, .slice bc mc dc] 33)) := A1.alloc A1.size _
        have TWO := two_cmds wr (.int .i64 (xk : Int)) (.slice an nn cn) (.slice av nv cv) (.slice aw nw cw) (.slice aa na ca) (.slice ab nb cb) (.slice ac nc cc) (.int .i64 (yk : Int)) (.slice bn mn dn) (.slice bv mv dv) (.slice bw mw dw) (.slice ba ma da) (.slice bb mb db) (.slice bc mc dc)
        go_upto_region 8 with fail
        generalize (wr.alloc (Obj.cells #[.int .i64 (xk : Int), .slice an nn cn, .slice av nv cv, .slice aw nw cw, .slice aa na ca, .slice ab nb cb, .slice ac nc cc] 33)).alloc (Obj.cells #[.int .i64 (yk : Int), .slice bn mn dn, .slice bv mv dv, .slice bw mw dw, .slice ba ma da, .slice bb mb db, .slice bc mc dc] 33) = W2 at A2 TWO ⊢
        obtain ⟨z2, ⟨x0, x1, x2, x3, x4, x5, x6⟩, ⟨y0, y1, y2, y3, y4, y5, y6⟩⟩ := TWO
        have A2H := Lib.hid A2
        have X23 := Lib.hid (fun (w5 : World) (hb : Below W2.heap.size W2 w5) => (And.intro (below_cellS hb (by omega) x2) (below_cellS hb (by omega) x3)))
        have Y23 := Lib.hid (fun (w5 : World) (hb : Below W2.heap.size W2 w5) => (And.intro (below_cellS hb (by omega) y2) (below_cellS hb (by omega) y3)))
        have X456 := Lib.hid (fun (w5 : World) (hb : Below W2.heap.size W2 w5) => (And.intro (below_cellS hb (by omega) x4) (And.intro (below_cellS hb (by omega) x5) (below_cellS hb (by omega) x6))))
        have Y456 := Lib.hid (fun (w5 : World) (hb : Below W2.heap.size W2 w5) => (And.intro (below_cellS hb (by omega) y4) (And.intro (below_cellS hb (by omega) y5) (below_cellS hb (by omega) y6))))
        have X0 := Lib.hid (fun (w5 : World) (hb : Below W2.heap.size W2 w5) => (below_cellS hb (by omega) x0))
        have Y0 := Lib.hid (fun (w5 : World) (hb : Below W2.heap.size W2 w5) => (below_cellS hb (by omega) y0))
        have BB := Lib.hid (fun (w5 : World) (hb : Below W2.heap.size W2 w5) => A2H.out.trans (hb.mono A2H.out.size))
        clear a0 b0 a1 b1 a2 b2 a3 b3 a4 b4 a5 b5 a6 b6 A1 A2 x0 x2 x3 x4 x5 x6 y0 y2 y3 y4 y5 y6
        have KN2 := KN.out W2 A2H.out
        go_upto_region 9 with (go_at_call 28; (with_reducible refine KN2.mono ?_); rintro e w5 ⟨rfl, hb5⟩; have HB5 : Hid (Below W2.heap.size W2 w5) := hb5; clear hb5)
        go_cut [9] (fun s9 wx => s9 = .bool (bV && bW) ∧ Hid (Below W2.heap.size W2 wx))
        case first =>
          obtain ⟨v2, v3⟩ := X23.out w5 HB5.out
          obtain ⟨t2, t3⟩ := Y23.out w5 HB5.out
          have KV2 := KV.out w5 (BB.out _ HB5.out)
          cases bV with
          | false =>
            go_wp2_with (go_at_call 29; (with_reducible refine KV2.mono ?_); rintro e w6 ⟨rfl, hb6⟩; have HB6 := Lib.hid (HB5.out.trans (hb6.mono HB5.out.size)); clear hb6)
            go_meet
            case rel => exact ⟨rfl, HB6⟩
          | true =>
            go_wp2_with (go_at_call 29; first | ((with_reducible refine (KW.out _ (BB.out _ HB6.out)).mono ?_); rintro e w7 ⟨rfl, hb7⟩; have HB7 := Lib.hid (HB6.out.trans (hb7.mono HB6.out.size)); clear hb7) | ((with_reducible refine KV2.mono ?_); rintro e w6 ⟨rfl, hb6⟩; have HB6 := Lib.hid (HB5.out.trans (hb6.mono HB5.out.size)); obtain ⟨-, v3⟩ := X23.out w6 HB6.out; obtain ⟨-, t3⟩ := Y23.out w6 HB6.out; clear hb6))
            go_meet
            case rel => exact ⟨rfl, HB7⟩
        case rest =>
          obtain ⟨rfl, HB9⟩ := hcut
          go_upto_region 10 with fail
          go_cut [10] (fun s10 wx => s10 = .bool (bA && bB && bC) ∧ Hid (Below W2.heap.size W2 wx))
          case first =>
            obtain ⟨v4, v5, v6⟩ := X456.out wc HB9.out
            obtain ⟨t4, t5, t6⟩ := Y456.out wc HB9.out
            have KA2 := KA.out wc (BB.out _ HB9.out)
            cases bA with
            | false =>
              go_wp2_with (go_at_call 15; ((with_reducible refine KA2.mono ?_); rintro e w6 ⟨rfl, hb6⟩; have HB6 := Lib.hid (HB9.out.trans (hb6.mono HB9.out.size)); obtain ⟨-, v5, v6⟩ := X456.out w6 HB6.out; obtain ⟨-, t5, t6⟩ := Y456.out w6 HB6.out; clear hb6))
              go_meet
              case rel => exact ⟨rfl, HB6⟩
            | true =>
              cases bB with
              | false =>
                go_wp2_with (go_at_call 15; first | ((with_reducible refine (KB.out _ (BB.out _ HB6.out)).mono ?_); rintro e w7 ⟨rfl, hb7⟩; have HB7 := Lib.hid (HB6.out.trans (hb7.mono HB6.out.size)); obtain ⟨-, -, v6⟩ := X456.out w7 HB7.out; obtain ⟨-, -, t6⟩ := Y456.out w7 HB7.out; clear hb7) | ((with_reducible refine KA2.mono ?_); rintro e w6 ⟨rfl, hb6⟩; have HB6 := Lib.hid (HB9.out.trans (hb6.mono HB9.out.size)); obtain ⟨-, v5, v6⟩ := X456.out w6 HB6.out; obtain ⟨-, t5, t6⟩ := Y456.out w6 HB6.out; clear hb6))
                go_meet
                case rel => exact ⟨rfl, HB7⟩
              | true =>
                go_wp2_with (go_at_call 15; first | ((with_reducible refine (KC.out _ (BB.out _ HB7.out)).mono ?_); rintro e w8 ⟨rfl, hb8⟩; have HB8 := Lib.hid (HB7.out.trans (hb8.mono HB7.out.size)); clear hb8) | ((with_reducible refine (KB.out _ (BB.out _ HB6.out)).mono ?_); rintro e w7 ⟨rfl, hb7⟩; have HB7 := Lib.hid (HB6.out.trans (hb7.mono HB6.out.size)); obtain ⟨-, -, v6⟩ := X456.out w7 HB7.out; obtain ⟨-, -, t6⟩ := Y456.out w7 HB7.out; clear hb7) | ((with_reducible refine KA2.mono ?_); rintro e w6 ⟨rfl, hb6⟩; have HB6 := Lib.hid (HB9.out.trans (hb6.mono HB9.out.size)); obtain ⟨-, v5, v6⟩ := X456.out w6 HB6.out; obtain ⟨-, t5, t6⟩ := Y456.out w6 HB6.out; clear hb6))
                go_meet
                case rel => exact ⟨rfl, HB8⟩
          case rest =>
            obtain ⟨rfl, HB10⟩ := hcut
            have v0 := X0.out _ HB10.out
            have t0 := Y0.out _ HB10.out
            have HBE := Lib.hid (BB.out _ HB10.out)
            obtain ⟨hN1, hV1, hW1, hA1, hB1, hC1⟩ := HBS.out
            have HVW := Lib.hid (show (bV && bW) = true ↔ x.v = y.v ∧ x.w = y.w by rw [hV1, hW1, Bool.and_eq_true, eqB_true, eqB_true])
            have HABC := Lib.hid (show (bA && bB && bC) = true ↔ x.a = y.a ∧ x.b = y.b ∧ x.c = y.c by rw [hA1, hB1, hC1, Bool.and_eq_true, Bool.and_eq_true, eqB_true, eqB_true, eqB_true, and_assoc])
            have HNN := Lib.hid (show bN = true ↔ x.n = y.n by rw [hN1, eqB_true])
            clear hN1 hV1 hW1 hA1 hB1 hC1
            generalize (bV && bW) = P at HVW ⊢
            generalize (bA && bB && bC) = Q at HABC ⊢
            cases bN with
            | false =>
              have HD := Lib.hid (LOW.out fun e => (by have := HNN.out.2 (hE.out.1 e).1; cases this))
              go_wp2
              exact bodyPost_ret (results_tmp rfl _ _ _) rfl ⟨by rw [HD.out]; rfl, HBE.out⟩
            | true =>
              cases P with
              | false =>
                have HD := Lib.hid (LOW.out fun e => (by have := HVW.out.2 (hE.out.1 e).2.1; cases this))
                go_wp2
                exact bodyPost_ret (results_tmp rfl _ _ _) rfl ⟨by rw [HD.out]; rfl, HBE.out⟩
              | true =>
                cases Q with
                | false =>
                  have HD := Lib.hid (LOW.out fun e => (by have := HABC.out.2 (hE.out.1 e).2.2.1; cases this))
                  go_wp2
                  exact bodyPost_ret (results_tmp rfl _ _ _) rfl ⟨by rw [HD.out]; rfl, HBE.out⟩
                | true =>
                  by_cases hk : xk = yk
                  · subst hk
                    have hk1 : ((xk : Int) != (xk : Int)) = false := by simp
                    have HD := Lib.hid (hE.out.2 ⟨HNN.out.1 rfl, HVW.out.1 rfl, HABC.out.1 rfl, rfl⟩)
                    go_wp2
                    go_roundg (N - j)
                    case measure => have := HK.out; omega
                    case rel => exact ⟨j + 1, by go_num, by omega, by show _ = _; omega, HS.out.succ HXY.out.1 HXY.out.2 HD.out, HBE⟩
                  · have hk1 : ((xk : Int) != (yk : Int)) = true := by simp; omega
                    have HD := Lib.hid (LOW.out fun e => hk (hE.out.1 e).2.2.2)
                    go_wp2
                    exact bodyPost_ret (results_tmp rfl _ _ _) rfl ⟨by rw [HD.out]; rfl, HBE.out⟩
      · have hd : decide ((j : Int) < (N : Int)) = false := by simp; omega
        have HD := Lib.hid (eqB_true.2 (row_eq HN.out.1 HN.out.2 fun q hq => HS.out q (by omega)))
        go_wp2
        exact bodyPost_ret (results_tmp rfl _ _ _) rfl ⟨by rw [HD.out]; rfl, HB.out⟩
  · rw [eqB_len hN]
    have h1 : ((xs.length : Int) != (ys.length : Int)) = true := by simp; omega
    clear h h2
    generalize xs.length = N at *
    generalize ys.length = M at *
    go_enter Tryd.func15, Tryd.ntmps15
    go_wp2
    exact bodyPost_ret (results_tmp rfl _ _ _) rfl ⟨rfl, Below.refl _ _⟩
set_option maxRecDepth 20000 in
theorem same_zero : SamOk 0 := by
  intro u v xs ys F G w h h2 hF hG
  obtain ⟨rfl, rfl⟩ := h
  obtain ⟨rfl, rfl⟩ := h2
  rw [eqB_self]
  go_enter Tryd.func15, Tryd.ntmps15
  go_wp2
  go_loopg [5] 1 (fun k i wr => i = .int .i64 0 ∧ wr = w)
  case atStart => exact ⟨rfl, rfl⟩
  case round =>
    obtain ⟨rfl, rfl⟩ := hrel
    go_wp2
    exact bodyPost_ret (results_tmp rfl _ _ _) rfl ⟨rfl, Below.refl _ _⟩
/-- The document's Same, of any two rows of commands. -/
theorem same_all : ∀ n, SamOk n
  | 0 => same_zero
  | n + 1 => same_step n (same_all n)
end Go.Proofs.YtabkmimpkoiajaaDoor
