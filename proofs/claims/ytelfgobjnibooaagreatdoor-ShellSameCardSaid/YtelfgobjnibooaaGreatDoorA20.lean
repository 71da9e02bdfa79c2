/- Packed texts: ShSame, ShEqF. What each of them proves stands above its theorems; the conditions stand in these. -/
import Derived.Deep.CutBlock
import Derived.Deep.DeepCutAuto
import Derived.Deep.LoopGhost
import Derived.Test.YtelfgobjnibooaaGreatDoorA1
import Derived.Test.YtelfgobjnibooaaGreatDoorA13
namespace Go.Proofs.YtelfgobjnibooaaGreatDoor
open Go.RowKit Go.Lib
set_option maxHeartbeats 4000000 in
set_option maxRecDepth 20000 in
theorem sameN_any (u v : Value) (xs ys : List (List UInt8)) (F G : Nat → Prop) (w : World) (h : StrV.q F w u xs) (h2 : StrV.q G w v ys) :
  Calls Tryz.prog 19 #[u, v] w fun e w' => e = .returned (.bool (eqB xs ys)) ∧ Below w.heap.size w w' := by
 obtain ⟨ao, cap, rfl, hcap⟩ := str_shape h
 obtain ⟨bo, cap2, rfl, hcap2⟩ := str_shape h2
 have hs1 := RowM.short h
 have hs2 := RowM.short h2
 unfold maxLen at hs1 hs2
 by_cases hN : xs.length = ys.length
 ·have HQ := Lib.hid (And.intro h h2)
  obtain ⟨N, hM⟩ : ∃ N, N = xs.length := ⟨_, rfl⟩
  have hM2 : N = ys.length := by omega
  have HN := Lib.hid (And.intro hM.symm hM2.symm)
  rw [← hM] at hs1 hcap ⊢
  rw [← hM2] at hs2 hcap2 ⊢
  have h1 : ((N : Int) != (N : Int)) = false := by simp
  have hNb : (N : Int) ≤ 9223372036854775807 := by omega
  clear h h2 hN hM hM2 hs1 hs2
  go_enter Tryz.func19, Tryz.ntmps19
  go_wp2
  go_loopg [5] (N + 1) (fun k i wr => ∃ (j : Nat), i = .int .i64 j ∧ j ≤ N ∧ Hid (k = N + 1 - j) ∧ Hid (∀ q, q < j → xs[q]? = ys[q]?) ∧ Hid (Below w.heap.size w wr))
  case atStart => exact ⟨0, rfl, by omega, rfl, fun q hq => by omega, Below.refl _ _⟩
  case round =>
   obtain ⟨j, rfl, hj, HK, HS, HB⟩ := hrel
   by_cases hlt : j < N
   ·obtain ⟨x, hx⟩ := row_short HN.out.1 hlt
    obtain ⟨y, hy⟩ := row_short HN.out.2 hlt
    obtain ⟨g1, c1, e, -, hg1, d1⟩ := nm_at HQ.out.1 hx
    injection e with ee e2 e3
    subst ee
    clear e2 e3
    obtain ⟨g2, c2, e, -, hg2, d2⟩ := nm_at HQ.out.2 hy
    injection e with ee e2 e3
    subst ee
    clear e2 e3
    have ca := below_cellS HB.out hg1 d1
    have cb := below_cellS HB.out hg2 d2
    have hI : IntKind.i64.wrap ((j : Int) + 1) = ((j + 1 : Nat) : Int) := by rw [IntWalk.i64_in _ (by omega)]; omega
    have hq := str_eqS x y
    have HXY := Lib.hid (And.intro hx hy)
    clear hx hy d1 d2
    cases hc : eqB x y
    ·have HD := Lib.hid (row_ne HXY.out.1 HXY.out.2 (eqB_false.1 hc))
     rw [hc] at hq
     clear hc
     generalize (⟨x.toArray⟩ : ByteArray) = X at ca hq
     generalize (⟨y.toArray⟩ : ByteArray) = Y at cb hq
     go_wp2_with fail
     go_region
     all_goals
      go_wp2
      exact bodyPost_ret (results_tmp rfl _ _ _) rfl ⟨by rw [HD.out]; rfl, HB.out.drew⟩
    ·have HE := Lib.hid (eqB_true.1 hc)
     rw [hc] at hq
     clear hc
     generalize (⟨x.toArray⟩ : ByteArray) = X at ca hq
     generalize (⟨y.toArray⟩ : ByteArray) = Y at cb hq
     go_wp2_with fail
     go_region
     all_goals
      go_wp2
      go_roundg (N - j)
      case rel => exact ⟨j + 1, by go_num, by omega, by show _ = _; omega, fun q hq => by
       by_cases hqj : q = j
       ·rw [hqj, HXY.out.1, HXY.out.2, HE.out]
       ·exact HS.out q (by omega), HB.out.drew⟩
      case measure => have := HK.out; omega
   ·have hd : decide ((j : Int) < (N : Int)) = false := by simp; omega
    have HD := Lib.hid (eqB_true.2 (row_eq HN.out.1 HN.out.2 fun q hq => HS.out q (by omega)))
    go_wp2
    exact bodyPost_ret (results_tmp rfl _ _ _) rfl ⟨by rw [HD.out]; rfl, HB.out⟩
 ·rw [eqB_len hN]
  have h1 : ((xs.length : Int) != (ys.length : Int)) = true := by simp; omega
  clear h h2
  generalize xs.length = N at *
  generalize ys.length = M at *
  go_enter Tryz.func19, Tryz.ntmps19
  go_wp2
  exact bodyPost_ret (results_tmp rfl _ _ _) rfl ⟨rfl, Below.refl _ _⟩
theorem bool_ne : ∀ a b : Bool, a ≠ b → (a != b) = true := by decide
theorem two_parts (w : World) (a0 a1 a2 a3 a4 b0 b1 b2 b3 b4 : Value) : ((w.alloc (.cells #[a0, a1, a2, a3, a4] 42)).alloc (.cells #[b0, b1, b2, b3, b4] 42)).heap.size = w.heap.size + 2 ∧
  ((w.alloc (.cells #[a0, a1, a2, a3, a4] 42)).alloc (.cells #[b0, b1, b2, b3, b4] 42)).cell? ⟨w.heap.size, 0, none⟩ = some a0 ∧ ((w.alloc (.cells #[a0, a1, a2, a3, a4] 42)).alloc (.cells #[b0, b1, b2, b3, b4] 42)).cell? ⟨w.heap.size, 1, none⟩ = some a1 ∧ ((w.alloc (.cells #[a0, a1, a2, a3, a4] 42)).alloc (.cells #[b0, b1, b2, b3, b4] 42)).cell? ⟨w.heap.size, 2, none⟩ = some a2 ∧ ((w.alloc (.cells #[a0, a1, a2, a3, a4] 42)).alloc (.cells #[b0, b1, b2, b3, b4] 42)).cell? ⟨w.heap.size, 3, none⟩ = some a3 ∧ ((w.alloc (.cells #[a0, a1, a2, a3, a4] 42)).alloc (.cells #[b0, b1, b2, b3, b4] 42)).cell? ⟨w.heap.size, 4, none⟩ = some a4 ∧
  ((w.alloc (.cells #[a0, a1, a2, a3, a4] 42)).alloc (.cells #[b0, b1, b2, b3, b4] 42)).cell? ⟨w.heap.size + 1, 0, none⟩ = some b0 ∧ ((w.alloc (.cells #[a0, a1, a2, a3, a4] 42)).alloc (.cells #[b0, b1, b2, b3, b4] 42)).cell? ⟨w.heap.size + 1, 1, none⟩ = some b1 ∧ ((w.alloc (.cells #[a0, a1, a2, a3, a4] 42)).alloc (.cells #[b0, b1, b2, b3, b4] 42)).cell? ⟨w.heap.size + 1, 2, none⟩ = some b2 ∧ ((w.alloc (.cells #[a0, a1, a2, a3, a4] 42)).alloc (.cells #[b0, b1, b2, b3, b4] 42)).cell? ⟨w.heap.size + 1, 3, none⟩ = some b3 ∧ ((w.alloc (.cells #[a0, a1, a2, a3, a4] 42)).alloc (.cells #[b0, b1, b2, b3, b4] 42)).cell? ⟨w.heap.size + 1, 4, none⟩ = some b4 := by
 have main : ∀ O1 O2 : Obj, ((w.alloc O1).alloc O2).heap.size = w.heap.size + 2 ∧ ((w.alloc O1).alloc O2).heap[w.heap.size]? = some O1 ∧ ((w.alloc O1).alloc O2).heap[w.heap.size + 1]? = some O2 := fun O1 O2 => by
  have z1 : (w.alloc O1).heap.size = w.heap.size + 1 := by simp
  have h1 := heap_alloc_new w O1
  have h2 := heap_alloc_new (w.alloc O1) O2
  rw [z1] at h2
  refine ⟨by simp, ?_, h2⟩
  rw [Below.heap_alloc _ _ _ (by omega)]; exact h1
 obtain ⟨z, h1, h2⟩ := main (.cells #[a0, a1, a2, a3, a4] 42) (.cells #[b0, b1, b2, b3, b4] 42)
 exact ⟨z, by rw [cell_of_heap h1]; rfl, by rw [cell_of_heap h1]; rfl, by rw [cell_of_heap h1]; rfl, by rw [cell_of_heap h1]; rfl, by rw [cell_of_heap h1]; rfl, by rw [cell_of_heap h2]; rfl, by rw [cell_of_heap h2]; rfl, by rw [cell_of_heap h2]; rfl, by rw [cell_of_heap h2]; rfl, by rw [cell_of_heap h2]; rfl⟩
def SamOk (n : Nat) : Prop := ∀ (u v : Value) (cs ds : List Co) (F G : Nat → Prop) (w : World), (cosV n).q F w u cs → (cosV n).q G w v ds → (∀ g, F g → g < w.heap.size) → (∀ g, G g → g < w.heap.size) →
 Calls Tryz.prog 8 #[u, v] w fun e w' => e = .returned (.bool (eqB cs ds)) ∧ Below w.heap.size w w'
def SamWs (n : Nat) : Prop := ∀ (u v : Value) (xs ys : List (List Pt)) (F G : Nat → Prop) (w : World), (WdsV (cosV n)).q F w u xs → (WdsV (cosV n)).q G w v ys → (∀ g, F g → g < w.heap.size) → (∀ g, G g → g < w.heap.size) →
 Calls Tryz.prog 20 #[u, v] w fun e w' => e = .returned (.bool (eqB xs ys)) ∧ Below w.heap.size w w'
def UpTo {α : Type} (a b : List α) (j : Nat) : Prop := ∀ q, q < j → a[q]? = b[q]?
theorem UpTo.succ {α : Type} {a b : List α} {j : Nat} {x y : α} (h : UpTo a b j) (ha : a[j]? = some x) (hb : b[j]? = some y) (he : x = y) : UpTo a b (j + 1) := fun q hq => by
 by_cases hqj : q = j
 ·rw [hqj, ha, hb, he]
 ·exact h q (by omega)
set_option maxHeartbeats 8000000 in
set_option maxRecDepth 20000 in
theorem sameWs_any (n : Nat) (H : SamOk n) : SamWs n := by
 intro u v xs ys F G w h h2 hF hG
 obtain ⟨ao, cap, rfl, hcap⟩ := wds_shape h
 obtain ⟨bo, cap2, rfl, hcap2⟩ := wds_shape h2
 have hs1 := RowM.short h
 have hs2 := RowM.short h2
 unfold maxLen at hs1 hs2
 by_cases hN : xs.length = ys.length
 ·have HQ := Lib.hid (And.intro h h2)
  have HF := Lib.hid (And.intro hF hG)
  have KS := Lib.hid H
  obtain ⟨N, hM⟩ : ∃ N, N = xs.length := ⟨_, rfl⟩
  have hM2 : N = ys.length := by omega
  have HN := Lib.hid (And.intro hM.symm hM2.symm)
  rw [← hM] at hs1 hcap ⊢
  rw [← hM2] at hs2 hcap2 ⊢
  have h1 : ((N : Int) != (N : Int)) = false := by simp
  have hNb : (N : Int) ≤ 9223372036854775807 := by omega
  clear h h2 hN hM hM2 hs1 hs2 hF hG H
  go_enter Tryz.func20, Tryz.ntmps20
  go_wp2
  go_loopg [5] (N + 1) (fun k i wr => ∃ (j : Nat), i = .int .i64 j ∧ j ≤ N ∧ Hid (k = N + 1 - j) ∧ Hid (UpTo xs ys j) ∧ Hid (Below w.heap.size w wr))
  case atStart => exact ⟨0, rfl, by omega, rfl, fun q hq => by omega, Below.refl _ _⟩
  case round =>
   obtain ⟨j, rfl, hj, HK, HS, HB⟩ := hrel
   by_cases hlt : j < N
   ·obtain ⟨x, hx⟩ := row_short HN.out.1 hlt
    obtain ⟨y, hy⟩ := row_short HN.out.2 hlt
    obtain ⟨g1, c1, xo, m1, p1, e, -, hg1, d1, hm1, hmp1, hx1⟩ := wd_at HQ.out.1 hx
    injection e with ee e2 e3
    subst ee
    clear e2 e3
    obtain ⟨g2, c2, yo, m2, p2, e, -, hg2, d2, hm2, hmp2, hy1⟩ := wd_at HQ.out.2 hy
    injection e with ee e2 e3
    subst ee
    clear e2 e3
    have ca := below_cellS HB.out hg1 d1
    have cb := below_cellS HB.out hg2 d2
    have hz1 := RowM.short hx1
    have hz2 := RowM.short hy1
    rw [← hm1] at hz1
    rw [← hm2] at hz2
    unfold maxLen at hz1 hz2
    have hI : IntKind.i64.wrap ((j : Int) + 1) = ((j + 1 : Nat) : Int) := by rw [IntWalk.i64_in _ (by omega)]; omega
    have HXY := Lib.hid (And.intro hx hy)
    have HX := Lib.hid (And.intro hx1 hy1)
    by_cases hmm : m1 = m2
    ·subst hmm
     have hne : ((m1 : Int) != (m1 : Int)) = false := by simp
     have HM := Lib.hid (And.intro hm1.symm hm2.symm)
     have hmi : (m1 : Int) ≤ 9223372036854775807 := by omega
     have HG := Lib.hid (And.intro (And.intro hg1 hg2) (And.intro d1 d2))
     clear hx hy d1 d2 hz1 hz2 hm1 hm2 hx1 hy1
     go_wp2_with fail
     go_region
     all_goals
      have HBd := Lib.hid HB.out.drew
      go_wp2
      go_loopg [6] (m1 + 1) (fun k i wz => ∃ (q : Nat), i = .int .i64 q ∧ q ≤ m1 ∧ Hid (k = m1 + 1 - q) ∧ Hid (UpTo x y q) ∧ Hid (Below w.heap.size w wz))
      case atStart => exact ⟨0, rfl, by omega, rfl, fun q hq => by omega, HBd⟩
      case round =>
       obtain ⟨q, rfl, hq, HK2, HS2, HB2⟩ := hrel
       have ca := below_cellS HB2.out HG.out.1.1 HG.out.2.1
       have cb := below_cellS HB2.out HG.out.1.2 HG.out.2.2
       by_cases hlq : q < m1
       ·obtain ⟨xp, hxp⟩ := row_short HM.out.1 hlq
        obtain ⟨yp, hyp⟩ := row_short HM.out.2 hlq
        obtain ⟨g3, c3, lo1, n1, r1, e, -, hg3, ⟨a0, a1, a2, a3, a4⟩, hn1, hnr1, hl1⟩ := pt_at HX.out.1 hxp
        injection e with ee e2 e3
        subst ee
        clear e2 e3
        obtain ⟨g4, c4, lo2, n2, r2, e, -, hg4, ⟨b0, b1, b2, b3, b4⟩, hn2, hnr2, hl2⟩ := pt_at HX.out.2 hyp
        injection e with ee e2 e3
        subst ee
        clear e2 e3
        have a0 := below_cellS HB2.out hg3 a0
        have a1 := below_cellS HB2.out hg3 a1
        have a2 := below_cellS HB2.out hg3 a2
        have a3 := below_cellS HB2.out hg3 a3
        have a4 := below_cellS HB2.out hg3 a4
        have KS2 := Lib.hid (fun (w1 : World) (hb : Below w.heap.size w w1) => KS.out (.slice lo1 n1 r1) (.slice lo2 n2 r2) xp.l yp.l F G w1 (val_below hl1 HF.out.1 hb) (val_below hl2 HF.out.2 hb) (fun g hg => Nat.lt_of_lt_of_le (HF.out.1 g hg) hb.size) (fun g hg => Nat.lt_of_lt_of_le (HF.out.2 g hg) hb.size))
        have hI2 : IntKind.i64.wrap ((q : Int) + 1) = ((q + 1 : Nat) : Int) := by rw [IntWalk.i64_in _ (by omega)]; omega
        have hqs := str_eqS xp.s yp.s
        have hqt := str_eqS xp.t yp.t
        have HP := Lib.hid (And.intro hxp hyp)
        have hE := pt_eq xp yp
        obtain ⟨xk, hxk⟩ : ∃ z, z = xp.k := ⟨_, rfl⟩
        obtain ⟨yk, hyk⟩ : ∃ z, z = yp.k := ⟨_, rfl⟩
        obtain ⟨xq, hxq⟩ : ∃ z, z = xp.q := ⟨_, rfl⟩
        obtain ⟨yq, hyq⟩ : ∃ z, z = yp.q := ⟨_, rfl⟩
        obtain ⟨XS, hXS⟩ : ∃ z : ByteArray, z = ⟨xp.s.toArray⟩ := ⟨_, rfl⟩
        obtain ⟨YS, hYS⟩ : ∃ z : ByteArray, z = ⟨yp.s.toArray⟩ := ⟨_, rfl⟩
        obtain ⟨XT, hXT⟩ : ∃ z : ByteArray, z = ⟨xp.t.toArray⟩ := ⟨_, rfl⟩
        obtain ⟨YT, hYT⟩ : ∃ z : ByteArray, z = ⟨yp.t.toArray⟩ := ⟨_, rfl⟩
        rw [← hxk] at a0 hE
        rw [← hyk] at b0 hE
        rw [← hxq] at a1 hE
        rw [← hyq] at b1 hE
        rw [← hXS, ← hYS] at hqs
        rw [← hXT, ← hYT] at hqt
        rw [← hXS] at a2
        rw [← hYS] at b2
        rw [← hXT] at a3
        rw [← hYT] at b3
        clear hxk hyk hxq hyq hXS hYS hXT hYT hl1 hl2 hn1 hn2 hxp hyp
        have A1 : Below w.heap.size w (wr.alloc (Obj.cells #[.int .i64 (xk : Int), .bool xq, .string XS, .string XT, .slice lo1 n1 r1] 42)) := HB2.out.alloc HB2.out.size _
        have cb := below_cellS A1 HG.out.1.2 HG.out.2.2
        have b0 := below_cellS A1 hg4 b0
        have b1 := below_cellS A1 hg4 b1
        have b2 := below_cellS A1 hg4 b2
        have b3 := below_cellS A1 hg4 b3
        have b4 := below_cellS A1 hg4 b4
        have A2 : Below w.heap.size w ((wr.alloc (Obj.cells #[.int .i64 (xk : Int), .bool xq, .string XS, .string XT, .slice lo1 n1 r1] 42)).alloc (Obj.cells #[.int .i64 (yk : Int), .bool yq, .string YS, .string YT, .slice lo2 n2 r2] 42)) := A1.alloc A1.size _
        have TWO := two_parts wr (.int .i64 (xk : Int)) (.bool xq) (.string XS) (.string XT) (.slice lo1 n1 r1) (.int .i64 (yk : Int)) (.bool yq) (.string YS) (.string YT) (.slice lo2 n2 r2)
        have LOW := Lib.hid (fun (hne : xp ≠ yp) => row_ne HXY.out.1 HXY.out.2 (fun e => hne (by have h1 := HP.out.1; have h2 := HP.out.2; rw [e, h2] at h1; exact (Option.some.inj h1).symm)))
        go_upto_region 13 with fail
        generalize (wr.alloc (Obj.cells #[.int .i64 (xk : Int), .bool xq, .string XS, .string XT, .slice lo1 n1 r1] 42)).alloc (Obj.cells #[.int .i64 (yk : Int), .bool yq, .string YS, .string YT, .slice lo2 n2 r2] 42) = W2 at A2 TWO ⊢
        obtain ⟨z2, x0, x1, x2, x3, x4, y0, y1, y2, y3, y4⟩ := TWO
        have A2H := Lib.hid A2
        have X4 := Lib.hid (fun (w5 : World) (hb : Below W2.heap.size W2 w5) => And.intro (below_cellS hb (by omega) x0) (And.intro (below_cellS hb (by omega) x1) (And.intro (below_cellS hb (by omega) x2) (below_cellS hb (by omega) x3))))
        have Y4 := Lib.hid (fun (w5 : World) (hb : Below W2.heap.size W2 w5) => And.intro (below_cellS hb (by omega) y0) (And.intro (below_cellS hb (by omega) y1) (And.intro (below_cellS hb (by omega) y2) (below_cellS hb (by omega) y3))))
        clear a0 a1 a2 a3 a4 b0 b1 b2 b3 b4 cb ca A1 A2 x0 x1 x2 x3 y0 y1 y2 y3
        have KS3 := KS2.out W2 A2H.out
        cases cL : eqB xp.l yp.l with
        | false =>
         rw [cL] at KS3
         have HD := Lib.hid (LOW.out fun e => (eqB_false.1 cL) (hE.1 e).1)
         clear hE cL
         go_wp2_with (go_at_call 8; (with_reducible refine KS3.mono ?_); rintro e w5 ⟨rfl, hb5⟩; obtain ⟨u0, u1, u2, u3⟩ := X4.out w5 hb5; obtain ⟨t0, t1, t2, t3⟩ := Y4.out w5 hb5; have H5 := Lib.hid (A2H.out.trans (hb5.mono A2H.out.size)); clear hb5)
         exact bodyPost_ret (results_tmp rfl _ _ _) rfl ⟨by rw [HD.out]; rfl, H5.out⟩
        | true =>
         rw [cL] at KS3
         by_cases hk : xk = yk
         ·subst hk
          have hk1 : ((xk : Int) != (xk : Int)) = false := by simp
          by_cases hq' : xq = yq
          ·subst hq'
           have hq1 : (xq != xq) = false := by simp
           cases cS : eqB xp.s yp.s with
           | false =>
            rw [cS] at hqs
            have HD := Lib.hid (LOW.out fun e => (eqB_false.1 cS) (hE.1 e).2.2.2.1)
            clear hE cL cS
            go_wp2_with (go_at_call 8; (with_reducible refine KS3.mono ?_); rintro e w5 ⟨rfl, hb5⟩; obtain ⟨u0, u1, u2, u3⟩ := X4.out w5 hb5; obtain ⟨t0, t1, t2, t3⟩ := Y4.out w5 hb5; have H5 := Lib.hid (A2H.out.trans (hb5.mono A2H.out.size)); clear hb5)
            exact bodyPost_ret (results_tmp rfl _ _ _) rfl ⟨by rw [HD.out]; rfl, H5.out⟩
           | true =>
            rw [cS] at hqs
            cases cT : eqB xp.t yp.t with
            | false =>
             rw [cT] at hqt
             have HD := Lib.hid (LOW.out fun e => (eqB_false.1 cT) (hE.1 e).2.2.2.2)
             clear hE cL cS cT
             go_wp2_with (go_at_call 8; (with_reducible refine KS3.mono ?_); rintro e w5 ⟨rfl, hb5⟩; obtain ⟨u0, u1, u2, u3⟩ := X4.out w5 hb5; obtain ⟨t0, t1, t2, t3⟩ := Y4.out w5 hb5; have H5 := Lib.hid (A2H.out.trans (hb5.mono A2H.out.size)); clear hb5)
             exact bodyPost_ret (results_tmp rfl _ _ _) rfl ⟨by rw [HD.out]; rfl, H5.out⟩
            | true =>
             rw [cT] at hqt
             have HD := Lib.hid (hE.2 ⟨eqB_true.1 cL, rfl, rfl, eqB_true.1 cS, eqB_true.1 cT⟩)
             clear hE cL cS cT
             go_wp2_with (go_at_call 8; (with_reducible refine KS3.mono ?_); rintro e w5 ⟨rfl, hb5⟩; obtain ⟨u0, u1, u2, u3⟩ := X4.out w5 hb5; obtain ⟨t0, t1, t2, t3⟩ := Y4.out w5 hb5; have H5 := Lib.hid (A2H.out.trans (hb5.mono A2H.out.size)); clear hb5)
             go_roundg (m1 - q)
             case measure => have := HK2.out; omega
             case rel => exact ⟨q + 1, by go_num, by omega, by show _ = _; omega, HS2.out.succ HP.out.1 HP.out.2 HD.out, H5⟩
          ·have hq1 : (xq != yq) = true := bool_ne xq yq hq'
           have HD := Lib.hid (LOW.out fun e => hq' (hE.1 e).2.2.1)
           clear hE cL
           go_wp2_with (go_at_call 8; (with_reducible refine KS3.mono ?_); rintro e w5 ⟨rfl, hb5⟩; obtain ⟨u0, u1, u2, u3⟩ := X4.out w5 hb5; obtain ⟨t0, t1, t2, t3⟩ := Y4.out w5 hb5; have H5 := Lib.hid (A2H.out.trans (hb5.mono A2H.out.size)); clear hb5)
           exact bodyPost_ret (results_tmp rfl _ _ _) rfl ⟨by rw [HD.out]; rfl, H5.out⟩
         ·have hk1 : ((xk : Int) != (yk : Int)) = true := by simp; omega
          have HD := Lib.hid (LOW.out fun e => hk (hE.1 e).2.1)
          clear hE cL
          go_wp2_with (go_at_call 8; (with_reducible refine KS3.mono ?_); rintro e w5 ⟨rfl, hb5⟩; obtain ⟨u0, u1, u2, u3⟩ := X4.out w5 hb5; obtain ⟨t0, t1, t2, t3⟩ := Y4.out w5 hb5; have H5 := Lib.hid (A2H.out.trans (hb5.mono A2H.out.size)); clear hb5)
          exact bodyPost_ret (results_tmp rfl _ _ _) rfl ⟨by rw [HD.out]; rfl, H5.out⟩
       ·have hd2 : decide ((q : Int) < (m1 : Int)) = false := by simp; omega
        have HD := Lib.hid (row_eq HM.out.1 HM.out.2 fun p hp => HS2.out p (by omega))
        go_wp2
        go_roundg (N - j)
        case measure => have := HK.out; omega
        case rel => exact ⟨j + 1, by go_num, by omega, by show _ = _; omega, HS.out.succ HXY.out.1 HXY.out.2 HD.out, HB2⟩
    ·have hne : ((m1 : Int) != (m2 : Int)) = true := by simp; omega
     have HD := Lib.hid (row_ne HXY.out.1 HXY.out.2 (fun e => hmm (by rw [hm1, hm2, e])))
     clear hx hy d1 d2 hz1 hz2 hm1 hm2 hx1 hy1
     go_wp2_with fail
     go_region
     all_goals
      go_wp2
      exact bodyPost_ret (results_tmp rfl _ _ _) rfl ⟨by rw [HD.out]; rfl, HB.out.drew⟩
   ·have hd : decide ((j : Int) < (N : Int)) = false := by simp; omega
    have HD := Lib.hid (eqB_true.2 (row_eq HN.out.1 HN.out.2 fun q hq => HS.out q (by omega)))
    go_wp2
    exact bodyPost_ret (results_tmp rfl _ _ _) rfl ⟨by rw [HD.out]; rfl, HB.out⟩
 ·rw [eqB_len hN]
  have h1 : ((xs.length : Int) != (ys.length : Int)) = true := by simp; omega
  clear h h2
  generalize xs.length = N at *
  generalize ys.length = M at *
  go_enter Tryz.func20, Tryz.ntmps20
  go_wp2
  exact bodyPost_ret (results_tmp rfl _ _ _) rfl ⟨rfl, Below.refl _ _⟩
end Go.Proofs.YtelfgobjnibooaaGreatDoor
namespace Go.Proofs.YtelfgobjnibooaaGreatDoor
open Go.RowKit Go.Lib
def SamF (n : Nat) : Prop := ∀ (u v : Value) (cs ds : List Co) (F G : Nat → Prop) (w : World), (cosV n).q F w u cs → (cosV n).q G w v ds → (∀ g, F g → g < w.heap.size) → (∀ g, G g → g < w.heap.size) →
 Calls Tryz.prog 7 #[u, v] w fun e w' => e = .returned (.bool (eqB cs ds)) ∧ Below w.heap.size w w'
def OneP (n : Nat) : Prop := ∀ (x y : Pt) (a c : List Value) (F G : Nat → Prop) (w : World), (partE (cosV n)).q F w x a → (partE (cosV n)).q G w y c → (∀ g, F g → g < w.heap.size) → (∀ g, G g → g < w.heap.size) →
 Calls Tryz.prog 56 #[.agg a.toArray, .agg c.toArray] w fun e w' => e = .returned (.bool (eqB x y)) ∧ Below w.heap.size w w'
def RowP (n : Nat) : Prop := ∀ (u v : Value) (xs ys : List Pt) (F G : Nat → Prop) (w : World), (PtsV (cosV n)).q F w u xs → (PtsV (cosV n)).q G w v ys → (∀ g, F g → g < w.heap.size) → (∀ g, G g → g < w.heap.size) →
 Calls Tryz.prog 55 #[u, v, .func (.func 56) #[] #[]] w fun e w' => e = .returned (.bool (eqB xs ys)) ∧ Below w.heap.size w w'
def OneW (n : Nat) : Prop := ∀ (x y : List Pt) (a c : List Value) (F G : Nat → Prop) (w : World), (wordE (PtsV (cosV n))).q F w x a → (wordE (PtsV (cosV n))).q G w y c → (∀ g, F g → g < w.heap.size) → (∀ g, G g → g < w.heap.size) →
 Calls Tryz.prog 38 #[.agg a.toArray, .agg c.toArray] w fun e w' => e = .returned (.bool (eqB x y)) ∧ Below w.heap.size w w'
def RowW (n : Nat) : Prop := ∀ (u v : Value) (xs ys : List (List Pt)) (F G : Nat → Prop) (w : World), (WdsV (cosV n)).q F w u xs → (WdsV (cosV n)).q G w v ys → (∀ g, F g → g < w.heap.size) → (∀ g, G g → g < w.heap.size) →
 Calls Tryz.prog 37 #[u, v, .func (.func 38) #[] #[]] w fun e w' => e = .returned (.bool (eqB xs ys)) ∧ Below w.heap.size w w'
def OneC (n : Nat) : Prop := ∀ (x y : Co) (a c : List Value) (F G : Nat → Prop) (w : World), (cmdE (cosV n)).q F w x a → (cmdE (cosV n)).q G w y c → (∀ g, F g → g < w.heap.size) → (∀ g, G g → g < w.heap.size) →
 Calls Tryz.prog 18 #[.agg a.toArray, .agg c.toArray] w fun e w' => e = .returned (.bool (eqB x y)) ∧ Below w.heap.size w w'
def RowC (n : Nat) : Prop := ∀ (u v : Value) (xs ys : List Co) (F G : Nat → Prop) (w : World), (cosV (n + 1)).q F w u xs → (cosV (n + 1)).q G w v ys → (∀ g, F g → g < w.heap.size) → (∀ g, G g → g < w.heap.size) →
 Calls Tryz.prog 17 #[u, v, .func (.func 18) #[] #[]] w fun e w' => e = .returned (.bool (eqB xs ys)) ∧ Below w.heap.size w w'
theorem row_at {X : Type} {E : ElemP X} {e : TypeId} {F : Nat → Prop} {w : World} {v : Value} {xs : List X} (h : RowM E e F w v xs) {i : Nat} {x : X} (hx : xs[i]? = some x) : ∃ g cap cs, v = .slice (some ⟨g, 0, none⟩) xs.length cap ∧ xs.length ≤ cap ∧ g < w.heap.size ∧ E.q F w x cs ∧ ∀ k u, k < E.size → cs[k]? = some u → w.cell? ⟨g, i * E.size + k, none⟩ = some u := by
 obtain ⟨g, cap, cs, a, b, c, -, d, f⟩ := RowM.at h hx
 exact ⟨g, cap, cs, a, b, c, d, f⟩
theorem elem_below {X : Type} {E : ElemP X} {F : Nat → Prop} {w w' : World} {x : X} {cs : List Value} (h : E.q F w x cs) (hF : ∀ g, F g → g < w.heap.size) (hb : Below w.heap.size w w') : E.q F w' x cs := E.same _ _ _ _ _ (fun g hg => hb.block g (hF g hg)) h
set_option maxHeartbeats 4000000 in
set_option maxRecDepth 20000 in
theorem rowP_any (n : Nat) (H : OneP n) : RowP n := by
 intro u v xs ys F G w h h2 hF hG
 obtain ⟨ao, cap, rfl, hcap⟩ := RowM.shape h
 obtain ⟨bo, cap2, rfl, hcap2⟩ := RowM.shape h2
 have hs1 := RowM.short h
 have hs2 := RowM.short h2
 unfold maxLen at hs1 hs2
 by_cases hN : xs.length = ys.length
 ·have HQ := Lib.hid (And.intro h h2)
  have HF := Lib.hid (And.intro hF hG)
  have KS := Lib.hid H
  obtain ⟨N, hM⟩ : ∃ N, N = xs.length := ⟨_, rfl⟩
  have hM2 : N = ys.length := by omega
  have HN := Lib.hid (And.intro hM.symm hM2.symm)
  rw [← hM] at hs1 hcap ⊢
  rw [← hM2] at hs2 hcap2 ⊢
  have h1 : ((N : Int) != (N : Int)) = false := by simp
  have hNb : (N : Int) ≤ 9223372036854775807 := by omega
  clear h h2 hN hM hM2 hs1 hs2 hF hG H
  go_enter Tryz.func55, Tryz.ntmps55
  go_wp2
  go_loopg [17] (N + 1) (fun k i wr => ∃ (j : Nat), i = .int .i64 j ∧ j ≤ N ∧ Hid (k = N + 1 - j) ∧ Hid (UpTo xs ys j) ∧ Hid (Below w.heap.size w wr))
  case atStart => exact ⟨0, rfl, by omega, rfl, fun q hq => by omega, Below.refl _ _⟩
  case round =>
   obtain ⟨j, rfl, hj, HK, HS, HB⟩ := hrel
   by_cases hlt : j < N
   ·obtain ⟨x, hx⟩ := row_short HN.out.1 hlt
    obtain ⟨y, hy⟩ := row_short HN.out.2 hlt
    obtain ⟨g1, c1, da, e, -, hg1, qa, fa⟩ := row_at HQ.out.1 hx
    injection e with ee e2 e3
    subst ee
    clear e2 e3
    obtain ⟨g2, c2, db, e, -, hg2, qb, fb⟩ := row_at HQ.out.2 hy
    injection e with ee e2 e3
    subst ee
    clear e2 e3
    have HQa := Lib.hid qa
    have HQb := Lib.hid qb
    obtain ⟨va, rfl, hva⟩ := qa
    obtain ⟨vb, rfl, hvb⟩ := qb
    obtain ⟨ao, ac, rfl, -⟩ := cos_shape hva
    obtain ⟨bo, bc, rfl, -⟩ := cos_shape hvb
    generalize x.l.length = an at *
    generalize y.l.length = bn at *
    obtain ⟨ak, hak⟩ : ∃ z, z = x.k := ⟨_, rfl⟩
    obtain ⟨bk, hbk⟩ : ∃ z, z = y.k := ⟨_, rfl⟩
    rw [← hak] at fa HQa
    rw [← hbk] at fb HQb
    generalize x.q = aq at *
    generalize y.q = bq at *
    generalize (⟨x.s.toArray⟩ : ByteArray) = aS at *
    generalize (⟨x.t.toArray⟩ : ByteArray) = aT at *
    generalize (⟨y.s.toArray⟩ : ByteArray) = bS at *
    generalize (⟨y.t.toArray⟩ : ByteArray) = bT at *
    clear hak hbk hva hvb
    have hI : IntKind.i64.wrap ((j : Int) + 1) = ((j + 1 : Nat) : Int) := by rw [IntWalk.i64_in _ (by omega)]; omega
    have HXY := Lib.hid (And.intro hx hy)
    have LOW := Lib.hid (fun (hne : x ≠ y) => row_ne hx hy hne)
    have K1 := Lib.hid (fun (w1 : World) (hb : Below w.heap.size w w1) => (show Calls Tryz.prog 56 #[.agg #[(Value.int .i64 (ak : Int)), (Value.bool aq), (Value.string aS), (Value.string aT), (Value.slice ao an ac)], .agg #[(Value.int .i64 (bk : Int)), (Value.bool bq), (Value.string bS), (Value.string bT), (Value.slice bo bn bc)]] w1 fun e w' => e = .returned (.bool (eqB x y)) ∧ Below w1.heap.size w1 w' from KS.out x y [(Value.int .i64 (ak : Int)), (Value.bool aq), (Value.string aS), (Value.string aT), (Value.slice ao an ac)] [(Value.int .i64 (bk : Int)), (Value.bool bq), (Value.string bS), (Value.string bT), (Value.slice bo bn bc)] F G w1 (elem_below HQa.out HF.out.1 hb) (elem_below HQb.out HF.out.2 hb) (fun g hg => Nat.lt_of_lt_of_le (HF.out.1 g hg) hb.size) (fun g hg => Nat.lt_of_lt_of_le (HF.out.2 g hg) hb.size)))
    have a0 : wr.cell? ⟨g1, j * 5, none⟩ = some ((Value.int .i64 (ak : Int))) := below_cellS HB.out hg1 (by have z := fa 0 _ (by show 0 < 5; decide) rfl; exact z)
    have a1 : wr.cell? ⟨g1, j * 5 + 1, none⟩ = some ((Value.bool aq)) := below_cellS HB.out hg1 (by have z := fa 1 _ (by show 1 < 5; decide) rfl; exact z)
    have a2 : wr.cell? ⟨g1, j * 5 + 2, none⟩ = some ((Value.string aS)) := below_cellS HB.out hg1 (by have z := fa 2 _ (by show 2 < 5; decide) rfl; exact z)
    have a3 : wr.cell? ⟨g1, j * 5 + 3, none⟩ = some ((Value.string aT)) := below_cellS HB.out hg1 (by have z := fa 3 _ (by show 3 < 5; decide) rfl; exact z)
    have a4 : wr.cell? ⟨g1, j * 5 + 4, none⟩ = some ((Value.slice ao an ac)) := below_cellS HB.out hg1 (by have z := fa 4 _ (by show 4 < 5; decide) rfl; exact z)
    have A1 : Below w.heap.size w (wr.alloc (Obj.cells #[(Value.int .i64 (ak : Int)), (Value.bool aq), (Value.string aS), (Value.string aT), (Value.slice ao an ac)] 42)) := HB.out.alloc HB.out.size _
    have b0 : (wr.alloc (Obj.cells #[(Value.int .i64 (ak : Int)), (Value.bool aq), (Value.string aS), (Value.string aT), (Value.slice ao an ac)] 42)).cell? ⟨g2, j * 5, none⟩ = some ((Value.int .i64 (bk : Int))) := below_cellS A1 hg2 (by have z := fb 0 _ (by show 0 < 5; decide) rfl; exact z)
    have b1 : (wr.alloc (Obj.cells #[(Value.int .i64 (ak : Int)), (Value.bool aq), (Value.string aS), (Value.string aT), (Value.slice ao an ac)] 42)).cell? ⟨g2, j * 5 + 1, none⟩ = some ((Value.bool bq)) := below_cellS A1 hg2 (by have z := fb 1 _ (by show 1 < 5; decide) rfl; exact z)
    have b2 : (wr.alloc (Obj.cells #[(Value.int .i64 (ak : Int)), (Value.bool aq), (Value.string aS), (Value.string aT), (Value.slice ao an ac)] 42)).cell? ⟨g2, j * 5 + 2, none⟩ = some ((Value.string bS)) := below_cellS A1 hg2 (by have z := fb 2 _ (by show 2 < 5; decide) rfl; exact z)
    have b3 : (wr.alloc (Obj.cells #[(Value.int .i64 (ak : Int)), (Value.bool aq), (Value.string aS), (Value.string aT), (Value.slice ao an ac)] 42)).cell? ⟨g2, j * 5 + 3, none⟩ = some ((Value.string bT)) := below_cellS A1 hg2 (by have z := fb 3 _ (by show 3 < 5; decide) rfl; exact z)
    have b4 : (wr.alloc (Obj.cells #[(Value.int .i64 (ak : Int)), (Value.bool aq), (Value.string aS), (Value.string aT), (Value.slice ao an ac)] 42)).cell? ⟨g2, j * 5 + 4, none⟩ = some ((Value.slice bo bn bc)) := below_cellS A1 hg2 (by have z := fb 4 _ (by show 4 < 5; decide) rfl; exact z)
    have A2 : Below w.heap.size w ((wr.alloc (Obj.cells #[(Value.int .i64 (ak : Int)), (Value.bool aq), (Value.string aS), (Value.string aT), (Value.slice ao an ac)] 42)).alloc (Obj.cells #[(Value.int .i64 (bk : Int)), (Value.bool bq), (Value.string bS), (Value.string bT), (Value.slice bo bn bc)] 42)) := A1.alloc A1.size _
    have k1 := K1.out _ A2
    have HA2 := Lib.hid A2
    obtain ⟨q, hq⟩ : ∃ q, eqB x y = q := ⟨_, rfl⟩
    rw [hq] at k1
    clear hx hy fa fb A2 K1
    cases q with
    | true =>
     have HU := Lib.hid (HS.out.succ HXY.out.1 HXY.out.2 (eqB_true.1 hq))
     clear hq
     go_wp2_with (go_at_call 56; (with_reducible refine k1.mono ?_); rintro e w5 ⟨rfl, b5⟩; have F5 := Lib.hid (HA2.out.trans (b5.mono HA2.out.size)); clear b5 k1)
     go_roundg (N - j)
     case rel => exact ⟨j + 1, by go_num, hlt, by show _ = _; omega, HU, F5⟩
     case measure => have := HK.out; omega
    | false =>
     have HD := Lib.hid (LOW.out (eqB_false.1 hq))
     clear hq LOW HXY
     go_wp2_with (go_at_call 56; (with_reducible refine k1.mono ?_); rintro e w5 ⟨rfl, b5⟩; have F5 := Lib.hid (HA2.out.trans (b5.mono HA2.out.size)); clear b5 k1)
     exact bodyPost_ret (results_tmp rfl _ _ _) rfl ⟨by rw [HD.out]; rfl, F5.out⟩
   ·have hjN : j = N := by omega
    have HD := Lib.hid (eqB_true.2 (row_eq HN.out.1 HN.out.2 (fun q hq => HS.out q (by omega))))
    have hd : decide ((j : Int) < (N : Int)) = false := by simp; omega
    clear HS hjN
    go_wp2
    exact bodyPost_ret (results_tmp rfl _ _ _) rfl ⟨by rw [HD.out]; rfl, HB.out⟩
 ·rw [eqB_len hN]
  have h1 : ((xs.length : Int) != (ys.length : Int)) = true := by
   rw [bne_iff_ne]
   omega
  generalize xs.length = N at *
  generalize ys.length = M at *
  clear h h2 hN hcap hcap2 hs1 hs2
  go_enter Tryz.func55, Tryz.ntmps55
  go_wp2
  exact bodyPost_ret (results_tmp rfl _ _ _) rfl ⟨rfl, Below.refl _ _⟩
set_option maxHeartbeats 4000000 in
set_option maxRecDepth 20000 in
theorem rowW_any (n : Nat) (H : OneW n) : RowW n := by
 intro u v xs ys F G w h h2 hF hG
 obtain ⟨ao, cap, rfl, hcap⟩ := RowM.shape h
 obtain ⟨bo, cap2, rfl, hcap2⟩ := RowM.shape h2
 have hs1 := RowM.short h
 have hs2 := RowM.short h2
 unfold maxLen at hs1 hs2
 by_cases hN : xs.length = ys.length
 ·have HQ := Lib.hid (And.intro h h2)
  have HF := Lib.hid (And.intro hF hG)
  have KS := Lib.hid H
  obtain ⟨N, hM⟩ : ∃ N, N = xs.length := ⟨_, rfl⟩
  have hM2 : N = ys.length := by omega
  have HN := Lib.hid (And.intro hM.symm hM2.symm)
  rw [← hM] at hs1 hcap ⊢
  rw [← hM2] at hs2 hcap2 ⊢
  have h1 : ((N : Int) != (N : Int)) = false := by simp
  have hNb : (N : Int) ≤ 9223372036854775807 := by omega
  clear h h2 hN hM hM2 hs1 hs2 hF hG H
  go_enter Tryz.func37, Tryz.ntmps37
  go_wp2
  go_loopg [17] (N + 1) (fun k i wr => ∃ (j : Nat), i = .int .i64 j ∧ j ≤ N ∧ Hid (k = N + 1 - j) ∧ Hid (UpTo xs ys j) ∧ Hid (Below w.heap.size w wr))
  case atStart => exact ⟨0, rfl, by omega, rfl, fun q hq => by omega, Below.refl _ _⟩
  case round =>
   obtain ⟨j, rfl, hj, HK, HS, HB⟩ := hrel
   by_cases hlt : j < N
   ·obtain ⟨x, hx⟩ := row_short HN.out.1 hlt
    obtain ⟨y, hy⟩ := row_short HN.out.2 hlt
    obtain ⟨g1, c1, da, e, -, hg1, qa, fa⟩ := row_at HQ.out.1 hx
    injection e with ee e2 e3
    subst ee
    clear e2 e3
    obtain ⟨g2, c2, db, e, -, hg2, qb, fb⟩ := row_at HQ.out.2 hy
    injection e with ee e2 e3
    subst ee
    clear e2 e3
    have HQa := Lib.hid qa
    have HQb := Lib.hid qb
    obtain ⟨va, rfl, hva⟩ := qa
    obtain ⟨vb, rfl, hvb⟩ := qb
    obtain ⟨ao, ac, rfl, -⟩ := pts_shape hva
    obtain ⟨bo, bc, rfl, -⟩ := pts_shape hvb
    generalize x.length = an at *
    generalize y.length = bn at *
    clear hva hvb
    have hI : IntKind.i64.wrap ((j : Int) + 1) = ((j + 1 : Nat) : Int) := by rw [IntWalk.i64_in _ (by omega)]; omega
    have HXY := Lib.hid (And.intro hx hy)
    have LOW := Lib.hid (fun (hne : x ≠ y) => row_ne hx hy hne)
    have K1 := Lib.hid (fun (w1 : World) (hb : Below w.heap.size w w1) => (show Calls Tryz.prog 38 #[.agg #[(Value.slice ao an ac)], .agg #[(Value.slice bo bn bc)]] w1 fun e w' => e = .returned (.bool (eqB x y)) ∧ Below w1.heap.size w1 w' from KS.out x y [(Value.slice ao an ac)] [(Value.slice bo bn bc)] F G w1 (elem_below HQa.out HF.out.1 hb) (elem_below HQb.out HF.out.2 hb) (fun g hg => Nat.lt_of_lt_of_le (HF.out.1 g hg) hb.size) (fun g hg => Nat.lt_of_lt_of_le (HF.out.2 g hg) hb.size)))
    have a0 : wr.cell? ⟨g1, j, none⟩ = some ((Value.slice ao an ac)) := below_cellS HB.out hg1 (by have z := fa 0 _ (by show 0 < 1; decide) rfl; rw [show j * (wordE (PtsV (cosV n))).size + 0 = j by show j * 1 + 0 = j; omega] at z; exact z)
    have A1 : Below w.heap.size w (wr.alloc (Obj.cells #[(Value.slice ao an ac)] 40)) := HB.out.alloc HB.out.size _
    have b0 : (wr.alloc (Obj.cells #[(Value.slice ao an ac)] 40)).cell? ⟨g2, j, none⟩ = some ((Value.slice bo bn bc)) := below_cellS A1 hg2 (by have z := fb 0 _ (by show 0 < 1; decide) rfl; rw [show j * (wordE (PtsV (cosV n))).size + 0 = j by show j * 1 + 0 = j; omega] at z; exact z)
    have A2 : Below w.heap.size w ((wr.alloc (Obj.cells #[(Value.slice ao an ac)] 40)).alloc (Obj.cells #[(Value.slice bo bn bc)] 40)) := A1.alloc A1.size _
    have k1 := K1.out _ A2
    have HA2 := Lib.hid A2
    obtain ⟨q, hq⟩ : ∃ q, eqB x y = q := ⟨_, rfl⟩
    rw [hq] at k1
    clear hx hy fa fb A2 K1
    cases q with
    | true =>
     have HU := Lib.hid (HS.out.succ HXY.out.1 HXY.out.2 (eqB_true.1 hq))
     clear hq
     go_wp2_with (go_at_call 38; (with_reducible refine k1.mono ?_); rintro e w5 ⟨rfl, b5⟩; have F5 := Lib.hid (HA2.out.trans (b5.mono HA2.out.size)); clear b5 k1)
     go_roundg (N - j)
     case rel => exact ⟨j + 1, by go_num, hlt, by show _ = _; omega, HU, F5⟩
     case measure => have := HK.out; omega
    | false =>
     have HD := Lib.hid (LOW.out (eqB_false.1 hq))
     clear hq LOW HXY
     go_wp2_with (go_at_call 38; (with_reducible refine k1.mono ?_); rintro e w5 ⟨rfl, b5⟩; have F5 := Lib.hid (HA2.out.trans (b5.mono HA2.out.size)); clear b5 k1)
     exact bodyPost_ret (results_tmp rfl _ _ _) rfl ⟨by rw [HD.out]; rfl, F5.out⟩
   ·have hjN : j = N := by omega
    have HD := Lib.hid (eqB_true.2 (row_eq HN.out.1 HN.out.2 (fun q hq => HS.out q (by omega))))
    have hd : decide ((j : Int) < (N : Int)) = false := by simp; omega
    clear HS hjN
    go_wp2
    exact bodyPost_ret (results_tmp rfl _ _ _) rfl ⟨by rw [HD.out]; rfl, HB.out⟩
 ·rw [eqB_len hN]
  have h1 : ((xs.length : Int) != (ys.length : Int)) = true := by
   rw [bne_iff_ne]
   omega
  generalize xs.length = N at *
  generalize ys.length = M at *
  clear h h2 hN hcap hcap2 hs1 hs2
  go_enter Tryz.func37, Tryz.ntmps37
  go_wp2
  exact bodyPost_ret (results_tmp rfl _ _ _) rfl ⟨rfl, Below.refl _ _⟩
set_option maxHeartbeats 4000000 in
set_option maxRecDepth 20000 in
theorem rowC_any (n : Nat) (H : OneC n) : RowC n := by
 intro u v xs ys F G w h h2 hF hG
 obtain ⟨ao, cap, rfl, hcap⟩ := RowM.shape h
 obtain ⟨bo, cap2, rfl, hcap2⟩ := RowM.shape h2
 have hs1 := RowM.short h
 have hs2 := RowM.short h2
 unfold maxLen at hs1 hs2
 by_cases hN : xs.length = ys.length
 ·have HQ := Lib.hid (And.intro h h2)
  have HF := Lib.hid (And.intro hF hG)
  have KS := Lib.hid H
  obtain ⟨N, hM⟩ : ∃ N, N = xs.length := ⟨_, rfl⟩
  have hM2 : N = ys.length := by omega
  have HN := Lib.hid (And.intro hM.symm hM2.symm)
  rw [← hM] at hs1 hcap ⊢
  rw [← hM2] at hs2 hcap2 ⊢
  have h1 : ((N : Int) != (N : Int)) = false := by simp
  have hNb : (N : Int) ≤ 9223372036854775807 := by omega
  clear h h2 hN hM hM2 hs1 hs2 hF hG H
  go_enter Tryz.func17, Tryz.ntmps17
  go_wp2
  go_loopg [17] (N + 1) (fun k i wr => ∃ (j : Nat), i = .int .i64 j ∧ j ≤ N ∧ Hid (k = N + 1 - j) ∧ Hid (UpTo xs ys j) ∧ Hid (Below w.heap.size w wr))
  case atStart => exact ⟨0, rfl, by omega, rfl, fun q hq => by omega, Below.refl _ _⟩
  case round =>
   obtain ⟨j, rfl, hj, HK, HS, HB⟩ := hrel
   by_cases hlt : j < N
   ·obtain ⟨x, hx⟩ := row_short HN.out.1 hlt
    obtain ⟨y, hy⟩ := row_short HN.out.2 hlt
    obtain ⟨g1, c1, da, e, -, hg1, qa, fa⟩ := row_at HQ.out.1 hx
    injection e with ee e2 e3
    subst ee
    clear e2 e3
    obtain ⟨g2, c2, db, e, -, hg2, qb, fb⟩ := row_at HQ.out.2 hy
    injection e with ee e2 e3
    subst ee
    clear e2 e3
    have HQa := Lib.hid qa
    have HQb := Lib.hid qb
    obtain ⟨va1, va2, va3, va4, va5, va6, rfl, ha1, ha2, ha3, ha4, ha5, ha6⟩ := qa
    obtain ⟨vb1, vb2, vb3, vb4, vb5, vb6, rfl, hb1, hb2, hb3, hb4, hb5, hb6⟩ := qb
    obtain ⟨ao1, ac1, rfl, -⟩ := str_shape ha1
    obtain ⟨ao2, ac2, rfl, -⟩ := wds_shape ha2
    obtain ⟨ao3, ac3, rfl, -⟩ := wds_shape ha3
    obtain ⟨ao4, ac4, rfl, -⟩ := cos_shape ha4
    obtain ⟨ao5, ac5, rfl, -⟩ := cos_shape ha5
    obtain ⟨ao6, ac6, rfl, -⟩ := cos_shape ha6
    obtain ⟨bo1, bc1, rfl, -⟩ := str_shape hb1
    obtain ⟨bo2, bc2, rfl, -⟩ := wds_shape hb2
    obtain ⟨bo3, bc3, rfl, -⟩ := wds_shape hb3
    obtain ⟨bo4, bc4, rfl, -⟩ := cos_shape hb4
    obtain ⟨bo5, bc5, rfl, -⟩ := cos_shape hb5
    obtain ⟨bo6, bc6, rfl, -⟩ := cos_shape hb6
    generalize x.n.length = an1 at *
    generalize x.v.length = an2 at *
    generalize x.w.length = an3 at *
    generalize x.a.length = an4 at *
    generalize x.b.length = an5 at *
    generalize x.c.length = an6 at *
    generalize y.n.length = bn1 at *
    generalize y.v.length = bn2 at *
    generalize y.w.length = bn3 at *
    generalize y.a.length = bn4 at *
    generalize y.b.length = bn5 at *
    generalize y.c.length = bn6 at *
    obtain ⟨ak, hak⟩ : ∃ z, z = x.k := ⟨_, rfl⟩
    obtain ⟨bk, hbk⟩ : ∃ z, z = y.k := ⟨_, rfl⟩
    rw [← hak] at fa HQa
    rw [← hbk] at fb HQb
    clear hak hbk ha1 ha2 ha3 ha4 ha5 ha6 hb1 hb2 hb3 hb4 hb5 hb6
    have hI : IntKind.i64.wrap ((j : Int) + 1) = ((j + 1 : Nat) : Int) := by rw [IntWalk.i64_in _ (by omega)]; omega
    have HXY := Lib.hid (And.intro hx hy)
    have LOW := Lib.hid (fun (hne : x ≠ y) => row_ne hx hy hne)
    have K1 := Lib.hid (fun (w1 : World) (hb : Below w.heap.size w w1) => (show Calls Tryz.prog 18 #[.agg #[(Value.int .i64 (ak : Int)), (Value.slice ao1 an1 ac1), (Value.slice ao2 an2 ac2), (Value.slice ao3 an3 ac3), (Value.slice ao4 an4 ac4), (Value.slice ao5 an5 ac5), (Value.slice ao6 an6 ac6)], .agg #[(Value.int .i64 (bk : Int)), (Value.slice bo1 bn1 bc1), (Value.slice bo2 bn2 bc2), (Value.slice bo3 bn3 bc3), (Value.slice bo4 bn4 bc4), (Value.slice bo5 bn5 bc5), (Value.slice bo6 bn6 bc6)]] w1 fun e w' => e = .returned (.bool (eqB x y)) ∧ Below w1.heap.size w1 w' from KS.out x y [(Value.int .i64 (ak : Int)), (Value.slice ao1 an1 ac1), (Value.slice ao2 an2 ac2), (Value.slice ao3 an3 ac3), (Value.slice ao4 an4 ac4), (Value.slice ao5 an5 ac5), (Value.slice ao6 an6 ac6)] [(Value.int .i64 (bk : Int)), (Value.slice bo1 bn1 bc1), (Value.slice bo2 bn2 bc2), (Value.slice bo3 bn3 bc3), (Value.slice bo4 bn4 bc4), (Value.slice bo5 bn5 bc5), (Value.slice bo6 bn6 bc6)] F G w1 (elem_below HQa.out HF.out.1 hb) (elem_below HQb.out HF.out.2 hb) (fun g hg => Nat.lt_of_lt_of_le (HF.out.1 g hg) hb.size) (fun g hg => Nat.lt_of_lt_of_le (HF.out.2 g hg) hb.size)))
    have a0 : wr.cell? ⟨g1, j * 7, none⟩ = some ((Value.int .i64 (ak : Int))) := below_cellS HB.out hg1 (by have z := fa 0 _ (by show 0 < 7; decide) rfl; exact z)
    have a1 : wr.cell? ⟨g1, j * 7 + 1, none⟩ = some ((Value.slice ao1 an1 ac1)) := below_cellS HB.out hg1 (by have z := fa 1 _ (by show 1 < 7; decide) rfl; exact z)
    have a2 : wr.cell? ⟨g1, j * 7 + 2, none⟩ = some ((Value.slice ao2 an2 ac2)) := below_cellS HB.out hg1 (by have z := fa 2 _ (by show 2 < 7; decide) rfl; exact z)
    have a3 : wr.cell? ⟨g1, j * 7 + 3, none⟩ = some ((Value.slice ao3 an3 ac3)) := below_cellS HB.out hg1 (by have z := fa 3 _ (by show 3 < 7; decide) rfl; exact z)
    have a4 : wr.cell? ⟨g1, j * 7 + 4, none⟩ = some ((Value.slice ao4 an4 ac4)) := below_cellS HB.out hg1 (by have z := fa 4 _ (by show 4 < 7; decide) rfl; exact z)
    have a5 : wr.cell? ⟨g1, j * 7 + 5, none⟩ = some ((Value.slice ao5 an5 ac5)) := below_cellS HB.out hg1 (by have z := fa 5 _ (by show 5 < 7; decide) rfl; exact z)
    have a6 : wr.cell? ⟨g1, j * 7 + 6, none⟩ = some ((Value.slice ao6 an6 ac6)) := below_cellS HB.out hg1 (by have z := fa 6 _ (by show 6 < 7; decide) rfl; exact z)
    have A1 : Below w.heap.size w (wr.alloc (Obj.cells #[(Value.int .i64 (ak : Int)), (Value.slice ao1 an1 ac1), (Value.slice ao2 an2 ac2), (Value.slice ao3 an3 ac3), (Value.slice ao4 an4 ac4), (Value.slice ao5 an5 ac5), (Value.slice ao6 an6 ac6)] 37)) := HB.out.alloc HB.out.size _
    have b0 : (wr.alloc (Obj.cells #[(Value.int .i64 (ak : Int)), (Value.slice ao1 an1 ac1), (Value.slice ao2 an2 ac2), (Value.slice ao3 an3 ac3), (Value.slice ao4 an4 ac4), (Value.slice ao5 an5 ac5), (Value.slice ao6 an6 ac6)] 37)).cell? ⟨g2, j * 7, none⟩ = some ((Value.int .i64 (bk : Int))) := below_cellS A1 hg2 (by have z := fb 0 _ (by show 0 < 7; decide) rfl; exact z)
    have b1 : (wr.alloc (Obj.cells #[(Value.int .i64 (ak : Int)), (Value.slice ao1 an1 ac1), (Value.slice ao2 an2 ac2), (Value.slice ao3 an3 ac3), (Value.slice ao4 an4 ac4), (Value.slice ao5 an5 ac5), (Value.slice ao6 an6 ac6)] 37)).cell? ⟨g2, j * 7 + 1, none⟩ = some ((Value.slice bo1 bn1 bc1)) := below_cellS A1 hg2 (by have z := fb 1 _ (by show 1 < 7; decide) rfl; exact z)
    have b2 : (wr.alloc (Obj.cells #[(Value.int .i64 (ak : Int)), (Value.slice ao1 an1 ac1), (Value.slice ao2 an2 ac2), (Value.slice ao3 an3 ac3), (Value.slice ao4 an4 ac4), (Value.slice ao5 an5 ac5), (Value.slice ao6 an6 ac6)] 37)).cell? ⟨g2, j * 7 + 2, none⟩ = some ((Value.slice bo2 bn2 bc2)) := below_cellS A1 hg2 (by have z := fb 2 _ (by show 2 < 7; decide) rfl; exact z)
    have b3 : (wr.alloc (Obj.cells #[(Value.int .i64 (ak : Int)), (Value.slice ao1 an1 ac1), (Value.slice ao2 an2 ac2), (Value.slice ao3 an3 ac3), (Value.slice ao4 an4 ac4), (Value.slice ao5 an5 ac5), (Value.slice ao6 an6 ac6)] 37)).cell? ⟨g2, j * 7 + 3, none⟩ = some ((Value.slice bo3 bn3 bc3)) := below_cellS A1 hg2 (by have z := fb 3 _ (by show 3 < 7; decide) rfl; exact z)
    have b4 : (wr.alloc (Obj.cells #[(Value.int .i64 (ak : Int)), (Value.slice ao1 an1 ac1), (Value.slice ao2 an2 ac2), (Value.slice ao3 an3 ac3), (Value.slice ao4 an4 ac4), (Value.slice ao5 an5 ac5), (Value.slice ao6 an6 ac6)] 37)).cell? ⟨g2, j * 7 + 4, none⟩ = some ((Value.slice bo4 bn4 bc4)) := below_cellS A1 hg2 (by have z := fb 4 _ (by show 4 < 7; decide) rfl; exact z)
    have b5 : (wr.alloc (Obj.cells #[(Value.int .i64 (ak : Int)), (Value.slice ao1 an1 ac1), (Value.slice ao2 an2 ac2), (Value.slice ao3 an3 ac3), (Value.slice ao4 an4 ac4), (Value.slice ao5 an5 ac5), (Value.slice ao6 an6 ac6)] 37)).cell? ⟨g2, j * 7 + 5, none⟩ = some ((Value.slice bo5 bn5 bc5)) := below_cellS A1 hg2 (by have z := fb 5 _ (by show 5 < 7; decide) rfl; exact z)
    have b6 : (wr.alloc (Obj.cells #[(Value.int .i64 (ak : Int)), (Value.slice ao1 an1 ac1), (Value.slice ao2 an2 ac2), (Value.slice ao3 an3 ac3), (Value.slice ao4 an4 ac4), (Value.slice ao5 an5 ac5), (Value.slice ao6 an6 ac6)] 37)).cell? ⟨g2, j * 7 + 6, none⟩ = some ((Value.slice bo6 bn6 bc6)) := below_cellS A1 hg2 (by have z := fb 6 _ (by show 6 < 7; decide) rfl; exact z)
    have A2 : Below w.heap.size w ((wr.alloc (Obj.cells #[(Value.int .i64 (ak : Int)), (Value.slice ao1 an1 ac1), (Value.slice ao2 an2 ac2), (Value.slice ao3 an3 ac3), (Value.slice ao4 an4 ac4), (Value.slice ao5 an5 ac5), (Value.slice ao6 an6 ac6)] 37)).alloc (Obj.cells #[(Value.int .i64 (bk : Int)), (Value.slice bo1 bn1 bc1), (Value.slice bo2 bn2 bc2), (Value.slice bo3 bn3 bc3), (Value.slice bo4 bn4 bc4), (Value.slice bo5 bn5 bc5), (Value.slice bo6 bn6 bc6)] 37)) := A1.alloc A1.size _
    have k1 := K1.out _ A2
    have HA2 := Lib.hid A2
    obtain ⟨q, hq⟩ : ∃ q, eqB x y = q := ⟨_, rfl⟩
    rw [hq] at k1
    clear hx hy fa fb A2 K1
    cases q with
    | true =>
     have HU := Lib.hid (HS.out.succ HXY.out.1 HXY.out.2 (eqB_true.1 hq))
     clear hq
     go_wp2_with (go_at_call 18; (with_reducible refine k1.mono ?_); rintro e w5 ⟨rfl, b5⟩; have F5 := Lib.hid (HA2.out.trans (b5.mono HA2.out.size)); clear b5 k1)
     go_roundg (N - j)
     case rel => exact ⟨j + 1, by go_num, hlt, by show _ = _; omega, HU, F5⟩
     case measure => have := HK.out; omega
    | false =>
     have HD := Lib.hid (LOW.out (eqB_false.1 hq))
     clear hq LOW HXY
     go_wp2_with (go_at_call 18; (with_reducible refine k1.mono ?_); rintro e w5 ⟨rfl, b5⟩; have F5 := Lib.hid (HA2.out.trans (b5.mono HA2.out.size)); clear b5 k1)
     exact bodyPost_ret (results_tmp rfl _ _ _) rfl ⟨by rw [HD.out]; rfl, F5.out⟩
   ·have hjN : j = N := by omega
    have HD := Lib.hid (eqB_true.2 (row_eq HN.out.1 HN.out.2 (fun q hq => HS.out q (by omega))))
    have hd : decide ((j : Int) < (N : Int)) = false := by simp; omega
    clear HS hjN
    go_wp2
    exact bodyPost_ret (results_tmp rfl _ _ _) rfl ⟨by rw [HD.out]; rfl, HB.out⟩
 ·rw [eqB_len hN]
  have h1 : ((xs.length : Int) != (ys.length : Int)) = true := by
   rw [bne_iff_ne]
   omega
  generalize xs.length = N at *
  generalize ys.length = M at *
  clear h h2 hN hcap hcap2 hs1 hs2
  go_enter Tryz.func17, Tryz.ntmps17
  go_wp2
  exact bodyPost_ret (results_tmp rfl _ _ _) rfl ⟨rfl, Below.refl _ _⟩
end Go.Proofs.YtelfgobjnibooaaGreatDoor
