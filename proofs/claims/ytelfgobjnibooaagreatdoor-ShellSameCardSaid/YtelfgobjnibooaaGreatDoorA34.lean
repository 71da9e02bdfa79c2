/- Packed texts: RfList, RfCmdL. What each of them proves stands above its theorems; the conditions stand in these. -/
import Derived.Test.YtelfgobjnibooaaGreatDoorA33
namespace Go.Proofs.YtelfgobjnibooaaGreatDoor
open Go.RowKit Go.Lib
theorem cmd_shapes {n : Nat} {F : Nat → Prop} {w : World} {x : Co} {vn vv vw va vb vc : Value} (h : (cmdE (cosV n)).q F w x [.int .i64 (x.k : Int), vn, vv, vw, va, vb, vc]) : (∃ a n c, vn = .slice a n c) ∧ (∃ a n c, vv = .slice a n c) ∧ (∃ a n c, vw = .slice a n c) ∧ (∃ a n c, va = .slice a n c) ∧ (∃ a n c, vb = .slice a n c) ∧ (∃ a n c, vc = .slice a n c) := by
 obtain ⟨vn', vv', vw', va', vb', vc', e, h1, h2, h3, h4, h5, h6⟩ := h
 cases e
 obtain ⟨a1, c1, rfl, _⟩ := str_shape h1
 obtain ⟨a2, c2, rfl, _⟩ := wds_shape h2
 obtain ⟨a3, c3, rfl, _⟩ := wds_shape h3
 obtain ⟨a4, c4, rfl, _⟩ := cos_shape h4
 obtain ⟨a5, c5, rfl, _⟩ := cos_shape h5
 obtain ⟨a6, c6, rfl, _⟩ := cos_shape h6
 exact ⟨⟨_, _, _, rfl⟩, ⟨_, _, _, rfl⟩, ⟨_, _, _, rfl⟩, ⟨_, _, _, rfl⟩, ⟨_, _, _, rfl⟩, _, _, _, rfl⟩
def LinkL (sub : Deeper) (D : Rr (List Co)) (cs : List Co) : Sx → Prop
 | .at m => iterS (rlistStep sub) cs m = D
 | .bad e => D = .bad e
theorem key_ways (l : List UInt8) : ((keyX (.at l) = [] ∨ keyX (.at l) = [105, 102] ∨ keyX (.at l) = [119, 104, 105, 108, 101] ∨ keyX (.at l) = [102, 111, 114]) ∧ (stopKeys.contains (keyS l) || keyS l == [105, 110]) = false) ∨
  ((keyX (.at l) = [116, 104, 101, 110] ∨ keyX (.at l) = [101, 108, 115, 101] ∨ keyX (.at l) = [102, 105] ∨ keyX (.at l) = [100, 111] ∨ keyX (.at l) = [100, 111, 110, 101] ∨ keyX (.at l) = [105, 110]) ∧ (stopKeys.contains (keyS l) || keyS l == [105, 110]) = true) := by
 by_cases hk : shKeys.contains (keyS l) = true
 ·have e : keyX (.at l) = keyS l := if_pos hk
  rw [e]
  have hm : keyS l = [105, 102] ∨ keyS l = [116, 104, 101, 110] ∨ keyS l = [101, 108, 115, 101] ∨ keyS l = [102, 105] ∨ keyS l = [119, 104, 105, 108, 101] ∨ keyS l = [100, 111] ∨ keyS l = [100, 111, 110, 101] ∨ keyS l = [102, 111, 114] ∨ keyS l = [105, 110] := by simpa [shKeys] using hk
  rcases hm with h | h | h | h | h | h | h | h | h <;> rw [h] <;> decide
 ·have e : keyX (.at l) = [] := if_neg hk
  refine .inl ⟨.inl e, ?_⟩
  cases hb : (stopKeys.contains (keyS l) || keyS l == [105, 110]) with
  | false => rfl
  | true =>
   exfalso
   apply hk
   rw [Bool.or_eq_true, beq_iff_eq] at hb
   rcases hb with hb | hb
   ·have hm : keyS l = [116, 104, 101, 110] ∨ keyS l = [101, 108, 115, 101] ∨ keyS l = [102, 105] ∨ keyS l = [100, 111] ∨ keyS l = [100, 111, 110, 101] := by simpa [stopKeys] using hb
    rcases hm with h | h | h | h | h <;> rw [h] <;> decide
   ·rw [hb]; decide
section
variable {sub : Deeper} (hg : GoodD sub) {D : Rr (List Co)} {cs : List Co}
include hg
theorem list_k (cs : List Co) (l : List UInt8) : iterS (rlistStep sub) cs l = stepK (iterS (rlistStep sub)) (rlistStep sub cs l) := iterS_k (rlistStep_nice hg) cs l
theorem linkl_stop {l : List UInt8} (h : LinkL sub D cs (.at l)) (hs : rstopS l = true) : D = .ok cs l := by
 have h : iterS (rlistStep sub) cs l = D := h
 rw [← h, list_k hg]
 unfold rlistStep
 rw [if_pos hs]
 rfl
theorem linkl_go {l : List UInt8} (h : LinkL sub D cs (.at l)) (hs : rstopS l = false) (x : Co) (hx : ∀ y r, lineS sub l = .ok y r → x = y) :
  (((lineS sub l).sx.map gapS).on shEnds = true → LinkL sub D (cs ++ [x]) ((lineS sub l).sx.map (skipS shEnds))) ∧ (((lineS sub l).sx.map gapS).on shEnds = false → D.sx = (lineS sub l).sx.map (skipS shEnds) ∧ ∀ y r, D = .ok y r → cs ++ [x] = y) := by
 have h : iterS (rlistStep sub) cs l = D := h
 have e : D = stepK (iterS (rlistStep sub)) ((lineS sub l).bind fun c r => if wasS shEnds r = false then .ok (.stop (cs ++ [c])) (skipS shEnds r) else .ok (.go (cs ++ [c])) (skipS shEnds r)) := by
  rw [← h, list_k hg]
  unfold rlistStep
  rw [if_neg (by rw [hs]; simp)]
 cases ho : lineS sub l with
 | bad b =>
  rw [ho] at e
  have e : D = .bad b := e
  subst e
  exact ⟨fun _ => rfl, fun _ => ⟨rfl, fun y r h => by cases h⟩⟩
 | ok y r =>
  obtain rfl := hx _ _ ho
  rw [ho] at e
  have e : D = stepK (iterS (rlistStep sub)) (if wasS shEnds r = false then .ok (.stop (cs ++ [x])) (skipS shEnds r) else .ok (.go (cs ++ [x])) (skipS shEnds r)) := e
  have hw : ((Rr.ok x r : Rr Co).sx.map gapS).on shEnds = wasS shEnds r := rfl
  rw [hw]
  refine ⟨fun hh => ?_, fun hh => ?_⟩
  ·rw [hh, if_neg (by simp)] at e
   exact e.symm
  ·rw [hh, if_pos rfl] at e
   rw [e]
   exact ⟨rfl, fun y r h => by cases h; rfl⟩
end
structure LI (n0 p : Nat) (S : ByteArray) (d : Nat) (w : World) (n : Nat) (sub : Deeper) (D : Rr (List Co)) (cs : List Co) (v : Value) (t : Sx) (wr : World) : Prop where
 ts : TS p S d t wr
 mv : Mvr p w wr
 row : CosO n0 w.heap.size NoneF wr v cs
 le : cs.length + t.len ≤ n
 gap : t.map gapS = t
 lnk : LinkL sub D cs t
theorem LI.answer {n0 p : Nat} {S : ByteArray} {d : Nat} {w wr w9 : World} {n : Nat} {sub : Deeper} {D : Rr (List Co)} {cs : List Co} {v : Value} {t : Sx} (h : LI n0 p S d w n sub D cs v t wr) (hp : p < w.heap.size) (m : Mvr p wr w9) (h9 : TS p S d t w9) (hD : D.sx = t ∧ ∀ y r, D = .ok y r → cs = y) : AnsL (n0 + 1) D w (.returned v) w9 ∧ TS p S d D.sx w9 ∧ Mvr p w w9 := by
 have r9 := h.row.moved m hp
 obtain ⟨ys, hy⟩ := r9.own
 obtain ⟨ao, cap, hv, _⟩ := ownS_shape hy
 subst hv
 exact ⟨⟨cs, ao, _, cap, rfl, r9.row, hD.2⟩, by rw [hD.1]; exact h9, h.mv.trans m⟩
theorem LI.more {n0 p : Nat} {S : ByteArray} {d : Nat} {w wr w1 w2 : World} {n : Nat} {sub : Deeper} {D : Rr (List Co)} {cs : List Co} {v : Value} {t : Sx} (h : LI n0 p S d w n sub D cs v t wr) (hp : p < w.heap.size) (hn : n ≤ 1048576) (m1 : Mvr p wr w1) (m2 : Mvr p w1 w2) (x : Co) (vn vv vw va vb vc : Value) (hq : (cmdE (cosV n0)).q (NewF w1.heap.size w2.heap.size) w2 x [.int .i64 (x.k : Int), vn, vv, vw, va, vb, vc]) (Y : Sx) (h2 : TS p S d Y w2) :
  ∃ al m cl w', (Builtin.append_ #[23, 23] 23 #[v, .slice (some ⟨w2.heap.size + 1, 0, none⟩) 1 1]).run Tryz.prog ((w2.alloc (.cells #[.int .i64 (x.k : Int), vn, vv, vw, va, vb, vc] 37)).alloc (.cells #[.int .i64 (x.k : Int), vn, vv, vw, va, vb, vc] 37)) = .ok (.slice al m cl) w' ∧ TS p S d Y w' ∧ Mvr p w w' ∧ CosO n0 w.heap.size NoneF w' (.slice al m cl) (cs ++ [x]) ∧ m = cs.length + 1 := by
 have hle := h.le
 have e1 := m1.size
 have e2 := m2.size
 have e3 := h.mv.size
 have hb : Below w2.heap.size w2 (w2.alloc (.cells #[.int .i64 (x.k : Int), vn, vv, vw, va, vb, vc] 37)) := (Below.refl _ w2).alloc (Nat.le_refl _) _
 have hp2 : p < w2.heap.size := by omega
 have mA := (m1.trans m2).trans (Mvr.of hb hp2)
 have hrow := h.row.moved mA hp
 have hqA := (cmdE (cosV n0)).same _ _ _ _ _ (fun g hg => hb.block g hg.2) hq
 have hz : (w2.alloc (.cells #[.int .i64 (x.k : Int), vn, vv, vw, va, vb, vc] 37)).heap.size = w2.heap.size + 1 := by simp
 obtain ⟨al, m, cl, w', hr, r8, b8, -⟩ := app_one (kd_cmd n0) 23 (Fx := NewF w1.heap.size w2.heap.size) (x := x) (cs := [.int .i64 (x.k : Int), vn, vv, vw, va, vb, vc]) hrow hqA (fun g hg => ⟨by have := hg.1; omega, by have := hg.2; omega⟩) (fun g hg e => by have h1 := (h.row.lt g e).2; have := hg.1; omega) (fun g hg => hg.elim) (by omega) (by omega) (by omega)
 rw [hz] at hr
 obtain ⟨ys, hy⟩ := r8.own
 obtain ⟨ao, cap, hv, _⟩ := ownS_shape hy
 injection hv with q1 q2 q3
 exact ⟨al, m, cl, w', hr, (h2.below hb).same (b8.block p hp), (h.mv.trans mA).grow b8 hp, r8, by rw [q2, List.length_append]; rfl⟩
set_option maxHeartbeats 8000000 in
set_option maxRecDepth 20000 in
theorem listF_any (n0 k p : Nat) (S : ByteArray) (d : Nat) (KC : CmdP n0 p S d k) (hS : S.size ≤ 1048576) : ListP (n0 + 3) p S d k := by
  intro s w h
  have hg := rlvl_good k
  have hp := h.lt
  have KL := Lib.hid (fun (t : Sx) (w9 : World) (h9 : TS p S d t w9) (hgp : t.map gapS = t) => lineF_any n0 k p S d KC t w9 h9 hS hgp)
  obtain ⟨sub, hsub⟩ : ∃ sub, rlvl k = sub := ⟨_, rfl⟩
  rw [hsub] at hg KL ⊢
  obtain ⟨D, hDD⟩ : ∃ D, s.run (rlistS sub) = D := ⟨_, rfl⟩
  rw [hDD]
  have hlen := cut_size h hS
  obtain ⟨n, hn⟩ : ∃ n, n = s.len := ⟨_, rfl⟩
  have hn20 : n ≤ 1048576 := by omega
  have KS := Lib.hid (fun (t : Sx) (wr : World) (ht : TS p S d t wr) => (show Calls Tryz.prog 31 #[.pointer (some ⟨p, 0, none⟩), .bool false] wr fun x w' => x = .returned (.bool ((t.map gapS).on shEnds)) ∧ TS p S d (t.map (skipS shEnds)) w' ∧ Mvr p wr w' from seps_any p S d t false wr ht hS))
  have gapd : ∀ t : Sx, (t.map (skipS shEnds)).map gapS = t.map (skipS shEnds) := fun t => by
    cases t with
    | bad e => rfl
    | «at» l => exact congrArg Sx.at (skip_ok shEnds l (by decide)).1
  have lend : ∀ t : Sx, (t.map (skipS shEnds)).len ≤ t.len := fun t => by
    cases t with
    | bad e => exact Nat.le_refl _
    | «at» l => exact skip_len shEnds l
  have H0 := Lib.hid (fun (w1 : World) (h1 : TS p S d (s.map (skipS shEnds)) w1) (m1 : Mvr p w w1) => (⟨h1, m1, RowO.nil _ _ _ _ _, by rw [hn]; simpa using lend s, gapd s, by
    cases s with
    | bad e => exact hDD.symm
    | «at» l => exact hDD⟩ : LI (n0 + 2) p S d w n sub D [] (.slice none 0 0) (s.map (skipS shEnds)) w1))
  have ks0 := KS.out s w h
  have KE := Lib.hid (fun (t : Sx) (wr : World) (ht : TS p S d t wr) => end_any p S d t wr ht hS)
  have KCC := Lib.hid (fun (t : Sx) (wr : World) (ht : TS p S d t wr) => c_any p S d t wr ht hS)
  have KK := Lib.hid (fun (t : Sx) (wr : World) (ht : TS p S d t wr) => key_any p S d t wr ht hS)
  have hnH := Lib.hid (show (s.map (skipS shEnds)).len ≤ n by rw [hn]; exact lend s)
  have GAPD := Lib.hid gapd
  have LEND := Lib.hid lend
  obtain ⟨q0, hq0⟩ : ∃ q, (s.map gapS).on shEnds = q := ⟨_, rfl⟩
  rw [hq0] at ks0
  clear h hDD hsub hlen hn KC gapd lend hq0
  go_enter Tryz.func15, Tryz.ntmps15
  go_upto_block 0 with (go_at_call 31; (with_reducible refine ks0.mono ?_); rintro e w1 ⟨rfl, h1, m1⟩; have HI0 := Lib.hid (H0.out w1 h1 m1); clear h1 m1 ks0)
  clear H0
  go_cut [3] (fun s3 wx => ∃ (t : Sx) (cs : List Co) (vl : Value), vl = s3 ∧ Hid (LI (n0 + 2) p S d w n sub D cs vl t wx) ∧ Hid (D.sx = t ∧ ∀ y r, D = .ok y r → cs = y))
  case first =>
    go_wp2_with fail
    go_loopg [3] (n + 1) (fun q s3 wr => ∃ (t : Sx) (cs : List Co) (vl : Value), vl = s3 ∧ Hid (LI (n0 + 2) p S d w n sub D cs vl t wr) ∧ Hid (t.len + 1 ≤ q))
    case atStart => exact ⟨_, [], _, rfl, HI0, Nat.succ_le_succ hnH.out⟩
    case round =>
      obtain ⟨t, cs, vl, hvl, HI, HQ⟩ := hrel
      subst hvl
      clear HI0 hnH
      have ke := KE.out t wr HI.out.ts
      have FN := Lib.hid (fun w1 (hb : Below wr.heap.size wr w1) => (⟨HI.out.ts.below hb, HI.out.mv.trans (Mvr.of hb HI.out.ts.lt), HI.out.row.moved (Mvr.of hb HI.out.ts.lt) hp, HI.out.le, HI.out.gap, HI.out.lnk⟩ : LI (n0 + 2) p S d w n sub D cs vl t w1))
      by_cases hq : t.end = true
      · rw [hq] at ke
        have HE : Hid (D.sx = t ∧ ∀ y r, D = .ok y r → cs = y) := by
          cases t with
          | bad e =>
            have hl : D = .bad e := HI.out.lnk
            show D.sx = _ ∧ _
            rw [hl]; exact ⟨rfl, fun y r h => by cases h⟩
          | «at» l => cases l with
            | cons c r => cases hq
            | nil =>
              show D.sx = _ ∧ _
              rw [linkl_stop hg HI.out.lnk rfl]; exact ⟨rfl, fun y r h => by cases h; rfl⟩
        clear KL KS KCC KK GAPD LEND
        go_wp2_with (go_at_call 32; (with_reducible refine ke.mono ?_); rintro e w1 ⟨rfl, b1⟩; have F := Lib.hid (FN.out w1 b1); clear b1 ke)
        go_meet
        case rel => exact ⟨_, _, _, rfl, F, HE⟩
      · obtain ⟨c, r, rfl⟩ : ∃ c r, t = .at (c :: r) := by
          cases t with
          | bad e => exact absurd rfl hq
          | «at» l => cases l with
            | nil => exact absurd rfl hq
            | cons c r => exact ⟨c, r, rfl⟩
        have hq2 : (Sx.at (c :: r)).end = false := rfl
        rw [hq2] at ke
        have hcc : (Sx.at (c :: r)).c = c := rfl
        have kc := Lib.hid (fun w1 (hb : Below wr.heap.size wr w1) => KCC.out _ w1 (HI.out.ts.below hb))
        rw [hcc] at kc
        clear hq hq2 hcc
        obtain ⟨y, hy⟩ : ∃ y : Int, (c.toNat : Int) = y := ⟨_, rfl⟩
        have e41 : (y != 41) = (c != 41) := by rw [← hy]; exact byte_ne c 41
        rw [hy] at kc
        clear hy
        by_cases h41 : c = 41
        · subst h41
          replace e41 : (y != 41) = false := e41
          have HE : Hid (D.sx = .at (41 :: r) ∧ ∀ y r, D = .ok y r → cs = y) := by
            show D.sx = _ ∧ _
            rw [linkl_stop hg HI.out.lnk (by show (_ || atS [41] (41 :: r) || _ || _) = true; rw [show atS [41] (41 :: r) = true from rfl]; simp)]
            exact ⟨rfl, fun y r h => by cases h; rfl⟩
          clear KL KS KCC KK GAPD LEND KE
          go_wp2_with (first
            | (go_at_call 32; (with_reducible refine ke.mono ?_); rintro e w1 ⟨rfl, b1⟩; have k2 := kc.out w1 b1; have B1 := Lib.hid b1; clear b1 ke)
            | (go_at_call 33; (with_reducible refine k2.mono ?_); rintro e w2 ⟨rfl, b2⟩; have F := Lib.hid (FN.out w2 (below2 B1.out b2)); clear b2 k2))
          go_meet
          case rel => exact ⟨_, _, _, rfl, F, HE⟩
        · replace e41 : (y != 41) = true := by rw [e41]; simpa using h41
          have h41f : atS [41] (c :: r) = false := by simp [atS, h41]
          have kk := Lib.hid (fun w1 (hb : Below wr.heap.size wr w1) => KK.out _ w1 (HI.out.ts.below hb))
          obtain ⟨b, hb⟩ : ∃ b, (stopKeys.contains (keyS (c :: r)) || keyS (c :: r) == [105, 110]) = b := ⟨_, rfl⟩
          have hways := key_ways (c :: r)
          rw [hb] at hways
          have hst : rstopS (c :: r) = b := by
            unfold rstopS
            rw [h41f, Bool.or_assoc, hb]; rfl
          obtain ⟨K, hK⟩ : ∃ K, keyX (.at (c :: r)) = K := ⟨_, rfl⟩
          rw [hK] at kk hways
          have HW := Lib.hid hways
          clear KCC KK KE h41 h41f hK hb hways
          go_upto_region 5 with (first
            | (go_at_call 32; (with_reducible refine ke.mono ?_); rintro e w1 ⟨rfl, b1⟩; have k2 := kc.out w1 b1; have B1 := Lib.hid b1; clear b1 ke)
            | (go_at_call 33; (with_reducible refine k2.mono ?_); rintro e w2 ⟨rfl, b2⟩; have k3 := kk.out w2 (below2 B1.out b2); have B2 := Lib.hid (below2 B1.out b2); clear b2 k2)
            | (go_at_call 34; (with_reducible refine k3.mono ?_); rintro e w3 ⟨rfl, b3⟩; have B3 := Lib.hid (below2 B2.out b3); clear b3 k3))
          have F3 := Lib.hid (FN.out w3 B3.out)
          clear FN kc kk HI
          go_cut [32] (fun s32 wx => s32 = .bool b ∧ Hid (LI (n0 + 2) p S d w n sub D cs vl (.at (c :: r)) wx))
          case first =>
            clear KL KS GAPD LEND HQ
            rcases HW.out with ⟨hK, hb⟩ | ⟨hK, hb⟩
            · subst hb
              clear HW
              rcases hK with rfl | rfl | rfl | rfl
              all_goals
                go_wp2_with fail
                go_meet
                case rel => exact ⟨rfl, F3⟩
            · subst hb
              clear HW
              rcases hK with rfl | rfl | rfl | rfl | rfl | rfl
              all_goals
                go_wp2_with fail
                go_meet
                case rel => exact ⟨rfl, F3⟩
          case rest =>
            clear F3
            obtain ⟨rfl, HI⟩ := hcut
            cases b with
            | true =>
              have hD := linkl_stop hg HI.out.lnk hst
              have F := Lib.hid (HI.out.answer hp (Mvr.refl _ _) HI.out.ts (by rw [hD]; exact ⟨rfl, fun y r h => by cases h; rfl⟩))
              clear KL KS GAPD LEND HI hD
              go_wp2_with fail
              go_ret
              exact F.out
            | false =>
              have GO := Lib.hid (fun (x : Co) (hx : ∀ y r', lineS sub (c :: r) = .ok y r' → x = y) => linkl_go hg HI.out.lnk hst x hx)
              have hlt : ∀ y r', lineS sub (c :: r) = .ok y r' → r'.length < (c :: r).length := fun y r' h => lineS_lt hg _ _ _ h
              obtain ⟨X, hX⟩ : ∃ X, lineS sub (c :: r) = X := ⟨_, rfl⟩
              have kl : Calls Tryz.prog 35 #[.pointer (some ⟨p, 0, none⟩)] wc fun e w' => AnsC (n0 + 2) X wc e w' ∧ TS p S d X.sx w' ∧ Mvr p wc w' := by
                have := KL.out (.at (c :: r)) wc HI.out.ts HI.out.gap
                rw [show (Sx.at (c :: r)).run (lineS sub) = X from hX] at this
                exact this
              rw [hX] at GO hlt
              have hXl : X.sx.len + 1 ≤ (c :: r).length := by
                cases X with
                | bad e => show 0 + 1 ≤ r.length + 1; omega
                | ok y r' => exact hlt y r' rfl
              have MORE := Lib.hid (fun (w2 : World) (m2 : Mvr p wc w2) (x : Co) (vn vv vw va vb vc : Value) (hq : (cmdE (cosV (n0 + 2))).q (NewF wc.heap.size w2.heap.size) w2 x [.int .i64 (x.k : Int), vn, vv, vw, va, vb, vc]) (h2 : TS p S d X.sx w2) => HI.out.more hp hn20 (Mvr.refl _ _) m2 x vn vv vw va vb vc hq X.sx h2)
              have hle := HI.out.le
              have hle : cs.length + (c :: r).length ≤ n := hle
              have ks := Lib.hid (fun (w9 : World) (h9 : TS p S d X.sx w9) => KS.out X.sx w9 h9)
              obtain ⟨q, hq⟩ : ∃ q, (X.sx.map gapS).on shEnds = q := ⟨_, rfl⟩
              rw [hq] at GO ks
              have NX := Lib.hid (fun (w8 w9 : World) (x : Co) (al : Option Addr) (m cl : Nat) (m8 : Mvr p w w8) (r8 : CosO (n0 + 2) w.heap.size NoneF w8 (.slice al m cl) (cs ++ [x])) (m9 : Mvr p w8 w9) (h9 : TS p S d (X.sx.map (skipS shEnds)) w9) (hl : LinkL sub D (cs ++ [x]) (X.sx.map (skipS shEnds))) => (⟨h9, m8.trans m9, r8.moved m9 hp, by rw [List.length_append]; show cs.length + 1 + _ ≤ n; have := LEND.out X.sx; omega, GAPD.out X.sx, hl⟩ : LI (n0 + 2) p S d w n sub D (cs ++ [x]) (.slice al m cl) (X.sx.map (skipS shEnds)) w9))
              have AN := Lib.hid (fun (w8 w9 : World) (x : Co) (al : Option Addr) (m cl : Nat) (m8 : Mvr p w w8) (r8 : CosO (n0 + 2) w.heap.size NoneF w8 (.slice al m cl) (cs ++ [x])) (m9 : Mvr p w8 w9) (h9 : TS p S d (X.sx.map (skipS shEnds)) w9) (hD : D.sx = X.sx.map (skipS shEnds) ∧ ∀ y r, D = .ok y r → cs ++ [x] = y) => (⟨⟨cs ++ [x], al, m, cl, rfl, (r8.moved m9 hp).row, hD.2⟩, by rw [hD.1]; exact h9, m8.trans m9⟩ : AnsL (n0 + 3) D w (.returned (.slice al m cl)) w9 ∧ TS p S d D.sx w9 ∧ Mvr p w w9))
              have HC : Hid ((c :: r).length + 1 ≤ gk) := HQ.out
              have HXL : Hid ((X.sx.map (skipS shEnds)).len + 1 ≤ (c :: r).length) := Nat.le_trans (Nat.succ_le_succ (LEND.out X.sx)) hXl
              clear KL KS GAPD LEND HQ hlt hXl hle HI hst hX hq
              go_upto_region 8 with (go_at_call 35; (with_reducible refine kl.mono ?_); rintro e w2 ⟨⟨x, vn, vv, vw, va, vb, vc, rfl, hq, hxe⟩, h2, m2⟩; obtain ⟨⟨a1, n1, c1, rfl⟩, ⟨a2, n2, c2, rfl⟩, ⟨a3, n3, c3, rfl⟩, ⟨a4, n4, c4, rfl⟩, ⟨a5, n5, c5, rfl⟩, ⟨a6, n6, c6, rfl⟩⟩ := cmd_shapes hq; obtain ⟨al, m, cl, w8, hr, t8, m8, r8, hm8⟩ := MORE.out w2 m2 x _ _ _ _ _ _ hq h2; have H8 := Lib.hid (And.intro t8 (And.intro m8 r8)); have GX := Lib.hid (GO.out x hxe); clear hq hxe h2 m2 t8 m8 r8 hm8 kl)
              clear MORE GO
              go_upto_region 9 with (at_builtin; refine wpList_app_run rfl _ _ _ rfl rfl rfl hr ?_)
              have k9 := ks.out w8 H8.out.1
              clear ks hr
              cases q with
              | true =>
                have L9 := Lib.hid (GX.out.1 rfl)
                clear AN GX
                go_wp2_with (go_at_call 31; (with_reducible refine k9.mono ?_); rintro e w9 ⟨rfl, h9, m9⟩; have F9 := Lib.hid (NX.out w8 w9 x _ _ _ H8.out.2.1 H8.out.2.2 m9 h9 L9.out); clear h9 m9 k9)
                go_roundg ((X.sx.map (skipS shEnds)).len + 1)
                case rel => exact ⟨_, _, _, rfl, F9, Nat.le_refl _⟩
                case measure => have h1 := HC.out; have h2 := HXL.out; omega
              | false =>
                have D9 := Lib.hid (GX.out.2 rfl)
                clear NX GX
                go_wp2_with (go_at_call 31; (with_reducible refine k9.mono ?_); rintro e w9 ⟨rfl, h9, m9⟩; have F9 := Lib.hid (AN.out w8 w9 x _ _ _ H8.out.2.1 H8.out.2.2 m9 h9 D9.out); clear h9 m9 k9)
                go_ret
                exact F9.out
  case rest =>
    obtain ⟨t, cs, vl, hvl, HI, HE⟩ := hcut
    subst hvl
    have F := Lib.hid (HI.out.answer hp (Mvr.refl _ _) HI.out.ts HE.out)
    clear KL KS KE KCC KK GAPD LEND HI HE HI0 hnH
    go_wp2_with fail
    go_ret
    exact F.out
end Go.Proofs.YtelfgobjnibooaaGreatDoor
namespace Go.Proofs.YtelfgobjnibooaaGreatDoor
open Go.RowKit Go.Lib
theorem list_gapped {sub : Deeper} (hg : GoodD sub) : ∀ (n : Nat) (cs : List Co) (l : List UInt8), l.length = n → gapS l = l → ∀ y r, iterS (rlistStep sub) cs l = .ok y r → gapS r = r := by
 intro n
 induction n using Nat.strongRecOn with
 | ind n ih =>
  intro cs l hn hgap y r h
  rw [list_k hg] at h
  cases hs : rstopS l with
  | true =>
   have e : rlistStep sub cs l = .ok (.stop cs) l := by unfold rlistStep; rw [if_pos hs]
   rw [e] at h
   cases h
   exact hgap
  | false =>
   have e : rlistStep sub cs l = (lineS sub l).bind fun c r => if wasS shEnds r = false then .ok (.stop (cs ++ [c])) (skipS shEnds r) else .ok (.go (cs ++ [c])) (skipS shEnds r) := by unfold rlistStep; rw [if_neg (by rw [hs]; simp)]
   rw [e] at h
   cases ho : lineS sub l with
   | bad b => rw [ho] at h; cases h
   | ok x q =>
    rw [ho] at h
    have h : stepK (iterS (rlistStep sub)) (if wasS shEnds q = false then .ok (.stop (cs ++ [x])) (skipS shEnds q) else .ok (.go (cs ++ [x])) (skipS shEnds q)) = .ok y r := h
    have hsk := (skip_ok shEnds q (by decide)).1
    have hlt := lineS_lt hg _ _ _ ho
    have hle := skip_len shEnds q
    split at h
    ·cases h
     exact hsk
    ·exact ih _ (by rw [← hn]; exact Nat.lt_of_le_of_lt hle hlt) (cs ++ [x]) _ rfl hsk y r h
theorem lines_gapped {k : Nat} {l r : List UInt8} {y : List Co} (h : linesS (gK k) l = .ok y r) : gapS r = r := by
 unfold linesS at h
 obtain ⟨cs, r1, h1, h2⟩ := bind_ok h
 split at h2
 ·cases h2
 ·cases h2
  have h1 : iterS (rlistStep (rlvl k)) [] (skipS shEnds l) = .ok y r := h1
  exact list_gapped (rlvl_good k) _ [] _ rfl (skip_ok shEnds l (by decide)).1 y r h1
theorem lines_gap (k : Nat) (t : Sx) : (t.run (linesS (gK k))).sx.map gapS = (t.run (linesS (gK k))).sx := by
 cases t with
 | bad e => rfl
 | «at» l =>
  show (linesS (gK k) l).sx.map gapS = (linesS (gK k) l).sx
  cases h : linesS (gK k) l with
  | bad e => rfl
  | ok y r => exact congrArg Sx.at (lines_gapped h)
theorem need_gap {k : List UInt8} {t : Sx} (h : t.map gapS = t) : needX k t = t.run (needKey k) := by
 cases t with
 | bad e => rfl
 | «at» l =>
  have h : gapS l = l := by injection h
  show needKey k (gapS l) = needKey k l
  rw [h]
theorem run_bind {α β : Type} (t : Sx) (f : List UInt8 → Rr α) (g : α → List UInt8 → Rr β) : (t.run fun l => (f l).bind g) = (t.run f).bind g := by cases t <;> rfl
theorem step_sx {α β γ : Type} (R : Rr α) (f : List UInt8 → Rr β) (g : α → β → γ) : (R.bind fun a r => (f r).bind fun b r2 => .ok (g a b) r2).sx = (R.sx.run f).sx := by
 cases R with
 | bad e => rfl
 | ok a r =>
  show ((f r).bind fun b r2 => .ok (g a b) r2).sx = (f r).sx
  cases f r <;> rfl
def bodyX (k : Nat) (t : Sx) : Sx := (needX [100, 111, 110, 101] ((needX [100, 111] t).sx.run (linesS (gK k))).sx).sx
theorem body_fact (k : Nat) (t : Sx) (hgap : t.map gapS = t) (cs : List Co) (hc : ∀ y r, (needX [100, 111] t).sx.run (linesS (gK k)) = .ok y r → cs = y) : (t.run (bodyS (gK k))).sx = bodyX k t ∧ ∀ y r, t.run (bodyS (gK k)) = .ok y r → cs = y := by
 unfold bodyX
 rw [need_gap hgap] at hc ⊢
 rw [need_gap (lines_gap k _)]
 cases t with
 | bad e => exact ⟨rfl, fun y r h => by cases h⟩
 | «at» l =>
  have hc : ∀ y r, (needKey [100, 111] l).sx.run (linesS (gK k)) = .ok y r → cs = y := hc
  show (bodyS (gK k) l).sx = (((needKey [100, 111] l).sx.run (linesS (gK k))).sx.run (needKey [100, 111, 110, 101])).sx ∧ ∀ y r, bodyS (gK k) l = .ok y r → cs = y
  unfold bodyS
  cases h1 : needKey [100, 111] l with
  | bad e => exact ⟨rfl, fun y r h => by cases h⟩
  | ok u r1 =>
   rw [h1] at hc
   have hc : ∀ y r, linesS (gK k) r1 = .ok y r → cs = y := hc
   show ((linesS (gK k) r1).bind fun cs r1 => (needKey [100, 111, 110, 101] r1).bind fun _ r2 => .ok cs r2).sx = ((linesS (gK k) r1).sx.run (needKey [100, 111, 110, 101])).sx ∧ ∀ y r, ((linesS (gK k) r1).bind fun cs r1 => (needKey [100, 111, 110, 101] r1).bind fun _ r2 => .ok cs r2) = .ok y r → cs = y
   refine ⟨step_sx _ _ (fun a _ => a), fun y r h => ?_⟩
   obtain ⟨a, r2, h2, h⟩ := bind_ok h
   obtain ⟨_, r3, _, h⟩ := bind_ok h
   cases h
   exact hc _ _ h2
theorem rounds_fact (k : Nat) (l : List UInt8) (ca cb : List Co) (ha : ∀ y r, linesS (gK k) l = .ok y r → ca = y) (hb : ∀ y r, (needX [100, 111] (linesS (gK k) l).sx).sx.run (linesS (gK k)) = .ok y r → cb = y) :
  (roundsS (gK k) l).sx = bodyX k (linesS (gK k) l).sx ∧ ∀ y r, roundsS (gK k) l = .ok y r → (Co.mk 5 [] [] [] ca cb []) = y := by
 have hgap : (linesS (gK k) l).sx.map gapS = (linesS (gK k) l).sx := lines_gap k (.at l)
 obtain ⟨e1, e2⟩ := body_fact k _ hgap cb hb
 unfold roundsS
 refine ⟨?_, fun y r h => ?_⟩
 ·rw [step_sx (linesS (gK k) l) (bodyS (gK k)) (fun a b => Co.mk 5 [] [] [] a b [])]
  exact e1
 ·obtain ⟨a, r1, h1, h⟩ := bind_ok h
  obtain ⟨b, r2, h2, h⟩ := bind_ok h
  cases h
  rw [ha _ _ h1, e2 _ _ (by rw [h1]; exact h2)]
def elseX (k : Nat) (t : Sx) : Sx := if keyX t = [101, 108, 115, 101] then ((needX [101, 108, 115, 101] t).sx.run (linesS (gK k))).sx else t
theorem else_fact (k : Nat) (t : Sx) (hgap : t.map gapS = t) (cc : List Co) (hc : if keyX t = [101, 108, 115, 101] then ∀ y r, (needX [101, 108, 115, 101] t).sx.run (linesS (gK k)) = .ok y r → cc = y else cc = []) : (t.run (elseS (gK k))).sx = elseX k t ∧ (∀ y r, t.run (elseS (gK k)) = .ok y r → cc = y) ∧ (elseX k t).map gapS = elseX k t := by
 have hgx : (elseX k t).map gapS = elseX k t := by
  unfold elseX
  split
  ·exact lines_gap k _
  ·exact hgap
 refine (fun (h : _ ∧ _) => ⟨h.1, h.2, hgx⟩) ?_
 unfold elseX
 rw [need_gap hgap] at hc ⊢
 cases t with
 | bad e => exact ⟨rfl, fun y r h => by cases h⟩
 | «at» l =>
  have hk : keyX (.at l) = [101, 108, 115, 101] ↔ keyS l = [101, 108, 115, 101] := by
   show (if _ then _ else _) = _ ↔ _
   by_cases hc : shKeys.contains (keyS l) = true
   ·rw [if_pos hc]
   ·rw [if_neg hc]
    refine ⟨fun h => (by cases h), fun h => ?_⟩
    exfalso; apply hc; rw [h]; decide
  show (elseS (gK k) l).sx = _ ∧ ∀ y r, elseS (gK k) l = .ok y r → cc = y
  unfold elseS takeKeyS
  by_cases h : keyS l = [101, 108, 115, 101]
  ·rw [if_pos (hk.2 h)] at hc
   rw [if_pos h, if_pos (hk.2 h)]
   have hn : (Sx.at l).run (needKey [101, 108, 115, 101]) = .ok () (l.drop 4) := by
    show needKey [101, 108, 115, 101] l = _
    unfold needKey takeKeyS
    rw [if_pos h]; rfl
   rw [hn] at hc ⊢
   exact ⟨rfl, hc⟩
  ·rw [if_neg (fun e => h (hk.1 e))] at hc
   rw [if_neg h, if_neg (fun e => h (hk.1 e))]
   exact ⟨rfl, fun y r e => by cases e; exact hc⟩
def choiceX (k : Nat) (l : List UInt8) : Sx := ((needX [116, 104, 101, 110] (linesS (gK k) l).sx).sx.run (linesS (gK k))).sx
theorem choice_fact (k : Nat) (l : List UInt8) (ca cb cc : List Co) (ha : ∀ y r, linesS (gK k) l = .ok y r → ca = y) (hb : ∀ y r, (needX [116, 104, 101, 110] (linesS (gK k) l).sx).sx.run (linesS (gK k)) = .ok y r → cb = y) (hc : if keyX (choiceX k l) = [101, 108, 115, 101] then ∀ y r, (needX [101, 108, 115, 101] (choiceX k l)).sx.run (linesS (gK k)) = .ok y r → cc = y else cc = []) :
  (choiceS (gK k) l).sx = (needX [102, 105] (elseX k (choiceX k l))).sx ∧ ∀ y r, choiceS (gK k) l = .ok y r → (Co.mk 4 [] [] [] ca cb cc) = y := by
 have hgap : (linesS (gK k) l).sx.map gapS = (linesS (gK k) l).sx := lines_gap k (.at l)
 have hgap2 : (choiceX k l).map gapS = choiceX k l := lines_gap k _
 obtain ⟨e1, e2, e3⟩ := else_fact k _ hgap2 cc hc
 rw [need_gap e3]
 unfold choiceX at e1 e2 ⊢
 rw [need_gap hgap] at hb e1 e2 ⊢
 unfold choiceS
 cases h1 : linesS (gK k) l with
 | bad e =>
  rw [h1] at e1
  refine ⟨?_, fun y r h => by cases h⟩
  rw [← e1]; rfl
 | ok a r =>
  rw [h1] at hb e1 e2
  obtain rfl := ha _ _ h1
  have hb : ∀ y r', (needKey [116, 104, 101, 110] r).sx.run (linesS (gK k)) = .ok y r' → cb = y := hb
  show ((needKey [116, 104, 101, 110] r).bind _).sx = _ ∧ ∀ y r', (needKey [116, 104, 101, 110] r).bind _ = .ok y r' → _
  have e1 : ((((needKey [116, 104, 101, 110] r).sx.run (linesS (gK k))).sx).run (elseS (gK k))).sx = elseX k (((needKey [116, 104, 101, 110] r).sx.run (linesS (gK k))).sx) := e1
  have e2 : ∀ y r', (((needKey [116, 104, 101, 110] r).sx.run (linesS (gK k))).sx).run (elseS (gK k)) = .ok y r' → cc = y := e2
  show _ = ((elseX k (((needKey [116, 104, 101, 110] r).sx.run (linesS (gK k))).sx)).run (needKey [102, 105])).sx ∧ _
  rw [← e1]
  cases h2 : needKey [116, 104, 101, 110] r with
  | bad e => exact ⟨rfl, fun y r h => by cases h⟩
  | ok u r1 =>
   rw [h2] at hb e2
   have hb : ∀ y r', linesS (gK k) r1 = .ok y r' → cb = y := hb
   have e2 : ∀ y r', (linesS (gK k) r1).sx.run (elseS (gK k)) = .ok y r' → cc = y := e2
   show ((linesS (gK k) r1).bind _).sx = (((linesS (gK k) r1).sx.run (elseS (gK k))).sx.run (needKey [102, 105])).sx ∧ ∀ y r', (linesS (gK k) r1).bind _ = .ok y r' → _
   cases h3 : linesS (gK k) r1 with
   | bad e => exact ⟨rfl, fun y r h => by cases h⟩
   | ok b r2 =>
    rw [h3] at e2
    obtain rfl := hb _ _ h3
    have e2 : ∀ y r', elseS (gK k) r2 = .ok y r' → cc = y := e2
    refine ⟨step_sx (elseS (gK k) r2) (needKey [102, 105]) (fun c _ => Co.mk 4 [] [] [] ca cb c), fun y r' h => ?_⟩
    obtain ⟨b', r2', hb', h⟩ := bind_ok h
    cases hb'
    obtain ⟨c, r3, h4, h⟩ := bind_ok h
    obtain ⟨_, r4, _, h⟩ := bind_ok h
    cases h
    rw [e2 _ _ h4]
theorem drop_tw (p : UInt8 → Bool) : ∀ l : List UInt8, l.drop (l.takeWhile p).length = l.dropWhile p
 | [] => rfl
 | a :: l => by
  by_cases h : p a = true
  ·rw [List.takeWhile_cons, List.dropWhile_cons, if_pos h, if_pos h, List.length_cons, List.drop_succ_cons]
   exact drop_tw p l
  ·rw [List.takeWhile_cons, List.dropWhile_cons, if_neg h, if_neg h]; rfl
theorem name_rest {l n r : List UInt8} (h : nameR l = .ok n r) : r = [] ∨ ∃ c q, r = c :: q ∧ restOk c = false := by
 unfold nameR at h
 split at h
 ·cases h
 ·rename_i h0
  cases h
  cases l with
  | nil => exact absurd rfl h0
  | cons a l =>
   have e0 : nameS (a :: l) = if isLet a = true then a :: l.takeWhile restOk else [] := rfl
   by_cases ha : isLet a = true
   ·rw [e0, if_pos ha, List.length_cons, List.drop_succ_cons, drop_tw]
    cases hd : l.dropWhile restOk with
    | nil => exact .inl rfl
    | cons c q =>
     refine .inr ⟨c, q, rfl, ?_⟩
     have := List.head?_dropWhile_not restOk l
     rw [hd] at this
     simpa using this
   ·rw [e0, if_neg ha] at h0
    exact absurd rfl h0
theorem in_bad {n l r : List UInt8} (h : nameR l = .ok n r) (hc : atS [32, 9] r = false) : needKey [105, 110] (gapS r) = .bad 9 := by
 have hk : keyS (gapS r) ≠ [105, 110] := by
  rcases name_rest h with rfl | ⟨c, q, rfl, hr⟩
  ·decide
  ·intro hk
   have hw : whiteS c = false := by
    have : ¬ (c = 32 ∨ c = 9) := by simpa [atS] using hc
    simp only [whiteS, Bool.or_eq_false_iff, beq_eq_false_iff_ne]
    exact ⟨fun e => this (.inl e), fun e => this (.inr e)⟩
   obtain ⟨h1, _⟩ := run_key hk (by simp)
   have hg : gapS (c :: q) = remS (c :: q) := by
    unfold gapS
    rw [List.dropWhile_cons, hw]; rfl
   rw [hg] at h1
   unfold remS at h1
   by_cases h35 : c = 35
   ·subst h35
    rw [if_pos (show atS [35] (35 :: q) = true from rfl)] at h1
    rcases past_at [10] (35 :: q) with e | ⟨d, q2, e, hd⟩
    ·rw [e] at h1; cases h1
    ·rw [e] at h1
     have : d = 10 := by simpa using hd
     subst this
     rw [(run_stop (of := shMarks) (by decide) q2).1] at h1
     cases h1
   ·rw [if_neg (by simp [atS, h35])] at h1
    have hcc : c = 105 := by
     cases hm : shMarks.contains c with
     | true => rw [(run_stop hm q).1] at h1; cases h1
     | false => rw [(run_next hm q).1] at h1; exact (List.cons.inj h1).1
    subst hcc
    revert hr
    decide
 unfold needKey takeKeyS
 rw [if_neg hk]
def overX (t : Sx) : Sx := if (t.map gapS).on shEnds = true then t.map (skipS shEnds) else (t.map (skipS shEnds)).fail 9
def blankX (t : Sx) : Sx := if t.c = 32 ∨ t.c = 9 then t else t.fail 9
theorem each_fact (k : Nat) (l : List UInt8) (nm : List UInt8) (ws : List (List Pt)) (cb : List Co) (hn : ∀ y r, nameR (gapS l) = .ok y r → nm = y) (hw : ∀ y r, (needX [105, 110] (blankX (nameR (gapS l)).sx)).sx.run (wordsS (rlvl k)) = .ok y r → ws = y)
  (hb : ∀ y r, (needX [100, 111] (overX ((needX [105, 110] (blankX (nameR (gapS l)).sx)).sx.run (wordsS (rlvl k))).sx)).sx.run (linesS (gK k)) = .ok y r → cb = y) :
  (eachS (gK k) l).sx = bodyX k (overX ((needX [105, 110] (blankX (nameR (gapS l)).sx)).sx.run (wordsS (rlvl k))).sx) ∧ ∀ y r, eachS (gK k) l = .ok y r → (Co.mk 6 [nm] [] ws [] cb []) = y := by
 have gapd : ∀ t : Sx, (overX t).map gapS = overX t := fun t => by
  have h0 : (t.map (skipS shEnds)).map gapS = t.map (skipS shEnds) := by
   cases t with
   | bad e => rfl
   | «at» l => exact congrArg Sx.at (skip_ok shEnds l (by decide)).1
  unfold overX
  split
  ·exact h0
  ·cases t <;> rfl
 obtain ⟨e1, e2⟩ := body_fact k _ (gapd _) cb hb
 rw [← e1]
 unfold eachS
 cases h1 : nameR (gapS l) with
 | bad e => exact ⟨rfl, fun y r h => by cases h⟩
 | ok n r =>
  rw [h1] at hw e2
  obtain rfl := hn _ _ h1
  show ((needKey [105, 110] (gapS r)).bind _).sx = _ ∧ ∀ y r', (needKey [105, 110] (gapS r)).bind _ = .ok y r' → _
  by_cases hbl : atS [32, 9] r = true
  ·have hbx : blankX (.at r) = .at r := by
    unfold blankX
    cases r with
    | nil => cases hbl
    | cons c q =>
     rw [if_pos]
     show c = 32 ∨ c = 9
     simpa [atS] using hbl
   have hbx : blankX (Rr.ok nm r : Rr (List UInt8)).sx = .at r := hbx
   rw [hbx] at hw e2 ⊢
   have hw : ∀ y r', (needKey [105, 110] (gapS r)).sx.run (wordsS (rlvl k)) = .ok y r' → ws = y := hw
   have e2 : ∀ y r', (overX ((needKey [105, 110] (gapS r)).sx.run (wordsS (rlvl k))).sx).run (bodyS (gK k)) = .ok y r' → cb = y := e2
   show _ = ((overX ((needKey [105, 110] (gapS r)).sx.run (wordsS (rlvl k))).sx).run (bodyS (gK k))).sx ∧ _
   cases h2 : needKey [105, 110] (gapS r) with
   | bad e => exact ⟨rfl, fun y r h => by cases h⟩
   | ok u r1 =>
    rw [h2] at hw e2
    have hw : ∀ y r', wordsS (rlvl k) r1 = .ok y r' → ws = y := hw
    have e2 : ∀ y r', (overX (wordsS (rlvl k) r1).sx).run (bodyS (gK k)) = .ok y r' → cb = y := e2
    show ((wordsS (rlvl k) r1).bind fun ws r2 => if wasS shEnds r2 = false then (.bad 9 : Rr Co) else (bodyS (gK k) (skipS shEnds r2)).bind fun b r3 => .ok (.mk 6 [nm] [] ws [] b []) r3).sx = ((overX (wordsS (rlvl k) r1).sx).run (bodyS (gK k))).sx ∧ ∀ y r', ((wordsS (rlvl k) r1).bind fun ws r2 => if wasS shEnds r2 = false then (.bad 9 : Rr Co) else (bodyS (gK k) (skipS shEnds r2)).bind fun b r3 => .ok (.mk 6 [nm] [] ws [] b []) r3) = .ok y r' → _
    cases h3 : wordsS (rlvl k) r1 with
    | bad e => exact ⟨rfl, fun y r h => by cases h⟩
    | ok v r2 =>
     rw [h3] at e2
     obtain rfl := hw _ _ h3
     show (if wasS shEnds r2 = false then (.bad 9 : Rr Co) else (bodyS (gK k) (skipS shEnds r2)).bind fun b r3 => .ok (.mk 6 [nm] [] ws [] b []) r3).sx = ((if wasS shEnds r2 = true then Sx.at (skipS shEnds r2) else .bad 9).run (bodyS (gK k))).sx ∧ ∀ y r', (if wasS shEnds r2 = false then (.bad 9 : Rr Co) else (bodyS (gK k) (skipS shEnds r2)).bind fun b r3 => .ok (.mk 6 [nm] [] ws [] b []) r3) = .ok y r' → _
     have e2 : ∀ y r', (if wasS shEnds r2 = true then Sx.at (skipS shEnds r2) else .bad 9).run (bodyS (gK k)) = .ok y r' → cb = y := e2
     by_cases ho : wasS shEnds r2 = false
     ·rw [if_pos ho, if_neg (by rw [ho]; simp)]
      exact ⟨rfl, fun y r h => by cases h⟩
     ·have ho2 : wasS shEnds r2 = true := by simpa using ho
      rw [if_pos ho2] at e2
      rw [if_neg ho, if_pos ho2]
      have e2 : ∀ y r', bodyS (gK k) (skipS shEnds r2) = .ok y r' → cb = y := e2
      show ((bodyS (gK k) (skipS shEnds r2)).bind fun b r3 => .ok (Co.mk 6 [nm] [] ws [] b []) r3).sx = (bodyS (gK k) (skipS shEnds r2)).sx ∧ _
      cases h4 : bodyS (gK k) (skipS shEnds r2) with
      | bad e => exact ⟨rfl, fun y r h => by cases h⟩
      | ok b r3 =>
       obtain rfl := e2 _ _ h4
       exact ⟨rfl, fun y r h => by cases h; rfl⟩
  ·have hbf : atS [32, 9] r = false := by simpa using hbl
   have hin := in_bad h1 hbf
   have hbx : blankX (.at r) = .bad 9 := by
    unfold blankX
    rw [if_neg]
    ·rfl
    ·intro h
     apply hbl
     cases r with
     | nil => rcases h with h | h <;> cases h
     | cons c q =>
      have h : c = 32 ∨ c = 9 := h
      simpa [atS] using h
   have hbx : blankX (Rr.ok nm r : Rr (List UInt8)).sx = .bad 9 := hbx
   rw [hbx, hin]
   exact ⟨rfl, fun y r h => by cases h⟩
theorem cmd_bad {sub : Deeper} (hg : GoodD sub) {l : List UInt8} (h : (stopKeys.contains (keyS l) || keyS l == [105, 110]) = true) : cmdS sub l = .bad 9 := by
 have hm : keyS l = [116, 104, 101, 110] ∨ keyS l = [101, 108, 115, 101] ∨ keyS l = [102, 105] ∨ keyS l = [100, 111] ∨ keyS l = [100, 111, 110, 101] ∨ keyS l = [105, 110] := by
  rw [Bool.or_eq_true, beq_iff_eq] at h
  rcases h with h | h
  ·have : keyS l = [116, 104, 101, 110] ∨ keyS l = [101, 108, 115, 101] ∨ keyS l = [102, 105] ∨ keyS l = [100, 111] ∨ keyS l = [100, 111, 110, 101] := by simpa [stopKeys] using h
   rcases this with h | h | h | h | h <;> simp [h]
  ·simp [h]
 have hs : shKeys.contains (keyS l) = true := by rcases hm with h | h | h | h | h | h <;> rw [h] <;> decide
 have hp := past_at shMarks l
 have hns : assignS l = none := by
  have h2 := run_past shMarks l
  have hrun : runS shMarks l = keyS l := by
   have hne : keyS l ≠ [] := by rcases hm with h | h | h | h | h | h <;> rw [h] <;> simp
   exact (run_key rfl hne).1
  rw [hrun] at h2
  obtain ⟨m, hmm⟩ : ∃ m, pastS shMarks l = m := ⟨_, rfl⟩
  rw [hmm] at h2 hp
  obtain ⟨K, hK⟩ : ∃ K, keyS l = K := ⟨_, rfl⟩
  rw [hK] at h2 hm
  rw [← h2]
  have hname : nameS (K ++ m) = K := by
   have tw : ∀ (a : List UInt8), (∀ c ∈ a, restOk c = true) → (a ++ m).takeWhile restOk = a := by
    intro a ha
    induction a with
    | nil =>
     rcases hp with rfl | ⟨c, r, rfl, hc⟩
     ·rfl
     ·rw [List.nil_append, List.takeWhile_cons, (mark_rest c hc).1]; rfl
    | cons x a ih =>
     rw [List.cons_append, List.takeWhile_cons, ha x List.mem_cons_self]
     simp only [if_true]
     rw [ih (fun c hc => ha c (List.mem_cons_of_mem _ hc))]
   have hn1 : ∀ (x : UInt8) (a : List UInt8), isLet x = true → (∀ c ∈ a, restOk c = true) → nameS (x :: a ++ m) = x :: a := fun x a h1 h2 => by
    show (if isLet x = true then x :: List.takeWhile restOk (a ++ m) else []) = _
    rw [if_pos h1, tw a h2]
   rcases hm with rfl | rfl | rfl | rfl | rfl | rfl
   all_goals exact hn1 _ _ (by decide) (by decide)
  unfold assignS
  rw [hname]
  split
  ·rfl
  ·rw [List.drop_left]
   rcases hp with rfl | ⟨c, r, rfl, hc⟩
   ·rfl
   ·rw [take_ne (fun e => (mark_rest c hc).2 e.symm)]; rfl
 have hss : simpleS sub l = .bad 9 := by
  unfold simpleS
  rw [iterS_eq (asgStep_nice hg)]
  unfold asgStep
  rw [hns]
  show (if shKeys.contains (keyS l) = true then _ else _) = _
  rw [if_pos hs]
 unfold cmdS
 rcases hm with h | h | h | h | h | h <;> (rw [h, if_neg (by decide), if_neg (by decide), if_neg (by decide), hss])
end Go.Proofs.YtelfgobjnibooaaGreatDoor
