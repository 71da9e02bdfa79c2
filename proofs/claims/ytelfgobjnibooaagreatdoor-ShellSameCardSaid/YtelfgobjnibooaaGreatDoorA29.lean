/- Packed texts: RfQuoted2, RfApp, RfLinkW. What each of them proves stands above its theorems; the conditions stand in these. -/
import Derived.Test.YtelfgobjnibooaaGreatDoorA28
namespace Go.Proofs.YtelfgobjnibooaaGreatDoor
open Go.RowKit Go.Lib
set_option maxHeartbeats 4000000 in
set_option maxRecDepth 20000 in
theorem quoted_any (n0 k p : Nat) (S : ByteArray) (d : Nat) (s : Sx) (w : World) (h : TS p S d s w) (hS : S.size ≤ 1048576) (hD : DeepP n0 p S d k) :
    Calls Tryz.prog 172 #[.pointer (some ⟨p, 0, none⟩)] w fun e w' => AnsPs n0 (s.len - (s.run (quotS (rlvl k))).sx.len + 1) (s.run (quotS (rlvl k))) w e w' ∧ TS p S d (s.run (quotS (rlvl k))).sx w' ∧ Mvr p w w' := by
  have hg := rlvl_good k
  have hp := h.lt
  have KS := Lib.hid (fun (r : List UInt8) (w9 : World) (h9 : TS p S d (.at r) w9) => sign_any n0 k p S d (.at r) w9 h9 hS hD)
  obtain ⟨sub, hsub⟩ : ∃ sub, rlvl k = sub := ⟨_, rfl⟩
  rw [hsub] at hg KS ⊢
  obtain ⟨D, hDD⟩ : ∃ D : Rr Sp, D = s.run (iterS (dblStep sub) ⟨[], none⟩) := ⟨_, rfl⟩
  have hlen := cut_size h hS
  obtain ⟨n, hn⟩ : ∃ n, n = s.len := ⟨_, rfl⟩
  have hn20 : n ≤ 1048576 := by omega
  have H0 : Hid (QI n0 p S d w n s sub D [] (.slice none 0 0) s w) := ⟨h, Mvr.refl _ _, RowO.nil _ _ _ _ _, FitL.nil _, by omega, fun _ => rfl, by
    cases s with
    | bad e => exact hDD
    | «at» l => exact ⟨⟨[], none⟩, nm_start, rfl, hDD.symm⟩⟩
  have QB := Lib.hid (fun (e : Int) (h : D = .bad e) => quot_bad hg hDD e h)
  have QE := Lib.hid (fun (ps : List Pt) (t : Sx) (hl : LinkQ sub D ps t) (hne : ps = [] → t = s) (ht : t.end = true ∨ ∃ r, t = .at (34 :: r)) => quot_end hg hDD hl hne ht)
  obtain ⟨R, hR⟩ : ∃ R, s.run (quotS sub) = R := ⟨_, rfl⟩
  rw [hR] at QB QE ⊢
  obtain ⟨c0, hc0⟩ : ∃ c0, s.len - R.sx.len + 1 = c0 := ⟨_, rfl⟩
  rw [hc0]
  have C0 := Lib.hid hc0
  have KE := Lib.hid (fun (t : Sx) (wr : World) (ht : TS p S d t wr) => end_any p S d t wr ht hS)
  have KC := Lib.hid (fun (t : Sx) (wr : World) (ht : TS p S d t wr) => c_any p S d t wr ht hS)
  have KF := Lib.hid (fun (t : Sx) (wr : World) (ht : TS p S d t wr) => fail_any p S d t 9 (by decide) wr ht)
  have KB := Lib.hid (fun (t : Sx) (wr : World) (ht : TS p S d t wr) => byte1_34 p S d t wr ht hS)
  have hnH := Lib.hid hn
  clear h hD hDD hsub hlen hR hn hc0
  go_enter Tryz.func172, Tryz.ntmps172
  go_upto_block 0 with fail
  go_cut [3] (fun s3 wx => ∃ (t : Sx) (ps : List Pt), Hid (QI n0 p S d w n s sub D ps s3 t wx) ∧ Hid (t.end = true ∨ ∃ r, t = .at (34 :: r)))
  case first =>
    go_wp2_with fail
    go_loopg [3] (n + 1) (fun q s3 wr => ∃ (t : Sx) (ps : List Pt), Hid (QI n0 p S d w n s sub D ps s3 t wr) ∧ Hid (q = t.len + 1))
    case atStart => exact ⟨s, [], H0, by show _ = _; rw [hnH.out]⟩
    case round =>
      obtain ⟨t, ps, HI, HQ⟩ := hrel
      clear H0 hnH
      have ke := KE.out t wr HI.out.ts
      have FN := Lib.hid (fun w1 (hb : Below wr.heap.size wr w1) => HI.out.below hp hb)
      by_cases hq : t.end = true
      · rw [hq] at ke
        clear QB QE KS KF KB KC
        go_wp2_with (go_at_call 32; (with_reducible refine ke.mono ?_); rintro e w1 ⟨rfl, b1⟩; have F := Lib.hid (FN.out w1 b1); clear b1 ke)
        go_meet
        case rel => exact ⟨t, ps, F, .inl hq⟩
      · obtain ⟨c, r, rfl⟩ : ∃ c r, t = .at (c :: r) := by
          cases t with
          | bad e => exact absurd rfl hq
          | «at» l => cases l with
            | nil => exact absurd rfl hq
            | cons c r => exact ⟨c, r, rfl⟩
        have hq2 : (Sx.at (c :: r)).end = false := rfl
        rw [hq2] at ke
        have hcc : (Sx.at (c :: r)).c = c := rfl
        have kc := Lib.hid (fun w1 (hb : Below wr.heap.size wr w1) => KC.out _ w1 (HI.out.below hp hb).ts)
        rw [hcc] at kc
        clear hq hq2
        by_cases h34 : c = 34
        · subst h34
          clear QB QE KS KF KB KC
          go_wp2_with (first
            | (go_at_call 32; (with_reducible refine ke.mono ?_); rintro e w1 ⟨rfl, b1⟩; have k2 := kc.out w1 b1; have B1 := Lib.hid b1; clear b1 ke)
            | (go_at_call 33; (with_reducible refine k2.mono ?_); rintro e w2 ⟨rfl, b2⟩; have F := Lib.hid (FN.out w2 (below2 B1.out b2)); clear b2 k2))
          go_meet
          case rel => exact ⟨_, ps, F, .inr ⟨r, rfl⟩⟩
        · have hn34 : ((c.toNat : Int) != 34) = true := by
            show ((c.toNat : Int) != ((34 : UInt8).toNat : Int)) = true
            rw [byte_ne]; simpa using h34
          obtain ⟨a, hwk, hst⟩ := QM.start HI.out.ts hS
          have ST := Lib.hid hst
          have KI := Lib.hid (fun (w : World) => bound_lit c w)
          obtain ⟨y, hy⟩ : ∃ y : Int, (c.toNat : Int) = y := ⟨_, rfl⟩
          rw [hy] at kc KI hn34
          have e96 : (y == 96) = (c == 96) := by rw [← hy]; exact byte_eq c 96
          have e36 : (y == 36) = (c == 36) := by rw [← hy]; exact byte_eq c 36
          have e92 : (y == 92) = (c == 92) := by rw [← hy]; exact byte_eq c 92
          have HY := Lib.hid hy
          have HC : Hid (gk = (c :: r).length + 1) := HQ
          clear hst hy QE HQ
          go_upto_region 4 with (first
            | (go_at_call 32; (with_reducible refine ke.mono ?_); rintro e w1 ⟨rfl, b1⟩; have k2 := kc.out w1 b1; have B1 := Lib.hid b1; clear b1 ke)
            | (go_at_call 33; (with_reducible refine k2.mono ?_); rintro e w2 ⟨rfl, b2⟩; have B2 := Lib.hid (below2 B1.out b2); clear b2 k2))
          obtain ⟨hb3, hst4⟩ := ST.out w2 B2.out
          have k4 := KC.out _ _ ((HI.out.below hp hb3).ts)
          rw [hcc, HY.out] at k4
          have ST4 := Lib.hid hst4
          clear hb3 hst4
          go_upto_region 6 with (go_at_call 33; (with_reducible refine k4.mono ?_); rintro e w4 ⟨rfl, b4⟩; obtain ⟨g1, g2, qm⟩ := ST4.out w4 b4; have Q5 := Lib.hid qm; clear b4 qm k4)
          clear g1 g2 ST ST4 B2 hwk FN kc
          generalize w4.setCell ⟨p, 1, none⟩ (.int .i64 ((a : Int) + 1)) = W5 at *
          generalize w2.heap.size = g at *
          have hpr : p < wr.heap.size := HI.out.ts.lt
          have hlo : wr.heap.size ≤ g := Q5.out.lo
          by_cases h96 : c = 96
          · subst h96
            have e96 : (y == 96) = true := e96
            have Q := Lib.hid (fun W' (h : TS p S d (.bad 9) W') (m : Mvr p W5 W') => Q5.out.moved hpr h m)
            have k6 := KF.out _ W5 Q5.out.ts
            go_upto_region 18 with (go_at_call 16; (with_reducible refine k6.mono ?_); rintro e w6 ⟨rfl, h6, m6⟩; have q6 := Q.out w6 h6 m6; clear h6 m6 k6)
            obtain ⟨x, hx⟩ : ∃ x, litP true [] = x := ⟨_, rfl⟩
            rw [hx] at q6
            have Q6 := Lib.hid q6
            obtain ⟨⟨x0, x1, x2, x3, x4⟩, -⟩ := q6.box.cells
            have kw := HI.out.withL hp hn20 q6 hx (by simp) (by show 0 + 1 ≤ (96 :: r).length; simp) (link_tick hg HI.out.lnk (withP ps x))
            clear q6
            go_wp2_with (go_at_call 170; (with_reducible refine kw.mono ?_); rintro e w7 ⟨a2, n2, c2, rfl, qi⟩; have NX := Lib.hid qi; clear qi kw)
            go_roundg 1
            case rel => exact ⟨.bad 9, _, NX, rfl⟩
            case measure => have h1 := HC.out; rw [List.length_cons] at h1; omega
          · have hc96 : (c == 96) = false := by simpa using h96
            rw [hc96] at e96
            by_cases h36 : c = 36
            · subst h36
              have e36 : (y == 36) = true := e36
              have Q := Lib.hid (fun W' (h : TS p S d ((Sx.at r).run (partS sub false)).sx W') (m : Mvr p W5 W') => Q5.out.moved hpr h m)
              have k6 := KS.out r W5 Q5.out.ts
              have hg5 : g < W5.heap.size := heap_ltR Q5.out.box.blk
              have hw5 : wr.heap.size ≤ W5.heap.size := Q5.out.mv.size
              clear Q5
              go_upto_region 10 with (go_at_call 173; (with_reducible refine k6.mono ?_); rintro e w6 ⟨⟨x, al, mm, cl, rfl, hx, hxq⟩, h6, m6⟩; have q6 := Q.out w6 h6 m6; obtain ⟨⟨x0, x1, x2, x3, x4⟩, ⟨f0, f1, f2, f3, f4⟩⟩ := q6.box.cells; have HX := Lib.hid (And.intro hx hxq); have Q6 := Lib.hid q6; clear h6 m6 k6 q6 hx hxq)
              have q7 := Q6.out.all hpr x HX.out.2.1 al mm cl
              unfold fiveW at q7
              have hxw : (cosV n0).q (NewF W5.heap.size w6.heap.size) (((((w6.setCell ⟨g, 0, none⟩ (.int .i64 (x.k : Int))).setCell ⟨g, 1, none⟩ (.bool false)).setCell ⟨g, 2, none⟩ (.string ⟨x.s.toArray⟩)).setCell ⟨g, 3, none⟩ (.string ⟨x.t.toArray⟩)).setCell ⟨g, 4, none⟩ (.slice al mm cl)) (.slice al mm cl) x.l := (cosV n0).same _ _ _ _ _ (fun k hk => five_other w6 g k _ _ _ _ _ (by have := hk.1; omega)) HX.out.1
              have hsz : (((((w6.setCell ⟨g, 0, none⟩ (.int .i64 (x.k : Int))).setCell ⟨g, 1, none⟩ (.bool false)).setCell ⟨g, 2, none⟩ (.string ⟨x.s.toArray⟩)).setCell ⟨g, 3, none⟩ (.string ⟨x.t.toArray⟩)).setCell ⟨g, 4, none⟩ (.slice al mm cl)).heap.size = w6.heap.size := five_size w6 g _ _ _ _ _
              rw [← hsz] at hxw
              have HXW := Lib.hid hxw
              have Q7 := Lib.hid q7
              clear hxw hsz q7 Q6 x0 x1 x2 x3 x4 f0 f1 f2 f3 f4
              generalize ((((w6.setCell ⟨g, 0, none⟩ (.int .i64 (x.k : Int))).setCell ⟨g, 1, none⟩ (.bool false)).setCell ⟨g, 2, none⟩ (.string ⟨x.s.toArray⟩)).setCell ⟨g, 3, none⟩ (.string ⟨x.t.toArray⟩)).setCell ⟨g, 4, none⟩ (.slice al mm cl) = W7 at *
              obtain ⟨⟨x0, x1, x2, x3, x4⟩, ⟨f0, f1, f2, f3, f4⟩⟩ := Q7.out.box.cells
              have Q8 := Lib.hid (Q7.out.qu hpr)
              have hx8 : (cosV n0).q (NewF W5.heap.size W7.heap.size) (W7.setCell ⟨g, 1, none⟩ (.bool true)) (.slice al mm cl) x.l := (cosV n0).same _ _ _ _ _ (fun k hk => Below.heap_setCell _ _ _ _ (by show k ≠ g; have := hk.1; omega)) HXW.out
              have HX8 := Lib.hid hx8
              have HS8 : Hid ((W7.setCell ⟨g, 1, none⟩ (.bool true)).heap.size = W7.heap.size) := by show _ = _; simp
              clear hx8 Q7 HXW
              go_upto_region 18 with fail
              generalize W7.setCell ⟨g, 1, none⟩ (.bool true) = W8 at *
              clear x0 x1 x2 x3 x4 f0 f1 f2 f3 f4
              have kx1 : litW (quP x) ≤ 1 := by unfold litW; rw [if_neg (show (quP x).k ≠ 1 from HX.out.2.2.2.2.2)]; omega
              have kx2 : (quP x).s.length ≤ 1048576 := HX.out.2.2.2.1
              have hlx : ((partS sub false r).sx).len + 1 ≤ (Sx.at (36 :: r)).len := by have := part_sx_len hg r; show _ ≤ r.length + 1; omega
              have kw := HI.out.with hp hn20 Q8.out (NewF W5.heap.size W7.heap.size) HX8.out (fun k hk => ⟨Nat.le_trans hw5 hk.1, by rw [HS8.out]; exact hk.2⟩) kx1 kx2 hlx (link_sign hg HI.out.lnk x HX.out.2.2.1 HX.out.2.2.2.2.2)
              have QB8 := Lib.hid (show QM p S d g wr (quP x) al mm cl ((partS sub false r).sx) W8 from Q8.out)
              obtain ⟨z, hz⟩ : ∃ z, quP x = z := ⟨_, rfl⟩
              rw [hz] at kw QB8
              obtain ⟨⟨x0, x1, x2, x3, x4⟩, -⟩ := QB8.out.box.cells
              clear hlx kx1 kx2 HX Q8 HX8
              go_wp2_with (go_at_call 170; (with_reducible refine kw.mono ?_); rintro e w7 ⟨a2, n2, c2, rfl, qi⟩; have NX := Lib.hid qi; clear qi kw)
              go_roundg ((partS sub false r).sx.len + 1)
              case rel => exact ⟨_, _, NX, rfl⟩
              case measure => have h1 := HC.out; have h2 := part_sx_len hg r; rw [List.length_cons] at h1; omega
            · have hc36 : (c == 36) = false := by simpa using h36
              rw [hc36] at e36
              by_cases h92 : c = 92
              · subst h92
                have e92 : (y == 92) = true := e92
                have BADE : Hid (D = .bad 9 → ∀ (W6 W7 : World), TS p S d (.bad 9) W7 → Mvr p W5 W7 → AnsPs n0 c0 R w (.returned (.slice none 0 0)) W7 ∧ TS p S d R.sx W7 ∧ Mvr p w W7) := fun hb W6 W7 h7 m7 => by
                  have hR := QB.out 9 hb
                  rw [hR]
                  exact ⟨⟨[], none, 0, 0, rfl, RowM.nil _ _ _ _, fun y r h => (by cases h), FitL.nil _⟩, h7, (HI.out.mv.trans Q5.out.mv).trans m7⟩
                have ke5 := KE.out (.at r) W5 Q5.out.ts
                have KF5 := Lib.hid (fun W6 (hb : Below W5.heap.size W5 W6) => KF.out (.at r) W6 (Q5.out.below hpr hb).ts)
                have KC5 := Lib.hid (fun W6 (hb : Below W5.heap.size W5 W6) => KC.out (.at r) W6 (Q5.out.below hpr hb).ts)
                have MV5 := Lib.hid (fun W6 (hb : Below W5.heap.size W5 W6) => Mvr.of hb Q5.out.ts.lt)
                cases r with
                | nil =>
                  have hbad := back_bad hg (show atS shBound [] = false from rfl) HI.out.lnk
                  have FB := Lib.hid (BADE.out hbad)
                  have he : (Sx.at []).end = true := rfl
                  rw [he] at ke5
                  clear BADE QB hbad he
                  go_wp2_with (first
                    | (go_at_call 32; (with_reducible refine ke5.mono ?_); rintro e w6 ⟨rfl, b6⟩; have k7 := KF5.out w6 b6; have M6 := Lib.hid (MV5.out w6 b6); clear b6 ke5)
                    | (go_at_call 16; (with_reducible refine k7.mono ?_); rintro e w7 ⟨rfl, h7, m7⟩; have F := Lib.hid (FB.out w6 w7 h7 (M6.out.trans m7)); clear h7 m7 k7))
                  go_ret
                  exact F.out
                | cons e r =>
                  have he : (Sx.at (e :: r)).end = false := rfl
                  rw [he] at ke5
                  have hce : (Sx.at (e :: r)).c = e := rfl
                  rw [hce] at KC5
                  have KIe := Lib.hid (fun (w : World) => bound_lit e w)
                  obtain ⟨ye, hye⟩ : ∃ ye : Int, (e.toNat : Int) = ye := ⟨_, rfl⟩
                  rw [hye] at KC5 KIe
                  have HYE := Lib.hid hye
                  cases hbe : shBound.contains e with
                  | false =>
                    rw [hbe] at KIe
                    have hbad := back_bad hg (show atS shBound (e :: r) = false from hbe) HI.out.lnk
                    have FB := Lib.hid (BADE.out hbad)
                    clear BADE QB hbad he hye hbe hce
                    go_wp2_with (first
                      | (go_at_call 32; (with_reducible refine ke5.mono ?_); rintro e w6 ⟨rfl, b6⟩; have k7 := KC5.out w6 b6; have B6 := Lib.hid b6; clear b6 ke5)
                      | (go_at_call 33; (with_reducible refine k7.mono ?_); rintro e w7 ⟨rfl, b7⟩; have B7 := Lib.hid (below2 B6.out b7); have k8 := KF5.out w7 (below2 B6.out b7); clear b7 k7)
                      | (go_at_call 52; (with_reducible refine (KIe.out _).mono ?_); rintro e w8 ⟨rfl, rfl⟩)
                      | (go_at_call 16; (with_reducible refine k8.mono ?_); rintro e w9 ⟨rfl, h9, m9⟩; have F := Lib.hid (FB.out w7 w9 h9 ((MV5.out _ B7.out).trans m9)); clear h9 m9 k8))
                    go_ret
                    exact F.out
                  | true =>
                    rw [hbe] at KIe
                    have lk := link_back hg hbe HI.out.lnk
                    obtain ⟨x, hx⟩ : ∃ x, litP true [e] = x := ⟨_, rfl⟩
                    rw [hx] at lk
                    have LK := Lib.hid lk
                    obtain ⟨a2, hwk2, hst2⟩ := Q5.out.ts.step hS
                    have Q6 := Lib.hid (fun W6 (hb : Below W5.heap.size W5 W6) => (by
                      have BA := hb.alloc hb.size (.cells #[.int .u8 ye] 5)
                      have qa := Q5.out.below hpr BA
                      have zf := qa.box.cells.2.2.2.1
                      have zc := qa.box.cells.1.2.2.1
                      have cv := conv_byte W6 e
                      rw [hye] at cv
                      have q6 : QM p S d g wr (litP true [e]) none 0 0 (.at (e :: r)) ((W6.alloc (.cells #[.int .u8 ye] 5)).setCell ⟨g, 2, none⟩ (.string ⟨#[e]⟩)) := qa.text hpr [e]
                      rw [hx] at q6
                      obtain ⟨a2, hwk2, hst2⟩ := q6.ts.step hS
                      obtain ⟨g1, g2, g3, g4⟩ := hst2 _ (Below.refl _ _)
                      exact ⟨zf, zc, cv, a2, hwk2, g1, g2, q6.moved hpr g3 g4⟩ :
                      (W6.alloc (.cells #[.int .u8 ye] 5)).frozen? ⟨g, 2, none⟩ = false ∧ (W6.alloc (.cells #[.int .u8 ye] 5)).cell? ⟨g, 2, none⟩ = some (.string ⟨(litP true []).s.toArray⟩) ∧ (convert 72 9 (.slice (some ⟨W6.heap.size, 0, none⟩) 1 1)).run Tryz.prog (W6.alloc (.cells #[.int .u8 ye] 5)) = .ok (.string ⟨#[e]⟩) (W6.alloc (.cells #[.int .u8 ye] 5)) ∧
                        ∃ a2 : Nat, IntKind.i64.wrap ((a2 : Int) + 1) = (a2 : Int) + 1 ∧ ((W6.alloc (.cells #[.int .u8 ye] 5)).setCell ⟨g, 2, none⟩ (.string ⟨#[e]⟩)).cell? ⟨p, 1, none⟩ = some (.int .i64 (a2 : Int)) ∧ ((W6.alloc (.cells #[.int .u8 ye] 5)).setCell ⟨g, 2, none⟩ (.string ⟨#[e]⟩)).frozen? ⟨p, 1, none⟩ = false ∧ QM p S d g wr x none 0 0 (.at r) (((W6.alloc (.cells #[.int .u8 ye] 5)).setCell ⟨g, 2, none⟩ (.string ⟨#[e]⟩)).setCell ⟨p, 1, none⟩ (.int .i64 ((a2 : Int) + 1)))))
                    clear he hye hbe hce BADE KF5 MV5 QB lk hst2 hwk2 a2
                    go_upto_region 15 with (first
                      | (go_at_call 32; (with_reducible refine ke5.mono ?_); rintro e w6 ⟨rfl, b6⟩; have k7 := KC5.out w6 b6; have B6 := Lib.hid b6; clear b6 ke5)
                      | (go_at_call 33; (with_reducible refine k7.mono ?_); rintro e w7 ⟨rfl, b7⟩; have B7 := Lib.hid (below2 B6.out b7); have k8 := KC5.out w7 (below2 B6.out b7); clear b7 k7)
                      | (go_at_call 52; (with_reducible refine (KIe.out _).mono ?_); rintro e w8 ⟨rfl, rfl⟩))
                    go_upto_region 18 with (go_at_call 33; (with_reducible refine k8.mono ?_); rintro e w8 ⟨rfl, b8⟩; obtain ⟨zf, zc, cv, a2, hwk2, g1, g2, q6⟩ := Q6.out w8 (below2 B7.out b8); have Q9 := Lib.hid q6; clear b8 k8 q6)
                    generalize ((w8.alloc (.cells #[.int .u8 ye] 5)).setCell ⟨g, 2, none⟩ (.string ⟨#[e]⟩)).setCell ⟨p, 1, none⟩ (.int .i64 ((a2 : Int) + 1)) = W9 at *
                    clear zf zc cv g1 g2
                    obtain ⟨⟨x0, x1, x2, x3, x4⟩, -⟩ := Q9.out.box.cells
                    have kw := HI.out.withL hp hn20 Q9.out hx (by simp) (by show r.length + 1 ≤ (92 :: e :: r).length; simp) LK.out
                    go_wp2_with (go_at_call 170; (with_reducible refine kw.mono ?_); rintro e w7 ⟨a2, n2, c2, rfl, qi⟩; have NX := Lib.hid qi; clear qi kw)
                    go_roundg (r.length + 1)
                    case rel => exact ⟨.at r, _, NX, rfl⟩
                    case measure => have h1 := HC.out; simp only [List.length_cons] at h1; omega
              · have hc92 : (c == 92) = false := by simpa using h92
                rw [hc92] at e92
                have hbc : shBound.contains c = false := by
                  cases hh : shBound.contains c with
                  | false => rfl
                  | true =>
                    have : c = 34 ∨ c = 36 ∨ c = 92 ∨ c = 96 := by simpa [shBound] using hh
                    rcases this with h | h | h | h
                    · exact absurd h h34
                    · exact absurd h h36
                    · exact absurd h h92
                    · exact absurd h h96
                have BA := (Below.refl _ W5).alloc (Nat.le_refl _) (.cells #[.int .u8 y] 5)
                have qa := Q5.out.below hpr BA
                have zf := qa.box.cells.2.2.2.1
                have zc := qa.box.cells.1.2.2.1
                have cv := conv_byte W5 c
                rw [HY.out] at cv
                obtain ⟨x, hx⟩ : ∃ x, litP true [c] = x := ⟨_, rfl⟩
                have q6 : QM p S d g wr (litP true [c]) none 0 0 (.at r) ((W5.alloc (.cells #[.int .u8 y] 5)).setCell ⟨g, 2, none⟩ (.string ⟨#[c]⟩)) := qa.text hpr [c]
                rw [hx] at q6
                have Q6 := Lib.hid q6
                have lk := link_char hg hbc HI.out.lnk
                rw [hx] at lk
                have LK := Lib.hid lk
                clear BA qa q6 Q5 lk
                go_upto_region 18 with fail
                generalize (W5.alloc (.cells #[.int .u8 y] 5)).setCell ⟨g, 2, none⟩ (.string ⟨#[c]⟩) = W6 at *
                obtain ⟨⟨x0, x1, x2, x3, x4⟩, -⟩ := Q6.out.box.cells
                have kw := HI.out.withL hp hn20 Q6.out hx (by simp) (by show r.length + 1 ≤ (c :: r).length; simp) LK.out
                clear zf zc cv
                go_wp2_with (go_at_call 170; (with_reducible refine kw.mono ?_); rintro e w7 ⟨a2, n2, c2, rfl, qi⟩; have NX := Lib.hid qi; clear qi kw)
                go_roundg (r.length + 1)
                case rel => exact ⟨.at r, _, NX, rfl⟩
                case measure => have h1 := HC.out; rw [List.length_cons] at h1; omega
  case rest =>
    obtain ⟨t, ps, HI, HT⟩ := hcut
    obtain ⟨E1, E2⟩ := QE.out ps t HI.out.lnk HI.out.non HT.out
    have k1 := KB.out t wc HI.out.ts
    rw [← E1] at k1
    obtain ⟨ys, hy⟩ := HI.out.row.own
    obtain ⟨ao, cap, hv, hcap⟩ := ownS_shape hy
    clear hy KS KE KC KF KB QB QE H0 HT
    subst hv
    have M := Lib.hid (HI.out.mv)
    have ROW := Lib.hid (HI.out.row)
    have hct : n - t.len ≤ c0 ∧ 1 ≤ c0 := by
      have h1 := C0.out
      have h2 := hnH.out
      refine ⟨?_, by omega⟩
      rw [E1] at h1
      have h3 : ((t.run (needS [34])).sx).len ≤ t.len := by
        cases t with
        | bad e => exact Nat.le_refl _
        | «at» l =>
          have := needS_nice [34] l
          show ((needS [34] l).sx).len ≤ l.length
          cases hh : needS [34] l with
          | bad e => exact Nat.zero_le _
          | ok u r => rw [hh] at this; exact this
      omega
    have FIT := Lib.hid (HI.out.fit.up hct.1)
    have E2 := Lib.hid E2
    clear HI E1
    by_cases hps : ps = []
    · subst hps
      have hl : (([] : List Pt).length) = 0 := rfl
      rw [hl]
      clear hcap hl
      have FIN : Hid (∀ w9 : World, Mvr p wc w9 → TS p S d R.sx w9 → AnsPs n0 c0 R w (.returned (.slice (some ⟨w9.heap.size, 0, none⟩) 1 1)) (w9.alloc (.cells #[.int .i64 1, .bool true, .string ⟨#[]⟩, .string ⟨#[]⟩, .slice none 0 0] 42)) ∧ TS p S d R.sx (w9.alloc (.cells #[.int .i64 1, .bool true, .string ⟨#[]⟩, .string ⟨#[]⟩, .slice none 0 0] 42)) ∧ Mvr p w (w9.alloc (.cells #[.int .i64 1, .bool true, .string ⟨#[]⟩, .string ⟨#[]⟩, .slice none 0 0] 42))) := fun w9 m9 t9 => by
        have mm := M.out.trans m9
        refine ⟨⟨[litP true []], _, 1, 1, rfl, row_one (x := litP true []) (cs := [.int .i64 1, .bool true, .string ⟨#[]⟩, .string ⟨#[]⟩, .slice none 0 0]) ⟨_, rfl, cos_nil n0 _ _⟩ ⟨mm.size, by simp⟩, fun y r h => E2.out y r h, ?_⟩, t9.below ((Below.refl _ w9).alloc (Nat.le_refl _) _), mm.alloc _ hp⟩
        refine ⟨hct.2, fun q hq hk => ?_, Nat.zero_le _⟩
        obtain rfl : q = litP true [] := by simpa using hq
        exact absurd rfl hk
      go_wp2_with (go_at_call 171; (with_reducible refine k1.mono ?_); rintro e w9 ⟨rfl, h9, m9⟩; have F := Lib.hid (FIN.out w9 m9 h9); clear h9 m9 k1)
      go_ret
      exact F.out
    · have hne : (((ps.length : Nat) : Int) == 0) = false := by
        rw [beq_eq_false_iff_ne]
        intro e
        exact hps (List.length_eq_zero_iff.1 (by omega))
      have FIN : Hid (∀ w9 : World, Mvr p wc w9 → TS p S d R.sx w9 → AnsPs n0 c0 R w (.returned (.slice ao ps.length cap)) w9 ∧ TS p S d R.sx w9 ∧ Mvr p w w9) := fun w9 m9 t9 => by
        refine ⟨⟨ps, ao, ps.length, cap, rfl, (ROW.out.moved m9 hp).row, fun y r h => ?_, FIT.out⟩, t9, M.out.trans m9⟩
        have := E2.out y r h
        rwa [if_neg hps] at this
      clear ROW FIT M E2
      generalize ps.length = N at *
      go_wp2_with (go_at_call 171; (with_reducible refine k1.mono ?_); rintro e w9 ⟨rfl, h9, m9⟩; have F := Lib.hid (FIN.out w9 m9 h9); clear h9 m9 k1)
      go_ret
      exact F.out
end Go.Proofs.YtelfgobjnibooaaGreatDoor
namespace Go.Proofs.YtelfgobjnibooaaGreatDoor
open Go.RowKit Go.Lib
theorem wpList_app_run {P : Program} {w : World} {ops : Array Oper} {rest : List Oper} {o : Oper} {a : Act} {Q : Exit → Act → World → Prop} (hgd : o.guard = none) (s x : Operand) (t : TypeId)
  (ho : o.op = .call { callee := .builtin .append, args := #[s, x], argTypes := #[t, t] }) {v u v' : Value} {w' : World} (hs : a.eval s = v) (hx : a.eval x = u) (hr : (Builtin.append_ #[t, t] o.type #[v, u]).run P w = .ok v' w') (h : wpList P ops Q rest (a.put o.dst v') w') : wpList P ops Q (o :: rest) a w := by
 refine wpList_plain hgd fun K hK => ?_
 unfold Oper.wp execOp
 simp only [ho, resolve, invoke, builtin, Sem.run_bind, Sem.run_pure, Result.andThen_ok, List.map_toArray, List.map_cons, List.map_nil, hs, hx, hr]
 exact hK _ _ h
structure Kd {X : Type} (E : ElemP X) (t e : TypeId) (bytes : Nat) : Prop where
 ht : Tryz.prog.underlying t = some (.slice e)
 hi : ∃ (i : TypeInfo) (z : Value), Tryz.prog.info? e = some i ∧ i.zero = some z ∧ i.size = E.size ∧ i.bytes = bytes ∧ z.cells.size = E.size
 pos : 0 < E.size
 one : ∀ F w x cs, E.q F w x cs → ∀ u ∈ cs, u.oneCell' = true
theorem app_one {X : Type} {E : ElemP X} {t e : TypeId} {bytes : Nat} (K : Kd E t e bytes) (ty : TypeId) {B : Nat} {A Fx : Nat → Prop} {w : World} {v : Value} {xs : List X} {x : X} {cs : List Value} (h : RowO E e B A w v xs) (hx : E.q Fx w x cs) (hF : ∀ g, Fx g → B ≤ g ∧ g < w.heap.size) (hv : ∀ g, Fx g → v.ownBlock ≠ some g) (hA : ∀ g, A g → g < w.heap.size) (hB : B ≤ w.heap.size)
  (hn : xs.length + 1 ≤ 16777216) (hb : bytes ≤ 1024) :
  ∃ al n cl w', (Builtin.append_ #[t, t] ty #[v, .slice (some ⟨w.heap.size, 0, none⟩) 1 1]).run Tryz.prog (w.alloc (.cells cs.toArray e)) = .ok (.slice al n cl) w' ∧ RowO E e B A w' (.slice al n cl) (xs ++ [x]) ∧ Below B w w' ∧ ∀ g, A g → w'.heap[g]? = w.heap[g]? := by
 obtain ⟨i, z, hi, hz, hs, hby, hzs⟩ := K.hi
 obtain ⟨ys, hy⟩ := h.own
 have hbo : Below w.heap.size w (w.alloc (.cells cs.toArray e)) := (Below.refl _ w).alloc (Nat.le_refl _) _
 have hy2 : (w.alloc (.cells cs.toArray e)).ownsRow B e E.size v xs.length ys := ownS_same hy fun g hg => hbo.block g (ownS_lt hy hg).2
 have hbytes : (xs.length + 1) * bytes ≤ 140737488355328 := Nat.le_trans (Nat.mul_le_mul hn hb) (by omega)
 obtain ⟨v', w', hr, h2, h3, h4⟩ := run_append_farG (P := Tryz.prog) _ B t ty e i z E.size bytes K.ht hi hz hs hby hzs K.pos v xs.length ys hy2 ⟨w.heap.size, 0, none⟩ 1 cs (E.len _ _ _ _ hx) (cellsR w e cs) (K.one _ _ _ _ hx) (by unfold maxLen; omega) hbytes (Nat.le_trans hB hbo.size)
 obtain ⟨ao, cap, rfl, _⟩ := ownS_shape h2
 have hR : RowO E e B A (w.alloc (.cells cs.toArray e)) v xs := h.same hbo.size fun g _ hs => hbo.block g hs
 have hx2 : E.q Fx (w.alloc (.cells cs.toArray e)) x cs := E.same _ _ _ _ _ (fun g hg => hbo.block g (hF g hg).2) hx
 have hF2 : ∀ g, Fx g → B ≤ g ∧ g < (w.alloc (.cells cs.toArray e)).heap.size := fun g hg => ⟨(hF g hg).1, Nat.lt_of_lt_of_le (hF g hg).2 hbo.size⟩
 have hA2 : ∀ g, A g → g < (w.alloc (.cells cs.toArray e)).heap.size := fun g hg => Nat.lt_of_lt_of_le (hA g hg) hbo.size
 refine ⟨_, _, _, w', hr, hR.snoc hx2 hF2 hv hA2 hy2 h2 h3 h4, (hbo.mono hB).grown h3 (Nat.le_trans hB hbo.size) fun g hg2 => (ownS_lt hy2 hg2).1, fun g hg => ?_⟩
 rw [grown_blocks h3 (A := A) (fun g hg => ⟨hA2 g hg, hR.out g hg⟩) g hg]
 exact hbo.block g (hA g hg)
theorem kd_part (n : Nat) : Kd (partE (cosV n)) 38 42 72 := by
 obtain ⟨i, hi, h0, h1, h2⟩ := info_parts Tryz.infoPartR
 exact ⟨Tryz.underlying38, ⟨i, _, hi, h0, h1, h2, rfl⟩, Nat.succ_pos 4, part_one n⟩
end Go.Proofs.YtelfgobjnibooaaGreatDoor
namespace Go.Proofs.YtelfgobjnibooaaGreatDoor
open Go.RowKit Go.Lib
def LinkW (sub : Deeper) (D : Rr (List Pt)) (ps : List Pt) : Sx → Prop
 | .at m => ∃ st : Sp, st.Nm ∧ ps = st.shut ∧ iterS (wordStep sub) st m = D
 | .bad e => D = .bad e
structure WI (n0 p : Nat) (S : ByteArray) (d : Nat) (w : World) (n : Nat) (sub : Deeper) (D : Rr (List Pt)) (ps : List Pt) (v : Value) (s : Sx) (wr : World) : Prop where
 ts : TS p S d s wr
 mv : Mvr p w wr
 row : PtsO (cosV n0) w.heap.size NoneF wr v ps
 fit : FitL (n - s.len) ps
 le : s.len ≤ n
 lnk : LinkW sub D ps s
theorem WI.below {n0 p : Nat} {S : ByteArray} {d : Nat} {w wr w1 : World} {n : Nat} {sub : Deeper} {D : Rr (List Pt)} {ps : List Pt} {v : Value} {s : Sx} (h : WI n0 p S d w n sub D ps v s wr) (hp : p < w.heap.size) (hb : Below wr.heap.size wr w1) : WI n0 p S d w n sub D ps v s w1 :=
 ⟨h.ts.below hb, h.mv.trans (Mvr.of hb h.ts.lt), h.row.moved (Mvr.of hb h.ts.lt) hp, h.fit, h.le, h.lnk⟩
section
variable {sub : Deeper} (hg : GoodD sub) {D : Rr (List Pt)} {ps : List Pt}
include hg
theorem linkw_char {c : UInt8} {r : List UInt8} (hc : shMarks.contains c = false) (h : LinkW sub D ps (.at (c :: r))) : LinkW sub D (withP ps (litP false [c])) (.at r) := by
 obtain ⟨st, h1, rfl, rfl⟩ := h
 obtain ⟨a1, a2⟩ := nm_lit h1 [c] false
 exact ⟨_, a1, a2, (word_char hg st c r hc).symm⟩
theorem linkw_single {r : List UInt8} (h : LinkW sub D ps (.at (39 :: r))) : LinkW sub D (withP ps (litP true (runS [39] r))) ((Sx.at (pastS [39] r)).run (needS [39])).sx := by
 obtain ⟨st, h1, rfl, rfl⟩ := h
 have e := word_single hg st r
 unfold singleS at e
 show LinkW sub _ _ (needS [39] (pastS [39] r)).sx
 cases hn : needS [39] (pastS [39] r) with
 | bad b => rw [hn] at e; exact e
 | ok u r' =>
  rw [hn] at e
  obtain ⟨a1, a2⟩ := nm_lit h1 (runS [39] r) true
  exact ⟨_, a1, a2, e.symm⟩
theorem linkw_dbl {r : List UInt8} (h : LinkW sub D ps (.at (34 :: r))) (q : List Pt) (hq : ∀ y r', quotS sub r = .ok y r' → q = y) : LinkW sub D (q.foldl withP ps) (quotS sub r).sx := by
 obtain ⟨st, h1, rfl, rfl⟩ := h
 have e := word_dbl hg st r
 rcases quot_word hg st h1 r with ⟨b, h2, h3⟩ | ⟨qs, st1, r', h2, h3, h4, h5⟩
 ·rw [h3] at e
  rw [h2]
  exact e
 ·rw [h3] at e
  obtain rfl := hq _ _ h2
  rw [h2]
  exact ⟨st1, h4, h5.symm, e.symm⟩
theorem linkw_back {e : UInt8} {r : List UInt8} (hc : e ≠ 10) (h : LinkW sub D ps (.at (92 :: e :: r))) : LinkW sub D (withP ps (litP true [e])) (.at r) := by
 obtain ⟨st, h1, rfl, rfl⟩ := h
 obtain ⟨a1, a2⟩ := nm_lit h1 [e] true
 refine ⟨_, a1, a2, ?_⟩
 rw [word_back hg, if_neg (by simp [atS, hc])]
 rfl
theorem backw_bad {r : List UInt8} (hc : r = [] ∨ atS [10] r = true) (h : LinkW sub D ps (.at (92 :: r))) : D = .bad 9 := by
 obtain ⟨st, h1, rfl, rfl⟩ := h
 rw [word_back hg, if_pos hc]
theorem linkw_sign {r : List UInt8} (h : LinkW sub D ps (.at (36 :: r))) (x : Pt) (hx : ∀ y r', partS sub false r = .ok y r' → x = y) (hk : x.k ≠ 1) : LinkW sub D (ps ++ [x]) (partS sub false r).sx := by
 obtain ⟨st, h1, rfl, rfl⟩ := h
 have e := word_dollar hg st r
 cases hp : partS sub false r with
 | bad b =>
  rw [hp] at e
  exact e
 | ok y r' =>
  rw [hp] at e
  obtain rfl := hx y r' hp
  obtain ⟨a1, _, a3⟩ := nm_add (st := st) x hk
  exact ⟨_, a1, a3, e.symm⟩
theorem linkw_stop {c : UInt8} {r : List UInt8} (h1 : shMarks.contains c = true) (h2 : shOpens.contains c = false) (h : LinkW sub D ps (.at (c :: r))) : D = .ok ps (c :: r) := by
 obtain ⟨st, _, rfl, rfl⟩ := h
 exact word_stop hg st c r h1 h2
theorem linkw_end {s : Sx} (he : s.end = true) (h : LinkW sub D ps s) : D.sx = s ∧ ∀ y r, D = .ok y r → ps = y := by
 cases s with
 | bad e =>
  have h : D = .bad e := h
  subst h
  exact ⟨rfl, fun y r h => by cases h⟩
 | «at» l =>
  cases l with
  | cons c r => cases he
  | nil =>
   obtain ⟨st, _, rfl, rfl⟩ := h
   rw [word_nil hg]
   exact ⟨rfl, fun y r h => by cases h; rfl⟩
end
theorem fold_fit {c c0 : Nat} {ps q : List Pt} (h : FitL c ps) (hq : FitL c0 q) : FitL (c + c0) (q.foldl withP ps) := by
 have key : ∀ (q ps : List Pt), (q.foldl withP ps).length ≤ ps.length + q.length ∧ litSum (q.foldl withP ps) = litSum ps + litSum q ∧ ∀ p ∈ q.foldl withP ps, p ∈ ps ∨ p ∈ q ∨ p.k = 1 := by
  intro q
  induction q with
  | nil => intro ps; exact ⟨Nat.le_refl _, by simp [litSum], fun p h => .inl h⟩
  | cons x q ih =>
   intro ps
   obtain ⟨h1, h2, h3⟩ := ih (withP ps x)
   have h4 := with_len ps x
   have h5 := with_sum ps x
   refine ⟨by rw [List.foldl_cons, List.length_cons]; omega, ?_, ?_⟩
   ·rw [List.foldl_cons, h2, h5, show x :: q = [x] ++ q from rfl, litSum_append, litSum_one]; omega
   ·intro p hp
    rw [List.foldl_cons] at hp
    rcases h3 p hp with h | h | h
    ·rcases with_mem h with h | h | h
     ·exact .inl h
     ·exact .inr (.inl (by rw [h]; exact List.mem_cons_self))
     ·exact .inr (.inr h)
    ·exact .inr (.inl (List.mem_cons_of_mem _ h))
    ·exact .inr (.inr h)
 obtain ⟨h1, h2, h3⟩ := key q ps
 have e1 := h.len
 have e2 := hq.len
 have e3 := h.sum
 have e4 := hq.sum
 refine ⟨by omega, fun p hp hk => ?_, by omega⟩
 rcases h3 p hp with h4 | h4 | h4
 ·exact h.all p h4 hk
 ·exact hq.all p h4 hk
 ·exact absurd h4 hk
theorem FitL.take {c : Nat} {q : List Pt} (h : FitL c q) (i : Nat) : FitL c (q.take i) := by
 have h1 := h.len
 have h2 := h.sum
 have h3 : litSum q = litSum (q.take i) + litSum (q.drop i) := by rw [← litSum_append, List.take_append_drop]
 exact ⟨by rw [List.length_take]; omega, fun p hp hk => h.all p (List.mem_of_mem_take hp) hk, by omega⟩
theorem FitL.text {c : Nat} {q : List Pt} (h : FitL c q) (hc : c ≤ 1048576) {x : Pt} (hx : x ∈ q) : x.s.length ≤ 1048576 := by
 by_cases hk : x.k = 1
 ·have h1 := litSum_mem hx
  have h2 := h.sum
  unfold litW at h1
  rw [if_pos hk] at h1
  omega
 ·exact h.all x hx hk
theorem FitL.snoc {c : Nat} {ps : List Pt} (h : FitL c ps) (x : Pt) (hk : x.k ≠ 1) (hx : x.s.length ≤ 1048576) : FitL (c + 1) (ps ++ [x]) := by
 have h1 := h.len
 have h2 := h.sum
 refine ⟨by rw [List.length_append]; show _ + 1 ≤ _; omega, fun p hp hk => ?_, ?_⟩
 ·rcases List.mem_append.1 hp with h3 | h3
  ·exact h.all p h3 hk
  ·obtain rfl := List.mem_singleton.1 h3
   exact hx
 ·rw [litSum_append, litSum_one]
  unfold litW
  rw [if_neg hk]
  omega
theorem quot_len {sub : Deeper} (hg : GoodD sub) (l : List UInt8) : (quotS sub l).sx.len ≤ l.length := by
 have := dblS_nice hg ⟨[], none⟩ l
 unfold quotS
 cases h : dblS sub ⟨[], none⟩ l with
 | bad e => exact Nat.zero_le _
 | ok st r => rw [h] at this; exact this
theorem need_lt {c : UInt8} {l : List UInt8} : ((Sx.at l).run (needS [c])).sx.len + 1 ≤ l.length ∨ ((Sx.at l).run (needS [c])).sx.len = 0 := by
 cases l with
 | nil => exact .inr rfl
 | cons e r =>
  by_cases h : c = e
  ·subst h
   refine .inl ?_
   show (needS [c] (c :: r)).sx.len + 1 ≤ _
   rw [byteX_ok]
   exact Nat.le_refl _
  ·refine .inr ?_
   show (needS [c] (e :: r)).sx.len = 0
   rw [byteX_no c e r h]
   rfl
end Go.Proofs.YtelfgobjnibooaaGreatDoor
