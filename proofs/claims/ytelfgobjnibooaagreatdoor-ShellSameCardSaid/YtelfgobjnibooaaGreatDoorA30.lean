/- Packed texts: RfWordW, RfWords. What each of them proves stands above its theorems; the conditions stand in these. -/
import Derived.Test.YtelfgobjnibooaaGreatDoorA29
namespace Go.Proofs.YtelfgobjnibooaaGreatDoor
open Go.RowKit Go.Lib
def AnsW (n0 : Nat) (R : Rr (List Pt)) (w : World) (e : Ending) (w' : World) : Prop := ∃ (ps : List Pt) (al : Option Addr) (cl : Nat), e = .returned (.slice al ps.length cl) ∧ (PtsV (cosV n0)).q (NewF w.heap.size w'.heap.size) w' (.slice al ps.length cl) ps ∧ ∀ y r, R = .ok y r → ps = y
theorem WI.answer {n0 p : Nat} {S : ByteArray} {d : Nat} {w wr : World} {n : Nat} {sub : Deeper} {D : Rr (List Pt)} {ps : List Pt} {v : Value} {s : Sx} (h : WI n0 p S d w n sub D ps v s wr) (hD : D.sx = s ∧ ∀ y r, D = .ok y r → ps = y) : AnsW n0 D w (.returned v) wr ∧ TS p S d D.sx wr ∧ Mvr p w wr := by
 obtain ⟨ys, hy⟩ := h.row.own
 obtain ⟨ao, cap, hv, _⟩ := ownS_shape hy
 subst hv
 exact ⟨⟨ps, ao, cap, rfl, h.row.row, hD.2⟩, by rw [hD.1]; exact h.ts, h.mv⟩
theorem WI.char {n0 p : Nat} {S : ByteArray} {d : Nat} {w wr : World} {n : Nat} {sub : Deeper} {D : Rr (List Pt)} {ps : List Pt} {v : Value} {s t : Sx} (h : WI n0 p S d w n sub D ps v s wr) (x : Pt) {v' : Value} {w' : World} (e : Nat) (he : 1 ≤ e) (hx1 : litW x ≤ e) (hx2 : x.k ≠ 1 → x.s.length ≤ 1048576) (ht : t.len + e ≤ s.len ∨ t.len = 0 ∧ e ≤ s.len) (hl : LinkW sub D (withP ps x) t)
  (row : PtsO (cosV n0) w.heap.size NoneF w' v' (withP ps x)) (ts : TS p S d t w') (mv : Mvr p w w') : WI n0 p S d w n sub D (withP ps x) v' t w' := by
 have hle := h.le
 exact ⟨ts, mv, row, (h.fit.with x e he hx1 hx2).up (by omega), by omega, hl⟩
theorem WI.withT {n0 p : Nat} {S : ByteArray} {d : Nat} {w wr : World} {n : Nat} {sub : Deeper} {D : Rr (List Pt)} {ps : List Pt} {v : Value} {s : Sx} (h : WI n0 p S d w n sub D ps v s wr) (hp : p < w.heap.size) (hn : n ≤ 1048576) (b : Bool) (T : List UInt8) (hT : T.length ≤ 1048576) (w9 : World) (m9 : Mvr p wr w9) (t : Sx) (h9 : TS p S d t w9) :
  Calls Tryz.prog 170 #[v, .agg #[.int .i64 1, .bool b, .string ⟨T.toArray⟩, .string ⟨#[]⟩, .slice none 0 0]] w9 fun e w' => ∃ a2 n2 c2, e = .returned (.slice a2 n2 c2) ∧ PtsO (cosV n0) w.heap.size NoneF w' (.slice a2 n2 c2) (withP ps (litP b T)) ∧ TS p S d t w' ∧ Mvr p w w' :=
 with_loop n0 p S d w wr w9 ps v t NoneF (litP b T) none 0 0 (n - s.len) hp h.mv h.row m9 h9 (cos_nil n0 _ _) (fun g hg => hg.elim) h.fit (by omega) hT
set_option maxHeartbeats 8000000 in
set_option maxRecDepth 20000 in
theorem wordF_any (n0 k p : Nat) (S : ByteArray) (d : Nat) (s : Sx) (w : World) (h : TS p S d s w) (hS : S.size ≤ 1048576) (hD : DeepP n0 p S d k) :
    Calls Tryz.prog 146 #[.pointer (some ⟨p, 0, none⟩)] w fun e w' => AnsW n0 (s.run (wordS (rlvl k))) w e w' ∧ TS p S d (s.run (wordS (rlvl k))).sx w' ∧ Mvr p w w' := by
  have hg := rlvl_good k
  have hp := h.lt
  have KS := Lib.hid (fun (r : List UInt8) (w9 : World) (h9 : TS p S d (.at r) w9) => sign_any n0 k p S d (.at r) w9 h9 hS hD)
  have KQ := Lib.hid (fun (r : List UInt8) (w9 : World) (h9 : TS p S d (.at r) w9) => quoted_any n0 k p S d (.at r) w9 h9 hS hD)
  obtain ⟨sub, hsub⟩ : ∃ sub, rlvl k = sub := ⟨_, rfl⟩
  rw [hsub] at hg KS KQ ⊢
  obtain ⟨D, hDD⟩ : ∃ D, s.run (wordS sub) = D := ⟨_, rfl⟩
  rw [hDD]
  have hlen := cut_size h hS
  obtain ⟨n, hn⟩ : ∃ n, n = s.len := ⟨_, rfl⟩
  have hn20 : n ≤ 1048576 := by omega
  have H0 : Hid (WI n0 p S d w n sub D [] (.slice none 0 0) s w) := ⟨h, Mvr.refl _ _, RowO.nil _ _ _ _ _, FitL.nil _, by omega, by
    cases s with
    | bad e => exact hDD.symm
    | «at» l => exact ⟨⟨[], none⟩, nm_start, rfl, hDD⟩⟩
  have KE := Lib.hid (fun (t : Sx) (wr : World) (ht : TS p S d t wr) => end_any p S d t wr ht hS)
  have KC := Lib.hid (fun (t : Sx) (wr : World) (ht : TS p S d t wr) => c_any p S d t wr ht hS)
  have KF := Lib.hid (fun (t : Sx) (wr : World) (ht : TS p S d t wr) => fail_any p S d t 9 (by decide) wr ht)
  have KB := Lib.hid (fun (t : Sx) (wr : World) (ht : TS p S d t wr) => (show Calls Tryz.prog 171 #[.pointer (some ⟨p, 0, none⟩), .int .u8 39] wr fun x w' => x = .returned (.tuple #[]) ∧ TS p S d (t.run (needS [39])).sx w' ∧ Mvr p wr w' from byte1_any p S d t 39 wr ht hS))
  have hnH := Lib.hid hn
  clear h hD hDD hsub hlen hn
  go_enter Tryz.func146, Tryz.ntmps146
  go_upto_block 0 with fail
  go_cut [3] (fun s3 wx => ∃ (t : Sx) (ps : List Pt), Hid (WI n0 p S d w n sub D ps s3 t wx) ∧ Hid (t.end = true))
  case first =>
    go_wp2_with fail
    go_loopg [3] (n + 1) (fun q s3 wr => ∃ (t : Sx) (ps : List Pt) (vv : Value), vv = s3 ∧ Hid (WI n0 p S d w n sub D ps vv t wr) ∧ Hid (q = t.len + 1))
    case atStart => exact ⟨s, [], _, rfl, H0, by show _ = _; rw [hnH.out]⟩
    case round =>
      obtain ⟨t, ps, vv, hvv, HI, HQ⟩ := hrel
      subst hvv
      clear H0 hnH
      have ke := KE.out t wr HI.out.ts
      have FN := Lib.hid (fun w1 (hb : Below wr.heap.size wr w1) => HI.out.below hp hb)
      by_cases hq : t.end = true
      · rw [hq] at ke
        clear KS KQ KF KB KC
        go_wp2_with (go_at_call 32; (with_reducible refine ke.mono ?_); rintro e w1 ⟨rfl, b1⟩; have F := Lib.hid (FN.out w1 b1); clear b1 ke)
        go_meet
        case rel => exact ⟨t, ps, F, hq⟩
      · obtain ⟨c, r, rfl⟩ : ∃ c r, t = .at (c :: r) := by
          cases t with
          | bad e => exact absurd rfl hq
          | «at» l => cases l with
            | nil => exact absurd rfl hq
            | cons c r => exact ⟨c, r, rfl⟩
        have hq2 : (Sx.at (c :: r)).end = false := rfl
        rw [hq2] at ke
        have hcc : (Sx.at (c :: r)).c = c := rfl
        have kc := Lib.hid (fun w1 (hb : Below wr.heap.size wr w1) => KC.out _ w1 (HI.out.below hp hb).ts)
        rw [hcc] at kc
        clear hq hq2 hcc
        have hpr : p < wr.heap.size := HI.out.ts.lt
        have KPL := Lib.hid (fun (w : World) => plain_any c w)
        obtain ⟨y, hy⟩ : ∃ y : Int, (c.toNat : Int) = y := ⟨_, rfl⟩
        have e39 : (y == 39) = (c == 39) := by rw [← hy]; exact byte_eq c 39
        have e34 : (y == 34) = (c == 34) := by rw [← hy]; exact byte_eq c 34
        have e92 : (y == 92) = (c == 92) := by rw [← hy]; exact byte_eq c 92
        have e36 : (y == 36) = (c == 36) := by rw [← hy]; exact byte_eq c 36
        rw [hy] at kc KPL
        have HY := Lib.hid hy
        clear hy
        have hrl : r.length + 1 ≤ n := HI.out.le
        cases hm : shMarks.contains c with
        | false =>
          rw [hm, Bool.not_false] at KPL
          have lk := Lib.hid (linkw_char hg hm HI.out.lnk)
          have KW := Lib.hid (fun (w2 : World) (hb : Below wr.heap.size wr w2) => (show Calls Tryz.prog 170 #[vv, .agg #[.int .i64 1, .bool false, .string ⟨#[c]⟩, .string ⟨#[]⟩, .slice none 0 0]] (w2.alloc (.cells #[.int .u8 y] 5)) fun e w' => ∃ a2 n2 c2, e = .returned (.slice a2 n2 c2) ∧ PtsO (cosV n0) w.heap.size NoneF w' (.slice a2 n2 c2) (withP ps (litP false [c])) ∧ TS p S d (.at (c :: r)) w' ∧ Mvr p w w' from
            HI.out.withT hp hn20 false [c] (by simp) _ (Mvr.of (hb.alloc hb.size _) hpr) _ (HI.out.ts.below (hb.alloc hb.size _))))
          have NX := Lib.hid (fun (v' : Value) (w' : World) (row : PtsO (cosV n0) w.heap.size NoneF w' v' (withP ps (litP false [c]))) (ts : TS p S d (.at r) w') (mv : Mvr p w w') => HI.out.char (litP false [c]) 1 (Nat.le_refl _) (Nat.le_refl _) (fun h => absurd rfl h) (.inl (Nat.le_refl _)) lk.out row ts mv)
          have HC : Hid (gk = (c :: r).length + 1) := HQ
          clear KS KQ KF KB KC lk hm e39 e34 e92 e36 HQ
          go_upto_region 5 with (first
            | (go_at_call 32; (with_reducible refine ke.mono ?_); rintro e w1 ⟨rfl, b1⟩; have k2 := kc.out w1 b1; have B1 := Lib.hid b1; clear b1 ke)
            | (go_at_call 33; (with_reducible refine k2.mono ?_); rintro e w2 ⟨rfl, b2⟩; have B2 := Lib.hid (below2 B1.out b2); clear b2 k2)
            | (go_at_call 51; (with_reducible refine (KPL.out _).mono ?_); rintro e w3 ⟨rfl, rfl⟩))
          have cv := conv_byte w2 c
          rw [HY.out] at cv
          have kw := KW.out w2 B2.out
          clear KW KPL kc
          go_wp2_with (go_at_call 170; (with_reducible refine kw.mono ?_); rintro e w7 ⟨a2, n2, c2, rfl, r7, t7, m7⟩; obtain ⟨a, hwk, hst⟩ := t7.step hS; obtain ⟨g1, g2, g3, g4⟩ := hst _ (Below.refl _ _); have F7 := Lib.hid (NX.out _ _ (r7.moved g4 hp) g3 (m7.trans g4)); clear r7 t7 m7 hst g3 g4 kw)
          go_roundg (r.length + 1)
          case rel => exact ⟨_, _, _, rfl, F7, rfl⟩
          case measure => have h1 := HC.out; rw [List.length_cons] at h1; omega
        | true =>
          rw [hm, Bool.not_true] at KPL
          by_cases h39 : c = 39
          · subst h39
            replace e39 : (y == 39) = true := e39
            obtain ⟨a0, hwk, hst⟩ := HI.out.ts.step hS
            have ST := Lib.hid hst
            have HC : Hid (gk = ((39 : UInt8) :: r).length + 1) := HQ
            have lk := linkw_single hg HI.out.lnk
            obtain ⟨T0, hT0⟩ : ∃ T0, runS [39] r = T0 := ⟨_, rfl⟩
            obtain ⟨l1, hl1⟩ : ∃ l1, pastS [39] r = l1 := ⟨_, rfl⟩
            have hrp := run_past [39] r
            rw [hT0, hl1] at lk hrp
            obtain ⟨t1, ht1⟩ : ∃ t1, ((Sx.at l1).run (needS [39])).sx = t1 := ⟨_, rfl⟩
            have hT1 : T0.length + l1.length = r.length := by rw [← hrp, List.length_append]
            have hnl := need_lt (c := 39) (l := l1)
            rw [ht1] at lk hnl
            have hlt1 : t1.len ≤ r.length := by omega
            have LT := Lib.hid hlt1
            have NX := Lib.hid (fun (v' : Value) (w' : World) (row : PtsO (cosV n0) w.heap.size NoneF w' v' (withP ps (litP true T0))) (ts : TS p S d t1 w') (mv : Mvr p w w') => HI.out.char (litP true T0) (T0.length + 1) (by omega) (by show (if (1 : Nat) = 1 then T0.length else 0) ≤ _; rw [if_pos rfl]; omega) (fun h => absurd rfl h) (by show t1.len + (T0.length + 1) ≤ r.length + 1 ∨ t1.len = 0 ∧ T0.length + 1 ≤ r.length + 1; omega) lk row ts mv)
            have KB1 := Lib.hid (fun (w9 : World) (h9 : TS p S d (.at l1) w9) => KB.out _ w9 h9)
            rw [ht1] at KB1
            have KW := Lib.hid (fun (w9 : World) (m9 : Mvr p wr w9) (h9 : TS p S d t1 w9) => HI.out.withT hp hn20 true T0 (by omega) w9 m9 t1 h9)
            have hr20 : r.length ≤ 1048576 := by omega
            have HT := Lib.hid (And.intro hT0 hl1)
            clear KS KQ KF KB hst hm HQ FN lk hnl hT1 hlt1 hrp hT0 hl1 ht1
            go_upto_region 10 with (first
              | (go_at_call 32; (with_reducible refine ke.mono ?_); rintro e w1 ⟨rfl, b1⟩; have k2 := kc.out w1 b1; have B1 := Lib.hid b1; clear b1 ke)
              | (go_at_call 33; (with_reducible refine k2.mono ?_); rintro e w2 ⟨rfl, b2⟩; have B2 := Lib.hid (below2 B1.out b2); clear b2 k2)
              | (go_at_call 51; (with_reducible refine (KPL.out _).mono ?_); rintro e w3 ⟨rfl, rfl⟩))
            obtain ⟨g1, g2, g3, g4⟩ := ST.out _ B2.out
            clear ST kc
            go_upto_block 3 with fail
            have Q0 : QM p S d (w2.setCell ⟨p, 1, none⟩ (.int .i64 ((a0 : Int) + 1))).heap.size wr (litP true []) none 0 0 (.at r) ((w2.setCell ⟨p, 1, none⟩ (.int .i64 ((a0 : Int) + 1))).alloc (.cells #[.int .i64 1, .bool true, .string ⟨#[]⟩, .string ⟨#[]⟩, .slice none 0 0] 42)) :=
              ⟨g3.below ((Below.refl _ _).alloc (Nat.le_refl _) _), g4.alloc _ hpr, g4.size, ⟨heap_alloc_new _ _⟩⟩
            rw [World.size_setCell] at Q0
            have HQ0 := Lib.hid Q0
            clear g1 g2 g3 g4 Q0
            go_cut [] (fun wx => Hid (QM p S d w2.heap.size wr (litP true T0) none 0 0 (.at l1) wx))
            case first =>
              go_wp2_with fail
              generalize (w2.setCell ⟨p, 1, none⟩ (.int .i64 ((a0 : Int) + 1))).alloc (.cells #[.int .i64 1, .bool true, .string ⟨#[]⟩, .string ⟨#[]⟩, .slice none 0 0] 42) = W6 at *
              generalize w2.heap.size = g at *
              go_loopg [] (r.length + 1) (fun q wl => ∃ (m T : List UInt8), Hid (QM p S d g wr (litP true T) none 0 0 (.at m) wl) ∧ Hid (T ++ runS [39] m = T0 ∧ pastS [39] m = l1) ∧ T.length + m.length ≤ r.length ∧ Hid (q = m.length + 1))
              case atStart => exact ⟨r, [], HQ0, ⟨by rw [List.nil_append]; exact HT.out.1, HT.out.2⟩, by simp, rfl⟩
              case round =>
                obtain ⟨m, T, QH, HJ, hlen, HQ2⟩ := hrel
                have ke := KE.out (.at m) _ QH.out.ts
                have FNq := Lib.hid (fun w1 (hb : Below _ _ w1) => QH.out.below hpr hb)
                clear HQ0
                cases m with
                | nil =>
                  have he : (Sx.at []).end = true := rfl
                  rw [he] at ke
                  have hT : T = T0 := by have := HJ.out.1; rwa [show runS [39] [] = [] from rfl, List.append_nil] at this
                  have hl : ([] : List UInt8) = l1 := HJ.out.2
                  subst hT
                  subst hl
                  clear HJ
                  go_wp2_with (go_at_call 32; (with_reducible refine ke.mono ?_); rintro e w1 ⟨rfl, b1⟩; have F := Lib.hid (FNq.out w1 b1); clear b1 ke)
                  go_meet
                  case rel => exact F
                | cons c' m' =>
                  have he : (Sx.at (c' :: m')).end = false := rfl
                  rw [he] at ke
                  have hce : (Sx.at (c' :: m')).c = c' := rfl
                  have kc := Lib.hid (fun w1 (hb : Below _ _ w1) => KC.out _ w1 (QH.out.below hpr hb).ts)
                  rw [hce] at kc
                  obtain ⟨y', hy'⟩ : ∃ y' : Int, (c'.toNat : Int) = y' := ⟨_, rfl⟩
                  have e39' : (y' != 39) = (c' != 39) := by rw [← hy']; exact byte_ne c' 39
                  rw [hy'] at kc
                  by_cases h39' : c' = 39
                  · subst h39'
                    replace e39' : (y' != 39) = false := e39'
                    have hrs := run_stop (of := [39]) (c := 39) (by decide) m'
                    have hT : T = T0 := by have := HJ.out.1; rwa [hrs.1, List.append_nil] at this
                    have hl : 39 :: m' = l1 := by have := HJ.out.2; rwa [hrs.2] at this
                    subst hT
                    subst hl
                    clear HJ hrs
                    go_wp2_with (first
                      | (go_at_call 32; (with_reducible refine ke.mono ?_); rintro e w1 ⟨rfl, b1⟩; have k2 := kc.out w1 b1; have B1 := Lib.hid b1; clear b1 ke)
                      | (go_at_call 33; (with_reducible refine k2.mono ?_); rintro e w2 ⟨rfl, b2⟩; have F := Lib.hid (FNq.out w2 (below2 B1.out b2)); clear b2 k2))
                    go_meet
                    case rel => exact F
                  · replace e39' : (y' != 39) = true := by rw [e39']; simpa using h39'
                    have hrn := run_next (of := [39]) (c := c') (by simpa using h39') m'
                    have HJ2 : Hid ((T ++ [c']) ++ runS [39] m' = T0 ∧ pastS [39] m' = l1) := by
                      have := HJ.out
                      rw [hrn.1, hrn.2] at this
                      exact ⟨by rw [← this.1]; simp, this.2⟩
                    have CNV := Lib.hid (fun W => conv_byte W c')
                    rw [hy'] at CNV
                    have hln : T.length + (m'.length + 1) ≤ r.length := hlen
                    have hap := arr_app T [c']
                    have hz1 : (⟨T.toArray⟩ : ByteArray).size ≤ 1048576 := by rw [arr_size]; omega
                    have cqa : ∀ w, (Op.stringOp .add (⟨T.toArray⟩ : ByteArray) (⟨#[c']⟩ : ByteArray)).run Tryz.prog w = .ok (.string (⟨(T ++ [c']).toArray⟩ : ByteArray)) w := fun w => by
                      rw [← hap]
                      exact run_string_add_sum w _ _ (by rw [arr_size, show (⟨#[c']⟩ : ByteArray).size = 1 from rfl]; omega)
                    have hl2 : (T ++ [c']).length + m'.length ≤ r.length := by rw [List.length_append]; show T.length + 1 + m'.length ≤ _; omega
                    have CEL := Lib.hid (fun w1 (hb : Below _ _ w1) => (⟨(FNq.out w1 hb).box.cells.1.2.2.1, (FNq.out w1 hb).box.cells.2.2.2.1, (FNq.out w1 hb).text hpr (T ++ [c'])⟩ :
                      w1.cell? ⟨g, 2, none⟩ = some (.string ⟨T.toArray⟩) ∧ w1.frozen? ⟨g, 2, none⟩ = false ∧ QM p S d g _ (litP true (T ++ [c'])) none 0 0 (.at (c' :: m')) (w1.setCell ⟨g, 2, none⟩ (.string ⟨(T ++ [c']).toArray⟩))))
                    have HC2 : Hid (gk = (c' :: m').length + 1) := HQ2
                    clear HJ hrn he hce hlen hap hln h39' HQ2 hy'
                    go_upto_region 13 with (first
                      | (go_at_call 32; (with_reducible refine ke.mono ?_); rintro e w1 ⟨rfl, b1⟩; have k2 := kc.out w1 b1; have B1 := Lib.hid b1; clear b1 ke)
                      | (go_at_call 33; (with_reducible refine k2.mono ?_); rintro e w2 ⟨rfl, b2⟩; have B2 := Lib.hid (below2 B1.out b2); clear b2 k2))
                    obtain ⟨x2, f2, -⟩ := CEL.out _ B2.out
                    have k5 := kc.out _ B2.out.drew
                    have HBx := B2
                    go_region_law (go_simp; go_at_call 33; (with_reducible refine k5.mono ?_); rintro e w4 ⟨rfl, b4⟩; have B4 := Lib.hid (below2 HBx.out.drew b4); obtain ⟨y2, h2, -⟩ := CEL.out w4 (below2 HBx.out.drew b4); have cv := CNV.out w4; have BA := Lib.hid ((B4.out).alloc (B4.out.size) (.cells #[.int .u8 y'] 5)); obtain ⟨z2, zf, -⟩ := CEL.out _ BA.out; clear b4)
                    all_goals
                      obtain ⟨-, -, hq6⟩ := CEL.out _ BA.out
                      obtain ⟨a2, hwk2, hst2⟩ := hq6.ts.step hS
                      obtain ⟨g1, g2, g3, g4⟩ := hst2 _ (Below.refl _ _)
                      have G := Lib.hid (hq6.moved hpr g3 g4)
                      clear hst2 g3 g4 hq6
                      go_wp2_with fail
                      go_roundg (m'.length + 1)
                      case rel => exact ⟨m', T ++ [c'], G, HJ2, hl2, rfl⟩
                      case measure => have h1 := HC2.out; rw [List.length_cons] at h1; omega
            case rest =>
              have QH := Lib.hid hcut.out
              have kb := KB1.out _ hcut.out.ts
              clear HQ0 hcut
              have QN := Lib.hid (fun w9 (h9 : TS p S d t1 w9) (m9 : Mvr p _ w9) => QH.out.moved hpr h9 m9)
              have XC := Lib.hid (fun w9 (h9 : TS p S d t1 w9) (m9 : Mvr p _ w9) => (show w9.cell? ⟨w2.heap.size, 0, none⟩ = some (.int .i64 1) ∧ w9.cell? ⟨w2.heap.size, 1, none⟩ = some (.bool true) ∧ w9.cell? ⟨w2.heap.size, 2, none⟩ = some (.string ⟨T0.toArray⟩) ∧ w9.cell? ⟨w2.heap.size, 3, none⟩ = some (.string ⟨#[]⟩) ∧ w9.cell? ⟨w2.heap.size, 4, none⟩ = some (.slice none 0 0) from (QN.out w9 h9 m9).box.cells.1))
              go_wp2_with (first
                | (go_at_call 171; (with_reducible refine kb.mono ?_); rintro e w9 ⟨rfl, h9, m9⟩; have Q9 := Lib.hid (QN.out w9 h9 m9); obtain ⟨x0, x1, x2, x3, x4⟩ := XC.out w9 h9 m9; have kw := KW.out w9 Q9.out.mv h9; clear h9 m9 kb)
                | (go_at_call 170; (with_reducible refine kw.mono ?_); rintro e w7 ⟨a2, n2, c2, rfl, r7, t7, m7⟩; have F7 := Lib.hid (NX.out _ _ r7 t7 m7); clear r7 t7 m7 kw))
              go_roundg (t1.len + 1)
              case rel => exact ⟨_, _, _, rfl, F7, rfl⟩
              case measure => have h1 := HC.out; have h2 := LT.out; rw [List.length_cons] at h1; omega
          replace e39 : (y == 39) = false := by rw [e39]; simpa using h39
          by_cases h34 : c = 34
          · subst h34
            replace e34 : (y == 34) = true := e34
            obtain ⟨a0, hwk, hst⟩ := HI.out.ts.step hS
            have ST := Lib.hid hst
            have HC : Hid (gk = ((34 : UInt8) :: r).length + 1) := HQ
            obtain ⟨QR, hQR⟩ : ∃ QR, quotS sub r = QR := ⟨_, rfl⟩
            have hql : QR.sx.len ≤ r.length := by rw [← hQR]; exact quot_len hg r
            have HQL := Lib.hid hql
            have LK := Lib.hid (fun (q : List Pt) (hq : ∀ y r', quotS sub r = .ok y r' → q = y) => linkw_dbl hg HI.out.lnk q hq)
            have kQ := Lib.hid (fun (w9 : World) (h9 : TS p S d (.at r) w9) => (show Calls Tryz.prog 172 #[.pointer (some ⟨p, 0, none⟩)] w9 fun e w' => AnsPs n0 (r.length - (quotS sub r).sx.len + 1) (quotS sub r) w9 e w' ∧ TS p S d (quotS sub r).sx w' ∧ Mvr p w9 w' from KQ.out r w9 h9))
            rw [hQR] at LK kQ
            have START := Lib.hid (fun (W5 w6 : World) (q : List Pt) (al : Option Addr) (m cl : Nat) (m5 : Mvr p wr W5) (m6 : Mvr p W5 w6) (h6 : TS p S d QR.sx w6) (hq : (PtsV (cosV n0)).q (NewF W5.heap.size w6.heap.size) w6 (.slice al m cl) q) => (by
              obtain ⟨ao, cap, hsh, hcap⟩ := RowM.shape hq
              injection hsh with e1 e2 e3
              have hw5 := m5.size
              exact ⟨(HI.out.row.avoid (A' := NewF W5.heap.size w6.heap.size) (fun g hg => .inr (by have := hg.1; omega))).moved (m5.trans m6) hp, h6, (HI.out.mv.trans m5).trans m6, hq, e2, fun g hg => by have := hg.1; have := HI.out.mv.size; exact ⟨by omega, hg.2⟩⟩ :
              PtsO (cosV n0) w.heap.size (NewF W5.heap.size w6.heap.size) w6 vv ps ∧ TS p S d QR.sx w6 ∧ Mvr p w w6 ∧ (PtsV (cosV n0)).q (NewF W5.heap.size w6.heap.size) w6 (.slice al m cl) q ∧ m = q.length ∧ ∀ g, NewF W5.heap.size w6.heap.size g → w.heap.size ≤ g ∧ g < w6.heap.size))
            have FIN := Lib.hid (fun (wl : World) (v' : Value) (A : Nat → Prop) (q : List Pt) (hqe : ∀ y r', QR = .ok y r' → q = y) (hqf : FitL (r.length - QR.sx.len + 1) q) (row : PtsO (cosV n0) w.heap.size A wl v' (q.foldl withP ps)) (ts : TS p S d QR.sx wl) (mv : Mvr p w wl) => (⟨ts, mv, row.avoid (fun g hg => hg.elim), (fold_fit HI.out.fit hqf).up (by show n - (r.length + 1) + (r.length - QR.sx.len + 1) ≤ _; have := HQL.out; omega), by have := HQL.out; show QR.sx.len ≤ n; omega, LK.out q hqe⟩ : WI n0 p S d w n sub D (q.foldl withP ps) v' QR.sx wl))
            have FITF := Lib.hid (fun (q : List Pt) (hqf : FitL (r.length - QR.sx.len + 1) q) (i : Nat) => (by
              have h1 := fold_fit HI.out.fit (hqf.take i)
              have h2 : n - (r.length + 1) + (r.length - QR.sx.len + 1) ≤ 4194304 := by omega
              exact ⟨Nat.le_trans h1.len h2, h1.max (by omega)⟩ :
              ((q.take i).foldl withP ps).length ≤ 4194304 ∧ FitP 16777216 ((q.take i).foldl withP ps)))
            have hc0 : r.length - QR.sx.len + 1 ≤ 1048576 := by omega
            clear KS KQ KF KB KC hst hm HQ FN LK hql hQR
            go_upto_region 18 with (first
              | (go_at_call 32; (with_reducible refine ke.mono ?_); rintro e w1 ⟨rfl, b1⟩; have k2 := kc.out w1 b1; have B1 := Lib.hid b1; clear b1 ke)
              | (go_at_call 33; (with_reducible refine k2.mono ?_); rintro e w2 ⟨rfl, b2⟩; have B2 := Lib.hid (below2 B1.out b2); clear b2 k2)
              | (go_at_call 51; (with_reducible refine (KPL.out _).mono ?_); rintro e w3 ⟨rfl, rfl⟩))
            obtain ⟨g1, g2, g3, g4⟩ := ST.out _ B2.out
            have kq := kQ.out _ g3
            have G4 := Lib.hid g4
            clear g3 g4 ST kc kQ
            go_upto_block 5 with (go_at_call 172; (with_reducible refine kq.mono ?_); rintro e w6 ⟨⟨q, al, m, cl, rfl, hq, hqe, hqf⟩, h6, m6⟩; have S6 := Lib.hid (START.out _ w6 q al m cl G4.out m6 h6 hq); have HQE := Lib.hid hqe; have HQF := Lib.hid hqf; clear h6 m6 hq hqe hqf kq START)
            clear g1 g2
            generalize hA : NewF (w2.setCell ⟨p, 1, none⟩ (.int .i64 ((a0 : Int) + 1))).heap.size w6.heap.size = A at *
            clear hA
            have hmq := S6.out.2.2.2.2.1
            go_wp2_with fail
            go_loopg [3, 7] (m + 1) (fun gi s3 s7 wl => ∃ i : Nat, s7 = .int .i64 (i : Int) ∧ i ≤ m ∧ Hid (PtsO (cosV n0) w.heap.size A wl s3 ((q.take i).foldl withP ps) ∧ TS p S d QR.sx wl ∧ Mvr p w wl ∧ (PtsV (cosV n0)).q A wl (.slice al m cl) q ∧ ∀ g, A g → w.heap.size ≤ g ∧ g < wl.heap.size) ∧ Hid (gi = m + 1 - i))
            case atStart => exact ⟨0, rfl, Nat.zero_le _, ⟨S6.out.1, S6.out.2.1, S6.out.2.2.1, S6.out.2.2.2.1, S6.out.2.2.2.2.2⟩, rfl⟩
            case round =>
              obtain ⟨i, rfl, him, HL, HK⟩ := hrel
              clear S6
              by_cases hlt : i < m
              · obtain ⟨x, hx⟩ : ∃ x, q[i]? = some x := ⟨q[i]'(by omega), List.getElem?_eq_getElem _⟩
                obtain ⟨g2, c3, lo, m3, cp3, e, -, hg2, ⟨d0, d1, d2, d3, d4⟩, hm3, hmc3, hl3⟩ := pt_at HL.out.2.2.2.1 hx
                injection e with ee e2 e3
                subst ee
                clear e2 e3
                have hxm : x ∈ q := List.mem_of_getElem? hx
                have hfx := HQF.out.text hc0 hxm
                have kw := with_any n0 w.heap.size A _ x lo m3 cp3 _ hl3 HL.out.2.2.2.2 HL.out.2.2.1.size _ HL.out.1 (FITF.out q HQF.out i).1 (FITF.out q HQF.out i).2 (by omega)
                have htk : (q.take (i + 1)).foldl withP ps = withP ((q.take i).foldl withP ps) x := by
                  rw [List.take_add_one, hx, List.foldl_append]; rfl
                rw [← htk] at kw
                have NX := Lib.hid (fun (w' : World) (v' : Value) (row : PtsO (cosV n0) w.heap.size A w' v' ((q.take (i + 1)).foldl withP ps)) (hb : Below w.heap.size _ w') (hk : ∀ g, A g → w'.heap[g]? = _) => (⟨row, HL.out.2.1.same (hb.block p hp), HL.out.2.2.1.grow hb hp, (PtsV (cosV n0)).same _ _ _ _ _ hk HL.out.2.2.2.1, fun g hg => ⟨(HL.out.2.2.2.2 g hg).1, Nat.lt_of_lt_of_le (HL.out.2.2.2.2 g hg).2 hb.size⟩⟩ : PtsO (cosV n0) w.heap.size A w' v' ((q.take (i + 1)).foldl withP ps) ∧ TS p S d QR.sx w' ∧ Mvr p w w' ∧ (PtsV (cosV n0)).q A w' (.slice (some ⟨g2, 0, none⟩) m cl) q ∧ ∀ g, A g → w.heap.size ≤ g ∧ g < w'.heap.size))
                have hltI : (i : Int) < (m : Int) := by omega
                have hltd : decide ((i : Int) < (m : Int)) = true := decide_eq_true hltI
                have hltd2 : decide (i < m) = true := decide_eq_true hlt
                have hm20 : m ≤ 1048576 := by have := HQF.out.len; omega
                have hwi : IntKind.i64.wrap ((i : Int) + 1) = ((i + 1 : Nat) : Int) := by rw [IntWalk.i64_in _ (by omega)]; omega
                have hi1 : i + 1 ≤ m := hlt
                clear htk hxm hfx hmq hx hm3 hmc3 hl3 FITF FIN HQF
                go_wp2_with (go_at_call 170; (with_reducible refine kw.mono ?_); rintro e w7 ⟨v', rfl, r7, b7, k7⟩; obtain ⟨ys7, hy7⟩ := r7.own; obtain ⟨a7, c7, rfl, -⟩ := ownS_shape hy7; have F7 := Lib.hid (NX.out w7 _ r7 b7 k7); clear r7 b7 k7 hy7 kw)
                go_roundg (m + 1 - (i + 1))
                case rel => exact ⟨i + 1, rfl, hi1, F7, rfl⟩
                case measure => have h1 := HK.out; omega
              · have hie : i = m := by omega
                subst hie
                have hge : ¬ (i : Int) < (i : Int) := by omega
                have hged : decide ((i : Int) < (i : Int)) = false := decide_eq_false hge
                have htl : (q.take i).foldl withP ps = q.foldl withP ps := by rw [hmq, List.take_length]
                have hrw := HL.out.1
                rw [htl] at hrw
                have F7 := Lib.hid (FIN.out _ _ A q HQE.out HQF.out hrw HL.out.2.1 HL.out.2.2.1)
                clear htl hrw hmq FIN FITF HL HQE HQF
                go_wp2_with fail
                go_roundg (QR.sx.len + 1)
                case rel => exact ⟨_, _, _, rfl, F7, rfl⟩
                case measure => have h1 := HC.out; have h2 := HQL.out; rw [List.length_cons] at h1; omega
          replace e34 : (y == 34) = false := by rw [e34]; simpa using h34
          by_cases h92 : c = 92
          · subst h92
            replace e92 : (y == 92) = true := e92
            obtain ⟨a0, hwk, hst⟩ := HI.out.ts.step hS
            have ST := Lib.hid hst
            have HC : Hid (gk = ((92 : UInt8) :: r).length + 1) := HQ
            have BADE : Hid (D = .bad 9 → ∀ (W5 W7 : World), Mvr p wr W5 → TS p S d (.bad 9) W7 → Mvr p W5 W7 → AnsW n0 D w (.returned (.slice none 0 0)) W7 ∧ TS p S d D.sx W7 ∧ Mvr p w W7) := fun hb W5 W7 m5 h7 m7 => by
              rw [hb]
              exact ⟨⟨[], none, 0, rfl, RowM.nil _ _ _ _, fun y r h => (by cases h)⟩, h7, (HI.out.mv.trans m5).trans m7⟩
            clear KS KQ KB hst hm HQ FN
            go_upto_region 25 with (first
              | (go_at_call 32; (with_reducible refine ke.mono ?_); rintro e w1 ⟨rfl, b1⟩; have k2 := kc.out w1 b1; have B1 := Lib.hid b1; clear b1 ke)
              | (go_at_call 33; (with_reducible refine k2.mono ?_); rintro e w2 ⟨rfl, b2⟩; have B2 := Lib.hid (below2 B1.out b2); clear b2 k2)
              | (go_at_call 51; (with_reducible refine (KPL.out _).mono ?_); rintro e w3 ⟨rfl, rfl⟩))
            obtain ⟨g1, g2, g3, g4⟩ := ST.out _ B2.out
            have HYY := HY
            clear ST
            go_upto_region 26 with fail
            generalize w2.setCell ⟨p, 1, none⟩ (.int .i64 ((a0 : Int) + 1)) = W5 at *
            have ke5 := KE.out (.at r) W5 g3
            have KF5 := Lib.hid (fun W6 (hb : Below W5.heap.size W5 W6) => KF.out (.at r) W6 (g3.below hb))
            have KC5 := Lib.hid (fun W6 (hb : Below W5.heap.size W5 W6) => KC.out (.at r) W6 (g3.below hb))
            have MV5 := Lib.hid (fun W6 (hb : Below W5.heap.size W5 W6) => Mvr.of hb g3.lt)
            have G3 := Lib.hid g3
            have G4 := Lib.hid g4
            clear g1 g2 g3 g4 KE KF KC kc
            cases r with
            | nil =>
              have hbad := backw_bad hg (.inl rfl) HI.out.lnk
              have FB := Lib.hid (BADE.out hbad)
              have he : (Sx.at []).end = true := rfl
              rw [he] at ke5
              clear BADE hbad he
              go_wp2_with (first
                | (go_at_call 32; (with_reducible refine ke5.mono ?_); rintro e w6 ⟨rfl, b6⟩; have k7 := KF5.out w6 b6; have M6 := Lib.hid (MV5.out w6 b6); clear b6 ke5)
                | (go_at_call 16; (with_reducible refine k7.mono ?_); rintro e w7 ⟨rfl, h7, m7⟩; have F := Lib.hid (FB.out W5 w7 G4.out h7 (M6.out.trans m7)); clear h7 m7 k7))
              go_ret
              exact F.out
            | cons e r =>
              have he : (Sx.at (e :: r)).end = false := rfl
              rw [he] at ke5
              have hce : (Sx.at (e :: r)).c = e := rfl
              rw [hce] at KC5
              obtain ⟨ye, hye⟩ : ∃ ye : Int, (e.toNat : Int) = ye := ⟨_, rfl⟩
              have e10 : (ye == 10) = (e == 10) := by rw [← hye]; exact byte_eq e 10
              rw [hye] at KC5
              have HYE := Lib.hid hye
              clear hye he hce
              by_cases h10 : e = 10
              · replace e10 : (ye == 10) = true := by rw [e10]; simpa using h10
                have hbad := backw_bad hg (.inr (by rw [h10]; rfl)) HI.out.lnk
                have FB := Lib.hid (BADE.out hbad)
                clear BADE hbad h10
                go_wp2_with (first
                  | (go_at_call 32; (with_reducible refine ke5.mono ?_); rintro e w6 ⟨rfl, b6⟩; have k7 := KC5.out w6 b6; have B6 := Lib.hid b6; clear b6 ke5)
                  | (go_at_call 33; (with_reducible refine k7.mono ?_); rintro e w7 ⟨rfl, b7⟩; have B7 := Lib.hid (below2 B6.out b7); have k8 := KF5.out w7 (below2 B6.out b7); clear b7 k7)
                  | (go_at_call 16; (with_reducible refine k8.mono ?_); rintro e w9 ⟨rfl, h9, m9⟩; have F := Lib.hid (FB.out W5 w9 G4.out h9 ((MV5.out _ B7.out).trans m9)); clear h9 m9 k8))
                go_ret
                exact F.out
              · replace e10 : (ye == 10) = false := by rw [e10]; simpa using h10
                have lk := Lib.hid (linkw_back hg h10 HI.out.lnk)
                have KW := Lib.hid (fun (w6 : World) (hb : Below W5.heap.size W5 w6) => (show Calls Tryz.prog 170 #[vv, .agg #[.int .i64 1, .bool true, .string ⟨#[e]⟩, .string ⟨#[]⟩, .slice none 0 0]] (w6.alloc (.cells #[.int .u8 ye] 5)) fun e' w' => ∃ a2 n2 c2, e' = .returned (.slice a2 n2 c2) ∧ PtsO (cosV n0) w.heap.size NoneF w' (.slice a2 n2 c2) (withP ps (litP true [e])) ∧ TS p S d (.at (e :: r)) w' ∧ Mvr p w w' from
                  HI.out.withT hp hn20 true [e] (by simp) _ (G4.out.trans (Mvr.of (hb.alloc hb.size _) G3.out.lt)) _ (G3.out.below (hb.alloc hb.size _))))
                have NX := Lib.hid (fun (v' : Value) (w' : World) (row : PtsO (cosV n0) w.heap.size NoneF w' v' (withP ps (litP true [e]))) (ts : TS p S d (.at r) w') (mv : Mvr p w w') => HI.out.char (litP true [e]) 1 (Nat.le_refl _) (Nat.le_refl _) (fun h => absurd rfl h) (.inl (by show r.length + 1 ≤ (92 :: e :: r).length; simp)) lk.out row ts mv)
                clear lk BADE KF5 MV5 h10
                go_upto_region 29 with (first
                  | (go_at_call 32; (with_reducible refine ke5.mono ?_); rintro e w6 ⟨rfl, b6⟩; have k7 := KC5.out w6 b6; have B6 := Lib.hid b6; clear b6 ke5)
                  | (go_at_call 33; (with_reducible refine k7.mono ?_); rintro e w7 ⟨rfl, b7⟩; have B7 := Lib.hid (below2 B6.out b7); have k8 := KC5.out w7 (below2 B6.out b7); clear b7 k7))
                have CV := Lib.hid (fun W => conv_byte W e)
                rw [HYE.out] at CV
                go_wp2_with (first
                  | (go_at_call 33; (with_reducible refine k8.mono ?_); rintro e w8 ⟨rfl, b8⟩; have cv := CV.out w8; have kw := KW.out w8 (below2 B7.out b8); clear b8 k8)
                  | (go_at_call 170; (with_reducible refine kw.mono ?_); rintro e w9 ⟨a2, n2, c2, rfl, r7, t7, m7⟩; obtain ⟨a, hwk2, hst⟩ := t7.step hS; obtain ⟨g1, g2, g3, g4⟩ := hst _ (Below.refl _ _); have F7 := Lib.hid (NX.out _ _ (r7.moved g4 hp) g3 (m7.trans g4)); clear r7 t7 m7 hst g3 g4 kw))
                go_roundg (r.length + 1)
                case rel => exact ⟨_, _, _, rfl, F7, rfl⟩
                case measure => have h1 := HC.out; simp only [List.length_cons] at h1; omega
          replace e92 : (y == 92) = false := by rw [e92]; simpa using h92
          by_cases h36 : c = 36
          · subst h36
            replace e36 : (y == 36) = true := e36
            obtain ⟨a0, hwk, hst⟩ := HI.out.ts.step hS
            have ST := Lib.hid hst
            have HC : Hid (gk = ((36 : UInt8) :: r).length + 1) := HQ
            have LK := Lib.hid (fun (x : Pt) (hx : ∀ y r', partS sub false r = .ok y r' → x = y) (hk : x.k ≠ 1) => linkw_sign hg HI.out.lnk x hx hk)
            have APP := Lib.hid (fun (W5 w6 : World) (x : Pt) (al : Option Addr) (m cl : Nat) (m5 : Mvr p wr W5) (m6 : Mvr p W5 w6) (h6 : TS p S d (partS sub false r).sx w6) (hx : (cosV n0).q (NewF W5.heap.size w6.heap.size) w6 (.slice al m cl) x.l) (hq : x.q = false) (he : ∀ y r', partS sub false r = .ok y r' → x = y) (hs : x.s.length ≤ 1048576) (hk : x.k ≠ 1) => (by
              have hrow := (HI.out.row.moved (m5.trans m6) hp)
              have hlen := HI.out.fit.len
              have hw5 := m5.size
              have hw6 := m6.size
              have hwr := HI.out.mv.size
              obtain ⟨al2, n2, cl2, w8, hr, r8, b8, -⟩ := app_one (kd_part n0) 38 (Fx := NewF W5.heap.size w6.heap.size) (x := x) (cs := [.int .i64 (x.k : Int), .bool x.q, .string ⟨x.s.toArray⟩, .string ⟨x.t.toArray⟩, .slice al m cl]) hrow ⟨_, rfl, hx⟩ (fun g hg => ⟨by have := hg.1; omega, hg.2⟩) (fun g hg e => by have h1 := (HI.out.row.lt g e).2; have := hg.1; omega) (fun g hg => hg.elim) (by omega) (by omega) (by omega)
              rw [hq] at hr
              have hps := partS_nice hg false r
              have hl1 : (partS sub false r).sx.len ≤ r.length := part_sx_len hg r
              have hle := HI.out.le
              have hle : r.length + 1 ≤ n := hle
              refine ⟨al2, n2, cl2, w8, hr, h6.same (b8.block p hp), ((HI.out.mv.trans m5).trans m6).grow b8 hp, r8, ?_, by omega, LK.out x he hk⟩
              refine (HI.out.fit.snoc x hk hs).up ?_
              show n - (r.length + 1) + 1 ≤ _
              omega :
              ∃ (al2 : Option Addr) (n2 cl2 : Nat) (w8 : World), (Builtin.append_ #[38, 38] 38 #[vv, .slice (some ⟨w6.heap.size, 0, none⟩) 1 1]).run Tryz.prog (w6.alloc (.cells #[.int .i64 (x.k : Int), .bool false, .string ⟨x.s.toArray⟩, .string ⟨x.t.toArray⟩, .slice al m cl] 42)) = .ok (.slice al2 n2 cl2) w8 ∧ WI n0 p S d w n sub D (ps ++ [x]) (.slice al2 n2 cl2) (partS sub false r).sx w8))
            have hlx := part_sx_len hg r
            have HL := Lib.hid hlx
            clear KQ KF KB KC LK hst hm HQ hlx
            go_upto_region 32 with (first
              | (go_at_call 32; (with_reducible refine ke.mono ?_); rintro e w1 ⟨rfl, b1⟩; have k2 := kc.out w1 b1; have B1 := Lib.hid b1; clear b1 ke)
              | (go_at_call 33; (with_reducible refine k2.mono ?_); rintro e w2 ⟨rfl, b2⟩; have B2 := Lib.hid (below2 B1.out b2); clear b2 k2)
              | (go_at_call 51; (with_reducible refine (KPL.out _).mono ?_); rintro e w3 ⟨rfl, rfl⟩))
            obtain ⟨g1, g2, g3, g4⟩ := ST.out _ B2.out
            have ks := KS.out r _ g3
            have G4 := Lib.hid g4
            clear g3 g4 ST KS
            go_wp2_with (first
              | (go_at_call 173; (with_reducible refine ks.mono ?_); rintro e w6 ⟨⟨x, al, mm, cl, rfl, hx, hxq, hxe, hxs, hxt, hxk⟩, h6, m6⟩; obtain ⟨al2, n2, cl2, w8, hr, f8⟩ := APP.out _ w6 x al mm cl G4.out m6 h6 hx hxq hxe hxs hxk; have F8 := Lib.hid f8; clear f8 h6 m6 hx hxq hxe hxs hxt hxk ks APP)
              | (at_builtin; refine wpList_app_run rfl _ _ _ rfl rfl rfl hr ?_))
            go_roundg ((partS sub false r).sx.len + 1)
            case rel => exact ⟨_, _, _, rfl, F8, rfl⟩
            case measure => have h1 := HC.out; have h2 := HL.out; rw [List.length_cons] at h1; omega
          replace e36 : (y == 36) = false := by rw [e36]; simpa using h36
          have ho : shOpens.contains c = false := by
            cases hh : shOpens.contains c with
            | false => rfl
            | true =>
              have : c = 39 ∨ c = 34 ∨ c = 36 ∨ c = 92 := by simpa [shOpens] using hh
              rcases this with h | h | h | h
              · exact absurd h h39
              · exact absurd h h34
              · exact absurd h h36
              · exact absurd h h92
          have hD := linkw_stop hg hm ho HI.out.lnk
          have F9 := Lib.hid (fun (w1 : World) (b : Below wr.heap.size wr w1) => (FN.out w1 b).answer (by rw [hD]; exact ⟨rfl, fun y r h => by cases h; rfl⟩))
          clear KS KQ KF KB KC hm ho hD HQ FN
          go_wp2_with (first
            | (go_at_call 32; (with_reducible refine ke.mono ?_); rintro e w1 ⟨rfl, b1⟩; have k2 := kc.out w1 b1; have B1 := Lib.hid b1; clear b1 ke)
            | (go_at_call 33; (with_reducible refine k2.mono ?_); rintro e w2 ⟨rfl, b2⟩; have B2 := Lib.hid (below2 B1.out b2); clear b2 k2)
            | (go_at_call 51; (with_reducible refine (KPL.out _).mono ?_); rintro e w3 ⟨rfl, rfl⟩))
          go_ret
          exact F9.out w2 B2.out
  case rest =>
    obtain ⟨t, ps, HI, HT⟩ := hcut
    have E := linkw_end hg HT.out HI.out.lnk
    have F := Lib.hid (HI.out.answer E)
    clear KS KQ KF KB KC KE H0 HI HT E
    go_wp2_with fail
    go_ret
    exact F.out
end Go.Proofs.YtelfgobjnibooaaGreatDoor
namespace Go.Proofs.YtelfgobjnibooaaGreatDoor
open Go.RowKit Go.Lib
set_option maxRecDepth 100000 in
theorem Tryz.infoWordRf : (Tryz.prog.info? 40).map (fun i => (i.zero, i.size, i.bytes)) = some (some (.agg #[.slice none 0 0]), 1, 24) := by kernel_rfl
theorem kd_word (n : Nat) : Kd (wordE (PtsV (cosV n))) 35 40 24 := by
 obtain ⟨i, hi, h0, h1, h2⟩ := info_parts Tryz.infoWordRf
 refine ⟨Tryz.underlying35, ⟨i, _, hi, h0, h1, h2, rfl⟩, Nat.succ_pos 0, fun F w x cs h u hu => ?_⟩
 obtain ⟨v, rfl, hv⟩ := h
 obtain ⟨ao, cap, rfl, _⟩ := RowM.shape hv
 obtain rfl := List.mem_singleton.1 hu
 rfl
abbrev WdsO (L : ValP (List Co)) (B : Nat) (A : Nat → Prop) (w : World) (v : Value) (ws : List (List Pt)) : Prop := RowO (wordE (PtsV L)) 40 B A w v ws
def LinkWs (sub : Deeper) (D : Rr (List (List Pt))) (ws : List (List Pt)) : Sx → Prop
 | .at m => iterS (wordsStep sub) ws m = D
 | .bad e => D = .bad e
section
variable {sub : Deeper} (hg : GoodD sub) {D : Rr (List (List Pt))} {ws : List (List Pt)}
include hg
theorem words_step (ws : List (List Pt)) (l : List UInt8) : iterS (wordsStep sub) ws l = stepK (iterS (wordsStep sub)) (wordsStep sub ws l) := iterS_k (wordsStep_nice hg) ws l
theorem linkws_bad {t : Sx} {e : Int} (h : LinkWs sub D ws t) (hx : (t.map gapS).run (wordS sub) = .bad e) : D = .bad e := by
 cases t with
 | bad b =>
  have h1 : D = .bad b := h
  have h2 : (Rr.bad b : Rr (List Pt)) = .bad e := hx
  cases h2
  exact h1
 | «at» l =>
  have h1 : iterS (wordsStep sub) ws l = D := h
  have h2 : wordS sub (gapS l) = .bad e := hx
  rw [← h1, words_step hg]
  unfold wordsStep
  rw [h2]
  rfl
theorem linkws_stop {t : Sx} {r : List UInt8} (h : LinkWs sub D ws t) (hx : (t.map gapS).run (wordS sub) = .ok [] r) : D = .ok ws r := by
 cases t with
 | bad b => cases hx
 | «at» l =>
  have h1 : iterS (wordsStep sub) ws l = D := h
  have h2 : wordS sub (gapS l) = .ok [] r := hx
  rw [← h1, words_step hg]
  unfold wordsStep
  rw [h2]
  rfl
theorem linkws_go {t : Sx} {ps : List Pt} {r : List UInt8} (h : LinkWs sub D ws t) (hx : (t.map gapS).run (wordS sub) = .ok ps r) (hp : ps ≠ []) : LinkWs sub D (ws ++ [ps]) (.at r) ∧ r.length + 1 ≤ t.len := by
 cases t with
 | bad b => cases hx
 | «at» l =>
  have h1 : iterS (wordsStep sub) ws l = D := h
  have h2 : wordS sub (gapS l) = .ok ps r := hx
  have h3 := wordS_lt hg h2 hp
  have h4 := gapS_len l
  refine ⟨?_, by show r.length + 1 ≤ l.length; omega⟩
  show iterS (wordsStep sub) (ws ++ [ps]) r = D
  rw [← h1, words_step hg ws l]
  unfold wordsStep
  rw [h2]
  show _ = stepK _ (if ps = [] then _ else _)
  rw [if_neg hp]
  rfl
end
def AnsWs (n0 : Nat) (R : Rr (List (List Pt))) (w : World) (e : Ending) (w' : World) : Prop := ∃ (ws : List (List Pt)) (al : Option Addr) (cl : Nat), e = .returned (.slice al ws.length cl) ∧ (WdsV (cosV n0)).q (NewF w.heap.size w'.heap.size) w' (.slice al ws.length cl) ws ∧ (∀ y r, R = .ok y r → ws = y) ∧ ws.length ≤ 1048576
structure WsIF (n0 p : Nat) (S : ByteArray) (d : Nat) (w : World) (n : Nat) (sub : Deeper) (D : Rr (List (List Pt))) (ws : List (List Pt)) (v : Value) (s : Sx) (wr : World) : Prop where
 ts : TS p S d s wr
 mv : Mvr p w wr
 row : WdsO (cosV n0) w.heap.size NoneF wr v ws
 le : ws.length + s.len ≤ n
 lnk : LinkWs sub D ws s
theorem WsIF.answer {n0 p : Nat} {S : ByteArray} {d : Nat} {w wr w9 : World} {n : Nat} {sub : Deeper} {D : Rr (List (List Pt))} {ws : List (List Pt)} {v : Value} {s : Sx} (h : WsIF n0 p S d w n sub D ws v s wr) (hn : n ≤ 1048576) (hp : p < w.heap.size) (hD : ∀ y r, D = .ok y r → ws = y) (m9 : Mvr p wr w9) (h9 : TS p S d D.sx w9) : AnsWs n0 D w (.returned v) w9 ∧ TS p S d D.sx w9 ∧ Mvr p w w9 := by
 have r9 := h.row.moved m9 hp
 obtain ⟨ys, hy⟩ := r9.own
 obtain ⟨ao, cap, hv, _⟩ := ownS_shape hy
 subst hv
 have := h.le
 exact ⟨⟨ws, ao, cap, rfl, r9.row, hD, by omega⟩, h9, h.mv.trans m9⟩
def Sx.off : Sx → Bool
 | .at _ => false
 | .bad _ => true
theorem TS.flag {p : Nat} {S : ByteArray} {d : Nat} {s : Sx} {w : World} (h : TS p S d s w) : ∃ b : Int, w.cell? ⟨p, 3, none⟩ = some (.int .i64 b) ∧ (b != 0) = s.off := by
 cases s with
 | «at» l => obtain ⟨a, h, _⟩ := h; exact ⟨0, h.cells.1.2.2.2, rfl⟩
 | bad e => obtain ⟨h0, a, h, _⟩ := h; exact ⟨e, h.cells.1.2.2.2, by show (e != 0) = true; simpa using h0⟩
set_option maxHeartbeats 4000000 in
set_option maxRecDepth 20000 in
theorem wordsF_any (n0 k p : Nat) (S : ByteArray) (d : Nat) (s : Sx) (w : World) (h : TS p S d s w) (hS : S.size ≤ 1048576) (hD : DeepP n0 p S d k) :
  Calls Tryz.prog 116 #[.pointer (some ⟨p, 0, none⟩)] w fun e w' => AnsWs n0 (s.run (wordsS (rlvl k))) w e w' ∧ TS p S d (s.run (wordsS (rlvl k))).sx w' ∧ Mvr p w w' := by
 have hg := rlvl_good k
 have hp := h.lt
 have KW := Lib.hid (fun (t : Sx) (w9 : World) (h9 : TS p S d t w9) => wordF_any n0 k p S d t w9 h9 hS hD)
 obtain ⟨sub, hsub⟩ : ∃ sub, rlvl k = sub := ⟨_, rfl⟩
 rw [hsub] at hg KW ⊢
 obtain ⟨D, hDD⟩ : ∃ D, s.run (wordsS sub) = D := ⟨_, rfl⟩
 rw [hDD]
 have hlen := cut_size h hS
 obtain ⟨n, hn⟩ : ∃ n, n = s.len := ⟨_, rfl⟩
 have hn20 : n ≤ 1048576 := by omega
 have H0 : Hid (WsIF n0 p S d w n sub D [] (.slice none 0 0) s w) := ⟨h, Mvr.refl _ _, RowO.nil _ _ _ _ _, by rw [hn]; simp, by
  cases s with
  | bad e => exact hDD.symm
  | «at» l => exact hDD⟩
 have KH := Lib.hid (fun (t : Sx) (wr : World) (ht : TS p S d t wr) => white_any p S d t wr ht hS)
 have hnH := Lib.hid hn
 clear h hD hDD hsub hlen hn
 go_enter Tryz.func116, Tryz.ntmps116
 go_wp2_with fail
 go_loopg [3] (n + 1) (fun q s3 wr => ∃ (t : Sx) (ws : List (List Pt)) (vv : Value), vv = s3 ∧ Hid (WsIF n0 p S d w n sub D ws vv t wr) ∧ Hid (q = t.len + 1))
 case atStart => exact ⟨s, [], _, rfl, H0, by show _ = _; rw [hnH.out]⟩
 case round =>
  obtain ⟨t, ws, vv, hvv, HI, HQ⟩ := hrel
  subst hvv
  clear H0 hnH
  have kh := KH.out t wr HI.out.ts
  obtain ⟨X, hX⟩ : ∃ X, (t.map gapS).run (wordS sub) = X := ⟨_, rfl⟩
  have KX := Lib.hid (fun (w1 : World) (h1 : TS p S d (t.map gapS) w1) => KW.out (t.map gapS) w1 h1)
  rw [hX] at KX
  have hpr : p < wr.heap.size := HI.out.ts.lt
  have HC : Hid (gk = t.len + 1) := HQ
  clear KH KW HQ
  cases X with
  | bad e =>
   have hbad := linkws_bad hg HI.out.lnk hX
   have FA := Lib.hid (fun (w9 : World) (m9 : Mvr p wr w9) (h9 : TS p S d (.bad e) w9) => HI.out.answer hn20 hp (fun y r h => by rw [hbad] at h; cases h) m9 (by rw [hbad]; exact h9))
   clear hbad hX
   have KX : Hid (∀ w1, TS p S d (t.map gapS) w1 → Calls Tryz.prog 146 #[.pointer (some ⟨p, 0, none⟩)] w1 fun e' w' => (∃ (N : Nat) (al : Option Addr) (cl : Nat), e' = .returned (.slice al N cl)) ∧ TS p S d (.bad e) w' ∧ Mvr p w1 w') := fun w1 h1 => (KX.out w1 h1).mono fun e' w' hh => ⟨by obtain ⟨⟨ps, al, cl, h1, _⟩, _⟩ := hh; exact ⟨_, al, cl, h1⟩, hh.2⟩
   go_upto_region 4 with (first
    | (go_at_call 50; (with_reducible refine kh.mono ?_); rintro e1 w1 ⟨rfl, h1, m1⟩; have kx := KX.out w1 h1; have M1 := Lib.hid m1; clear h1 m1 kh)
    | (go_at_call 146; (with_reducible refine kx.mono ?_); rintro e2 w2 ⟨⟨N, al, cl, rfl⟩, h2, m2⟩; obtain ⟨b, hb, hb2⟩ := TS.flag h2; simp only [Sx.off] at hb2; have F := Lib.hid (FA.out w2 (M1.out.trans m2) h2); clear h2 m2 kx))
   by_cases hN : N = 0
   ·subst hN
    go_wp2_with fail
    go_ret
    exact F.out
   ·have hN2 : ((N : Int) == 0) = false := by rw [beq_eq_false_iff_ne]; omega
    go_wp2_with fail
    go_ret
    exact F.out
  | ok y r =>
   have KX : Hid (∀ w1, TS p S d (t.map gapS) w1 → Calls Tryz.prog 146 #[.pointer (some ⟨p, 0, none⟩)] w1 fun e' w' => (∃ (al : Option Addr) (cl : Nat), e' = .returned (.slice al y.length cl) ∧ (PtsV (cosV n0)).q (NewF w1.heap.size w'.heap.size) w' (.slice al y.length cl) y) ∧ TS p S d (.at r) w' ∧ Mvr p w1 w') := fun w1 h1 => (KX.out w1 h1).mono fun e' w' hh => ⟨by obtain ⟨⟨ps, al, cl, h1, h2, h3⟩, _⟩ := hh; obtain rfl := h3 _ _ rfl; exact ⟨al, cl, h1, h2⟩, hh.2⟩
   by_cases hy : y = []
   ·subst hy
    have hst := linkws_stop hg HI.out.lnk hX
    have FA := Lib.hid (fun (w9 : World) (m9 : Mvr p wr w9) (h9 : TS p S d (.at r) w9) => HI.out.answer hn20 hp (fun y r h => by rw [hst] at h; cases h; rfl) m9 (by rw [hst]; exact h9))
    clear hst hX
    go_wp2_with (first
     | (go_at_call 50; (with_reducible refine kh.mono ?_); rintro e1 w1 ⟨rfl, h1, m1⟩; have kx := KX.out w1 h1; have M1 := Lib.hid m1; clear h1 m1 kh)
     | (go_at_call 146; (with_reducible refine kx.mono ?_); rintro e2 w2 ⟨⟨al, cl, rfl, hq⟩, h2, m2⟩; have F := Lib.hid (FA.out w2 (M1.out.trans m2) h2); clear h2 m2 hq kx))
    go_ret
    exact F.out
   ·obtain ⟨lk, hlt⟩ := linkws_go hg HI.out.lnk hX hy
    have LK := Lib.hid lk
    have LT := Lib.hid hlt
    have APP := Lib.hid (fun (w1 w2 : World) (al : Option Addr) (cl : Nat) (m1 : Mvr p wr w1) (m2 : Mvr p w1 w2) (h2 : TS p S d (.at r) w2) (hq : (PtsV (cosV n0)).q (NewF w1.heap.size w2.heap.size) w2 (.slice al y.length cl) y) => (by
     have hrow := HI.out.row.moved (m1.trans m2) hp
     have hle := HI.out.le
     have e1 := m1.size
     have e2 := m2.size
     have e3 := HI.out.mv.size
     obtain ⟨al2, n2, cl2, w8, hr, r8, b8, -⟩ := app_one (kd_word n0) 35 (Fx := NewF w1.heap.size w2.heap.size) (x := y) (cs := [.slice al y.length cl]) hrow ⟨_, rfl, hq⟩ (fun g hg => ⟨by have := hg.1; omega, hg.2⟩) (fun g hg e => by have h1 := (HI.out.row.lt g e).2; have := hg.1; omega) (fun g hg => hg.elim) (by omega) (by omega) (by omega)
     exact ⟨al2, n2, cl2, w8, hr, h2.same (b8.block p hp), ((HI.out.mv.trans m1).trans m2).grow b8 hp, r8, by rw [List.length_append]; show ws.length + 1 + r.length ≤ n; have := LT.out; omega, LK.out⟩ :
     ∃ (al2 : Option Addr) (n2 cl2 : Nat) (w8 : World), (Builtin.append_ #[35, 35] 35 #[vv, .slice (some ⟨w2.heap.size, 0, none⟩) 1 1]).run Tryz.prog (w2.alloc (.cells #[.slice al y.length cl] 40)) = .ok (.slice al2 n2 cl2) w8 ∧ WsIF n0 p S d w n sub D (ws ++ [y]) (.slice al2 n2 cl2) (.at r) w8))
    obtain ⟨N, hN⟩ : ∃ N, N = y.length := ⟨_, rfl⟩
    have hN0 : 0 < y.length := List.length_pos_iff.2 hy
    have hN2 : ((N : Int) == 0) = false := by rw [beq_eq_false_iff_ne]; omega
    rw [← hN] at KX APP
    clear hX hy hN lk hlt hN0
    go_wp2_with (first
     | (go_at_call 50; (with_reducible refine kh.mono ?_); rintro e1 w1 ⟨rfl, h1, m1⟩; have kx := KX.out w1 h1; have M1 := Lib.hid m1; clear h1 m1 kh)
     | (go_at_call 146; (with_reducible refine kx.mono ?_); rintro e2 w2 ⟨⟨al, cl, rfl, hq⟩, h2, m2⟩; obtain ⟨b, hb, hb2⟩ := TS.flag h2; simp only [Sx.off] at hb2; obtain ⟨al2, n2, cl2, w8, hr, f8⟩ := APP.out w1 w2 al cl M1.out m2 h2 hq; have F8 := Lib.hid f8; clear h2 m2 hq f8 APP kx)
     | (at_builtin; refine wpList_app_run rfl _ _ _ rfl rfl rfl hr ?_))
    go_roundg (r.length + 1)
    case rel => exact ⟨_, _, _, rfl, F8, rfl⟩
    case measure => have h1 := HC.out; have h2 := LT.out; omega
end Go.Proofs.YtelfgobjnibooaaGreatDoor
