/- Packed texts: RfSimple, RfRowL, RfLines. What each of them proves stands above its theorems; the conditions stand in these. -/
import Derived.Test.YtelfgobjnibooaaGreatDoorA31
namespace Go.Proofs.YtelfgobjnibooaaGreatDoor
open Go.RowKit Go.Lib
set_option maxRecDepth 100000 in
theorem Tryz.infoCmdSr : (Tryz.prog.info? 37).map (·.size) = some 7 := by kernel_rfl
structure SI (n0 p : Nat) (S : ByteArray) (d : Nat) (w : World) (b c n : Nat) (sub : Deeper) (D : Rr Co) (ns : List (List UInt8)) (vs : List (List Pt)) (vn vv : Value) (t : Sx) (wr : World) : Prop where
 ts : TS p S d t wr
 mv : Mvr p w wr
 cm : CmR n0 c ns vs vn vv wr
 res : wr.heap[b]? = some (.cells #[.int .i64 0, .slice none 0 0, .slice none 0 0, .slice none 0 0, .slice none 0 0, .slice none 0 0, .slice none 0 0] 37 (0, 0))
 le : ns.length + t.len ≤ n
 vl : vs.length = ns.length
 lnk : LinkA sub D ns vs t
theorem SI.below {n0 p : Nat} {S : ByteArray} {d : Nat} {w wr w1 : World} {b c n : Nat} {sub : Deeper} {D : Rr Co} {ns : List (List UInt8)} {vs : List (List Pt)} {vn vv : Value} {t : Sx} (h : SI n0 p S d w b c n sub D ns vs vn vv t wr) (hb : Below wr.heap.size wr w1) : SI n0 p S d w b c n sub D ns vs vn vv t w1 :=
 ⟨h.ts.below hb, h.mv.trans (Mvr.of hb h.ts.lt), h.cm.same hb.size fun g _ hg => hb.block g hg, (hb.block b (heap_ltR h.res)).trans h.res, h.le, h.vl, h.lnk⟩
theorem CmR.done {n0 p c : Nat} {ns : List (List UInt8)} {vs : List (List Pt)} {vn vv : Value} {w w9 : World} (h : CmR n0 c ns vs vn vv w) (m : Mvr p w w9) (hpc : p < c) (ws : List (List Pt)) (al : Option Addr) (cl : Nat) (hq : (WdsV (cosV n0)).q (NewF w.heap.size w9.heap.size) w9 (.slice al ws.length cl) ws) :
  (w9.setCell ⟨c, 3, none⟩ (.slice al ws.length cl)).heap[c]? = some (.cells #[.int .i64 1, vn, vv, .slice al ws.length cl, .slice none 0 0, .slice none 0 0, .slice none 0 0] 37 (0, 0)) ∧ (cmdE (cosV n0)).q (NewF (c + 1) (w9.setCell ⟨c, 3, none⟩ (.slice al ws.length cl)).heap.size) (w9.setCell ⟨c, 3, none⟩ (.slice al ws.length cl)) (.mk 1 ns vs ws [] [] []) [.int .i64 1, vn, vv, .slice al ws.length cl, .slice none 0 0, .slice none 0 0, .slice none 0 0] := by
 have h9 := h.moved m hpc
 have hc := heap_ltR h.blk
 have hset := heap_setCell_same w9 c 3 _ _ (.slice al ws.length cl) h9.blk
 have keep : ∀ g, NewF (c + 1) w9.heap.size g → (w9.setCell ⟨c, 3, none⟩ (.slice al ws.length cl)).heap[g]? = w9.heap[g]? := fun g hg => Below.heap_setCell _ _ _ _ (show g ≠ c by have := hg.1; omega)
 have up : ∀ g, NewF (c + 1) w9.heap.size g → NewF (c + 1) (w9.setCell ⟨c, 3, none⟩ (.slice al ws.length cl)).heap.size g := fun g hg => ⟨hg.1, by simpa using hg.2⟩
 refine ⟨by simpa using hset, vn, vv, .slice al ws.length cl, .slice none 0 0, .slice none 0 0, .slice none 0 0, rfl, ?_, ?_, ?_, cos_nil n0 _ _, cos_nil n0 _ _, cos_nil n0 _ _⟩
 ·exact StrV.mono _ _ _ _ _ up (StrV.same _ _ _ _ _ keep h9.nm.row)
 ·exact (WdsV (cosV n0)).mono _ _ _ _ _ up ((WdsV (cosV n0)).same _ _ _ _ _ keep h9.vl.row)
 ·exact (WdsV (cosV n0)).mono _ _ _ _ _ (fun g hg => up g ⟨by have := hg.1; omega, hg.2⟩) ((WdsV (cosV n0)).same _ _ _ _ _ (fun g hg => keep g ⟨by have := hg.1; omega, hg.2⟩) hq)
theorem set_other {w : World} {g i k : Nat} {v : Value} (h : k ≠ g) : (w.setCell ⟨g, i, none⟩ v).heap[k]? = w.heap[k]? := Below.heap_setCell _ _ _ _ h
theorem asg_place {S : ByteArray} {a : Nat} {l : List UInt8} (hl : S.data.toList.drop a = l) (hs : a + l.length = S.size) (_hS : S.size ≤ 1048576) :
  (assignS l = none ∧ (nameS l).length = 0) ∨ (assignS l = none ∧ 0 < (nameS l).length ∧ a + (nameS l).length = S.size) ∨ ∃ h : a + (nameS l).length < S.size, 0 < (nameS l).length ∧
   ((assignS l = none ∧ (((S[a + (nameS l).length]'h).toNat : Int) != 61) = true) ∨ ∃ r, assignS l = some (nameS l, r) ∧ r.length + (nameS l).length + 1 = l.length ∧ (((S[a + (nameS l).length]'h).toNat : Int) != 61) = false ∧ S.data.toList.drop (a + (nameS l).length + 1) = r) := by
 have hnl := nameS_lenF l
 have hd : ∀ q, l.drop (nameS l).length = q → S.data.toList.drop (a + (nameS l).length) = q := fun q h => by rw [← h, ← hl, List.drop_drop]
 cases ha : assignS l with
 | none =>
  rcases assignR_none ha with h | h | ⟨c, q, h, hc⟩
  ·exact .inl ⟨rfl, by rw [h]; rfl⟩
  ·by_cases h0 : (nameS l).length = 0
   ·exact .inl ⟨rfl, h0⟩
   ·refine .inr (.inl ⟨rfl, by omega, ?_⟩)
    have : (l.drop (nameS l).length).length = 0 := by rw [h]; rfl
    rw [List.length_drop] at this
    omega
  ·by_cases h0 : (nameS l).length = 0
   ·exact .inl ⟨rfl, h0⟩
   ·obtain ⟨h1, h2, h3⟩ := restR (hd _ h)
    refine .inr (.inr ⟨h1, by omega, .inl ⟨rfl, ?_⟩⟩)
    rw [h2]
    show ((c.toNat : Int) != ((61 : UInt8).toNat : Int)) = true
    rw [byte_ne]; simpa using hc
 | some q =>
  obtain ⟨n, r⟩ := q
  obtain ⟨rfl, h0, h⟩ := assignR_some ha
  obtain ⟨h1, h2, h3⟩ := restR (hd _ h)
  refine .inr (.inr ⟨h1, List.length_pos_iff.2 h0, .inr ⟨r, rfl, ?_, ?_, h3⟩⟩)
  ·have : (l.drop (nameS l).length).length = (61 :: r).length := by rw [h]
   rw [List.length_drop, List.length_cons] at this
   omega
  ·rw [h2]; rfl
set_option maxHeartbeats 8000000 in
set_option maxRecDepth 20000 in
theorem simpleF_any (n0 k p : Nat) (S : ByteArray) (d : Nat) (s : Sx) (w : World) (h : TS p S d s w) (hS : S.size ≤ 1048576) (hD : DeepP n0 p S d k) :
    Calls Tryz.prog 112 #[.pointer (some ⟨p, 0, none⟩)] w fun e w' => AnsC n0 (s.run (simpleS (rlvl k))) w e w' ∧ TS p S d (s.run (simpleS (rlvl k))).sx w' ∧ Mvr p w w' := by
  have hg := rlvl_good k
  have hp := h.lt
  have KW := Lib.hid (fun (t : Sx) (w9 : World) (h9 : TS p S d t w9) => wordF_any n0 k p S d t w9 h9 hS hD)
  have KWS := Lib.hid (fun (t : Sx) (w9 : World) (h9 : TS p S d t w9) => wordsF_any n0 k p S d t w9 h9 hS hD)
  obtain ⟨sub, hsub⟩ : ∃ sub, rlvl k = sub := ⟨_, rfl⟩
  rw [hsub] at hg KW KWS ⊢
  obtain ⟨D, hDD⟩ : ∃ D, s.run (simpleS sub) = D := ⟨_, rfl⟩
  rw [hDD]
  have hlen := cut_size h hS
  obtain ⟨n, hn⟩ : ∃ n, n = s.len := ⟨_, rfl⟩
  have hn20 : n ≤ 1048576 := by omega
  have H0 : Hid (SI n0 p S d w w.heap.size (w.heap.size + 1) n sub D [] [] (.slice none 0 0) (.slice none 0 0) s ((w.alloc (.cells #[.int .i64 0, .slice none 0 0, .slice none 0 0, .slice none 0 0, .slice none 0 0, .slice none 0 0, .slice none 0 0] 37)).alloc (.cells #[.int .i64 1, .slice none 0 0, .slice none 0 0, .slice none 0 0, .slice none 0 0, .slice none 0 0, .slice none 0 0] 37))) := by
    have main : ∀ O1 O2 : Obj, ((w.alloc O1).alloc O2).heap.size = w.heap.size + 2 ∧ Below w.heap.size w ((w.alloc O1).alloc O2) ∧ ((w.alloc O1).alloc O2).heap[w.heap.size]? = some O1 ∧ ((w.alloc O1).alloc O2).heap[w.heap.size + 1]? = some O2 := fun O1 O2 => by
      have z1 : (w.alloc O1).heap.size = w.heap.size + 1 := by simp
      have h1 := heap_alloc_new w O1
      have h2 := heap_alloc_new (w.alloc O1) O2
      rw [z1] at h2
      refine ⟨by simp, (((Below.refl _ w).alloc (Nat.le_refl _) _).alloc (by simp) _), ?_, h2⟩
      rw [Below.heap_alloc _ _ _ (by omega)]; exact h1
    obtain ⟨m1, m2, m3, m4⟩ := main (.cells #[.int .i64 0, .slice none 0 0, .slice none 0 0, .slice none 0 0, .slice none 0 0, .slice none 0 0, .slice none 0 0] 37) (.cells #[.int .i64 1, .slice none 0 0, .slice none 0 0, .slice none 0 0, .slice none 0 0, .slice none 0 0, .slice none 0 0] 37)
    exact ⟨h.below m2, Mvr.of m2 hp, ⟨m4, BldA.nil _ _ _ _ _, BldA.nil _ _ _ _ _⟩, m3, by rw [hn]; simp, rfl, by
      cases s with
      | bad e => exact hDD.symm
      | «at» l => exact hDD⟩
  have KE := Lib.hid (fun (t : Sx) (wr : World) (ht : TS p S d t wr) => end_any p S d t wr ht hS)
  have KF := Lib.hid (fun (t : Sx) (wr : World) (ht : TS p S d t wr) => fail_any p S d t 9 (by decide) wr ht)
  have KH := Lib.hid (fun (t : Sx) (wr : World) (ht : TS p S d t wr) => white_any p S d t wr ht hS)
  have KK := Lib.hid (fun (t : Sx) (wr : World) (ht : TS p S d t wr) => key_any p S d t wr ht hS)
  have hnH := Lib.hid hn
  clear h hD hDD hsub hlen hn
  go_enter Tryz.func112, Tryz.ntmps112
  go_upto_block 0 with fail
  have hpc : p < w.heap.size + 1 := by omega
  have HBC : Hid (w.heap.size < w.heap.size + 1) := Nat.lt_succ_self _
  generalize (w.alloc (.cells #[.int .i64 0, .slice none 0 0, .slice none 0 0, .slice none 0 0, .slice none 0 0, .slice none 0 0, .slice none 0 0] 37)).alloc (.cells #[.int .i64 1, .slice none 0 0, .slice none 0 0, .slice none 0 0, .slice none 0 0, .slice none 0 0, .slice none 0 0] 37) = W2 at *
  generalize w.heap.size + 1 = c at *
  go_cut [] (fun wx => ∃ (t : Sx) (ns : List (List UInt8)) (vs : List (List Pt)) (vn vv : Value), Hid (SI n0 p S d w w.heap.size c n sub D ns vs vn vv t wx) ∧ Hid ((∃ l, t = .at l ∧ tailR sub (ns, vs) l = D) ∨ ∃ e, t = .bad e ∧ D = .bad e))
  case first =>
    go_wp2_with fail
    go_loopg [] (n + 1) (fun q wr => ∃ (t : Sx) (ns : List (List UInt8)) (vs : List (List Pt)) (vn vv : Value), Hid (SI n0 p S d w w.heap.size c n sub D ns vs vn vv t wr) ∧ Hid (q = t.len + 1))
    case atStart => exact ⟨s, [], [], _, _, H0, by show _ = _; rw [hnH.out]⟩
    case round =>
      obtain ⟨t, ns, vs, vn, vv, HI, HQ⟩ := hrel
      clear H0 hnH
      have ke := KE.out t wr HI.out.ts
      have FN := Lib.hid (fun w1 (hb : Below wr.heap.size wr w1) => HI.out.below hb)
      by_cases hq : t.end = true
      · rw [hq] at ke
        have HT : Hid ((∃ l, t = .at l ∧ tailR sub (ns, vs) l = D) ∨ ∃ e, t = .bad e ∧ D = .bad e) := by
          cases t with
          | bad e => exact .inr ⟨e, rfl, HI.out.lnk⟩
          | «at» l => cases l with
            | cons c r => cases hq
            | nil => exact .inl ⟨[], rfl, linka_stop hg HI.out.lnk rfl⟩
        clear KW KWS KF KH KK
        go_wp2_with (go_at_call 32; (with_reducible refine ke.mono ?_); rintro e w1 ⟨rfl, b1⟩; have F := Lib.hid (FN.out w1 b1); clear b1 ke)
        go_meet
        case rel => exact ⟨t, ns, vs, vn, vv, F, HT⟩
      · obtain ⟨l, rfl⟩ : ∃ l, t = .at l := by
          cases t with
          | bad e => exact absurd rfl hq
          | «at» l => exact ⟨l, rfl⟩
        have hq2 : (Sx.at l).end = false := by simpa using hq
        rw [hq2] at ke
        obtain ⟨a, hal, hdr, hT, hhop⟩ := HI.out.ts.hop hS
        have hnl := nameS_lenF l
        have hcase := asg_place hdr hal hS
        have hex := extract_arr S a (nameS l).length
        rw [hdr, nameS_pre] at hex
        have kn := Lib.hid (fun w1 (hb : Below wr.heap.size wr w1) => (by
          have k := namedF_any p S a d 0 a w1 (hT.below hb) (by omega) hS
          rw [hdr] at k
          exact k : Calls Tryz.prog 145 #[.pointer (some ⟨p, 0, none⟩), .int .i64 (a : Int)] w1 fun e w' => e = .returned (.int .i64 (((nameS l).length : Nat) : Int)) ∧ w1 = w'))
        have CE := Lib.hid (fun w1 (hb : Below wr.heap.size wr w1) => (hT.below hb).cells)
        have STOP := Lib.hid (fun (ha : assignS l = none) => (show (∃ l', Sx.at l = .at l' ∧ tailR sub (ns, vs) l' = D) ∨ ∃ e, Sx.at l = .bad e ∧ D = .bad e from .inl ⟨l, rfl, linka_stop hg HI.out.lnk ha⟩))
        have GO := Lib.hid (fun (r : List UInt8) (ha : assignS l = some (nameS l, r)) (ps : List Pt) (hp : ∀ y r', wordS sub r = .ok y r' → ps = y) => linka_go hg HI.out.lnk ha ps hp)
        obtain ⟨N, hN⟩ : ∃ N, N = (nameS l).length := ⟨_, rfl⟩
        obtain ⟨nm, hnm⟩ : ∃ nm, nameS l = nm := ⟨_, rfl⟩
        rw [hnm] at hcase hex kn GO hN
        rw [← hN] at hcase hex kn
        have HC : Hid (gk = l.length + 1) := HQ
        have hNl : N ≤ l.length := by rw [hN, ← hnm]; exact hnl
        have hwN : IntKind.i64.wrap ((a : Int) + (N : Int)) = (a : Int) + (N : Int) := IntWalk.i64_in _ (by omega)
        have hto : ((a : Int) + (N : Int)).toNat = a + N := by omega
        have HLE := HI.out.le
        have HLE : ns.length + l.length ≤ n := HLE
        clear hq hq2 HQ hnl hdr hhop hnm
        rcases hcase with ⟨ha, hN0⟩ | ⟨ha, hN0, hMS⟩ | ⟨hMS, hN0, hcase⟩
        · subst hN0
          have HT := Lib.hid (STOP.out ha)
          clear KW KWS KF KH KK STOP GO ha hex hT hal hNl hwN hto hN HLE
          go_wp2_with (first
            | (go_at_call 32; (with_reducible refine ke.mono ?_); rintro e w1 ⟨rfl, b1⟩; have k2 := kn.out w1 b1; obtain ⟨⟨c0, c1, c2, c3⟩, -⟩ := CE.out w1 b1; have B1 := Lib.hid b1; clear b1 ke)
            | (go_at_call 145; (with_reducible refine k2.mono ?_); rintro e w2 ⟨rfl, rfl⟩; clear k2))
          go_quiet (fail)
          have F := Lib.hid (FN.out _ (below_draws B1.out nq))
          go_wp2_with fail
          go_meet
          case rel => exact ⟨_, ns, vs, vn, vv, F, HT⟩
        · have HT := Lib.hid (STOP.out ha)
          have hN1 : ((N : Int) == 0) = false := by rw [beq_eq_false_iff_ne]; omega
          have hge : (S.size : Int) ≤ (a : Int) + (N : Int) := by omega
          have hged : decide ((S.size : Int) ≤ (a : Int) + (N : Int)) = true := decide_eq_true hge
          clear KW KWS KF KH KK STOP GO ha hex hT hal hNl hto hN HLE hMS hN0
          go_wp2_with (first
            | (go_at_call 32; (with_reducible refine ke.mono ?_); rintro e w1 ⟨rfl, b1⟩; have k2 := kn.out w1 b1; obtain ⟨⟨c0, c1, c2, c3⟩, -⟩ := CE.out w1 b1; have B1 := Lib.hid b1; clear b1 ke)
            | (go_at_call 145; (with_reducible refine k2.mono ?_); rintro e w2 ⟨rfl, rfl⟩; clear k2))
          go_quiet (fail)
          have F := Lib.hid (FN.out _ (below_draws B1.out nq))
          go_wp2_with fail
          go_meet
          case rel => exact ⟨_, ns, vs, vn, vv, F, HT⟩
        · have hN1 : ((N : Int) == 0) = false := by rw [beq_eq_false_iff_ne]; omega
          have hge : ¬ (S.size : Int) ≤ (a : Int) + (N : Int) := by omega
          have hged : decide ((S.size : Int) ≤ (a : Int) + (N : Int)) = false := decide_eq_false hge
          have hlt : (a : Int) + (N : Int) < (S.size : Int) := by omega
          have h0 : (0 : Int) ≤ (a : Int) + (N : Int) := by omega
          rcases hcase with ⟨ha, hby⟩ | ⟨r, ha, hrl, hby, hdr⟩
          · have HT := Lib.hid (STOP.out ha)
            clear KW KWS KF KH KK STOP GO ha hex hT hal hNl hN HLE hN0
            go_wp2_with (first
              | (go_at_call 32; (with_reducible refine ke.mono ?_); rintro e w1 ⟨rfl, b1⟩; have k2 := kn.out w1 b1; obtain ⟨⟨c0, c1, c2, c3⟩, -⟩ := CE.out w1 b1; have B1 := Lib.hid b1; clear b1 ke)
              | (go_at_call 145; (with_reducible refine k2.mono ?_); rintro e w2 ⟨rfl, rfl⟩; clear k2))
            go_quiet (fail)
            have F := Lib.hid (FN.out _ (below_draws B1.out nq))
            go_wp2_with fail
            go_meet
            case rel => exact ⟨_, ns, vs, vn, vv, F, HT⟩
          · have STEP := Lib.hid (fun (W : World) (h : TR p S a d 0 W) => (by
              refine ⟨h.cells.1.2.1, h.cells.2.1, ⟨a + N + 1, ?_, by omega, hdr⟩, Mvr.set p _ _ _⟩
              have := h.at (a + N + 1)
              rw [show ((a + N + 1 : Nat) : Int) = (a : Int) + (N : Int) + 1 by omega] at this
              exact this : W.cell? ⟨p, 1, none⟩ = some (.int .i64 (a : Int)) ∧ W.frozen? ⟨p, 1, none⟩ = false ∧ TS p S d (.at r) (W.setCell ⟨p, 1, none⟩ (.int .i64 ((a : Int) + (N : Int) + 1))) ∧ Mvr p W (W.setCell ⟨p, 1, none⟩ (.int .i64 ((a : Int) + (N : Int) + 1)))))
            have hwN1 : IntKind.i64.wrap ((a : Int) + (N : Int) + 1) = (a : Int) + (N : Int) + 1 := IntWalk.i64_in _ (by omega)
            have hle1 : (a : Int) ≤ (a : Int) + (N : Int) := by omega
            have hle2 : (a : Int) + (N : Int) ≤ (S.size : Int) := by omega
            have FC := Lib.hid (fun w1 (hb : Below wr.heap.size wr w1) => (⟨hT.below hb, (HI.out.below hb)⟩ : TR p S a d 0 w1 ∧ SI n0 p S d w w.heap.size c n sub D ns vs vn vv (.at l) w1))
            obtain ⟨⟨an, cn, hvn⟩, av, cv, hvv⟩ := HI.out.cm.shapes
            have hnsl : ns.length + 1 ≤ 16777216 := by omega
            have NAME := Lib.hid (fun (w1 : World) (hb : Below wr.heap.size wr w1) => (by
              have q := (HI.out.below hb).cm.name nm hnsl
              rw [← hex] at q
              exact q : ∃ al m cl w', (Builtin.append_ #[34, 34] 34 #[vn, .slice (some ⟨w1.heap.size, 0, none⟩) 1 1]).run Tryz.prog (w1.alloc (.cells #[.string (S.extract a (a + N))] 9)) = .ok (.slice al m cl) w' ∧ (w'.cell? ⟨c, 1, none⟩ = some vn ∧ w'.frozen? ⟨c, 1, none⟩ = false) ∧ CmR n0 c (ns ++ [nm]) vs (.slice al m cl) vv (w'.setCell ⟨c, 1, none⟩ (.slice al m cl)) ∧ Below c w1 (w'.setCell ⟨c, 1, none⟩ (.slice al m cl))))
            have NEXT := Lib.hid (fun (W1 W2 W4 W8 W5 : World) (vn2 vv2 : Value) (ps : List Pt) (b1 : Below wr.heap.size wr W1) (b2 : Below c W1 W2) (m3 : Mvr p W2 W4) (h5 : TS p S d ((wordS sub r).sx.map gapS) W5) (b5 : Below c W4 W8) (m6 : Mvr p W8 W5) (cm : CmR n0 c (ns ++ [nm]) (vs ++ [ps]) vn2 vv2 W5) (hps : ∀ y r', wordS sub r = .ok y r' → ps = y) => (by
              have mw : Mvr p w W2 := ((HI.out.below b1).mv).grow (b2.mono (Nat.le_of_lt HBC.out)) hp
              have r2 : W2.heap[w.heap.size]? = some _ := (b2.block _ HBC.out).trans (HI.out.below b1).res
              have r4 := (m3.high _ (by omega) (heap_ltR r2)).trans r2
              have hle : ((wordS sub r).sx.map gapS).len ≤ r.length := by
                have h1 := wordS_nice hg r
                cases hw : wordS sub r with
                | bad e => exact Nat.zero_le _
                | ok y r' =>
                  rw [hw] at h1
                  have h1 : r'.length ≤ r.length := h1
                  have h2 := gapS_len r'
                  show (gapS r').length ≤ _
                  omega
              refine ⟨⟨h5, ?_, cm, ?_, ?_, ?_, GO.out r ha ps hps⟩, by omega⟩
              · exact ((mw.trans m3).grow (b5.mono (Nat.le_of_lt HBC.out)) hp).trans m6
              · have r8 := (b5.block _ HBC.out).trans r4
                exact (m6.high _ (by omega) (heap_ltR r8)).trans r8
              · rw [List.length_append]; show ns.length + 1 + _ ≤ n; omega
              · rw [List.length_append, List.length_append, HI.out.vl]; rfl :
              SI n0 p S d w w.heap.size c n sub D (ns ++ [nm]) (vs ++ [ps]) vn2 vv2 ((wordS sub r).sx.map gapS) W5 ∧ ((wordS sub r).sx.map gapS).len + 1 ≤ l.length))
            have VALUE := Lib.hid (fun (W3 W7 : World) (vn2 u : Value) (ps : List Pt) (hz : c < W3.heap.size) (cm : CmR n0 c (ns ++ [nm]) vs vn2 vv W3) (m7 : Mvr p W3 W7) (hx : (PtsV (cosV n0)).q (NewF W3.heap.size W7.heap.size) W7 u ps) => (by
              have hvl := HI.out.vl
              have c7 := cm.moved m7 hpc
              exact ⟨c7.cells.2.1, c7.cells.2.2.2, c7.value ps hx (fun g hg => ⟨by have := hg.1; omega, hg.2⟩) (fun g hg => ⟨fun e => by have := (cm.vl.lt g e).2; have := hg.1; omega, fun e => by have := (cm.nm.lt g e).2; have := hg.1; omega⟩) (by omega)⟩ :
              W7.cell? ⟨c, 2, none⟩ = some vv ∧ W7.frozen? ⟨c, 2, none⟩ = false ∧ ∃ al m cl w', (Builtin.append_ #[35, 35] 35 #[vv, .slice (some ⟨W7.heap.size, 0, none⟩) 1 1]).run Tryz.prog (W7.alloc (.cells #[u] 40)) = .ok (.slice al m cl) w' ∧ (w'.cell? ⟨c, 2, none⟩ = some vv ∧ w'.frozen? ⟨c, 2, none⟩ = false) ∧ CmR n0 c (ns ++ [nm]) (vs ++ [ps]) vn2 (.slice al m cl) (w'.setCell ⟨c, 2, none⟩ (.slice al m cl)) ∧ Below c W7 (w'.setCell ⟨c, 2, none⟩ (.slice al m cl))))
            obtain ⟨RW, hRW⟩ : ∃ RW, wordS sub r = RW := ⟨_, rfl⟩
            have kW := Lib.hid (fun (w9 : World) (h9 : TS p S d (.at r) w9) => (show Calls Tryz.prog 146 #[.pointer (some ⟨p, 0, none⟩)] w9 fun e w' => AnsW n0 (wordS sub r) w9 e w' ∧ TS p S d (wordS sub r).sx w' ∧ Mvr p w9 w' from KW.out (.at r) w9 h9))
            have kH := Lib.hid (fun (w9 : World) (h9 : TS p S d (wordS sub r).sx w9) => KH.out _ w9 h9)
            rw [hRW] at NEXT kW kH
            subst hvn
            subst hvv
            clear KW KWS KF KH KK STOP GO ha hex hT hal hNl hN HLE hN0 hrl hdr hRW
            go_upto_region 4 with (first
              | (go_at_call 32; (with_reducible refine ke.mono ?_); rintro e w1 ⟨rfl, b1⟩; have k2 := kn.out w1 b1; obtain ⟨⟨c0, c1, c2, c3⟩, -⟩ := CE.out w1 b1; have B1 := Lib.hid b1; clear b1 ke)
              | (go_at_call 145; (with_reducible refine k2.mono ?_); rintro e w2 ⟨rfl, rfl⟩; clear k2))
            go_quiet (fail)
            have B2 := Lib.hid (below_draws B1.out nq)
            clear c0 c1 c2 c3
            go_upto_region 5 with fail
            generalize w1.drewN nq = W1 at *
            obtain ⟨⟨c0, c1, c2, c3⟩, -⟩ := (FC.out W1 B2.out).1.cells
            obtain ⟨d1, -, d3, -⟩ := (FC.out W1 B2.out).2.cm.cells
            obtain ⟨al, m, cl, w4, hr, ⟨x1, x2⟩, cm4, b4⟩ := NAME.out W1.drew B2.out.drew
            have CM4 := Lib.hid (And.intro cm4 b4)
            have d1a : (W1.alloc (.cells #[.string (S.extract a (a + N))] 9)).cell? ⟨c, 1, none⟩ = some (.slice an ns.length cn) := ((FC.out _ (B2.out.alloc B2.out.size _)).2.cm.cells).1
            have hr2 : (Builtin.append_ #[34, 34] 34 #[.slice an ns.length cn, .slice (some ⟨W1.heap.size, 0, none⟩) 1 1]).run Tryz.prog (W1.alloc (.cells #[.string (S.extract a (a + N))] 9)).drew = .ok (.slice al m cl) w4 := hr
            clear cm4 b4 NAME
            have TE := Lib.hid (fun (W : World) (hb : Below c W1 W) => ((FC.out W1 B2.out).1.same (hb.block p hpc) : TR p S a d 0 W))
            go_cut [] (fun wx => Hid (TR p S a d 0 wx) ∧ Hid (CmR n0 c (ns ++ [nm]) vs (.slice al m cl) (.slice av vs.length cv) wx ∧ Below c W1 wx))
            case first =>
              have B5 : Below c W1 (w4.setCell ⟨c, 1, none⟩ (.slice al m cl)) := ((Below.refl c W1).drew).trans CM4.out.2
              have T5 : Hid (TR p S a d 0 (w4.setCell ⟨c, 1, none⟩ (.slice al m cl))) := TE.out _ B5
              have CM5 : Hid (CmR n0 c (ns ++ [nm]) vs (.slice al m cl) (.slice av vs.length cv) (w4.setCell ⟨c, 1, none⟩ (.slice al m cl)) ∧ Below c W1 (w4.setCell ⟨c, 1, none⟩ (.slice al m cl))) := ⟨CM4.out.1, B5⟩
              clear NEXT VALUE kW kH STEP B5 TE CM4
              go_region_law (first
                | (refine step_app_run rfl _ _ _ rfl (by simp [Act.eval]) (by simp [Act.eval]) hr ?_)
                | (refine step_app_run rfl _ _ _ rfl (by simp [Act.eval]) (by simp [Act.eval]) hr2 ?_))
              all_goals
                go_wp2_with fail
                go_meet
                case rel => exact ⟨T5, CM5⟩
            case rest =>
              obtain ⟨T4, CM5⟩ := hcut
              obtain ⟨y1, y2, y3, y4⟩ := STEP.out _ T4.out
              have H5 := Lib.hid (And.intro y3 y4)
              have CM3 := Lib.hid (CM5.out.1.moved (Mvr.set p 1 (.int .i64 ((a : Int) + (N : Int) + 1)) _) hpc)
              have hz3 : c < (wc.setCell ⟨p, 1, none⟩ (.int .i64 ((a : Int) + (N : Int) + 1))).heap.size := heap_ltR CM3.out.blk
              have B4 := Lib.hid CM5.out.2
              clear y3 y4 T4 c0 c1 c2 c3 d1 d1a d3 x1 x2 hr hr2 TE CM4 CM5 STEP FC CE kn
              go_upto_region 7 with fail
              clear y1 y2
              generalize wc.setCell ⟨p, 1, none⟩ (.int .i64 ((a : Int) + (N : Int) + 1)) = W3 at *
              have kw := kW.out W3.drew (H5.out.1.draws 1)
              have CM3d := Lib.hid (CM3.out.same (w' := W3.drew) (Nat.le_refl _) (fun _ _ _ => rfl))
              obtain ⟨-, e2, -, e4⟩ := CM3.out.cells
              have hp3 : p < W3.heap.size := H5.out.1.lt
              clear CM3 kW
              go_cut [] (fun wx => Hid (∃ (W4 : World) (ps : List Pt) (vv2 : Value), TS p S d RW.sx W4 ∧ Mvr p W3 W4 ∧ (∀ y r', RW = .ok y r' → ps = y) ∧ CmR n0 c (ns ++ [nm]) (vs ++ [ps]) (.slice al m cl) vv2 wx ∧ Below c W4 wx))
              case first =>
                clear NEXT kH
                go_region_law (first
                  | (go_simp; go_at_call 146; (with_reducible refine kw.mono ?_); rintro e w7 ⟨⟨ps, au, cu, rfl, hx, hps⟩, h7, m7⟩; obtain ⟨v1, v2, al7, m8, cl7, w8, hr8, ⟨u1, u2⟩, cm8, b8⟩ := VALUE.out W3.drew w7 _ _ ps hz3 CM3d.out m7 hx; have v1a : (w7.alloc (.cells #[.slice au ps.length cu] 40)).cell? ⟨c, 2, none⟩ = some (.slice av vs.length cv) := ((CM3d.out.moved m7 hpc).same (by simp) (fun g _ hg => Below.heap_alloc _ _ _ hg)).cells.2.1; have hr9 : (Builtin.append_ #[35, 35] 35 #[.slice av vs.length cv, .slice (some ⟨w7.heap.size, 0, none⟩) 1 1]).run Tryz.prog (w7.alloc (.cells #[.slice au ps.length cu] 40)) = .ok (.slice al7 m8 cl7) w8 := hr8; have H7 := Lib.hid (And.intro h7 (And.intro m7 (And.intro hps (And.intro cm8 b8)))); clear hx h7 m7 hps cm8 b8 hr8)
                  | (refine step_app_run rfl _ _ _ rfl (by simp [Act.eval]) (by simp [Act.eval]) hr9 ?_))
                all_goals
                  have F7 : Hid (∃ (W4 : World) (ps : List Pt) (vv2 : Value), TS p S d RW.sx W4 ∧ Mvr p W3 W4 ∧ (∀ y r', RW = .ok y r' → ps = y) ∧ CmR n0 c (ns ++ [nm]) (vs ++ [ps]) (.slice al m cl) vv2 (w8.setCell ⟨c, 2, none⟩ (.slice al7 m8 cl7)) ∧ Below c W4 (w8.setCell ⟨c, 2, none⟩ (.slice al7 m8 cl7))) := ⟨w7, ps, _, H7.out.1, (Mvr.refl p W3).draw.trans H7.out.2.1, H7.out.2.2.1, H7.out.2.2.2.1, H7.out.2.2.2.2⟩
                  go_wp2_with fail
                  go_meet
                  case rel => exact F7
              case rest =>
                obtain ⟨W4, ps, vv2, t4, m4, hps, cm8, b8⟩ := hcut.out
                have T8 := t4.same (b8.block p hpc)
                have kg := kH.out _ T8
                have NX := Lib.hid (fun (w10 : World) (h10 : TS p S d (RW.sx.map gapS) w10) (m10 : Mvr p wc w10) => NEXT.out W1 _ W4 wc w10 _ _ ps B2.out B4.out (H5.out.2.trans m4) h10 b8 m10 (cm8.moved m10 hpc) hps)
                clear T8 t4 m4 hps cm8 b8 e2 e4 kw hcut CM3d H5 VALUE NEXT kH
                go_wp2_with (go_at_call 50; (with_reducible refine kg.mono ?_); rintro e w10 ⟨rfl, h10, m10⟩; have HNX := Lib.hid (NX.out w10 h10 m10); clear h10 m10)
                go_roundg ((RW.sx.map gapS).len + 1)
                case rel => exact ⟨_, _, _, _, _, HNX.out.1, rfl⟩
                case measure => have h1 := HC.out; have h2 := HNX.out.2; omega
  case rest =>
    obtain ⟨t, ns, vs, vn, vv, HI, HT⟩ := hcut
    have kk := KK.out t wc HI.out.ts
    have TE := Lib.hid (fun (ws : List (List Pt)) (hw : ∀ y r, (keyF t).run (wordsS sub) = .ok y r → ws = y) => tail_end HT.out ws hw)
    obtain ⟨X, hX⟩ : ∃ X, (keyF t).run (wordsS sub) = X := ⟨_, rfl⟩
    have kws := Lib.hid (fun (w9 : World) (h9 : TS p S d (keyF t) w9) => KWS.out (keyF t) w9 h9)
    rw [hX] at TE kws
    obtain ⟨⟨an, cn, hvn⟩, av, cv, hvv⟩ := HI.out.cm.shapes
    subst hvn
    subst hvv
    have hnsl : ns.length ≤ 1048576 := by have := HI.out.le; omega
    have CELL := Lib.hid (fun (W8 w9 : World) (m8 : Mvr p wc W8) (m9 : Mvr p W8 w9) (ws : List (List Pt)) (al : Option Addr) (cl : Nat) (hq : (WdsV (cosV n0)).q (NewF W8.heap.size w9.heap.size) w9 (.slice al ws.length cl) ws) => (by
      have c8 := HI.out.cm.moved m8 hpc
      obtain ⟨q1, q2⟩ := c8.done m9 hpc ws al cl hq
      have c9 := cells7r (c8.moved m9 hpc).blk
      exact ⟨c9.1.2.2.2.1, c9.2.2.2.2.1, (cells7r q1).1, q1, q2⟩ :
      w9.cell? ⟨c, 3, none⟩ = some (.slice none 0 0) ∧ w9.frozen? ⟨c, 3, none⟩ = false ∧
        ((w9.setCell ⟨c, 3, none⟩ (.slice al ws.length cl)).cell? ⟨c, 0, none⟩ = some (.int .i64 1) ∧ (w9.setCell ⟨c, 3, none⟩ (.slice al ws.length cl)).cell? ⟨c, 1, none⟩ = some (.slice an ns.length cn) ∧ (w9.setCell ⟨c, 3, none⟩ (.slice al ws.length cl)).cell? ⟨c, 2, none⟩ = some (.slice av vs.length cv) ∧ (w9.setCell ⟨c, 3, none⟩ (.slice al ws.length cl)).cell? ⟨c, 3, none⟩ = some (.slice al ws.length cl) ∧ (w9.setCell ⟨c, 3, none⟩ (.slice al ws.length cl)).cell? ⟨c, 4, none⟩ = some (.slice none 0 0) ∧ (w9.setCell ⟨c, 3, none⟩ (.slice al ws.length cl)).cell? ⟨c, 5, none⟩ = some (.slice none 0 0) ∧ (w9.setCell ⟨c, 3, none⟩ (.slice al ws.length cl)).cell? ⟨c, 6, none⟩ = some (.slice none 0 0)) ∧
        (w9.setCell ⟨c, 3, none⟩ (.slice al ws.length cl)).heap[c]? = some (.cells #[.int .i64 1, .slice an ns.length cn, .slice av vs.length cv, .slice al ws.length cl, .slice none 0 0, .slice none 0 0, .slice none 0 0] 37 (0, 0)) ∧
        (cmdE (cosV n0)).q (NewF (c + 1) (w9.setCell ⟨c, 3, none⟩ (.slice al ws.length cl)).heap.size) (w9.setCell ⟨c, 3, none⟩ (.slice al ws.length cl)) (.mk 1 ns vs ws [] [] []) [.int .i64 1, .slice an ns.length cn, .slice av vs.length cv, .slice al ws.length cl, .slice none 0 0, .slice none 0 0, .slice none 0 0]))
    have KEEP := Lib.hid (fun (W8 w9 : World) (v : Value) (m8 : Mvr p wc W8) (m9 : Mvr p W8 w9) (Y : Sx) (h9 : TS p S d Y w9) => (by
      have mw := (HI.out.mv.trans m8).trans m9
      have r8 := (m8.high _ (by omega) (heap_ltR HI.out.res)).trans HI.out.res
      have r9 := (m9.high _ (by omega) (heap_ltR r8)).trans r8
      exact ⟨h9.same (set_other (Nat.ne_of_lt hpc)), mw.own (Nat.le_of_lt HBC.out) hp 3 v, (set_other (Nat.ne_of_lt HBC.out)).trans r9⟩ :
      TS p S d Y (w9.setCell ⟨c, 3, none⟩ v) ∧ Mvr p w (w9.setCell ⟨c, 3, none⟩ v) ∧ (w9.setCell ⟨c, 3, none⟩ v).heap[w.heap.size]? = some (.cells #[.int .i64 0, .slice none 0 0, .slice none 0 0, .slice none 0 0, .slice none 0 0, .slice none 0 0, .slice none 0 0] 37 (0, 0))))
    have FIN := Lib.hid (fun (W9 w9 : World) (ws : List (List Pt)) (al : Option Addr) (cl : Nat) (hws : ∀ y r, X = .ok y r → ws = y) (hq : (cmdE (cosV n0)).q (NewF (c + 1) W9.heap.size) W9 (.mk 1 ns vs ws [] [] []) [.int .i64 1, .slice an ns.length cn, .slice av vs.length cv, .slice al ws.length cl, .slice none 0 0, .slice none 0 0, .slice none 0 0]) (hz : c < W9.heap.size) (m9 : Mvr p W9 w9) (mw : Mvr p w W9) (h9 : TS p S d (if ns.length + ws.length = 0 then X.sx.fail 9 else X.sx) w9)
        (rh : w9.heap[w.heap.size]? = some (.cells #[.int .i64 0, .slice none 0 0, .slice none 0 0, .slice none 0 0, .slice none 0 0, .slice none 0 0, .slice none 0 0] 37 (0, 0))) => (by
      obtain ⟨e1, e2⟩ := TE.out ws hws
      rw [← e1] at h9
      exact com_answer (R := D) (x := .mk 1 ns vs ws [] [] []) (vn := .slice an ns.length cn) (vv := .slice av vs.length cv) (vw := .slice al ws.length cl) (va := .slice none 0 0) (vb := .slice none 0 0) (vc := .slice none 0 0) (_o := #[]) hp (Nat.le_refl _) h9 (mw.trans m9) ((cmdE (cosV n0)).mono _ _ _ _ _ (fun g hg => ⟨by have := hg.1; have := HBC.out; omega, Nat.lt_of_lt_of_le hg.2 m9.size⟩) ((cmdE (cosV n0)).same _ _ _ _ _ (fun g hg => m9.high g (by have := hg.1; omega) hg.2) hq)) e2 ⟨_, _, _, _, _, _, _, rh⟩ :
      (S7r w9 w.heap.size (.int .i64 1) (.slice an ns.length cn) (.slice av vs.length cv) (.slice al ws.length cl) (.slice none 0 0) (.slice none 0 0) (.slice none 0 0)).heap[w.heap.size]? = some (.cells #[.int .i64 1, .slice an ns.length cn, .slice av vs.length cv, .slice al ws.length cl, .slice none 0 0, .slice none 0 0, .slice none 0 0] 37 (0, 0)) ∧ AnsC n0 D w (.returned (.agg #[.int .i64 1, .slice an ns.length cn, .slice av vs.length cv, .slice al ws.length cl, .slice none 0 0, .slice none 0 0, .slice none 0 0])) (S7r w9 w.heap.size (.int .i64 1) (.slice an ns.length cn) (.slice av vs.length cv) (.slice al ws.length cl) (.slice none 0 0) (.slice none 0 0) (.slice none 0 0)) ∧ TS p S d D.sx (S7r w9 w.heap.size (.int .i64 1) (.slice an ns.length cn) (.slice av vs.length cv) (.slice al ws.length cl) (.slice none 0 0) (.slice none 0 0) (.slice none 0 0)) ∧ Mvr p w (S7r w9 w.heap.size (.int .i64 1) (.slice an ns.length cn) (.slice av vs.length cv) (.slice al ws.length cl) (.slice none 0 0) (.slice none 0 0) (.slice none 0 0))))
    have KFX := Lib.hid (fun (w9 : World) (h9 : TS p S d X.sx w9) => KF.out X.sx w9 h9)
    have FK := Lib.hid (fun w1 (hb : Below wc.heap.size wc w1) => (HI.out.below hb).ts)
    have MK := Lib.hid (fun w1 (hb : Below wc.heap.size wc w1) => Mvr.of hb HI.out.ts.lt)
    by_cases hk : keyX t = []
    · rw [hk] at kk
      have hkf : keyF t = t := if_pos hk
      rw [hkf] at kws
      clear hk hkf KE KH KW KWS HI HT TE hX KF KK hn20 H0
      go_upto_region 12 with (first
        | (go_at_call 34; (with_reducible refine kk.mono ?_); rintro e w8 ⟨rfl, b8⟩; have k9 := kws.out w8 (FK.out w8 b8); have M8 := Lib.hid (MK.out w8 b8); clear b8 kk)
        | (go_at_call 116; (with_reducible refine k9.mono ?_); rintro e w9 ⟨⟨ws, al, cl, rfl, hq, hws, hwl⟩, h9, m9⟩; obtain ⟨x1, x2, ⟨q0, q1, q2, q3, q4, q5, q6⟩, blk, hqq⟩ := CELL.out _ w9 M8.out m9 ws al cl hq; obtain ⟨t9, mw, rh⟩ := KEEP.out _ w9 (.slice al ws.length cl) M8.out m9 _ h9; have H9 := Lib.hid (And.intro t9 (And.intro mw (And.intro rh (And.intro hws (And.intro hqq blk))))); clear hq hws h9 m9 t9 mw rh hqq blk k9))
      clear x1 x2
      have hwa : IntKind.i64.wrap ((ns.length : Int) + (ws.length : Int)) = ((ns.length + ws.length : Nat) : Int) := by rw [IntWalk.i64_in _ (by omega)]; omega
      generalize w9.setCell ⟨c, 3, none⟩ (.slice al ws.length cl) = W9 at *
      have hz9 : c < W9.heap.size := heap_ltR H9.out.2.2.2.2.2
      have FINW := Lib.hid (fun (w10 : World) (m : Mvr p W9 w10) (h10 : TS p S d (if ns.length + ws.length = 0 then X.sx.fail 9 else X.sx) w10) => FIN.out W9 w10 ws al cl H9.out.2.2.2.1 H9.out.2.2.2.2.1 hz9 m H9.out.2.1 h10 ((m.high _ (by omega) (heap_ltR H9.out.2.2.1)).trans H9.out.2.2.1))
      have RES := Lib.hid (fun (w10 : World) (m : Mvr p W9 w10) => cells7r ((m.high _ (by omega) (heap_ltR H9.out.2.2.1)).trans H9.out.2.2.1))
      have CEL := Lib.hid (fun (w10 : World) (m : Mvr p W9 w10) => (cells7r ((m.high _ (by omega) (heap_ltR H9.out.2.2.2.2.2)).trans H9.out.2.2.2.2.2)).1)
      clear CELL KEEP FIN
      by_cases hz : ns.length + ws.length = 0
      · have hzI : (((ns.length + ws.length : Nat) : Int) == 0) = true := by rw [hz]; rfl
        rw [if_pos hz] at FINW
        have kf := KFX.out W9 H9.out.1
        clear q0 q2 q4 q5 q6 hz H9
        go_wp2_with (go_at_call 16; (with_reducible refine kf.mono ?_); rintro e w10 ⟨rfl, h10, m10⟩; obtain ⟨⟨r0, r1, r2, r3, r4, r5, r6⟩, f0, f1, f2, f3, f4, f5, f6⟩ := RES.out w10 m10; obtain ⟨c0, c1, c2, c3, c4, c5, c6⟩ := CEL.out w10 m10; have FF := Lib.hid (FINW.out w10 m10 h10); clear h10 m10 kf)
        exact bodyPost_ret (v := .agg _) (results_cell_row (p := 2) (ty := 37) Tryz.results112 _ _ w.heap.size 37 _ (0, 0) _ rfl FF.out.1 Tryz.underlying37 rfl Tryz.infoCmdSr) rfl FF.out.2
      · have hzI : (((ns.length + ws.length : Nat) : Int) == 0) = false := by rw [beq_eq_false_iff_ne]; omega
        rw [if_neg hz] at FINW
        have FF := Lib.hid (FINW.out W9 (Mvr.refl _ _) H9.out.1)
        obtain ⟨⟨r0, r1, r2, r3, r4, r5, r6⟩, f0, f1, f2, f3, f4, f5, f6⟩ := RES.out W9 (Mvr.refl _ _)
        clear hz H9 RES CEL FINW
        go_wp2_with fail
        exact bodyPost_ret (v := .agg _) (results_cell_row (p := 2) (ty := 37) Tryz.results112 _ _ w.heap.size 37 _ (0, 0) _ rfl FF.out.1 Tryz.underlying37 rfl Tryz.infoCmdSr) rfl FF.out.2
    · obtain ⟨K, hK⟩ : ∃ K : ByteArray, ⟨(keyX t).toArray⟩ = K := ⟨_, rfl⟩
      have hKe : K.toList.isEmpty = false := by
        rw [← hK, ByteArray.toList_eq]
        show (keyX t).isEmpty = false
        simpa using hk
      rw [hK] at kk
      have hkf : keyF t = t.fail 9 := if_neg hk
      rw [hkf] at kws
      have KFT := Lib.hid (fun (w9 : World) (h9 : TS p S d t w9) => KF.out t w9 h9)
      clear hk hkf hK KE KH KW KWS HI HT TE hX KF KK hn20 H0
      go_upto_region 12 with (first
        | (go_at_call 34; (with_reducible refine kk.mono ?_); rintro e w7 ⟨rfl, b7⟩; have k8 := KFT.out w7 (FK.out w7 b7); have M7 := Lib.hid (MK.out w7 b7); clear b7 kk)
        | (go_at_call 16; (with_reducible refine k8.mono ?_); rintro e w8 ⟨rfl, h8, m8⟩; have k9 := kws.out w8 h8; have M8 := Lib.hid (M7.out.trans m8); clear h8 m8 k8)
        | (go_at_call 116; (with_reducible refine k9.mono ?_); rintro e w9 ⟨⟨ws, al, cl, rfl, hq, hws, hwl⟩, h9, m9⟩; obtain ⟨x1, x2, ⟨q0, q1, q2, q3, q4, q5, q6⟩, blk, hqq⟩ := CELL.out _ w9 M8.out m9 ws al cl hq; obtain ⟨t9, mw, rh⟩ := KEEP.out _ w9 (.slice al ws.length cl) M8.out m9 _ h9; have H9 := Lib.hid (And.intro t9 (And.intro mw (And.intro rh (And.intro hws (And.intro hqq blk))))); clear hq hws h9 m9 t9 mw rh hqq blk k9))
      clear x1 x2
      have hwa : IntKind.i64.wrap ((ns.length : Int) + (ws.length : Int)) = ((ns.length + ws.length : Nat) : Int) := by rw [IntWalk.i64_in _ (by omega)]; omega
      generalize w9.setCell ⟨c, 3, none⟩ (.slice al ws.length cl) = W9 at *
      have hz9 : c < W9.heap.size := heap_ltR H9.out.2.2.2.2.2
      have FINW := Lib.hid (fun (w10 : World) (m : Mvr p W9 w10) (h10 : TS p S d (if ns.length + ws.length = 0 then X.sx.fail 9 else X.sx) w10) => FIN.out W9 w10 ws al cl H9.out.2.2.2.1 H9.out.2.2.2.2.1 hz9 m H9.out.2.1 h10 ((m.high _ (by omega) (heap_ltR H9.out.2.2.1)).trans H9.out.2.2.1))
      have RES := Lib.hid (fun (w10 : World) (m : Mvr p W9 w10) => cells7r ((m.high _ (by omega) (heap_ltR H9.out.2.2.1)).trans H9.out.2.2.1))
      have CEL := Lib.hid (fun (w10 : World) (m : Mvr p W9 w10) => (cells7r ((m.high _ (by omega) (heap_ltR H9.out.2.2.2.2.2)).trans H9.out.2.2.2.2.2)).1)
      clear CELL KEEP FIN
      by_cases hz : ns.length + ws.length = 0
      · have hzI : (((ns.length + ws.length : Nat) : Int) == 0) = true := by rw [hz]; rfl
        rw [if_pos hz] at FINW
        have kf := KFX.out W9 H9.out.1
        clear q0 q2 q4 q5 q6 hz H9
        go_wp2_with (go_at_call 16; (with_reducible refine kf.mono ?_); rintro e w10 ⟨rfl, h10, m10⟩; obtain ⟨⟨r0, r1, r2, r3, r4, r5, r6⟩, f0, f1, f2, f3, f4, f5, f6⟩ := RES.out w10 m10; obtain ⟨c0, c1, c2, c3, c4, c5, c6⟩ := CEL.out w10 m10; have FF := Lib.hid (FINW.out w10 m10 h10); clear h10 m10 kf)
        exact bodyPost_ret (v := .agg _) (results_cell_row (p := 2) (ty := 37) Tryz.results112 _ _ w.heap.size 37 _ (0, 0) _ rfl FF.out.1 Tryz.underlying37 rfl Tryz.infoCmdSr) rfl FF.out.2
      · have hzI : (((ns.length + ws.length : Nat) : Int) == 0) = false := by rw [beq_eq_false_iff_ne]; omega
        rw [if_neg hz] at FINW
        have FF := Lib.hid (FINW.out W9 (Mvr.refl _ _) H9.out.1)
        obtain ⟨⟨r0, r1, r2, r3, r4, r5, r6⟩, f0, f1, f2, f3, f4, f5, f6⟩ := RES.out W9 (Mvr.refl _ _)
        clear hz H9 RES CEL FINW
        go_wp2_with fail
        exact bodyPost_ret (v := .agg _) (results_cell_row (p := 2) (ty := 37) Tryz.results112 _ _ w.heap.size 37 _ (0, 0) _ rfl FF.out.1 Tryz.underlying37 rfl Tryz.infoCmdSr) rfl FF.out.2
end Go.Proofs.YtelfgobjnibooaaGreatDoor
namespace Go.Proofs.YtelfgobjnibooaaGreatDoor
open Go.RowKit Go.Lib
def LinkR (kind : Nat) (mk : List UInt8) (one : List UInt8 → Rr Co) (fits : Co → Bool) (D : Rr Co) (xs : List Co) : Sx → Prop
 | .at r => ∃ cs c, xs = cs ++ [c] ∧ ((markS mk r).isSome = true → iterS (rowStep kind mk one fits) (cs, c, true) (behindS mk r) = D) ∧ ((markS mk r).isSome = false → D = .ok (if cs = [] then c else .mk kind [] [] [] (cs ++ [c]) [] []) (gapS r))
 | .bad e => D = .bad e
theorem behind_none {mk r : List UInt8} (h : (markS mk r).isSome = false) : behindS mk r = gapS r := by
 unfold behindS
 cases hm : markS mk r with
 | none => rfl
 | some x => rw [hm] at h; cases h
theorem linkr_start {kind : Nat} {mk : List UInt8} {one : List UInt8 → Rr Co} {fits : Co → Bool} {s : Sx} {c : Co} (hc : ∀ y r, s.run one = .ok y r → c = y) : LinkR kind mk one fits (s.run (rowS kind mk one fits)) [c] (s.run one).sx := by
 cases s with
 | bad e => exact rfl
 | «at» l =>
  show LinkR kind mk one fits (rowS kind mk one fits l) [c] (one l).sx
  have hc : ∀ y r, one l = .ok y r → c = y := hc
  unfold rowS
  cases h : one l with
  | bad e => exact rfl
  | ok y r =>
   obtain rfl := hc _ _ h
   refine ⟨[], c, rfl, fun hm => ?_, fun hm => ?_⟩
   ·show _ = if (markS mk r).isSome = false then _ else _
    rw [hm, if_neg (by simp)]
   ·show (if (markS mk r).isSome = false then _ else _) = _
    rw [hm, if_pos rfl, if_pos rfl, behind_none hm]
section
variable {kind : Nat} {mk : List UInt8} {one : List UInt8 → Rr Co} {fits : Co → Bool} (h1 : ∀ l, Nice l (one l)) (h2 : NotNil one)
include h1 h2
theorem row_k (s : List Co × Co × Bool) (l : List UInt8) : iterS (rowStep kind mk one fits) s l = stepK (iterS (rowStep kind mk one fits)) (rowStep kind mk one fits s l) := iterS_k (rowStep_nice h1 h2) s l
theorem row_unfit {D : Rr Co} {cs : List Co} {c : Co} {m : Bool} {l : List UInt8} (h : iterS (rowStep kind mk one fits) (cs, c, m) l = D) (hf : fits c = false) : D = .bad 9 := by
 rw [← h, row_k h1 h2]
 unfold rowStep
 rw [if_pos hf]
 rfl
theorem row_more {D : Rr Co} {cs : List Co} {c : Co} {l : List UInt8} (h : iterS (rowStep kind mk one fits) (cs, c, true) l = D) (hf : fits c = true) (x : Co) (hx : ∀ y r, one (skipS [10] l) = .ok y r → x = y) :
  LinkR kind mk one fits D (cs ++ [c] ++ [x]) (if fits x = false then (one (skipS [10] l)).sx.fail 9 else (one (skipS [10] l)).sx) := by
 have e : D = stepK (iterS (rowStep kind mk one fits)) ((one (skipS [10] l)).bind fun c' r => .ok (.go (cs ++ [c], c', (markS mk r).isSome)) (behindS mk r)) := by
  rw [← h, row_k h1 h2]
  unfold rowStep
  rw [if_neg (by rw [hf]; simp), if_neg (by simp)]
 cases ho : one (skipS [10] l) with
 | bad b =>
  rw [ho] at e
  have e : D = .bad b := e
  subst e
  split <;> exact rfl
 | ok y r =>
  obtain rfl := hx _ _ ho
  rw [ho] at e
  have e : iterS (rowStep kind mk one fits) (cs ++ [c], x, (markS mk r).isSome) (behindS mk r) = D := e.symm
  by_cases hfx : fits x = false
  ·rw [if_pos hfx]
   exact row_unfit h1 h2 e hfx
  ·rw [if_neg hfx]
   refine ⟨cs ++ [c], x, rfl, fun hm => by rw [hm] at e; exact e, fun hm => ?_⟩
   rw [hm, row_k h1 h2] at e
   unfold rowStep at e
   rw [if_neg hfx, if_pos rfl] at e
   rw [← e, if_neg (by simp), behind_none hm]
   rfl
theorem linkr_unfit {D : Rr Co} {cs : List Co} {c : Co} {r : List UInt8} (h : LinkR kind mk one fits D (cs ++ [c]) (.at r)) (hm : (markS mk r).isSome = true) (hf : fits c = false) : D = .bad 9 := by
 obtain ⟨cs', c', he, h3, _⟩ := h
 obtain ⟨rfl, e⟩ := List.append_inj' he rfl
 cases e
 exact row_unfit h1 h2 (h3 hm) hf
theorem linkr_more {D : Rr Co} {cs : List Co} {c : Co} {r : List UInt8} (h : LinkR kind mk one fits D (cs ++ [c]) (.at r)) (hm : (markS mk r).isSome = true) (hf : fits c = true) (x : Co) (hx : ∀ y r', one (skipS [10] (behindS mk r)) = .ok y r' → x = y) :
  LinkR kind mk one fits D (cs ++ [c] ++ [x]) (if fits x = false then (one (skipS [10] (behindS mk r))).sx.fail 9 else (one (skipS [10] (behindS mk r))).sx) := by
 obtain ⟨cs', c', he, h3, _⟩ := h
 obtain ⟨rfl, e⟩ := List.append_inj' he rfl
 cases e
 exact row_more h1 h2 (h3 hm) hf x hx
end
theorem linkr_end {kind : Nat} {mk : List UInt8} {one : List UInt8 → Rr Co} {fits : Co → Bool} {D : Rr Co} {cs : List Co} {c : Co} {t : Sx} (h : LinkR kind mk one fits D (cs ++ [c]) t) (hm : ∀ r, t = .at r → (markS mk r).isSome = false) :
  D.sx = t.map gapS ∧ ∀ y r, D = .ok y r → (if cs = [] then c else .mk kind [] [] [] (cs ++ [c]) [] []) = y := by
 cases t with
 | bad e =>
  have h : D = .bad e := h
  subst h
  exact ⟨rfl, fun y r h => by cases h⟩
 | «at» r =>
  obtain ⟨cs', c', he, _, h4⟩ := h
  obtain ⟨rfl, e⟩ := List.append_inj' he rfl
  cases e
  rw [h4 (hm r rfl)]
  exact ⟨rfl, fun y r h => by cases h; rfl⟩
theorem bars_mark (two : Bool) (r : List UInt8) : barsX two (.at (gapS r)) = (markS (if two then [124, 124] else [124]) r).isSome := by
 cases hg : gapS r with
 | nil =>
  cases two <;> (unfold markS; rw [hg]; rfl)
 | cons c q =>
  by_cases hc : c = 124
  ·subst hc
   cases q with
   | nil => cases two <;> (unfold markS; rw [hg]; rfl)
   | cons e q =>
    by_cases he : e = 124
    ·subst he
     cases two <;> (unfold markS; rw [hg]; rfl)
    ·have h1 : takeS [124, 124] (124 :: e :: q) = none := by
      unfold takeS
      rw [if_neg]
      simp [Ne.symm he]
     have h2 : takeS [124] (124 :: e :: q) = some (e :: q) := take_eq 124 _
     have h3 : atS [124] (e :: q) = false := by simp [atS, he]
     cases two
     ·have hm : markS [124] r = some (e :: q) := by
       unfold markS
       rw [hg, h1, if_neg (by simp), h2]
      show (124 == 124 && (atS [124] (e :: q) == false)) = (markS [124] r).isSome
      rw [h3, hm]; rfl
     ·have hm : markS [124, 124] r = none := by
       unfold markS
       rw [hg, h1, if_neg (by simp)]
      show (124 == 124 && (atS [124] (e :: q) == true)) = (markS [124, 124] r).isSome
      rw [h3, hm]; rfl
  ·have h1 : takeS [124, 124] (c :: q) = none := by
    unfold takeS
    rw [if_neg]
    cases q <;> simp [Ne.symm hc]
   have h2 : takeS [124] (c :: q) = none := take_ne (Ne.symm hc)
   have h3 : barsX two (.at (c :: q)) = false := by
    show (c == 124 && _) = false
    rw [show (c == 124) = false by simpa using hc]; rfl
   rw [h3]
   cases two
   ·have hm : markS [124] r = none := by
     unfold markS
     rw [hg, h1, if_neg (by simp), h2]
    show false = (markS [124] r).isSome
    rw [hm]; rfl
   ·have hm : markS [124, 124] r = none := by
     unfold markS
     rw [hg, h1, if_neg (by simp)]
    show false = (markS [124, 124] r).isSome
    rw [hm]; rfl
theorem mark_behind {two : Bool} {r : List UInt8} (h : barsX two (.at (gapS r)) = true) : behindS (if two then [124, 124] else [124]) r = (gapS r).drop (if two then 2 else 1) ∧ (if two then 2 else 1) ≤ (gapS r).length := by
 have hm := bars_mark two r
 rw [h] at hm
 unfold behindS
 cases hk : markS (if two then [124, 124] else [124]) r with
 | none => rw [hk] at hm; cases hm
 | some x =>
  cases two
  ·have hk : markS [124] r = some x := hk
   unfold markS at hk
   split at hk
   ·cases hk
   ·have hq := takeS_some hk
    rw [hq]
    exact ⟨rfl, by simp⟩
  ·have hk : markS [124, 124] r = some x := hk
   unfold markS at hk
   split at hk
   ·cases hk
   ·have hq := takeS_some hk
    rw [hq]
    exact ⟨rfl, by simp⟩
end Go.Proofs.YtelfgobjnibooaaGreatDoor
namespace Go.Proofs.YtelfgobjnibooaaGreatDoor
open Go.RowKit Go.Lib
def gK (k : Nat) : Dn := ⟨rlistS (rlvl k), wordsS (rlvl k)⟩
theorem lines_sx (k : Nat) (s : Sx) (cs : List Co) (hc : ∀ y r, s.run (rlistS (rlvl k)) = .ok y r → cs = y) : (s.run (linesS (gK k))).sx = (if cs = [] then (s.run (rlistS (rlvl k))).sx.fail 9 else (s.run (rlistS (rlvl k))).sx) ∧ ∀ y r, s.run (linesS (gK k)) = .ok y r → cs = y := by
 cases s with
 | bad e =>
  refine ⟨?_, fun y r h => by cases h⟩
  show Sx.bad e = if _ then Sx.bad e else Sx.bad e
  split <;> rfl
 | «at» l =>
  show (linesS (gK k) l).sx = (if _ then (rlistS (rlvl k) l).sx.fail 9 else (rlistS (rlvl k) l).sx) ∧ ∀ y r, linesS (gK k) l = .ok y r → _
  have hc : ∀ y r, rlistS (rlvl k) l = .ok y r → cs = y := hc
  unfold linesS
  show ((rlistS (rlvl k) l).bind _).sx = _ ∧ ∀ y r, (rlistS (rlvl k) l).bind _ = .ok y r → _
  cases h : rlistS (rlvl k) l with
  | bad e =>
   refine ⟨?_, fun y r h => by cases h⟩
   show Sx.bad e = if _ then Sx.bad e else Sx.bad e
   split <;> rfl
  | ok y r =>
   obtain rfl := hc _ _ h
   by_cases hz : cs = []
   ·subst hz
    exact ⟨rfl, fun y r h => by cases h⟩
   ·have e : ((Rr.ok cs r).bind fun cs r => if cs = [] then (.bad 9 : Rr (List Co)) else .ok cs r) = .ok cs r := if_neg hz
    rw [e, if_neg hz]
    exact ⟨rfl, fun y r h => by cases h; rfl⟩
set_option maxHeartbeats 2000000 in
theorem linesF_any (n0 k p : Nat) (S : ByteArray) (d : Nat) (KL : ListP n0 p S d k) (s : Sx) (w : World) (h : TS p S d s w) :
  Calls Tryz.prog 113 #[.pointer (some ⟨p, 0, none⟩)] w fun e w' => AnsL n0 (s.run (linesS (gK k))) w e w' ∧ TS p S d (s.run (linesS (gK k))).sx w' ∧ Mvr p w w' := by
 have kl := KL s w h
 have LS := Lib.hid (fun (cs : List Co) (hc : ∀ y r, s.run (rlistS (rlvl k)) = .ok y r → cs = y) => lines_sx k s cs hc)
 obtain ⟨X, hX⟩ : ∃ X, s.run (rlistS (rlvl k)) = X := ⟨_, rfl⟩
 obtain ⟨Y, hY⟩ : ∃ Y, s.run (linesS (gK k)) = Y := ⟨_, rfl⟩
 rw [hX] at kl LS
 rw [hY] at LS ⊢
 have KF := Lib.hid (fun (wr : World) (ht : TS p S d X.sx wr) => fail_any p S d X.sx 9 (by decide) wr ht)
 have FIN := Lib.hid (fun (w1 w2 : World) (cs : List Co) (al : Option Addr) (m cl : Nat) (hq : (cosV n0).q (NewF w.heap.size w1.heap.size) w1 (.slice al m cl) cs) (hc : ∀ y r, X = .ok y r → cs = y) (m1 : Mvr p w w1) (m2 : Mvr p w1 w2) (h2 : TS p S d (if cs = [] then X.sx.fail 9 else X.sx) w2) (hp : p < w.heap.size) => (by
  obtain ⟨e1, e2⟩ := LS.out cs hc
  refine ⟨⟨cs, al, m, cl, rfl, (cosV n0).mono _ _ _ _ _ (fun g hg => ⟨hg.1, Nat.lt_of_lt_of_le hg.2 m2.size⟩) ((cosV n0).same _ _ _ _ _ (fun g hg => m2.high g (by have := hg.1; omega) hg.2) hq), e2⟩, by rw [e1]; exact h2, m1.trans m2⟩ :
  AnsL n0 Y w (.returned (.slice al m cl)) w2 ∧ TS p S d Y.sx w2 ∧ Mvr p w w2))
 have hp := h.lt
 clear h KL LS hX hY
 go_enter Tryz.func113, Tryz.ntmps113
 go_upto_region 2 with (go_at_call 15; (with_reducible refine kl.mono ?_); rintro e w1 ⟨⟨cs, al, m, cl, rfl, hq, hc⟩, h1, m1⟩; have H1 := Lib.hid (And.intro hq (And.intro hc (And.intro h1 m1))); clear hq hc h1 m1 kl)
 obtain ⟨ao, cap, hsh, -⟩ := cos_shape H1.out.1
 injection hsh with q1 q2 q3
 clear q1 q3
 by_cases hz : cs = []
 ·have hm : m = 0 := by rw [q2, hz]; rfl
  subst hm
  have FF := Lib.hid (fun (w2 : World) (m2 : Mvr p w1 w2) (h2 : TS p S d (X.sx.fail 9) w2) => FIN.out w1 w2 cs al 0 cl H1.out.1 H1.out.2.1 H1.out.2.2.2 m2 (by rw [if_pos hz]; exact h2) hp)
  have kf := KF.out w1 H1.out.2.2.1
  clear FIN H1 hz q2
  go_wp2_with (go_at_call 16; (with_reducible refine kf.mono ?_); rintro e w2 ⟨rfl, h2, m2⟩; have F := Lib.hid (FF.out w2 m2 h2); clear h2 m2 kf)
  go_ret
  exact F.out
 ·have hm : 0 < m := by rw [q2]; exact List.length_pos_iff.2 hz
  have hmz : ((m : Int) == 0) = false := by rw [beq_eq_false_iff_ne]; omega
  have F := Lib.hid (FIN.out w1 w1 cs al m cl H1.out.1 H1.out.2.1 H1.out.2.2.2 (Mvr.refl _ _) (by rw [if_neg hz]; exact H1.out.2.2.1) hp)
  clear FIN H1 hz q2 hm
  go_wp2_with fail
  go_ret
  exact F.out
end Go.Proofs.YtelfgobjnibooaaGreatDoor
