/- Packed texts: RfSign3, RfParts, RfQuoted. What each of them proves stands above its theorems; the conditions stand in these. -/
import Derived.Test.YtelfgobjnibooaaGreatDoorA27
namespace Go.Proofs.YtelfgobjnibooaaGreatDoor
open Go.RowKit Go.Lib
theorem brace_any (n0 p : Nat) (S : ByteArray) (d : Nat) (l : List UInt8) (w : World) (h : TS p S d (.at l) w) (hS : S.size ≤ 1048576) :
  Calls Tryz.prog 180 #[.pointer (some ⟨p, 0, none⟩)] w fun e w' => AnsP n0 (braceS l) w e w' ∧ TS p S d (braceS l).sx w' ∧ Mvr p w w' := by
 cases hl : atS [35] l with
 | false => exact brace_rest n0 p S d l w h hS hl
 | true =>
  cases l with
  | nil => cases hl
  | cons c r =>
   have : c = 35 := by simpa [atS] using hl
   subst this
   exact brace_hash n0 p S d r w h hS
set_option maxHeartbeats 4000000 in
set_option maxRecDepth 20000 in
theorem sign_brace (n0 k p : Nat) (S : ByteArray) (d : Nat) (r : List UInt8) (w : World) (h : TS p S d (.at (123 :: r)) w) (hS : S.size ≤ 1048576) :
  Calls Tryz.prog 173 #[.pointer (some ⟨p, 0, none⟩)] w fun e w' => AnsP n0 ((Sx.at (123 :: r)).run (partS (rlvl k) false)) w e w' ∧ TS p S d ((Sx.at (123 :: r)).run (partS (rlvl k) false)).sx w' ∧ Mvr p w w' := by
 have hR : (Sx.at (123 :: r)).run (partS (rlvl k) false) = braceS r := part_braceF (rlvl k) r
 rw [hR]
 have hp := h.lt
 obtain ⟨W1, hW1, t1, m1, hp1, hz1, hres⟩ := res_start p S d _ w h
 have hcc : (Sx.at (123 :: r)).c = 123 := rfl
 have KQ := Lib.hid (fun n => c_quiet p S d _ (W1.drewN n) (t1.draws n) hS)
 rw [hcc] at KQ
 have KC := Lib.hid (fun (wr : World) (hb : Below W1.heap.size W1 wr) => c_any p S d _ wr (t1.below hb) hS)
 rw [hcc] at KC
 obtain ⟨a, hwk, hst⟩ := t1.step hS
 have HST := Lib.hid hst
 have KD := Lib.hid (fun (w4 : World) (t4 : TS p S d (.at r) w4) => brace_any n0 p S d r w4 t4 hS)
 have MN := Lib.hid (fun (w3 w4 : World) (m3 : Mvr p W1 w3) (m : Mvr p w3 w4) => (⟨hres w4 (m3.trans m), m1.trans (m3.trans m), by have := m3.size; omega⟩ : _ ∧ Mvr p w w4 ∧ w.heap.size < w3.heap.size))
 have HB := Lib.hid (Below.refl W1.heap.size W1)
 rw [hW1] at KQ KC HST MN HB
 clear h t1 m1 hres hR hcc hz1 hp1 hW1 hst
 go_enter Tryz.func173, Tryz.ntmps173
 go_wp2_with fail
 go_quiet (exact Calls.quiet_of (KQ.out _))
 have HB := Lib.hid (below_draws HB.out nq)
 go_upto_region 16 with (go_at_call 33; (with_reducible refine (KC.out _ HB.out).mono ?_); rintro e w2 ⟨rfl, b2⟩; have HB := Lib.hid (below2 HB.out b2); clear b2)
 obtain ⟨g0, g1, g2, g3⟩ := HST.out _ HB.out
 have k4 := KD.out _ g2
 have G3 := Lib.hid g3
 clear g2 g3
 go_wp2_with (go_at_call 180; (with_reducible refine k4.mono ?_); rintro e w4 ⟨⟨x, al, mm, cl, rfl, hx⟩, h4, m4⟩; obtain ⟨rh, m5, hs3⟩ := MN.out _ w4 G3.out m4; have HV := Lib.hid hx; obtain ⟨⟨r0, r1, r2, r3, r4⟩, f0, f1, f2, f3, f4⟩ := res_cells rh; have RH := Lib.hid (And.intro rh (And.intro h4 (And.intro m5 (And.intro hs3 m4.size)))); clear h4 m4 hx rh m5 hs3)
 have FF := sign_answer n0 p S d _ _ w w4 _ x al mm cl RH.out.1 RH.out.2.1 RH.out.2.2.1 RH.out.2.2.2.1 hp HV.out
 exact bodyPost_ret (v := .agg _) (results_cell_row (p := 2) (ty := 42) Tryz.results173 _ _ w.heap.size 42 _ (0, 0) _ rfl FF.1 Tryz.underlying42 rfl Tryz.infoPartS) rfl FF.2
set_option maxHeartbeats 4000000 in
set_option maxRecDepth 20000 in
theorem sign_deep (n0 p : Nat) (S : ByteArray) (r : List UInt8) (w : World) (h : TS p S 30 (.at (40 :: r)) w) (hS : S.size ≤ 1048576) (hr : atS [40] r = false) :
  Calls Tryz.prog 173 #[.pointer (some ⟨p, 0, none⟩)] w fun e w' => AnsP n0 ((Sx.at (40 :: r)).run (partS (rlvl 0) false)) w e w' ∧ TS p S 30 ((Sx.at (40 :: r)).run (partS (rlvl 0) false)).sx w' ∧ Mvr p w w' := by
 have hR : (Sx.at (40 :: r)).run (partS (rlvl 0) false) = .bad 7 := (part_sub (rlvl 0) r hr).trans rfl
 rw [hR]
 have hp := h.lt
 obtain ⟨W1, hW1, t1, m1, hp1, hz1, hres⟩ := res_start p S 30 _ w h
 have hcc : (Sx.at (40 :: r)).c = 40 := rfl
 have KQ := Lib.hid (fun n => c_quiet p S 30 _ (W1.drewN n) (t1.draws n) hS)
 rw [hcc] at KQ
 have KC := Lib.hid (fun (wr : World) (hb : Below W1.heap.size W1 wr) => c_any p S 30 _ wr (t1.below hb) hS)
 rw [hcc] at KC
 obtain ⟨a, m, c0, c1, hwm, hcase, hhop⟩ := t1.second hS
 obtain ⟨hw1, hst⟩ := hhop 1 (by simp)
 have HST : Hid (∀ w3, Below W1.heap.size W1 w3 → w3.cell? ⟨p, 1, none⟩ = some (.int .i64 (a : Int)) ∧ w3.frozen? ⟨p, 1, none⟩ = false ∧ w3.cell? ⟨p, 2, none⟩ = some (.int .i64 30) ∧ TS p S 30 (.at r) (w3.setCell ⟨p, 1, none⟩ (.int .i64 (m : Int))) ∧ Mvr p W1 (w3.setCell ⟨p, 1, none⟩ (.int .i64 (m : Int)))) := fun w3 hb => by
  obtain ⟨g1, g2, g3⟩ := hst w3 hb
  have em : (a : Int) + ((1 : Nat) : Int) = (m : Int) := by rw [← hw1]; exact hwm
  rw [em] at g2 g3
  refine ⟨(World.cell?_of_block (hb.block p hp1)).trans c1, g1, (t1.below hb).deeper.1, g2, g3⟩
 have KF := Lib.hid (fun (w4 : World) (t4 : TS p S 30 (.at r) w4) => fail_any p S 30 (.at r) 7 (by decide) w4 t4)
 have MN := Lib.hid (fun (w3 w4 : World) (m3 : Mvr p W1 w3) (m : Mvr p w3 w4) => (⟨hres w4 (m3.trans m), m1.trans (m3.trans m), by have := m3.size; omega⟩ : _ ∧ Mvr p w w4 ∧ w.heap.size < w3.heap.size))
 have HB := Lib.hid (Below.refl W1.heap.size W1)
 have hcase2 : (m = S.size) ∨ ∃ h : m < S.size, ((S[m].toNat : Int) == 40) = false := by
  rcases hcase with ⟨h1, _⟩ | ⟨e, q, rfl, h1, h2⟩
  ·exact .inl h1
  ·refine .inr ⟨h1, ?_⟩
   rw [h2]
   show (_ == ((40 : UInt8).toNat : Int)) = false
   rw [byte_eq]
   simpa [atS] using hr
 rw [hW1] at KQ KC HST MN HB c0 c1
 clear h t1 m1 hres hR hcc hz1 hp1 hW1 hst hhop hcase hw1
 have FINISH : ∀ (w3 w4 : World), (∃ (rh : w4.heap[w.heap.size]? = some (.cells #[.int .i64 0, .bool false, .string ⟨#[]⟩, .string ⟨#[]⟩, .slice none 0 0] 42 (0, 0))), TS p S 30 (.bad 7) w4 ∧ Mvr p w w4 ∧ w.heap.size < w3.heap.size) →
   (fiveW w4 w.heap.size (.int .i64 0) (.bool false) (.string ⟨#[]⟩) (.string ⟨#[]⟩) (.slice none 0 0)).heap[w.heap.size]? = some (.cells #[.int .i64 0, .bool false, .string ⟨#[]⟩, .string ⟨#[]⟩, .slice none 0 0] 42 (0, 0)) ∧ AnsP n0 (.bad 7) w (.returned (.agg #[.int .i64 0, .bool false, .string ⟨#[]⟩, .string ⟨#[]⟩, .slice none 0 0])) (fiveW w4 w.heap.size (.int .i64 0) (.bool false) (.string ⟨#[]⟩) (.string ⟨#[]⟩) (.slice none 0 0)) ∧
   TS p S 30 (Rr.bad 7 : Rr Pt).sx (fiveW w4 w.heap.size (.int .i64 0) (.bool false) (.string ⟨#[]⟩) (.string ⟨#[]⟩) (.slice none 0 0)) ∧ Mvr p w (fiveW w4 w.heap.size (.int .i64 0) (.bool false) (.string ⟨#[]⟩) (.string ⟨#[]⟩) (.slice none 0 0)) := by
  rintro w3 w4 ⟨rh, h4, m4, hs⟩
  exact sign_answer n0 p S 30 (.bad 7) (.bad 7) w w4 w3 ⟨0, false, [], [], []⟩ none 0 0 rh h4 m4 hs hp ⟨cos_nil n0 _ _, rfl, fun y r h => (by cases h), by simp, by simp, by show (0 : Nat) ≠ 1; omega⟩
 have FINI := Lib.hid FINISH
 clear FINISH
 rcases hcase2 with hms | ⟨hm, hyq⟩
 ·have hge : ¬ (m : Int) < (S.size : Int) := by omega
  have hged : decide ((m : Int) < (S.size : Int)) = false := decide_eq_false hge
  have hge2 : ¬ m < S.size := by omega
  have hged2 : decide (m < S.size) = false := decide_eq_false hge2
  clear hms
  go_enter Tryz.func173, Tryz.ntmps173
  go_wp2_with fail
  go_quiet (exact Calls.quiet_of (KQ.out _))
  have HB := Lib.hid (below_draws HB.out nq)
  go_upto_region 5 with (go_at_call 33; (with_reducible refine (KC.out _ HB.out).mono ?_); rintro e w2 ⟨rfl, b2⟩; have HB := Lib.hid (below2 HB.out b2); clear b2)
  obtain ⟨g0, g1, gd, g2, g3⟩ := HST.out _ HB.out
  have k4 := KF.out _ g2
  have G3 := Lib.hid g3
  clear g2 g3
  go_wp2_with (go_at_call 16; (with_reducible refine k4.mono ?_); rintro e w4 ⟨rfl, h4, m4⟩; obtain ⟨rh, m5, hs3⟩ := MN.out _ w4 G3.out m4; obtain ⟨⟨r0, r1, r2, r3, r4⟩, f0, f1, f2, f3, f4⟩ := res_cells rh; have RH := Lib.hid (And.intro rh (And.intro h4 (And.intro m5 hs3))); clear h4 m4 rh m5 hs3)
  have FF := FINI.out _ w4 ⟨RH.out.1, RH.out.2⟩
  exact bodyPost_ret (v := .agg _) (results_cell_row (p := 2) (ty := 42) Tryz.results173 _ _ w.heap.size 42 _ (0, 0) _ rfl FF.1 Tryz.underlying42 rfl Tryz.infoPartS) rfl FF.2
 ·have hlt : (m : Int) < (S.size : Int) := by omega
  have hltd : decide ((m : Int) < (S.size : Int)) = true := decide_eq_true hlt
  have hltd2 : decide (m < S.size) = true := decide_eq_true hm
  go_enter Tryz.func173, Tryz.ntmps173
  go_wp2_with fail
  go_quiet (exact Calls.quiet_of (KQ.out _))
  have HB := Lib.hid (below_draws HB.out nq)
  go_upto_region 5 with (go_at_call 33; (with_reducible refine (KC.out _ HB.out).mono ?_); rintro e w2 ⟨rfl, b2⟩; have HB := Lib.hid (below2 HB.out b2); clear b2)
  obtain ⟨g0, g1, gd, g2, g3⟩ := HST.out _ HB.out
  have k4 := KF.out _ g2
  have G3 := Lib.hid g3
  clear g2 g3
  go_wp2_with (go_at_call 16; (with_reducible refine k4.mono ?_); rintro e w4 ⟨rfl, h4, m4⟩; obtain ⟨rh, m5, hs3⟩ := MN.out _ w4 G3.out m4; obtain ⟨⟨r0, r1, r2, r3, r4⟩, f0, f1, f2, f3, f4⟩ := res_cells rh; have RH := Lib.hid (And.intro rh (And.intro h4 (And.intro m5 hs3))); clear h4 m4 rh m5 hs3)
  have FF := FINI.out _ w4 ⟨RH.out.1, RH.out.2⟩
  exact bodyPost_ret (v := .agg _) (results_cell_row (p := 2) (ty := 42) Tryz.results173 _ _ w.heap.size 42 _ (0, 0) _ rfl FF.1 Tryz.underlying42 rfl Tryz.infoPartS) rfl FF.2
set_option maxHeartbeats 4000000 in
set_option maxRecDepth 20000 in
theorem sign_list (n0 k p : Nat) (S : ByteArray) (d : Nat) (r : List UInt8) (w : World) (h : TS p S d (.at (40 :: r)) w) (hS : S.size ≤ 1048576) (hr : atS [40] r = false) (hd : d < 30) (KL : ListP n0 p S (d + 1) k) :
  Calls Tryz.prog 173 #[.pointer (some ⟨p, 0, none⟩)] w fun e w' => AnsP n0 ((Sx.at (40 :: r)).run (partS (rlvl (k + 1)) false)) w e w' ∧ TS p S d ((Sx.at (40 :: r)).run (partS (rlvl (k + 1)) false)).sx w' ∧ Mvr p w w' := by
 have hR : (Sx.at (40 :: r)).run (partS (rlvl (k + 1)) false) = (rlistS (rlvl k) r).bind fun cs r1 => (needS [41] r1).bind fun _ r2 => .ok ⟨7, false, [], [], cs⟩ r2 := part_sub (rlvl (k + 1)) r hr
 have hX : ((rlistS (rlvl k) r).bind fun cs r1 => (needS [41] r1).bind fun _ r2 => .ok (⟨7, false, [], [], cs⟩ : Pt) r2).sx = ((rlistS (rlvl k) r).sx.run (needS [41])).sx := sx_bind _ (needS [41]) (fun cs _ => (⟨7, false, [], [], cs⟩ : Pt))
 rw [hR, hX]
 have hp := h.lt
 obtain ⟨W1, hW1, t1, m1, hp1, hz1, hres⟩ := res_start p S d _ w h
 have hcc : (Sx.at (40 :: r)).c = 40 := rfl
 have KQ := Lib.hid (fun n => c_quiet p S d _ (W1.drewN n) (t1.draws n) hS)
 rw [hcc] at KQ
 have KC := Lib.hid (fun (wr : World) (hb : Below W1.heap.size W1 wr) => c_any p S d _ wr (t1.below hb) hS)
 rw [hcc] at KC
 obtain ⟨a, m, c0, c1, hwm, hcase, -⟩ := t1.second hS
 obtain ⟨LR, hLR⟩ : ∃ LR, rlistS (rlvl k) r = LR := ⟨_, rfl⟩
 rw [hLR] at hR hX ⊢
 have HST : Hid (∀ w3, Below W1.heap.size W1 w3 → w3.cell? ⟨p, 2, none⟩ = some (.int .i64 (d : Int)) ∧ w3.frozen? ⟨p, 2, none⟩ = false ∧ ∃ b : Nat, IntKind.i64.wrap ((b : Int) + 1) = (b : Int) + 1 ∧ (w3.setCell ⟨p, 2, none⟩ (.int .i64 ((d : Int) + 1))).cell? ⟨p, 1, none⟩ = some (.int .i64 (b : Int)) ∧ (w3.setCell ⟨p, 2, none⟩ (.int .i64 ((d : Int) + 1))).frozen? ⟨p, 1, none⟩ = false ∧
   TS p S (d + 1) (.at r) ((w3.setCell ⟨p, 2, none⟩ (.int .i64 ((d : Int) + 1))).setCell ⟨p, 1, none⟩ (.int .i64 ((b : Int) + 1))) ∧ Mvr p W1 ((w3.setCell ⟨p, 2, none⟩ (.int .i64 ((d : Int) + 1))).setCell ⟨p, 1, none⟩ (.int .i64 ((b : Int) + 1)))) := fun w3 hb => by
  obtain ⟨g1, g2, g3⟩ := (t1.below hb).deeper
  have g3 := g3 (d + 1)
  rw [show ((d + 1 : Nat) : Int) = (d : Int) + 1 by omega] at g3
  obtain ⟨b, hb1, hb2⟩ := g3.1.step hS
  obtain ⟨q1, q2, q3, q4⟩ := hb2 _ (Below.refl _ _)
  exact ⟨g1, g2, b, hb1, q1, q2, q3, ((Mvr.of hb hp1).trans g3.2).trans q4⟩
 have KLL : Hid (∀ w4, TS p S (d + 1) (.at r) w4 → Calls Tryz.prog 15 #[.pointer (some ⟨p, 0, none⟩)] w4 fun e w' => AnsL n0 LR w4 e w' ∧ TS p S (d + 1) LR.sx w' ∧ Mvr p w4 w') := fun w4 t4 => by
  have := KL (.at r) w4 t4
  rw [show (Sx.at r).run (rlistS (rlvl k)) = rlistS (rlvl k) r from rfl, hLR] at this
  exact this
 have KB := Lib.hid (fun (w5 : World) (t5 : TS p S (d + 1) LR.sx w5) => (by
  obtain ⟨g1, g2, g3⟩ := t5.deeper
  rw [show ((d + 1 : Nat) : Int) = (d : Int) + 1 by omega] at g1
  exact ⟨g1, g2, byte1_41 p S d LR.sx _ (g3 d).1 hS, (g3 d).2⟩ : w5.cell? ⟨p, 2, none⟩ = some (.int .i64 ((d : Int) + 1)) ∧ w5.frozen? ⟨p, 2, none⟩ = false ∧ _ ∧ Mvr p w5 (w5.setCell ⟨p, 2, none⟩ (.int .i64 (d : Int)))))
 have MN := Lib.hid (fun (w3 w4 : World) (m3 : Mvr p W1 w3) (m : Mvr p w3 w4) => (⟨hres w4 (m3.trans m), m1.trans (m3.trans m), by have := m3.size; omega⟩ : _ ∧ Mvr p w w4 ∧ w.heap.size < w3.heap.size))
 have HB := Lib.hid (Below.refl W1.heap.size W1)
 have hcase2 : (m = S.size) ∨ ∃ h : m < S.size, ((S[m].toNat : Int) == 40) = false := by
  rcases hcase with ⟨h1, _⟩ | ⟨e, q, rfl, h1, h2⟩
  ·exact .inl h1
  ·refine .inr ⟨h1, ?_⟩
   rw [h2]
   show (_ == ((40 : UInt8).toNat : Int)) = false
   rw [byte_eq]
   simpa [atS] using hr
 have hd30 : ((d : Int) == 30) = false := by rw [beq_eq_false_iff_ne]; omega
 have hwd : IntKind.i64.wrap ((d : Int) + 1) = ((d : Int) + 1) := IntWalk.i64_in _ (by omega)
 have hwd2 : IntKind.i64.wrap (((d : Int) + 1) - 1) = (d : Int) := by rw [IntWalk.i64_in _ (by omega)]; omega
 have FINI : Hid (∀ (w3 w4 w5 : World) (cs : List Co) (al : Option Addr) (m cl : Nat), (cosV n0).q (NewF w3.heap.size w4.heap.size) w4 (.slice al m cl) cs → (∀ y r, LR = .ok y r → cs = y) → Mvr p w4 w5 → p < w3.heap.size → w5.heap[w.heap.size]? = some (.cells #[.int .i64 0, .bool false, .string ⟨#[]⟩, .string ⟨#[]⟩, .slice none 0 0] 42 (0, 0)) → TS p S d (LR.sx.run (needS [41])).sx w5 → Mvr p w w5 → w.heap.size < w3.heap.size →
   (fiveW w5 w.heap.size (.int .i64 7) (.bool false) (.string ⟨#[]⟩) (.string ⟨#[]⟩) (.slice al m cl)).heap[w.heap.size]? = some (.cells #[.int .i64 7, .bool false, .string ⟨#[]⟩, .string ⟨#[]⟩, .slice al m cl] 42 (0, 0)) ∧ AnsP n0 (LR.bind fun cs r1 => (needS [41] r1).bind fun _ r2 => .ok ⟨7, false, [], [], cs⟩ r2) w (.returned (.agg #[.int .i64 7, .bool false, .string ⟨#[]⟩, .string ⟨#[]⟩, .slice al m cl])) (fiveW w5 w.heap.size (.int .i64 7) (.bool false) (.string ⟨#[]⟩) (.string ⟨#[]⟩) (.slice al m cl)) ∧
   TS p S d (LR.sx.run (needS [41])).sx (fiveW w5 w.heap.size (.int .i64 7) (.bool false) (.string ⟨#[]⟩) (.string ⟨#[]⟩) (.slice al m cl)) ∧ Mvr p w (fiveW w5 w.heap.size (.int .i64 7) (.bool false) (.string ⟨#[]⟩) (.string ⟨#[]⟩) (.slice al m cl))) := by
  intro w3 w4 w5 cs al m cl hq hv m45 hp3 rh h5 m5 hs
  refine sign_answer n0 p S d _ _ w w5 w3 ⟨7, false, [], [], cs⟩ al m cl rh h5 m5 hs hp ⟨?_, rfl, fun y r hy => ?_, by simp, by simp, by show (7 : Nat) ≠ 1; omega⟩
  ·exact (cosV n0).mono _ _ _ _ _ (fun g hg => ⟨hg.1, Nat.lt_of_lt_of_le hg.2 m45.size⟩) ((cosV n0).same _ _ _ _ _ (fun g hg => m45.high g (by have := hg.1; omega) hg.2) hq)
  ·obtain ⟨c2, r2, hc, hy⟩ := bind_ok hy
   obtain ⟨_, r3, _, hy⟩ := bind_ok hy
   cases hy
   rw [hv _ _ hc]
 rw [hW1] at KQ KC HST MN HB c0 c1
 clear h t1 m1 hres hR hX hcc hz1 hp1 hW1 hcase KL hLR
 rcases hcase2 with hms | ⟨hm, hyq⟩
 ·have hge : ¬ (m : Int) < (S.size : Int) := by omega
  have hged : decide ((m : Int) < (S.size : Int)) = false := decide_eq_false hge
  have hge2 : ¬ m < S.size := by omega
  have hged2 : decide (m < S.size) = false := decide_eq_false hge2
  clear hms
  go_enter Tryz.func173, Tryz.ntmps173
  go_wp2_with fail
  go_quiet (exact Calls.quiet_of (KQ.out _))
  have HB := Lib.hid (below_draws HB.out nq)
  go_upto_region 5 with (go_at_call 33; (with_reducible refine (KC.out _ HB.out).mono ?_); rintro e w2 ⟨rfl, b2⟩; have HB := Lib.hid (below2 HB.out b2); clear b2)
  obtain ⟨gd0, gd1, b, hwb, g0, g1, g2, g3⟩ := HST.out _ HB.out
  have k4 := KLL.out _ g2
  have G3 := Lib.hid g3
  have HP3 := Lib.hid g2.lt
  clear g2 g3
  go_wp2_with (first
   | (go_at_call 15; (with_reducible refine k4.mono ?_); rintro e w4 ⟨⟨cs, al, mm, cl, rfl, hq, hv⟩, h4, m4⟩; obtain ⟨gd2, gd3, k5, m5⟩ := KB.out _ h4; have M4 := Lib.hid m4; have M5 := Lib.hid m5; have HV := Lib.hid (And.intro hq hv); clear h4 m4 hq hv m5 k4)
   | (go_at_call 171; (with_reducible refine k5.mono ?_); rintro e w5 ⟨rfl, h5, m6⟩; have m7 := M5.out.trans m6; obtain ⟨rh, m8, hs3⟩ := MN.out _ w5 G3.out (M4.out.trans m7); obtain ⟨⟨r0, r1, r2, r3, r4⟩, f0, f1, f2, f3, f4⟩ := res_cells rh; have RH := Lib.hid (And.intro rh (And.intro h5 (And.intro m8 (And.intro hs3 m7)))); clear h5 m6 rh m7 m8 hs3 k5))
  have FF := FINI.out _ w4 w5 cs al mm cl HV.out.1 HV.out.2 RH.out.2.2.2.2 HP3.out RH.out.1 RH.out.2.1 RH.out.2.2.1 RH.out.2.2.2.1
  exact bodyPost_ret (v := .agg _) (results_cell_row (p := 2) (ty := 42) Tryz.results173 _ _ w.heap.size 42 _ (0, 0) _ rfl FF.1 Tryz.underlying42 rfl Tryz.infoPartS) rfl FF.2
 ·have hlt : (m : Int) < (S.size : Int) := by omega
  have hltd : decide ((m : Int) < (S.size : Int)) = true := decide_eq_true hlt
  have hltd2 : decide (m < S.size) = true := decide_eq_true hm
  go_enter Tryz.func173, Tryz.ntmps173
  go_wp2_with fail
  go_quiet (exact Calls.quiet_of (KQ.out _))
  have HB := Lib.hid (below_draws HB.out nq)
  go_upto_region 5 with (go_at_call 33; (with_reducible refine (KC.out _ HB.out).mono ?_); rintro e w2 ⟨rfl, b2⟩; have HB := Lib.hid (below2 HB.out b2); clear b2)
  obtain ⟨gd0, gd1, b, hwb, g0, g1, g2, g3⟩ := HST.out _ HB.out
  have k4 := KLL.out _ g2
  have G3 := Lib.hid g3
  have HP3 := Lib.hid g2.lt
  clear g2 g3
  go_wp2_with (first
   | (go_at_call 15; (with_reducible refine k4.mono ?_); rintro e w4 ⟨⟨cs, al, mm, cl, rfl, hq, hv⟩, h4, m4⟩; obtain ⟨gd2, gd3, k5, m5⟩ := KB.out _ h4; have M4 := Lib.hid m4; have M5 := Lib.hid m5; have HV := Lib.hid (And.intro hq hv); clear h4 m4 hq hv m5 k4)
   | (go_at_call 171; (with_reducible refine k5.mono ?_); rintro e w5 ⟨rfl, h5, m6⟩; have m7 := M5.out.trans m6; obtain ⟨rh, m8, hs3⟩ := MN.out _ w5 G3.out (M4.out.trans m7); obtain ⟨⟨r0, r1, r2, r3, r4⟩, f0, f1, f2, f3, f4⟩ := res_cells rh; have RH := Lib.hid (And.intro rh (And.intro h5 (And.intro m8 (And.intro hs3 m7)))); clear h5 m6 rh m7 m8 hs3 k5))
  have FF := FINI.out _ w4 w5 cs al mm cl HV.out.1 HV.out.2 RH.out.2.2.2.2 HP3.out RH.out.1 RH.out.2.1 RH.out.2.2.1 RH.out.2.2.2.1
  exact bodyPost_ret (v := .agg _) (results_cell_row (p := 2) (ty := 42) Tryz.results173 _ _ w.heap.size 42 _ (0, 0) _ rfl FF.1 Tryz.underlying42 rfl Tryz.infoPartS) rfl FF.2
end Go.Proofs.YtelfgobjnibooaaGreatDoor
namespace Go.Proofs.YtelfgobjnibooaaGreatDoor
open Go.RowKit Go.Lib
theorem sign_any (n0 k p : Nat) (S : ByteArray) (d : Nat) (s : Sx) (w : World) (h : TS p S d s w) (hS : S.size ≤ 1048576) (hD : DeepP n0 p S d k) :
  Calls Tryz.prog 173 #[.pointer (some ⟨p, 0, none⟩)] w fun e w' => AnsP n0 (s.run (partS (rlvl k) false)) w e w' ∧ TS p S d (s.run (partS (rlvl k) false)).sx w' ∧ Mvr p w w' := by
 cases s with
 | bad e => exact sign_name n0 k p S d (.bad e) w h hS rfl rfl
 | «at» l =>
  cases l with
  | nil => exact sign_name n0 k p S d (.at []) w h hS rfl rfl
  | cons c r =>
   by_cases h1 : c = 40
   ·subst h1
    cases h2 : atS [40] r with
    | true =>
     cases r with
     | nil => cases h2
     | cons e q =>
      have : e = 40 := by simpa [atS] using h2
      subst this
      exact sign_double n0 k p S d q w h hS
    | false =>
     cases k with
     | zero =>
      have hd : d = 30 := hD
      subst hd
      exact sign_deep n0 p S r w h hS h2
     | succ k => exact sign_list n0 k p S d r w h hS h2 hD.1 hD.2
   ·by_cases h2 : c = 123
    ·subst h2
     exact sign_brace n0 k p S d r w h hS
    ·exact sign_name n0 k p S d (.at (c :: r)) w h hS (by simpa [Sx.on, atS] using h1) (by simpa [Sx.on, atS] using h2)
def quP (p : Pt) : Pt := { p with q := true }
theorem part_qu (sub : Deeper) (l : List UInt8) : partS sub true l = (partS sub false l).bind fun p r => .ok (quP p) r := by
 have hw : ∀ k n l, withT true k n l = (withT false k n l).bind fun p r => .ok (quP p) r := by
  intro k n l
  unfold withT
  cases needS [125] (pastS shBarred l) <;> rfl
 unfold partS
 cases takeS [40, 40] l with
 | some r => dsimp only; cases reckS r <;> rfl
 | none =>
  dsimp only
  cases takeS [40] l with
  | some r =>
   dsimp only
   cases subS sub r with
   | bad e => rfl
   | ok cs r1 => dsimp only [Rr.bind]; cases needS [41] r1 <;> rfl
  | none =>
   dsimp only
   cases takeS [123, 35] l with
   | some r =>
    dsimp only
    cases nameR r with
    | bad e => rfl
    | ok n r1 => dsimp only [Rr.bind]; cases needS [125] r1 <;> rfl
   | none =>
    dsimp only
    cases takeS [123] l with
    | some r =>
     dsimp only
     unfold bracedS
     cases nameR r with
     | bad e => rfl
     | ok n l1 =>
      dsimp only [Rr.bind]
      cases takeS [125] l1 with
      | some r => rfl
      | none =>
       dsimp only
       cases takeS [58, 45] l1 with
       | some r => exact hw 3 n r
       | none =>
        dsimp only
        cases takeS [35] l1 with
        | some r => exact hw 5 n r
        | none =>
         dsimp only
         cases takeS [37] l1 with
         | some r => exact hw 6 n r
         | none => rfl
    | none => dsimp only; cases nameR l <;> rfl
def litW (p : Pt) : Nat := if p.k = 1 then p.s.length else 0
def litSum (ps : List Pt) : Nat := (ps.map litW).sum
theorem litSum_append (a b : List Pt) : litSum (a ++ b) = litSum a + litSum b := by simp [litSum]
theorem litSum_one (p : Pt) : litSum [p] = litW p := by simp [litSum]
theorem litSum_mem {ps : List Pt} {p : Pt} (h : p ∈ ps) : litW p ≤ litSum ps := by
 obtain ⟨a, b, rfl⟩ := List.append_of_mem h
 rw [litSum_append, show p :: b = [p] ++ b from rfl, litSum_append, litSum_one]
 omega
theorem with_len (ps : List Pt) (x : Pt) : (withP ps x).length ≤ ps.length + 1 := by
 rcases List.eq_nil_or_concat ps with rfl | ⟨P, q, rfl⟩
 ·simp [withP]
 ·rw [List.concat_eq_append, with_snoc]
  split <;> simp
theorem with_sum (ps : List Pt) (x : Pt) : litSum (withP ps x) = litSum ps + litW x := by
 rcases List.eq_nil_or_concat ps with rfl | ⟨P, q, rfl⟩
 ·rw [with_nil, litSum_one]
  show _ = 0 + _
  omega
 ·rw [List.concat_eq_append, with_snoc]
  split
  ·rename_i h
   rw [litSum_append, litSum_append, litSum_one, litSum_one]
   unfold litW
   rw [if_pos h.1, if_pos h.2.1, if_pos h.1, List.length_append]
   omega
  ·rw [litSum_append, litSum_one]
theorem with_mem {ps : List Pt} {x p : Pt} (h : p ∈ withP ps x) : p ∈ ps ∨ p = x ∨ p.k = 1 := by
 rcases List.eq_nil_or_concat ps with rfl | ⟨P, q, rfl⟩
 ·exact .inr (.inl (by simpa [withP] using h))
 ·rw [List.concat_eq_append, with_snoc] at h
  rw [List.concat_eq_append]
  split at h
  ·rename_i hm
   rcases List.mem_append.1 h with h | h
   ·exact .inl (by simp [h])
   ·obtain rfl := List.mem_singleton.1 h
    exact .inr (.inr hm.1)
  ·rcases List.mem_append.1 h with h | h
   ·exact .inl h
   ·exact .inr (.inl (List.mem_singleton.1 h))
structure FitL (c : Nat) (ps : List Pt) : Prop where
 len : ps.length ≤ c
 all : ∀ p ∈ ps, p.k ≠ 1 → p.s.length ≤ 1048576
 sum : litSum ps ≤ c
theorem FitL.nil (c : Nat) : FitL c [] := ⟨Nat.zero_le _, fun p h => (by cases h), Nat.zero_le _⟩
theorem FitL.up {c c' : Nat} {ps : List Pt} (h : FitL c ps) (hc : c ≤ c') : FitL c' ps := ⟨Nat.le_trans h.len hc, h.all, Nat.le_trans h.sum hc⟩
theorem FitL.with {c : Nat} {ps : List Pt} (h : FitL c ps) (x : Pt) (e : Nat) (he : 1 ≤ e) (hx : litW x ≤ e) (ha : x.k ≠ 1 → x.s.length ≤ 1048576) : FitL (c + e) (withP ps x) := by
 have h1 := h.len
 have h2 := h.sum
 refine ⟨Nat.le_trans (with_len ps x) (by omega), fun p hp hk => ?_, by rw [with_sum]; omega⟩
 rcases with_mem hp with h3 | rfl | h3
 ·exact h.all p h3 hk
 ·exact ha hk
 ·exact absurd h3 hk
theorem FitL.max {c : Nat} {ps : List Pt} (h : FitL c ps) (hc : c ≤ 16777216) : FitP 16777216 ps := fun p hp => by
 by_cases hk : p.k = 1
 ·have h1 := litSum_mem hp
  have h2 := h.sum
  unfold litW at h1
  rw [if_pos hk] at h1
  omega
 ·exact Nat.le_trans (h.all p hp hk) (by omega)
def AnsPs (n0 c : Nat) (R : Rr (List Pt)) (w : World) (e : Ending) (w' : World) : Prop := ∃ (ps : List Pt) (al : Option Addr) (m cl : Nat), e = .returned (.slice al m cl) ∧ (PtsV (cosV n0)).q (NewF w.heap.size w'.heap.size) w' (.slice al m cl) ps ∧ (∀ y r, R = .ok y r → ps = y) ∧ FitL c ps
theorem Mvr.grow {p : Nat} {w w9 w' : World} (h : Mvr p w w9) (hb : Below w.heap.size w9 w') (hp : p < w.heap.size) : Mvr p w w' := ⟨h.low.trans (hb.mono (Nat.le_of_lt hp)), fun g hg hs => (hb.block g hs).trans (h.high g hg hs)⟩
theorem iter_nil {sub : Deeper} (_hg : GoodD sub) (l : List UInt8) : quotS sub l = if atS [34] l then .ok [litP true []] (l.drop 1) else (iterS (dblStep sub) ⟨[], none⟩ l).bind fun st r => .ok st.shut r := by
 unfold quotS dblS
 cases l with
 | nil => rfl
 | cons c r =>
  by_cases h : c = 34
  ·subst h
   rw [take_eq]
   rfl
  ·rw [take_ne (fun e => h e.symm), if_neg (by simp [atS, h])]
end Go.Proofs.YtelfgobjnibooaaGreatDoor
namespace Go.Proofs.YtelfgobjnibooaaGreatDoor
open Go.RowKit Go.Lib
def LinkQ (sub : Deeper) (D : Rr Sp) (ps : List Pt) : Sx → Prop
 | .at m => ∃ st : Sp, st.Nm ∧ ps = st.shut ∧ iterS (dblStep sub) st m = D
 | .bad e => D = .bad e
structure QI (n0 p : Nat) (S : ByteArray) (d : Nat) (w : World) (n : Nat) (s0 : Sx) (sub : Deeper) (D : Rr Sp) (ps : List Pt) (v : Value) (s : Sx) (wr : World) : Prop where
 ts : TS p S d s wr
 mv : Mvr p w wr
 row : PtsO (cosV n0) w.heap.size NoneF wr v ps
 fit : FitL (n - s.len) ps
 le : s.len ≤ n
 non : ps = [] → s = s0
 lnk : LinkQ sub D ps s
theorem bound_lit (c : UInt8) (w : World) : Calls Tryz.prog 52 #[.int .u8 (c.toNat : Int), .string ⟨#[34, 36, 92, 96]⟩] w fun x w' => x = .returned (.bool (shBound.contains c)) ∧ w = w' := in_any ⟨#[34, 36, 92, 96]⟩ c w (by decide)
theorem with_ne (ps : List Pt) (x : Pt) : withP ps x ≠ [] := by
 rcases List.eq_nil_or_concat ps with rfl | ⟨P, q, rfl⟩
 ·simp [withP]
 ·rw [List.concat_eq_append, with_snoc]
  split <;> simp
structure BoxP (g : Nat) (x : Pt) (al : Option Addr) (m cl : Nat) (w : World) : Prop where
 blk : w.heap[g]? = some (.cells #[.int .i64 (x.k : Int), .bool x.q, .string ⟨x.s.toArray⟩, .string ⟨x.t.toArray⟩, .slice al m cl] 42 (0, 0))
theorem BoxP.cells {g : Nat} {x : Pt} {al : Option Addr} {m cl : Nat} {w : World} (h : BoxP g x al m cl w) :
  (w.cell? ⟨g, 0, none⟩ = some (.int .i64 (x.k : Int)) ∧ w.cell? ⟨g, 1, none⟩ = some (.bool x.q) ∧ w.cell? ⟨g, 2, none⟩ = some (.string ⟨x.s.toArray⟩) ∧ w.cell? ⟨g, 3, none⟩ = some (.string ⟨x.t.toArray⟩) ∧ w.cell? ⟨g, 4, none⟩ = some (.slice al m cl)) ∧ (w.frozen? ⟨g, 0, none⟩ = false ∧ w.frozen? ⟨g, 1, none⟩ = false ∧ w.frozen? ⟨g, 2, none⟩ = false ∧ w.frozen? ⟨g, 3, none⟩ = false ∧ w.frozen? ⟨g, 4, none⟩ = false) :=
 ⟨⟨by rw [cell_of_heap h.blk]; rfl, by rw [cell_of_heap h.blk]; rfl, by rw [cell_of_heap h.blk]; rfl, by rw [cell_of_heap h.blk]; rfl, by rw [cell_of_heap h.blk]; rfl⟩, frozen_of_heap h.blk _, frozen_of_heap h.blk _, frozen_of_heap h.blk _, frozen_of_heap h.blk _, frozen_of_heap h.blk _⟩
theorem with_loop (n0 p : Nat) (S : ByteArray) (d : Nat) (w wr w9 : World) (ps : List Pt) (v : Value) (s : Sx) (A : Nat → Prop) (x : Pt) (al : Option Addr) (m cl c : Nat) (hp : p < w.heap.size) (mv : Mvr p w wr) (row : PtsO (cosV n0) w.heap.size NoneF wr v ps) (m9 : Mvr p wr w9) (h9 : TS p S d s w9) (hx : (cosV n0).q A w9 (.slice al m cl) x.l) (hA : ∀ g, A g → wr.heap.size ≤ g ∧ g < w9.heap.size)
  (hf : FitL c ps) (hc : c ≤ 4194304) (hxs : x.s.length ≤ 1048576) :
  Calls Tryz.prog 170 #[v, .agg #[.int .i64 (x.k : Int), .bool x.q, .string ⟨x.s.toArray⟩, .string ⟨x.t.toArray⟩, .slice al m cl]] w9 fun e w' => ∃ a2 n2 c2, e = .returned (.slice a2 n2 c2) ∧ PtsO (cosV n0) w.heap.size NoneF w' (.slice a2 n2 c2) (withP ps x) ∧ TS p S d s w' ∧ Mvr p w w' := by
 have hws := mv.size
 have h9s := m9.size
 have hR : PtsO (cosV n0) w.heap.size A w9 v ps := by
  have h1 := row.avoid (A' := A) (fun g hg => .inr (hA g hg).1)
  exact h1.moved m9 hp
 refine (with_any n0 w.heap.size A ps x al m cl w9 hx (fun g hg => ⟨by have := (hA g hg).1; omega, (hA g hg).2⟩) (by omega) v hR (by have := hf.len; omega) (hf.max (by omega)) (by omega)).mono ?_
 rintro e w' ⟨v', rfl, h1, h2, _⟩
 obtain ⟨ys, hy⟩ := h1.own
 obtain ⟨a2, c2, rfl, _⟩ := ownS_shape hy
 exact ⟨a2, _, c2, rfl, h1.avoid (fun g hg => hg.elim), h9.same (h2.block p hp), (mv.trans m9).grow h2 hp⟩
theorem QI.next {n0 p : Nat} {S : ByteArray} {d : Nat} {w wr w' : World} {n : Nat} {s0 s t : Sx} {sub : Deeper} {D : Rr Sp} {ps : List Pt} {v v' : Value} (h : QI n0 p S d w n s0 sub D ps v s wr) (_hn : n ≤ 1048576) (x : Pt) (hx1 : litW x ≤ 1) (hx2 : x.s.length ≤ 1048576) (ht : t.len + 1 ≤ s.len) (hl : LinkQ sub D (withP ps x) t)
  (row : PtsO (cosV n0) w.heap.size NoneF w' v' (withP ps x)) (ts : TS p S d t w') (mv : Mvr p w w') : QI n0 p S d w n s0 sub D (withP ps x) v' t w' := by
 have hle := h.le
 exact ⟨ts, mv, row, (h.fit.with x 1 (Nat.le_refl _) hx1 (fun _ => hx2)).up (by omega), by omega, fun e => absurd e (with_ne ps x), hl⟩
section
variable {sub : Deeper} (hg : GoodD sub) {D : Rr Sp} {ps : List Pt}
include hg
theorem link_tick {r : List UInt8} (h : LinkQ sub D ps (.at (96 :: r))) (qs : List Pt) : LinkQ sub D qs (.bad 9) := by
 obtain ⟨st, _, _, rfl⟩ := h
 exact dbl_tick hg st r
theorem link_char {c : UInt8} {r : List UInt8} (hc : shBound.contains c = false) (h : LinkQ sub D ps (.at (c :: r))) : LinkQ sub D (withP ps (litP true [c])) (.at r) := by
 obtain ⟨st, h1, rfl, rfl⟩ := h
 obtain ⟨a1, a2⟩ := nm_lit h1 [c] true
 exact ⟨_, a1, a2, (dbl_char hg st c r hc).symm⟩
theorem link_back {e : UInt8} {r : List UInt8} (hc : shBound.contains e = true) (h : LinkQ sub D ps (.at (92 :: e :: r))) : LinkQ sub D (withP ps (litP true [e])) (.at r) := by
 obtain ⟨st, h1, rfl, rfl⟩ := h
 obtain ⟨a1, a2⟩ := nm_lit h1 [e] true
 refine ⟨_, a1, a2, ?_⟩
 rw [dbl_back hg, if_pos (show atS shBound (e :: r) = true from hc)]
 rfl
theorem back_bad {r : List UInt8} (hc : atS shBound r = false) (h : LinkQ sub D ps (.at (92 :: r))) : D = .bad 9 := by
 obtain ⟨st, h1, rfl, rfl⟩ := h
 rw [dbl_back hg, if_neg (by rw [hc]; exact Bool.false_ne_true)]
theorem link_sign {r : List UInt8} (h : LinkQ sub D ps (.at (36 :: r))) (x : Pt) (hx : ∀ y r', partS sub false r = .ok y r' → x = y) (hk : x.k ≠ 1) : LinkQ sub D (withP ps (quP x)) (partS sub false r).sx := by
 obtain ⟨st, h1, rfl, rfl⟩ := h
 have e := dbl_dollar hg st r
 rw [part_qu] at e
 cases hp : partS sub false r with
 | bad b =>
  rw [hp] at e
  exact e
 | ok y r' =>
  rw [hp] at e
  obtain rfl := hx y r' hp
  obtain ⟨a1, a2, _⟩ := nm_add (st := st) (quP x) hk
  exact ⟨_, a1, a2, e.symm⟩
theorem part_sx_len (r : List UInt8) : (partS sub false r).sx.len ≤ r.length := by
 have := partS_nice hg false r
 cases hp : partS sub false r with
 | bad b => exact Nat.zero_le _
 | ok y r' => rw [hp] at this; exact this
theorem quot_bad {s : Sx} (hD : D = s.run (iterS (dblStep sub) ⟨[], none⟩)) (e : Int) (h : D = .bad e) : s.run (quotS sub) = .bad e := by
 cases s with
 | bad b =>
  have h2 : Rr.bad b = (Rr.bad e : Rr Sp) := hD.symm.trans h
  cases h2
  rfl
 | «at» l =>
  show quotS sub l = _
  have hD : D = iterS (dblStep sub) ⟨[], none⟩ l := hD
  rw [iter_nil hg, ← hD, h]
  by_cases hq : atS [34] l = true
  ·cases l with
   | nil => cases hq
   | cons c r =>
    have : c = 34 := by simpa [atS] using hq
    subst this
    rw [dbl_end hg, h] at hD
    cases hD
  ·rw [if_neg hq]
   rfl
theorem quot_end {s t : Sx} (hD : D = s.run (iterS (dblStep sub) ⟨[], none⟩)) (hl : LinkQ sub D ps t) (hn : ps = [] → t = s) (ht : t.end = true ∨ ∃ r, t = .at (34 :: r)) :
  (s.run (quotS sub)).sx = (t.run (needS [34])).sx ∧ ∀ y r, s.run (quotS sub) = .ok y r → (if ps = [] then [litP true []] else ps) = y := by
 rcases ht with ht | ⟨r, rfl⟩
 ·cases t with
  | bad e =>
   rw [quot_bad hg hD e hl]
   exact ⟨rfl, fun y r h => by cases h⟩
  | «at» l =>
   cases l with
   | cons c r => cases ht
   | nil =>
    obtain ⟨st, h1, rfl, h2⟩ := hl
    rw [dbl_nilF hg] at h2
    rw [quot_bad hg hD 9 h2.symm]
    exact ⟨rfl, fun y r h => by cases h⟩
 ·obtain ⟨st, h1, h3, h2⟩ := hl
  rw [dbl_end hg] at h2
  subst h2
  have e0 : ((Sx.at (34 :: r)).run (needS [34])).sx = .at r := by
   show (needS [34] (34 :: r)).sx = _
   rw [byteX_ok]; rfl
  rw [e0]
  cases s with
  | bad b => cases hD
  | «at» l =>
   have hD : Rr.ok st r = iterS (dblStep sub) ⟨[], none⟩ l := hD
   show (quotS sub l).sx = _ ∧ ∀ y r', quotS sub l = .ok y r' → _
   rw [iter_nil hg, ← hD]
   by_cases hq : atS [34] l = true
   ·cases l with
    | nil => cases hq
    | cons c q =>
     have : c = 34 := by simpa [atS] using hq
     subst this
     rw [dbl_end hg] at hD
     cases hD
     rw [if_pos (show atS [34] (34 :: r) = true from rfl)]
     refine ⟨rfl, fun y r' h => ?_⟩
     cases h
     rw [h3]
     rfl
   ·rw [if_neg hq]
    refine ⟨rfl, fun y r' h => ?_⟩
    cases h
    rw [if_neg, h3]
    intro e
    have := hn e
    cases this
    exact hq rfl
end
structure QM (p : Nat) (S : ByteArray) (d g : Nat) (wr : World) (x : Pt) (al : Option Addr) (m cl : Nat) (t : Sx) (W : World) : Prop where
 ts : TS p S d t W
 mv : Mvr p wr W
 lo : wr.heap.size ≤ g
 box : BoxP g x al m cl W
section
variable {p : Nat} {S : ByteArray} {d g : Nat} {wr : World} {x : Pt} {al : Option Addr} {m cl : Nat} {t t' : Sx} {W W' : World}
theorem QM.moved (h : QM p S d g wr x al m cl t W) (hp : p < wr.heap.size) (ht : TS p S d t' W') (hm : Mvr p W W') : QM p S d g wr x al m cl t' W' :=
 ⟨ht, h.mv.trans hm, h.lo, ⟨(hm.high g (by have := h.lo; omega) (heap_ltR h.box.blk)).trans h.box.blk⟩⟩
theorem QM.below (h : QM p S d g wr x al m cl t W) (hp : p < wr.heap.size) (hb : Below W.heap.size W W') : QM p S d g wr x al m cl t W' := h.moved hp (h.ts.below hb) (Mvr.of hb h.ts.lt)
theorem QM.text (h : QM p S d g wr x al m cl t W) (hp : p < wr.heap.size) (s' : List UInt8) : QM p S d g wr { x with s := s' } al m cl t (W.setCell ⟨g, 2, none⟩ (.string ⟨s'.toArray⟩)) := by
 have h1 := heap_setCell_same W g 2 _ _ (.string ⟨s'.toArray⟩) h.box.blk
 have hl := h.lo
 exact ⟨h.ts.same (Below.heap_setCell _ _ _ _ (by show p ≠ g; omega)), h.mv.own hl hp 2 _, hl, ⟨by simpa using h1⟩⟩
theorem QM.qu (h : QM p S d g wr x al m cl t W) (hp : p < wr.heap.size) : QM p S d g wr (quP x) al m cl t (W.setCell ⟨g, 1, none⟩ (.bool true)) := by
 have h1 := heap_setCell_same W g 1 _ _ (.bool true) h.box.blk
 have hl := h.lo
 exact ⟨h.ts.same (Below.heap_setCell _ _ _ _ (by show p ≠ g; omega)), h.mv.own hl hp 1 _, hl, ⟨by simpa [quP] using h1⟩⟩
theorem QM.all (h : QM p S d g wr x al m cl t W) (hp : p < wr.heap.size) (y : Pt) (hq : y.q = false) (al' : Option Addr) (m' cl' : Nat) : QM p S d g wr y al' m' cl' t (fiveW W g (.int .i64 (y.k : Int)) (.bool false) (.string ⟨y.s.toArray⟩) (.string ⟨y.t.toArray⟩) (.slice al' m' cl')) := by
 obtain ⟨h1, h2, h3⟩ := five_facts p S d t wr W g (.int .i64 (y.k : Int)) (.bool false) (.string ⟨y.s.toArray⟩) (.string ⟨y.t.toArray⟩) (.slice al' m' cl') _ _ _ _ _ _ h.box.blk h.ts h.mv h.lo hp
 exact ⟨h2, h3, h.lo, ⟨by rw [hq]; exact h1⟩⟩
end
theorem QM.start {p : Nat} {S : ByteArray} {d : Nat} {c : UInt8} {r : List UInt8} {wr : World} (h : TS p S d (.at (c :: r)) wr) (hS : S.size ≤ 1048576) : ∃ a : Nat, IntKind.i64.wrap ((a : Int) + 1) = (a : Int) + 1 ∧ ∀ w2, Below wr.heap.size wr w2 →
  Below wr.heap.size wr (w2.alloc (.cells #[.int .i64 1, .bool true, .string ⟨#[]⟩, .string ⟨#[]⟩, .slice none 0 0] 42)) ∧
  ∀ w4, Below (w2.alloc (.cells #[.int .i64 1, .bool true, .string ⟨#[]⟩, .string ⟨#[]⟩, .slice none 0 0] 42)).heap.size (w2.alloc (.cells #[.int .i64 1, .bool true, .string ⟨#[]⟩, .string ⟨#[]⟩, .slice none 0 0] 42)) w4 →
   w4.cell? ⟨p, 1, none⟩ = some (.int .i64 (a : Int)) ∧ w4.frozen? ⟨p, 1, none⟩ = false ∧ QM p S d w2.heap.size wr (litP true []) none 0 0 (.at r) (w4.setCell ⟨p, 1, none⟩ (.int .i64 ((a : Int) + 1))) := by
 have hp := h.lt
 obtain ⟨a, hw, hst⟩ := h.step hS
 refine ⟨a, hw, fun w2 hb => ?_⟩
 have hb2 : Below wr.heap.size wr (w2.alloc (.cells #[.int .i64 1, .bool true, .string ⟨#[]⟩, .string ⟨#[]⟩, .slice none 0 0] 42)) := hb.alloc hb.size _
 refine ⟨hb2, fun w4 hb4 => ?_⟩
 have hb5 := hb2.trans (hb4.mono hb2.size)
 obtain ⟨q1, q2, q3, q4⟩ := hst w4 hb5
 have hs := hb.size
 refine ⟨q1, q2, q3, q4, hs, ⟨?_⟩⟩
 rw [Below.heap_setCell _ _ _ _ (by show w2.heap.size ≠ p; omega), hb4.block _ (by simp)]
 exact heap_alloc_new w2 _
theorem QI.below {n0 p : Nat} {S : ByteArray} {d : Nat} {w wr w1 : World} {n : Nat} {s0 s : Sx} {sub : Deeper} {D : Rr Sp} {ps : List Pt} {v : Value} (h : QI n0 p S d w n s0 sub D ps v s wr) (hp : p < w.heap.size) (hb : Below wr.heap.size wr w1) : QI n0 p S d w n s0 sub D ps v s w1 :=
 ⟨h.ts.below hb, h.mv.trans (Mvr.of hb h.ts.lt), h.row.moved (Mvr.of hb h.ts.lt) hp, h.fit, h.le, h.non, h.lnk⟩
theorem QI.with {n0 p : Nat} {S : ByteArray} {d : Nat} {w wr W9 : World} {n : Nat} {s0 s t : Sx} {sub : Deeper} {D : Rr Sp} {ps : List Pt} {v : Value} (h : QI n0 p S d w n s0 sub D ps v s wr) (hp : p < w.heap.size) (hn : n ≤ 1048576) {g : Nat} {x : Pt} {al : Option Addr} {m cl : Nat} (q : QM p S d g wr x al m cl t W9) (A : Nat → Prop) (hx : (cosV n0).q A W9 (.slice al m cl) x.l) (hA : ∀ g, A g → wr.heap.size ≤ g ∧ g < W9.heap.size)
  (hx1 : litW x ≤ 1) (hx2 : x.s.length ≤ 1048576) (ht : t.len + 1 ≤ s.len) (hl : LinkQ sub D (withP ps x) t) :
  Calls Tryz.prog 170 #[v, .agg #[.int .i64 (x.k : Int), .bool x.q, .string ⟨x.s.toArray⟩, .string ⟨x.t.toArray⟩, .slice al m cl]] W9 fun e w' => ∃ a2 n2 c2, e = .returned (.slice a2 n2 c2) ∧ QI n0 p S d w n s0 sub D (withP ps x) (.slice a2 n2 c2) t w' := by
 refine (with_loop n0 p S d w wr W9 ps v t A x al m cl (n - s.len) hp h.mv h.row q.mv q.ts hx hA h.fit (by omega) hx2).mono ?_
 rintro e w' ⟨a2, n2, c2, rfl, r1, r2, r3⟩
 exact ⟨a2, n2, c2, rfl, h.next hn x hx1 hx2 ht hl r1 r2 r3⟩
theorem QI.withL {n0 p : Nat} {S : ByteArray} {d : Nat} {w wr W9 : World} {n : Nat} {s0 s t : Sx} {sub : Deeper} {D : Rr Sp} {ps : List Pt} {v : Value} (h : QI n0 p S d w n s0 sub D ps v s wr) (hp : p < w.heap.size) (hn : n ≤ 1048576) {g : Nat} {x : Pt} (q : QM p S d g wr x none 0 0 t W9) {b : Bool} {a : List UInt8} (hx : litP b a = x) (ha : a.length ≤ 1) (ht : t.len + 1 ≤ s.len) (hl : LinkQ sub D (withP ps x) t) :
  Calls Tryz.prog 170 #[v, .agg #[.int .i64 (x.k : Int), .bool x.q, .string ⟨x.s.toArray⟩, .string ⟨x.t.toArray⟩, .slice none 0 0]] W9 fun e w' => ∃ a2 n2 c2, e = .returned (.slice a2 n2 c2) ∧ QI n0 p S d w n s0 sub D (withP ps x) (.slice a2 n2 c2) t w' := by
 subst hx
 exact h.with hp hn q NoneF (cos_nil n0 _ _) (fun g hg => hg.elim) (by show (if (1 : Nat) = 1 then a.length else 0) ≤ 1; rw [if_pos rfl]; exact ha) (Nat.le_trans ha (by omega)) ht hl
theorem row_one {X : Type} {E : ElemP X} {e : TypeId} {F : Nat → Prop} {w : World} {x : X} {cs : List Value} (hx : E.q F (w.alloc (.cells cs.toArray e)) x cs) (hF : F w.heap.size) : RowM E e F (w.alloc (.cells cs.toArray e)) (.slice (some ⟨w.heap.size, 0, none⟩) 1 1) [x] := by
 refine ⟨[cs], rfl, fun i y ds hy hd => ?_, ?_, fun g hg => ?_⟩
 ·cases i with
  | zero => cases hy; cases hd; exact hx
  | succ i => cases hy
 ·have hl := E.len _ _ _ _ hx
  refine ⟨by simp [hl], .inr ⟨w.heap.size, 1, _, rfl, Nat.zero_le _, heap_alloc_new w _, Nat.le_refl _, by unfold maxLen; omega, ?_, ?_⟩⟩
  ·simp [hl]
  ·simp [← hl]
 ·cases hg
  exact hF
end Go.Proofs.YtelfgobjnibooaaGreatDoor
