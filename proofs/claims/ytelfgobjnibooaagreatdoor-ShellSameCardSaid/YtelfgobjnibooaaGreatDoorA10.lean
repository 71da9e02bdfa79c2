/- Packed texts: ShPart3, ShPart4. What each of them proves stands above its theorems; the conditions stand in these. -/
import Derived.Test.YtelfgobjnibooaaGreatDoorA9
namespace Go.Proofs.YtelfgobjnibooaaGreatDoor
open Go.RowKit Go.Lib
set_option maxHeartbeats 4000000 in
set_option maxRecDepth 20000 in
theorem part_brace (L : ValP (List Co)) (hL : GoodL L) (p : Nat) (q : Bool) (l l1 : List UInt8) (sg : Value) (d : Nat) (w : World) (h : Rs p l sg d w) (hE : EnvS p sg w) (hl : l.length ≤ 1048576) (h1 : takeS [40, 40] l = none) (h2 : takeS [40] l = none) (h3 : takeS [123, 35] l = none) (h4 : takeS [123] l = some l1) :
  Calls Tryz.prog 167 #[.pointer (some ⟨p, 0, none⟩), .bool q] w (AnsE (partE L) p sg d w (bracedS q l1)) := by
 obtain ⟨z, hb, b1, b2, b3⟩ := PW_facts p q w
 have hp := h.lt
 have hW := h.below hb
 have hl1 : l1.length ≤ 1048576 := by have := takeS_len h4; omega
 have k1 := fun w1 (h : Rs p l sg d w1) => (show Calls Tryz.prog 103 #[.pointer (some ⟨p, 0, none⟩), .string ⟨#[40, 40]⟩] w1 fun e w' => e = .returned (.bool false) ∧ w' = w1 from takeS_no p [40, 40] l sg d w1 h h1)
 have k2 := fun w1 (h : Rs p l sg d w1) => (show Calls Tryz.prog 103 #[.pointer (some ⟨p, 0, none⟩), .string ⟨#[40]⟩] w1 fun e w' => e = .returned (.bool false) ∧ w' = w1 from takeS_no p [40] l sg d w1 h h2)
 have k3 := fun w1 (h : Rs p l sg d w1) => (show Calls Tryz.prog 103 #[.pointer (some ⟨p, 0, none⟩), .string ⟨#[123, 35]⟩] w1 fun e w' => e = .returned (.bool false) ∧ w' = w1 from takeS_no p [123, 35] l sg d w1 h h3)
 have k4 := fun w1 (h : Rs p l sg d w1) => (show Calls Tryz.prog 103 #[.pointer (some ⟨p, 0, none⟩), .string ⟨#[123]⟩] w1 fun e w' => e = .returned (.bool true) ∧ Rs p l1 sg d w' ∧ Mvd p w1 w' from takeS_yes p [123] l l1 sg d w1 h hl h4)
 have KB := Lib.hid (fun w1 (h1 : Rs p l1 sg d w1) (m1 : Mvd p (PW p q w) w1) => braced_any p (w.heap.size + 1 + 1) q l1 sg d w1 h1 (hE.below (((hb.mono (Nat.le_of_lt hp))).trans m1.low)) (b3.moved m1 (by omega)) (by omega) hl1)
 have C0 := Lib.hid (fun w1 (m : Mvd p (PW p q w) w1) => (PW_at (q := q) (w1 := w1) hp (Mv2.of m)).1)
 have OUT := Lib.hid (fun w1 (m : Mv2 p (w.heap.size + 1 + 1) (PW p q w) w1) => (PW_at (q := q) (w1 := w1) hp m).2.2.1)
 have c0 := C0.out _ (Mvd.refl _ _)
 have HW := Lib.hid hW
 clear h hE hW b1 b2 b3 hb z h1 h2 h3 h4
 cases hR : bracedS q l1 with
 | bad x =>
  rw [hR] at KB
  have KB2 : Hid (∀ w1, Rs p l1 sg d w1 → Mvd p (PW p q w) w1 → Calls Tryz.prog 178 #[.pointer (some ⟨p, 0, none⟩), .pointer (some ⟨w.heap.size + 1 + 1, 0, none⟩)] w1 fun e w' => e = errS x ∧ Mv2 p (w.heap.size + 1 + 1) w1 w') := KB.out
  show Calls _ _ _ _ fun e w' => e = errS x ∧ Mvd p w w'
  clear KB hR
  unfold errS at KB2 ⊢
  unfold PW at C0 HW c0 OUT KB2
  go_enter Tryz.func167, Tryz.ntmps167
  go_wp2_with (first
   | (go_at_call 103; first | ((with_reducible refine (k1 _ HW.out).mono ?_); rintro e w1 ⟨rfl, rfl⟩) | ((with_reducible refine (k2 _ HW.out).mono ?_); rintro e w1 ⟨rfl, rfl⟩) | ((with_reducible refine (k3 _ HW.out).mono ?_); rintro e w1 ⟨rfl, rfl⟩) | ((with_reducible refine (k4 _ HW.out).mono ?_); rintro e w1 ⟨rfl, h1, m1⟩; have d0 := C0.out _ m1; have kb := KB2.out w1 h1 m1; have M1 := Lib.hid m1; clear h1 m1 c0))
   | (go_at_call 178; (with_reducible refine kb.mono ?_); rintro e w2 ⟨rfl, m2⟩))
  exact ⟨rfl, rfl, OUT.out _ ((Mv2.of M1.out).trans m2)⟩
 | ok x r =>
  rw [hR] at KB
  have KB2 : Hid (∀ w1, Rs p l1 sg d w1 → Mvd p (PW p q w) w1 → Calls Tryz.prog 178 #[.pointer (some ⟨p, 0, none⟩), .pointer (some ⟨w.heap.size + 1 + 1, 0, none⟩)] w1 fun e w' => e = .returned (.tuple #[]) ∧ PtB (w.heap.size + 1 + 1) x w' ∧ x.l = [] ∧ Rs p r sg d w' ∧ Mv2 p (w.heap.size + 1 + 1) w1 w') := KB.out
  have DONE := Lib.hid (fun (w5 : World) (m5 : Mv2 p (w.heap.size + 1 + 1) (PW p q w) w5) (hP : PtB (w.heap.size + 1 + 1) x w5) => pw_done hp m5 hP)
  clear KB hR
  unfold PW at C0 HW c0 KB2 DONE
  go_enter Tryz.func167, Tryz.ntmps167
  go_wp2_with (first
   | (go_at_call 103; first | ((with_reducible refine (k1 _ HW.out).mono ?_); rintro e w1 ⟨rfl, rfl⟩) | ((with_reducible refine (k2 _ HW.out).mono ?_); rintro e w1 ⟨rfl, rfl⟩) | ((with_reducible refine (k3 _ HW.out).mono ?_); rintro e w1 ⟨rfl, rfl⟩) | ((with_reducible refine (k4 _ HW.out).mono ?_); rintro e w1 ⟨rfl, h1, m1⟩; have d0 := C0.out _ m1; have kb := KB2.out w1 h1 m1; have M1 := Lib.hid m1; clear h1 m1 c0))
   | (go_at_call 178; (with_reducible refine kb.mono ?_); rintro e w2 ⟨rfl, P2, X2, h2, m2⟩; obtain ⟨FR, ⟨u0, u1, u2, u3, u4⟩, D1, D2, D3⟩ := DONE.out _ ((Mv2.of M1.out).trans m2) P2; obtain ⟨r0, r1', r2, r3, r4, x0, x1, x2, x3, x4, y0, y1, y2, y3, y4, y5⟩ := FR; have HY := Lib.hid y5; have HF := Lib.hid (And.intro h2 (And.intro D1 (And.intro D2 X2))); clear y5 D1 D2 h2 m2 P2 X2))
  have h5 := set5_heap (v0 := .int .i64 (x.k : Int)) (v1 := .bool x.q) (v2 := .string ⟨x.s.toArray⟩) (v3 := .string ⟨x.t.toArray⟩) (v4 := .slice none 0 0) HY.out
  have c5 := cells_five h5
  refine bodyPost_ret (v := .agg #[.int .i64 (x.k : Int), .bool x.q, .string ⟨x.s.toArray⟩, .string ⟨x.t.toArray⟩, .slice none 0 0]) (by simp [results, Tryz.results167, go_sem, c5]) rfl ?_
  refine ⟨⟨_, rfl, _, rfl, ?_⟩, HF.out.1.same (set5_other (by omega)), HF.out.2.1.own5 (by omega) hp _ _ _ _ _⟩
  rw [HF.out.2.2.2]
  exact hL.nil _ _
set_option maxHeartbeats 4000000 in
set_option maxRecDepth 20000 in
theorem part1_ok (L : ValP (List Co)) (hL : GoodL L) (p a b : Nat) (q : Bool) (_l r : List UInt8) (cs : List Co) (sg : Value) (d : Nat) (w0 : World) (hR : ∃ r1, takeS [41] r1 = some r ∧ Calls Tryz.prog 29 #[.pointer (some ⟨p, 0, none⟩)] w0 (AnsV L p sg d w0 (.ok cs r1)) ∧ r1.length ≤ 1048576) (hpa : p < a) (hpb : p < b) (ha : w0.cell? ⟨a, 0, none⟩ = some (.pointer (some ⟨p, 0, none⟩))) (haz : a < w0.heap.size) (hab : a ≠ b) (hb : PtB b ⟨7, q, [], [], []⟩ w0) :
  Calls Tryz.prog 177 #[.pointer (some ⟨a, 0, none⟩), .pointer (some ⟨b, 0, none⟩)] w0 fun e w' => e = .returned (.tuple #[]) ∧ Rs p r sg d w' ∧ ∃ v, PtBV b ⟨7, q, [], [], cs⟩ v w' ∧ L.q (NewF w0.heap.size w'.heap.size) w' v cs ∧ Mv2 p b w0 w' := by
 obtain ⟨r1, ht, kl, hr1⟩ := hR
 have kl2 : Calls Tryz.prog 29 #[.pointer (some ⟨p, 0, none⟩)] w0 fun e w' => (∃ v, e = .returned v ∧ L.q (NewF w0.heap.size w'.heap.size) w' v cs) ∧ Rs p r1 sg d w' ∧ Mvd p w0 w' := kl
 have kt := fun w1 (h1 : Rs p r1 sg d w1) => (show Calls Tryz.prog 103 #[.pointer (some ⟨p, 0, none⟩), .string ⟨#[41]⟩] w1 fun e w' => e = .returned (.bool true) ∧ Rs p r sg d w' ∧ Mvd p w1 w' from takeS_yes p [41] r1 r sg d w1 h1 hr1 ht)
 have hbz := heap_ltS hb
 have THEN : Hid (∀ w1 v, L.q (NewF w0.heap.size w1.heap.size) w1 v cs → Rs p r1 sg d w1 → Mvd p w0 w1 → ∃ ao N cap, v = .slice ao N cap ∧ w1.cell? ⟨b, 4, none⟩ = some (.slice none 0 0) ∧ w1.frozen? ⟨b, 4, none⟩ = false ∧ (w1.setCell ⟨b, 4, none⟩ v).cell? ⟨a, 0, none⟩ = some (.pointer (some ⟨p, 0, none⟩)) ∧ Rs p r1 sg d (w1.setCell ⟨b, 4, none⟩ v) ∧ PtBV b ⟨7, q, [], [], cs⟩ v (w1.setCell ⟨b, 4, none⟩ v) ∧ L.q (NewF w0.heap.size w1.heap.size) (w1.setCell ⟨b, 4, none⟩ v) v cs ∧ Mv2 p b w0 (w1.setCell ⟨b, 4, none⟩ v) ∧ (w1.setCell ⟨b, 4, none⟩ v).heap.size = w1.heap.size) := by
  show ∀ _, _
  intro w1 v hv h1 m1
  obtain ⟨ao, cap, e1, _⟩ := hL.shape _ _ _ _ hv
  have hb1 := hb.moved m1 hpb
  have hb2 : w1.heap[b]? = some (.cells #[.int .i64 7, .bool q, .string ⟨#[]⟩, .string ⟨#[]⟩, .slice none 0 0] 42 (0, 0)) := hb1
  have h5 := heap_setCell_same w1 b 4 _ _ v hb2
  have ha1 : w1.heap[a]? = w0.heap[a]? := m1.high a (by omega) haz
  refine ⟨ao, _, cap, e1, by rw [cell_of_heap hb2]; rfl, frozen_of_heap hb2 _, ?_, h1.other hpb, ?_, ?_, (Mv2.of m1).trans (Mv2.set hpb _ _ _), by simp⟩
  ·have e2 : (w1.setCell ⟨b, 4, none⟩ v).heap[a]? = w0.heap[a]? := (Below.heap_setCell _ _ _ _ (by show a ≠ b; exact hab)).trans ha1
   unfold World.cell? at ha ⊢
   rw [e2]; exact ha
  ·unfold PtBV
   simpa using h5
  ·exact L.same _ _ _ _ _ (fun g hg => Below.heap_setCell _ _ _ _ (by show g ≠ b; have := hg.1; omega)) hv
 clear hb kl ht
 go_enter Tryz.func177, Tryz.ntmps177
 go_wp2_with (first
  | (go_at_call 29; (with_reducible refine kl2.mono ?_); rintro e w1 ⟨⟨v, rfl, hv⟩, h1, m1⟩; obtain ⟨ao, N, cap, rfl, c4, f4, ca, R2, P2, V2, M2, Z2⟩ := THEN.out w1 v hv h1 m1; have HR := Lib.hid R2; have H2 := Lib.hid (And.intro P2 (And.intro V2 (And.intro M2 Z2))); clear hv h1 m1 R2 P2 V2 M2 Z2)
  | (go_at_call 103; (with_reducible refine (kt _ HR.out).mono ?_); rintro e w3 ⟨rfl, h3, m3⟩)
  | (go_at_call 30; refine (need_yes _).mono ?_; rintro e w4 ⟨rfl, rfl⟩))
 go_end0
 obtain ⟨P2, V2, M2, Z2⟩ := H2.out
 refine ⟨rfl, h3, _, (m3.high b (by omega) (by rw [Z2]; exact Nat.lt_of_lt_of_le hbz (by have := M2.low.size; omega))).trans P2, ?_, M2.trans (Mv2.of m3)⟩
 refine L.mono _ _ _ _ _ (fun g hg => ⟨hg.1, ?_⟩) (L.same _ _ _ _ _ (fun g hg => m3.high g ?_ ?_) V2)
 ·have := hg.2; have := m3.size; omega
 ·have := hg.1; omega
 ·have := hg.2; omega
set_option maxHeartbeats 4000000 in
set_option maxRecDepth 20000 in
theorem part1_bad (L : ValP (List Co)) (hL : GoodL L) (p a b : Nat) (q : Bool) (_l : List UInt8) (x : Int) (sg : Value) (d : Nat) (w0 : World) (hR : Calls Tryz.prog 29 #[.pointer (some ⟨p, 0, none⟩)] w0 (AnsV L p sg d w0 (.bad x)) ∨ (x = 9 ∧ ∃ cs r1, takeS [41] r1 = none ∧ Calls Tryz.prog 29 #[.pointer (some ⟨p, 0, none⟩)] w0 (AnsV L p sg d w0 (.ok cs r1)))) (hpa : p < a) (hpb : p < b) (ha : w0.cell? ⟨a, 0, none⟩ = some (.pointer (some ⟨p, 0, none⟩))) (haz : a < w0.heap.size) (hab : a ≠ b) (hb : PtB b ⟨7, q, [], [], []⟩ w0) :
  Calls Tryz.prog 177 #[.pointer (some ⟨a, 0, none⟩), .pointer (some ⟨b, 0, none⟩)] w0 fun e w' => e = errS x ∧ Mv2 p b w0 w' := by
 rcases hR with kl | ⟨rfl, cs, r1, ht, kl⟩
 ·have kl2 : Calls Tryz.prog 29 #[.pointer (some ⟨p, 0, none⟩)] w0 fun e w' => e = errS x ∧ Mvd p w0 w' := kl
  unfold errS at kl2 ⊢
  clear hb kl
  go_enter Tryz.func177, Tryz.ntmps177
  go_wp2_with (go_at_call 29; (with_reducible refine kl2.mono ?_); rintro e w1 ⟨rfl, m1⟩)
  exact ⟨rfl, rfl, Mv2.of m1⟩
 ·have kl2 : Calls Tryz.prog 29 #[.pointer (some ⟨p, 0, none⟩)] w0 fun e w' => (∃ v, e = .returned v ∧ L.q (NewF w0.heap.size w'.heap.size) w' v cs) ∧ Rs p r1 sg d w' ∧ Mvd p w0 w' := kl
  have kt := fun w1 (h1 : Rs p r1 sg d w1) => (show Calls Tryz.prog 103 #[.pointer (some ⟨p, 0, none⟩), .string ⟨#[41]⟩] w1 fun e w' => e = .returned (.bool false) ∧ w' = w1 from takeS_no p [41] r1 sg d w1 h1 ht)
  have kd := need_no
  have THEN : Hid (∀ w1 v, L.q (NewF w0.heap.size w1.heap.size) w1 v cs → Rs p r1 sg d w1 → Mvd p w0 w1 → ∃ ao N cap, v = .slice ao N cap ∧ w1.cell? ⟨b, 4, none⟩ = some (.slice none 0 0) ∧ w1.frozen? ⟨b, 4, none⟩ = false ∧ (w1.setCell ⟨b, 4, none⟩ v).cell? ⟨a, 0, none⟩ = some (.pointer (some ⟨p, 0, none⟩)) ∧ Rs p r1 sg d (w1.setCell ⟨b, 4, none⟩ v) ∧ Mv2 p b w0 (w1.setCell ⟨b, 4, none⟩ v)) := by
   show ∀ _, _
   intro w1 v hv h1 m1
   obtain ⟨ao, cap, e1, _⟩ := hL.shape _ _ _ _ hv
   have hb2 : w1.heap[b]? = some (.cells #[.int .i64 7, .bool q, .string ⟨#[]⟩, .string ⟨#[]⟩, .slice none 0 0] 42 (0, 0)) := hb.moved m1 hpb
   refine ⟨ao, _, cap, e1, by rw [cell_of_heap hb2]; rfl, frozen_of_heap hb2 _, ?_, h1.other hpb, (Mv2.of m1).trans (Mv2.set hpb _ _ _)⟩
   have e2 : (w1.setCell ⟨b, 4, none⟩ v).heap[a]? = w0.heap[a]? := (Below.heap_setCell _ _ _ _ (by show a ≠ b; exact hab)).trans (m1.high a (by omega) haz)
   unfold World.cell? at ha ⊢
   rw [e2]; exact ha
  unfold errS at kd ⊢
  clear hb kl ht
  go_enter Tryz.func177, Tryz.ntmps177
  go_wp2_with (first
   | (go_at_call 29; (with_reducible refine kl2.mono ?_); rintro e w1 ⟨⟨v, rfl, hv⟩, h1, m1⟩; obtain ⟨ao, N, cap, rfl, c4, f4, ca, R2, M2⟩ := THEN.out w1 v hv h1 m1; have HR := Lib.hid R2; have H2 := Lib.hid M2; clear hv h1 m1 R2 M2)
   | (go_at_call 103; (with_reducible refine (kt _ HR.out).mono ?_); rintro e w3 ⟨rfl, rfl⟩)
   | (go_at_call 30; refine (kd _).mono ?_; rintro e w4 ⟨rfl, rfl⟩))
  exact ⟨rfl, rfl, H2.out⟩
end Go.Proofs.YtelfgobjnibooaaGreatDoor
namespace Go.Proofs.YtelfgobjnibooaaGreatDoor
open Go.RowKit Go.Lib
theorem pw_kind {p : Nat} {q : Bool} {w : World} (hp : p < w.heap.size) (l : List UInt8) (sg : Value) (d : Nat) (w1 : World) (h1 : Rs p l sg d w1) (m1 : Mvd p (PW p q w) w1) :
  w1.cell? ⟨w.heap.size + 1 + 1, 0, none⟩ = some (.int .i64 0) ∧ w1.frozen? ⟨w.heap.size + 1 + 1, 0, none⟩ = false ∧ (w1.setCell ⟨w.heap.size + 1 + 1, 0, none⟩ (.int .i64 7)).cell? ⟨w.heap.size, 0, none⟩ = some (.pointer (some ⟨p, 0, none⟩)) ∧ Rs p l sg d (w1.setCell ⟨w.heap.size + 1 + 1, 0, none⟩ (.int .i64 7)) ∧ PtB (w.heap.size + 1 + 1) ⟨7, q, [], [], []⟩ (w1.setCell ⟨w.heap.size + 1 + 1, 0, none⟩ (.int .i64 7)) ∧ Mv2 p (w.heap.size + 1 + 1) (PW p q w) (w1.setCell ⟨w.heap.size + 1 + 1, 0, none⟩ (.int .i64 7)) ∧ w.heap.size + 3 ≤ (w1.setCell ⟨w.heap.size + 1 + 1, 0, none⟩ (.int .i64 7)).heap.size := by
 obtain ⟨z, hb, b1, b2, b3⟩ := PW_facts p q w
 have q1 := b3.moved m1 (by omega)
 have m4 : Mv2 p (w.heap.size + 1 + 1) (PW p q w) (w1.setCell ⟨w.heap.size + 1 + 1, 0, none⟩ (.int .i64 7)) := (Mv2.of m1).trans (Mv2.set (by omega) _ _ _)
 obtain ⟨a1, a2, a3, a4⟩ := PW_at hp m4
 exact ⟨q1.cells.1, q1.cells.2.2.2.1, a1, h1.other (by omega), q1.setK 7, m4, a4⟩
theorem enters_part1 : ∀ args w, (callFunc 177 args).run Tryz.prog w = .ok (.enter 177 args) w := enters_of Tryz.func177 (by kernel_rfl) rfl
set_option maxHeartbeats 4000000 in
set_option maxRecDepth 20000 in
theorem part_sub_bad (p : Nat) (q : Bool) (l l1 : List UInt8) (sg : Value) (d : Nat) (x : Int) (w : World) (h : Rs p l sg d w) (hE : EnvS p sg w) (hl : l.length ≤ 1048576) (h1 : takeS [40, 40] l = none) (h2 : takeS [40] l = some l1)
  (kw : ∀ W, Rs p l1 sg d W → EnvS p sg W → W.cell? ⟨w.heap.size, 0, none⟩ = some (.pointer (some ⟨p, 0, none⟩)) → PtB (w.heap.size + 1 + 1) ⟨7, q, [], [], []⟩ W → w.heap.size + 3 ≤ W.heap.size → Calls Tryz.prog 104 #[.pointer (some ⟨p, 0, none⟩), .func (.func 177) #[] #[.pointer (some ⟨w.heap.size, 0, none⟩), .pointer (some ⟨w.heap.size + 1 + 1, 0, none⟩)]] W fun e w' => e = errS x ∧ Mv2 p (w.heap.size + 1 + 1) W w') :
  Calls Tryz.prog 167 #[.pointer (some ⟨p, 0, none⟩), .bool q] w fun e w' => e = errS x ∧ Mvd p w w' := by
 obtain ⟨z, hb, b1, b2, b3⟩ := PW_facts p q w
 have hp := h.lt
 have hW := h.below hb
 have hmf : ∀ (fn : Fn) (first cap : Array Value) (w : World), (Instr.makeFunc fn first cap).run Tryz.prog w = .ok (.func fn first cap) w := fun _ _ _ _ => rfl
 have k1 := fun w1 (h : Rs p l sg d w1) => (show Calls Tryz.prog 103 #[.pointer (some ⟨p, 0, none⟩), .string ⟨#[40, 40]⟩] w1 fun e w' => e = .returned (.bool false) ∧ w' = w1 from takeS_no p [40, 40] l sg d w1 h h1)
 have k2 := fun w1 (h : Rs p l sg d w1) => (show Calls Tryz.prog 103 #[.pointer (some ⟨p, 0, none⟩), .string ⟨#[40]⟩] w1 fun e w' => e = .returned (.bool true) ∧ Rs p l1 sg d w' ∧ Mvd p w1 w' from takeS_yes p [40] l l1 sg d w1 h hl h2)
 have C0 := Lib.hid (fun w1 (m : Mvd p (PW p q w) w1) => (PW_at (q := q) (w1 := w1) hp (Mv2.of m)).1)
 have OUT := Lib.hid (fun w1 (m : Mv2 p (w.heap.size + 1 + 1) (PW p q w) w1) => (PW_at (q := q) (w1 := w1) hp m).2.2.1)
 have KD := Lib.hid (pw_kind (q := q) hp l1 sg d)
 have EN := Lib.hid (fun w1 (m : Mv2 p (w.heap.size + 1 + 1) (PW p q w) w1) => hE.below ((hb.mono (Nat.le_of_lt hp)).trans m.low))
 have KW := Lib.hid kw
 have c0 := C0.out _ (Mvd.refl _ _)
 have HW := Lib.hid hW
 clear h hE hW b1 b2 b3 hb z h1 h2 kw
 unfold errS at KW ⊢
 unfold PW at C0 HW c0 OUT KD EN
 go_enter Tryz.func167, Tryz.ntmps167
 go_wp2_with (first
  | (go_at_call 103; first | ((with_reducible refine (k1 _ HW.out).mono ?_); rintro e w1 ⟨rfl, rfl⟩) | ((with_reducible refine (k2 _ HW.out).mono ?_); rintro e w1 ⟨rfl, h1, m1⟩; obtain ⟨e0, g0, d0, R1, P1, M1, Z1⟩ := KD.out w1 h1 m1; have kw := KW.out _ R1 (EN.out _ M1) d0 P1 Z1; have HM1 := Lib.hid M1; clear h1 m1 c0 R1 P1 M1 Z1))
  | (go_at_call 104; (with_reducible refine kw.mono ?_); rintro e w2 ⟨rfl, m2⟩))
 exact ⟨rfl, rfl, OUT.out _ (HM1.out.trans m2)⟩
set_option maxHeartbeats 4000000 in
set_option maxRecDepth 20000 in
theorem part_sub_ok (L : ValP (List Co)) (hL : GoodL L) (p : Nat) (q : Bool) (l l1 r : List UInt8) (cs : List Co) (sg : Value) (d : Nat) (w : World) (h : Rs p l sg d w) (hE : EnvS p sg w) (hl : l.length ≤ 1048576) (h1 : takeS [40, 40] l = none) (h2 : takeS [40] l = some l1)
  (kw : ∀ W, Rs p l1 sg d W → EnvS p sg W → W.cell? ⟨w.heap.size, 0, none⟩ = some (.pointer (some ⟨p, 0, none⟩)) → PtB (w.heap.size + 1 + 1) ⟨7, q, [], [], []⟩ W → w.heap.size + 3 ≤ W.heap.size → Calls Tryz.prog 104 #[.pointer (some ⟨p, 0, none⟩), .func (.func 177) #[] #[.pointer (some ⟨w.heap.size, 0, none⟩), .pointer (some ⟨w.heap.size + 1 + 1, 0, none⟩)]] W fun e w' => e = .returned (.tuple #[]) ∧ Rs p r sg d w' ∧ ∃ v, PtBV (w.heap.size + 1 + 1) ⟨7, q, [], [], cs⟩ v w' ∧ L.q (NewF W.heap.size w'.heap.size) w' v cs ∧ Mv2 p (w.heap.size + 1 + 1) W w') :
  Calls Tryz.prog 167 #[.pointer (some ⟨p, 0, none⟩), .bool q] w (AnsE (partE L) p sg d w (.ok ⟨7, q, [], [], cs⟩ r)) := by
 obtain ⟨z, hb, b1, b2, b3⟩ := PW_facts p q w
 have hp := h.lt
 have hW := h.below hb
 have hmf : ∀ (fn : Fn) (first cap : Array Value) (w : World), (Instr.makeFunc fn first cap).run Tryz.prog w = .ok (.func fn first cap) w := fun _ _ _ _ => rfl
 have k1 := fun w1 (h : Rs p l sg d w1) => (show Calls Tryz.prog 103 #[.pointer (some ⟨p, 0, none⟩), .string ⟨#[40, 40]⟩] w1 fun e w' => e = .returned (.bool false) ∧ w' = w1 from takeS_no p [40, 40] l sg d w1 h h1)
 have k2 := fun w1 (h : Rs p l sg d w1) => (show Calls Tryz.prog 103 #[.pointer (some ⟨p, 0, none⟩), .string ⟨#[40]⟩] w1 fun e w' => e = .returned (.bool true) ∧ Rs p l1 sg d w' ∧ Mvd p w1 w' from takeS_yes p [40] l l1 sg d w1 h hl h2)
 have C0 := Lib.hid (fun w1 (m : Mvd p (PW p q w) w1) => (PW_at (q := q) (w1 := w1) hp (Mv2.of m)).1)
 have KD := Lib.hid (pw_kind (q := q) hp l1 sg d)
 have EN := Lib.hid (fun w1 (m : Mv2 p (w.heap.size + 1 + 1) (PW p q w) w1) => hE.below ((hb.mono (Nat.le_of_lt hp)).trans m.low))
 have KW := Lib.hid kw
 have DONE : Hid (∀ (W w5 : World) v, Mv2 p (w.heap.size + 1 + 1) (PW p q w) W → w.heap.size + 3 ≤ W.heap.size → Mv2 p (w.heap.size + 1 + 1) W w5 → PtBV (w.heap.size + 1 + 1) ⟨7, q, [], [], cs⟩ v w5 → L.q (NewF W.heap.size w5.heap.size) w5 v cs → ∃ ao N cap, v = .slice ao N cap ∧ Free5 (w.heap.size + 1) w5 ∧ (w5.cell? ⟨w.heap.size + 1 + 1, 0, none⟩ = some (.int .i64 7) ∧ w5.cell? ⟨w.heap.size + 1 + 1, 1, none⟩ = some (.bool q) ∧ w5.cell? ⟨w.heap.size + 1 + 1, 2, none⟩ = some (.string ⟨#[]⟩) ∧ w5.cell? ⟨w.heap.size + 1 + 1, 3, none⟩ = some (.string ⟨#[]⟩) ∧ w5.cell? ⟨w.heap.size + 1 + 1, 4, none⟩ = some v) ∧ Mvd p w w5 ∧ w.heap.size + 3 ≤ w5.heap.size ∧ L.q (NewF (w.heap.size + 1 + 1) w5.heap.size) w5 v cs) := by
  show ∀ _, _
  intro W w5 v m1 z1 m2 hP hv
  obtain ⟨ao, cap, e1, _⟩ := hL.shape _ _ _ _ hv
  obtain ⟨FR, C5, D1, D2, _⟩ := pw_done hp (m1.trans m2) hP
  exact ⟨ao, _, cap, e1, FR, C5, D1, D2, L.mono _ _ _ _ _ (fun g hg => ⟨by have := hg.1; omega, hg.2⟩) hv⟩
 have c0 := C0.out _ (Mvd.refl _ _)
 have HW := Lib.hid hW
 clear h hE hW b1 b2 b3 hb z h1 h2 kw
 unfold PW at C0 HW c0 KD EN DONE
 go_enter Tryz.func167, Tryz.ntmps167
 go_wp2_with (first
  | (go_at_call 103; first | ((with_reducible refine (k1 _ HW.out).mono ?_); rintro e w1 ⟨rfl, rfl⟩) | ((with_reducible refine (k2 _ HW.out).mono ?_); rintro e w1 ⟨rfl, h1, m1⟩; obtain ⟨e0, g0, d0, R1, P1, M1, Z1⟩ := KD.out w1 h1 m1; have kw := KW.out _ R1 (EN.out _ M1) d0 P1 Z1; have HM1 := Lib.hid (And.intro M1 Z1); clear h1 m1 c0 R1 P1 M1 Z1))
  | (go_at_call 104; (with_reducible refine kw.mono ?_); rintro e w2 ⟨rfl, h2, v, P2, V2, m2⟩; obtain ⟨ao, N, cap, rfl, FR, ⟨u0, u1, u2, u3, u4⟩, D1, D2, D3⟩ := DONE.out _ _ v HM1.out.1 HM1.out.2 m2 P2 V2; obtain ⟨r0, r1', r2, r3, r4, x0, x1, x2, x3, x4, y0, y1, y2, y3, y4, y5⟩ := FR; have HY := Lib.hid y5; have HF := Lib.hid (And.intro h2 (And.intro D1 (And.intro D2 D3))); clear y5 D1 D2 D3 h2 m2 P2 V2))
 have h5 := set5_heap (v0 := .int .i64 7) (v1 := .bool q) (v2 := .string ⟨#[]⟩) (v3 := .string ⟨#[]⟩) (v4 := .slice ao N cap) HY.out
 have c5 := cells_five h5
 refine bodyPost_ret (v := .agg #[.int .i64 7, .bool q, .string ⟨#[]⟩, .string ⟨#[]⟩, .slice ao N cap]) (by simp [results, Tryz.results167, go_sem, c5]) rfl ?_
 obtain ⟨a1, a2, a3⟩ := part_ans (x := ⟨7, q, [], [], cs⟩) hp (by omega : w.heap.size ≤ w.heap.size + 1) (by have := HF.out.2.2.1; omega) HF.out.1 HF.out.2.1 HF.out.2.2.2 HY.out (.int .i64 7) (.bool q) (.string ⟨#[]⟩) (.string ⟨#[]⟩) (.slice ao N cap)
 exact ⟨⟨_, rfl, _, rfl, a1⟩, a2, a3⟩
theorem part_any (L : ValP (List Co)) (sub : Deeper) (p : Nat) (sg : Value) (d : Nat) (hv : Lv L sub p sg d) (q : Bool) (l : List UInt8) (w : World) (h : Rs p l sg d w) (hE : EnvS p sg w) (hl : l.length ≤ 1048576) :
  Calls Tryz.prog 167 #[.pointer (some ⟨p, 0, none⟩), .bool q] w (AnsE (partE L) p sg d w (partS sub q l)) := by
 have hp := h.lt
 unfold partS
 cases h1 : takeS [40, 40] l with
 | some l1 => exact part_reck L hv.good p q l l1 sg d w h hl h1
 | none =>
  dsimp only
  cases h2 : takeS [40] l with
  | some l1 =>
   dsimp only
   have hl1 : l1.length ≤ 1048576 := by have := takeS_len h2; omega
   cases hs : sub with
   | none =>
    have hd := hv.top hs
    subst hd
    exact part_sub_bad p q l l1 sg 30 7 w h hE hl h1 h2 fun W hW _ _ _ _ => (within_deep p _ l1 sg W hW).mono fun e w' hh => ⟨hh.1, Mv2.of hh.2⟩
   | some g =>
    have hd := hv.lt g hs
    have kl := hv.lst g hs l1
    have hn := (hv.nice g hs).1 l1
    show Calls _ _ _ _ (AnsE (partE L) p sg d w ((g.lst l1).bind fun cs r1 => (needS [41] r1).bind fun _ r2 => .ok ⟨7, q, [], [], cs⟩ r2))
    cases hr : g.lst l1 with
    | bad x =>
     rw [hr] at kl
     refine part_sub_bad p q l l1 sg d x w h hE hl h1 h2 fun W hW hEW hc hP hz => ?_
     refine within_bad 177 _ enters_part1 p l1 sg d x W hW hd (fun w' => Mv2 p (w.heap.size + 1 + 1) W w') fun w0 h0 m0 hz0 => ?_
     refine (part1_bad L hv.good p w.heap.size (w.heap.size + 1 + 1) q l1 x sg (d + 1) w0 (.inl (kl w0 h0 (hEW.below m0.low) hl1)) hp (by omega) ?_ (by omega) (by omega) (hP.moved m0 (by omega))).mono fun e w' hh => ⟨hh.1, (Mv2.of m0).trans hh.2⟩
     have : w0.heap[w.heap.size]? = W.heap[w.heap.size]? := m0.high _ (by omega) (by omega)
     unfold World.cell? at hc ⊢
     rw [this]; exact hc
    | ok cs r1 =>
     rw [hr] at kl hn
     have hr1 : r1.length ≤ 1048576 := Nat.le_trans hn hl1
     have en : needS [41] r1 = match takeS [41] r1 with
      | some r => .ok () r
      | none => .bad 9 := rfl
     show Calls _ _ _ _ (AnsE (partE L) p sg d w ((needS [41] r1).bind fun _ r2 => .ok ⟨7, q, [], [], cs⟩ r2))
     rw [en]
     have hcell : ∀ W w0 : World, W.cell? ⟨w.heap.size, 0, none⟩ = some (.pointer (some ⟨p, 0, none⟩)) → Mvd p W w0 → w.heap.size + 3 ≤ W.heap.size → w0.cell? ⟨w.heap.size, 0, none⟩ = some (.pointer (some ⟨p, 0, none⟩)) := fun W w0 hc m0 hz => by
      have : w0.heap[w.heap.size]? = W.heap[w.heap.size]? := m0.high _ (by omega) (by omega)
      unfold World.cell? at hc ⊢
      rw [this]; exact hc
     cases ht : takeS [41] r1 with
     | none =>
      refine part_sub_bad p q l l1 sg d 9 w h hE hl h1 h2 fun W hW hEW hc hP hz => ?_
      refine within_bad 177 _ enters_part1 p l1 sg d 9 W hW hd (fun w' => Mv2 p (w.heap.size + 1 + 1) W w') fun w0 h0 m0 hz0 => ?_
      exact (part1_bad L hv.good p w.heap.size (w.heap.size + 1 + 1) q l1 9 sg (d + 1) w0 (.inr ⟨rfl, cs, r1, ht, kl w0 h0 (hEW.below m0.low) hl1⟩) hp (by omega) (hcell W w0 hc m0 hz) (by omega) (by omega) (hP.moved m0 (by omega))).mono fun e w' hh => ⟨hh.1, (Mv2.of m0).trans hh.2⟩
     | some r =>
      refine part_sub_ok L hv.good p q l l1 r cs sg d w h hE hl h1 h2 fun W hW hEW hc hP hz => ?_
      refine (within_ok 177 _ enters_part1 p l1 r sg d W hW hd (fun w' => ∃ v, PtBV (w.heap.size + 1 + 1) ⟨7, q, [], [], cs⟩ v w' ∧ L.q (NewF W.heap.size w'.heap.size) w' v cs ∧ Mv2 p (w.heap.size + 1 + 1) W w') fun w0 h0 m0 hz0 => ?_).mono ?_
      ·refine (part1_ok L hv.good p w.heap.size (w.heap.size + 1 + 1) q l1 r cs sg (d + 1) w0 ⟨r1, ht, kl w0 h0 (hEW.below m0.low) hl1, hr1⟩ hp (by omega) (hcell W w0 hc m0 hz) (by omega) (by omega) (hP.moved m0 (by omega))).mono ?_
       rintro e w' ⟨rfl, a1, v, a2, a3, a4⟩
       exact ⟨rfl, a1, v, a2, by rw [← hz0]; exact a3, (Mv2.of m0).trans a4⟩
      ·rintro e w' ⟨rfl, w1, a1, ⟨v, a2, a3, a4⟩, a5, rfl⟩
       have hsz : (w1.setCell ⟨p, 2, none⟩ (.int .i64 (d : Int))).heap.size = w1.heap.size := by simp
       refine ⟨rfl, a5, v, (Below.heap_setCell _ _ _ _ (by show w.heap.size + 1 + 1 ≠ p; omega)).trans a2, ?_, a4.trans (Mv2.of (Mvd.set p 2 _ w1))⟩
       rw [hsz]
       exact L.same _ _ _ _ _ (fun g hg => Below.heap_setCell _ _ _ _ (by show g ≠ p; have := hg.1; omega)) a3
  | none =>
   dsimp only
   cases h3 : takeS [123, 35] l with
   | some l1 =>
    dsimp only
    cases hn : nameR l1 with
    | bad x => exact part_len_bad L p q l l1 sg d x w h hl h1 h2 h3 hn
    | ok n r1 => exact part_len_go L hv.good p q l l1 n r1 sg d w h hl h1 h2 h3 hn
   | none =>
    dsimp only
    cases h4 : takeS [123] l with
    | some l1 => exact part_brace L hv.good p q l l1 sg d w h hE hl h1 h2 h3 h4
    | none => exact part_name L hv.good p q l sg d w h hl h1 h2 h3 h4
end Go.Proofs.YtelfgobjnibooaaGreatDoor
