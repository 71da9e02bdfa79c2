/- Packed texts: ShCmd2, ShCmd3. What each of them proves stands above its theorems; the conditions stand in these. -/
import Derived.Test.YtelfgobjnibooaaGreatDoorA15
namespace Go.Proofs.YtelfgobjnibooaaGreatDoor
open Go.RowKit Go.Lib
def QW (p : Nat) (w : World) : World := ((w.alloc (.cells #[.pointer (some ⟨p, 0, none⟩)] 81)).alloc (.cells #[.int .i64 0, .slice none 0 0, .slice none 0 0, .slice none 0 0, .slice none 0 0, .slice none 0 0, .slice none 0 0] 37)).alloc (.cells #[.int .i64 0, .slice none 0 0, .slice none 0 0, .slice none 0 0, .slice none 0 0, .slice none 0 0, .slice none 0 0] 37)
theorem QW_facts (p : Nat) (w : World) : (QW p w).heap.size = w.heap.size + 3 ∧ Below w.heap.size w (QW p w) ∧ (QW p w).heap[w.heap.size]? = some (.cells #[.pointer (some ⟨p, 0, none⟩)] 81 (0, 0)) ∧ (QW p w).heap[w.heap.size + 1]? = some (.cells #[.int .i64 0, .slice none 0 0, .slice none 0 0, .slice none 0 0, .slice none 0 0, .slice none 0 0, .slice none 0 0] 37 (0, 0)) ∧ (QW p w).heap[w.heap.size + 1 + 1]? = some (.cells #[.int .i64 0, .slice none 0 0, .slice none 0 0, .slice none 0 0, .slice none 0 0, .slice none 0 0, .slice none 0 0] 37 (0, 0)) := by
 have main : ∀ O1 O2 O3 : Obj, (((w.alloc O1).alloc O2).alloc O3).heap.size = w.heap.size + 3 ∧ Below w.heap.size w (((w.alloc O1).alloc O2).alloc O3) ∧ (((w.alloc O1).alloc O2).alloc O3).heap[w.heap.size]? = some O1 ∧ (((w.alloc O1).alloc O2).alloc O3).heap[w.heap.size + 1]? = some O2 ∧ (((w.alloc O1).alloc O2).alloc O3).heap[w.heap.size + 1 + 1]? = some O3 := fun O1 O2 O3 => by
  have z1 : (w.alloc O1).heap.size = w.heap.size + 1 := by simp
  have z2 : ((w.alloc O1).alloc O2).heap.size = w.heap.size + 1 + 1 := by simp
  have h1 := heap_alloc_new w O1
  have h2 := heap_alloc_new (w.alloc O1) O2
  rw [z1] at h2
  have h3 := heap_alloc_new ((w.alloc O1).alloc O2) O3
  rw [z2] at h3
  refine ⟨by simp, ((((Below.refl _ w).alloc (Nat.le_refl _) _).alloc (by simp) _).alloc (by rw [z2]; omega) _), ?_, ?_, h3⟩
  ·rw [Below.heap_alloc _ _ _ (by omega), Below.heap_alloc _ _ _ (by omega)]; exact h1
  ·rw [Below.heap_alloc _ _ _ (by omega)]; exact h2
 exact main _ _ _
theorem QW_at {p : Nat} {w w1 : World} (hp : p < w.heap.size) (hm : Mvd p (QW p w) w1) : w1.cell? ⟨w.heap.size, 0, none⟩ = some (.pointer (some ⟨p, 0, none⟩)) ∧ Free7 (w.heap.size + 1 + 1) w1 ∧ Mvd p w w1 ∧ w.heap.size + 3 ≤ w1.heap.size := by
 obtain ⟨z, hb, h1, h2, h3⟩ := QW_facts p w
 have e1 := (hm.high w.heap.size (by omega) (by omega)).trans h1
 have e3 := (hm.high (w.heap.size + 1 + 1) (by omega) (by omega)).trans h3
 exact ⟨by rw [cell_of_heap e1]; rfl, free7_of e3, ⟨(hb.mono (Nat.le_of_lt hp)).trans hm.low, fun g hg hs => (hm.high g hg (by omega)).trans (hb.block g hs)⟩, by have := hm.size; omega⟩
theorem QW_out {p : Nat} {w w1 : World} (hp : p < w.heap.size) (hm : Mv2 p (w.heap.size + 1 + 1) (QW p w) w1) : Mvd p w w1 ∧ w1.heap[w.heap.size + 1]? = some (.cells #[.int .i64 0, .slice none 0 0, .slice none 0 0, .slice none 0 0, .slice none 0 0, .slice none 0 0, .slice none 0 0] 37 (0, 0)) := by
 obtain ⟨z, hb, h1, h2, h3⟩ := QW_facts p w
 exact ⟨⟨(hb.mono (Nat.le_of_lt hp)).trans hm.low, fun g hg hs => (hm.high g hg (by omega) (by omega)).trans (hb.block g hs)⟩, (hm.high (w.heap.size + 1) (by omega) (by omega) (by omega)).trans h2⟩
theorem cob_fin {L : ValP (List Co)} (hL : GoodL L) {p lo : Nat} {sg : Value} {d : Nat} {co : Co} {r : List UInt8} {w w5 : World} (hp : p < w.heap.size) (hB : CoB L (w.heap.size + 1 + 1) (NewF lo w5.heap.size) co w5) (hlo : w.heap.size + 1 + 1 ≤ lo) (hr : Rs p r sg d w5) (hm : Mv2 p (w.heap.size + 1 + 1) (QW p w) w5) :
  ∃ (Z : Int) (an : Option Addr) (nn cn : Nat) (av : Option Addr) (nv cv : Nat) (aw : Option Addr) (nw cw : Nat) (aa : Option Addr) (na ca : Nat) (ab : Option Addr) (nb cb : Nat) (ac : Option Addr) (nc cc : Nat), (w5.cell? ⟨w.heap.size + 1 + 1, 0, none⟩ = some (.int .i64 Z) ∧ w5.cell? ⟨w.heap.size + 1 + 1, 1, none⟩ = some (.slice an nn cn) ∧ w5.cell? ⟨w.heap.size + 1 + 1, 2, none⟩ = some (.slice av nv cv) ∧ w5.cell? ⟨w.heap.size + 1 + 1, 3, none⟩ = some (.slice aw nw cw) ∧ w5.cell? ⟨w.heap.size + 1 + 1, 4, none⟩ = some (.slice aa na ca) ∧ w5.cell? ⟨w.heap.size + 1 + 1, 5, none⟩ = some (.slice ab nb cb) ∧ w5.cell? ⟨w.heap.size + 1 + 1, 6, none⟩ = some (.slice ac nc cc)) ∧ Free7 (w.heap.size + 1) w5 ∧ AnsE (cmdE L) p sg d w (.ok co r) (.returned (.agg #[.int .i64 Z, .slice an nn cn, .slice av nv cv, .slice aw nw cw, .slice aa na ca, .slice ab nb cb, .slice ac nc cc])) (S7 w5 (w.heap.size + 1) (.int .i64 Z) (.slice an nn cn) (.slice av nv cv) (.slice aw nw cw) (.slice aa na ca) (.slice ab nb cb) (.slice ac nc cc)) ∧ (S7 w5 (w.heap.size + 1) (.int .i64 Z) (.slice an nn cn) (.slice av nv cv) (.slice aw nw cw) (.slice aa na ca) (.slice ab nb cb) (.slice ac nc cc)).heap[w.heap.size + 1]? = some (.cells #[.int .i64 Z, .slice an nn cn, .slice av nv cv, .slice aw nw cw, .slice aa na ca, .slice ab nb cb, .slice ac nc cc] 37 (0, 0)) := by
 obtain ⟨hmd, hb⟩ := QW_out hp hm
 obtain ⟨Z0, cs, hZ0, hq, hblk⟩ := hB
 obtain ⟨Z, an, nn, cn, av, nv, cv, aw, nw, cw, aa, na, ca, ab, nb, cb, ac, nc, cc, rfl, hZ⟩ := cmd_forms hL hq
 refine ⟨Z, an, nn, cn, av, nv, cv, aw, nw, cw, aa, na, ca, ab, nb, cb, ac, nc, cc, cells_seven hblk, free7_of hb, ?_, S7_heap _ _ _ _ _ _ _ hb⟩
 subst hZ
 obtain ⟨k, n, v, ww, a, b, c⟩ := co
 obtain ⟨vn, vv, vw, va, vb, vc, h0, h1, h2, h3, h4, h5, h6⟩ := hq
 injection h0 with _ h0
 injection h0 with e1 h0
 injection h0 with e2 h0
 injection h0 with e3 h0
 injection h0 with e4 h0
 injection h0 with e5 h0
 injection h0 with e6 h0
 subst e1 e2 e3 e4 e5 e6
 have up : ∀ g, NewF lo w5.heap.size g → NewF (w.heap.size + 1 + 1) w5.heap.size g := fun g hg => ⟨Nat.le_trans hlo hg.1, hg.2⟩
 exact cmd_ans (k := k) hp (Nat.le_succ _) hr hmd (StrV.mono _ _ _ _ _ up h1) ((WdsV L).mono _ _ _ _ _ up h2) ((WdsV L).mono _ _ _ _ _ up h3) (L.mono _ _ _ _ _ up h4) (L.mono _ _ _ _ _ up h5) (L.mono _ _ _ _ _ up h6) hb
set_option maxHeartbeats 4000000 in
set_option maxRecDepth 20000 in
theorem cmd_sub1_bad (x : Int) (p : Nat) (l : List UInt8) (sg : Value) (d : Nat) (w : World) (h : Rs p l sg d w) (hE : EnvS p sg w) (hl : l.length ≤ 1048576) (hk : keyS l = [105, 102])
  (kw : ∀ W, Rs p (l.drop 2) sg d W → EnvS p sg W → W.cell? ⟨w.heap.size, 0, none⟩ = some (.pointer (some ⟨p, 0, none⟩)) → Free7 (w.heap.size + 1 + 1) W → w.heap.size + 3 ≤ W.heap.size → Calls Tryz.prog 104 #[.pointer (some ⟨p, 0, none⟩), .func (.func 105) #[] #[.pointer (some ⟨w.heap.size, 0, none⟩), .pointer (some ⟨w.heap.size + 1 + 1, 0, none⟩)]] W fun e w' => e = errS x ∧ Mv2 p (w.heap.size + 1 + 1) W w') :
  Calls Tryz.prog 79 #[.pointer (some ⟨p, 0, none⟩)] w fun e w' => e = errS x ∧ Mvd p w w' := by
 obtain ⟨z, hb, b1, b2, b3⟩ := QW_facts p w
 have hp := h.lt
 have hmf : ∀ (fn : Fn) (first cap : Array Value) (w : World), (Instr.makeFunc fn first cap).run Tryz.prog w = .ok (.func fn first cap) w := fun _ _ _ _ => rfl
 have hW := h.below hb
 have kk := (show Calls Tryz.prog 75 #[.pointer (some ⟨p, 0, none⟩)] (QW p w) fun e w' => e = .returned (.string ⟨#[105, 102]⟩) ∧ Below (QW p w).heap.size (QW p w) w' from by have := keyS_any p l sg d (QW p w) hW hl; rw [hk] at this; exact this)
 have AT1 : Hid (∀ w1, Below (QW p w).heap.size (QW p w) w1 → w1.cell? ⟨w.heap.size, 0, none⟩ = some (.pointer (some ⟨p, 0, none⟩)) ∧ Mvd p (QW p w) w1 ∧ Calls Tryz.prog 103 #[.pointer (some ⟨p, 0, none⟩), .string ⟨#[105, 102]⟩] w1 fun e w' => e = .returned (.bool true) ∧ Rs p (l.drop 2) sg d w' ∧ Mvd p w1 w') := by
  show ∀ _, _
  intro w1 hb1
  have m1 : Mvd p (QW p w) w1 := Mvd.of hb1 hW.lt
  exact ⟨(QW_at hp m1).1, m1, takeS_yes p [105, 102] l (l.drop 2) sg d w1 (hW.below hb1) hl (key_take hk)⟩
 have AT2 : Hid (∀ w2, Rs p (l.drop 2) sg d w2 → Mvd p (QW p w) w2 → w2.cell? ⟨w.heap.size, 0, none⟩ = some (.pointer (some ⟨p, 0, none⟩)) ∧ w.heap.size + 3 ≤ w2.heap.size ∧ Calls Tryz.prog 104 #[.pointer (some ⟨p, 0, none⟩), .func (.func 105) #[] #[.pointer (some ⟨w.heap.size, 0, none⟩), .pointer (some ⟨w.heap.size + 1 + 1, 0, none⟩)]] w2 fun e w' => e = errS x ∧ Mv2 p (w.heap.size + 1 + 1) w2 w') := by
  show ∀ _, _
  intro w2 h2 m2
  obtain ⟨q1, q2, q3, q4⟩ := QW_at hp m2
  exact ⟨q1, q4, kw w2 h2 (hE.below q3.low) q1 q2 q4⟩
 have c0 := (QW_at hp (Mvd.refl p (QW p w))).1
 have OUT := Lib.hid (fun w2 w3 (m2 : Mvd p (QW p w) w2) (m3 : Mv2 p (w.heap.size + 1 + 1) w2 w3) => (QW_out hp ((Mv2.of m2).trans m3)).1)
 clear h hE hW b1 b2 b3 hb z hk kw
 unfold errS at AT2 ⊢
 unfold QW at AT1 AT2 OUT c0 kk
 go_enter Tryz.func79, Tryz.ntmps79
 go_wp2_with (first
  | (go_at_call 75; (with_reducible refine kk.mono ?_); rintro e w1 ⟨rfl, hb1⟩; obtain ⟨d0, m1, kt⟩ := AT1.out w1 hb1; have M1 := Lib.hid m1; clear hb1 m1)
  | (go_at_call 103; (with_reducible refine kt.mono ?_); rintro e w2 ⟨rfl, h2, m2⟩; have M2 := Lib.hid (M1.out.trans m2); obtain ⟨d1, z2, kw⟩ := AT2.out w2 h2 M2.out; clear h2 m2)
  | (go_at_call 104; (with_reducible refine kw.mono ?_); rintro e w3 ⟨rfl, m3⟩))
 exact ⟨rfl, rfl, OUT.out _ _ M2.out m3⟩
set_option maxHeartbeats 4000000 in
set_option maxRecDepth 20000 in
theorem cmd_sub1_ok (L : ValP (List Co)) (hL : GoodL L) (r : List UInt8) (co : Co) (p : Nat) (l : List UInt8) (sg : Value) (d : Nat) (w : World) (h : Rs p l sg d w) (hE : EnvS p sg w) (hl : l.length ≤ 1048576) (hk : keyS l = [105, 102])
  (kw : ∀ W, Rs p (l.drop 2) sg d W → EnvS p sg W → W.cell? ⟨w.heap.size, 0, none⟩ = some (.pointer (some ⟨p, 0, none⟩)) → Free7 (w.heap.size + 1 + 1) W → w.heap.size + 3 ≤ W.heap.size → Calls Tryz.prog 104 #[.pointer (some ⟨p, 0, none⟩), .func (.func 105) #[] #[.pointer (some ⟨w.heap.size, 0, none⟩), .pointer (some ⟨w.heap.size + 1 + 1, 0, none⟩)]] W fun e w' => e = .returned (.tuple #[]) ∧ Rs p r sg d w' ∧ CoB L (w.heap.size + 1 + 1) (NewF W.heap.size w'.heap.size) co w' ∧ Mv2 p (w.heap.size + 1 + 1) W w') :
  Calls Tryz.prog 79 #[.pointer (some ⟨p, 0, none⟩)] w (AnsE (cmdE L) p sg d w (.ok co r)) := by
 obtain ⟨z, hb, b1, b2, b3⟩ := QW_facts p w
 have hp := h.lt
 have hmf : ∀ (fn : Fn) (first cap : Array Value) (w : World), (Instr.makeFunc fn first cap).run Tryz.prog w = .ok (.func fn first cap) w := fun _ _ _ _ => rfl
 have hW := h.below hb
 have kk := (show Calls Tryz.prog 75 #[.pointer (some ⟨p, 0, none⟩)] (QW p w) fun e w' => e = .returned (.string ⟨#[105, 102]⟩) ∧ Below (QW p w).heap.size (QW p w) w' from by have := keyS_any p l sg d (QW p w) hW hl; rw [hk] at this; exact this)
 have AT1 : Hid (∀ w1, Below (QW p w).heap.size (QW p w) w1 → w1.cell? ⟨w.heap.size, 0, none⟩ = some (.pointer (some ⟨p, 0, none⟩)) ∧ Mvd p (QW p w) w1 ∧ Calls Tryz.prog 103 #[.pointer (some ⟨p, 0, none⟩), .string ⟨#[105, 102]⟩] w1 fun e w' => e = .returned (.bool true) ∧ Rs p (l.drop 2) sg d w' ∧ Mvd p w1 w') := by
  show ∀ _, _
  intro w1 hb1
  have m1 : Mvd p (QW p w) w1 := Mvd.of hb1 hW.lt
  exact ⟨(QW_at hp m1).1, m1, takeS_yes p [105, 102] l (l.drop 2) sg d w1 (hW.below hb1) hl (key_take hk)⟩
 have AT2 : Hid (∀ w2, Rs p (l.drop 2) sg d w2 → Mvd p (QW p w) w2 → w2.cell? ⟨w.heap.size, 0, none⟩ = some (.pointer (some ⟨p, 0, none⟩)) ∧ w.heap.size + 3 ≤ w2.heap.size ∧ Calls Tryz.prog 104 #[.pointer (some ⟨p, 0, none⟩), .func (.func 105) #[] #[.pointer (some ⟨w.heap.size, 0, none⟩), .pointer (some ⟨w.heap.size + 1 + 1, 0, none⟩)]] w2 fun e w' => e = .returned (.tuple #[]) ∧ Rs p r sg d w' ∧ CoB L (w.heap.size + 1 + 1) (NewF w2.heap.size w'.heap.size) co w' ∧ Mv2 p (w.heap.size + 1 + 1) w2 w') := by
  show ∀ _, _
  intro w2 h2 m2
  obtain ⟨q1, q2, q3, q4⟩ := QW_at hp m2
  exact ⟨q1, q4, kw w2 h2 (hE.below q3.low) q1 q2 q4⟩
 have c0 := (QW_at hp (Mvd.refl p (QW p w))).1
 have DONE0 := Lib.hid (fun w2 w3 (m2 : Mvd p (QW p w) w2) (hz : w.heap.size + 3 ≤ w2.heap.size) (h3 : Rs p r sg d w3) (hB : CoB L (w.heap.size + 1 + 1) (NewF w2.heap.size w3.heap.size) co w3) (m3 : Mv2 p (w.heap.size + 1 + 1) w2 w3) => cob_fin hL hp hB (by omega) h3 ((Mv2.of m2).trans m3))
 clear h hE hW b1 b2 b3 hb z hk kw
 unfold QW at AT1 AT2 DONE0 c0 kk
 go_enter Tryz.func79, Tryz.ntmps79
 go_wp2_with (first
  | (go_at_call 75; (with_reducible refine kk.mono ?_); rintro e w1 ⟨rfl, hb1⟩; obtain ⟨d0, m1, kt⟩ := AT1.out w1 hb1; have M1 := Lib.hid m1; clear hb1 m1)
  | (go_at_call 103; (with_reducible refine kt.mono ?_); rintro e w2 ⟨rfl, h2, m2⟩; have M2 := Lib.hid (M1.out.trans m2); obtain ⟨d1, z2, kw⟩ := AT2.out w2 h2 M2.out; clear h2 m2)
  | (go_at_call 104; (with_reducible refine kw.mono ?_); rintro e w3 ⟨rfl, h3, hB, m3⟩; have DONE := DONE0.out _ w3 M2.out z2 h3 hB m3; clear h3 hB m3; obtain ⟨Z, an, nn, cn, av, nv, cv, aw, nw, cw, aa, na, ca, ab, nb, cb, ac, nc, cc, ⟨u0, u1, u2, u3, u4, u5, u6⟩, FR, AN, HP⟩ := DONE; obtain ⟨g0, g1, g2, g3, g4, g5, g6, x0, x1, x2, x3, x4, x5, x6, y0, y1, y2, y3, y4, y5, y6, y7⟩ := FR; have HAN := Lib.hid AN; have HHP := Lib.hid HP; clear AN HP y7))
 have cs7 := cells_seven HHP.out
 unfold S7 at cs7 HAN
 refine bodyPost_ret (v := .agg #[.int .i64 Z, .slice an nn cn, .slice av nv cv, .slice aw nw cw, .slice aa na ca, .slice ab nb cb, .slice ac nc cc]) (by simp [results, Tryz.results79, go_sem, cs7]) rfl ?_
 exact HAN.out
set_option maxHeartbeats 4000000 in
set_option maxRecDepth 20000 in
theorem cmd_sub2_bad (x : Int) (p : Nat) (l : List UInt8) (sg : Value) (d : Nat) (w : World) (h : Rs p l sg d w) (hE : EnvS p sg w) (hl : l.length ≤ 1048576) (hk : keyS l = [119, 104, 105, 108, 101])
  (kw : ∀ W, Rs p (l.drop 5) sg d W → EnvS p sg W → W.cell? ⟨w.heap.size, 0, none⟩ = some (.pointer (some ⟨p, 0, none⟩)) → Free7 (w.heap.size + 1 + 1) W → w.heap.size + 3 ≤ W.heap.size → Calls Tryz.prog 104 #[.pointer (some ⟨p, 0, none⟩), .func (.func 107) #[] #[.pointer (some ⟨w.heap.size, 0, none⟩), .pointer (some ⟨w.heap.size + 1 + 1, 0, none⟩)]] W fun e w' => e = errS x ∧ Mv2 p (w.heap.size + 1 + 1) W w') :
  Calls Tryz.prog 79 #[.pointer (some ⟨p, 0, none⟩)] w fun e w' => e = errS x ∧ Mvd p w w' := by
 obtain ⟨z, hb, b1, b2, b3⟩ := QW_facts p w
 have hp := h.lt
 have hmf : ∀ (fn : Fn) (first cap : Array Value) (w : World), (Instr.makeFunc fn first cap).run Tryz.prog w = .ok (.func fn first cap) w := fun _ _ _ _ => rfl
 have hW := h.below hb
 have kk := (show Calls Tryz.prog 75 #[.pointer (some ⟨p, 0, none⟩)] (QW p w) fun e w' => e = .returned (.string ⟨#[119, 104, 105, 108, 101]⟩) ∧ Below (QW p w).heap.size (QW p w) w' from by have := keyS_any p l sg d (QW p w) hW hl; rw [hk] at this; exact this)
 have AT1 : Hid (∀ w1, Below (QW p w).heap.size (QW p w) w1 → w1.cell? ⟨w.heap.size, 0, none⟩ = some (.pointer (some ⟨p, 0, none⟩)) ∧ Mvd p (QW p w) w1 ∧ Calls Tryz.prog 103 #[.pointer (some ⟨p, 0, none⟩), .string ⟨#[119, 104, 105, 108, 101]⟩] w1 fun e w' => e = .returned (.bool true) ∧ Rs p (l.drop 5) sg d w' ∧ Mvd p w1 w') := by
  show ∀ _, _
  intro w1 hb1
  have m1 : Mvd p (QW p w) w1 := Mvd.of hb1 hW.lt
  exact ⟨(QW_at hp m1).1, m1, takeS_yes p [119, 104, 105, 108, 101] l (l.drop 5) sg d w1 (hW.below hb1) hl (key_take hk)⟩
 have AT2 : Hid (∀ w2, Rs p (l.drop 5) sg d w2 → Mvd p (QW p w) w2 → w2.cell? ⟨w.heap.size, 0, none⟩ = some (.pointer (some ⟨p, 0, none⟩)) ∧ w.heap.size + 3 ≤ w2.heap.size ∧ Calls Tryz.prog 104 #[.pointer (some ⟨p, 0, none⟩), .func (.func 107) #[] #[.pointer (some ⟨w.heap.size, 0, none⟩), .pointer (some ⟨w.heap.size + 1 + 1, 0, none⟩)]] w2 fun e w' => e = errS x ∧ Mv2 p (w.heap.size + 1 + 1) w2 w') := by
  show ∀ _, _
  intro w2 h2 m2
  obtain ⟨q1, q2, q3, q4⟩ := QW_at hp m2
  exact ⟨q1, q4, kw w2 h2 (hE.below q3.low) q1 q2 q4⟩
 have c0 := (QW_at hp (Mvd.refl p (QW p w))).1
 have OUT := Lib.hid (fun w2 w3 (m2 : Mvd p (QW p w) w2) (m3 : Mv2 p (w.heap.size + 1 + 1) w2 w3) => (QW_out hp ((Mv2.of m2).trans m3)).1)
 clear h hE hW b1 b2 b3 hb z hk kw
 unfold errS at AT2 ⊢
 unfold QW at AT1 AT2 OUT c0 kk
 go_enter Tryz.func79, Tryz.ntmps79
 go_wp2_with (first
  | (go_at_call 75; (with_reducible refine kk.mono ?_); rintro e w1 ⟨rfl, hb1⟩; obtain ⟨d0, m1, kt⟩ := AT1.out w1 hb1; have M1 := Lib.hid m1; clear hb1 m1)
  | (go_at_call 103; (with_reducible refine kt.mono ?_); rintro e w2 ⟨rfl, h2, m2⟩; have M2 := Lib.hid (M1.out.trans m2); obtain ⟨d1, z2, kw⟩ := AT2.out w2 h2 M2.out; clear h2 m2)
  | (go_at_call 104; (with_reducible refine kw.mono ?_); rintro e w3 ⟨rfl, m3⟩))
 exact ⟨rfl, rfl, OUT.out _ _ M2.out m3⟩
set_option maxHeartbeats 4000000 in
set_option maxRecDepth 20000 in
theorem cmd_sub2_ok (L : ValP (List Co)) (hL : GoodL L) (r : List UInt8) (co : Co) (p : Nat) (l : List UInt8) (sg : Value) (d : Nat) (w : World) (h : Rs p l sg d w) (hE : EnvS p sg w) (hl : l.length ≤ 1048576) (hk : keyS l = [119, 104, 105, 108, 101])
  (kw : ∀ W, Rs p (l.drop 5) sg d W → EnvS p sg W → W.cell? ⟨w.heap.size, 0, none⟩ = some (.pointer (some ⟨p, 0, none⟩)) → Free7 (w.heap.size + 1 + 1) W → w.heap.size + 3 ≤ W.heap.size → Calls Tryz.prog 104 #[.pointer (some ⟨p, 0, none⟩), .func (.func 107) #[] #[.pointer (some ⟨w.heap.size, 0, none⟩), .pointer (some ⟨w.heap.size + 1 + 1, 0, none⟩)]] W fun e w' => e = .returned (.tuple #[]) ∧ Rs p r sg d w' ∧ CoB L (w.heap.size + 1 + 1) (NewF W.heap.size w'.heap.size) co w' ∧ Mv2 p (w.heap.size + 1 + 1) W w') :
  Calls Tryz.prog 79 #[.pointer (some ⟨p, 0, none⟩)] w (AnsE (cmdE L) p sg d w (.ok co r)) := by
 obtain ⟨z, hb, b1, b2, b3⟩ := QW_facts p w
 have hp := h.lt
 have hmf : ∀ (fn : Fn) (first cap : Array Value) (w : World), (Instr.makeFunc fn first cap).run Tryz.prog w = .ok (.func fn first cap) w := fun _ _ _ _ => rfl
 have hW := h.below hb
 have kk := (show Calls Tryz.prog 75 #[.pointer (some ⟨p, 0, none⟩)] (QW p w) fun e w' => e = .returned (.string ⟨#[119, 104, 105, 108, 101]⟩) ∧ Below (QW p w).heap.size (QW p w) w' from by have := keyS_any p l sg d (QW p w) hW hl; rw [hk] at this; exact this)
 have AT1 : Hid (∀ w1, Below (QW p w).heap.size (QW p w) w1 → w1.cell? ⟨w.heap.size, 0, none⟩ = some (.pointer (some ⟨p, 0, none⟩)) ∧ Mvd p (QW p w) w1 ∧ Calls Tryz.prog 103 #[.pointer (some ⟨p, 0, none⟩), .string ⟨#[119, 104, 105, 108, 101]⟩] w1 fun e w' => e = .returned (.bool true) ∧ Rs p (l.drop 5) sg d w' ∧ Mvd p w1 w') := by
  show ∀ _, _
  intro w1 hb1
  have m1 : Mvd p (QW p w) w1 := Mvd.of hb1 hW.lt
  exact ⟨(QW_at hp m1).1, m1, takeS_yes p [119, 104, 105, 108, 101] l (l.drop 5) sg d w1 (hW.below hb1) hl (key_take hk)⟩
 have AT2 : Hid (∀ w2, Rs p (l.drop 5) sg d w2 → Mvd p (QW p w) w2 → w2.cell? ⟨w.heap.size, 0, none⟩ = some (.pointer (some ⟨p, 0, none⟩)) ∧ w.heap.size + 3 ≤ w2.heap.size ∧ Calls Tryz.prog 104 #[.pointer (some ⟨p, 0, none⟩), .func (.func 107) #[] #[.pointer (some ⟨w.heap.size, 0, none⟩), .pointer (some ⟨w.heap.size + 1 + 1, 0, none⟩)]] w2 fun e w' => e = .returned (.tuple #[]) ∧ Rs p r sg d w' ∧ CoB L (w.heap.size + 1 + 1) (NewF w2.heap.size w'.heap.size) co w' ∧ Mv2 p (w.heap.size + 1 + 1) w2 w') := by
  show ∀ _, _
  intro w2 h2 m2
  obtain ⟨q1, q2, q3, q4⟩ := QW_at hp m2
  exact ⟨q1, q4, kw w2 h2 (hE.below q3.low) q1 q2 q4⟩
 have c0 := (QW_at hp (Mvd.refl p (QW p w))).1
 have DONE0 := Lib.hid (fun w2 w3 (m2 : Mvd p (QW p w) w2) (hz : w.heap.size + 3 ≤ w2.heap.size) (h3 : Rs p r sg d w3) (hB : CoB L (w.heap.size + 1 + 1) (NewF w2.heap.size w3.heap.size) co w3) (m3 : Mv2 p (w.heap.size + 1 + 1) w2 w3) => cob_fin hL hp hB (by omega) h3 ((Mv2.of m2).trans m3))
 clear h hE hW b1 b2 b3 hb z hk kw
 unfold QW at AT1 AT2 DONE0 c0 kk
 go_enter Tryz.func79, Tryz.ntmps79
 go_wp2_with (first
  | (go_at_call 75; (with_reducible refine kk.mono ?_); rintro e w1 ⟨rfl, hb1⟩; obtain ⟨d0, m1, kt⟩ := AT1.out w1 hb1; have M1 := Lib.hid m1; clear hb1 m1)
  | (go_at_call 103; (with_reducible refine kt.mono ?_); rintro e w2 ⟨rfl, h2, m2⟩; have M2 := Lib.hid (M1.out.trans m2); obtain ⟨d1, z2, kw⟩ := AT2.out w2 h2 M2.out; clear h2 m2)
  | (go_at_call 104; (with_reducible refine kw.mono ?_); rintro e w3 ⟨rfl, h3, hB, m3⟩; have DONE := DONE0.out _ w3 M2.out z2 h3 hB m3; clear h3 hB m3; obtain ⟨Z, an, nn, cn, av, nv, cv, aw, nw, cw, aa, na, ca, ab, nb, cb, ac, nc, cc, ⟨u0, u1, u2, u3, u4, u5, u6⟩, FR, AN, HP⟩ := DONE; obtain ⟨g0, g1, g2, g3, g4, g5, g6, x0, x1, x2, x3, x4, x5, x6, y0, y1, y2, y3, y4, y5, y6, y7⟩ := FR; have HAN := Lib.hid AN; have HHP := Lib.hid HP; clear AN HP y7))
 have cs7 := cells_seven HHP.out
 unfold S7 at cs7 HAN
 refine bodyPost_ret (v := .agg #[.int .i64 Z, .slice an nn cn, .slice av nv cv, .slice aw nw cw, .slice aa na ca, .slice ab nb cb, .slice ac nc cc]) (by simp [results, Tryz.results79, go_sem, cs7]) rfl ?_
 exact HAN.out
set_option maxHeartbeats 4000000 in
set_option maxRecDepth 20000 in
theorem cmd_sub3_bad (x : Int) (p : Nat) (l : List UInt8) (sg : Value) (d : Nat) (w : World) (h : Rs p l sg d w) (hE : EnvS p sg w) (hl : l.length ≤ 1048576) (hk : keyS l = [102, 111, 114])
  (kw : ∀ W, Rs p (l.drop 3) sg d W → EnvS p sg W → W.cell? ⟨w.heap.size, 0, none⟩ = some (.pointer (some ⟨p, 0, none⟩)) → Free7 (w.heap.size + 1 + 1) W → w.heap.size + 3 ≤ W.heap.size → Calls Tryz.prog 104 #[.pointer (some ⟨p, 0, none⟩), .func (.func 109) #[] #[.pointer (some ⟨w.heap.size, 0, none⟩), .pointer (some ⟨w.heap.size + 1 + 1, 0, none⟩)]] W fun e w' => e = errS x ∧ Mv2 p (w.heap.size + 1 + 1) W w') :
  Calls Tryz.prog 79 #[.pointer (some ⟨p, 0, none⟩)] w fun e w' => e = errS x ∧ Mvd p w w' := by
 obtain ⟨z, hb, b1, b2, b3⟩ := QW_facts p w
 have hp := h.lt
 have hmf : ∀ (fn : Fn) (first cap : Array Value) (w : World), (Instr.makeFunc fn first cap).run Tryz.prog w = .ok (.func fn first cap) w := fun _ _ _ _ => rfl
 have hW := h.below hb
 have kk := (show Calls Tryz.prog 75 #[.pointer (some ⟨p, 0, none⟩)] (QW p w) fun e w' => e = .returned (.string ⟨#[102, 111, 114]⟩) ∧ Below (QW p w).heap.size (QW p w) w' from by have := keyS_any p l sg d (QW p w) hW hl; rw [hk] at this; exact this)
 have AT1 : Hid (∀ w1, Below (QW p w).heap.size (QW p w) w1 → w1.cell? ⟨w.heap.size, 0, none⟩ = some (.pointer (some ⟨p, 0, none⟩)) ∧ Mvd p (QW p w) w1 ∧ Calls Tryz.prog 103 #[.pointer (some ⟨p, 0, none⟩), .string ⟨#[102, 111, 114]⟩] w1 fun e w' => e = .returned (.bool true) ∧ Rs p (l.drop 3) sg d w' ∧ Mvd p w1 w') := by
  show ∀ _, _
  intro w1 hb1
  have m1 : Mvd p (QW p w) w1 := Mvd.of hb1 hW.lt
  exact ⟨(QW_at hp m1).1, m1, takeS_yes p [102, 111, 114] l (l.drop 3) sg d w1 (hW.below hb1) hl (key_take hk)⟩
 have AT2 : Hid (∀ w2, Rs p (l.drop 3) sg d w2 → Mvd p (QW p w) w2 → w2.cell? ⟨w.heap.size, 0, none⟩ = some (.pointer (some ⟨p, 0, none⟩)) ∧ w.heap.size + 3 ≤ w2.heap.size ∧ Calls Tryz.prog 104 #[.pointer (some ⟨p, 0, none⟩), .func (.func 109) #[] #[.pointer (some ⟨w.heap.size, 0, none⟩), .pointer (some ⟨w.heap.size + 1 + 1, 0, none⟩)]] w2 fun e w' => e = errS x ∧ Mv2 p (w.heap.size + 1 + 1) w2 w') := by
  show ∀ _, _
  intro w2 h2 m2
  obtain ⟨q1, q2, q3, q4⟩ := QW_at hp m2
  exact ⟨q1, q4, kw w2 h2 (hE.below q3.low) q1 q2 q4⟩
 have c0 := (QW_at hp (Mvd.refl p (QW p w))).1
 have OUT := Lib.hid (fun w2 w3 (m2 : Mvd p (QW p w) w2) (m3 : Mv2 p (w.heap.size + 1 + 1) w2 w3) => (QW_out hp ((Mv2.of m2).trans m3)).1)
 clear h hE hW b1 b2 b3 hb z hk kw
 unfold errS at AT2 ⊢
 unfold QW at AT1 AT2 OUT c0 kk
 go_enter Tryz.func79, Tryz.ntmps79
 go_wp2_with (first
  | (go_at_call 75; (with_reducible refine kk.mono ?_); rintro e w1 ⟨rfl, hb1⟩; obtain ⟨d0, m1, kt⟩ := AT1.out w1 hb1; have M1 := Lib.hid m1; clear hb1 m1)
  | (go_at_call 103; (with_reducible refine kt.mono ?_); rintro e w2 ⟨rfl, h2, m2⟩; have M2 := Lib.hid (M1.out.trans m2); obtain ⟨d1, z2, kw⟩ := AT2.out w2 h2 M2.out; clear h2 m2)
  | (go_at_call 104; (with_reducible refine kw.mono ?_); rintro e w3 ⟨rfl, m3⟩))
 exact ⟨rfl, rfl, OUT.out _ _ M2.out m3⟩
set_option maxHeartbeats 4000000 in
set_option maxRecDepth 20000 in
theorem cmd_sub3_ok (L : ValP (List Co)) (hL : GoodL L) (r : List UInt8) (co : Co) (p : Nat) (l : List UInt8) (sg : Value) (d : Nat) (w : World) (h : Rs p l sg d w) (hE : EnvS p sg w) (hl : l.length ≤ 1048576) (hk : keyS l = [102, 111, 114])
  (kw : ∀ W, Rs p (l.drop 3) sg d W → EnvS p sg W → W.cell? ⟨w.heap.size, 0, none⟩ = some (.pointer (some ⟨p, 0, none⟩)) → Free7 (w.heap.size + 1 + 1) W → w.heap.size + 3 ≤ W.heap.size → Calls Tryz.prog 104 #[.pointer (some ⟨p, 0, none⟩), .func (.func 109) #[] #[.pointer (some ⟨w.heap.size, 0, none⟩), .pointer (some ⟨w.heap.size + 1 + 1, 0, none⟩)]] W fun e w' => e = .returned (.tuple #[]) ∧ Rs p r sg d w' ∧ CoB L (w.heap.size + 1 + 1) (NewF W.heap.size w'.heap.size) co w' ∧ Mv2 p (w.heap.size + 1 + 1) W w') :
  Calls Tryz.prog 79 #[.pointer (some ⟨p, 0, none⟩)] w (AnsE (cmdE L) p sg d w (.ok co r)) := by
 obtain ⟨z, hb, b1, b2, b3⟩ := QW_facts p w
 have hp := h.lt
 have hmf : ∀ (fn : Fn) (first cap : Array Value) (w : World), (Instr.makeFunc fn first cap).run Tryz.prog w = .ok (.func fn first cap) w := fun _ _ _ _ => rfl
 have hW := h.below hb
 have kk := (show Calls Tryz.prog 75 #[.pointer (some ⟨p, 0, none⟩)] (QW p w) fun e w' => e = .returned (.string ⟨#[102, 111, 114]⟩) ∧ Below (QW p w).heap.size (QW p w) w' from by have := keyS_any p l sg d (QW p w) hW hl; rw [hk] at this; exact this)
 have AT1 : Hid (∀ w1, Below (QW p w).heap.size (QW p w) w1 → w1.cell? ⟨w.heap.size, 0, none⟩ = some (.pointer (some ⟨p, 0, none⟩)) ∧ Mvd p (QW p w) w1 ∧ Calls Tryz.prog 103 #[.pointer (some ⟨p, 0, none⟩), .string ⟨#[102, 111, 114]⟩] w1 fun e w' => e = .returned (.bool true) ∧ Rs p (l.drop 3) sg d w' ∧ Mvd p w1 w') := by
  show ∀ _, _
  intro w1 hb1
  have m1 : Mvd p (QW p w) w1 := Mvd.of hb1 hW.lt
  exact ⟨(QW_at hp m1).1, m1, takeS_yes p [102, 111, 114] l (l.drop 3) sg d w1 (hW.below hb1) hl (key_take hk)⟩
 have AT2 : Hid (∀ w2, Rs p (l.drop 3) sg d w2 → Mvd p (QW p w) w2 → w2.cell? ⟨w.heap.size, 0, none⟩ = some (.pointer (some ⟨p, 0, none⟩)) ∧ w.heap.size + 3 ≤ w2.heap.size ∧ Calls Tryz.prog 104 #[.pointer (some ⟨p, 0, none⟩), .func (.func 109) #[] #[.pointer (some ⟨w.heap.size, 0, none⟩), .pointer (some ⟨w.heap.size + 1 + 1, 0, none⟩)]] w2 fun e w' => e = .returned (.tuple #[]) ∧ Rs p r sg d w' ∧ CoB L (w.heap.size + 1 + 1) (NewF w2.heap.size w'.heap.size) co w' ∧ Mv2 p (w.heap.size + 1 + 1) w2 w') := by
  show ∀ _, _
  intro w2 h2 m2
  obtain ⟨q1, q2, q3, q4⟩ := QW_at hp m2
  exact ⟨q1, q4, kw w2 h2 (hE.below q3.low) q1 q2 q4⟩
 have c0 := (QW_at hp (Mvd.refl p (QW p w))).1
 have DONE0 := Lib.hid (fun w2 w3 (m2 : Mvd p (QW p w) w2) (hz : w.heap.size + 3 ≤ w2.heap.size) (h3 : Rs p r sg d w3) (hB : CoB L (w.heap.size + 1 + 1) (NewF w2.heap.size w3.heap.size) co w3) (m3 : Mv2 p (w.heap.size + 1 + 1) w2 w3) => cob_fin hL hp hB (by omega) h3 ((Mv2.of m2).trans m3))
 clear h hE hW b1 b2 b3 hb z hk kw
 unfold QW at AT1 AT2 DONE0 c0 kk
 go_enter Tryz.func79, Tryz.ntmps79
 go_wp2_with (first
  | (go_at_call 75; (with_reducible refine kk.mono ?_); rintro e w1 ⟨rfl, hb1⟩; obtain ⟨d0, m1, kt⟩ := AT1.out w1 hb1; have M1 := Lib.hid m1; clear hb1 m1)
  | (go_at_call 103; (with_reducible refine kt.mono ?_); rintro e w2 ⟨rfl, h2, m2⟩; have M2 := Lib.hid (M1.out.trans m2); obtain ⟨d1, z2, kw⟩ := AT2.out w2 h2 M2.out; clear h2 m2)
  | (go_at_call 104; (with_reducible refine kw.mono ?_); rintro e w3 ⟨rfl, h3, hB, m3⟩; have DONE := DONE0.out _ w3 M2.out z2 h3 hB m3; clear h3 hB m3; obtain ⟨Z, an, nn, cn, av, nv, cv, aw, nw, cw, aa, na, ca, ab, nb, cb, ac, nc, cc, ⟨u0, u1, u2, u3, u4, u5, u6⟩, FR, AN, HP⟩ := DONE; obtain ⟨g0, g1, g2, g3, g4, g5, g6, x0, x1, x2, x3, x4, x5, x6, y0, y1, y2, y3, y4, y5, y6, y7⟩ := FR; have HAN := Lib.hid AN; have HHP := Lib.hid HP; clear AN HP y7))
 have cs7 := cells_seven HHP.out
 unfold S7 at cs7 HAN
 refine bodyPost_ret (v := .agg #[.int .i64 Z, .slice an nn cn, .slice av nv cv, .slice aw nw cw, .slice aa na ca, .slice ab nb cb, .slice ac nc cc]) (by simp [results, Tryz.results79, go_sem, cs7]) rfl ?_
 exact HAN.out
set_option maxHeartbeats 4000000 in
set_option maxRecDepth 20000 in
theorem cmd_simple (L : ValP (List Co)) (sub : Deeper) (p : Nat) (sg : Value) (d : Nat) (hv : Lv L sub p sg d) (l : List UInt8) (w : World) (h : Rs p l sg d w) (hE : EnvS p sg w) (hl : l.length ≤ 1048576) (hk1 : keyS l ≠ [105, 102]) (hk2 : keyS l ≠ [119, 104, 105, 108, 101]) (hk3 : keyS l ≠ [102, 111, 114]) :
  Calls Tryz.prog 79 #[.pointer (some ⟨p, 0, none⟩)] w (AnsE (cmdE L) p sg d w (simpleS sub l)) := by
 obtain ⟨z, hb, b1, b2, b3⟩ := QW_facts p w
 have hp := h.lt
 have hW := h.below hb
 have hL := hv.good
 obtain ⟨n1a, n1b⟩ := ba_ne_lit hk1
 obtain ⟨n2a, n2b⟩ := ba_ne_lit hk2
 obtain ⟨n3a, n3b⟩ := ba_ne_lit hk3
 have kk := keyS_any p l sg d (QW p w) hW hl
 obtain ⟨Y, hY⟩ : ∃ Y : ByteArray, Y = ⟨(keyS l).toArray⟩ := ⟨_, rfl⟩
 rw [← hY] at kk n1a n1b n2a n2b n3a n3b
 have AT1 : Hid (∀ w1, Below (QW p w).heap.size (QW p w) w1 → w1.cell? ⟨w.heap.size, 0, none⟩ = some (.pointer (some ⟨p, 0, none⟩)) ∧ Mvd p (QW p w) w1 ∧ Free7 (w.heap.size + 1 + 1) w1 ∧ w.heap.size + 3 ≤ w1.heap.size ∧ Calls Tryz.prog 111 #[.pointer (some ⟨p, 0, none⟩)] w1 (AnsE (cmdE L) p sg d w1 (simpleS sub l))) := by
  show ∀ _, _
  intro w1 hb1
  have m1 : Mvd p (QW p w) w1 := Mvd.of hb1 hW.lt
  obtain ⟨q1, q2, q3, q4⟩ := QW_at hp m1
  exact ⟨q1, m1, q2, q4, simple_any L sub p sg d hv l w1 (hW.below hb1) (hE.below q3.low) hl⟩
 have c0 := (QW_at hp (Mvd.refl p (QW p w))).1
 clear h hE hW b1 b2 b3 hb z hk1 hk2 hk3 hY
 cases hr : simpleS sub l with
 | bad x =>
  rw [hr] at AT1
  have OUT := Lib.hid (fun w1 w3 (m1 : Mvd p (QW p w) w1) (m3 : Mvd p w1 w3) => (QW_out hp (Mv2.of (b := w.heap.size + 1 + 1) (m1.trans m3))).1)
  have AT2 : Hid (∀ w1, Below (QW p w).heap.size (QW p w) w1 → w1.cell? ⟨w.heap.size, 0, none⟩ = some (.pointer (some ⟨p, 0, none⟩)) ∧ Mvd p (QW p w) w1 ∧ Free7 (w.heap.size + 1 + 1) w1 ∧ w.heap.size + 3 ≤ w1.heap.size ∧ Calls Tryz.prog 111 #[.pointer (some ⟨p, 0, none⟩)] w1 fun e w' => e = errS x ∧ Mvd p w1 w') := AT1.out
  show Calls _ _ _ _ fun e w' => e = errS x ∧ Mvd p w w'
  clear hr AT1
  unfold errS at AT2 ⊢
  unfold QW at AT2 OUT c0 kk
  go_enter Tryz.func79, Tryz.ntmps79
  go_wp2_with (first
   | (go_at_call 75; (with_reducible refine kk.mono ?_); rintro e w1 ⟨rfl, hb1⟩; obtain ⟨d0, m1, _, _, ks⟩ := AT2.out w1 hb1; have M1 := Lib.hid m1; clear hb1 m1)
   | (go_at_call 111; (with_reducible refine ks.mono ?_); rintro e w3 ⟨rfl, m3⟩))
  exact ⟨rfl, rfl, OUT.out _ _ M1.out m3⟩
 | ok co r =>
  rw [hr] at AT1
  have AT2 : Hid (∀ w1, Below (QW p w).heap.size (QW p w) w1 → w1.cell? ⟨w.heap.size, 0, none⟩ = some (.pointer (some ⟨p, 0, none⟩)) ∧ Mvd p (QW p w) w1 ∧ Free7 (w.heap.size + 1 + 1) w1 ∧ w.heap.size + 3 ≤ w1.heap.size ∧ Calls Tryz.prog 111 #[.pointer (some ⟨p, 0, none⟩)] w1 fun e w' => (∃ (Z : Int) (an : Option Addr) (nn cn : Nat) (av : Option Addr) (nv cv : Nat) (aw : Option Addr) (nw cw : Nat) (aa : Option Addr) (na ca : Nat) (ab : Option Addr) (nb cb : Nat) (ac : Option Addr) (nc cc : Nat), e = .returned (.agg #[.int .i64 Z, .slice an nn cn, .slice av nv cv, .slice aw nw cw, .slice aa na ca, .slice ab nb cb, .slice ac nc cc]) ∧ Z = (co.k : Int) ∧ (cmdE L).q (NewF w1.heap.size w'.heap.size) w' co [.int .i64 Z, .slice an nn cn, .slice av nv cv, .slice aw nw cw, .slice aa na ca, .slice ab nb cb, .slice ac nc cc]) ∧ Rs p r sg d w' ∧ Mvd p w1 w') := by
   show ∀ _, _
   intro w1 hb1
   obtain ⟨e1, e2, e3, e4, e5⟩ := AT1.out w1 hb1
   exact ⟨e1, e2, e3, e4, e5.mono fun e w' => ansCo hL⟩
  have DONE0 : Hid (∀ (w1 w2 : World) (Z0 : Int) (v1 v2 v3 v4 v5 v6 : Value), Mvd p (QW p w) w1 → Free7 (w.heap.size + 1 + 1) w1 → w.heap.size + 3 ≤ w1.heap.size → Z0 = (co.k : Int) → (cmdE L).q (NewF w1.heap.size w2.heap.size) w2 co [.int .i64 Z0, v1, v2, v3, v4, v5, v6] → Rs p r sg d w2 → Mvd p w1 w2 → Free7 (w.heap.size + 1 + 1) w2 ∧ ∃ (Z : Int) (an : Option Addr) (nn cn : Nat) (av : Option Addr) (nv cv : Nat) (aw : Option Addr) (nw cw : Nat) (aa : Option Addr) (na ca : Nat) (ab : Option Addr) (nb cb : Nat) (ac : Option Addr) (nc cc : Nat), ((S7 w2 (w.heap.size + 1 + 1) (.int .i64 Z0) v1 v2 v3 v4 v5 v6).cell? ⟨w.heap.size + 1 + 1, 0, none⟩ = some (.int .i64 Z) ∧ (S7 w2 (w.heap.size + 1 + 1) (.int .i64 Z0) v1 v2 v3 v4 v5 v6).cell? ⟨w.heap.size + 1 + 1, 1, none⟩ = some (.slice an nn cn) ∧ (S7 w2 (w.heap.size + 1 + 1) (.int .i64 Z0) v1 v2 v3 v4 v5 v6).cell? ⟨w.heap.size + 1 + 1, 2, none⟩ = some (.slice av nv cv) ∧ (S7 w2 (w.heap.size + 1 + 1) (.int .i64 Z0) v1 v2 v3 v4 v5 v6).cell? ⟨w.heap.size + 1 + 1, 3, none⟩ = some (.slice aw nw cw) ∧ (S7 w2 (w.heap.size + 1 + 1) (.int .i64 Z0) v1 v2 v3 v4 v5 v6).cell? ⟨w.heap.size + 1 + 1, 4, none⟩ = some (.slice aa na ca) ∧ (S7 w2 (w.heap.size + 1 + 1) (.int .i64 Z0) v1 v2 v3 v4 v5 v6).cell? ⟨w.heap.size + 1 + 1, 5, none⟩ = some (.slice ab nb cb) ∧ (S7 w2 (w.heap.size + 1 + 1) (.int .i64 Z0) v1 v2 v3 v4 v5 v6).cell? ⟨w.heap.size + 1 + 1, 6, none⟩ = some (.slice ac nc cc)) ∧ Free7 (w.heap.size + 1) (S7 w2 (w.heap.size + 1 + 1) (.int .i64 Z0) v1 v2 v3 v4 v5 v6) ∧ AnsE (cmdE L) p sg d w (.ok co r) (.returned (.agg #[.int .i64 Z, .slice an nn cn, .slice av nv cv, .slice aw nw cw, .slice aa na ca, .slice ab nb cb, .slice ac nc cc])) (S7 (S7 w2 (w.heap.size + 1 + 1) (.int .i64 Z0) v1 v2 v3 v4 v5 v6) (w.heap.size + 1) (.int .i64 Z) (.slice an nn cn) (.slice av nv cv) (.slice aw nw cw) (.slice aa na ca) (.slice ab nb cb) (.slice ac nc cc)) ∧ (S7 (S7 w2 (w.heap.size + 1 + 1) (.int .i64 Z0) v1 v2 v3 v4 v5 v6) (w.heap.size + 1) (.int .i64 Z) (.slice an nn cn) (.slice av nv cv) (.slice aw nw cw) (.slice aa na ca) (.slice ab nb cb) (.slice ac nc cc)).heap[w.heap.size + 1]? = some (.cells #[.int .i64 Z, .slice an nn cn, .slice av nv cv, .slice aw nw cw, .slice aa na ca, .slice ab nb cb, .slice ac nc cc] 37 (0, 0))) := by
   show ∀ _, _
   intro w1 w2 Z0 v1 v2 v3 v4 v5 v6 m1 hF hz hZ hq h2 m2
   obtain ⟨a1, a2, a3, a4⟩ := lay_co (b := w.heap.size + 1 + 1) (by omega) hF hZ hq h2 m2
   exact ⟨a1, cob_fin hL hp a2 (by omega) a3 ((Mv2.of m1).trans a4)⟩
  clear hr AT1
  unfold QW at AT2 DONE0 c0 kk
  unfold S7 at DONE0
  go_enter Tryz.func79, Tryz.ntmps79
  go_wp2_with (first
   | (go_at_call 75; (with_reducible refine kk.mono ?_); rintro e w1 ⟨rfl, hb1⟩; obtain ⟨d0, m1, f1, z1, ks⟩ := AT2.out w1 hb1; have M1 := Lib.hid (And.intro m1 (And.intro f1 z1)); clear hb1 m1 f1 z1)
   | (go_at_call 111; (with_reducible refine ks.mono ?_); rintro e w2 ⟨⟨Z0, en1, en2, en3, ev1, ev2, ev3, ew1, ew2, ew3, ea1, ea2, ea3, eb1, eb2, eb3, ec1, ec2, ec3, rfl, hZ, hq⟩, h2, m2⟩; obtain ⟨FR2, DONE⟩ := DONE0.out _ w2 _ _ _ _ _ _ _ M1.out.1 M1.out.2.1 M1.out.2.2 hZ hq h2 m2; clear hZ hq h2 m2; obtain ⟨k0, k1, k2, k3, k4, k5, k6, f0, f1, f2, f3, f4, f5, f6, t0, t1, t2, t3, t4, t5, t6, t7⟩ := FR2; clear t7; obtain ⟨Z, an, nn, cn, av, nv, cv, aw, nw, cw, aa, na, ca, ab, nb, cb, ac, nc, cc, ⟨u0, u1, u2, u3, u4, u5, u6⟩, FR, AN, HP⟩ := DONE; obtain ⟨g0, g1, g2, g3, g4, g5, g6, x0, x1, x2, x3, x4, x5, x6, y0, y1, y2, y3, y4, y5, y6, y7⟩ := FR; have HAN := Lib.hid AN; have HHP := Lib.hid HP; clear AN HP y7))
  have cs7 := cells_seven HHP.out
  refine bodyPost_ret (v := .agg #[.int .i64 Z, .slice an nn cn, .slice av nv cv, .slice aw nw cw, .slice aa na ca, .slice ab nb cb, .slice ac nc cc]) (by simp [results, Tryz.results79, go_sem, cs7]) rfl ?_
  exact HAN.out
end Go.Proofs.YtelfgobjnibooaaGreatDoor
namespace Go.Proofs.YtelfgobjnibooaaGreatDoor
open Go.RowKit Go.Lib
theorem command_choice (L : ValP (List Co)) (sub : Deeper) (p : Nat) (sg : Value) (d : Nat) (hv : Lv L sub p sg d) (l : List UInt8) (w : World) (h : Rs p l sg d w) (hE : EnvS p sg w) (hl : l.length ≤ 1048576) (hk : keyS l = [105, 102]) :
  Calls Tryz.prog 79 #[.pointer (some ⟨p, 0, none⟩)] w (AnsE (cmdE L) p sg d w (withinS sub choiceS (l.drop 2))) := by
 have hp := h.lt
 have hl1 : (l.drop 2).length ≤ 1048576 := by rw [List.length_drop]; omega
 cases hs : sub with
 | none =>
  have hd := hv.top hs
  subst hd
  exact cmd_sub1_bad 7 p l sg 30 w h hE hl hk fun W hW _ _ _ _ => (within_deep p _ _ sg W hW).mono fun e w' hh => ⟨hh.1, Mv2.of hh.2⟩
 | some g =>
  have hd := hv.lt g hs
  have G := hv.down hs
  have kl := fun w0 h0 e0 => choice_any L g p sg (d + 1) G (l.drop 2) w0 h0 e0 hl1
  have hcell : ∀ W w0 : World, W.cell? ⟨w.heap.size, 0, none⟩ = some (.pointer (some ⟨p, 0, none⟩)) → Mvd p W w0 → w.heap.size + 3 ≤ W.heap.size → w0.cell? ⟨w.heap.size, 0, none⟩ = some (.pointer (some ⟨p, 0, none⟩)) := fun W w0 hc m0 hz => by
   have : w0.heap[w.heap.size]? = W.heap[w.heap.size]? := m0.high _ (by omega) (by omega)
   unfold World.cell? at hc ⊢
   rw [this]; exact hc
  show Calls _ _ _ _ (AnsE (cmdE L) p sg d w (choiceS g (l.drop 2)))
  cases hr : choiceS g (l.drop 2) with
  | bad x =>
   rw [hr] at kl
   refine cmd_sub1_bad x p l sg d w h hE hl hk fun W hW hEW hc hF hz => ?_
   refine within_bad 105 _ enters_cmd1 p (l.drop 2) sg d x W hW hd (fun w' => Mv2 p (w.heap.size + 1 + 1) W w') fun w0 h0 m0 hz0 => ?_
   exact (cmd1_bad L p w.heap.size (w.heap.size + 1 + 1) x sg (d + 1) w0 (kl w0 h0 (hEW.below m0.low)) (hcell W w0 hc m0 hz)).mono fun e w' hh => ⟨hh.1, (Mv2.of m0).trans hh.2⟩
  | ok co r =>
   rw [hr] at kl
   refine cmd_sub1_ok L hv.good r co p l sg d w h hE hl hk fun W hW hEW hc hF hz => ?_
   refine (within_ok 105 _ enters_cmd1 p (l.drop 2) r sg d W hW hd (fun w' => CoB L (w.heap.size + 1 + 1) (NewF W.heap.size w'.heap.size) co w' ∧ Mv2 p (w.heap.size + 1 + 1) W w') fun w0 h0 m0 hz0 => ?_).mono ?_
   ·have hF0 : Free7 (w.heap.size + 1 + 1) w0 := by
     obtain ⟨_, _, _, _, _, _, _, x0, x1, x2, x3, x4, x5, x6, _, _, _, _, _, _, _, hblk⟩ := hF
     exact free7_of ((m0.high _ (by omega) (by omega)).trans hblk)
    refine (cmd1_ok L hv.good p w.heap.size (w.heap.size + 1 + 1) r co sg (d + 1) w0 (kl w0 h0 (hEW.below m0.low)) (by omega) (hcell W w0 hc m0 hz) hF0).mono ?_
    rintro e w' ⟨rfl, a1, a2, a3⟩
    exact ⟨rfl, a1, by rw [← hz0]; exact a2, (Mv2.of m0).trans a3⟩
   ·rintro e w' ⟨rfl, w1, a1, ⟨a2, a3⟩, a5, rfl⟩
    have hsz : (w1.setCell ⟨p, 2, none⟩ (.int .i64 (d : Int))).heap.size = w1.heap.size := by simp
    refine ⟨rfl, a5, ?_, a3.trans (Mv2.of (Mvd.set p 2 _ w1))⟩
    obtain ⟨Z, cs, b1, b2, b3⟩ := a2
    refine ⟨Z, cs, b1, ?_, (Below.heap_setCell _ _ _ _ (by show w.heap.size + 1 + 1 ≠ p; omega)).trans b3⟩
    rw [hsz]
    exact (cmdE L).same _ _ _ _ _ (fun g hg => Below.heap_setCell _ _ _ _ (by show g ≠ p; have := hg.1; omega)) b2
theorem command_rounds (L : ValP (List Co)) (sub : Deeper) (p : Nat) (sg : Value) (d : Nat) (hv : Lv L sub p sg d) (l : List UInt8) (w : World) (h : Rs p l sg d w) (hE : EnvS p sg w) (hl : l.length ≤ 1048576) (hk : keyS l = [119, 104, 105, 108, 101]) :
  Calls Tryz.prog 79 #[.pointer (some ⟨p, 0, none⟩)] w (AnsE (cmdE L) p sg d w (withinS sub roundsS (l.drop 5))) := by
 have hp := h.lt
 have hl1 : (l.drop 5).length ≤ 1048576 := by rw [List.length_drop]; omega
 cases hs : sub with
 | none =>
  have hd := hv.top hs
  subst hd
  exact cmd_sub2_bad 7 p l sg 30 w h hE hl hk fun W hW _ _ _ _ => (within_deep p _ _ sg W hW).mono fun e w' hh => ⟨hh.1, Mv2.of hh.2⟩
 | some g =>
  have hd := hv.lt g hs
  have G := hv.down hs
  have kl := fun w0 h0 e0 => rounds_any L g p sg (d + 1) G (l.drop 5) w0 h0 e0 hl1
  have hcell : ∀ W w0 : World, W.cell? ⟨w.heap.size, 0, none⟩ = some (.pointer (some ⟨p, 0, none⟩)) → Mvd p W w0 → w.heap.size + 3 ≤ W.heap.size → w0.cell? ⟨w.heap.size, 0, none⟩ = some (.pointer (some ⟨p, 0, none⟩)) := fun W w0 hc m0 hz => by
   have : w0.heap[w.heap.size]? = W.heap[w.heap.size]? := m0.high _ (by omega) (by omega)
   unfold World.cell? at hc ⊢
   rw [this]; exact hc
  show Calls _ _ _ _ (AnsE (cmdE L) p sg d w (roundsS g (l.drop 5)))
  cases hr : roundsS g (l.drop 5) with
  | bad x =>
   rw [hr] at kl
   refine cmd_sub2_bad x p l sg d w h hE hl hk fun W hW hEW hc hF hz => ?_
   refine within_bad 107 _ enters_cmd2 p (l.drop 5) sg d x W hW hd (fun w' => Mv2 p (w.heap.size + 1 + 1) W w') fun w0 h0 m0 hz0 => ?_
   exact (cmd2_bad L p w.heap.size (w.heap.size + 1 + 1) x sg (d + 1) w0 (kl w0 h0 (hEW.below m0.low)) (hcell W w0 hc m0 hz)).mono fun e w' hh => ⟨hh.1, (Mv2.of m0).trans hh.2⟩
  | ok co r =>
   rw [hr] at kl
   refine cmd_sub2_ok L hv.good r co p l sg d w h hE hl hk fun W hW hEW hc hF hz => ?_
   refine (within_ok 107 _ enters_cmd2 p (l.drop 5) r sg d W hW hd (fun w' => CoB L (w.heap.size + 1 + 1) (NewF W.heap.size w'.heap.size) co w' ∧ Mv2 p (w.heap.size + 1 + 1) W w') fun w0 h0 m0 hz0 => ?_).mono ?_
   ·have hF0 : Free7 (w.heap.size + 1 + 1) w0 := by
     obtain ⟨_, _, _, _, _, _, _, x0, x1, x2, x3, x4, x5, x6, _, _, _, _, _, _, _, hblk⟩ := hF
     exact free7_of ((m0.high _ (by omega) (by omega)).trans hblk)
    refine (cmd2_ok L hv.good p w.heap.size (w.heap.size + 1 + 1) r co sg (d + 1) w0 (kl w0 h0 (hEW.below m0.low)) (by omega) (hcell W w0 hc m0 hz) hF0).mono ?_
    rintro e w' ⟨rfl, a1, a2, a3⟩
    exact ⟨rfl, a1, by rw [← hz0]; exact a2, (Mv2.of m0).trans a3⟩
   ·rintro e w' ⟨rfl, w1, a1, ⟨a2, a3⟩, a5, rfl⟩
    have hsz : (w1.setCell ⟨p, 2, none⟩ (.int .i64 (d : Int))).heap.size = w1.heap.size := by simp
    refine ⟨rfl, a5, ?_, a3.trans (Mv2.of (Mvd.set p 2 _ w1))⟩
    obtain ⟨Z, cs, b1, b2, b3⟩ := a2
    refine ⟨Z, cs, b1, ?_, (Below.heap_setCell _ _ _ _ (by show w.heap.size + 1 + 1 ≠ p; omega)).trans b3⟩
    rw [hsz]
    exact (cmdE L).same _ _ _ _ _ (fun g hg => Below.heap_setCell _ _ _ _ (by show g ≠ p; have := hg.1; omega)) b2
theorem command_each (L : ValP (List Co)) (sub : Deeper) (p : Nat) (sg : Value) (d : Nat) (hv : Lv L sub p sg d) (l : List UInt8) (w : World) (h : Rs p l sg d w) (hE : EnvS p sg w) (hl : l.length ≤ 1048576) (hk : keyS l = [102, 111, 114]) :
  Calls Tryz.prog 79 #[.pointer (some ⟨p, 0, none⟩)] w (AnsE (cmdE L) p sg d w (withinS sub eachS (l.drop 3))) := by
 have hp := h.lt
 have hl1 : (l.drop 3).length ≤ 1048576 := by rw [List.length_drop]; omega
 cases hs : sub with
 | none =>
  have hd := hv.top hs
  subst hd
  exact cmd_sub3_bad 7 p l sg 30 w h hE hl hk fun W hW _ _ _ _ => (within_deep p _ _ sg W hW).mono fun e w' hh => ⟨hh.1, Mv2.of hh.2⟩
 | some g =>
  have hd := hv.lt g hs
  have G := hv.down hs
  have kl := fun w0 h0 e0 => each_any L g p sg (d + 1) G (l.drop 3) w0 h0 e0 hl1
  have hcell : ∀ W w0 : World, W.cell? ⟨w.heap.size, 0, none⟩ = some (.pointer (some ⟨p, 0, none⟩)) → Mvd p W w0 → w.heap.size + 3 ≤ W.heap.size → w0.cell? ⟨w.heap.size, 0, none⟩ = some (.pointer (some ⟨p, 0, none⟩)) := fun W w0 hc m0 hz => by
   have : w0.heap[w.heap.size]? = W.heap[w.heap.size]? := m0.high _ (by omega) (by omega)
   unfold World.cell? at hc ⊢
   rw [this]; exact hc
  show Calls _ _ _ _ (AnsE (cmdE L) p sg d w (eachS g (l.drop 3)))
  cases hr : eachS g (l.drop 3) with
  | bad x =>
   rw [hr] at kl
   refine cmd_sub3_bad x p l sg d w h hE hl hk fun W hW hEW hc hF hz => ?_
   refine within_bad 109 _ enters_cmd3 p (l.drop 3) sg d x W hW hd (fun w' => Mv2 p (w.heap.size + 1 + 1) W w') fun w0 h0 m0 hz0 => ?_
   exact (cmd3_bad L p w.heap.size (w.heap.size + 1 + 1) x sg (d + 1) w0 (kl w0 h0 (hEW.below m0.low)) (hcell W w0 hc m0 hz)).mono fun e w' hh => ⟨hh.1, (Mv2.of m0).trans hh.2⟩
  | ok co r =>
   rw [hr] at kl
   refine cmd_sub3_ok L hv.good r co p l sg d w h hE hl hk fun W hW hEW hc hF hz => ?_
   refine (within_ok 109 _ enters_cmd3 p (l.drop 3) r sg d W hW hd (fun w' => CoB L (w.heap.size + 1 + 1) (NewF W.heap.size w'.heap.size) co w' ∧ Mv2 p (w.heap.size + 1 + 1) W w') fun w0 h0 m0 hz0 => ?_).mono ?_
   ·have hF0 : Free7 (w.heap.size + 1 + 1) w0 := by
     obtain ⟨_, _, _, _, _, _, _, x0, x1, x2, x3, x4, x5, x6, _, _, _, _, _, _, _, hblk⟩ := hF
     exact free7_of ((m0.high _ (by omega) (by omega)).trans hblk)
    refine (cmd3_ok L hv.good p w.heap.size (w.heap.size + 1 + 1) r co sg (d + 1) w0 (kl w0 h0 (hEW.below m0.low)) (by omega) (hcell W w0 hc m0 hz) hF0).mono ?_
    rintro e w' ⟨rfl, a1, a2, a3⟩
    exact ⟨rfl, a1, by rw [← hz0]; exact a2, (Mv2.of m0).trans a3⟩
   ·rintro e w' ⟨rfl, w1, a1, ⟨a2, a3⟩, a5, rfl⟩
    have hsz : (w1.setCell ⟨p, 2, none⟩ (.int .i64 (d : Int))).heap.size = w1.heap.size := by simp
    refine ⟨rfl, a5, ?_, a3.trans (Mv2.of (Mvd.set p 2 _ w1))⟩
    obtain ⟨Z, cs, b1, b2, b3⟩ := a2
    refine ⟨Z, cs, b1, ?_, (Below.heap_setCell _ _ _ _ (by show w.heap.size + 1 + 1 ≠ p; omega)).trans b3⟩
    rw [hsz]
    exact (cmdE L).same _ _ _ _ _ (fun g hg => Below.heap_setCell _ _ _ _ (by show g ≠ p; have := hg.1; omega)) b2
theorem command_any (L : ValP (List Co)) (sub : Deeper) (p : Nat) (sg : Value) (d : Nat) (hv : Lv L sub p sg d) (l : List UInt8) (w : World) (h : Rs p l sg d w) (hE : EnvS p sg w) (hl : l.length ≤ 1048576) :
  Calls Tryz.prog 79 #[.pointer (some ⟨p, 0, none⟩)] w (AnsE (cmdE L) p sg d w (cmdS sub l)) := by
 unfold cmdS
 by_cases h1 : keyS l = [105, 102]
 ·rw [if_pos h1]; exact command_choice L sub p sg d hv l w h hE hl h1
 ·rw [if_neg h1]
  by_cases h2 : keyS l = [119, 104, 105, 108, 101]
  ·rw [if_pos h2]; exact command_rounds L sub p sg d hv l w h hE hl h2
  ·rw [if_neg h2]
   by_cases h3 : keyS l = [102, 111, 114]
   ·rw [if_pos h3]; exact command_each L sub p sg d hv l w h hE hl h3
   ·rw [if_neg h3]; exact cmd_simple L sub p sg d hv l w h hE hl h1 h2 h3
end Go.Proofs.YtelfgobjnibooaaGreatDoor
