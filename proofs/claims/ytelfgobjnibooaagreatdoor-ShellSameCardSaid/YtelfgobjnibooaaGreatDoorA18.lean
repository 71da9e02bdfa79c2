/- Packed texts: ShLine, ShList, ShLevels. What each of them proves stands above its theorems; the conditions stand in these. -/
import Derived.Test.YtelfgobjnibooaaGreatDoorA17
namespace Go.Proofs.YtelfgobjnibooaaGreatDoor
open Go.RowKit Go.Lib
theorem copy_ans {M : ValP (List Co)} {p b : Nat} {sg : Value} {d : Nat} {co : Co} {r : List UInt8} {Z : Int} {v1 v2 v3 v4 v5 v6 : Value} {w W0 w1 : World} (hp : p < w.heap.size) (hb : w.heap.size ≤ b) (hbW : b < W0.heap.size) (hW : Below w.heap.size w W0) (hz7 : W0.heap[b]? = some (.cells #[.int .i64 0, .slice none 0 0, .slice none 0 0, .slice none 0 0, .slice none 0 0, .slice none 0 0, .slice none 0 0] 37 (0, 0))) (hZ : Z = (co.k : Int)) (hq : (cmdE M).q (NewF W0.heap.size w1.heap.size) w1 co [.int .i64 Z, v1, v2, v3, v4, v5, v6]) (hr : Rs p r sg d w1) (hm : Mvd p W0 w1) :
  Free7 b w1 ∧ AnsE (cmdE M) p sg d w (.ok co r) (.returned (.agg #[.int .i64 Z, v1, v2, v3, v4, v5, v6])) (S7 w1 b (.int .i64 Z) v1 v2 v3 v4 v5 v6) ∧ (S7 w1 b (.int .i64 Z) v1 v2 v3 v4 v5 v6).heap[b]? = some (.cells #[.int .i64 Z, v1, v2, v3, v4, v5, v6] 37 (0, 0)) := by
 have hy := (hm.high b (by omega) hbW).trans hz7
 have hmd : Mvd p w w1 := (Mvd.of hW hp).trans hm
 refine ⟨free7_of hy, ?_, S7_heap _ _ _ _ _ _ _ hy⟩
 subst hZ
 obtain ⟨k, n, v, ww, a, bb, cc⟩ := co
 obtain ⟨vn, vv, vw, va, vb, vc, h0, k1, k2, k3, k4, k5, k6⟩ := hq
 injection h0 with _ h0
 injection h0 with e1 h0
 injection h0 with e2 h0
 injection h0 with e3 h0
 injection h0 with e4 h0
 injection h0 with e5 h0
 injection h0 with e6 h0
 subst e1 e2 e3 e4 e5 e6
 have up : ∀ g, NewF W0.heap.size w1.heap.size g → NewF (b + 1) w1.heap.size g := fun g hg => ⟨by have := hg.1; omega, hg.2⟩
 exact cmd_ans (k := k) hp hb hr hmd (StrV.mono _ _ _ _ _ up k1) ((WdsV M).mono _ _ _ _ _ up k2) ((WdsV M).mono _ _ _ _ _ up k3) (M.mono _ _ _ _ _ up k4) (M.mono _ _ _ _ _ up k5) (M.mono _ _ _ _ _ up k6) hy
set_option maxHeartbeats 4000000 in
set_option maxRecDepth 20000 in
theorem pipe_any (L M : ValP (List Co)) (sub : Deeper) (hM : GoodL M) (hup : Ups L M) (hrow : Ups (RowV (cmdE L) 37) M) (p a3 a4 B0 : Nat) (sg : Value) (d : Nat) (hv : Lv L sub p sg d) (h3 : a3 < B0) (h4 : a4 < B0) (hp3 : p ≠ a3) (hp4 : p ≠ a4) (l : List UInt8) (w : World) (h : Rs p l sg d w) (hE : EnvS p sg w) (hK : LineK p a3 a4 w) (hB0 : B0 ≤ w.heap.size) (hl : l.length ≤ 1048576) :
  Calls Tryz.prog 78 #[.pointer (some ⟨a3, 0, none⟩), .pointer (some ⟨a4, 0, none⟩)] w (AnsE (cmdE M) p sg d w (pipeS sub l)) := by
 obtain ⟨z, hb, b1⟩ := RW_facts w
 have hp := h.lt
 have hmf : ∀ (fn : Fn) (first cap : Array Value) (w : World), (Instr.makeFunc fn first cap).run Tryz.prog w = .ok (.func fn first cap) w := fun _ _ _ _ => rfl
 have hK1 : LineK p a3 a4 (RW w) := lineK_keep h3 h4 hp3 hp4 w _ hK fun g _ hg => hb.block g (by omega)
 have kr := (show Calls Tryz.prog 76 #[.int .i64 2, .string ⟨#[124]⟩, .func (.func 79) #[.pointer (some ⟨p, 0, none⟩)] #[], .func (.func 80) #[] #[], .pointer (some ⟨a4, 0, none⟩)] (RW w) (AnsE (cmdE M) p sg d (RW w) (pipeS sub l)) from row_any L M hv.good hM hup hrow p a4 sg d 2 2 rfl [124] (.inl rfl) 79 80 _ _ enters_cmd enters_fits1 (cmdS sub) plainC (LineK p a3 a4) B0 (one_cmd L sub p a3 a4 B0 sg d hv h3 h4 hp3 hp4) l (RW w) (by omega) (h.below hb) (hE.below (hb.mono (Nat.le_of_lt hp))) hK1 hl)
 have he := enters_row
 have q3 : (RW w).cell? ⟨a3, 0, none⟩ = some (.func (.func 76) #[] #[.pointer (some ⟨a4, 0, none⟩)]) := by rw [cell_of_heap hK1.1]; rfl
 have q4 : (RW w).cell? ⟨a4, 0, none⟩ = some (.pointer (some ⟨p, 0, none⟩)) := by rw [cell_of_heap hK1.2]; rfl
 cases hr : pipeS sub l with
 | bad x =>
  rw [hr] at kr
  have kr : Calls Tryz.prog 76 #[.int .i64 2, .string ⟨#[124]⟩, .func (.func 79) #[.pointer (some ⟨p, 0, none⟩)] #[], .func (.func 80) #[] #[], .pointer (some ⟨a4, 0, none⟩)] (RW w) fun e w' => e = errS x ∧ Mvd p (RW w) w' := kr
  have OUT := Lib.hid (fun w1 (m : Mvd p (RW w) w1) => (Mvd.of hb hp).trans m)
  show Calls _ _ _ _ fun e w' => e = errS x ∧ Mvd p w w'
  clear h hE hK hK1 b1 hb hr
  unfold errS at kr ⊢
  unfold RW at kr OUT q3 q4
  go_enter Tryz.func78, Tryz.ntmps78
  go_wp2_with (go_at_fn 76; (with_reducible refine kr.mono ?_); rintro e w1 ⟨rfl, m1⟩)
  exact ⟨rfl, rfl, OUT.out _ m1⟩
 | ok co r =>
  rw [hr] at kr
  have kr := kr.mono fun e w' => ansCo hM
  have CP := Lib.hid (fun w1 Z v1 v2 v3 v4 v5 v6 (hZ : Z = (co.k : Int)) (hq : (cmdE M).q (NewF (RW w).heap.size w1.heap.size) w1 co [.int .i64 Z, v1, v2, v3, v4, v5, v6]) (h1 : Rs p r sg d w1) (m1 : Mvd p (RW w) w1) => copy_ans hp (Nat.le_refl _) (by omega) hb b1 hZ hq h1 m1)
  clear h hE hK hK1 b1 hb hr
  unfold RW at kr CP q3 q4
  go_enter Tryz.func78, Tryz.ntmps78
  go_wp2_with (go_at_fn 76; (with_reducible refine kr.mono ?_); rintro e w1 ⟨⟨Z, an, nn, cn, av, nv, cv, aw, nw, cw, aa, na, ca, ab, nb, cb, ac, nc, cc, rfl, hZ, hq⟩, h1, m1⟩; obtain ⟨FR, AN, HP⟩ := CP.out w1 _ _ _ _ _ _ _ hZ hq h1 m1; obtain ⟨g0, g1, g2, g3, g4, g5, g6, x0, x1, x2, x3, x4, x5, x6, y0, y1, y2, y3, y4, y5, y6, y7⟩ := FR; have HAN := Lib.hid AN; have HHP := Lib.hid HP; clear hZ hq h1 m1 AN HP y7)
  have cs7 := cells_seven HHP.out
  unfold S7 at cs7 HAN
  refine bodyPost_ret (v := .agg #[.int .i64 Z, .slice an nn cn, .slice av nv cv, .slice aw nw cw, .slice aa na ca, .slice ab nb cb, .slice ac nc cc]) (by simp [results, Tryz.results78, go_sem, cs7]) rfl ?_
  exact HAN.out
theorem one_pipe (L M : ValP (List Co)) (sub : Deeper) (hM : GoodL M) (hup : Ups L M) (hrow : Ups (RowV (cmdE L) 37) M) (p a3 a4 B0 : Nat) (sg : Value) (d : Nat) (hv : Lv L sub p sg d) (h3 : a3 < B0) (h4 : a4 < B0) (hp3 : p ≠ a3) (hp4 : p ≠ a4) : OneK M p a4 B0 sg d 78 81 #[] #[.pointer (some ⟨a3, 0, none⟩), .pointer (some ⟨a4, 0, none⟩)] (pipeS sub) (fun _ => true) (fun w => LineK p a3 a4 w ∧ B0 ≤ w.heap.size) where
 keep w w' h hs k := ⟨lineK_keep h3 h4 hp3 hp4 w w' h.1 k, Nat.le_trans h.2 hs⟩
 cell w h := by rw [cell_of_heap h.1.2]; rfl
 call l w h hE hK hl := pipe_any L M sub hM hup hrow p a3 a4 B0 sg d hv h3 h4 hp3 hp4 l w h hE hK.1 hK.2 hl
 nice := pipeS_nice hv.nice
 lt := pipeS_lt hv.nice
 fit c Z an nn cn av nv cv aw nw cw aa na ca ab nb cb ac nc cc w _ _ := fits_all Z an nn cn av nv cv aw nw cw aa na ca ab nb cb ac nc cc w
def LW0 (p : Nat) (w : World) : World := ((w.alloc (.cells #[.pointer (some ⟨p, 0, none⟩)] 81)).alloc (.cells #[.int .i64 0, .slice none 0 0, .slice none 0 0, .slice none 0 0, .slice none 0 0, .slice none 0 0, .slice none 0 0] 37)).alloc (.cells #[.nilFunc] (98 : TypeId))
def LW (p : Nat) (w : World) : World := ((w.alloc (.cells #[.pointer (some ⟨p, 0, none⟩)] 81)).alloc (.cells #[.int .i64 0, .slice none 0 0, .slice none 0 0, .slice none 0 0, .slice none 0 0, .slice none 0 0, .slice none 0 0] 37)).alloc (.cells #[.func (.func 76) #[] #[.pointer (some ⟨w.heap.size, 0, none⟩)]] (98 : TypeId))
theorem LW_main (O1 O2 O3 : Obj) (w : World) : (((w.alloc O1).alloc O2).alloc O3).heap.size = w.heap.size + 3 ∧ Below w.heap.size w (((w.alloc O1).alloc O2).alloc O3) ∧ (((w.alloc O1).alloc O2).alloc O3).heap[w.heap.size]? = some O1 ∧ (((w.alloc O1).alloc O2).alloc O3).heap[w.heap.size + 1]? = some O2 ∧ (((w.alloc O1).alloc O2).alloc O3).heap[w.heap.size + 1 + 1]? = some O3 := by
 have z1 : (w.alloc O1).heap.size = w.heap.size + 1 := by simp
 have z2 : ((w.alloc O1).alloc O2).heap.size = w.heap.size + 1 + 1 := by simp
 have h1 := heap_alloc_new w O1
 have h2 := heap_alloc_new (w.alloc O1) O2
 rw [z1] at h2
 have h3 := heap_alloc_new ((w.alloc O1).alloc O2) O3
 rw [z2] at h3
 refine ⟨by simp, ((((Below.refl _ w).alloc (Nat.le_refl _) _).alloc (by simp) _).alloc (by rw [z2]; omega) _), ?_, ?_, h3⟩
 ·rw [Below.heap_alloc _ _ _ (by omega), Below.heap_alloc _ _ _ (by omega)]; exact h1
 ·rw [Below.heap_alloc _ _ _ (by omega)]; exact h2
theorem LW_facts (p : Nat) (w : World) : (LW p w).heap.size = w.heap.size + 3 ∧ Below w.heap.size w (LW p w) ∧ (LW p w).heap[w.heap.size + 1]? = some (.cells #[.int .i64 0, .slice none 0 0, .slice none 0 0, .slice none 0 0, .slice none 0 0, .slice none 0 0, .slice none 0 0] 37 (0, 0)) ∧ LineK p (w.heap.size + 1 + 1) w.heap.size (LW p w) ∧ (LW0 p w).cell? ⟨w.heap.size + 1 + 1, 0, none⟩ = some .nilFunc ∧ (LW0 p w).frozen? ⟨w.heap.size + 1 + 1, 0, none⟩ = false := by
 obtain ⟨e1, e2, e3, e4, e5⟩ := LW_main (.cells #[.pointer (some ⟨p, 0, none⟩)] 81) (.cells #[.int .i64 0, .slice none 0 0, .slice none 0 0, .slice none 0 0, .slice none 0 0, .slice none 0 0, .slice none 0 0] 37) (.cells #[.func (.func 76) #[] #[.pointer (some ⟨w.heap.size, 0, none⟩)]] (98 : TypeId)) w
 obtain ⟨_, _, _, _, f5⟩ := LW_main (.cells #[.pointer (some ⟨p, 0, none⟩)] 81) (.cells #[.int .i64 0, .slice none 0 0, .slice none 0 0, .slice none 0 0, .slice none 0 0, .slice none 0 0, .slice none 0 0] 37) (.cells #[.nilFunc] (98 : TypeId)) w
 have f5 : (LW0 p w).heap[w.heap.size + 1 + 1]? = some (.cells #[.nilFunc] (98 : TypeId) (0, 0)) := f5
 exact ⟨e1, e2, e4, ⟨e5, e3⟩, by rw [cell_of_heap f5]; rfl, frozen_of_heap f5 _⟩
set_option maxHeartbeats 4000000 in
set_option maxRecDepth 20000 in
theorem line_any (L M M2 : ValP (List Co)) (sub : Deeper) (hM : GoodL M) (hup : Ups L M) (hrow : Ups (RowV (cmdE L) 37) M) (hM2 : GoodL M2) (hup2 : Ups M M2) (hrow2 : Ups (RowV (cmdE M) 37) M2) (p : Nat) (sg : Value) (d : Nat) (hv : Lv L sub p sg d) (l : List UInt8) (w : World) (h : Rs p l sg d w) (hE : EnvS p sg w) (hl : l.length ≤ 1048576) :
  Calls Tryz.prog 49 #[.pointer (some ⟨p, 0, none⟩)] w (AnsE (cmdE M2) p sg d w (lineS sub l)) := by
 obtain ⟨z, hb, b1, hK, cn0, fn0⟩ := LW_facts p w
 have hp := h.lt
 have hmf : ∀ (fn : Fn) (first cap : Array Value) (w : World), (Instr.makeFunc fn first cap).run Tryz.prog w = .ok (.func fn first cap) w := fun _ _ _ _ => rfl
 have kr := (show Calls Tryz.prog 76 #[.int .i64 3, .string ⟨#[124, 124]⟩, .func (.func 78) #[] #[.pointer (some ⟨w.heap.size + 1 + 1, 0, none⟩), .pointer (some ⟨w.heap.size, 0, none⟩)], .func (.func 81) #[] #[], .pointer (some ⟨w.heap.size, 0, none⟩)] (LW p w) (AnsE (cmdE M2) p sg d (LW p w) (lineS sub l)) from row_any M M2 hM hM2 hup2 hrow2 p w.heap.size sg d 3 3 rfl [124, 124] (.inr rfl) 78 81 _ _ enters_pipe enters_fits3 (pipeS sub) (fun _ => true) (fun w' => LineK p (w.heap.size + 1 + 1) w.heap.size w' ∧ w.heap.size + 3 ≤ w'.heap.size) (w.heap.size + 3) (one_pipe L M sub hM hup hrow p (w.heap.size + 1 + 1) w.heap.size (w.heap.size + 3) sg d hv (by omega) (by omega) (by omega) (by omega)) l (LW p w) (by omega) (h.below hb) (hE.below (hb.mono (Nat.le_of_lt hp))) ⟨hK, by omega⟩ hl)
 have he := enters_row
 have hst : Sem.run Tryz.prog (store ⟨w.heap.size + 1 + 1, 0, none⟩ (.func (.func 76) #[] #[.pointer (some ⟨w.heap.size, 0, none⟩)])) (LW0 p w) = .ok () ((LW0 p w).setCell ⟨w.heap.size + 1 + 1, 0, none⟩ (.func (.func 76) #[] #[.pointer (some ⟨w.heap.size, 0, none⟩)])) := by
  rw [run_store _ _ _ _ _ rfl]
  simp [cn0, fn0]
 cases hr : lineS sub l with
 | bad x =>
  rw [hr] at kr
  have kr : Calls Tryz.prog 76 #[.int .i64 3, .string ⟨#[124, 124]⟩, .func (.func 78) #[] #[.pointer (some ⟨w.heap.size + 1 + 1, 0, none⟩), .pointer (some ⟨w.heap.size, 0, none⟩)], .func (.func 81) #[] #[], .pointer (some ⟨w.heap.size, 0, none⟩)] (LW p w) fun e w' => e = errS x ∧ Mvd p (LW p w) w' := kr
  have OUT := Lib.hid (fun w1 (m : Mvd p (LW p w) w1) => (Mvd.of hb hp).trans m)
  show Calls _ _ _ _ fun e w' => e = errS x ∧ Mvd p w w'
  clear h hE hK b1 hb hr
  unfold errS at kr ⊢
  unfold LW at kr OUT
  unfold LW0 at cn0 fn0 hst
  go_enter Tryz.func49, Tryz.ntmps49
  go_wp2_with (go_at_fn 76; (with_reducible refine kr.mono ?_); rintro e w1 ⟨rfl, m1⟩)
  exact ⟨rfl, rfl, OUT.out _ m1⟩
 | ok co r =>
  rw [hr] at kr
  have kr := kr.mono fun e w' => ansCo hM2
  have CP := Lib.hid (fun w1 Z v1 v2 v3 v4 v5 v6 (hZ : Z = (co.k : Int)) (hq : (cmdE M2).q (NewF (LW p w).heap.size w1.heap.size) w1 co [.int .i64 Z, v1, v2, v3, v4, v5, v6]) (h1 : Rs p r sg d w1) (m1 : Mvd p (LW p w) w1) => copy_ans hp (Nat.le_succ _) (by omega) hb b1 hZ hq h1 m1)
  clear h hE hK b1 hb hr
  unfold LW at kr CP
  unfold LW0 at cn0 fn0 hst
  go_enter Tryz.func49, Tryz.ntmps49
  go_wp2_with (go_at_fn 76; (with_reducible refine kr.mono ?_); rintro e w1 ⟨⟨Z, an, nn, cn, av, nv, cv, aw, nw, cw, aa, na, ca, ab, nb, cb, ac, nc, cc, rfl, hZ, hq⟩, h1, m1⟩; obtain ⟨FR, AN, HP⟩ := CP.out w1 _ _ _ _ _ _ _ hZ hq h1 m1; obtain ⟨g0, g1, g2, g3, g4, g5, g6, x0, x1, x2, x3, x4, x5, x6, y0, y1, y2, y3, y4, y5, y6, y7⟩ := FR; have HAN := Lib.hid AN; have HHP := Lib.hid HP; clear hZ hq h1 m1 AN HP y7)
  have cs7 := cells_seven HHP.out
  unfold S7 at cs7 HAN
  refine bodyPost_ret (v := .agg #[.int .i64 Z, .slice an nn cn, .slice av nv cv, .slice aw nw cw, .slice aa na ca, .slice ab nb cb, .slice ac nc cc]) (by simp [results, Tryz.results49, go_sem, cs7]) rfl ?_
  exact HAN.out
end Go.Proofs.YtelfgobjnibooaaGreatDoor
namespace Go.Proofs.YtelfgobjnibooaaGreatDoor
open Go.RowKit Go.Lib
theorem li_stop {sub : Deeper} {cs : List Co} {l : List UInt8} (h : beginsS l = false) : listStep sub cs l = .ok (.stop cs) l := by unfold listStep; exact if_pos h
theorem li_go {sub : Deeper} {cs : List Co} {l : List UInt8} (h : beginsS l = true) : listStep sub cs l = (lineS sub l).bind fun c r => if wasS shEnds r = false then .ok (.stop (cs ++ [c])) (skipS shEnds r) else .ok (.go (cs ++ [c])) (skipS shEnds r) := by unfold listStep; exact if_neg (by rw [h]; simp)
def LiI (M : ValP (List Co)) (sub : Deeper) (p : Nat) (sg : Value) (d : Nat) (w : World) (R : Rr (List Co)) (g : Nat) (v : Value) (wr : World) : Prop :=
 ∃ cs l, BldM (cmdE M) 37 w.heap.size wr v cs ∧ Rs p l sg d wr ∧ Mvd p w wr ∧ l.length ≤ g ∧ cs.length + l.length ≤ 1048576 ∧ iterS (listStep sub) cs l = R
set_option maxHeartbeats 8000000 in
set_option maxRecDepth 20000 in
theorem list_any (L M M2 M3 : ValP (List Co)) (sub : Deeper) (hM : GoodL M) (hup : Ups L M) (hrow : Ups (RowV (cmdE L) 37) M) (hM2 : GoodL M2) (hup2 : Ups M M2) (hrow2 : Ups (RowV (cmdE M) 37) M2) (hrow3 : Ups (RowV (cmdE M2) 37) M3) (p : Nat) (sg : Value) (d : Nat) (hv : Lv L sub p sg d) (l0 : List UInt8) (w : World) (h : Rs p l0 sg d w) (hE : EnvS p sg w) (hl0 : l0.length ≤ 1048576) :
  Calls Tryz.prog 29 #[.pointer (some ⟨p, 0, none⟩)] w (AnsV M3 p sg d w (listS sub l0)) := by
 have hp := h.lt
 obtain ⟨R, hR⟩ : ∃ R, iterS (listStep sub) [] (skipS shEnds l0) = R := ⟨_, rfl⟩
 have hsk := (skipS_len shEnds _ l0 rfl).1
 have ks := (show Calls Tryz.prog 47 #[.pointer (some ⟨p, 0, none⟩), .string ⟨#[59, 10]⟩] w fun e w' => e = .returned (.bool (wasS shEnds l0)) ∧ Rs p (skipS shEnds l0) sg d w' ∧ Mvd p w w' from skipS_any p shEnds l0 sg d w h hl0)
 have START := Lib.hid (fun w1 (h1 : Rs p (skipS shEnds l0) sg d w1) (m1 : Mvd p w w1) => (show LiI M2 sub p sg d w R (skipS shEnds l0).length (.slice none 0 0) w1 from ⟨[], _, BldM.nil _ _ _ _, h1, m1, Nat.le_refl _, by show 0 + _ ≤ _; omega, hR⟩))
 have HE := Lib.hid hE
 obtain ⟨i0, hi, hz0, hz1, hz2⟩ := info_parts Tryz.infoCmdZ7
 rw [show listS sub l0 = R from hR]
 clear h hE hR
 go_enter Tryz.func29, Tryz.ntmps29
 go_wp2_with (go_at_call 47; (with_reducible refine ks.mono ?_); rintro e w1 ⟨rfl, h1, m1⟩; have HST := Lib.hid (START.out w1 h1 m1); clear h1 m1)
 go_loopg [3] (skipS shEnds l0).length (fun g v wr => Hid (LiI M2 sub p sg d w R g v wr))
 case atStart => exact HST.out
 case round =>
  obtain ⟨cs, l, hB, hr, hm, hg, hcl, hR⟩ := hrel.out
  clear hrel HST hl0 hsk ks START
  rw [iterS_eq (listStep_nice hv.nice)] at hR
  have kb := beginsS_any p l sg d wr hr (by omega)
  have hEr := HE.out.below hm.low
  have HBl := Lib.hid hB
  have HM := Lib.hid hm
  have HR0 := Lib.hid hr
  have hp1 : w.heap.size ≤ wr.heap.size := hm.size
  obtain ⟨ao, cap, rfl, _⟩ := hB.row.shape
  have OWN := Lib.hid hB.own
  clear hB hr hm
  cases hbg : beginsS l with
  | false =>
   rw [li_stop hbg] at hR
   rw [hbg] at kb
   have hR2 : R = .ok cs l := hR.symm
   have FIN := Lib.hid (fun w1 (b1 : Below wr.heap.size wr w1) => (show AnsV M3 p sg d w (.ok cs l) (.returned (.slice ao cs.length cap)) w1 from by
    have m1 : Mvd p wr w1 := Mvd.of b1 HR0.out.lt
    exact ⟨⟨_, rfl, hrow3 _ _ _ _ (HBl.out.same m1.size fun g h1 h2 _ => m1.high g (by omega) h2).row⟩, HR0.out.below b1, HM.out.trans m1⟩))
   subst hR2
   clear hR hg hcl hbg hEr
   go_wp2_with (go_at_call 48; (with_reducible refine kb.mono ?_); rintro e w1 ⟨rfl, hb1⟩; have HB := Lib.hid hb1; clear hb1)
   refine bodyPost_ret (results_tmp rfl _ _ _) rfl ?_
   exact FIN.out _ HB.out
  | true =>
   rw [li_go hbg] at hR
   rw [hbg] at kb
   have KL := Lib.hid (fun w1 (b1 : Below wr.heap.size wr w1) => line_any L M M2 sub hM hup hrow hM2 hup2 hrow2 p sg d hv l w1 (HR0.out.below b1) (hEr.below (b1.mono (Nat.le_of_lt HR0.out.lt))) (by omega))
   cases hln : lineS sub l with
   | bad x =>
    rw [hln] at hR KL
    have hR2 : R = .bad x := hR.symm
    have KL2 : Hid (∀ w1, Below wr.heap.size wr w1 → Calls Tryz.prog 49 #[.pointer (some ⟨p, 0, none⟩)] w1 fun e w' => e = errS x ∧ Mvd p w1 w') := KL.out
    have OUT := Lib.hid (fun w1 w2 (b1 : Below wr.heap.size wr w1) (m2 : Mvd p w1 w2) => (HM.out.trans (Mvd.of b1 HR0.out.lt)).trans m2)
    subst hR2
    clear hR KL hg hcl hbg hEr hln
    show Code.wp _ _ _ _ _
    unfold AnsV
    unfold errS at KL2 ⊢
    go_wp2_with (first
     | (go_at_call 48; (with_reducible refine kb.mono ?_); rintro e w1 ⟨rfl, hb1⟩; have HB := Lib.hid hb1; clear hb1)
     | (go_at_call 49; (with_reducible refine (KL2.out _ HB.out).mono ?_); rintro e w2 ⟨rfl, m2⟩))
    exact ⟨rfl, rfl, OUT.out _ _ HB.out m2⟩
   | ok c r =>
    have hnn := lineS_nice hv.nice l
    have hlt := lineS_lt hv.nice l c r hln
    rw [hln] at hR KL
    have hsk := (skipS_len shEnds _ r rfl).1
    have KL2 : Hid (∀ w1, Below wr.heap.size wr w1 → Calls Tryz.prog 49 #[.pointer (some ⟨p, 0, none⟩)] w1 fun e w' => (∃ (Z : Int) (an : Option Addr) (nn cn : Nat) (av : Option Addr) (nv cv : Nat) (aw : Option Addr) (nw cw : Nat) (aa : Option Addr) (na ca : Nat) (ab : Option Addr) (nb cb : Nat) (ac : Option Addr) (nc cc : Nat), e = .returned (.agg #[.int .i64 Z, .slice an nn cn, .slice av nv cv, .slice aw nw cw, .slice aa na ca, .slice ab nb cb, .slice ac nc cc]) ∧ Z = (c.k : Int) ∧ (cmdE M2).q (NewF w1.heap.size w'.heap.size) w' c [.int .i64 Z, .slice an nn cn, .slice av nv cv, .slice aw nw cw, .slice aa na ca, .slice ab nb cb, .slice ac nc cc]) ∧ Rs p r sg d w' ∧ Mvd p w1 w') := by
     show ∀ _, _
     intro w1 b1
     exact (KL.out w1 b1).mono fun e w' => ansCo hM2
    obtain ⟨ys, hy⟩ : ∃ ys, wr.ownsRow w.heap.size 37 7 (.slice ao cs.length cap) cs.length ys := OWN.out
    have PUT : Hid (∀ (w1 w2 w6 : World) (vs : List Value) (v6 : Value), Below wr.heap.size wr w1 → (cmdE M2).q (NewF w1.heap.size w2.heap.size) w2 c vs → Rs p r sg d w2 → Mvd p w1 w2 → w6.ownsRow w.heap.size 37 7 v6 (cs.length + 1) (ys ++ vs) → (w2.alloc (.cells vs.toArray 37)).grownBy w6 (Value.slice ao cs.length cap).ownBlock → (v6.ownBlock = (Value.slice ao cs.length cap).ownBlock ∨ v6.ownBlock = some (w2.alloc (.cells vs.toArray 37)).heap.size) → BldM (cmdE M2) 37 w.heap.size w6 v6 (cs ++ [c]) ∧ Rs p r sg d w6 ∧ Mvd p w w6) := by
     show ∀ _, _
     intro w1 w2 w6 vs v6 b1 hx h2 m2 h6 hg6 hf6
     have b5 : Below w2.heap.size w2 (w2.alloc (.cells vs.toArray 37)) := (Below.refl _ w2).alloc (Nat.le_refl _) _
     have m1 : Mvd p wr w1 := Mvd.of b1 HR0.out.lt
     have hz1 := m1.size
     have hz2 := m2.size
     have mm : Mvd p wr (w2.alloc (.cells vs.toArray 37)) := m1.trans (m2.trans (Mvd.of b5 h2.lt))
     have hy5 : (w2.alloc (.cells vs.toArray 37)).ownsRow w.heap.size 37 7 (Value.slice ao cs.length cap) cs.length ys := ownS_same hy fun g hg => mm.high g (by have := (ownS_lt hy hg).1; omega) (ownS_lt hy hg).2
     have hB5 : BldM (cmdE M2) 37 w.heap.size (w2.alloc (.cells vs.toArray 37)) (Value.slice ao cs.length cap) cs := HBl.out.same mm.size fun g h1 h2 _ => mm.high g (by omega) h2
     have hx5 := (cmdE M2).same _ _ (w2.alloc (.cells vs.toArray 37)) _ _ (fun g hg => b5.block g hg.2) hx
     have hb := hB5.snoc hx5 (fun g hg => ⟨by have := hg.1; omega, by have := b5.size; have := hg.2; omega⟩) (fun g hg e => by have := (ownS_lt hy e).2; have := hg.1; omega) (fun g hg => hg.elim) hy5 h6 hg6 hf6
     have bel6 : Below w.heap.size (w2.alloc (.cells vs.toArray 37)) w6 := (Below.refl _ _).grown hg6 (by have := mm.size; omega) fun g hg => (ownS_lt hy hg).1
     have mw := HM.out.trans mm
     exact ⟨hb, (bel6.block p hp).trans (h2.below b5), ⟨mw.low.trans (bel6.mono (Nat.le_of_lt hp)), fun g a b => (bel6.block g b).trans (mw.high g a b)⟩⟩
    have OW5 : Hid (∀ (w1 w2 : World) (vs : List Value), Below wr.heap.size wr w1 → Mvd p w1 w2 → (w2.alloc (.cells vs.toArray 37)).ownsRow w.heap.size 37 7 (Value.slice ao cs.length cap) cs.length ys ∧ w.heap.size ≤ w2.heap.size) := by
     show ∀ _, _
     intro w1 w2 vs b1 m2
     have m1 : Mvd p wr w1 := Mvd.of b1 HR0.out.lt
     have mm := m1.trans m2
     exact ⟨ownS_same hy fun g hg => (Below.heap_alloc _ _ _ (by have := (ownS_lt hy hg).2; have := mm.size; omega)).trans (mm.high g (by have := (ownS_lt hy hg).1; omega) (ownS_lt hy hg).2), by have := mm.size; omega⟩
    have hbc : (cs.length + 1) * 152 ≤ 140737488355328 := by omega
    have hcz : cs.length ≤ 1048576 := by omega
    have KS := Lib.hid (fun w6 (h6 : Rs p r sg d w6) => (show Calls Tryz.prog 47 #[.pointer (some ⟨p, 0, none⟩), .string ⟨#[59, 10]⟩] w6 fun e w' => e = .returned (.bool (wasS shEnds r)) ∧ Rs p (skipS shEnds r) sg d w' ∧ Mvd p w6 w' from skipS_any p shEnds r sg d w6 h6 (by omega)))
    cases hws : wasS shEnds r with
    | false =>
     rw [hws] at KS
     have hR2 : R = .ok (cs ++ [c]) (skipS shEnds r) := by rw [← hR]; dsimp only [Rr.bind]; rw [if_pos hws]
     have FIN := Lib.hid (fun w6 w7 v6 (hp6 : BldM (cmdE M2) 37 w.heap.size w6 v6 (cs ++ [c]) ∧ Rs p r sg d w6 ∧ Mvd p w w6) (h7 : Rs p (skipS shEnds r) sg d w7) (m7 : Mvd p w6 w7) => (show AnsV M3 p sg d w (.ok (cs ++ [c]) (skipS shEnds r)) (.returned v6) w7 from ⟨⟨_, rfl, hrow3 _ _ _ _ (hp6.1.same m7.size fun g h1 h2 _ => m7.high g (by omega) h2).row⟩, h7, hp6.2.2.trans m7⟩))
     subst hR2
     clear hR KL hg hcl hbg hEr hln hy OWN hnn hlt hsk hws
     go_wp2_with (first
      | (go_at_call 48; (with_reducible refine kb.mono ?_); rintro e w1 ⟨rfl, hb1⟩; have HB := Lib.hid hb1; clear hb1)
      | (go_at_call 49; (with_reducible refine (KL2.out _ HB.out).mono ?_); rintro e w2 ⟨⟨Z, an, nn, cn, av, nv, cv, aw, nw, cw, aa, na, ca, ab, nb, cb, ac, nc, cc, rfl, hZ, hq⟩, h2, m2⟩; obtain ⟨ow, hz6⟩ := OW5.out w1 w2 [.int .i64 Z, .slice an nn cn, .slice av nv cv, .slice aw nw cw, .slice aa na ca, .slice ab nb cb, .slice ac nc cc] HB.out m2; have OW := Lib.hid ow; have PT := Lib.hid (fun w6 v6 h6 g6 f6 => PUT.out w1 w2 w6 _ v6 HB.out hq h2 m2 h6 g6 f6); clear hZ hq h2 m2 ow)
      | (at_builtin; refine wpList_append_farG _ rfl (.tmp 8) (.tmp 11) 23 rfl w.heap.size 37 i0 _ 7 152 Tryz.underlying23 hi hz0 hz1 hz2 rfl (by decide) (.slice ao cs.length cap) cs.length ys (by simp [Act.eval]) OW.out ⟨w2.heap.size, 0, none⟩ 1 [.int .i64 Z, .slice an nn cn, .slice av nv cv, .slice aw nw cw, .slice aa na ca, .slice ab nb cb, .slice ac nc cc] (by simp [Act.eval]) rfl (cells_list w2 _ _) (by simp [Value.oneCell']) (by unfold maxLen; omega) hbc (by simp; omega) ?_; intro v6 w6 h6 g6 f6; obtain ⟨ao2, cap2, rfl, _⟩ := ownS_shape h6; have HP := Lib.hid (PT.out w6 _ h6 g6 f6); clear h6 g6 f6)
      | (go_at_call 47; (with_reducible refine (KS.out _ HP.out.2.1).mono ?_); rintro e w7 ⟨rfl, h7, m7⟩; have HF := Lib.hid (FIN.out w6 w7 _ HP.out h7 m7); clear h7 m7))
     refine bodyPost_ret (results_tmp rfl _ _ _) rfl ?_
     exact HF.out
    | true =>
     rw [hws] at KS
     have hR2 : iterS (listStep sub) (cs ++ [c]) (skipS shEnds r) = R := by rw [← hR]; dsimp only [Rr.bind]; rw [if_neg (by rw [hws]; simp)]
     cases gk with
     | zero => omega
     | succ g =>
      have NEXT := Lib.hid (fun w6 w7 v6 (hp6 : BldM (cmdE M2) 37 w.heap.size w6 v6 (cs ++ [c]) ∧ Rs p r sg d w6 ∧ Mvd p w w6) (h7 : Rs p (skipS shEnds r) sg d w7) (m7 : Mvd p w6 w7) => (show LiI M2 sub p sg d w R g v6 w7 from ⟨cs ++ [c], _, hp6.1.same m7.size fun g h1 h2 _ => m7.high g (by omega) h2, h7, hp6.2.2.trans m7, by omega, by rw [List.length_append]; show _ + 1 + _ ≤ _; omega, hR2⟩))
      clear hR hR2 KL hg hcl hbg hEr hln hy OWN hnn hlt hsk hws
      go_wp2_with (first
       | (go_at_call 48; (with_reducible refine kb.mono ?_); rintro e w1 ⟨rfl, hb1⟩; have HB := Lib.hid hb1; clear hb1)
       | (go_at_call 49; (with_reducible refine (KL2.out _ HB.out).mono ?_); rintro e w2 ⟨⟨Z, an, nn, cn, av, nv, cv, aw, nw, cw, aa, na, ca, ab, nb, cb, ac, nc, cc, rfl, hZ, hq⟩, h2, m2⟩; obtain ⟨ow, hz6⟩ := OW5.out w1 w2 [.int .i64 Z, .slice an nn cn, .slice av nv cv, .slice aw nw cw, .slice aa na ca, .slice ab nb cb, .slice ac nc cc] HB.out m2; have OW := Lib.hid ow; have PT := Lib.hid (fun w6 v6 h6 g6 f6 => PUT.out w1 w2 w6 _ v6 HB.out hq h2 m2 h6 g6 f6); clear hZ hq h2 m2 ow)
       | (at_builtin; refine wpList_append_farG _ rfl (.tmp 8) (.tmp 11) 23 rfl w.heap.size 37 i0 _ 7 152 Tryz.underlying23 hi hz0 hz1 hz2 rfl (by decide) (.slice ao cs.length cap) cs.length ys (by simp [Act.eval]) OW.out ⟨w2.heap.size, 0, none⟩ 1 [.int .i64 Z, .slice an nn cn, .slice av nv cv, .slice aw nw cw, .slice aa na ca, .slice ab nb cb, .slice ac nc cc] (by simp [Act.eval]) rfl (cells_list w2 _ _) (by simp [Value.oneCell']) (by unfold maxLen; omega) hbc (by simp; omega) ?_; intro v6 w6 h6 g6 f6; obtain ⟨ao2, cap2, rfl, _⟩ := ownS_shape h6; have HP := Lib.hid (PT.out w6 _ h6 g6 f6); clear h6 g6 f6)
       | (go_at_call 47; (with_reducible refine (KS.out _ HP.out.2.1).mono ?_); rintro e w7 ⟨rfl, h7, m7⟩; have HN := Lib.hid (NEXT.out w6 w7 _ HP.out h7 m7); clear h7 m7))
      go_roundg g
      case measure => omega
      case rel => exact HN.out
end Go.Proofs.YtelfgobjnibooaaGreatDoor
namespace Go.Proofs.YtelfgobjnibooaaGreatDoor
open Go.RowKit Go.Lib
theorem ansV_ups {X : Type} {V V' : ValP X} (h : Ups V V') {p : Nat} {sg : Value} {d : Nat} {w : World} {R : Rr X} {e : Ending} {w' : World} (ha : AnsV V p sg d w R e w') : AnsV V' p sg d w R e w' := by
 cases R with
 | bad x => exact ha
 | ok x r =>
  obtain ⟨⟨v, h1, h2⟩, h3⟩ := ha
  exact ⟨⟨v, h1, h _ _ _ _ h2⟩, h3⟩
theorem cos_row (n : Nat) : Ups (RowV (cmdE (cosV n)) 37) (cosV (n + 1)) := fun _ _ _ _ h => h
theorem lv_all (p : Nat) (sg : Value) : ∀ k, k ≤ 30 → Lv (cosV (3 * k)) (lvl k) p sg (30 - k) := by
 intro k
 induction k with
 | zero => exact fun _ => ⟨cos_good 0, lvl_good 0, fun _ => rfl, fun g h => (by cases h), fun g h => (by cases h), fun g h => (by cases h)⟩
 | succ k ih =>
  intro hk
  have hv := ih (by omega)
  have hd : 30 - (k + 1) + 1 = 30 - k := by omega
  refine ⟨cos_good _, lvl_good _, fun h => (by cases h), fun g _ => (by omega), ?_, ?_⟩
  ·intro g hg l w h hE hl
   cases hg
   rw [hd] at h ⊢
   exact list_any (cosV (3 * k)) (cosV (3 * k + 1)) (cosV (3 * k + 2)) (cosV (3 * k + 3)) (lvl k) (cos_good _) (cos_succ _) (cos_row _) (cos_good _) (cos_succ _) (cos_row _) (cos_row _) p sg (30 - k) hv l w h hE hl
  ·intro g hg l w h hE hl
   cases hg
   rw [hd] at h ⊢
   exact (words_any (cosV (3 * k)) (lvl k) p sg (30 - k) hv l w h hE hl).mono fun e w' => ansV_ups (wds_ups (cos_ups (by omega)))
theorem list_top (p : Nat) (sg : Value) (l : List UInt8) (w : World) (h : Rs p l sg 0 w) (hE : EnvS p sg w) (hl : l.length ≤ 1048576) :
  Calls Tryz.prog 29 #[.pointer (some ⟨p, 0, none⟩)] w (AnsV (cosV 93) p sg 0 w (lstS 30 l)) :=
 list_any (cosV 90) (cosV 91) (cosV 92) (cosV 93) (lvl 30) (cos_good _) (cos_succ _) (cos_row _) (cos_good _) (cos_succ _) (cos_row _) (cos_row _) p sg 0 (lv_all p sg 30 (Nat.le_refl _)) l w h hE hl
end Go.Proofs.YtelfgobjnibooaaGreatDoor
