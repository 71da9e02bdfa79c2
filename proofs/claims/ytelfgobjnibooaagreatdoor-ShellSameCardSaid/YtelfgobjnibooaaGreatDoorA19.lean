/- Packed texts: ShRead, ShLaw. What each of them proves stands above its theorems; the conditions stand in these. -/
import Derived.Test.YtelfgobjnibooaaGreatDoorA1
import Derived.Test.YtelfgobjnibooaaGreatDoorA7
import Derived.Test.YtelfgobjnibooaaGreatDoorA18
namespace Go.Proofs.YtelfgobjnibooaaGreatDoor
open Go.RowKit Go.Lib
theorem cell_oneS {w : World} {g : Nat} {v : Value} {t : TypeId} (h : w.heap[g]? = some (.cells #[v] t (0, 0))) : w.cell? ⟨g, 0, none⟩ = some v ∧ w.frozen? ⟨g, 0, none⟩ = false := by
 exact ⟨by rw [cell_of_heap h]; rfl, frozen_of_heap h _⟩
theorem assert_errnoS (e : Int) (w : World) : (Instr.typeAssert (.iface 31 (.int .i64 e)) 20 31 false).run Tryz.prog w = .ok (.int .i64 e) w := by kernel_rfl
theorem shRead_idle (p q : Addr) (w : World) :
  CallsD Tryz.prog 27 #[.pointer (some p), .pointer (some q)] .returning w fun e u' w' => e = .returned (.tuple #[]) ∧ u' = .returning ∧ w' = w := by
 refine callsD_of_wpS Tryz.func27 rfl fun c₀ cs hu => ?_
 apply wpS_seq
 apply wpS_region
 simp [wpOpsS, go_sem, recoverD, hu, Tryz.ntmps27, Exit.thenS]
 apply wpS_seq
 apply wpS_region
 simp [wpOpsS, go_sem, Exit.thenS]
 refine wpS_cond (t := false) (by simp [Act.eval, Array.replicate]) ?_
 simp only [Bool.false_eq_true, if_false]
 refine wpS_of_wp (wp_skip ?_)
 cases c₀
 simp_all [bodyPostS, results, Tryz.results27]
theorem shRead_panics (g : Nat) (a : Value) (b e : Int) (t1 t2 : TypeId) (w : World)
  (ha : w.heap[g]? = some (.cells #[a] t1 (0, 0))) (hb : w.heap[g + 1]? = some (.cells #[.int .i64 b] t2 (0, 0))) :
  CallsD Tryz.prog 27 #[.pointer (some ⟨g, 0, none⟩), .pointer (some ⟨g + 1, 0, none⟩)] (.panicking [{ v := .iface 31 (.int .i64 e), recovered := false }]) w fun e' u' w' =>
   e' = .returned (.tuple #[]) ∧ u' = .panicking [{ v := .iface 31 (.int .i64 e), recovered := true }] ∧ w' = ((w.setCell ⟨g, 0, none⟩ (.slice none 0 0)).setCell ⟨g + 1, 0, none⟩ (.int .i64 e)).drew := by
 have hca : w.cell? ⟨g, 0, none⟩ = some a := by simp [World.cell?, ha]
 have hfa : w.frozen? ⟨g, 0, none⟩ = false := by simp [World.frozen?, ha]
 have hcb : w.cell? ⟨g + 1, 0, none⟩ = some (.int .i64 b) := by simp [World.cell?, hb]
 have hfb : w.frozen? ⟨g + 1, 0, none⟩ = false := by simp [World.frozen?, hb]
 have hta := assert_errnoS e
 refine callsD_of_wpS Tryz.func27 rfl fun c₀ cs hu => ?_
 apply wpS_seq
 apply wpS_region
 simp [wpOpsS, go_sem, recoverD, hu, Tryz.ntmps27, Exit.thenS]
 apply wpS_seq
 apply wpS_region
 simp [wpOpsS, go_sem, Exit.thenS]
 refine wpS_cond (t := true) (by simp [Act.eval, Array.replicate]) ?_
 simp only [if_true]
 refine wpS_of_wp ?_
 go_region_law (fail)
 all_goals
  simp [bodyPostS, results, Tryz.results27]
def TwoB (w W : World) (v : Value) : Prop := W.heap[w.heap.size]? = some (.cells #[v] 23 (0, 0)) ∧ W.heap[w.heap.size + 1]? = some (.cells #[.int .i64 0] 31 (0, 0)) ∧ w.heap.size + 2 ≤ W.heap.size ∧ Below w.heap.size w W
theorem two_newS (w : World) : TwoB w ((w.alloc (.cells #[.slice none 0 0] 23)).alloc (.cells #[.int .i64 0] 31)) (.slice none 0 0) := by
 refine ⟨?_, ?_, by simp, ((Below.refl _ w).alloc (Nat.le_refl _) _).alloc (by simp) _⟩
 ·rw [Below.heap_alloc _ _ _ (by simp)]; exact heap_alloc_new _ _
 ·rw [show w.heap.size + 1 = (w.alloc (.cells #[.slice none 0 0] 23)).heap.size by simp]; exact heap_alloc_new _ _
theorem TwoB.on {w W W' : World} {v : Value} (h : TwoB w W v) (hb : Below (w.heap.size + 2) W W') : TwoB w W' v :=
 ⟨(hb.block _ (by omega)).trans h.1, (hb.block _ (by omega)).trans h.2.1, by have := hb.size; have := h.2.2.1; omega, h.2.2.2.trans (hb.mono (by omega))⟩
set_option maxHeartbeats 2000000 in
set_option maxRecDepth 20000 in
theorem shRead_long (S : ByteArray) (w : World) (hs : 1048576 < S.size) (hs2 : S.size ≤ 140737488355328) :
  Calls Tryz.prog 14 #[.string S] w fun e w' => e = .returned (.tuple #[.slice none 0 0, .int .i64 6]) ∧ Below w.heap.size w w' := by
 have hd : decide ((1048576 : Int) < (S.size : Int)) = true := by simpa using (by omega : (1048576 : Int) < (S.size : Int))
 go_enter Tryz.func14, Tryz.ntmps14
 go_wp2_with fail
 refine bodyPost_ret (v := .tuple #[.slice none 0 0, .int .i64 6]) (by simp [results, Tryz.results14, go_sem]) rfl ⟨rfl, ?_⟩
 exact ((Below.refl _ w).alloc (Nat.le_refl _) _).alloc (by simp) _
theorem begin_rs {w W : World} (S : ByteArray) (l : List UInt8) (hS : S = ⟨l.toArray⟩) (h2 : TwoB w W (.slice none 0 0)) (hz : W.heap.size = w.heap.size + 2) {W2 : World} (ho : W2.ownsMap Tryz.prog 9 sgR W.heap.size 4 signsD) (hb : Below W.heap.size W W2) :
  ∃ p, p = W2.heap.size ∧ Rs p l (.map (some (w.heap.size + 2))) 0 (W2.alloc (.cells #[.string S, .map (some (w.heap.size + 2)), .int .i64 0] 62)) ∧ EnvS p (.map (some (w.heap.size + 2))) (W2.alloc (.cells #[.string S, .map (some (w.heap.size + 2)), .int .i64 0] 62)) ∧ w.heap.size + 3 ≤ p ∧ TwoB w (W2.alloc (.cells #[.string S, .map (some (w.heap.size + 2)), .int .i64 0] 62)) (.slice none 0 0) := by
 have hlt := ho.lt
 rw [hz] at ho hb hlt
 refine ⟨_, rfl, ?_, ?_, by omega, ?_⟩
 ·have := heap_alloc_new W2 (.cells #[.string S, .map (some (w.heap.size + 2)), .int .i64 0] 62)
  rw [hS] at this ⊢
  exact this
 ·exact envS_of (ho.alloc _) hlt
 ·exact (h2.on hb).on ((Below.refl _ W2).alloc (by omega) _)
set_option maxHeartbeats 4000000 in
set_option maxRecDepth 20000 in
theorem shRead_bad (S : ByteArray) (l : List UInt8) (hS : S = ⟨l.toArray⟩) (x : Int) (w : World) (hl : l.length ≤ 1048576) (hx : lstS 30 l = .bad x) :
  Calls Tryz.prog 14 #[.string S] w fun e w' => e = .returned (.tuple #[.slice none 0 0, .int .i64 x]) ∧ Below w.heap.size w w' := by
 have hmf : ∀ (fn : Fn) (first cap : Array Value) (w : World), (Instr.makeFunc fn first cap).run Tryz.prog w = .ok (.func fn first cap) w := fun _ _ _ _ => rfl
 have hz : S.size = l.length := by rw [hS]; simp [ByteArray.size]
 have hd : decide ((1048576 : Int) < (S.size : Int)) = false := by simp; omega
 obtain ⟨W, hW⟩ : ∃ W, W = (w.alloc (.cells #[.slice none 0 0] 23)).alloc (.cells #[.int .i64 0] 31) := ⟨_, rfl⟩
 have h2 : TwoB w W (.slice none 0 0) := by rw [hW]; exact two_newS w
 have hWz : W.heap.size = w.heap.size + 2 := by rw [hW]; simp
 have ks := signs_any W
 rw [hWz] at ks
 have BEG := Lib.hid (fun W2 (ho : W2.ownsMap Tryz.prog 9 sgR (w.heap.size + 2) 4 signsD) (hb : Below (w.heap.size + 2) W W2) => begin_rs S l hS h2 hWz (W2 := W2) (by rw [hWz]; exact ho) (by rw [hWz]; exact hb))
 have KL : Hid (∀ p sg w1, Rs p l sg 0 w1 → EnvS p sg w1 → Calls Tryz.prog 29 #[.pointer (some ⟨p, 0, none⟩)] w1 fun e w' => e = errS x ∧ Mvd p w1 w') := by
  show ∀ _, _
  intro p sg w1 h1 e1
  have := list_top p sg l w1 h1 e1 hl
  rw [hx] at this
  exact this
 rw [hW] at ks BEG
 clear h2 hS hz hWz hW hx
 unfold errS at KL
 go_enter_defers Tryz.func14, Tryz.ntmps14
 go_wp2_with (first
  | (go_at_call 28; refine ks.mono ?_; rintro e w2 ⟨rfl, ho, hb⟩; obtain ⟨p, hp, r1, r2, r3, r4⟩ := BEG.out w2 ho hb; have KL2 := KL.out _ _ _ r1 r2; rw [hp] at KL2 r3; have HT := Lib.hid (And.intro r4 r3); clear ho hb r1 r2 r3 r4 hp)
  | (go_at_call 29; refine KL2.mono ?_; rintro e w3 ⟨rfl, m3⟩; obtain ⟨T1, T2, T3, T4⟩ := HT.out.1.on (m3.low.mono (by have := HT.out.2; omega))))
 obtain ⟨c3, c4⟩ := cell_oneS T1
 obtain ⟨c5, c6⟩ := cell_oneS T2
 refine leaves_cons (f := 27) (args := #[.pointer (some ⟨w.heap.size, 0, none⟩), .pointer (some ⟨w.heap.size + 1, 0, none⟩)]) (by simp) (by simp [go_sem]) ?_
 refine (shRead_panics w.heap.size _ 0 x _ _ _ T1 T2).mono ?_
 rintro e u' w'' ⟨rfl, rfl, rfl⟩
 simp [Leaves, settle, results, Tryz.results14, go_sem, c3, c5]
 exact ((T4.setCell (by simp) _).setCell (by simp) _).drew
set_option maxHeartbeats 4000000 in
set_option maxRecDepth 20000 in
theorem shRead_rest (S : ByteArray) (l r : List UInt8) (hS : S = ⟨l.toArray⟩) (cs : List Co) (w : World) (hl : l.length ≤ 1048576) (hx : lstS 30 l = .ok cs r) (hr : r ≠ []) :
  Calls Tryz.prog 14 #[.string S] w fun e w' => e = .returned (.tuple #[.slice none 0 0, .int .i64 9]) ∧ Below w.heap.size w w' := by
 have hmf : ∀ (fn : Fn) (first cap : Array Value) (w : World), (Instr.makeFunc fn first cap).run Tryz.prog w = .ok (.func fn first cap) w := fun _ _ _ _ => rfl
 have hz : S.size = l.length := by rw [hS]; simp [ByteArray.size]
 have hd : decide ((1048576 : Int) < (S.size : Int)) = false := by simp; omega
 obtain ⟨W, hW⟩ : ∃ W, W = (w.alloc (.cells #[.slice none 0 0] 23)).alloc (.cells #[.int .i64 0] 31) := ⟨_, rfl⟩
 have h2 : TwoB w W (.slice none 0 0) := by rw [hW]; exact two_newS w
 have hWz : W.heap.size = w.heap.size + 2 := by rw [hW]; simp
 have ks := signs_any W
 rw [hWz] at ks
 have BEG := Lib.hid (fun W2 (ho : W2.ownsMap Tryz.prog 9 sgR (w.heap.size + 2) 4 signsD) (hb : Below (w.heap.size + 2) W W2) => begin_rs S l hS h2 hWz (W2 := W2) (by rw [hWz]; exact ho) (by rw [hWz]; exact hb))
 obtain ⟨R, hR⟩ : ∃ R : ByteArray, R = ⟨r.toArray⟩ := ⟨_, rfl⟩
 have hE : R.toList.isEmpty = false := by
  rw [hR, isEmptyS]
  cases r with
  | nil => exact absurd rfl hr
  | cons a b => rfl
 have KL : Hid (∀ p sg w1, Rs p l sg 0 w1 → EnvS p sg w1 → Calls Tryz.prog 29 #[.pointer (some ⟨p, 0, none⟩)] w1 fun e w' => (∃ ao cap, e = .returned (.slice ao cs.length cap)) ∧ w'.cell? ⟨p, 0, none⟩ = some (.string R) ∧ Mvd p w1 w') := by
  show ∀ _, _
  intro p sg w1 h1 e1
  have := list_top p sg l w1 h1 e1 hl
  rw [hx] at this
  refine this.mono fun e w' h => ?_
  obtain ⟨⟨v, h1, h2⟩, h3, h4⟩ := h
  obtain ⟨ao, cap, rfl, _⟩ := cos_shape h2
  exact ⟨⟨ao, cap, h1⟩, by rw [hR]; exact h3.cell.1, h4⟩
 rw [hW] at ks BEG
 clear h2 hS hz hWz hW hx hR hr
 have kn := need_no
 unfold errS at kn
 go_enter_defers Tryz.func14, Tryz.ntmps14
 go_wp2_with (first
  | (go_at_call 28; refine ks.mono ?_; rintro e w2 ⟨rfl, ho, hb⟩; obtain ⟨p, hp, r1, r2, r3, r4⟩ := BEG.out w2 ho hb; have KL2 := KL.out _ _ _ r1 r2; rw [hp] at KL2 r3; have HT := Lib.hid (And.intro r4 r3); clear ho hb r1 r2 r3 r4 hp)
  | (go_at_call 29; refine KL2.mono ?_; rintro e w3 ⟨⟨ao, cap, rfl⟩, hc0, m3⟩; obtain ⟨T1, T2, T3, T4⟩ := HT.out.1.on (m3.low.mono (by have := HT.out.2; omega)); obtain ⟨c3, c4⟩ := cell_oneS T1; have HU := Lib.hid (And.intro T1 (And.intro T2 T4)); have hc1 : (w3.setCell ⟨w.heap.size, 0, none⟩ (.slice ao cs.length cap)).cell? ⟨w2.heap.size, 0, none⟩ = some (.string R) := (World.cell?_of_block (Below.heap_setCell _ _ _ _ (by show w2.heap.size ≠ w.heap.size; have := HT.out.2; omega))).trans hc0; clear T1 T2 T3 T4 m3 hc0)
  | (go_at_call 30; refine (kn _).mono ?_; rintro e w4 ⟨rfl, rfl⟩))
 have T1 := heap_setCell_same w3 w.heap.size 0 _ _ (.slice ao cs.length cap) HU.out.1
 have T1 : (w3.setCell ⟨w.heap.size, 0, none⟩ (.slice ao cs.length cap)).heap[w.heap.size]? = some (.cells #[.slice ao cs.length cap] 23 (0, 0)) := by simpa using T1
 have T2 : (w3.setCell ⟨w.heap.size, 0, none⟩ (.slice ao cs.length cap)).heap[w.heap.size + 1]? = some (.cells #[.int .i64 0] 31 (0, 0)) := (Below.heap_setCell _ _ _ _ (by show w.heap.size + 1 ≠ w.heap.size; omega)).trans HU.out.2.1
 have T4 := HU.out.2.2.setCell (p := ⟨w.heap.size, 0, none⟩) (Nat.le_refl _) (.slice ao cs.length cap)
 obtain ⟨c5, c6⟩ := cell_oneS T1
 obtain ⟨c7, c8⟩ := cell_oneS T2
 refine leaves_cons (f := 27) (args := #[.pointer (some ⟨w.heap.size, 0, none⟩), .pointer (some ⟨w.heap.size + 1, 0, none⟩)]) (by simp) (by simp [go_sem]) ?_
 refine (shRead_panics w.heap.size _ 0 9 _ _ _ T1 T2).mono ?_
 rintro e u' w'' ⟨rfl, rfl, rfl⟩
 simp [Leaves, settle, results, Tryz.results14, go_sem, c5, c7]
 exact ((T4.setCell (by simp) _).setCell (by simp) _).drew
set_option maxHeartbeats 4000000 in
set_option maxRecDepth 20000 in
theorem shRead_ok (S : ByteArray) (l : List UInt8) (hS : S = ⟨l.toArray⟩) (cs : List Co) (w : World) (hl : l.length ≤ 1048576) (hx : lstS 30 l = .ok cs []) :
    Calls Tryz.prog 14 #[.string S] w fun e w' => (∃ v, e = .returned (.tuple #[v, .int .i64 0]) ∧ (cosV 93).q (NewF w.heap.size w'.heap.size) w' v cs) ∧ Below w.heap.size w w' := by
  have hmf : ∀ (fn : Fn) (first cap : Array Value) (w : World), (Instr.makeFunc fn first cap).run Tryz.prog w = .ok (.func fn first cap) w := fun _ _ _ _ => rfl
  have hz : S.size = l.length := by rw [hS]; simp [ByteArray.size]
  have hd : decide ((1048576 : Int) < (S.size : Int)) = false := by simp; omega
  obtain ⟨W, hW⟩ : ∃ W, W = (w.alloc (.cells #[.slice none 0 0] 23)).alloc (.cells #[.int .i64 0] 31) := ⟨_, rfl⟩
  have h2 : TwoB w W (.slice none 0 0) := by rw [hW]; exact two_newS w
  have hWz : W.heap.size = w.heap.size + 2 := by rw [hW]; simp
  have ks := signs_any W
  rw [hWz] at ks
  have BEG := Lib.hid (fun W2 (ho : W2.ownsMap Tryz.prog 9 sgR (w.heap.size + 2) 4 signsD) (hb : Below (w.heap.size + 2) W W2) => begin_rs S l hS h2 hWz (W2 := W2) (by rw [hWz]; exact ho) (by rw [hWz]; exact hb))
  obtain ⟨R, hR⟩ : ∃ R : ByteArray, R = ⟨([] : List UInt8).toArray⟩ := ⟨_, rfl⟩
  have hE : R.toList.isEmpty = true := by rw [hR]; exact emptyS
  have KL : Hid (∀ p sg w1, Rs p l sg 0 w1 → EnvS p sg w1 → Calls Tryz.prog 29 #[.pointer (some ⟨p, 0, none⟩)] w1 fun e w' => (∃ ao cap, e = .returned (.slice ao cs.length cap) ∧ (cosV 93).q (NewF w1.heap.size w'.heap.size) w' (.slice ao cs.length cap) cs) ∧ w'.cell? ⟨p, 0, none⟩ = some (.string R) ∧ Mvd p w1 w') := by
    show ∀ _, _
    intro p sg w1 h1 e1
    have := list_top p sg l w1 h1 e1 hl
    rw [hx] at this
    refine this.mono fun e w' h => ?_
    obtain ⟨⟨v, h1, h2⟩, h3, h4⟩ := h
    obtain ⟨ao, cap, rfl, _⟩ := cos_shape h2
    exact ⟨⟨ao, cap, h1, h2⟩, by rw [hR]; exact h3.cell.1, h4⟩
  rw [hW] at ks BEG
  clear h2 hS hz hWz hW hx hR
  have kn := need_yes
  go_enter_defers Tryz.func14, Tryz.ntmps14
  go_wp2_with (first
    | (go_at_call 28; refine ks.mono ?_; rintro e w2 ⟨rfl, ho, hb⟩; obtain ⟨p, hp, r1, r2, r3, r4⟩ := BEG.out w2 ho hb; have KL2 := KL.out _ _ _ r1 r2; rw [hp] at KL2 r3; have HT := Lib.hid (And.intro r4 r3); clear ho hb r1 r2 r3 r4 hp)
    | (go_at_call 29; refine KL2.mono ?_; rintro e w3 ⟨⟨ao, cap, rfl, hq⟩, hc0, m3⟩
       obtain ⟨T1, T2, T3, T4⟩ := HT.out.1.on (m3.low.mono (by have := HT.out.2; omega))
       obtain ⟨c3, c4⟩ := cell_oneS T1
       obtain ⟨c7, c8⟩ := cell_oneS T2
       have T1 := heap_setCell_same w3 w.heap.size 0 _ _ (.slice ao cs.length cap) T1
       have T1 : (w3.setCell ⟨w.heap.size, 0, none⟩ (.slice ao cs.length cap)).heap[w.heap.size]? = some (.cells #[.slice ao cs.length cap] 23 (0, 0)) := by simpa using T1
       obtain ⟨c5, c6⟩ := cell_oneS T1
       have T2 : (w3.setCell ⟨w.heap.size, 0, none⟩ (.slice ao cs.length cap)).heap[w.heap.size + 1]? = some (.cells #[.int .i64 0] 31 (0, 0)) := (Below.heap_setCell _ _ _ _ (by show w.heap.size + 1 ≠ w.heap.size; omega)).trans T2
       obtain ⟨d5, d6⟩ := cell_oneS T2
       have T4 := T4.setCell (p := ⟨w.heap.size, 0, none⟩) (Nat.le_refl _) (.slice ao cs.length cap)
       have hq3 : (cosV 93).q (NewF (w.heap.size + 2) w3.heap.size) (w3.setCell ⟨w.heap.size, 0, none⟩ (.slice ao cs.length cap)) (.slice ao cs.length cap) cs := (cosV 93).same _ _ _ _ _ (fun g hg => Below.heap_setCell _ _ _ _ (by show g ≠ w.heap.size; have := hg.1; omega)) ((cosV 93).mono _ _ _ _ _ (fun g hg => ⟨by have := hg.1; have := HT.out.2; simp at *; omega, hg.2⟩) hq)
       have HU := Lib.hid (And.intro T4 (And.intro T1 (And.intro T2 hq3)))
       have hc1 : (w3.setCell ⟨w.heap.size, 0, none⟩ (.slice ao cs.length cap)).cell? ⟨w2.heap.size, 0, none⟩ = some (.string R) := (World.cell?_of_block (Below.heap_setCell _ _ _ _ (by show w2.heap.size ≠ w.heap.size; have := HT.out.2; omega))).trans hc0
       clear T1 T2 T4 m3 hc0 hq hq3)
    | (go_at_call 30; refine (kn _).mono ?_; rintro e w4 ⟨rfl, rfl⟩))
  refine leaves_cons (f := 27) (args := #[.pointer (some ⟨w.heap.size, 0, none⟩), .pointer (some ⟨w.heap.size + 1, 0, none⟩)]) (by simp) (by simp [go_sem]) ?_
  refine (shRead_idle ⟨w.heap.size, 0, none⟩ ⟨w.heap.size + 1, 0, none⟩ _).mono ?_
  rintro e u' w'' ⟨rfl, rfl, rfl⟩
  simp [Leaves, settle, results, Tryz.results14, go_sem, c5, d5]
  refine ⟨?_, (HU.out.1.setCell (by simp) _).setCell (by simp) _⟩
  refine (cosV 93).mono _ _ _ _ _ (fun g hg => ⟨by have := hg.1; omega, hg.2⟩) ((cosV 93).same _ _ _ _ _ (fun g hg => ?_) HU.out.2.2.2)
  exact (Below.heap_setCell _ _ _ _ (by show g ≠ w.heap.size + 1; have := hg.1; omega)).trans (Below.heap_setCell _ _ _ _ (by show g ≠ w.heap.size; have := hg.1; omega))
theorem shRead_any (S : ByteArray) (w : World) (hl : S.size ≤ 140737488355328) :
  Calls Tryz.prog 14 #[.string S] w fun e w' => (∃ v, e = .returned (.tuple #[v, .int .i64 (readSh S.data.toList).2]) ∧ (cosV 93).q (NewF w.heap.size w'.heap.size) w' v (readSh S.data.toList).1) ∧ Below w.heap.size w w' := by
 have hS : S = ⟨S.data.toList.toArray⟩ := by cases S; rfl
 have hz : S.data.toList.length = S.size := Array.length_toList
 generalize S.data.toList = l at hS hz
 unfold readSh
 by_cases hlong : 1048576 < l.length
 ·rw [if_pos hlong]
  refine (shRead_long S w (by omega) hl).mono ?_
  rintro e w' ⟨rfl, hb⟩
  exact ⟨⟨_, rfl, cos_nil 93 _ _⟩, hb⟩
 ·rw [if_neg hlong]
  cases hs : lstS 30 l with
  | bad x =>
   refine (shRead_bad S l hS x w (by omega) hs).mono ?_
   rintro e w' ⟨rfl, hb⟩
   exact ⟨⟨_, rfl, cos_nil 93 _ _⟩, hb⟩
  | ok cs r =>
   dsimp only
   by_cases hr : r = []
   ·rw [if_pos hr]
    rw [hr] at hs
    exact shRead_ok S l hS cs w (by omega) hs
   ·rw [if_neg hr]
    refine (shRead_rest S l r hS cs w (by omega) hs hr).mono ?_
    rintro e w' ⟨rfl, hb⟩
    exact ⟨⟨_, rfl, cos_nil 93 _ _⟩, hb⟩
end Go.Proofs.YtelfgobjnibooaaGreatDoor
namespace Go.Proofs.YtelfgobjnibooaaGreatDoor
open Go.RowKit Go.Lib
def RdA (cs : List Co) (x : Int) (w : World) (e : Ending) (w' : World) : Prop := ∃ ao cap, e = .returned (.tuple #[.slice ao cs.length cap, .int .i64 x]) ∧ (cosV 93).q (NewF w.heap.size w'.heap.size) w' (.slice ao cs.length cap) cs ∧ Below w.heap.size w w'
theorem shRead_is (l : List UInt8) (cs : List Co) (x : Int) (h : readSh l = (cs, x)) (hl : l.length ≤ 140737488355328) (w : World) :
  Calls Tryz.prog 14 #[.string ⟨l.toArray⟩] w (RdA cs x w) := by
 have k := shRead_any ⟨l.toArray⟩ w (by rw [show (⟨l.toArray⟩ : ByteArray).size = l.length by simp [ByteArray.size]]; exact hl)
 rw [show (⟨l.toArray⟩ : ByteArray).data.toList = l from rfl, h] at k
 refine k.mono fun e w' hk => ?_
 obtain ⟨⟨v, h1, h2⟩, h3⟩ := hk
 obtain ⟨ao, cap, rfl, _⟩ := cos_shape h2
 exact ⟨ao, cap, h1, h2, h3⟩
def RdN (cs : List Co) (n : Nat) (x : Int) (w : World) (e : Ending) (w' : World) : Prop := ∃ ao cap, e = .returned (.tuple #[.slice ao n cap, .int .i64 x]) ∧ (cosV 93).q (NewF w.heap.size w'.heap.size) w' (.slice ao n cap) cs ∧ Below w.heap.size w w'
theorem RdA.n {cs : List Co} {n : Nat} {x : Int} {w w' : World} {e : Ending} (hn : n = cs.length) (h : RdA cs x w e w') : RdN cs n x w e w' := by
 obtain ⟨ao, cap, h1, h2, h3⟩ := h
 exact ⟨ao, cap, by rw [hn]; exact h1, by rw [hn]; exact h2, h3⟩
set_option maxHeartbeats 4000000 in
set_option maxRecDepth 20000 in
theorem shownSh_any (w : World) : Calls Tryz.prog 5 #[] w fun e w' => e = .returned (.bool true) ∧ Below w.heap.size w w' := by
 have kr : Calls Tryz.prog 14 #[.string ⟨#[120, 61, 49, 32, 101, 99, 104, 111, 32, 34, 36, 120, 34]⟩] w (RdA [.mk 1 [[120]] [[litP false [49]]] [[litP false [101, 99, 104, 111]], [⟨2, true, [120], [], []⟩]] [] [] []] 0 w) := shRead_is [120, 61, 49, 32, 101, 99, 104, 111, 32, 34, 36, 120, 34] _ _ shell_shown (by decide) w
 go_enter Tryz.func5, Tryz.ntmps5
 go_wp2_with (go_at_call 14; (with_reducible refine kr.mono ?_); rintro e w1 ⟨ao, cap, rfl, hq, hb⟩; obtain ⟨g1, p1, an, nn, cn, av, nv, cv, aw, nw, cw, aa, na, ca, ab, nb, cb, ac, nc, cc, e1, hp1, hg1, ⟨a0, a1, a2, a3, a4, a5, a6⟩, ⟨z1, y1⟩, -, ⟨z3, y3⟩, -, -, -, -, -, q3, -, -, -⟩ := cmd_at hq (i := 0) rfl; injection e1 with e1 _ _; subst e1; obtain ⟨g2, p2, bo, m2, c2, e2, hp2, hg2, b0, z4, y4, q4⟩ := wd_at q3 (i := 1) rfl; injection e2 with e2 _ _; subst e2; obtain ⟨g5, p5, lo, m5, c5, e5, hp5, hg5, ⟨d0, d1, d2, d3, d4⟩, z5, y5, q5⟩ := pt_at q4 (i := 0) rfl; injection e5 with e5 _ _; subst e5; have HB := Lib.hid hb; clear hb hq q3 q4 q5)
 exact bodyPost_ret (results_tmp rfl _ _ _) rfl ⟨rfl, HB.out.alloc HB.out.size _⟩
end Go.Proofs.YtelfgobjnibooaaGreatDoor
