/- Packed texts: ShWord, ShWords. What each of them proves stands above its theorems; the conditions stand in these. -/
import Derived.Test.YtelfgobjnibooaaGreatDoorA11
namespace Go.Proofs.YtelfgobjnibooaaGreatDoor
open Go.RowKit Go.Lib
theorem wd_e0 {sub : Deeper} {st : Sp} : wordStep sub st [] = .ok (.stop st.shut) [] := rfl
theorem wd_e39 {sub : Deeper} {st : Sp} {l r : List UInt8} (h : takeS [39] l = some r) : wordStep sub st l = (singleS r).bind fun s r' => .ok (.go (st.lit s true)) r' := by
 unfold wordStep; rw [h]
theorem wd_e92 {sub : Deeper} {st : Sp} {l r : List UInt8} (h : takeS [39] l = none) (h2 : takeS [92] l = some r) : wordStep sub st l = if r = [] ∨ atS [10] r = true then .bad 9 else .ok (.go (st.lit (r.take 1) true)) (r.drop 1) := by
 unfold wordStep; rw [h]; dsimp only; rw [h2]
theorem wd_e34 {sub : Deeper} {st : Sp} {l r : List UInt8} (h : takeS [39] l = none) (h2 : takeS [92] l = none) (h3 : takeS [34] l = some r) : wordStep sub st l = (dblS sub st r).bind fun st' r' => .ok (.go st') r' := by
 unfold wordStep; rw [h]; dsimp only; rw [h2]; dsimp only; rw [h3]
theorem wd_e36 {sub : Deeper} {st : Sp} {l r : List UInt8} (h : takeS [39] l = none) (h2 : takeS [92] l = none) (h3 : takeS [34] l = none) (h4 : takeS [36] l = some r) : wordStep sub st l = (partS sub false r).bind fun p r' => .ok (.go (st.add p)) r' := by
 unfold wordStep; rw [h]; dsimp only; rw [h2]; dsimp only; rw [h3]; dsimp only; rw [h4]
theorem wd_rest {sub : Deeper} {st : Sp} {l : List UInt8} (h : takeS [39] l = none) (h2 : takeS [92] l = none) (h3 : takeS [34] l = none) (h4 : takeS [36] l = none) : wordStep sub st l = if l = [] ∨ atS shMarks l = true then .ok (.stop st.shut) l else .ok (.go (st.lit (runS shMarks l) false)) (pastS shMarks l) := by
 unfold wordStep; rw [h]; dsimp only; rw [h2]; dsimp only; rw [h3]; dsimp only; rw [h4]
theorem dbl_sz {sub : Deeper} (hg : GoodD sub) : ∀ (n : Nat) (st : Sp) (l : List UInt8), l.length ≤ n → ∀ st' r, iterS (dblStep sub) st l = .ok st' r → st'.sz + 2 * r.length ≤ st.sz + 2 * l.length ∧ r.length ≤ l.length := by
 intro n
 induction n with
 | zero =>
  intro st l hl st' r h
  have : l = [] := List.eq_nil_of_length_eq_zero (by omega)
  subst this
  rw [iterS_eq (dblStep_nice hg), show dblStep sub st [] = .bad 9 from rfl] at h
  cases h
 | succ n ih =>
  intro st l hl st' r h
  rw [iterS_eq (dblStep_nice hg)] at h
  cases h34 : takeS [34] l with
  | some l1 =>
   have hlen := takeS_len h34
   simp only [List.length_cons, List.length_nil] at hlen
   rw [dbl_e34 h34] at h
   cases h
   exact ⟨by omega, by omega⟩
  | none =>
   cases h36 : takeS [36] l with
   | some l1 =>
    have hlen := takeS_len h36
    simp only [List.length_cons, List.length_nil] at hlen
    rw [dbl_e36 h34 h36] at h
    have hn := partS_nice hg true l1
    cases hp : partS sub true l1 with
    | bad x => rw [hp] at h; cases h
    | ok x r1 =>
     rw [hp] at h hn
     have hn : r1.length ≤ l1.length := hn
     have := ih (st.add x) r1 (by omega) st' r h
     have := sz_add st x
     exact ⟨by omega, by omega⟩
   | none =>
    cases h92 : takeS [92] l with
    | some l1 =>
     have hlen := takeS_len h92
     simp only [List.length_cons, List.length_nil] at hlen
     rw [dbl_e92 h34 h36 h92] at h
     by_cases hat : atS shBound l1 = true
     ·rw [if_pos hat] at h
      have h1 : (l1.drop 1).length = l1.length - 1 := List.length_drop ..
      have := at_ne1 hat
      have := ih _ (l1.drop 1) (by omega) st' r h
      have := sz_lit st (l1.take 1) true
      have h1t : (l1.take 1).length ≤ 1 := by rw [List.length_take]; omega
      exact ⟨by omega, by omega⟩
     ·rw [if_neg hat] at h; cases h
    | none =>
     rw [dbl_e0 h34 h36 h92] at h
     by_cases hr : runS shBound l = []
     ·rw [if_pos hr] at h; cases h
     ·rw [if_neg hr] at h
      have h0 : (runS shBound l).length ≠ 0 := fun e => hr (List.eq_nil_of_length_eq_zero e)
      have hrl := run_past_len shBound l
      have := ih _ (pastS shBound l) (by omega) st' r h
      have := sz_lit st (runS shBound l) true
      exact ⟨by omega, by omega⟩
theorem dblS_sz {sub : Deeper} (hg : GoodD sub) {st : Sp} {l : List UInt8} {st' : Sp} {r : List UInt8} (h : dblS sub st l = .ok st' r) : st'.sz + 2 * r.length ≤ st.sz + 2 * l.length ∧ r.length ≤ l.length := by
 cases h34 : takeS [34] l with
 | some l1 =>
  have hlen := takeS_len h34
  simp only [List.length_cons, List.length_nil] at hlen
  have e : dblS sub st l = .ok (st.lit [] true) l1 := by unfold dblS; rw [h34]
  rw [e] at h
  cases h
  have := sz_lit st [] true
  simp only [List.length_nil] at this
  exact ⟨by omega, by omega⟩
 | none =>
  have e : dblS sub st l = iterS (dblStep sub) st l := by unfold dblS; rw [h34]
  rw [e] at h
  exact dbl_sz hg _ _ _ (Nat.le_refl _) _ _ h
theorem single_sz {l s r : List UInt8} (h : singleS l = .ok s r) : s.length + 1 + r.length = l.length := by
 have es : singleS l = (needS [39] (pastS [39] l)).bind fun _ r => .ok (runS [39] l) r := rfl
 have en : needS [39] (pastS [39] l) = match takeS [39] (pastS [39] l) with
  | some r => .ok () r
  | none => .bad 9 := rfl
 rw [es, en] at h
 cases ht : takeS [39] (pastS [39] l) with
 | none => rw [ht] at h; cases h
 | some r1 =>
  rw [ht] at h
  cases h
  have hlen := takeS_len ht
  simp only [List.length_cons, List.length_nil] at hlen
  have := run_past_len [39] l
  omega
theorem fullN {l : List UInt8} (h : l ≠ []) : (⟨l.toArray⟩ : ByteArray).toList.isEmpty = false := by
 cases l with
 | nil => exact absurd rfl h
 | cons c l => exact fullS c l
def WW (w : World) : World := (w.alloc (.cells #[.slice none 0 0] 40)).alloc (.cells #[.slice none 0 0, .slice none 0 0, .bool false, .bool false] 148)
theorem WW_facts (w : World) : (WW w).heap.size = w.heap.size + 2 ∧ Below w.heap.size w (WW w) ∧ (WW w).heap[w.heap.size]? = some (.cells #[.slice none 0 0] 40 (0, 0)) ∧ (WW w).heap[w.heap.size + 1]? = some (.cells #[.slice none 0 0, .slice none 0 0, .bool false, .bool false] 148 (0, 0)) := by
 have main : ∀ O1 O2 : Obj, ((w.alloc O1).alloc O2).heap.size = w.heap.size + 2 ∧ Below w.heap.size w ((w.alloc O1).alloc O2) ∧ ((w.alloc O1).alloc O2).heap[w.heap.size]? = some O1 ∧ ((w.alloc O1).alloc O2).heap[w.heap.size + 1]? = some O2 := fun O1 O2 => by
  have z1 : (w.alloc O1).heap.size = w.heap.size + 1 := by simp
  have h1 := heap_alloc_new w O1
  have h2 := heap_alloc_new (w.alloc O1) O2
  rw [z1] at h2
  refine ⟨by simp, (((Below.refl _ w).alloc (Nat.le_refl _) _).alloc (by simp) _), ?_, h2⟩
  rw [Below.heap_alloc _ _ _ (by omega)]; exact h1
 exact main _ _
theorem WW_sp (L : ValP (List Co)) (w : World) : SpM L (w.heap.size + 1) NoneF ⟨[], none⟩ (WW w) := by
 obtain ⟨z, hb, h1, h2⟩ := WW_facts w
 exact ⟨.slice none 0 0, .slice none 0 0, false, false, [], ⟨h2, BldA.nil _ _ _ _ _, World.ownsRow_nil _ _ _ _, ⟨rfl, rfl⟩⟩, fun g hg => hg.elim⟩
theorem word_done {L : ValP (List Co)} {p : Nat} {ps : List Pt} {sg : Value} {d : Nat} {r : List UInt8} {w w2 : World} (hp : p < w.heap.size) (hs : SpM L (w.heap.size + 1) NoneF ⟨ps, none⟩ w2) (hr : Rs p r sg d w2) (hm : Mvq p (w.heap.size + 1) (WW w) w2) :
  ∃ ao n cap, w2.cell? ⟨w.heap.size + 1, 0, none⟩ = some (.slice ao n cap) ∧ w2.cell? ⟨w.heap.size, 0, none⟩ = some (.slice none 0 0) ∧ w2.frozen? ⟨w.heap.size, 0, none⟩ = false ∧ Hid ((w2.setCell ⟨w.heap.size, 0, none⟩ (.slice ao n cap)).cell? ⟨w.heap.size, 0, none⟩ = some (.slice ao n cap) ∧ (PtsV L).q (NewF w.heap.size (w2.setCell ⟨w.heap.size, 0, none⟩ (.slice ao n cap)).heap.size) (w2.setCell ⟨w.heap.size, 0, none⟩ (.slice ao n cap)) (.slice ao n cap) ps ∧ Rs p r sg d (w2.setCell ⟨w.heap.size, 0, none⟩ (.slice ao n cap)) ∧ Mvd p w (w2.setCell ⟨w.heap.size, 0, none⟩ (.slice ao n cap))) := by
 obtain ⟨z, hb, h1, h2⟩ := WW_facts w
 obtain ⟨vp, vt, oo, qd, txt, hx, _⟩ := hs
 have hrow := hx.ps.row
 obtain ⟨ao, cap, rfl, _⟩ := RowM.shape hrow
 have hbw := (hm.high w.heap.size (by omega) (by omega)).trans h1
 have hsz : w.heap.size + 2 ≤ w2.heap.size := by have := hm.low.size; omega
 have hmd : Mvd p w w2 := ⟨(hb.mono (Nat.le_of_lt hp)).trans hm.low, fun g hg hs => (hm.high g hg (by omega)).trans (hb.block g hs)⟩
 refine ⟨ao, _, cap, hx.cells.1, by rw [cell_of_heap hbw]; rfl, frozen_of_heap hbw _, ?_⟩
 have hset := heap_setCell_same w2 w.heap.size 0 _ _ (.slice ao ps.length cap) hbw
 refine ⟨by rw [cell_of_heap hset]; rfl, ?_, hr.same (Below.heap_setCell _ _ _ _ (by show p ≠ w.heap.size; omega)), hmd.own (Nat.le_refl _) hp _ _⟩
 refine (PtsV L).mono _ _ _ _ _ (fun g hg => ?_) ((PtsV L).same _ _ _ _ _ (fun g hg => Below.heap_setCell _ _ _ _ (by show g ≠ w.heap.size; have := hg.1; omega)) hrow)
 exact ⟨by have := hg.1; omega, by simpa using hg.2⟩
def WoI (L : ValP (List Co)) (sub : Deeper) (p q : Nat) (sg : Value) (d : Nat) (W0 : World) (R : Rr (List Pt)) (g : Nat) (wr : World) : Prop :=
 ∃ st l, SpM L q NoneF st wr ∧ Rs p l sg d wr ∧ Mvq p q W0 wr ∧ l.length ≤ g ∧ l.length ≤ 1048576 ∧ st.sz + 2 * l.length ≤ 4194304 ∧ iterS (wordStep sub) st l = R
theorem mvq_out {p : Nat} {w w2 : World} (hp : p < w.heap.size) (hm : Mvq p (w.heap.size + 1) (WW w) w2) : Mvd p w w2 := by
 obtain ⟨z, hb, h1, h2⟩ := WW_facts w
 exact ⟨(hb.mono (Nat.le_of_lt hp)).trans hm.low, fun g hg hs => (hm.high g hg (by omega)).trans (hb.block g hs)⟩
set_option maxHeartbeats 16000000 in
set_option maxRecDepth 20000 in
theorem word_any (L : ValP (List Co)) (sub : Deeper) (p : Nat) (sg : Value) (d : Nat) (hv : Lv L sub p sg d) (l0 : List UInt8) (w : World) (h : Rs p l0 sg d w) (hE : EnvS p sg w) (hl0 : l0.length ≤ 1048576) :
  Calls Tryz.prog 143 #[.pointer (some ⟨p, 0, none⟩)] w (AnsE (wordE (PtsV L)) p sg d w (wordS sub l0)) := by
 obtain ⟨z, hb, b1, b2⟩ := WW_facts w
 have hp := h.lt
 have hS := WW_sp L w
 have hW := h.below hb
 have hEW := hE.below (hb.mono (Nat.le_of_lt hp))
 obtain ⟨R, hR⟩ : ∃ R, wordS sub l0 = R := ⟨_, rfl⟩
 have HST : Hid (WoI L sub p (w.heap.size + 1) sg d (WW w) R l0.length (WW w)) := ⟨⟨[], none⟩, l0, hS, hW, Mvq.refl _ _ _, Nat.le_refl _, hl0, by show 0 + 0 + 2 * _ ≤ _; omega, hR⟩
 have HE := Lib.hid hEW
 have DONE := Lib.hid (fun (w2 : World) (ps : List Pt) (r : List UInt8) (hs : SpM L (w.heap.size + 1) NoneF ⟨ps, none⟩ w2) (hr : Rs p r sg d w2) (hm : Mvq p (w.heap.size + 1) (WW w) w2) => word_done hp hs hr hm)
 rw [hR]
 clear hS h hE hEW hW hR b1 b2 hb z
 have hpq : p < w.heap.size + 1 := by omega
 go_enter Tryz.func143, Tryz.ntmps143
 go_wp2
 go_loopg [7] l0.length (fun g _ wr => Hid (WoI L sub p (w.heap.size + 1) sg d (WW w) R g wr))
 case atStart => exact HST.out
 case round =>
  obtain ⟨st, l, hS, hr, hm, hg, hl, hz, hR⟩ := hrel.out
  clear hrel HST hl0
  rw [iterS_eq (wordStep_nice hv.nice)] at hR
  have hqz : w.heap.size + 1 < wr.heap.size := by obtain ⟨_, _, _, _, _, hh, _⟩ := hS; exact heap_ltS hh.blk
  have hEr := HE.out.below hm.low
  have HM := Lib.hid hm
  have HR0 := Lib.hid hr
  have HS0 := Lib.hid hS
  have OUT := Lib.hid (fun w2 (m : Mvd p wr w2) => mvq_out hp (HM.out.trans (Mvq.of m (Nat.le_of_lt hqz))))
  have hz2 := sz_ps st
  have hst := sz_tl st
  by_cases hln : l = []
  ·subst hln
   rw [wd_e0] at hR
   have hR2 : R = .ok st.shut [] := hR.symm
   obtain ⟨c1, f1⟩ := hr.cell
   have s1 := emptyS
   have kc := (show Calls Tryz.prog 168 #[.pointer (some ⟨w.heap.size + 1, 0, none⟩)] wr fun e w' => e = .returned (.tuple #[]) ∧ SpM L (w.heap.size + 1) NoneF ⟨st.shut, none⟩ w' ∧ Below (w.heap.size + 1) wr w' ∧ ∀ g, NoneF g → w'.heap[g]? = wr.heap[g]? from close_any L hv.good.nil (w.heap.size + 1) NoneF st wr hS (fun g hg => hg.elim) (fun g hg => hg.elim) (by omega))
   have FIN := Lib.hid (fun w2 (hs : SpM L (w.heap.size + 1) NoneF ⟨st.shut, none⟩ w2) (b : Below (w.heap.size + 1) wr w2) => DONE.out w2 st.shut [] hs (HR0.out.belowq b hpq) (HM.out.trans (Mvq.low' b (Nat.le_of_lt hpq))))
   subst hR2
   generalize (⟨([] : List UInt8).toArray⟩ : ByteArray) = S at c1 s1
   clear hS hr hm hEr hR hz hg hl hz2 hst hqz
   go_wp2_with (go_at_call 168; (with_reducible refine kc.mono ?_); rintro e w2 ⟨rfl, hs2, b2, _⟩; obtain ⟨ao, n, cap, d0, d1, d2, HF⟩ := FIN.out w2 hs2 b2; clear hs2 b2)
   refine bodyPost_ret (v := .agg #[.slice ao n cap]) (by simp [results, Tryz.results143, go_sem, HF.out.1]) rfl ?_
   exact ⟨⟨_, rfl, _, rfl, HF.out.2.1⟩, HF.out.2.2.1, HF.out.2.2.2⟩
  obtain ⟨c1, f1⟩ := hr.cell
  have s1 := fullN hln
  obtain ⟨S, hSS⟩ : ∃ S : ByteArray, S = ⟨l.toArray⟩ := ⟨_, rfl⟩
  rw [← hSS] at c1 s1
  clear hSS
  cases h39 : takeS [39] l with
  | some l1 =>
   rw [wd_e39 h39] at hR
   have hlen := takeS_len h39
   simp only [List.length_cons, List.length_nil] at hlen
   have k39 : Calls Tryz.prog 103 #[.pointer (some ⟨p, 0, none⟩), .string ⟨#[39]⟩] wr fun e w' => e = .returned (.bool true) ∧ Rs p l1 sg d w' ∧ Mvd p wr w' := takeS_yes p [39] l l1 sg d wr hr hl h39
   have KP := Lib.hid (fun w2 (h2 : Rs p l1 sg d w2) => single_any p l1 sg d w2 h2 (by omega))
   clear hS hr hm h39 hEr
   cases hp1 : singleS l1 with
   | bad x =>
    rw [hp1] at hR KP
    have hR2 : R = .bad x := hR.symm
    have KP2 : Hid (∀ w2, Rs p l1 sg d w2 → Calls Tryz.prog 164 #[.pointer (some ⟨p, 0, none⟩)] w2 fun e w' => e = errS x ∧ Mvd p w2 w') := KP.out
    subst hR2
    clear hR KP hz hg hl hz2 hst hqz hlen
    show Code.wp _ _ _ _ _
    unfold AnsE
    unfold errS at KP2 ⊢
    go_wp2_with (first
     | (go_at_call 103; first | ((with_reducible refine k39.mono ?_); rintro e w2 ⟨rfl, h2, m2⟩; have kp := KP2.out w2 h2; have M2 := Lib.hid m2; clear h2 m2))
     | (go_at_call 164; (with_reducible refine kp.mono ?_); rintro e w3 ⟨rfl, m3⟩))
    exact ⟨rfl, rfl, OUT.out _ (M2.out.trans m3)⟩
   | ok s r =>
    rw [hp1] at hR KP
    have hsi := single_sz hp1
    have KP2 : Hid (∀ w2, Rs p l1 sg d w2 → Calls Tryz.prog 164 #[.pointer (some ⟨p, 0, none⟩)] w2 fun e w' => e = .returned (.string ⟨s.toArray⟩) ∧ Rs p r sg d w' ∧ Mvd p w2 w') := KP.out
    have hsl := sz_lit st s true
    have KL := Lib.hid (fun w3 (m : Mvd p wr w3) => literal_any L hv.good.nil (w.heap.size + 1) NoneF st true s w3 (HS0.out.moved m hpq) (fun g hg => hg.elim) (fun g hg => hg.elim) (by omega) (by omega))
    cases gk with
    | zero => omega
    | succ g =>
     have NEXT : Hid (∀ w3 w4 : World, Mvd p wr w3 → Rs p r sg d w3 → SpM L (w.heap.size + 1) NoneF (st.lit s true) w4 → Below (w.heap.size + 1) w3 w4 → WoI L sub p (w.heap.size + 1) sg d (WW w) R g w4) := by
      show ∀ _, _
      intro w3 w4 m3 h3 hs4 b4
      exact ⟨_, _, hs4, h3.belowq b4 hpq, (HM.out.trans (Mvq.of m3 (Nat.le_of_lt hqz))).trans (Mvq.low' b4 (Nat.le_of_lt hpq)), by omega, by omega, by omega, hR⟩
     obtain ⟨X, hX⟩ : ∃ X : ByteArray, X = ⟨s.toArray⟩ := ⟨_, rfl⟩
     rw [← hX] at KP2 KL
     clear hR KP hsl hsi hz hg hl hlen hqz hX hz2 hst
     go_wp2_with (first
      | (go_at_call 103; first | ((with_reducible refine k39.mono ?_); rintro e w2 ⟨rfl, h2, m2⟩; have kp := KP2.out w2 h2; have M2 := Lib.hid m2; clear h2 m2))
      | (go_at_call 164; (with_reducible refine kp.mono ?_); rintro e w3 ⟨rfl, h3, m3⟩; have kl := KL.out w3 (M2.out.trans m3); have H3 := Lib.hid (And.intro h3 (M2.out.trans m3)); clear h3 m3)
      | (go_at_call 163; (with_reducible refine kl.mono ?_); rintro e w6 ⟨rfl, hs6, b6⟩; have HN := Lib.hid (NEXT.out _ w6 H3.out.2 H3.out.1 hs6 b6); clear hs6 b6))
     go_roundg g
     case measure => omega
     case rel => exact HN.out
  | none =>
   have k39 : Calls Tryz.prog 103 #[.pointer (some ⟨p, 0, none⟩), .string ⟨#[39]⟩] wr fun e w' => e = .returned (.bool false) ∧ w' = wr := takeS_no p [39] l sg d wr hr h39
   cases h92 : takeS [92] l with
   | some l1 =>
    rw [wd_e92 h39 h92] at hR
    have hlen := takeS_len h92
    simp only [List.length_cons, List.length_nil] at hlen
    have k92 : Calls Tryz.prog 103 #[.pointer (some ⟨p, 0, none⟩), .string ⟨#[92]⟩] wr fun e w' => e = .returned (.bool true) ∧ Rs p l1 sg d w' ∧ Mvd p wr w' := takeS_yes p [92] l l1 sg d wr hr hl h92
    clear hS hr hm h39 h92 hEr
    have k2 := need_no
    by_cases hl1 : l1 = []
    ·rw [if_pos (.inl hl1)] at hR
     subst hl1
     have hR2 : R = .bad 9 := hR.symm
     have s2 := emptyS
     have CE := Lib.hid (fun w2 (h2 : Rs p [] sg d w2) => h2.cell)
     subst hR2
     clear hR hz hg hl hz2 hst hqz hlen
     show Code.wp _ _ _ _ _
     unfold AnsE
     unfold errS at k2 ⊢
     go_wp2_with (first
      | (go_at_call 103; first | ((with_reducible refine k39.mono ?_); rintro e w2 ⟨rfl, hw2⟩; rw [hw2]; clear hw2) | ((with_reducible refine k92.mono ?_); rintro e w2 ⟨rfl, h2, m2⟩; obtain ⟨c2, f2⟩ := CE.out w2 h2; have M2 := Lib.hid m2; clear h2 m2))
      | (go_at_call 30; refine (k2 _).mono ?_; rintro e w4 ⟨rfl, hw4⟩; rw [hw4]; clear hw4))
     exact ⟨rfl, rfl, OUT.out _ M2.out⟩
    ·have s2 := fullN hl1
     have ka := fun w2 (h2 : Rs p l1 sg d w2) => (show Calls Tryz.prog 74 #[.pointer (some ⟨p, 0, none⟩), .string ⟨#[10]⟩] w2 fun e w' => e = .returned (.bool (atS [10] l1)) ∧ w' = w2 from atS_any p [10] l1 sg d w2 h2)
     have CE := Lib.hid (fun w2 (h2 : Rs p l1 sg d w2) => h2.cell)
     generalize (⟨l1.toArray⟩ : ByteArray) = S2 at s2 CE
     have hne : 1 ≤ l1.length := by cases l1 with
      | nil => exact absurd rfl hl1
      | cons a b => simp
     by_cases hat : atS [10] l1 = true
     ·rw [if_pos (.inr hat)] at hR
      rw [hat] at ka
      have hR2 : R = .bad 9 := hR.symm
      subst hR2
      clear hR hz hg hl hz2 hst hqz hlen hat hne
      show Code.wp _ _ _ _ _
      unfold AnsE
      unfold errS at k2 ⊢
      go_wp2_with (first
       | (go_at_call 103; first | ((with_reducible refine k39.mono ?_); rintro e w2 ⟨rfl, hw2⟩; rw [hw2]; clear hw2) | ((with_reducible refine k92.mono ?_); rintro e w2 ⟨rfl, h2, m2⟩; obtain ⟨c2, f2⟩ := CE.out w2 h2; have H2 := Lib.hid (And.intro h2 m2); clear h2 m2))
       | (go_at_call 74; (with_reducible refine (ka _ H2.out.1).mono ?_); rintro e w3 ⟨rfl, hw3⟩; rw [hw3]; clear hw3)
       | (go_at_call 30; refine (k2 _).mono ?_; rintro e w4 ⟨rfl, hw4⟩; rw [hw4]; clear hw4))
      exact ⟨rfl, rfl, OUT.out _ H2.out.2⟩
     ·have hat2 : atS [10] l1 = false := by simpa using hat
      rw [if_neg (by intro h; rcases h with h | h; exact hl1 h; exact hat h)] at hR
      rw [hat2] at ka
      have hsl := sz_lit st (l1.take 1) true
      have h1t : (l1.take 1).length ≤ 1 := by rw [List.length_take]; omega
      have KC := Lib.hid (fun w2 (h2 : Rs p l1 sg d w2) => (show Calls Tryz.prog 162 #[.pointer (some ⟨p, 0, none⟩), .int .i64 1] w2 fun e w' => e = .returned (.string ⟨(l1.take 1).toArray⟩) ∧ Rs p (l1.drop 1) sg d w' ∧ Mvd p w2 w' from cutS_any p 1 l1 sg d w2 h2 hne (by omega)))
      have KL := Lib.hid (fun w3 (m : Mvd p wr w3) => literal_any L hv.good.nil (w.heap.size + 1) NoneF st true (l1.take 1) w3 (HS0.out.moved m hpq) (fun g hg => hg.elim) (fun g hg => hg.elim) (by omega) (by omega))
      cases gk with
      | zero => omega
      | succ g =>
       have NEXT : Hid (∀ w3 w4 : World, Mvd p wr w3 → Rs p (l1.drop 1) sg d w3 → SpM L (w.heap.size + 1) NoneF (st.lit (l1.take 1) true) w4 → Below (w.heap.size + 1) w3 w4 → WoI L sub p (w.heap.size + 1) sg d (WW w) R g w4) := by
        show ∀ _, _
        intro w3 w4 m3 h3 hs4 b4
        have hdl : (l1.drop 1).length = l1.length - 1 := List.length_drop ..
        exact ⟨_, _, hs4, h3.belowq b4 hpq, (HM.out.trans (Mvq.of m3 (Nat.le_of_lt hqz))).trans (Mvq.low' b4 (Nat.le_of_lt hpq)), by omega, by omega, by omega, hR⟩
       obtain ⟨X, hX⟩ : ∃ X : ByteArray, X = ⟨(l1.take 1).toArray⟩ := ⟨_, rfl⟩
       rw [← hX] at KC KL
       clear hR hsl h1t hz hg hl hlen hqz hX hz2 hst hat hat2 hne k2
       go_wp2_with (first
        | (go_at_call 103; first | ((with_reducible refine k39.mono ?_); rintro e w2 ⟨rfl, hw2⟩; rw [hw2]; clear hw2) | ((with_reducible refine k92.mono ?_); rintro e w2 ⟨rfl, h2, m2⟩; obtain ⟨c2, f2⟩ := CE.out w2 h2; have kc := KC.out w2 h2; have H2 := Lib.hid (And.intro h2 m2); clear h2 m2))
        | (go_at_call 74; (with_reducible refine (ka _ H2.out.1).mono ?_); rintro e w3 ⟨rfl, hw3⟩; rw [hw3]; clear hw3)
        | (go_at_call 30; refine (need_yes _).mono ?_; rintro e w4 ⟨rfl, hw4⟩; rw [hw4]; clear hw4)
        | (go_at_call 162; (with_reducible refine kc.mono ?_); rintro e w5 ⟨rfl, h5, m5⟩; have kl := KL.out w5 (H2.out.2.trans m5); have H3 := Lib.hid (And.intro h5 (H2.out.2.trans m5)); clear h5 m5)
        | (go_at_call 163; (with_reducible refine kl.mono ?_); rintro e w6 ⟨rfl, hs6, b6⟩; have HN := Lib.hid (NEXT.out _ w6 H3.out.2 H3.out.1 hs6 b6); clear hs6 b6))
       go_roundg g
       case measure => omega
       case rel => exact HN.out
   | none =>
    have k92 : Calls Tryz.prog 103 #[.pointer (some ⟨p, 0, none⟩), .string ⟨#[92]⟩] wr fun e w' => e = .returned (.bool false) ∧ w' = wr := takeS_no p [92] l sg d wr hr h92
    cases h34 : takeS [34] l with
    | some l1 =>
     rw [wd_e34 h39 h92 h34] at hR
     have hlen := takeS_len h34
     simp only [List.length_cons, List.length_nil] at hlen
     have k34 : Calls Tryz.prog 103 #[.pointer (some ⟨p, 0, none⟩), .string ⟨#[34]⟩] wr fun e w' => e = .returned (.bool true) ∧ Rs p l1 sg d w' ∧ Mvd p wr w' := takeS_yes p [34] l l1 sg d wr hr hl h34
     have KD := Lib.hid (fun w2 (h2 : Rs p l1 sg d w2) (m2 : Mvd p wr w2) => double_any L sub p (w.heap.size + 1) sg d hv st l1 w2 (HS0.out.moved m2 hpq) h2 (hEr.below m2.low) hpq (by omega) (by omega))
     clear hS hr hm h39 h92 h34 hEr
     cases hp1 : dblS sub st l1 with
     | bad x =>
      rw [hp1] at hR KD
      have hR2 : R = .bad x := hR.symm
      have KD2 : Hid (∀ w2, Rs p l1 sg d w2 → Mvd p wr w2 → Calls Tryz.prog 165 #[.pointer (some ⟨p, 0, none⟩), .pointer (some ⟨w.heap.size + 1, 0, none⟩)] w2 fun e w' => e = errS x ∧ Mvq p (w.heap.size + 1) w2 w') := KD.out
      have OUT2 := Lib.hid (fun w2 w3 (m : Mvd p wr w2) (m3 : Mvq p (w.heap.size + 1) w2 w3) => mvq_out hp ((HM.out.trans (Mvq.of m (Nat.le_of_lt hqz))).trans m3))
      subst hR2
      clear hR KD hz hg hl hz2 hst hqz hlen
      show Code.wp _ _ _ _ _
      unfold AnsE
      unfold errS at KD2 ⊢
      go_wp2_with (first
       | (go_at_call 103; first | ((with_reducible refine k39.mono ?_); rintro e w2 ⟨rfl, hw2⟩; rw [hw2]; clear hw2) | ((with_reducible refine k92.mono ?_); rintro e w2 ⟨rfl, hw2⟩; rw [hw2]; clear hw2) | ((with_reducible refine k34.mono ?_); rintro e w2 ⟨rfl, h2, m2⟩; have kp := KD2.out w2 h2 m2; have M2 := Lib.hid m2; clear h2 m2))
       | (go_at_call 165; (with_reducible refine kp.mono ?_); rintro e w3 ⟨rfl, m3⟩))
      exact ⟨rfl, rfl, OUT2.out _ _ M2.out m3⟩
     | ok st' r =>
      rw [hp1] at hR KD
      have hsd := dblS_sz hv.nice hp1
      have KD2 : Hid (∀ w2, Rs p l1 sg d w2 → Mvd p wr w2 → Calls Tryz.prog 165 #[.pointer (some ⟨p, 0, none⟩), .pointer (some ⟨w.heap.size + 1, 0, none⟩)] w2 fun e w' => e = .returned (.tuple #[]) ∧ SpM L (w.heap.size + 1) NoneF st' w' ∧ Rs p r sg d w' ∧ Mvq p (w.heap.size + 1) w2 w') := KD.out
      cases gk with
      | zero => omega
      | succ g =>
       have NEXT : Hid (∀ w3 w4 : World, Mvd p wr w3 → SpM L (w.heap.size + 1) NoneF st' w4 → Rs p r sg d w4 → Mvq p (w.heap.size + 1) w3 w4 → WoI L sub p (w.heap.size + 1) sg d (WW w) R g w4) := by
        show ∀ _, _
        intro w3 w4 m3 hs4 h4 m4
        exact ⟨_, _, hs4, h4, (HM.out.trans (Mvq.of m3 (Nat.le_of_lt hqz))).trans m4, by omega, by omega, by omega, hR⟩
       clear hR KD hsd hz hg hl hlen hqz hz2 hst
       go_wp2_with (first
        | (go_at_call 103; first | ((with_reducible refine k39.mono ?_); rintro e w2 ⟨rfl, hw2⟩; rw [hw2]; clear hw2) | ((with_reducible refine k92.mono ?_); rintro e w2 ⟨rfl, hw2⟩; rw [hw2]; clear hw2) | ((with_reducible refine k34.mono ?_); rintro e w2 ⟨rfl, h2, m2⟩; have kp := KD2.out w2 h2 m2; have M2 := Lib.hid m2; clear h2 m2))
        | (go_at_call 165; (with_reducible refine kp.mono ?_); rintro e w6 ⟨rfl, hs6, h6, m6⟩; have HN := Lib.hid (NEXT.out _ w6 M2.out hs6 h6 m6); clear hs6 h6 m6))
       go_roundg g
       case measure => omega
       case rel => exact HN.out
    | none =>
     have k34 : Calls Tryz.prog 103 #[.pointer (some ⟨p, 0, none⟩), .string ⟨#[34]⟩] wr fun e w' => e = .returned (.bool false) ∧ w' = wr := takeS_no p [34] l sg d wr hr h34
     cases h36 : takeS [36] l with
     | some l1 =>
      rw [wd_e36 h39 h92 h34 h36] at hR
      have hlen := takeS_len h36
      simp only [List.length_cons, List.length_nil] at hlen
      have k36 : Calls Tryz.prog 103 #[.pointer (some ⟨p, 0, none⟩), .string ⟨#[36]⟩] wr fun e w' => e = .returned (.bool true) ∧ Rs p l1 sg d w' ∧ Mvd p wr w' := takeS_yes p [36] l l1 sg d wr hr hl h36
      have KP := Lib.hid (fun w2 (h2 : Rs p l1 sg d w2) (m2 : Mvd p wr w2) => part_any L sub p sg d hv false l1 w2 h2 (hEr.below m2.low) (by omega))
      clear hS hr hm h39 h92 h34 h36 hEr
      cases hp1 : partS sub false l1 with
      | bad x =>
       rw [hp1] at hR KP
       have hR2 : R = .bad x := hR.symm
       have KP2 : Hid (∀ w2, Rs p l1 sg d w2 → Mvd p wr w2 → Calls Tryz.prog 167 #[.pointer (some ⟨p, 0, none⟩), .bool false] w2 fun e w' => e = errS x ∧ Mvd p w2 w') := KP.out
       subst hR2
       clear hR KP hz hg hl hz2 hst hqz hlen
       show Code.wp _ _ _ _ _
       unfold AnsE
       unfold errS at KP2 ⊢
       go_wp2_with (first
        | (go_at_call 103; first | ((with_reducible refine k39.mono ?_); rintro e w2 ⟨rfl, hw2⟩; rw [hw2]; clear hw2) | ((with_reducible refine k92.mono ?_); rintro e w2 ⟨rfl, hw2⟩; rw [hw2]; clear hw2) | ((with_reducible refine k34.mono ?_); rintro e w2 ⟨rfl, hw2⟩; rw [hw2]; clear hw2) | ((with_reducible refine k36.mono ?_); rintro e w2 ⟨rfl, h2, m2⟩; have kp := KP2.out w2 h2 m2; have M2 := Lib.hid m2; clear h2 m2))
        | (go_at_call 167; (with_reducible refine kp.mono ?_); rintro e w3 ⟨rfl, m3⟩))
       exact ⟨rfl, rfl, OUT.out _ (M2.out.trans m3)⟩
      | ok x r =>
       have hpn := partS_nice hv.nice false l1
       rw [hp1] at hR KP hpn
       have hpn : r.length ≤ l1.length := hpn
       have KP2 : Hid (∀ w2, Rs p l1 sg d w2 → Mvd p wr w2 → Calls Tryz.prog 167 #[.pointer (some ⟨p, 0, none⟩), .bool false] w2 fun e w' => (∃ vl, e = .returned (.agg #[.int .i64 (x.k : Int), .bool x.q, .string ⟨x.s.toArray⟩, .string ⟨x.t.toArray⟩, vl]) ∧ L.q (NewF w2.heap.size w'.heap.size) w' vl x.l) ∧ Rs p r sg d w' ∧ Mvd p w2 w') := fun w2 h2 m2 => (KP.out w2 h2 m2).mono fun e w' => ansPt
       have hsa := sz_add st x
       have KA := Lib.hid (fun (w2 w3 : World) vl (m2 : Mvd p wr w2) (hx : L.q (NewF w2.heap.size w3.heap.size) w3 vl x.l) (m3 : Mvd p w2 w3) => add_any L hv.good (w.heap.size + 1) (NewF w2.heap.size w3.heap.size) st x vl w3 (since_q (HS0.out.moved m2 hpq) m3 hpq).1 hx (since_q (HS0.out.moved m2 hpq) m3 hpq).2 (by omega))
       cases gk with
       | zero => omega
       | succ g =>
        have NEXT : Hid (∀ w2 w3 w4 : World, Mvd p wr w2 → Mvd p w2 w3 → Rs p r sg d w3 → SpM L (w.heap.size + 1) NoneF (st.add x) w4 → Below (w.heap.size + 1) w3 w4 → WoI L sub p (w.heap.size + 1) sg d (WW w) R g w4) := by
         show ∀ _, _
         intro w2 w3 w4 m2 m3 h3 hs4 b4
         exact ⟨st.add x, r, hs4, h3.belowq b4 hpq, (HM.out.trans (Mvq.of (m2.trans m3) (Nat.le_of_lt hqz))).trans (Mvq.low' b4 (Nat.le_of_lt hpq)), by omega, by omega, by omega, hR⟩
        clear hR KP hpn hsa hz hg hl hlen hqz hz2 hst
        go_wp2_with (first
         | (go_at_call 103; first | ((with_reducible refine k39.mono ?_); rintro e w2 ⟨rfl, hw2⟩; rw [hw2]; clear hw2) | ((with_reducible refine k92.mono ?_); rintro e w2 ⟨rfl, hw2⟩; rw [hw2]; clear hw2) | ((with_reducible refine k34.mono ?_); rintro e w2 ⟨rfl, hw2⟩; rw [hw2]; clear hw2) | ((with_reducible refine k36.mono ?_); rintro e w2 ⟨rfl, h2, m2⟩; have kp := KP2.out w2 h2 m2; have M2 := Lib.hid m2; clear h2 m2))
         | (go_at_call 167; (with_reducible refine kp.mono ?_); rintro e w3 ⟨⟨vl, rfl, hx⟩, h3, m3⟩; have ka := KA.out _ w3 vl M2.out hx m3; have H3 := Lib.hid (And.intro h3 m3); clear hx h3 m3)
         | (go_at_call 166; (with_reducible refine ka.mono ?_); rintro e w4 ⟨rfl, hs4, b4⟩; have HN := Lib.hid (NEXT.out _ _ w4 M2.out H3.out.2 H3.out.1 hs4 b4); clear hs4 b4))
        go_roundg g
        case measure => omega
        case rel => exact HN.out
     | none =>
      have k36 : Calls Tryz.prog 103 #[.pointer (some ⟨p, 0, none⟩), .string ⟨#[36]⟩] wr fun e w' => e = .returned (.bool false) ∧ w' = wr := takeS_no p [36] l sg d wr hr h36
      rw [wd_rest h39 h92 h34 h36] at hR
      have ka := (show Calls Tryz.prog 74 #[.pointer (some ⟨p, 0, none⟩), .string ⟨#[32, 9, 59, 10, 39, 34, 36, 92, 124, 38, 60, 62, 40, 41, 96, 42, 63, 91, 93, 123, 125, 126]⟩] wr fun e w' => e = .returned (.bool (atS shMarks l)) ∧ w' = wr from atS_any p shMarks l sg d wr hr)
      by_cases hat : atS shMarks l = true
      ·rw [if_pos (.inr hat)] at hR
       rw [hat] at ka
       have hR2 : R = .ok st.shut l := hR.symm
       have kc := (show Calls Tryz.prog 168 #[.pointer (some ⟨w.heap.size + 1, 0, none⟩)] wr fun e w' => e = .returned (.tuple #[]) ∧ SpM L (w.heap.size + 1) NoneF ⟨st.shut, none⟩ w' ∧ Below (w.heap.size + 1) wr w' ∧ ∀ g, NoneF g → w'.heap[g]? = wr.heap[g]? from close_any L hv.good.nil (w.heap.size + 1) NoneF st wr hS (fun g hg => hg.elim) (fun g hg => hg.elim) (by omega))
       have FIN := Lib.hid (fun w2 (hs : SpM L (w.heap.size + 1) NoneF ⟨st.shut, none⟩ w2) (b : Below (w.heap.size + 1) wr w2) => DONE.out w2 st.shut l hs (HR0.out.belowq b hpq) (HM.out.trans (Mvq.low' b (Nat.le_of_lt hpq))))
       subst hR2
       clear hS hr hm hEr hR hz hg hl hz2 hst hqz hat h39 h92 h34 h36
       go_wp2_with (first
        | (go_at_call 103; first | ((with_reducible refine k39.mono ?_); rintro e w2 ⟨rfl, hw2⟩; rw [hw2]; clear hw2) | ((with_reducible refine k92.mono ?_); rintro e w2 ⟨rfl, hw2⟩; rw [hw2]; clear hw2) | ((with_reducible refine k34.mono ?_); rintro e w2 ⟨rfl, hw2⟩; rw [hw2]; clear hw2) | ((with_reducible refine k36.mono ?_); rintro e w2 ⟨rfl, hw2⟩; rw [hw2]; clear hw2))
        | (go_at_call 74; (with_reducible refine ka.mono ?_); rintro e w3 ⟨rfl, hw3⟩; rw [hw3]; clear hw3)
        | (go_at_call 168; (with_reducible refine kc.mono ?_); rintro e w2 ⟨rfl, hs2, b2, _⟩; obtain ⟨ao, n, cap, d0, d1, d2, HF⟩ := FIN.out w2 hs2 b2; clear hs2 b2))
       refine bodyPost_ret (v := .agg #[.slice ao n cap]) (by simp [results, Tryz.results143, go_sem, HF.out.1]) rfl ?_
       exact ⟨⟨_, rfl, _, rfl, HF.out.2.1⟩, HF.out.2.2.1, HF.out.2.2.2⟩
      ·have hat2 : atS shMarks l = false := by simpa using hat
       rw [if_neg (by intro h; rcases h with h | h; exact hln h; exact hat h)] at hR
       rw [hat2] at ka
       have ku := until_marks p l sg d wr hr hl
       have hrl := run_past_len shMarks l
       have h0 : (runS shMarks l).length ≠ 0 := fun e => run_cons hln hat2 (List.eq_nil_of_length_eq_zero e)
       have hsl := sz_lit st (runS shMarks l) false
       have kc := fun w3 (h3 : Rs p l sg d w3) => cutS_any p (runS shMarks l).length l sg d w3 h3 (by omega) hl
       rw [run_take, past_drop] at kc
       have KC := Lib.hid kc
       have KL := Lib.hid (fun w3 (m : Mvd p wr w3) => literal_any L hv.good.nil (w.heap.size + 1) NoneF st false (runS shMarks l) w3 (HS0.out.moved m hpq) (fun g hg => hg.elim) (fun g hg => hg.elim) (by omega) (by omega))
       have BEL := Lib.hid (fun w2 (b : Below wr.heap.size wr w2) => And.intro (HR0.out.below b) (Mvd.of b HR0.out.lt))
       cases gk with
       | zero => omega
       | succ g =>
        have NEXT : Hid (∀ w3 w4 : World, Mvd p wr w3 → Rs p (pastS shMarks l) sg d w3 → SpM L (w.heap.size + 1) NoneF (st.lit (runS shMarks l) false) w4 → Below (w.heap.size + 1) w3 w4 → WoI L sub p (w.heap.size + 1) sg d (WW w) R g w4) := by
         show ∀ _, _
         intro w3 w4 m3 h3 hs4 b4
         exact ⟨_, _, hs4, h3.belowq b4 hpq, (HM.out.trans (Mvq.of m3 (Nat.le_of_lt hqz))).trans (Mvq.low' b4 (Nat.le_of_lt hpq)), by omega, by omega, by omega, hR⟩
        obtain ⟨X, hX⟩ : ∃ X : ByteArray, X = ⟨(runS shMarks l).toArray⟩ := ⟨_, rfl⟩
        rw [← hX] at KC KL
        obtain ⟨n, hn⟩ : ∃ n, n = (runS shMarks l).length := ⟨_, rfl⟩
        rw [← hn] at ku KC
        clear hR hsl hz hg hl hqz hX hn h0 hrl kc hr hS hm hEr hz2 hst hat hat2 hln h39 h92 h34 h36
        go_wp2_with (first
         | (go_at_call 103; first | ((with_reducible refine k39.mono ?_); rintro e w2 ⟨rfl, hw2⟩; rw [hw2]; clear hw2) | ((with_reducible refine k92.mono ?_); rintro e w2 ⟨rfl, hw2⟩; rw [hw2]; clear hw2) | ((with_reducible refine k34.mono ?_); rintro e w2 ⟨rfl, hw2⟩; rw [hw2]; clear hw2) | ((with_reducible refine k36.mono ?_); rintro e w2 ⟨rfl, hw2⟩; rw [hw2]; clear hw2))
         | (go_at_call 74; (with_reducible refine ka.mono ?_); rintro e w3 ⟨rfl, hw3⟩; rw [hw3]; clear hw3)
         | (go_at_call 101; (with_reducible refine ku.mono ?_); rintro e w3 ⟨rfl, b3⟩; obtain ⟨q1, q2⟩ := BEL.out w3 b3; have kc := KC.out w3 q1; have M3 := Lib.hid q2; clear b3 q1 q2)
         | (go_at_call 162; (with_reducible refine kc.mono ?_); rintro e w5 ⟨rfl, h5, m5⟩; have kl := KL.out w5 (M3.out.trans m5); have H3 := Lib.hid (And.intro h5 (M3.out.trans m5)); clear h5 m5)
         | (go_at_call 163; (with_reducible refine kl.mono ?_); rintro e w6 ⟨rfl, hs6, b6⟩; have HN := Lib.hid (NEXT.out _ w6 H3.out.2 H3.out.1 hs6 b6); clear hs6 b6))
        go_roundg g
        case measure => omega
        case rel => exact HN.out
end Go.Proofs.YtelfgobjnibooaaGreatDoor
namespace Go.Proofs.YtelfgobjnibooaaGreatDoor
open Go.RowKit Go.Lib
theorem Tryz.infoWordZ : (Tryz.prog.info? 40).map (fun i => (i.zero, i.size, i.bytes)) = some (some (.agg #[.slice none 0 0]), 1, 24) := by kernel_rfl
theorem wds_bad {sub : Deeper} {ws : List (List Pt)} {l : List UInt8} {x : Int} (h : wordS sub (gapS l) = .bad x) : wordsStep sub ws l = .bad x := by unfold wordsStep; rw [h]; rfl
theorem wds_stop {sub : Deeper} {ws : List (List Pt)} {l r : List UInt8} (h : wordS sub (gapS l) = .ok [] r) : wordsStep sub ws l = .ok (.stop ws) r := by unfold wordsStep; rw [h]; rfl
theorem wds_go {sub : Deeper} {ws : List (List Pt)} {l r : List UInt8} {ps : List Pt} (h : wordS sub (gapS l) = .ok ps r) (hp : ps ≠ []) : wordsStep sub ws l = .ok (.go (ws ++ [ps])) r := by
 unfold wordsStep; rw [h]; exact if_neg hp
theorem ansWd {L : ValP (List Co)} {p : Nat} {sg : Value} {d : Nat} {w : World} {x : List Pt} {r : List UInt8} {e : Ending} {w' : World} (h : AnsE (wordE (PtsV L)) p sg d w (.ok x r) e w') : (∃ ao cap, e = .returned (.agg #[.slice ao x.length cap]) ∧ (PtsV L).q (NewF w.heap.size w'.heap.size) w' (.slice ao x.length cap) x) ∧ Rs p r sg d w' ∧ Mvd p w w' := by
 obtain ⟨⟨cs, h1, vl, h2, h3⟩, h4, h5⟩ := h
 obtain ⟨ao, cap, rfl, _⟩ := pts_shape h3
 refine ⟨⟨ao, cap, ?_, h3⟩, h4, h5⟩
 rw [h1]
 have : cs = #[.slice ao x.length cap] := by
  cases cs; simp only [Array.mk.injEq]; exact h2
 rw [this]
def WsI (L : ValP (List Co)) (sub : Deeper) (p : Nat) (sg : Value) (d : Nat) (w : World) (R : Rr (List (List Pt))) (g : Nat) (v : Value) (wr : World) : Prop :=
 ∃ ws l, BldM (wordE (PtsV L)) 40 w.heap.size wr v ws ∧ Rs p l sg d wr ∧ Mvd p w wr ∧ l.length ≤ g ∧ ws.length + l.length ≤ 1048576 ∧ iterS (wordsStep sub) ws l = R
def W3 (w2 : World) (u : Value) : World := w2.alloc (.cells #[u] 40)
theorem W3_facts (w2 : World) (u : Value) : Below w2.heap.size w2 (W3 w2 u) ∧ (W3 w2 u).heap.size = w2.heap.size + 1 ∧ (W3 w2 u).cell? ⟨w2.heap.size, 0, none⟩ = some u :=
 ⟨(Below.refl _ w2).alloc (Nat.le_refl _) _, by unfold W3; simp, (cell_of_heap (heap_alloc_new w2 (.cells #[u] 40)) 0).trans rfl⟩
def W5 (w2 : World) (u : Value) : World := (w2.alloc (.cells #[u] 40)).alloc (.cells #[u] 40)
theorem W5_facts (w2 : World) (u : Value) : Below w2.heap.size w2 (W5 w2 u) := ((Below.refl _ w2).alloc (Nat.le_refl _) _).alloc (by simp) _
theorem W5_cells (w2 : World) (u : Value) : ∀ r x, [u][r]? = some x → (W5 w2 u).cell? ((⟨w2.heap.size + 1, 0, none⟩ : Addr).add r) = some x := by
 have h := cells_list (w2.alloc (.cells #[u] 40)) 40 [u]
 have z : (w2.alloc (.cells #[u] 40)).heap.size = w2.heap.size + 1 := by simp
 rw [z] at h
 exact h
set_option maxHeartbeats 8000000 in
set_option maxRecDepth 20000 in
theorem words_any (L : ValP (List Co)) (sub : Deeper) (p : Nat) (sg : Value) (d : Nat) (hv : Lv L sub p sg d) (l0 : List UInt8) (w : World) (h : Rs p l0 sg d w) (hE : EnvS p sg w) (hl0 : l0.length ≤ 1048576) :
  Calls Tryz.prog 141 #[.pointer (some ⟨p, 0, none⟩)] w (AnsV (WdsV L) p sg d w (wordsS sub l0)) := by
 have hp := h.lt
 obtain ⟨R, hR⟩ : ∃ R, wordsS sub l0 = R := ⟨_, rfl⟩
 have HST : Hid (WsI L sub p sg d w R l0.length (.slice none 0 0) w) := ⟨[], l0, BldM.nil _ _ _ _, h, Mvd.refl _ _, Nat.le_refl _, by simpa using hl0, hR⟩
 have HE := Lib.hid hE
 obtain ⟨i0, hi, hz0, hz1, hz2⟩ := info_parts Tryz.infoWordZ
 rw [hR]
 clear h hE hR
 go_enter Tryz.func141, Tryz.ntmps141
 go_wp2
 go_loopg [3] l0.length (fun g v wr => Hid (WsI L sub p sg d w R g v wr))
 case atStart => exact HST.out
 case round =>
  obtain ⟨ws, l, hB, hr, hm, hg, hwl, hR⟩ := hrel.out
  clear hrel HST hl0
  rw [iterS_eq (wordsStep_nice hv.nice)] at hR
  have hgl := gapS_len l
  have kg := gapS_any p l sg d wr hr (by omega)
  have hEr := HE.out.below hm.low
  have KW := Lib.hid (fun w1 (h1 : Rs p (gapS l) sg d w1) (m1 : Mvd p wr w1) => word_any L sub p sg d hv (gapS l) w1 h1 (hEr.below m1.low) (by omega))
  have HB := Lib.hid hB
  have HM := Lib.hid hm
  have hp1 : w.heap.size ≤ wr.heap.size := hm.size
  obtain ⟨ao, cap, rfl, _⟩ := hB.row.shape
  have OWN := Lib.hid hB.own
  clear hEr hB hr hm
  cases hw : wordS sub (gapS l) with
  | bad x =>
   rw [wds_bad hw] at hR
   rw [hw] at KW
   have hR2 : R = .bad x := hR.symm
   have KW2 : Hid (∀ w2, Rs p (gapS l) sg d w2 → Mvd p wr w2 → Calls Tryz.prog 143 #[.pointer (some ⟨p, 0, none⟩)] w2 fun e w' => e = errS x ∧ Mvd p w2 w') := KW.out
   subst hR2
   clear hR KW hg hwl hgl hw
   show Code.wp _ _ _ _ _
   unfold AnsV
   unfold errS at KW2 ⊢
   go_wp2_with (first
    | (go_at_call 73; (with_reducible refine kg.mono ?_); rintro e w1 ⟨rfl, h1, m1⟩; have kw := KW2.out w1 h1 m1; have M1 := Lib.hid m1; clear h1 m1)
    | (go_at_call 143; (with_reducible refine kw.mono ?_); rintro e w2 ⟨rfl, m2⟩))
   exact ⟨rfl, rfl, HM.out.trans (M1.out.trans m2)⟩
  | ok ps r =>
   have hwn := wordS_nice hv.nice (gapS l)
   rw [hw] at KW hwn
   have hwn : r.length ≤ (gapS l).length := hwn
   have KW2 : Hid (∀ w2, Rs p (gapS l) sg d w2 → Mvd p wr w2 → Calls Tryz.prog 143 #[.pointer (some ⟨p, 0, none⟩)] w2 fun e w' => (∃ ao cap, e = .returned (.agg #[.slice ao ps.length cap]) ∧ (PtsV L).q (NewF w2.heap.size w'.heap.size) w' (.slice ao ps.length cap) ps) ∧ Rs p r sg d w' ∧ Mvd p w2 w') := fun w2 h2 m2 => (KW.out w2 h2 m2).mono fun e w' => ansWd
   by_cases hps : ps = []
   ·subst hps
    rw [wds_stop hw] at hR
    have hR2 : R = .ok ws r := hR.symm
    have FIN := Lib.hid (fun w1 w2 u (m1 : Mvd p wr w1) (h2 : Rs p r sg d w2) (m2 : Mvd p w1 w2) => (show AnsV (WdsV L) p sg d w (.ok ws r) (.returned (.slice ao ws.length cap)) (W3 w2 u) from by
     obtain ⟨b3, z3, c3⟩ := W3_facts w2 u
     have mm : Mvd p wr (W3 w2 u) := m1.trans (m2.trans (Mvd.of b3 (by have := m1.size; have := m2.size; omega)))
     exact ⟨⟨_, rfl, (HB.out.same mm.size fun g h1 h2 _ => mm.high g (by omega) h2).row⟩, h2.below b3, HM.out.trans mm⟩))
    subst hR2
    clear hR KW hg hwl hgl hw hwn
    go_wp2_with (first
     | (go_at_call 73; (with_reducible refine kg.mono ?_); rintro e w1 ⟨rfl, h1, m1⟩; have kw := KW2.out w1 h1 m1; have M1 := Lib.hid m1; clear h1 m1)
     | (go_at_call 143; (with_reducible refine kw.mono ?_); rintro e w2 ⟨⟨au, cu, rfl, hx⟩, h2, m2⟩; have HF := Lib.hid (FIN.out w1 w2 (.slice au 0 cu) M1.out h2 m2); clear hx h2 m2))
    refine bodyPost_ret (results_tmp rfl _ _ _) rfl ?_
    exact HF.out
   ·rw [wds_go hw hps] at hR
    have hlt : r.length < l.length := by have := wordS_lt hv.nice hw hps; omega
    have hpl : ps.length ≠ 0 := fun e => hps (List.eq_nil_of_length_eq_zero e)
    obtain ⟨ys, hy⟩ := OWN.out
    cases gk with
    | zero => omega
    | succ g =>
     have PUT : Hid (∀ w1 w2 w5 w6 u v6, Mvd p wr w1 → (PtsV L).q (NewF w1.heap.size w2.heap.size) w2 u ps → Rs p r sg d w2 → Mvd p w1 w2 → Below w2.heap.size w2 w5 → w6.ownsRow w.heap.size 40 1 v6 (ws.length + 1) (ys ++ [u]) → w5.grownBy w6 (Value.slice ao ws.length cap).ownBlock → (v6.ownBlock = (Value.slice ao ws.length cap).ownBlock ∨ v6.ownBlock = some w5.heap.size) → WsI L sub p sg d w R g v6 w6) := by
      show ∀ _, _
      intro w1 w2 w5 w6 u v6 m1 hx h2 m2 b5 h6 hg6 hf6
      have mm : Mvd p wr w5 := m1.trans (m2.trans (Mvd.of b5 (by have := m1.size; have := m2.size; omega)))
      have hy5 : w5.ownsRow w.heap.size 40 1 (Value.slice ao ws.length cap) ws.length ys := ownS_same hy fun g hg => mm.high g (by have := (ownS_lt hy hg).1; omega) (ownS_lt hy hg).2
      have hB5 : BldM (wordE (PtsV L)) 40 w.heap.size w5 (Value.slice ao ws.length cap) ws := HB.out.same mm.size fun g h1 h2 _ => mm.high g (by omega) h2
      have hx5 : (wordE (PtsV L)).q (NewF w1.heap.size w2.heap.size) w5 ps [u] := ⟨u, rfl, (PtsV L).same _ _ _ _ _ (fun g hg => b5.block g hg.2) hx⟩
      have hb := hB5.snoc hx5 (fun g hg => ⟨by have := m1.size; have := hg.1; omega, by have := b5.size; have := hg.2; omega⟩) (fun g hg e => by have := (ownS_lt hy e).2; have := m1.size; have := hg.1; omega) (fun g hg => hg.elim) hy5 h6 hg6 hf6
      have bel6 : Below w.heap.size w5 w6 := (Below.refl _ w5).grown hg6 (by have := mm.size; omega) fun g hg => (ownS_lt hy hg).1
      have m6 : Mvd p w w6 := by
       refine ⟨(HM.out.trans mm).low.trans (bel6.mono (Nat.le_of_lt hp)), fun g a b => ?_⟩
       exact (bel6.block g b).trans ((HM.out.trans mm).high g a b)
      have hr6 : Rs p r sg d w6 := (bel6.block p hp).trans (h2.below b5)
      exact ⟨ws ++ [ps], r, hb, hr6, m6, by omega, by rw [List.length_append]; show _ + 1 + _ ≤ _; omega, hR⟩
     have OW5 : Hid (∀ w1 w2 u, Mvd p wr w1 → Mvd p w1 w2 → (W5 w2 u).ownsRow w.heap.size 40 1 (Value.slice ao ws.length cap) ws.length ys ∧ w.heap.size ≤ w2.heap.size) := by
      show ∀ _, _
      intro w1 w2 u m1 m2
      have mm : Mvd p wr w2 := m1.trans m2
      exact ⟨ownS_same hy fun g hg => ((W5_facts w2 u).block g (by have := (ownS_lt hy hg).2; have := mm.size; omega)).trans (mm.high g (by have := (ownS_lt hy hg).1; omega) (ownS_lt hy hg).2), by have := mm.size; omega⟩
     have hps2 : ((ps.length : Int) == 0) = false := by simpa using hpl
     have hps3 : ¬ ((ps.length : Int) = 0) := by omega
     obtain ⟨n, hn⟩ : ∃ n, n = ps.length := ⟨_, rfl⟩
     rw [← hn] at KW2 hps2 hps3
     have hwn2 : ws.length ≤ 1048576 := by omega
     clear hR KW hg hwl hgl hw hwn hlt hpl hn hy OWN
     go_wp2_with (first
      | (go_at_call 73; (with_reducible refine kg.mono ?_); rintro e w1 ⟨rfl, h1, m1⟩; have kw := KW2.out w1 h1 m1; have M1 := Lib.hid m1; clear h1 m1)
      | (go_at_call 143; (with_reducible refine kw.mono ?_); rintro e w2 ⟨⟨au, cu, rfl, hx⟩, h2, m2⟩; obtain ⟨ow, hz6⟩ := OW5.out w1 w2 (.slice au n cu) M1.out m2; have OW := Lib.hid ow; have PT := Lib.hid (fun w5 w6 v6 b5 h6 => PUT.out w1 w2 w5 w6 (.slice au n cu) v6 M1.out hx h2 m2 b5 h6); clear hx h2 m2 ow)
      | (at_builtin; refine wpList_append_farG _ rfl (.tmp 14) (.tmp 16) 35 rfl w.heap.size 40 i0 _ 1 24 Tryz.underlying35 hi hz0 hz1 hz2 rfl (by decide) (.slice ao ws.length cap) ws.length ys (by simp [Act.eval]) OW.out ⟨w2.heap.size + 1, 0, none⟩ 1 [.slice au n cu] (by simp [Act.eval]) rfl (W5_cells w2 _) (by simp [Value.oneCell']) (by unfold maxLen; omega) (by omega) (by simp; omega) ?_; intro v6 w6 h6 g6 f6; obtain ⟨ao2, cap2, rfl, _⟩ := ownS_shape h6; have HN := Lib.hid (PT.out _ w6 _ (W5_facts w2 _) h6 g6 f6); clear h6 g6 f6))
     go_roundg g
     case measure => omega
     case rel => exact HN.out
end Go.Proofs.YtelfgobjnibooaaGreatDoor
