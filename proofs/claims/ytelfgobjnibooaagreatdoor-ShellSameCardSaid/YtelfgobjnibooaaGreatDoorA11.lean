/- Packed texts: ShDbl. What each of them proves stands above its theorems; the conditions stand in these. -/
import Derived.Deep.LoopGhost
import Derived.Test.YtelfgobjnibooaaGreatDoorA10
namespace Go.Proofs.YtelfgobjnibooaaGreatDoor
open Go.RowKit Go.Lib
def Sp.sz (st : Sp) : Nat := st.ps.length + (match st.cur with | none => 0 | some (_, t) => 1 + t.length)
theorem sz_ps (st : Sp) : st.ps.length ≤ st.sz := Nat.le_add_right _ _
theorem sz_tl (st : Sp) : st.tl ≤ st.sz := by
 obtain ⟨ps, cur⟩ := st
 cases cur with
 | none => exact Nat.zero_le _
 | some p => show p.2.length ≤ ps.length + (1 + p.2.length); omega
theorem sz_lit (st : Sp) (s : List UInt8) (q : Bool) : (st.lit s q).sz ≤ st.sz + 1 + s.length := by
 obtain ⟨ps, cur⟩ := st
 cases cur with
 | none => show ps.length + (1 + s.length) ≤ ps.length + 0 + 1 + s.length; omega
 | some p =>
  obtain ⟨b, t⟩ := p
  by_cases hb : b = q
  ·have e : (⟨ps, some (b, t)⟩ : Sp).lit s q = ⟨ps, some (q, t ++ s)⟩ := if_pos hb
   rw [e]
   show ps.length + (1 + (t ++ s).length) ≤ ps.length + (1 + t.length) + 1 + s.length
   rw [List.length_append]; omega
  ·have e : (⟨ps, some (b, t)⟩ : Sp).lit s q = ⟨ps ++ [litP b t], some (q, s)⟩ := if_neg hb
   rw [e]
   show (ps ++ [litP b t]).length + (1 + s.length) ≤ ps.length + (1 + t.length) + 1 + s.length
   rw [List.length_append]; show ps.length + 1 + _ ≤ _; omega
theorem sz_shut (st : Sp) : st.shut.length ≤ st.sz := by
 obtain ⟨ps, cur⟩ := st
 cases cur with
 | none => exact Nat.le_add_right _ _
 | some p =>
  show (ps ++ [litP p.1 p.2]).length ≤ ps.length + (1 + p.2.length)
  rw [List.length_append]; show ps.length + 1 ≤ _; omega
theorem sz_add (st : Sp) (x : Pt) : (st.add x).sz ≤ st.sz + 1 := by
 show (st.shut ++ [x]).length + 0 ≤ _
 rw [List.length_append]
 have := sz_shut st
 show st.shut.length + 1 + 0 ≤ _; omega
structure Mvq (p q : Nat) (w w' : World) : Prop where
 low : Below p w w'
 high : ∀ g, g ≠ p → g < q → w'.heap[g]? = w.heap[g]?
theorem Mvq.refl (p q : Nat) (w : World) : Mvq p q w w := ⟨Below.refl _ _, fun _ _ _ => rfl⟩
theorem Mvq.trans {p q : Nat} {a b c : World} (h : Mvq p q a b) (k : Mvq p q b c) : Mvq p q a c := ⟨h.low.trans k.low, fun g h1 h2 => (k.high g h1 h2).trans (h.high g h1 h2)⟩
theorem Mvq.of {p q : Nat} {w w' : World} (h : Mvd p w w') (hq : q ≤ w.heap.size) : Mvq p q w w' := ⟨h.low, fun g h1 h2 => h.high g h1 (by omega)⟩
theorem Mvq.low' {p q : Nat} {w w' : World} (h : Below q w w') (hp : p ≤ q) : Mvq p q w w' := ⟨h.mono hp, fun g _ h2 => h.block g h2⟩
theorem Rs.belowq {p q : Nat} {l : List UInt8} {sg : Value} {d : Nat} {w w' : World} (h : Rs p l sg d w) (hb : Below q w w') (hp : p < q) : Rs p l sg d w' := (hb.block p hp).trans h
theorem ansPt {L : ValP (List Co)} {p : Nat} {sg : Value} {d : Nat} {w : World} {x : Pt} {r : List UInt8} {e : Ending} {w' : World} (h : AnsE (partE L) p sg d w (.ok x r) e w') : (∃ vl, e = .returned (.agg #[.int .i64 (x.k : Int), .bool x.q, .string ⟨x.s.toArray⟩, .string ⟨x.t.toArray⟩, vl]) ∧ L.q (NewF w.heap.size w'.heap.size) w' vl x.l) ∧ Rs p r sg d w' ∧ Mvd p w w' := by
 obtain ⟨⟨cs, h1, vl, h2, h3⟩, h4, h5⟩ := h
 refine ⟨⟨vl, ?_, h3⟩, h4, h5⟩
 rw [h1]
 have : cs = #[.int .i64 (x.k : Int), .bool x.q, .string ⟨x.s.toArray⟩, .string ⟨x.t.toArray⟩, vl] := by
  cases cs; simp only [Array.mk.injEq]; exact h2
 rw [this]
theorem since_q {L : ValP (List Co)} {p q : Nat} {st : Sp} {w1 w2 : World} (h : SpM L q NoneF st w1) (hm : Mvd p w1 w2) (hp : p < q) : SpM L q (NewF w1.heap.size w2.heap.size) st w2 ∧ ∀ g, NewF w1.heap.size w2.heap.size g → q + 1 ≤ g ∧ g < w2.heap.size := by
 refine ⟨h.since hm hp, fun g hg => ⟨?_, hg.2⟩⟩
 obtain ⟨_, _, _, _, _, hh, _⟩ := h
 have := heap_ltS hh.blk
 have := hg.1
 omega
def AnsD (L : ValP (List Co)) (p q : Nat) (sg : Value) (d : Nat) (w : World) : Rr Sp → Ending → World → Prop
 | .ok st r, e, w' => e = .returned (.tuple #[]) ∧ SpM L q NoneF st w' ∧ Rs p r sg d w' ∧ Mvq p q w w'
 | .bad x, e, w' => e = errS x ∧ Mvq p q w w'
def DblI (L : ValP (List Co)) (sub : Deeper) (p q : Nat) (sg : Value) (d : Nat) (w : World) (R : Rr Sp) (g : Nat) (wr : World) : Prop :=
 ∃ st l, SpM L q NoneF st wr ∧ Rs p l sg d wr ∧ Mvq p q w wr ∧ l.length ≤ g ∧ l.length ≤ 1048576 ∧ st.sz + 2 * l.length ≤ 4194304 ∧ iterS (dblStep sub) st l = R
theorem at_ne1 {of l : List UInt8} (h : atS of l = true) : 1 ≤ l.length := by
 cases l with
 | nil => cases h
 | cons a b => simp
theorem take_lit (p : Nat) (t l : List UInt8) (_b : Bool) (sg : Value) (d : Nat) (w : World) (h : Rs p l sg d w) (hl : l.length ≤ 1048576) :
  (∀ r, takeS t l = some r → Calls Tryz.prog 103 #[.pointer (some ⟨p, 0, none⟩), .string ⟨t.toArray⟩] w fun e w' => e = .returned (.bool true) ∧ Rs p r sg d w' ∧ Mvd p w w') ∧ (takeS t l = none → Calls Tryz.prog 103 #[.pointer (some ⟨p, 0, none⟩), .string ⟨t.toArray⟩] w fun e w' => e = .returned (.bool false) ∧ w' = w) :=
 ⟨fun r ht => takeS_yes p t l r sg d w h hl ht, fun ht => takeS_no p t l sg d w h ht⟩
theorem until_bound (p : Nat) (l : List UInt8) (sg : Value) (d : Nat) (w : World) (h : Rs p l sg d w) (hl : l.length ≤ 1048576) :
  Calls Tryz.prog 101 #[.pointer (some ⟨p, 0, none⟩), .string ⟨#[34, 36, 92, 96]⟩] w fun e w' => e = .returned (.int .i64 ((runS shBound l).length : Int)) ∧ Below w.heap.size w w' := untilS_any p shBound l sg d w h (by decide) hl
theorem dbl_e34 {sub : Deeper} {st : Sp} {l r : List UInt8} (h : takeS [34] l = some r) : dblStep sub st l = .ok (.stop st) r := by
 unfold dblStep; rw [h]
theorem dbl_e36 {sub : Deeper} {st : Sp} {l l1 : List UInt8} (h : takeS [34] l = none) (h2 : takeS [36] l = some l1) : dblStep sub st l = (partS sub true l1).bind fun p r' => .ok (.go (st.add p)) r' := by
 unfold dblStep; rw [h]; dsimp only; rw [h2]
theorem dbl_e92 {sub : Deeper} {st : Sp} {l l1 : List UInt8} (h : takeS [34] l = none) (h2 : takeS [36] l = none) (h3 : takeS [92] l = some l1) : dblStep sub st l = if atS shBound l1 = true then .ok (.go (st.lit (l1.take 1) true)) (l1.drop 1) else .bad 9 := by
 unfold dblStep; rw [h]; dsimp only; rw [h2]; dsimp only; rw [h3]
theorem dbl_e0 {sub : Deeper} {st : Sp} {l : List UInt8} (h : takeS [34] l = none) (h2 : takeS [36] l = none) (h3 : takeS [92] l = none) : dblStep sub st l = if runS shBound l = [] then .bad 9 else .ok (.go (st.lit (runS shBound l) true)) (pastS shBound l) := by
 unfold dblStep; rw [h]; dsimp only; rw [h2]; dsimp only; rw [h3]
set_option maxHeartbeats 8000000 in
set_option maxRecDepth 20000 in
theorem double_loop (L : ValP (List Co)) (sub : Deeper) (p q : Nat) (sg : Value) (d : Nat) (hv : Lv L sub p sg d) (st0 : Sp) (l0 : List UInt8) (w : World) (hS : SpM L q NoneF st0 w) (h : Rs p l0 sg d w) (hE : EnvS p sg w) (hpq : p < q) (hl0 : l0.length ≤ 1048576) (hz : st0.sz + 2 * l0.length ≤ 4194304) (hn34 : takeS [34] l0 = none) :
  Calls Tryz.prog 165 #[.pointer (some ⟨p, 0, none⟩), .pointer (some ⟨q, 0, none⟩)] w (AnsD L p q sg d w (iterS (dblStep sub) st0 l0)) := by
 have k0 := (show Calls Tryz.prog 103 #[.pointer (some ⟨p, 0, none⟩), .string ⟨#[34]⟩] w fun e w' => e = .returned (.bool false) ∧ w' = w from takeS_no p [34] l0 sg d w h hn34)
 obtain ⟨R, hR⟩ : ∃ R, iterS (dblStep sub) st0 l0 = R := ⟨_, rfl⟩
 have HST : Hid (DblI L sub p q sg d w R l0.length w) := ⟨st0, l0, hS, h, Mvq.refl _ _ _, Nat.le_refl _, hl0, hz, hR⟩
 have HE := Lib.hid hE
 rw [hR]
 clear hS h hz hn34 hR
 go_enter Tryz.func165, Tryz.ntmps165
 go_wp2_with (go_at_call 103; (with_reducible refine k0.mono ?_); rintro e w1 ⟨rfl, hw1⟩; rw [hw1]; clear hw1)
 go_loopg [4] l0.length (fun g _ wr => Hid (DblI L sub p q sg d w R g wr))
 case atStart => exact HST.out
 case round =>
  obtain ⟨st, l, hS, hr, hm, hg, hl, hz, hR⟩ := hrel.out
  clear hrel HST hE hl0 k0
  rw [iterS_eq (dblStep_nice hv.nice)] at hR
  have hEr := HE.out.below hm.low
  have HM := Lib.hid hm
  have HR0 := Lib.hid hr
  have HS0 := Lib.hid hS
  obtain ⟨t34y, t34n⟩ := take_lit p [34] l false sg d wr hr hl
  obtain ⟨t36y, t36n⟩ := take_lit p [36] l false sg d wr hr hl
  obtain ⟨t92y, t92n⟩ := take_lit p [92] l false sg d wr hr hl
  cases h34 : takeS [34] l with
  | some r =>
   rw [dbl_e34 h34] at hR
   have hR2 : R = .ok st r := hR.symm
   have k34 : Calls Tryz.prog 103 #[.pointer (some ⟨p, 0, none⟩), .string ⟨#[34]⟩] wr fun e w' => e = .returned (.bool true) ∧ Rs p r sg d w' ∧ Mvd p wr w' := t34y r h34
   have FIN : Hid (∀ w', Rs p r sg d w' → Mvd p wr w' → SpM L q NoneF st w' ∧ Rs p r sg d w' ∧ Mvq p q w w') := by
    show ∀ _, _
    intro w' h1 m1
    have hq : q ≤ wr.heap.size := by obtain ⟨_, _, _, _, _, hh, _⟩ := HS0.out; exact Nat.le_of_lt (heap_ltS hh.blk)
    exact ⟨HS0.out.moved m1 hpq, h1, HM.out.trans (Mvq.of m1 hq)⟩
   subst hR2
   clear hS hr hm hR t34y t34n t36y t36n t92y t92n h34 hEr
   go_wp2_with (go_at_call 103; (with_reducible refine k34.mono ?_); rintro e w2 ⟨rfl, h2, m2⟩; have HF := Lib.hid (FIN.out w2 h2 m2); clear h2 m2)
   go_end0
   exact ⟨rfl, HF.out⟩
  | none =>
   have k34 : Calls Tryz.prog 103 #[.pointer (some ⟨p, 0, none⟩), .string ⟨#[34]⟩] wr fun e w' => e = .returned (.bool false) ∧ w' = wr := t34n h34
   have hqz : q < wr.heap.size := by obtain ⟨_, _, _, _, _, hh, _⟩ := HS0.out; exact heap_ltS hh.blk
   cases h36 : takeS [36] l with
   | some l1 =>
    rw [dbl_e36 h34 h36] at hR
    have hlen := takeS_len h36
    simp only [List.length_cons, List.length_nil] at hlen
    have k36 : Calls Tryz.prog 103 #[.pointer (some ⟨p, 0, none⟩), .string ⟨#[36]⟩] wr fun e w' => e = .returned (.bool true) ∧ Rs p l1 sg d w' ∧ Mvd p wr w' := t36y l1 h36
    have KP := Lib.hid (fun w2 (h2 : Rs p l1 sg d w2) (m2 : Mvd p wr w2) => part_any L sub p sg d hv true l1 w2 h2 (hEr.below m2.low) (by omega))
    clear hS hr hm t34y t34n t36y t36n t92y t92n h34 h36 hEr
    cases hp1 : partS sub true l1 with
    | bad x =>
     rw [hp1] at hR KP
     have hR2 : R = .bad x := hR.symm
     have KP2 : Hid (∀ w2, Rs p l1 sg d w2 → Mvd p wr w2 → Calls Tryz.prog 167 #[.pointer (some ⟨p, 0, none⟩), .bool true] w2 fun e w' => e = errS x ∧ Mvd p w2 w') := KP.out
     have OUT := Lib.hid (fun w2 (m : Mvd p wr w2) => HM.out.trans (Mvq.of m (Nat.le_of_lt hqz)))
     subst hR2
     clear hR KP
     show Code.wp _ _ _ _ _
     unfold AnsD
     unfold errS at KP2 ⊢
     go_wp2_with (first
      | (go_at_call 103; first | ((with_reducible refine k34.mono ?_); rintro e w2 ⟨rfl, hw2⟩; rw [hw2]; clear hw2) | ((with_reducible refine k36.mono ?_); rintro e w2 ⟨rfl, h2, m2⟩; have kp := KP2.out w2 h2 m2; have M2 := Lib.hid m2; clear h2 m2))
      | (go_at_call 167; (with_reducible refine kp.mono ?_); rintro e w3 ⟨rfl, m3⟩))
     exact ⟨rfl, rfl, OUT.out _ (M2.out.trans m3)⟩
    | ok x r =>
     have hpn := partS_nice hv.nice true l1
     rw [hp1] at hR KP hpn
     have hpn : r.length ≤ l1.length := hpn
     have KP2 : Hid (∀ w2, Rs p l1 sg d w2 → Mvd p wr w2 → Calls Tryz.prog 167 #[.pointer (some ⟨p, 0, none⟩), .bool true] w2 fun e w' => (∃ vl, e = .returned (.agg #[.int .i64 (x.k : Int), .bool x.q, .string ⟨x.s.toArray⟩, .string ⟨x.t.toArray⟩, vl]) ∧ L.q (NewF w2.heap.size w'.heap.size) w' vl x.l) ∧ Rs p r sg d w' ∧ Mvd p w2 w') := fun w2 h2 m2 => (KP.out w2 h2 m2).mono fun e w' => ansPt
     have hsz := sz_ps st
     have hsa := sz_add st x
     have KA := Lib.hid (fun (w2 w3 : World) vl (m2 : Mvd p wr w2) (hx : L.q (NewF w2.heap.size w3.heap.size) w3 vl x.l) (m3 : Mvd p w2 w3) => add_any L hv.good q (NewF w2.heap.size w3.heap.size) st x vl w3 (since_q (HS0.out.moved m2 hpq) m3 hpq).1 hx (since_q (HS0.out.moved m2 hpq) m3 hpq).2 (by omega))
     cases gk with
     | zero => omega
     | succ g =>
      have NEXT : Hid (∀ w2 w3 w4 : World, Mvd p wr w2 → Mvd p w2 w3 → Rs p r sg d w3 → SpM L q NoneF (st.add x) w4 → Below q w3 w4 → DblI L sub p q sg d w R g w4) := by
       show ∀ _, _
       intro w2 w3 w4 m2 m3 h3 hs4 b4
       exact ⟨st.add x, r, hs4, h3.belowq b4 hpq, (HM.out.trans (Mvq.of (m2.trans m3) (Nat.le_of_lt hqz))).trans (Mvq.low' b4 (Nat.le_of_lt hpq)), by omega, by omega, by omega, hR⟩
      clear hR KP hpn hsz hsa hz hg hl hlen hqz
      go_wp2_with (first
       | (go_at_call 103; first | ((with_reducible refine k34.mono ?_); rintro e w2 ⟨rfl, hw2⟩; rw [hw2]; clear hw2) | ((with_reducible refine k36.mono ?_); rintro e w2 ⟨rfl, h2, m2⟩; have kp := KP2.out w2 h2 m2; have M2 := Lib.hid m2; clear h2 m2))
       | (go_at_call 167; (with_reducible refine kp.mono ?_); rintro e w3 ⟨⟨vl, rfl, hx⟩, h3, m3⟩; have ka := KA.out _ w3 vl M2.out hx m3; have H3 := Lib.hid (And.intro h3 m3); clear hx h3 m3)
       | (go_at_call 166; (with_reducible refine ka.mono ?_); rintro e w4 ⟨rfl, hs4, b4⟩; have HN := Lib.hid (NEXT.out _ _ w4 M2.out H3.out.2 H3.out.1 hs4 b4); clear hs4 b4))
      go_roundg g
      case measure => omega
      case rel => exact HN.out
   | none =>
    have k36 : Calls Tryz.prog 103 #[.pointer (some ⟨p, 0, none⟩), .string ⟨#[36]⟩] wr fun e w' => e = .returned (.bool false) ∧ w' = wr := t36n h36
    cases h92 : takeS [92] l with
    | some l1 =>
     rw [dbl_e92 h34 h36 h92] at hR
     have hlen := takeS_len h92
     simp only [List.length_cons, List.length_nil] at hlen
     have k92 : Calls Tryz.prog 103 #[.pointer (some ⟨p, 0, none⟩), .string ⟨#[92]⟩] wr fun e w' => e = .returned (.bool true) ∧ Rs p l1 sg d w' ∧ Mvd p wr w' := t92y l1 h92
     have ka := fun w2 (h2 : Rs p l1 sg d w2) => (show Calls Tryz.prog 74 #[.pointer (some ⟨p, 0, none⟩), .string ⟨#[34, 36, 92, 96]⟩] w2 fun e w' => e = .returned (.bool (atS shBound l1)) ∧ w' = w2 from atS_any p shBound l1 sg d w2 h2)
     clear hS hr hm t34y t34n t36y t36n t92y t92n h34 h36 h92 hEr
     by_cases hat : atS shBound l1 = true
     ·rw [if_pos hat] at hR
      rw [hat] at ka
      have hne := at_ne1 hat
      have hsz := sz_ps st
      have hsl := sz_lit st (l1.take 1) true
      have hst := sz_tl st
      have h1t : (l1.take 1).length ≤ 1 := by rw [List.length_take]; omega
      have KC := Lib.hid (fun w2 (h2 : Rs p l1 sg d w2) => (show Calls Tryz.prog 162 #[.pointer (some ⟨p, 0, none⟩), .int .i64 1] w2 fun e w' => e = .returned (.string ⟨(l1.take 1).toArray⟩) ∧ Rs p (l1.drop 1) sg d w' ∧ Mvd p w2 w' from cutS_any p 1 l1 sg d w2 h2 hne (by omega)))
      have KL := Lib.hid (fun w3 (m : Mvd p wr w3) => literal_any L hv.good.nil q NoneF st true (l1.take 1) w3 (HS0.out.moved m hpq) (fun g hg => hg.elim) (fun g hg => hg.elim) (by omega) (by omega))
      cases gk with
      | zero => omega
      | succ g =>
       have NEXT : Hid (∀ w3 w4 : World, Mvd p wr w3 → Rs p (l1.drop 1) sg d w3 → SpM L q NoneF (st.lit (l1.take 1) true) w4 → Below q w3 w4 → DblI L sub p q sg d w R g w4) := by
        show ∀ _, _
        intro w3 w4 m3 h3 hs4 b4
        have hdl : (l1.drop 1).length = l1.length - 1 := List.length_drop ..
        exact ⟨_, _, hs4, h3.belowq b4 hpq, (HM.out.trans (Mvq.of m3 (Nat.le_of_lt hqz))).trans (Mvq.low' b4 (Nat.le_of_lt hpq)), by omega, by omega, by omega, hR⟩
       obtain ⟨X, hX⟩ : ∃ X : ByteArray, X = ⟨(l1.take 1).toArray⟩ := ⟨_, rfl⟩
       rw [← hX] at KC KL
       clear hR hsz hsl hst h1t hz hg hl hlen hqz hat hX
       go_wp2_with (first
        | (go_at_call 103; first | ((with_reducible refine k34.mono ?_); rintro e w2 ⟨rfl, hw2⟩; rw [hw2]; clear hw2) | ((with_reducible refine k36.mono ?_); rintro e w2 ⟨rfl, hw2⟩; rw [hw2]; clear hw2) | ((with_reducible refine k92.mono ?_); rintro e w2 ⟨rfl, h2, m2⟩; have kc := KC.out w2 h2; have H2 := Lib.hid (And.intro h2 m2); clear h2 m2))
        | (go_at_call 74; (with_reducible refine (ka _ H2.out.1).mono ?_); rintro e w3 ⟨rfl, hw3⟩; rw [hw3]; clear hw3)
        | (go_at_call 30; refine (need_yes _).mono ?_; rintro e w4 ⟨rfl, hw4⟩; rw [hw4]; clear hw4)
        | (go_at_call 162; (with_reducible refine kc.mono ?_); rintro e w5 ⟨rfl, h5, m5⟩; have kl := KL.out w5 (H2.out.2.trans m5); have H5 := Lib.hid (And.intro h5 (H2.out.2.trans m5)); clear h5 m5)
        | (go_at_call 163; (with_reducible refine kl.mono ?_); rintro e w6 ⟨rfl, hs6, b6⟩; have HN := Lib.hid (NEXT.out _ w6 H5.out.2 H5.out.1 hs6 b6); clear hs6 b6))
       go_roundg g
       case measure => omega
       case rel => exact HN.out
     ·rw [if_neg hat] at hR
      have hat2 : atS shBound l1 = false := by simpa using hat
      rw [hat2] at ka
      have hR2 : R = .bad 9 := hR.symm
      have k2 := need_no
      have OUT := Lib.hid (fun w2 (m : Mvd p wr w2) => HM.out.trans (Mvq.of m (Nat.le_of_lt hqz)))
      subst hR2
      clear hR hat hat2
      show Code.wp _ _ _ _ _
      unfold AnsD
      unfold errS at k2 ⊢
      go_wp2_with (first
       | (go_at_call 103; first | ((with_reducible refine k34.mono ?_); rintro e w2 ⟨rfl, hw2⟩; rw [hw2]; clear hw2) | ((with_reducible refine k36.mono ?_); rintro e w2 ⟨rfl, hw2⟩; rw [hw2]; clear hw2) | ((with_reducible refine k92.mono ?_); rintro e w2 ⟨rfl, h2, m2⟩; have H2 := Lib.hid (And.intro h2 m2); clear h2 m2))
       | (go_at_call 74; (with_reducible refine (ka _ H2.out.1).mono ?_); rintro e w3 ⟨rfl, hw3⟩; rw [hw3]; clear hw3)
       | (go_at_call 30; refine (k2 _).mono ?_; rintro e w4 ⟨rfl, hw4⟩; rw [hw4]; clear hw4))
      exact ⟨rfl, rfl, OUT.out _ H2.out.2⟩
    | none =>
     have k92 : Calls Tryz.prog 103 #[.pointer (some ⟨p, 0, none⟩), .string ⟨#[92]⟩] wr fun e w' => e = .returned (.bool false) ∧ w' = wr := t92n h92
     rw [dbl_e0 h34 h36 h92] at hR
     have ku := until_bound p l sg d wr hr hl
     have hrl := run_past_len shBound l
     clear hS hm t34y t34n t36y t36n t92y t92n h34 h36 h92 hEr
     by_cases hrn : runS shBound l = []
     ·rw [if_pos hrn] at hR
      rw [hrn] at ku
      have hR2 : R = .bad 9 := hR.symm
      have k2 := need_no
      have OUT := Lib.hid (fun w2 (b : Below wr.heap.size wr w2) => HM.out.trans (Mvq.of (Mvd.of b hr.lt) (Nat.le_of_lt hqz)))
      subst hR2
      clear hR hrn hr
      show Code.wp _ _ _ _ _
      unfold AnsD
      unfold errS at k2 ⊢
      go_wp2_with (first
       | (go_at_call 103; first | ((with_reducible refine k34.mono ?_); rintro e w2 ⟨rfl, hw2⟩; rw [hw2]; clear hw2) | ((with_reducible refine k36.mono ?_); rintro e w2 ⟨rfl, hw2⟩; rw [hw2]; clear hw2) | ((with_reducible refine k92.mono ?_); rintro e w2 ⟨rfl, hw2⟩; rw [hw2]; clear hw2))
       | (go_at_call 101; (with_reducible refine ku.mono ?_); rintro e w3 ⟨rfl, b3⟩)
       | (go_at_call 30; refine (k2 _).mono ?_; rintro e w4 ⟨rfl, hw4⟩; rw [hw4]; clear hw4))
      exact ⟨rfl, rfl, OUT.out _ b3⟩
     ·rw [if_neg hrn] at hR
      have h0 : (runS shBound l).length ≠ 0 := fun e => hrn (List.eq_nil_of_length_eq_zero e)
      have hsz := sz_ps st
      have hsl := sz_lit st (runS shBound l) true
      have hst := sz_tl st
      have kc := fun w3 (h3 : Rs p l sg d w3) => cutS_any p (runS shBound l).length l sg d w3 h3 (by omega) hl
      rw [run_take, past_drop] at kc
      have KC := Lib.hid kc
      have KL := Lib.hid (fun w3 (m : Mvd p wr w3) => literal_any L hv.good.nil q NoneF st true (runS shBound l) w3 (HS0.out.moved m hpq) (fun g hg => hg.elim) (fun g hg => hg.elim) (by omega) (by omega))
      have BEL := Lib.hid (fun w2 (b : Below wr.heap.size wr w2) => And.intro (hr.below b) (Mvd.of b hr.lt))
      cases gk with
      | zero => omega
      | succ g =>
       have NEXT : Hid (∀ w3 w4 : World, Mvd p wr w3 → Rs p (pastS shBound l) sg d w3 → SpM L q NoneF (st.lit (runS shBound l) true) w4 → Below q w3 w4 → DblI L sub p q sg d w R g w4) := by
        show ∀ _, _
        intro w3 w4 m3 h3 hs4 b4
        exact ⟨_, _, hs4, h3.belowq b4 hpq, (HM.out.trans (Mvq.of m3 (Nat.le_of_lt hqz))).trans (Mvq.low' b4 (Nat.le_of_lt hpq)), by omega, by omega, by omega, hR⟩
       obtain ⟨X, hX⟩ : ∃ X : ByteArray, X = ⟨(runS shBound l).toArray⟩ := ⟨_, rfl⟩
       rw [← hX] at KC KL
       obtain ⟨n, hn⟩ : ∃ n, n = (runS shBound l).length := ⟨_, rfl⟩
       rw [← hn] at ku KC h0
       have hn0 : (0 : Int) < (n : Int) := by omega
       have hn1 : 0 < n := by omega
       clear hR hsz hsl hst hz hg hl hqz hX hn h0 hrl kc hrn hr
       go_wp2_with (first
        | (go_at_call 103; first | ((with_reducible refine k34.mono ?_); rintro e w2 ⟨rfl, hw2⟩; rw [hw2]; clear hw2) | ((with_reducible refine k36.mono ?_); rintro e w2 ⟨rfl, hw2⟩; rw [hw2]; clear hw2) | ((with_reducible refine k92.mono ?_); rintro e w2 ⟨rfl, hw2⟩; rw [hw2]; clear hw2))
        | (go_at_call 101; (with_reducible refine ku.mono ?_); rintro e w3 ⟨rfl, b3⟩; obtain ⟨q1, q2⟩ := BEL.out w3 b3; have kc := KC.out w3 q1; have M3 := Lib.hid q2; clear b3 q1 q2)
        | (go_at_call 30; refine (need_yes _).mono ?_; rintro e w4 ⟨rfl, hw4⟩; rw [hw4]; clear hw4)
        | (go_at_call 162; (with_reducible refine kc.mono ?_); rintro e w5 ⟨rfl, h5, m5⟩; have kl := KL.out w5 (M3.out.trans m5); have H5 := Lib.hid (And.intro h5 (M3.out.trans m5)); clear h5 m5)
        | (go_at_call 163; (with_reducible refine kl.mono ?_); rintro e w6 ⟨rfl, hs6, b6⟩; have HN := Lib.hid (NEXT.out _ w6 H5.out.2 H5.out.1 hs6 b6); clear hs6 b6))
       go_roundg g
       case measure => omega
       case rel => exact HN.out
set_option maxHeartbeats 4000000 in
set_option maxRecDepth 20000 in
theorem double_any (L : ValP (List Co)) (sub : Deeper) (p q : Nat) (sg : Value) (d : Nat) (hv : Lv L sub p sg d) (st0 : Sp) (l0 : List UInt8) (w : World) (hS : SpM L q NoneF st0 w) (h : Rs p l0 sg d w) (hE : EnvS p sg w) (hpq : p < q) (hl0 : l0.length ≤ 1048576) (hz : st0.sz + 2 * l0.length ≤ 4194304) :
  Calls Tryz.prog 165 #[.pointer (some ⟨p, 0, none⟩), .pointer (some ⟨q, 0, none⟩)] w (AnsD L p q sg d w (dblS sub st0 l0)) := by
 cases h34 : takeS [34] l0 with
 | none =>
  have e : dblS sub st0 l0 = iterS (dblStep sub) st0 l0 := by unfold dblS; rw [h34]
  rw [e]
  exact double_loop L sub p q sg d hv st0 l0 w hS h hE hpq hl0 hz h34
 | some r =>
  have e : dblS sub st0 l0 = .ok (st0.lit [] true) r := by unfold dblS; rw [h34]
  rw [e]
  have hqz : q < w.heap.size := by obtain ⟨_, _, _, _, _, hh, _⟩ := hS; exact heap_ltS hh.blk
  have hsz := sz_ps st0
  have hst := sz_tl st0
  have k0 := (show Calls Tryz.prog 103 #[.pointer (some ⟨p, 0, none⟩), .string ⟨#[34]⟩] w fun e w' => e = .returned (.bool true) ∧ Rs p r sg d w' ∧ Mvd p w w' from takeS_yes p [34] l0 r sg d w h hl0 h34)
  have KL := Lib.hid (fun w3 (m : Mvd p w w3) => (show Calls Tryz.prog 163 #[.pointer (some ⟨q, 0, none⟩), .string ⟨#[]⟩, .bool true] w3 fun e w' => e = .returned (.tuple #[]) ∧ SpM L q NoneF (st0.lit [] true) w' ∧ Below q w3 w' from literal_any L hv.good.nil q NoneF st0 true [] w3 (hS.moved m hpq) (fun g hg => hg.elim) (fun g hg => hg.elim) (by omega) (by simp only [List.length_nil]; omega)))
  have FIN : Hid (∀ w3 w4 : World, Mvd p w w3 → Rs p r sg d w3 → Below q w3 w4 → Rs p r sg d w4 ∧ Mvq p q w w4) := by
   show ∀ _, _
   intro w3 w4 m3 h3 b4
   exact ⟨h3.belowq b4 hpq, (Mvq.of m3 (Nat.le_of_lt hqz)).trans (Mvq.low' b4 (Nat.le_of_lt hpq))⟩
  clear hS h hE hl0 hz h34 hqz hsz hst e
  go_enter Tryz.func165, Tryz.ntmps165
  unfold AnsD
  go_wp2_with (first
   | (go_at_call 103; (with_reducible refine k0.mono ?_); rintro e w1 ⟨rfl, h1, m1⟩; have kl := KL.out w1 m1; have H1 := Lib.hid (And.intro h1 m1); clear h1 m1)
   | (go_at_call 163; (with_reducible refine kl.mono ?_); rintro e w2 ⟨rfl, hs2, b2⟩; have HN := Lib.hid (And.intro hs2 (FIN.out _ w2 H1.out.2 H1.out.1 b2)); clear hs2 b2))
  refine bodyPost_ret (results_none rfl _ _ _) rfl ?_
  exact ⟨rfl, HN.out.1, HN.out.2.1, HN.out.2.2⟩
end Go.Proofs.YtelfgobjnibooaaGreatDoor
