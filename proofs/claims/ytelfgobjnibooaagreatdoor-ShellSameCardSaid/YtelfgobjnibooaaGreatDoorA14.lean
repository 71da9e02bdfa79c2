/- Packed texts: ShLines, ShCF, ShRounds, ShChoice. What each of them proves stands above its theorems; the conditions stand in these. -/
import Derived.Test.YtelfgobjnibooaaGreatDoorA13
namespace Go.Proofs.YtelfgobjnibooaaGreatDoor
open Go.RowKit Go.Lib
structure Gv (L : ValP (List Co)) (g : Dn) (p : Nat) (sg : Value) (d : Nat) : Prop where
 good : GoodL L
 nl : ∀ l, Nice l (g.lst l)
 nw : ∀ l, Nice l (g.wds l)
 lst : ∀ l w, Rs p l sg d w → EnvS p sg w → l.length ≤ 1048576 → Calls Tryz.prog 29 #[.pointer (some ⟨p, 0, none⟩)] w (AnsV L p sg d w (g.lst l))
 wds : ∀ l w, Rs p l sg d w → EnvS p sg w → l.length ≤ 1048576 → Calls Tryz.prog 141 #[.pointer (some ⟨p, 0, none⟩)] w (AnsV (WdsV L) p sg d w (g.wds l))
theorem Lv.down {L : ValP (List Co)} {sub : Deeper} {g : Dn} {p : Nat} {sg : Value} {d : Nat} (h : Lv L sub p sg d) (hg : sub = some g) : Gv L g p sg (d + 1) :=
 ⟨h.good, (h.nice g hg).1, (h.nice g hg).2, h.lst g hg, h.wds g hg⟩
theorem ansRow {L : ValP (List Co)} (hL : GoodL L) {p : Nat} {sg : Value} {d : Nat} {w : World} {x : List Co} {r : List UInt8} {e : Ending} {w' : World} (h : AnsV L p sg d w (.ok x r) e w') : (∃ ao cap, e = .returned (.slice ao x.length cap) ∧ L.q (NewF w.heap.size w'.heap.size) w' (.slice ao x.length cap) x) ∧ Rs p r sg d w' ∧ Mvd p w w' := by
 obtain ⟨⟨v, h1, h2⟩, h3, h4⟩ := h
 obtain ⟨ao, cap, rfl, _⟩ := hL.shape _ _ _ _ h2
 exact ⟨⟨ao, cap, h1, h2⟩, h3, h4⟩
theorem linesS_nice1 {g : Dn} (hn : ∀ l, Nice l (g.lst l)) (l : List UInt8) : Nice l (linesS g l) := by
 unfold linesS
 refine (hn l).bind fun cs r _ => ?_
 split
 ·exact nice9
 ·exact Nat.le_refl _
set_option maxHeartbeats 4000000 in
set_option maxRecDepth 20000 in
theorem lines_any (L : ValP (List Co)) (g : Dn) (p : Nat) (sg : Value) (d : Nat) (G : Gv L g p sg d) (l : List UInt8) (w : World) (h : Rs p l sg d w) (hE : EnvS p sg w) (hl : l.length ≤ 1048576) :
  Calls Tryz.prog 137 #[.pointer (some ⟨p, 0, none⟩)] w (AnsV L p sg d w (linesS g l)) := by
 have kl := G.lst l w h hE hl
 have hgood := G.good
 clear h hE hl G
 unfold linesS
 cases hr : g.lst l with
 | bad x =>
  rw [hr] at kl
  have kl : Calls Tryz.prog 29 #[.pointer (some ⟨p, 0, none⟩)] w fun e w' => e = errS x ∧ Mvd p w w' := kl
  show Calls _ _ _ _ fun e w' => e = errS x ∧ Mvd p w w'
  unfold errS at kl ⊢
  go_enter Tryz.func137, Tryz.ntmps137
  go_wp2_with (go_at_call 29; (with_reducible refine kl.mono ?_); rintro e w1 ⟨rfl, m1⟩)
  exact ⟨rfl, rfl, m1⟩
 | ok cs r =>
  rw [hr] at kl
  have kl : Calls Tryz.prog 29 #[.pointer (some ⟨p, 0, none⟩)] w fun e w' => (∃ ao cap, e = .returned (.slice ao cs.length cap) ∧ L.q (NewF w.heap.size w'.heap.size) w' (.slice ao cs.length cap) cs) ∧ Rs p r sg d w' ∧ Mvd p w w' := kl.mono fun e w' => ansRow hgood
  have hcs : cs = [] ↔ cs.length = 0 := List.length_eq_zero_iff.symm
  obtain ⟨n, hn⟩ : ∃ n, n = cs.length := ⟨_, rfl⟩
  rw [← hn] at kl hcs
  clear hn hr
  by_cases h0 : 0 < n
  ·have e1 : (Rr.ok cs r).bind (fun cs r => if cs = [] then .bad 9 else .ok cs r) = Rr.ok cs r := if_neg fun e => by have := hcs.1 e; omega
   rw [e1]
   have h1 : (0 : Int) < (n : Int) := by omega
   clear e1 hcs
   go_enter Tryz.func137, Tryz.ntmps137
   go_wp2_with (first
    | (go_at_call 29; (with_reducible refine kl.mono ?_); rintro e w1 ⟨⟨ao, cap, rfl, hx⟩, h2, m2⟩; have H := Lib.hid (And.intro hx (And.intro h2 m2)); clear hx h2 m2)
    | (go_at_call 30; refine (need_yes _).mono ?_; rintro e w4 ⟨rfl, hw4⟩; rw [hw4]; clear hw4))
   refine bodyPost_ret (results_tmp rfl _ _ _) rfl ?_
   exact ⟨⟨_, rfl, H.out.1⟩, H.out.2.1, H.out.2.2⟩
  ·have e1 : (Rr.ok cs r).bind (fun cs r => if cs = [] then .bad 9 else .ok cs r) = Rr.bad 9 := if_pos (hcs.2 (by omega))
   rw [e1]
   have h1 : ¬ (0 : Int) < (n : Int) := by omega
   clear e1 hcs
   have k2 := need_no
   show Calls _ _ _ _ fun e w' => e = errS 9 ∧ Mvd p w w'
   unfold errS at k2 ⊢
   go_enter Tryz.func137, Tryz.ntmps137
   go_wp2_with (first
    | (go_at_call 29; (with_reducible refine kl.mono ?_); rintro e w1 ⟨⟨ao, cap, rfl, hx⟩, h2, m2⟩; have H := Lib.hid (And.intro hx (And.intro h2 m2)); clear hx h2 m2)
    | (go_at_call 30; refine (k2 _).mono ?_; rintro e w4 ⟨rfl, hw4⟩; rw [hw4]; clear hw4))
   exact ⟨rfl, rfl, H.out.2.2⟩
theorem needKey_ok {k l r : List UInt8} {u : Unit} (h : needKey k l = .ok u r) : takeKeyS k l = some r := by
 unfold needKey at h
 cases ht : takeKeyS k l with
 | none => rw [ht] at h; cases h
 | some r1 => rw [ht] at h; cases h; rfl
theorem needKey_bad {k l : List UInt8} {x : Int} (h : needKey k l = .bad x) : takeKeyS k l = none ∧ x = 9 := by
 unfold needKey at h
 cases ht : takeKeyS k l with
 | none => rw [ht] at h; cases h; exact ⟨rfl, rfl⟩
 | some r1 => rw [ht] at h; cases h
theorem takeKey_len {k l r : List UInt8} (h : takeKeyS k l = some r) : r.length ≤ l.length := by
 unfold takeKeyS at h
 split at h
 ·injection h with h; rw [← h, List.length_drop]; omega
 ·cases h
set_option maxHeartbeats 4000000 in
set_option maxRecDepth 20000 in
theorem body_any (L : ValP (List Co)) (g : Dn) (p : Nat) (sg : Value) (d : Nat) (G : Gv L g p sg d) (l : List UInt8) (w : World) (h : Rs p l sg d w) (hE : EnvS p sg w) (hl : l.length ≤ 1048576) :
  Calls Tryz.prog 139 #[.pointer (some ⟨p, 0, none⟩)] w (AnsV L p sg d w (bodyS g l)) := by
 unfold bodyS
 have hgood := G.good
 cases h1 : needKey [100, 111] l with
 | bad x =>
  obtain ⟨ht, rfl⟩ := needKey_bad h1
  have k1 := (show Calls Tryz.prog 138 #[.pointer (some ⟨p, 0, none⟩), .string ⟨#[100, 111]⟩] w fun e w' => e = .returned (.bool false) ∧ Rs p l sg d w' ∧ Mvd p w w' from takeKey_no p [100, 111] l sg d w h hl ht)
  have k2 := need_no
  show Calls _ _ _ _ fun e w' => e = errS 9 ∧ Mvd p w w'
  unfold errS at k2 ⊢
  go_enter Tryz.func139, Tryz.ntmps139
  go_wp2_with (first
   | (go_at_call 138; (with_reducible refine k1.mono ?_); rintro e w1 ⟨rfl, _, m1⟩)
   | (go_at_call 30; refine (k2 _).mono ?_; rintro e w4 ⟨rfl, hw4⟩; rw [hw4]; clear hw4))
  exact ⟨rfl, rfl, m1⟩
 | ok u l1 =>
  have ht1 := needKey_ok h1
  have hn1 := takeKey_len ht1
  have k1 := (show Calls Tryz.prog 138 #[.pointer (some ⟨p, 0, none⟩), .string ⟨#[100, 111]⟩] w fun e w' => e = .returned (.bool true) ∧ Rs p l1 sg d w' ∧ Mvd p w w' from takeKey_yes p [100, 111] l l1 sg d w h hl ht1)
  have KL := Lib.hid (fun w1 (h1 : Rs p l1 sg d w1) (m1 : Mvd p w w1) => lines_any L g p sg d G l1 w1 h1 (hE.below m1.low) (by omega))
  show Calls _ _ _ _ (AnsV L p sg d w ((linesS g l1).bind fun cs r1 => (needKey [100, 111, 110, 101] r1).bind fun _ r2 => .ok cs r2))
  cases h2 : linesS g l1 with
  | bad x =>
   rw [h2] at KL
   have KL2 : Hid (∀ w1, Rs p l1 sg d w1 → Mvd p w w1 → Calls Tryz.prog 137 #[.pointer (some ⟨p, 0, none⟩)] w1 fun e w' => e = errS x ∧ Mvd p w1 w') := KL.out
   show Calls _ _ _ _ fun e w' => e = errS x ∧ Mvd p w w'
   unfold errS at KL2 ⊢
   clear KL
   go_enter Tryz.func139, Tryz.ntmps139
   go_wp2_with (first
    | (go_at_call 138; (with_reducible refine k1.mono ?_); rintro e w1 ⟨rfl, h1, m1⟩; have kl := KL2.out w1 h1 m1; have M1 := Lib.hid m1; clear h1 m1)
    | (go_at_call 30; refine (need_yes _).mono ?_; rintro e w4 ⟨rfl, hw4⟩; rw [hw4]; clear hw4)
    | (go_at_call 137; (with_reducible refine kl.mono ?_); rintro e w2 ⟨rfl, m2⟩))
   exact ⟨rfl, rfl, M1.out.trans m2⟩
  | ok cs r1 =>
   have hn2 := linesS_nice1 G.nl l1
   rw [h2] at KL hn2
   have hn2 : r1.length ≤ l1.length := hn2
   have KL2 : Hid (∀ w1, Rs p l1 sg d w1 → Mvd p w w1 → Calls Tryz.prog 137 #[.pointer (some ⟨p, 0, none⟩)] w1 fun e w' => (∃ ao cap, e = .returned (.slice ao cs.length cap) ∧ L.q (NewF w1.heap.size w'.heap.size) w' (.slice ao cs.length cap) cs) ∧ Rs p r1 sg d w' ∧ Mvd p w1 w') := fun w1 a b => (KL.out w1 a b).mono fun e w' => ansRow hgood
   clear KL
   show Calls _ _ _ _ (AnsV L p sg d w ((needKey [100, 111, 110, 101] r1).bind fun _ r2 => .ok cs r2))
   cases h3 : needKey [100, 111, 110, 101] r1 with
   | bad x =>
    obtain ⟨ht, rfl⟩ := needKey_bad h3
    have K3 := Lib.hid (fun w2 (h2 : Rs p r1 sg d w2) => (show Calls Tryz.prog 138 #[.pointer (some ⟨p, 0, none⟩), .string ⟨#[100, 111, 110, 101]⟩] w2 fun e w' => e = .returned (.bool false) ∧ Rs p r1 sg d w' ∧ Mvd p w2 w' from takeKey_no p [100, 111, 110, 101] r1 sg d w2 h2 (by omega) ht))
    have k2 := need_no
    show Calls _ _ _ _ fun e w' => e = errS 9 ∧ Mvd p w w'
    unfold errS at k2 ⊢
    go_enter Tryz.func139, Tryz.ntmps139
    go_wp2_with (first
     | (go_at_call 138; first | ((with_reducible refine k1.mono ?_); rintro e w1 ⟨rfl, h1, m1⟩; have kl := KL2.out w1 h1 m1; have M1 := Lib.hid m1; clear h1 m1) | ((with_reducible refine k3.mono ?_); rintro e w3 ⟨rfl, _, m3⟩))
     | (go_at_call 30; first | (refine (need_yes _).mono ?_; rintro e w4 ⟨rfl, hw4⟩; rw [hw4]; clear hw4) | (refine (k2 _).mono ?_; rintro e w4 ⟨rfl, hw4⟩; rw [hw4]; clear hw4))
     | (go_at_call 137; (with_reducible refine kl.mono ?_); rintro e w2 ⟨⟨ao, cap, rfl, hx⟩, h2, m2⟩; have k3 := K3.out w2 h2; have M2 := Lib.hid m2; clear hx h2 m2))
    exact ⟨rfl, rfl, (M1.out.trans M2.out).trans m3⟩
   | ok u r2 =>
    have ht3 := needKey_ok h3
    have K3 := Lib.hid (fun w2 (h2 : Rs p r1 sg d w2) => (show Calls Tryz.prog 138 #[.pointer (some ⟨p, 0, none⟩), .string ⟨#[100, 111, 110, 101]⟩] w2 fun e w' => e = .returned (.bool true) ∧ Rs p r2 sg d w' ∧ Mvd p w2 w' from takeKey_yes p [100, 111, 110, 101] r1 r2 sg d w2 h2 (by omega) ht3))
    have hp := h.lt
    have FIN := Lib.hid (fun w1 w2 w3 v (m1 : Mvd p w w1) (hx : L.q (NewF w1.heap.size w2.heap.size) w2 v cs) (m2 : Mvd p w1 w2) (m3 : Mvd p w2 w3) => (show L.q (NewF w.heap.size w3.heap.size) w3 v cs from L.mono _ _ _ _ _ (fun g hg => ⟨Nat.le_trans m1.size hg.1, Nat.lt_of_lt_of_le hg.2 m3.size⟩) (L.same _ _ _ _ _ (fun g hg => m3.high g (by have := m1.size; have := hg.1; omega) hg.2) hx)))
    show Calls _ _ _ _ (AnsV L p sg d w (.ok cs r2))
    go_enter Tryz.func139, Tryz.ntmps139
    go_wp2_with (first
     | (go_at_call 138; first | ((with_reducible refine k1.mono ?_); rintro e w1 ⟨rfl, h1, m1⟩; have kl := KL2.out w1 h1 m1; have M1 := Lib.hid m1; clear h1 m1) | ((with_reducible refine k3.mono ?_); rintro e w3 ⟨rfl, h3, m3⟩; have H3 := Lib.hid (And.intro h3 m3); clear h3 m3))
     | (go_at_call 30; refine (need_yes _).mono ?_; rintro e w4 ⟨rfl, hw4⟩; rw [hw4]; clear hw4)
     | (go_at_call 137; (with_reducible refine kl.mono ?_); rintro e w2 ⟨⟨ao, cap, rfl, hx⟩, h2, m2⟩; have k3 := K3.out w2 h2; have H2 := Lib.hid (And.intro hx m2); clear hx h2 m2))
    refine bodyPost_ret (results_tmp rfl _ _ _) rfl ?_
    exact ⟨⟨_, rfl, FIN.out _ _ _ _ M1.out H2.out.1 H2.out.2 H3.out.2⟩, H3.out.1, (M1.out.trans H2.out.2).trans H3.out.2⟩
end Go.Proofs.YtelfgobjnibooaaGreatDoor
namespace Go.Proofs.YtelfgobjnibooaaGreatDoor
open Go.RowKit Go.Lib
structure CF (L : ValP (List Co)) (p c : Nat) (sg : Value) (d : Nat) (W0 : World) (k : Nat) (Z : Int) (ns : List (List UInt8)) (vs ws : List (List Pt)) (cA cB cC : List Co) (vn vv vw va vb vc : Value) (r : List UInt8) (w : World) : Prop where
 z : Z = (k : Int)
 blk : w.heap[c]? = some (.cells #[.int .i64 Z, vn, vv, vw, va, vb, vc] 37 (0, 0))
 hn : StrV.q (NewF (c + 1) w.heap.size) w vn ns
 hv : (WdsV L).q (NewF (c + 1) w.heap.size) w vv vs
 hw : (WdsV L).q (NewF (c + 1) w.heap.size) w vw ws
 ha : L.q (NewF (c + 1) w.heap.size) w va cA
 hb : L.q (NewF (c + 1) w.heap.size) w vb cB
 hc : L.q (NewF (c + 1) w.heap.size) w vc cC
 rs : Rs p r sg d w
 env : EnvS p sg w
 mv : Mvq p c W0 w
theorem CF.step {L : ValP (List Co)} {p c : Nat} {sg : Value} {d k : Nat} {Z : Int} {W0 : World} {ns : List (List UInt8)} {vs ws : List (List Pt)} {cA cB cC : List Co} {vn vv vw va vb vc : Value} {r : List UInt8} {w : World} {r' : List UInt8} {w' : World} (h : CF L p c sg d W0 k Z ns vs ws cA cB cC vn vv vw va vb vc r w) (hpc : p < c) (m : Mvd p w w') (hr : Rs p r' sg d w') : CF L p c sg d W0 k Z ns vs ws cA cB cC vn vv vw va vb vc r' w' := by
 have hc := heap_ltS h.blk
 have keep : ∀ g, NewF (c + 1) w.heap.size g → w'.heap[g]? = w.heap[g]? := fun g hg => m.high g (by have := hg.1; omega) hg.2
 have up : ∀ g, NewF (c + 1) w.heap.size g → NewF (c + 1) w'.heap.size g := fun g hg => ⟨hg.1, Nat.lt_of_lt_of_le hg.2 m.size⟩
 exact ⟨h.z, (m.high c (by omega) hc).trans h.blk, StrV.mono _ _ _ _ _ up (StrV.same _ _ _ _ _ keep h.hn), (WdsV L).mono _ _ _ _ _ up ((WdsV L).same _ _ _ _ _ keep h.hv), (WdsV L).mono _ _ _ _ _ up ((WdsV L).same _ _ _ _ _ keep h.hw), L.mono _ _ _ _ _ up (L.same _ _ _ _ _ keep h.ha), L.mono _ _ _ _ _ up (L.same _ _ _ _ _ keep h.hb), L.mono _ _ _ _ _ up (L.same _ _ _ _ _ keep h.hc), hr, h.env.below m.low, h.mv.trans (Mvq.of m (Nat.le_of_lt hc))⟩
theorem CF.rowN {L : ValP (List Co)} {p c : Nat} {sg : Value} {d k : Nat} {Z : Int} {W0 : World} {ns : List (List UInt8)} {vs ws : List (List Pt)} {cA cB cC : List Co} {vn vv vw va vb vc : Value} {r : List UInt8} {w : World} {r' : List UInt8} {w' : World} {X : List (List UInt8)} {u : Value} (h : CF L p c sg d W0 k Z ns vs ws cA cB cC vn vv vw va vb vc r w) (hpc : p < c) (m : Mvd p w w') (hr : Rs p r' sg d w') (hx : StrV.q (NewF w.heap.size w'.heap.size) w' u X) : (w'.cell? ⟨c, 1, none⟩ = some vn ∧ w'.frozen? ⟨c, 1, none⟩ = false) ∧ CF L p c sg d W0 k Z X vs ws cA cB cC u vv vw va vb vc r' (w'.setCell ⟨c, 1, none⟩ u) := by
 have h1 := h.step hpc m hr
 have hc := heap_ltS h.blk
 have hset := heap_setCell_same w' c 1 _ _ u h1.blk
 have hx1 : StrV.q (NewF (c + 1) w'.heap.size) w' u X := StrV.mono _ _ _ _ _ (fun g hg => ⟨Nat.le_trans hc hg.1, hg.2⟩) hx
 have keep : ∀ g, NewF (c + 1) w'.heap.size g → (w'.setCell ⟨c, 1, none⟩ u).heap[g]? = w'.heap[g]? := fun g hg => Below.heap_setCell _ _ _ _ (show g ≠ c by have := hg.1; omega)
 have up : ∀ g, NewF (c + 1) w'.heap.size g → NewF (c + 1) (w'.setCell ⟨c, 1, none⟩ u).heap.size g := fun g hg => ⟨hg.1, by simpa using hg.2⟩
 have b1 : Below c w' (w'.setCell ⟨c, 1, none⟩ u) := (Below.refl _ w').setCell (p := ⟨c, 1, none⟩) (Nat.le_refl _) u
 refine ⟨⟨by rw [cell_of_heap h1.blk]; rfl, frozen_of_heap h1.blk _⟩, h1.z, by simpa using hset, StrV.mono _ _ _ _ _ up (StrV.same _ _ _ _ _ keep hx1), (WdsV L).mono _ _ _ _ _ up ((WdsV L).same _ _ _ _ _ keep h1.hv), (WdsV L).mono _ _ _ _ _ up ((WdsV L).same _ _ _ _ _ keep h1.hw), L.mono _ _ _ _ _ up (L.same _ _ _ _ _ keep h1.ha), L.mono _ _ _ _ _ up (L.same _ _ _ _ _ keep h1.hb), L.mono _ _ _ _ _ up (L.same _ _ _ _ _ keep h1.hc), h1.rs.belowq b1 hpc, h1.env.below (b1.mono (Nat.le_of_lt hpc)), h1.mv.trans (Mvq.low' b1 (Nat.le_of_lt hpc))⟩
theorem CF.rowW {L : ValP (List Co)} {p c : Nat} {sg : Value} {d k : Nat} {Z : Int} {W0 : World} {ns : List (List UInt8)} {vs ws : List (List Pt)} {cA cB cC : List Co} {vn vv vw va vb vc : Value} {r : List UInt8} {w : World} {r' : List UInt8} {w' : World} {X : List (List Pt)} {u : Value} (h : CF L p c sg d W0 k Z ns vs ws cA cB cC vn vv vw va vb vc r w) (hpc : p < c) (m : Mvd p w w') (hr : Rs p r' sg d w') (hx : (WdsV L).q (NewF w.heap.size w'.heap.size) w' u X) : (w'.cell? ⟨c, 3, none⟩ = some vw ∧ w'.frozen? ⟨c, 3, none⟩ = false) ∧ CF L p c sg d W0 k Z ns vs X cA cB cC vn vv u va vb vc r' (w'.setCell ⟨c, 3, none⟩ u) := by
 have h1 := h.step hpc m hr
 have hc := heap_ltS h.blk
 have hset := heap_setCell_same w' c 3 _ _ u h1.blk
 have hx1 : (WdsV L).q (NewF (c + 1) w'.heap.size) w' u X := (WdsV L).mono _ _ _ _ _ (fun g hg => ⟨Nat.le_trans hc hg.1, hg.2⟩) hx
 have keep : ∀ g, NewF (c + 1) w'.heap.size g → (w'.setCell ⟨c, 3, none⟩ u).heap[g]? = w'.heap[g]? := fun g hg => Below.heap_setCell _ _ _ _ (show g ≠ c by have := hg.1; omega)
 have up : ∀ g, NewF (c + 1) w'.heap.size g → NewF (c + 1) (w'.setCell ⟨c, 3, none⟩ u).heap.size g := fun g hg => ⟨hg.1, by simpa using hg.2⟩
 have b1 : Below c w' (w'.setCell ⟨c, 3, none⟩ u) := (Below.refl _ w').setCell (p := ⟨c, 3, none⟩) (Nat.le_refl _) u
 refine ⟨⟨by rw [cell_of_heap h1.blk]; rfl, frozen_of_heap h1.blk _⟩, h1.z, by simpa using hset, StrV.mono _ _ _ _ _ up (StrV.same _ _ _ _ _ keep h1.hn), (WdsV L).mono _ _ _ _ _ up ((WdsV L).same _ _ _ _ _ keep h1.hv), (WdsV L).mono _ _ _ _ _ up ((WdsV L).same _ _ _ _ _ keep hx1), L.mono _ _ _ _ _ up (L.same _ _ _ _ _ keep h1.ha), L.mono _ _ _ _ _ up (L.same _ _ _ _ _ keep h1.hb), L.mono _ _ _ _ _ up (L.same _ _ _ _ _ keep h1.hc), h1.rs.belowq b1 hpc, h1.env.below (b1.mono (Nat.le_of_lt hpc)), h1.mv.trans (Mvq.low' b1 (Nat.le_of_lt hpc))⟩
theorem CF.rowA {L : ValP (List Co)} {p c : Nat} {sg : Value} {d k : Nat} {Z : Int} {W0 : World} {ns : List (List UInt8)} {vs ws : List (List Pt)} {cA cB cC : List Co} {vn vv vw va vb vc : Value} {r : List UInt8} {w : World} {r' : List UInt8} {w' : World} {X : List Co} {u : Value} (h : CF L p c sg d W0 k Z ns vs ws cA cB cC vn vv vw va vb vc r w) (hpc : p < c) (m : Mvd p w w') (hr : Rs p r' sg d w') (hx : L.q (NewF w.heap.size w'.heap.size) w' u X) : (w'.cell? ⟨c, 4, none⟩ = some va ∧ w'.frozen? ⟨c, 4, none⟩ = false) ∧ CF L p c sg d W0 k Z ns vs ws X cB cC vn vv vw u vb vc r' (w'.setCell ⟨c, 4, none⟩ u) := by
 have h1 := h.step hpc m hr
 have hc := heap_ltS h.blk
 have hset := heap_setCell_same w' c 4 _ _ u h1.blk
 have hx1 : L.q (NewF (c + 1) w'.heap.size) w' u X := L.mono _ _ _ _ _ (fun g hg => ⟨Nat.le_trans hc hg.1, hg.2⟩) hx
 have keep : ∀ g, NewF (c + 1) w'.heap.size g → (w'.setCell ⟨c, 4, none⟩ u).heap[g]? = w'.heap[g]? := fun g hg => Below.heap_setCell _ _ _ _ (show g ≠ c by have := hg.1; omega)
 have up : ∀ g, NewF (c + 1) w'.heap.size g → NewF (c + 1) (w'.setCell ⟨c, 4, none⟩ u).heap.size g := fun g hg => ⟨hg.1, by simpa using hg.2⟩
 have b1 : Below c w' (w'.setCell ⟨c, 4, none⟩ u) := (Below.refl _ w').setCell (p := ⟨c, 4, none⟩) (Nat.le_refl _) u
 refine ⟨⟨by rw [cell_of_heap h1.blk]; rfl, frozen_of_heap h1.blk _⟩, h1.z, by simpa using hset, StrV.mono _ _ _ _ _ up (StrV.same _ _ _ _ _ keep h1.hn), (WdsV L).mono _ _ _ _ _ up ((WdsV L).same _ _ _ _ _ keep h1.hv), (WdsV L).mono _ _ _ _ _ up ((WdsV L).same _ _ _ _ _ keep h1.hw), L.mono _ _ _ _ _ up (L.same _ _ _ _ _ keep hx1), L.mono _ _ _ _ _ up (L.same _ _ _ _ _ keep h1.hb), L.mono _ _ _ _ _ up (L.same _ _ _ _ _ keep h1.hc), h1.rs.belowq b1 hpc, h1.env.below (b1.mono (Nat.le_of_lt hpc)), h1.mv.trans (Mvq.low' b1 (Nat.le_of_lt hpc))⟩
theorem CF.rowB {L : ValP (List Co)} {p c : Nat} {sg : Value} {d k : Nat} {Z : Int} {W0 : World} {ns : List (List UInt8)} {vs ws : List (List Pt)} {cA cB cC : List Co} {vn vv vw va vb vc : Value} {r : List UInt8} {w : World} {r' : List UInt8} {w' : World} {X : List Co} {u : Value} (h : CF L p c sg d W0 k Z ns vs ws cA cB cC vn vv vw va vb vc r w) (hpc : p < c) (m : Mvd p w w') (hr : Rs p r' sg d w') (hx : L.q (NewF w.heap.size w'.heap.size) w' u X) : (w'.cell? ⟨c, 5, none⟩ = some vb ∧ w'.frozen? ⟨c, 5, none⟩ = false) ∧ CF L p c sg d W0 k Z ns vs ws cA X cC vn vv vw va u vc r' (w'.setCell ⟨c, 5, none⟩ u) := by
 have h1 := h.step hpc m hr
 have hc := heap_ltS h.blk
 have hset := heap_setCell_same w' c 5 _ _ u h1.blk
 have hx1 : L.q (NewF (c + 1) w'.heap.size) w' u X := L.mono _ _ _ _ _ (fun g hg => ⟨Nat.le_trans hc hg.1, hg.2⟩) hx
 have keep : ∀ g, NewF (c + 1) w'.heap.size g → (w'.setCell ⟨c, 5, none⟩ u).heap[g]? = w'.heap[g]? := fun g hg => Below.heap_setCell _ _ _ _ (show g ≠ c by have := hg.1; omega)
 have up : ∀ g, NewF (c + 1) w'.heap.size g → NewF (c + 1) (w'.setCell ⟨c, 5, none⟩ u).heap.size g := fun g hg => ⟨hg.1, by simpa using hg.2⟩
 have b1 : Below c w' (w'.setCell ⟨c, 5, none⟩ u) := (Below.refl _ w').setCell (p := ⟨c, 5, none⟩) (Nat.le_refl _) u
 refine ⟨⟨by rw [cell_of_heap h1.blk]; rfl, frozen_of_heap h1.blk _⟩, h1.z, by simpa using hset, StrV.mono _ _ _ _ _ up (StrV.same _ _ _ _ _ keep h1.hn), (WdsV L).mono _ _ _ _ _ up ((WdsV L).same _ _ _ _ _ keep h1.hv), (WdsV L).mono _ _ _ _ _ up ((WdsV L).same _ _ _ _ _ keep h1.hw), L.mono _ _ _ _ _ up (L.same _ _ _ _ _ keep h1.ha), L.mono _ _ _ _ _ up (L.same _ _ _ _ _ keep hx1), L.mono _ _ _ _ _ up (L.same _ _ _ _ _ keep h1.hc), h1.rs.belowq b1 hpc, h1.env.below (b1.mono (Nat.le_of_lt hpc)), h1.mv.trans (Mvq.low' b1 (Nat.le_of_lt hpc))⟩
theorem CF.rowC {L : ValP (List Co)} {p c : Nat} {sg : Value} {d k : Nat} {Z : Int} {W0 : World} {ns : List (List UInt8)} {vs ws : List (List Pt)} {cA cB cC : List Co} {vn vv vw va vb vc : Value} {r : List UInt8} {w : World} {r' : List UInt8} {w' : World} {X : List Co} {u : Value} (h : CF L p c sg d W0 k Z ns vs ws cA cB cC vn vv vw va vb vc r w) (hpc : p < c) (m : Mvd p w w') (hr : Rs p r' sg d w') (hx : L.q (NewF w.heap.size w'.heap.size) w' u X) : (w'.cell? ⟨c, 6, none⟩ = some vc ∧ w'.frozen? ⟨c, 6, none⟩ = false) ∧ CF L p c sg d W0 k Z ns vs ws cA cB X vn vv vw va vb u r' (w'.setCell ⟨c, 6, none⟩ u) := by
 have h1 := h.step hpc m hr
 have hc := heap_ltS h.blk
 have hset := heap_setCell_same w' c 6 _ _ u h1.blk
 have hx1 : L.q (NewF (c + 1) w'.heap.size) w' u X := L.mono _ _ _ _ _ (fun g hg => ⟨Nat.le_trans hc hg.1, hg.2⟩) hx
 have keep : ∀ g, NewF (c + 1) w'.heap.size g → (w'.setCell ⟨c, 6, none⟩ u).heap[g]? = w'.heap[g]? := fun g hg => Below.heap_setCell _ _ _ _ (show g ≠ c by have := hg.1; omega)
 have up : ∀ g, NewF (c + 1) w'.heap.size g → NewF (c + 1) (w'.setCell ⟨c, 6, none⟩ u).heap.size g := fun g hg => ⟨hg.1, by simpa using hg.2⟩
 have b1 : Below c w' (w'.setCell ⟨c, 6, none⟩ u) := (Below.refl _ w').setCell (p := ⟨c, 6, none⟩) (Nat.le_refl _) u
 refine ⟨⟨by rw [cell_of_heap h1.blk]; rfl, frozen_of_heap h1.blk _⟩, h1.z, by simpa using hset, StrV.mono _ _ _ _ _ up (StrV.same _ _ _ _ _ keep h1.hn), (WdsV L).mono _ _ _ _ _ up ((WdsV L).same _ _ _ _ _ keep h1.hv), (WdsV L).mono _ _ _ _ _ up ((WdsV L).same _ _ _ _ _ keep h1.hw), L.mono _ _ _ _ _ up (L.same _ _ _ _ _ keep h1.ha), L.mono _ _ _ _ _ up (L.same _ _ _ _ _ keep h1.hb), L.mono _ _ _ _ _ up (L.same _ _ _ _ _ keep hx1), h1.rs.belowq b1 hpc, h1.env.below (b1.mono (Nat.le_of_lt hpc)), h1.mv.trans (Mvq.low' b1 (Nat.le_of_lt hpc))⟩
theorem CF.fin {L : ValP (List Co)} {p : Nat} {sg : Value} {d k : Nat} {Z : Int} {ns : List (List UInt8)} {vs ws : List (List Pt)} {cA cB cC : List Co} {vn vv vw va vb vc : Value} {r : List UInt8} {w w4 : World} (h : CF L p (w.heap.size + 1) sg d (CW k w) k Z ns vs ws cA cB cC vn vv vw va vb vc r w4) (hp : p < w.heap.size) :
  (w4.cell? ⟨w.heap.size + 1, 0, none⟩ = some (.int .i64 Z) ∧ w4.cell? ⟨w.heap.size + 1, 1, none⟩ = some vn ∧ w4.cell? ⟨w.heap.size + 1, 2, none⟩ = some vv ∧ w4.cell? ⟨w.heap.size + 1, 3, none⟩ = some vw ∧ w4.cell? ⟨w.heap.size + 1, 4, none⟩ = some va ∧ w4.cell? ⟨w.heap.size + 1, 5, none⟩ = some vb ∧ w4.cell? ⟨w.heap.size + 1, 6, none⟩ = some vc) ∧ Free7 w.heap.size w4 ∧ AnsE (cmdE L) p sg d w (.ok (.mk k ns vs ws cA cB cC) r) (.returned (.agg #[.int .i64 Z, vn, vv, vw, va, vb, vc])) (S7 w4 w.heap.size (.int .i64 Z) vn vv vw va vb vc) ∧ (S7 w4 w.heap.size (.int .i64 Z) vn vv vw va vb vc).heap[w.heap.size]? = some (.cells #[.int .i64 Z, vn, vv, vw, va, vb, vc] 37 (0, 0)) := by
 have hb := cw_free hp h.mv
 obtain ⟨hz, hblk, h1, h2, h3, h4, h5, h6, hr, he, hm⟩ := h
 subst hz
 refine ⟨cells_seven hblk, free7_of hb, ?_, S7_heap _ _ _ _ _ _ _ hb⟩
 have up : ∀ g, NewF (w.heap.size + 1 + 1) w4.heap.size g → NewF (w.heap.size + 1) w4.heap.size g := fun g hg => ⟨by have := hg.1; omega, hg.2⟩
 exact cmd_ans hp (Nat.le_refl _) hr (cmq_out hp hm) (StrV.mono _ _ _ _ _ up h1) ((WdsV L).mono _ _ _ _ _ up h2) ((WdsV L).mono _ _ _ _ _ up h3) (L.mono _ _ _ _ _ up h4) (L.mono _ _ _ _ _ up h5) (L.mono _ _ _ _ _ up h6) hb
theorem CF.out {L : ValP (List Co)} {p : Nat} {sg : Value} {d k : Nat} {Z : Int} {ns : List (List UInt8)} {vs ws : List (List Pt)} {cA cB cC : List Co} {vn vv vw va vb vc : Value} {r : List UInt8} {w w4 w5 : World} (h : CF L p (w.heap.size + 1) sg d (CW k w) k Z ns vs ws cA cB cC vn vv vw va vb vc r w4) (hp : p < w.heap.size) (m : Mvd p w4 w5) : Mvd p w w5 := cmq_out hp (h.mv.trans (Mvq.of m (Nat.le_of_lt (heap_ltS h.blk))))
theorem CF.begin {L : ValP (List Co)} (hL : GoodL L) {p : Nat} {sg : Value} {d : Nat} (k : Nat) (Z : Int) (hZ : Z = (k : Int)) {r : List UInt8} {w : World} (hr : Rs p r sg d w) (hE : EnvS p sg w) : CF L p (w.heap.size + 1) sg d (CW k w) k Z [] [] [] [] [] [] (.slice none 0 0) (.slice none 0 0) (.slice none 0 0) (.slice none 0 0) (.slice none 0 0) (.slice none 0 0) r (CW k w) := by
 obtain ⟨z, hb, h1, h2⟩ := CW_facts k w
 subst hZ
 exact ⟨rfl, h2, RowM.nil _ _ _ _, RowM.nil _ _ _ _, RowM.nil _ _ _ _, hL.nil _ _, hL.nil _ _, hL.nil _ _, hr.below hb, hE.below (hb.mono (Nat.le_of_lt hr.lt)), Mvq.refl _ _ _⟩
end Go.Proofs.YtelfgobjnibooaaGreatDoor
namespace Go.Proofs.YtelfgobjnibooaaGreatDoor
open Go.RowKit Go.Lib
theorem bodyS_nice1 {g : Dn} (hn : ∀ l, Nice l (g.lst l)) (l : List UInt8) : Nice l (bodyS g l) := by
 unfold bodyS
 have h1 : Nice l (needKey [100, 111] l) := by
  cases h : needKey [100, 111] l with
  | bad x => exact .inr (needKey_bad h).2
  | ok u r => exact takeKey_len (needKey_ok h)
 refine h1.bind fun u r _ => ?_
 refine (linesS_nice1 hn r).bind fun cs r1 _ => ?_
 have h2 : Nice r1 (needKey [100, 111, 110, 101] r1) := by
  cases h : needKey [100, 111, 110, 101] r1 with
  | bad x => exact .inr (needKey_bad h).2
  | ok u r => exact takeKey_len (needKey_ok h)
 exact h2.bind fun _ _ _ => Nat.le_refl _
theorem ansWds {L : ValP (List Co)} {p : Nat} {sg : Value} {d : Nat} {w : World} {x : List (List Pt)} {r : List UInt8} {e : Ending} {w' : World} (h : AnsV (WdsV L) p sg d w (.ok x r) e w') : (∃ ao cap, e = .returned (.slice ao x.length cap) ∧ (WdsV L).q (NewF w.heap.size w'.heap.size) w' (.slice ao x.length cap) x) ∧ Rs p r sg d w' ∧ Mvd p w w' := by
 obtain ⟨⟨v, h1, h2⟩, h3, h4⟩ := h
 obtain ⟨ao, cap, rfl, _⟩ := wds_shape h2
 exact ⟨⟨ao, cap, h1, h2⟩, h3, h4⟩
theorem one_name (n : List UInt8) (w : World) : StrV.q (NewF w.heap.size (w.alloc (.cells #[.string ⟨n.toArray⟩] 9)).heap.size) (w.alloc (.cells #[.string ⟨n.toArray⟩] 9)) (.slice (some ⟨w.heap.size, 0, none⟩) 1 1) [n] ∧ Below w.heap.size w (w.alloc (.cells #[.string ⟨n.toArray⟩] 9)) := by
 refine ⟨⟨[[.string ⟨n.toArray⟩]], rfl, ?_, ?_, ?_⟩, (Below.refl _ w).alloc (Nat.le_refl _) _⟩
 ·intro i x cs hx hc
  cases i with
  | zero => cases hx; cases hc; rfl
  | succ i => cases hx
 ·show (w.alloc (.cells #[.string ⟨n.toArray⟩] 9)).ownsRow 0 9 1 (.slice (some ⟨w.heap.size, 0, none⟩) 1 1) 1 [.string ⟨n.toArray⟩]
  exact ⟨rfl, .inr ⟨w.heap.size, 1, #[.string ⟨n.toArray⟩], rfl, Nat.zero_le _, heap_alloc_new w _, Nat.le_refl _, by unfold maxLen; omega, rfl, rfl⟩⟩
 ·intro g hg
  have : w.heap.size = g := by simpa [Value.ownBlock] using hg
  subst this
  exact ⟨Nat.le_refl _, by simp⟩
set_option maxHeartbeats 8000000 in
set_option maxRecDepth 20000 in
theorem rounds_any (L : ValP (List Co)) (g : Dn) (p : Nat) (sg : Value) (d : Nat) (G : Gv L g p sg d) (l0 : List UInt8) (w : World) (h : Rs p l0 sg d w) (hE : EnvS p sg w) (hl0 : l0.length ≤ 1048576) :
    Calls Tryz.prog 108 #[.pointer (some ⟨p, 0, none⟩)] w (AnsE (cmdE L) p sg d w (roundsS g l0)) := by
  have hp := h.lt
  have hpc : p < w.heap.size + 1 := by omega
  have hgood := G.good
  have HS0 := Lib.hid (CF.begin hgood 5 5 rfl h hE)
  have k2 := need_no
  clear h hE
  unfold roundsS
  have hn1 := linesS_nice1 G.nl l0
  have KL0 := Lib.hid (fun w1 (h1 : Rs p l0 sg d w1) (e1 : EnvS p sg w1) => lines_any L g p sg d G l0 w1 h1 e1 (by omega))
  cases hr1 : linesS g l0 with
  | bad x =>
    rw [hr1] at KL0
    have KL0 : Hid (∀ w1, Rs p l0 sg d w1 → EnvS p sg w1 → Calls Tryz.prog 137 #[.pointer (some ⟨p, 0, none⟩)] w1 fun e w' => e = errS x ∧ Mvd p w1 w') := KL0.out
    clear hn1
    show Calls _ _ _ _ fun e w' => e = errS x ∧ Mvd p w w'
    unfold errS at k2 KL0 ⊢
    go_enter Tryz.func108, Tryz.ntmps108
    go_wp2_with (first
      | (go_at_call 137; first | ((refine (KL0.out _ HS0.out.rs HS0.out.env).mono ?_); rintro e w1 ⟨rfl, m1⟩)))
    exact ⟨rfl, rfl, HS0.out.out hp m1⟩
  | ok X1 l1 =>
    rw [hr1] at KL0 hn1
    have hn1 : l1.length ≤ l0.length := hn1
    have KL0 : Hid (∀ w1, Rs p l0 sg d w1 → EnvS p sg w1 → Calls Tryz.prog 137 #[.pointer (some ⟨p, 0, none⟩)] w1 fun e w' => (∃ ao cap, e = .returned (.slice ao X1.length cap) ∧ L.q (NewF w1.heap.size w'.heap.size) w' (.slice ao X1.length cap) X1) ∧ Rs p l1 sg d w' ∧ Mvd p w1 w') := fun w1 a b => (KL0.out w1 a b).mono fun e w' => ansRow hgood
    show Calls _ _ _ _ (AnsE (cmdE L) p sg d w ((bodyS g l1).bind fun b r1 => .ok (.mk 5 [] [] [] X1 b []) r1))
    have hn2 := bodyS_nice1 G.nl l1
    have KL1 := Lib.hid (fun w1 (h1 : Rs p l1 sg d w1) (e1 : EnvS p sg w1) => body_any L g p sg d G l1 w1 h1 e1 (by omega))
    cases hr2 : bodyS g l1 with
    | bad x =>
      rw [hr2] at KL1
      have KL1 : Hid (∀ w1, Rs p l1 sg d w1 → EnvS p sg w1 → Calls Tryz.prog 139 #[.pointer (some ⟨p, 0, none⟩)] w1 fun e w' => e = errS x ∧ Mvd p w1 w') := KL1.out
      clear hn2
      show Calls _ _ _ _ fun e w' => e = errS x ∧ Mvd p w w'
      unfold errS at k2 KL1 ⊢
      go_enter Tryz.func108, Tryz.ntmps108
      go_wp2_with (first
        | (go_at_call 137; first | ((refine (KL0.out _ HS0.out.rs HS0.out.env).mono ?_); rintro e w1 ⟨⟨a1, c1, rfl, hx⟩, hh, mm⟩; obtain ⟨⟨s1, t1⟩, ST⟩ := HS0.out.rowA hpc mm hh hx; have HS1 := Lib.hid ST; clear hx hh mm ST))
        | (go_at_call 139; first | ((with_reducible refine (KL1.out _ HS1.out.rs HS1.out.env).mono ?_); rintro e w2 ⟨rfl, m2⟩)))
      exact ⟨rfl, rfl, HS1.out.out hp m2⟩
    | ok X2 l2 =>
      rw [hr2] at KL1 hn2
      have hn2 : l2.length ≤ l1.length := hn2
      have KL1 : Hid (∀ w1, Rs p l1 sg d w1 → EnvS p sg w1 → Calls Tryz.prog 139 #[.pointer (some ⟨p, 0, none⟩)] w1 fun e w' => (∃ ao cap, e = .returned (.slice ao X2.length cap) ∧ L.q (NewF w1.heap.size w'.heap.size) w' (.slice ao X2.length cap) X2) ∧ Rs p l2 sg d w' ∧ Mvd p w1 w') := fun w1 a b => (KL1.out w1 a b).mono fun e w' => ansRow hgood
      show Calls _ _ _ _ (AnsE (cmdE L) p sg d w (.ok (.mk 5 [] [] [] X1 X2 []) l2))
      -- done
      go_enter Tryz.func108, Tryz.ntmps108
      go_wp2_with (first
        | (go_at_call 137; first | ((refine (KL0.out _ HS0.out.rs HS0.out.env).mono ?_); rintro e w1 ⟨⟨a1, c1, rfl, hx⟩, hh, mm⟩; obtain ⟨⟨s1, t1⟩, ST⟩ := HS0.out.rowA hpc mm hh hx; have HS1 := Lib.hid ST; clear hx hh mm ST))
        | (go_at_call 139; first | ((with_reducible refine (KL1.out _ HS1.out.rs HS1.out.env).mono ?_); rintro e w2 ⟨⟨a2, c2, rfl, hx⟩, hh, mm⟩; obtain ⟨⟨s2, t2⟩, ST⟩ := HS1.out.rowB hpc mm hh hx; have HS2 := Lib.hid ST; clear hx hh mm ST; obtain ⟨⟨q0, q1, q2, q3, q4, q5, q6⟩, FR, AN, HP⟩ := HS2.out.fin hp; obtain ⟨g0, g1, g2, g3, g4, g5, g6, x0, x1, x2, x3, x4, x5, x6, y0, y1, y2, y3, y4, y5, y6, y7⟩ := FR; have HAN := Lib.hid AN; have HHP := Lib.hid HP; clear AN HP y7)))
      have cs7 := cells_seven HHP.out
      unfold S7 at cs7 HAN
      refine bodyPost_ret (v := .agg #[.int .i64 5, .slice none 0 0, .slice none 0 0, .slice none 0 0, .slice a1 X1.length c1, .slice a2 X2.length c2, .slice none 0 0]) (by simp [results, Tryz.results108, go_sem, cs7]) rfl ?_
      exact HAN.out
end Go.Proofs.YtelfgobjnibooaaGreatDoor
namespace Go.Proofs.YtelfgobjnibooaaGreatDoor
open Go.RowKit Go.Lib
set_option maxHeartbeats 8000000 in
set_option maxRecDepth 20000 in
theorem choice_any (L : ValP (List Co)) (g : Dn) (p : Nat) (sg : Value) (d : Nat) (G : Gv L g p sg d) (l0 : List UInt8) (w : World) (h : Rs p l0 sg d w) (hE : EnvS p sg w) (hl0 : l0.length ≤ 1048576) :
    Calls Tryz.prog 106 #[.pointer (some ⟨p, 0, none⟩)] w (AnsE (cmdE L) p sg d w (choiceS g l0)) := by
  have hp := h.lt
  have hpc : p < w.heap.size + 1 := by omega
  have hgood := G.good
  have HS0 := Lib.hid (CF.begin hgood 4 4 rfl h hE)
  have k2 := need_no
  clear h hE
  unfold choiceS
  have hn1 := linesS_nice1 G.nl l0
  have KL0 := Lib.hid (fun w1 (h1 : Rs p l0 sg d w1) (e1 : EnvS p sg w1) => lines_any L g p sg d G l0 w1 h1 e1 (by omega))
  cases hr1 : linesS g l0 with
  | bad x =>
    rw [hr1] at KL0
    have KL0 : Hid (∀ w1, Rs p l0 sg d w1 → EnvS p sg w1 → Calls Tryz.prog 137 #[.pointer (some ⟨p, 0, none⟩)] w1 fun e w' => e = errS x ∧ Mvd p w1 w') := KL0.out
    clear hn1
    show Calls _ _ _ _ fun e w' => e = errS x ∧ Mvd p w w'
    unfold errS at k2 KL0 ⊢
    go_enter Tryz.func106, Tryz.ntmps106
    go_wp2_with (first
      | (go_at_call 137; first | ((refine (KL0.out _ HS0.out.rs HS0.out.env).mono ?_); rintro e w1 ⟨rfl, m1⟩)))
    exact ⟨rfl, rfl, HS0.out.out hp m1⟩
  | ok X1 l1 =>
    rw [hr1] at KL0 hn1
    have hn1 : l1.length ≤ l0.length := hn1
    have KL0 : Hid (∀ w1, Rs p l0 sg d w1 → EnvS p sg w1 → Calls Tryz.prog 137 #[.pointer (some ⟨p, 0, none⟩)] w1 fun e w' => (∃ ao cap, e = .returned (.slice ao X1.length cap) ∧ L.q (NewF w1.heap.size w'.heap.size) w' (.slice ao X1.length cap) X1) ∧ Rs p l1 sg d w' ∧ Mvd p w1 w') := fun w1 a b => (KL0.out w1 a b).mono fun e w' => ansRow hgood
    show Calls _ _ _ _ (AnsE (cmdE L) p sg d w ((needKey [116, 104, 101, 110] l1).bind fun _ r1 => (linesS g r1).bind fun b r2 => (elseS g r2).bind fun c r3 => (needKey [102, 105] r3).bind fun _ r4 => .ok (.mk 4 [] [] [] X1 b c) r4))
    cases hr2 : needKey [116, 104, 101, 110] l1 with
    | bad x =>
      obtain ⟨ht, rfl⟩ := needKey_bad hr2
      have KT1 := Lib.hid (fun w1 (h1 : Rs p l1 sg d w1) => (show Calls Tryz.prog 138 #[.pointer (some ⟨p, 0, none⟩), .string ⟨#[116, 104, 101, 110]⟩] w1 fun e w' => e = .returned (.bool false) ∧ Rs p l1 sg d w' ∧ Mvd p w1 w' from takeKey_no p [116, 104, 101, 110] l1 sg d w1 h1 (by omega) ht))
      show Calls _ _ _ _ fun e w' => e = errS 9 ∧ Mvd p w w'
      unfold errS at k2  ⊢
      go_enter Tryz.func106, Tryz.ntmps106
      go_wp2_with (first
        | (go_at_call 137; first | ((refine (KL0.out _ HS0.out.rs HS0.out.env).mono ?_); rintro e w1 ⟨⟨a1, c1, rfl, hx⟩, hh, mm⟩; obtain ⟨⟨s1, t1⟩, ST⟩ := HS0.out.rowA hpc mm hh hx; have HS1 := Lib.hid ST; clear hx hh mm ST))
        | (go_at_call 138; first | ((with_reducible refine (KT1.out _ HS1.out.rs).mono ?_); rintro e w2 ⟨rfl, _, m2⟩))
        | (go_at_call 30; first | (refine (k2 _).mono ?_; rintro e wn ⟨rfl, hwn⟩; rw [hwn]; clear hwn)))
      exact ⟨rfl, rfl, HS1.out.out hp m2⟩
    | ok u2 l2 =>
      have ht2 := needKey_ok hr2
      have hn2 := takeKey_len ht2
      have KT1 := Lib.hid (fun w1 (h1 : Rs p l1 sg d w1) => (show Calls Tryz.prog 138 #[.pointer (some ⟨p, 0, none⟩), .string ⟨#[116, 104, 101, 110]⟩] w1 fun e w' => e = .returned (.bool true) ∧ Rs p l2 sg d w' ∧ Mvd p w1 w' from takeKey_yes p [116, 104, 101, 110] l1 l2 sg d w1 h1 (by omega) ht2))
      show Calls _ _ _ _ (AnsE (cmdE L) p sg d w ((linesS g l2).bind fun b r2 => (elseS g r2).bind fun c r3 => (needKey [102, 105] r3).bind fun _ r4 => .ok (.mk 4 [] [] [] X1 b c) r4))
      have hn3 := linesS_nice1 G.nl l2
      have KL2 := Lib.hid (fun w1 (h1 : Rs p l2 sg d w1) (e1 : EnvS p sg w1) => lines_any L g p sg d G l2 w1 h1 e1 (by omega))
      cases hr3 : linesS g l2 with
      | bad x =>
        rw [hr3] at KL2
        have KL2 : Hid (∀ w1, Rs p l2 sg d w1 → EnvS p sg w1 → Calls Tryz.prog 137 #[.pointer (some ⟨p, 0, none⟩)] w1 fun e w' => e = errS x ∧ Mvd p w1 w') := KL2.out
        clear hn3
        show Calls _ _ _ _ fun e w' => e = errS x ∧ Mvd p w w'
        unfold errS at k2 KL2 ⊢
        go_enter Tryz.func106, Tryz.ntmps106
        go_wp2_with (first
          | (go_at_call 137; first | ((with_reducible refine (KL2.out _ HS2.out.rs HS2.out.env).mono ?_); rintro e w3 ⟨rfl, m3⟩) | ((refine (KL0.out _ HS0.out.rs HS0.out.env).mono ?_); rintro e w1 ⟨⟨a1, c1, rfl, hx⟩, hh, mm⟩; obtain ⟨⟨s1, t1⟩, ST⟩ := HS0.out.rowA hpc mm hh hx; have HS1 := Lib.hid ST; clear hx hh mm ST))
          | (go_at_call 30; first | (refine (need_yes _).mono ?_; rintro e wn ⟨rfl, hwn⟩; rw [hwn]; clear hwn))
          | (go_at_call 138; first | ((with_reducible refine (KT1.out _ HS1.out.rs).mono ?_); rintro e w2 ⟨rfl, hh, mm⟩; have HS2 := Lib.hid (HS1.out.step hpc mm hh); clear hh mm)))
        exact ⟨rfl, rfl, HS2.out.out hp m3⟩
      | ok X3 l3 =>
        rw [hr3] at KL2 hn3
        have hn3 : l3.length ≤ l2.length := hn3
        have KL2 : Hid (∀ w1, Rs p l2 sg d w1 → EnvS p sg w1 → Calls Tryz.prog 137 #[.pointer (some ⟨p, 0, none⟩)] w1 fun e w' => (∃ ao cap, e = .returned (.slice ao X3.length cap) ∧ L.q (NewF w1.heap.size w'.heap.size) w' (.slice ao X3.length cap) X3) ∧ Rs p l3 sg d w' ∧ Mvd p w1 w') := fun w1 a b => (KL2.out w1 a b).mono fun e w' => ansRow hgood
        show Calls _ _ _ _ (AnsE (cmdE L) p sg d w ((elseS g l3).bind fun c r3 => (needKey [102, 105] r3).bind fun _ r4 => .ok (.mk 4 [] [] [] X1 X3 c) r4))
        cases ht4 : takeKeyS [101, 108, 115, 101] l3 with
        | none =>
          have ee : elseS g l3 = .ok [] l3 := by unfold elseS; rw [ht4]
          rw [ee]
          obtain ⟨l4, hl4⟩ : ∃ l, l = l3 := ⟨_, rfl⟩
          have KT3 := Lib.hid (fun w1 (h1 : Rs p l3 sg d w1) => (show Calls Tryz.prog 138 #[.pointer (some ⟨p, 0, none⟩), .string ⟨#[101, 108, 115, 101]⟩] w1 fun e w' => e = .returned (.bool false) ∧ Rs p l4 sg d w' ∧ Mvd p w1 w' from by rw [hl4]; exact takeKey_no p [101, 108, 115, 101] l3 sg d w1 h1 (by omega) ht4))
          rw [show l3 = l4 from hl4.symm]
          show Calls _ _ _ _ (AnsE (cmdE L) p sg d w ((needKey [102, 105] l4).bind fun _ r4 => .ok (.mk 4 [] [] [] X1 X3 []) r4))
          have hn4 : l4.length ≤ l3.length := by rw [hl4]; exact Nat.le_refl _
          clear hl4 ee ht4
          cases hr5 : needKey [102, 105] l4 with
          | bad x =>
            obtain ⟨ht, rfl⟩ := needKey_bad hr5
            have KT4 := Lib.hid (fun w1 (h1 : Rs p l4 sg d w1) => (show Calls Tryz.prog 138 #[.pointer (some ⟨p, 0, none⟩), .string ⟨#[102, 105]⟩] w1 fun e w' => e = .returned (.bool false) ∧ Rs p l4 sg d w' ∧ Mvd p w1 w' from takeKey_no p [102, 105] l4 sg d w1 h1 (by omega) ht))
            show Calls _ _ _ _ fun e w' => e = errS 9 ∧ Mvd p w w'
            unfold errS at k2  ⊢
            go_enter Tryz.func106, Tryz.ntmps106
            go_wp2_with (first
              | (go_at_call 137; first | ((with_reducible refine (KL2.out _ HS2.out.rs HS2.out.env).mono ?_); rintro e w3 ⟨⟨a3, c3, rfl, hx⟩, hh, mm⟩; obtain ⟨⟨s3, t3⟩, ST⟩ := HS2.out.rowB hpc mm hh hx; have HS3 := Lib.hid ST; clear hx hh mm ST) | ((refine (KL0.out _ HS0.out.rs HS0.out.env).mono ?_); rintro e w1 ⟨⟨a1, c1, rfl, hx⟩, hh, mm⟩; obtain ⟨⟨s1, t1⟩, ST⟩ := HS0.out.rowA hpc mm hh hx; have HS1 := Lib.hid ST; clear hx hh mm ST))
              | (go_at_call 30; first | (refine (k2 _).mono ?_; rintro e wn ⟨rfl, hwn⟩; rw [hwn]; clear hwn) | (refine (need_yes _).mono ?_; rintro e wn ⟨rfl, hwn⟩; rw [hwn]; clear hwn))
              | (go_at_call 138; first | ((with_reducible refine (KT4.out _ HS4.out.rs).mono ?_); rintro e w5 ⟨rfl, _, m5⟩) | ((with_reducible refine (KT3.out _ HS3.out.rs).mono ?_); rintro e w4 ⟨rfl, hh, mm⟩; have HS4 := Lib.hid (HS3.out.step hpc mm hh); clear hh mm) | ((with_reducible refine (KT1.out _ HS1.out.rs).mono ?_); rintro e w2 ⟨rfl, hh, mm⟩; have HS2 := Lib.hid (HS1.out.step hpc mm hh); clear hh mm)))
            exact ⟨rfl, rfl, HS4.out.out hp m5⟩
          | ok u5 l5 =>
            have ht5 := needKey_ok hr5
            have hn5 := takeKey_len ht5
            have KT4 := Lib.hid (fun w1 (h1 : Rs p l4 sg d w1) => (show Calls Tryz.prog 138 #[.pointer (some ⟨p, 0, none⟩), .string ⟨#[102, 105]⟩] w1 fun e w' => e = .returned (.bool true) ∧ Rs p l5 sg d w' ∧ Mvd p w1 w' from takeKey_yes p [102, 105] l4 l5 sg d w1 h1 (by omega) ht5))
            show Calls _ _ _ _ (AnsE (cmdE L) p sg d w (.ok (.mk 4 [] [] [] X1 X3 []) l5))
            -- done
            go_enter Tryz.func106, Tryz.ntmps106
            go_wp2_with (first
              | (go_at_call 137; first | ((with_reducible refine (KL2.out _ HS2.out.rs HS2.out.env).mono ?_); rintro e w3 ⟨⟨a3, c3, rfl, hx⟩, hh, mm⟩; obtain ⟨⟨s3, t3⟩, ST⟩ := HS2.out.rowB hpc mm hh hx; have HS3 := Lib.hid ST; clear hx hh mm ST) | ((refine (KL0.out _ HS0.out.rs HS0.out.env).mono ?_); rintro e w1 ⟨⟨a1, c1, rfl, hx⟩, hh, mm⟩; obtain ⟨⟨s1, t1⟩, ST⟩ := HS0.out.rowA hpc mm hh hx; have HS1 := Lib.hid ST; clear hx hh mm ST))
              | (go_at_call 30; first | (refine (need_yes _).mono ?_; rintro e wn ⟨rfl, hwn⟩; rw [hwn]; clear hwn))
              | (go_at_call 138; first | ((with_reducible refine (KT4.out _ HS4.out.rs).mono ?_); rintro e w5 ⟨rfl, hh, mm⟩; have HS5 := Lib.hid (HS4.out.step hpc mm hh); clear hh mm; obtain ⟨⟨q0, q1, q2, q3, q4, q5, q6⟩, FR, AN, HP⟩ := HS5.out.fin hp; obtain ⟨g0, g1, g2, g3, g4, g5, g6, x0, x1, x2, x3, x4, x5, x6, y0, y1, y2, y3, y4, y5, y6, y7⟩ := FR; have HAN := Lib.hid AN; have HHP := Lib.hid HP; clear AN HP y7) | ((with_reducible refine (KT3.out _ HS3.out.rs).mono ?_); rintro e w4 ⟨rfl, hh, mm⟩; have HS4 := Lib.hid (HS3.out.step hpc mm hh); clear hh mm) | ((with_reducible refine (KT1.out _ HS1.out.rs).mono ?_); rintro e w2 ⟨rfl, hh, mm⟩; have HS2 := Lib.hid (HS1.out.step hpc mm hh); clear hh mm)))
            have cs7 := cells_seven HHP.out
            unfold S7 at cs7 HAN
            refine bodyPost_ret (v := .agg #[.int .i64 4, .slice none 0 0, .slice none 0 0, .slice none 0 0, .slice a1 X1.length c1, .slice a3 X3.length c3, .slice none 0 0]) (by simp [results, Tryz.results106, go_sem, cs7]) rfl ?_
            exact HAN.out
        | some l4 =>
          have ee : elseS g l3 = linesS g l4 := by unfold elseS; rw [ht4]
          rw [ee]
          clear ee
          have hn4 := takeKey_len ht4
          have KT3 := Lib.hid (fun w1 (h1 : Rs p l3 sg d w1) => (show Calls Tryz.prog 138 #[.pointer (some ⟨p, 0, none⟩), .string ⟨#[101, 108, 115, 101]⟩] w1 fun e w' => e = .returned (.bool true) ∧ Rs p l4 sg d w' ∧ Mvd p w1 w' from takeKey_yes p [101, 108, 115, 101] l3 l4 sg d w1 h1 (by omega) ht4))
          have hn5 := linesS_nice1 G.nl l4
          have KL4 := Lib.hid (fun w1 (h1 : Rs p l4 sg d w1) (e1 : EnvS p sg w1) => lines_any L g p sg d G l4 w1 h1 e1 (by omega))
          cases hr5 : linesS g l4 with
          | bad x =>
            rw [hr5] at KL4
            have KL4 : Hid (∀ w1, Rs p l4 sg d w1 → EnvS p sg w1 → Calls Tryz.prog 137 #[.pointer (some ⟨p, 0, none⟩)] w1 fun e w' => e = errS x ∧ Mvd p w1 w') := KL4.out
            clear hn5
            show Calls _ _ _ _ fun e w' => e = errS x ∧ Mvd p w w'
            unfold errS at k2 KL4 ⊢
            go_enter Tryz.func106, Tryz.ntmps106
            go_wp2_with (first
              | (go_at_call 137; first | ((with_reducible refine (KL4.out _ HS4.out.rs HS4.out.env).mono ?_); rintro e w5 ⟨rfl, m5⟩) | ((with_reducible refine (KL2.out _ HS2.out.rs HS2.out.env).mono ?_); rintro e w3 ⟨⟨a3, c3, rfl, hx⟩, hh, mm⟩; obtain ⟨⟨s3, t3⟩, ST⟩ := HS2.out.rowB hpc mm hh hx; have HS3 := Lib.hid ST; clear hx hh mm ST) | ((refine (KL0.out _ HS0.out.rs HS0.out.env).mono ?_); rintro e w1 ⟨⟨a1, c1, rfl, hx⟩, hh, mm⟩; obtain ⟨⟨s1, t1⟩, ST⟩ := HS0.out.rowA hpc mm hh hx; have HS1 := Lib.hid ST; clear hx hh mm ST))
              | (go_at_call 30; first | (refine (need_yes _).mono ?_; rintro e wn ⟨rfl, hwn⟩; rw [hwn]; clear hwn))
              | (go_at_call 138; first | ((with_reducible refine (KT3.out _ HS3.out.rs).mono ?_); rintro e w4 ⟨rfl, hh, mm⟩; have HS4 := Lib.hid (HS3.out.step hpc mm hh); clear hh mm) | ((with_reducible refine (KT1.out _ HS1.out.rs).mono ?_); rintro e w2 ⟨rfl, hh, mm⟩; have HS2 := Lib.hid (HS1.out.step hpc mm hh); clear hh mm)))
            exact ⟨rfl, rfl, HS4.out.out hp m5⟩
          | ok X5 l5 =>
            rw [hr5] at KL4 hn5
            have hn5 : l5.length ≤ l4.length := hn5
            have KL4 : Hid (∀ w1, Rs p l4 sg d w1 → EnvS p sg w1 → Calls Tryz.prog 137 #[.pointer (some ⟨p, 0, none⟩)] w1 fun e w' => (∃ ao cap, e = .returned (.slice ao X5.length cap) ∧ L.q (NewF w1.heap.size w'.heap.size) w' (.slice ao X5.length cap) X5) ∧ Rs p l5 sg d w' ∧ Mvd p w1 w') := fun w1 a b => (KL4.out w1 a b).mono fun e w' => ansRow hgood
            show Calls _ _ _ _ (AnsE (cmdE L) p sg d w ((needKey [102, 105] l5).bind fun _ r4 => .ok (.mk 4 [] [] [] X1 X3 X5) r4))
            cases hr6 : needKey [102, 105] l5 with
            | bad x =>
              obtain ⟨ht, rfl⟩ := needKey_bad hr6
              have KT5 := Lib.hid (fun w1 (h1 : Rs p l5 sg d w1) => (show Calls Tryz.prog 138 #[.pointer (some ⟨p, 0, none⟩), .string ⟨#[102, 105]⟩] w1 fun e w' => e = .returned (.bool false) ∧ Rs p l5 sg d w' ∧ Mvd p w1 w' from takeKey_no p [102, 105] l5 sg d w1 h1 (by omega) ht))
              show Calls _ _ _ _ fun e w' => e = errS 9 ∧ Mvd p w w'
              unfold errS at k2  ⊢
              go_enter Tryz.func106, Tryz.ntmps106
              go_wp2_with (first
                | (go_at_call 137; first | ((with_reducible refine (KL4.out _ HS4.out.rs HS4.out.env).mono ?_); rintro e w5 ⟨⟨a5, c5, rfl, hx⟩, hh, mm⟩; obtain ⟨⟨s5, t5⟩, ST⟩ := HS4.out.rowC hpc mm hh hx; have HS5 := Lib.hid ST; clear hx hh mm ST) | ((with_reducible refine (KL2.out _ HS2.out.rs HS2.out.env).mono ?_); rintro e w3 ⟨⟨a3, c3, rfl, hx⟩, hh, mm⟩; obtain ⟨⟨s3, t3⟩, ST⟩ := HS2.out.rowB hpc mm hh hx; have HS3 := Lib.hid ST; clear hx hh mm ST) | ((refine (KL0.out _ HS0.out.rs HS0.out.env).mono ?_); rintro e w1 ⟨⟨a1, c1, rfl, hx⟩, hh, mm⟩; obtain ⟨⟨s1, t1⟩, ST⟩ := HS0.out.rowA hpc mm hh hx; have HS1 := Lib.hid ST; clear hx hh mm ST))
                | (go_at_call 30; first | (refine (k2 _).mono ?_; rintro e wn ⟨rfl, hwn⟩; rw [hwn]; clear hwn) | (refine (need_yes _).mono ?_; rintro e wn ⟨rfl, hwn⟩; rw [hwn]; clear hwn))
                | (go_at_call 138; first | ((with_reducible refine (KT5.out _ HS5.out.rs).mono ?_); rintro e w6 ⟨rfl, _, m6⟩) | ((with_reducible refine (KT3.out _ HS3.out.rs).mono ?_); rintro e w4 ⟨rfl, hh, mm⟩; have HS4 := Lib.hid (HS3.out.step hpc mm hh); clear hh mm) | ((with_reducible refine (KT1.out _ HS1.out.rs).mono ?_); rintro e w2 ⟨rfl, hh, mm⟩; have HS2 := Lib.hid (HS1.out.step hpc mm hh); clear hh mm)))
              exact ⟨rfl, rfl, HS5.out.out hp m6⟩
            | ok u6 l6 =>
              have ht6 := needKey_ok hr6
              have hn6 := takeKey_len ht6
              have KT5 := Lib.hid (fun w1 (h1 : Rs p l5 sg d w1) => (show Calls Tryz.prog 138 #[.pointer (some ⟨p, 0, none⟩), .string ⟨#[102, 105]⟩] w1 fun e w' => e = .returned (.bool true) ∧ Rs p l6 sg d w' ∧ Mvd p w1 w' from takeKey_yes p [102, 105] l5 l6 sg d w1 h1 (by omega) ht6))
              show Calls _ _ _ _ (AnsE (cmdE L) p sg d w (.ok (.mk 4 [] [] [] X1 X3 X5) l6))
              -- done
              go_enter Tryz.func106, Tryz.ntmps106
              go_wp2_with (first
                | (go_at_call 137; first | ((with_reducible refine (KL4.out _ HS4.out.rs HS4.out.env).mono ?_); rintro e w5 ⟨⟨a5, c5, rfl, hx⟩, hh, mm⟩; obtain ⟨⟨s5, t5⟩, ST⟩ := HS4.out.rowC hpc mm hh hx; have HS5 := Lib.hid ST; clear hx hh mm ST) | ((with_reducible refine (KL2.out _ HS2.out.rs HS2.out.env).mono ?_); rintro e w3 ⟨⟨a3, c3, rfl, hx⟩, hh, mm⟩; obtain ⟨⟨s3, t3⟩, ST⟩ := HS2.out.rowB hpc mm hh hx; have HS3 := Lib.hid ST; clear hx hh mm ST) | ((refine (KL0.out _ HS0.out.rs HS0.out.env).mono ?_); rintro e w1 ⟨⟨a1, c1, rfl, hx⟩, hh, mm⟩; obtain ⟨⟨s1, t1⟩, ST⟩ := HS0.out.rowA hpc mm hh hx; have HS1 := Lib.hid ST; clear hx hh mm ST))
                | (go_at_call 30; first | (refine (need_yes _).mono ?_; rintro e wn ⟨rfl, hwn⟩; rw [hwn]; clear hwn))
                | (go_at_call 138; first | ((with_reducible refine (KT5.out _ HS5.out.rs).mono ?_); rintro e w6 ⟨rfl, hh, mm⟩; have HS6 := Lib.hid (HS5.out.step hpc mm hh); clear hh mm; obtain ⟨⟨q0, q1, q2, q3, q4, q5, q6⟩, FR, AN, HP⟩ := HS6.out.fin hp; obtain ⟨g0, g1, g2, g3, g4, g5, g6, x0, x1, x2, x3, x4, x5, x6, y0, y1, y2, y3, y4, y5, y6, y7⟩ := FR; have HAN := Lib.hid AN; have HHP := Lib.hid HP; clear AN HP y7) | ((with_reducible refine (KT3.out _ HS3.out.rs).mono ?_); rintro e w4 ⟨rfl, hh, mm⟩; have HS4 := Lib.hid (HS3.out.step hpc mm hh); clear hh mm) | ((with_reducible refine (KT1.out _ HS1.out.rs).mono ?_); rintro e w2 ⟨rfl, hh, mm⟩; have HS2 := Lib.hid (HS1.out.step hpc mm hh); clear hh mm)))
              have cs7 := cells_seven HHP.out
              unfold S7 at cs7 HAN
              refine bodyPost_ret (v := .agg #[.int .i64 4, .slice none 0 0, .slice none 0 0, .slice none 0 0, .slice a1 X1.length c1, .slice a3 X3.length c3, .slice a5 X5.length c5]) (by simp [results, Tryz.results106, go_sem, cs7]) rfl ?_
              exact HAN.out
end Go.Proofs.YtelfgobjnibooaaGreatDoor
