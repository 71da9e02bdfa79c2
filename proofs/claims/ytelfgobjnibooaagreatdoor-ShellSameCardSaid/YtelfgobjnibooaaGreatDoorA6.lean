/- Packed texts: ShWithin. What each of them proves stands above its theorems; the conditions stand in these. -/
import Derived.Deep.Cut
import Derived.Deep.CutBlock
import Derived.Deep.RegionLaw
import Derived.Test.YtelfgobjnibooaaGreatDoorA5
namespace Go.Proofs.YtelfgobjnibooaaGreatDoor
open Go.RowKit Go.Lib
def signD (s : List UInt8) : Int × Bool := if s = [125] then (2, true) else if s = [58, 45] then (3, true) else if s = [35] then (5, true) else if s = [37] then (6, true) else (0, false)
def EnvS (p : Nat) (sg : Value) (w : World) : Prop := ∃ bm o, sg = .map (some bm) ∧ bm < p ∧ w.heap[bm]? = some o ∧ ∀ W : World, W.heap[bm]? = some o → ∀ s : List UInt8, s.length ≤ 2 → (Instr.lookup 59 (.map (some bm)) (.string ⟨s.toArray⟩) true).run Tryz.prog W = .ok (.tuple #[.int .i64 (signD s).1, .bool (signD s).2]) W
theorem EnvS.below {p : Nat} {sg : Value} {w w' : World} (h : EnvS p sg w) (hb : Below p w w') : EnvS p sg w' := by
 obtain ⟨bm, o, h1, h2, h3, h4⟩ := h
 exact ⟨bm, o, h1, h2, (hb.block bm h2).trans h3, h4⟩
theorem EnvS.at {p : Nat} {sg : Value} {w : World} (h : EnvS p sg w) : ∃ bm, sg = .map (some bm) ∧ ∀ W, Below p w W → ∀ s : List UInt8, s.length ≤ 2 → (Instr.lookup 59 (.map (some bm)) (.string ⟨s.toArray⟩) true).run Tryz.prog W = .ok (.tuple #[.int .i64 (signD s).1, .bool (signD s).2]) W := by
 obtain ⟨bm, o, h1, h2, h3, h4⟩ := h
 exact ⟨bm, h1, fun W hb s => h4 W ((hb.block bm h2).trans h3) s⟩
set_option maxHeartbeats 1000000 in
set_option maxRecDepth 20000 in
theorem within_deep (p : Nat) (f : Value) (l : List UInt8) (sg : Value) (w : World) (h : Rs p l sg 30 w) :
  Calls Tryz.prog 104 #[.pointer (some ⟨p, 0, none⟩), f] w fun e w' => e = errS 7 ∧ Mvd p w w' := by
 obtain ⟨c0, c1, c2, f0, f1, f2⟩ := h.cells
 rw [show ((30 : Nat) : Int) = 30 from rfl] at c2
 unfold errS
 clear h
 go_enter Tryz.func104, Tryz.ntmps104
 go_wp2
 exact ⟨rfl, rfl, Mvd.refl _ _⟩
set_option maxHeartbeats 1000000 in
set_option maxRecDepth 20000 in
theorem within_ok (k : FuncId) (caps : Array Value) (he : ∀ args w, (callFunc k args).run Tryz.prog w = .ok (.enter k args) w) (p : Nat) (l r : List UInt8) (sg : Value) (d : Nat) (w : World) (h : Rs p l sg d w) (hd : d < 30) (Q : World → Prop)
  (kc : ∀ w0, Rs p l sg (d + 1) w0 → Mvd p w w0 → w0.heap.size = w.heap.size → Calls Tryz.prog k caps w0 fun e w1 => e = .returned (.tuple #[]) ∧ Rs p r sg (d + 1) w1 ∧ Q w1) :
  Calls Tryz.prog 104 #[.pointer (some ⟨p, 0, none⟩), .func (.func k) #[] caps] w fun e w' => e = .returned (.tuple #[]) ∧ ∃ w1, Rs p r sg (d + 1) w1 ∧ Q w1 ∧ Rs p r sg d w' ∧ w' = w1.setCell ⟨p, 2, none⟩ (.int .i64 (d : Int)) := by
 obtain ⟨c0, c1, c2, f0, f1, f2⟩ := h.cells
 have k1 := kc _ (h.deep (d + 1)) (Mvd.set p 2 _ w) (by simp)
 have ed : ((d + 1 : Nat) : Int) = (d : Int) + 1 := by omega
 rw [ed] at k1
 have hn : ((d : Int) == 30) = false := by rw [beq_eq_false_iff_ne]; omega
 have hw1 : IntKind.i64.wrap ((d : Int) + 1) = (d : Int) + 1 := wrap_small _ (by omega) (by omega)
 have hw2 : IntKind.i64.wrap ((d : Int) + 1 - 1) = (d : Int) := by rw [show (d : Int) + 1 - 1 = (d : Int) by omega]; exact wrap_small _ (by omega) (by omega)
 have CEL := Lib.hid (fun (w1 : World) (h1 : Rs p r sg (d + 1) w1) => (show w1.cell? ⟨p, 2, none⟩ = some (.int .i64 ((d : Int) + 1)) ∧ w1.frozen? ⟨p, 2, none⟩ = false from by have := h1.cells; rw [ed] at this; exact ⟨this.2.2.1, this.2.2.2.2.2⟩))
 clear kc h ed
 go_enter Tryz.func104, Tryz.ntmps104
 go_wp2_with (go_at_fn k; (with_reducible refine k1.mono ?_); rintro e w1 ⟨rfl, h1, hq⟩; obtain ⟨d2, g2⟩ := CEL.out w1 h1; have H1 := Lib.hid (And.intro h1 hq); clear h1 hq)
 go_end0
 exact ⟨rfl, _, H1.out.1, H1.out.2, H1.out.1.deep d, rfl⟩
set_option maxHeartbeats 1000000 in
set_option maxRecDepth 20000 in
theorem within_bad (k : FuncId) (caps : Array Value) (he : ∀ args w, (callFunc k args).run Tryz.prog w = .ok (.enter k args) w) (p : Nat) (l : List UInt8) (sg : Value) (d : Nat) (x : Int) (w : World) (h : Rs p l sg d w) (hd : d < 30) (Q : World → Prop)
  (kc : ∀ w0, Rs p l sg (d + 1) w0 → Mvd p w w0 → w0.heap.size = w.heap.size → Calls Tryz.prog k caps w0 fun e w1 => e = errS x ∧ Q w1) :
  Calls Tryz.prog 104 #[.pointer (some ⟨p, 0, none⟩), .func (.func k) #[] caps] w fun e w' => e = errS x ∧ Q w' := by
 obtain ⟨c0, c1, c2, f0, f1, f2⟩ := h.cells
 have k1 := kc _ (h.deep (d + 1)) (Mvd.set p 2 _ w) (by simp)
 have ed : ((d + 1 : Nat) : Int) = (d : Int) + 1 := by omega
 rw [ed] at k1
 have hn : ((d : Int) == 30) = false := by rw [beq_eq_false_iff_ne]; omega
 have hw1 : IntKind.i64.wrap ((d : Int) + 1) = (d : Int) + 1 := wrap_small _ (by omega) (by omega)
 unfold errS at k1 ⊢
 clear kc h ed
 go_enter Tryz.func104, Tryz.ntmps104
 go_wp2_with (go_at_fn k; (with_reducible refine k1.mono ?_); rintro e w1 ⟨rfl, hq⟩; have H1 := Lib.hid hq; clear hq)
 exact ⟨rfl, rfl, H1.out⟩
def signN (l : List UInt8) : Nat := if atS [58] l then 2 else 1
def signR (l : List UInt8) : Rr Int := if l.length < signN l then .bad 9 else if (signD (l.take (signN l))).2 then .ok (signD (l.take (signN l))).1 (l.drop (signN l)) else .bad 9
theorem bracedS_eq (q : Bool) (l : List UInt8) : bracedS q l = (nameR l).bind fun n l1 => (signR l1).bind fun k r => if k = 2 then .ok ⟨2, q, n, [], []⟩ r else withT q k.toNat n r := by
 unfold bracedS
 congr 1
 funext n l1
 cases l1 with
 | nil => rfl
 | cons a r =>
  unfold signR signN
  by_cases h58 : a = 58
  ·subst h58
   cases r with
   | nil => rfl
   | cons b r =>
    by_cases h45 : b = 45
    ·subst h45; rfl
    ·have e1 : takeS [58, 45] (58 :: b :: r) = none := by
      cases h : takeS [58, 45] (58 :: b :: r) with
      | none => rfl
      | some x => have := takeS_some h; simp at this; exact absurd this.1 h45
     have e2 : takeS [125] (58 :: b :: r) = none := rfl
     have e3 : takeS [35] (58 :: b :: r) = none := rfl
     have e4 : takeS [37] (58 :: b :: r) = none := rfl
     have e5 : signD [58, b] = (0, false) := by unfold signD; simp [h45]
     rw [e2, e1, e3, e4]
     show Rr.bad 9 = (if (58 :: b :: r).length < 2 then Rr.bad 9 else if (signD [58, b]).2 then Rr.ok (signD [58, b]).1 r else Rr.bad 9).bind _
     rw [e5]
     split <;> rfl
  ·have hat : atS [58] (a :: r) = false := by
    show ([58] : List UInt8).contains a = false
    simp [h58]
   have t1 : ∀ c : UInt8, takeS [c] (a :: r) = if a = c then some r else none := fun c => by
    by_cases hc : a = c
    ·rw [if_pos hc, hc]; exact takeS_app [c] r
    ·rw [if_neg hc]
     cases h : takeS [c] (a :: r) with
     | none => rfl
     | some x => have := takeS_some h; simp at this; exact absurd this.1 hc
   have t2 : takeS [58, 45] (a :: r) = none := by
    cases h : takeS [58, 45] (a :: r) with
    | none => rfl
    | some x => have := takeS_some h; simp at this; exact absurd this.1 h58
   rw [hat]
   show _ = (if (a :: r).length < 1 then Rr.bad 9 else if (signD [a]).2 then Rr.ok (signD [a]).1 r else Rr.bad 9).bind _
   rw [if_neg (show ¬ (a :: r).length < 1 by simp)]
   by_cases h1 : a = 125
   ·subst h1; rfl
   ·by_cases h2 : a = 35
    ·subst h2; rfl
    ·by_cases h3 : a = 37
     ·subst h3; rfl
     ·have e5 : signD [a] = (0, false) := by unfold signD; simp [h1, h2, h3]
      have k1 := t1 125
      have k2 := t1 35
      have k3 := t1 37
      rw [if_neg h1] at k1
      rw [if_neg h2] at k2
      rw [if_neg h3] at k3
      rw [k1, t2, k2, k3, e5]
      rfl
def PtB (b : Nat) (x : Pt) (w : World) : Prop := w.heap[b]? = some (.cells #[.int .i64 (x.k : Int), .bool x.q, .string ⟨x.s.toArray⟩, .string ⟨x.t.toArray⟩, .slice none 0 0] 42 (0, 0))
structure Mv2 (p b : Nat) (w w' : World) : Prop where
 low : Below p w w'
 high : ∀ g, g ≠ p → g ≠ b → g < w.heap.size → w'.heap[g]? = w.heap[g]?
theorem Mv2.of {p b : Nat} {w w' : World} (h : Mvd p w w') : Mv2 p b w w' := ⟨h.low, fun g h1 _ h3 => h.high g h1 h3⟩
theorem Mv2.trans {p b : Nat} {a w w' : World} (h : Mv2 p b a w) (k : Mv2 p b w w') : Mv2 p b a w' := ⟨h.low.trans k.low, fun g h1 h2 h3 => (k.high g h1 h2 (Nat.lt_of_lt_of_le h3 h.low.size)).trans (h.high g h1 h2 h3)⟩
theorem Mv2.set {p b : Nat} (hp : p < b) (i : Nat) (v : Value) (w : World) : Mv2 p b w (w.setCell ⟨b, i, none⟩ v) := ⟨(Below.refl p w).setCell (p := ⟨b, i, none⟩) (Nat.le_of_lt hp) v, fun _ _ h _ => Below.heap_setCell _ _ _ _ h⟩
def AnsB (p b : Nat) (sg : Value) (d : Nat) (w : World) : Rr Pt → Ending → World → Prop
 | .ok x r, e, w' => e = .returned (.tuple #[]) ∧ PtB b x w' ∧ x.l = [] ∧ Rs p r sg d w' ∧ Mv2 p b w w'
 | .bad x, e, w' => e = errS x ∧ Mv2 p b w w'
theorem PtB.cells {b : Nat} {x : Pt} {w : World} (h : PtB b x w) : w.cell? ⟨b, 0, none⟩ = some (.int .i64 (x.k : Int)) ∧ w.cell? ⟨b, 2, none⟩ = some (.string ⟨x.s.toArray⟩) ∧ w.cell? ⟨b, 3, none⟩ = some (.string ⟨x.t.toArray⟩) ∧ w.frozen? ⟨b, 0, none⟩ = false ∧ w.frozen? ⟨b, 2, none⟩ = false ∧ w.frozen? ⟨b, 3, none⟩ = false := by
 unfold PtB at h
 exact ⟨by rw [cell_of_heap h]; rfl, by rw [cell_of_heap h]; rfl, by rw [cell_of_heap h]; rfl, frozen_of_heap h _, frozen_of_heap h _, frozen_of_heap h _⟩
theorem PtB.moved {p b : Nat} {x : Pt} {w w' : World} (h : PtB b x w) (hm : Mvd p w w') (hp : p < b) : PtB b x w' := (hm.high b (by omega) (heap_ltS h)).trans h
theorem PtB.setK {b : Nat} {x : Pt} {w : World} (h : PtB b x w) (k : Nat) : PtB b ⟨k, x.q, x.s, x.t, x.l⟩ (w.setCell ⟨b, 0, none⟩ (.int .i64 (k : Int))) := by
 have h := heap_setCell_same w b 0 _ _ (.int .i64 (k : Int)) h
 simpa [PtB] using h
theorem PtB.setS {b : Nat} {x : Pt} {w : World} (h : PtB b x w) (s : List UInt8) : PtB b ⟨x.k, x.q, s, x.t, x.l⟩ (w.setCell ⟨b, 2, none⟩ (.string ⟨s.toArray⟩)) := by
 have h := heap_setCell_same w b 2 _ _ (.string ⟨s.toArray⟩) h
 simpa [PtB] using h
theorem PtB.setT {b : Nat} {x : Pt} {w : World} (h : PtB b x w) (t : List UInt8) : PtB b ⟨x.k, x.q, x.s, t, x.l⟩ (w.setCell ⟨b, 3, none⟩ (.string ⟨t.toArray⟩)) := by
 have h := heap_setCell_same w b 3 _ _ (.string ⟨t.toArray⟩) h
 simpa [PtB] using h
theorem Rs.other {p b i : Nat} {l : List UInt8} {sg v : Value} {d : Nat} {w : World} (h : Rs p l sg d w) (hp : p < b) : Rs p l sg d (w.setCell ⟨b, i, none⟩ v) := h.same (Below.heap_setCell _ _ _ _ (by show p ≠ b; omega))
end Go.Proofs.YtelfgobjnibooaaGreatDoor
