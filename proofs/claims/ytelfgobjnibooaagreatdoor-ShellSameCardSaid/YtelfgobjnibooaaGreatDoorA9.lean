/- Packed texts: ShSp2, ShPart, ShPart2. What each of them proves stands above its theorems; the conditions stand in these. -/
import Derived.Test.YtelfgobjnibooaaGreatDoorA8
namespace Go.Proofs.YtelfgobjnibooaaGreatDoor
open Go.RowKit Go.Lib
def Sp.tl (st : Sp) : Nat := match st.cur with
 | none => 0
 | some (_, t) => t.length
theorem SpX.text {L : ValP (List Co)} {q : Nat} {st : Sp} {vp vt vt2 : Value} {o qd : Bool} {txt : List UInt8} {w w2 : World} (h : SpX L q st vp vt o qd txt w) (b : Bool) (s : List UInt8) (W : World) (hW : W = (w.setCell ⟨q, 2, none⟩ (.bool true)).setCell ⟨q, 3, none⟩ (.bool b))
  (h2 : w2.ownsRow (q + 1) 5 1 vt2 (txt.length + (⟨s.toArray⟩ : ByteArray).size) (byteCells txt ++ strCells ⟨s.toArray⟩)) (hg : W.grownBy w2 vt.ownBlock) (hf : vt2.ownBlock = vt.ownBlock ∨ vt2.ownBlock = some W.heap.size) :
  SpX L q ⟨st.ps, some (b, txt ++ s)⟩ vp vt2 true b (txt ++ s) (w2.setCell ⟨q, 1, none⟩ vt2) ∧ Below q w (w2.setCell ⟨q, 1, none⟩ vt2) ∧ w2.cell? ⟨q, 1, none⟩ = some vt ∧ w2.frozen? ⟨q, 1, none⟩ = false := by
 have hq := heap_ltS h.blk
 have hz : W.heap.size = w.heap.size := by rw [hW]; simp
 have hto : ∀ g, vt.ownBlock = some g → q + 1 ≤ g := fun g hg => (ownS_lt h.tx hg).1
 have e1 : W.heap[q]? = some (.cells #[vp, vt, .bool true, .bool b] 148 (0, 0)) := by
  have h1 := heap_setCell_same w q 2 _ _ (.bool true) h.blk
  have h2 := heap_setCell_same _ q 3 _ _ (.bool b) h1
  rw [hW]
  simpa using h2
 have e2 : w2.heap[q]? = some (.cells #[vp, vt, .bool true, .bool b] 148 (0, 0)) := (hg.block q (by omega) fun e => by have := hto q e.symm; omega).trans e1
 have e3 := heap_setCell_same w2 q 1 _ _ vt2 e2
 have eW : ∀ g, g ≠ q → W.heap[g]? = w.heap[g]? := fun g hne => by rw [hW, Below.heap_setCell _ _ _ _ hne, Below.heap_setCell _ _ _ _ hne]
 have p1 : BldA (partE L) 42 (q + 1) (fun g => vt.ownBlock = some g) W vp st.ps := h.ps.same (by omega) fun g a _ _ => eW g (by omega)
 have p2 : BldA (partE L) 42 (q + 1) (fun g => vt.ownBlock = some g ∨ g = W.heap.size) W vp st.ps := p1.avoid fun g hg => by
  rcases hg with hg | hg
  ·exact .inl hg
  ·exact .inr (by omega)
 have p3 : BldA (partE L) 42 (q + 1) (fun g => vt.ownBlock = some g ∨ g = W.heap.size) w2 vp st.ps := p2.same hg.size fun g _ hs hn => hg.block g hs fun e => hn (.inl e.symm)
 have p4 : BldA (partE L) 42 (q + 1) (fun g => vt2.ownBlock = some g) w2 vp st.ps := p3.avoid fun g hg2 => by
  rcases hf with hf | hf
  ·rw [hf] at hg2; exact .inl (.inl hg2)
  ·rw [hf] at hg2; cases hg2; exact .inl (.inr rfl)
 refine ⟨⟨by simpa using e3, p4.same (by simp) fun g a _ _ => Below.heap_setCell _ _ _ _ (by show g ≠ q; omega), ?_, ⟨rfl, rfl, rfl⟩⟩, ?_, by rw [cell_of_heap e2]; rfl, frozen_of_heap e2 _⟩
 ·have h3 : w2.ownsRow (q + 1) 5 1 vt2 (txt ++ s).length (byteCells (txt ++ s)) := by
   rw [bc_append, List.length_append]
   rw [sizeS] at h2
   exact h2
  exact ownS_same h3 fun g hg => Below.heap_setCell _ _ _ _ (by show g ≠ q; have := (ownS_lt h3 hg).1; omega)
 ·have b1 : Below q w W := by
   rw [hW]
   exact cut_below (Below.refl q w)
  exact (b1.grown hg (by omega) fun g hg => by have := hto g hg; omega).setCell (p := ⟨q, 1, none⟩) (Nat.le_refl _) _
set_option maxHeartbeats 2000000 in
set_option maxRecDepth 20000 in
theorem literal_same (L : ValP (List Co)) (q : Nat) (A : Nat → Prop) (st : Sp) (vp vt : Value) (o b : Bool) (txt s : List UInt8) (w : World) (h : SpX L q st vp vt o b txt w) (hA : ∀ g, A g → vp.ownBlock ≠ some g ∧ vt.ownBlock ≠ some g) (hAw : ∀ g, A g → g < w.heap.size) (_hAq : ∀ g, A g → g ≠ q) (hn : txt.length + s.length ≤ 2000000000) :
  Calls Tryz.prog 163 #[.pointer (some ⟨q, 0, none⟩), .string ⟨s.toArray⟩, .bool b] w fun e w' => e = .returned (.tuple #[]) ∧ SpM L q A ⟨st.ps, some (b, txt ++ s)⟩ w' ∧ Below q w w' := by
 obtain ⟨ao, cap, rfl, hcap⟩ := ownS_shape h.tx
 obtain ⟨c0, c1, c2, c3, f0, f1, f2, f3⟩ := h.cells
 obtain ⟨i0, hi, hz0, hz1, hz2⟩ := info_parts Tryz.infoU8Z
 have hq := heap_ltS h.blk
 have hsz := sizeS s
 have hown : ((w.setCell ⟨q, 2, none⟩ (.bool true)).setCell ⟨q, 3, none⟩ (.bool b)).ownsRow (q + 1) 5 1 (.slice ao txt.length cap) txt.length (byteCells txt) := ownS_same h.tx fun g hg => by
  have := (ownS_lt h.tx hg).1
  rw [Below.heap_setCell _ _ _ _ (by show g ≠ q; omega), Below.heap_setCell _ _ _ _ (by show g ≠ q; omega)]
 have PUT : Hid (∀ (w2 : World) (vt2 : Value), w2.ownsRow (q + 1) 5 1 vt2 (txt.length + (⟨s.toArray⟩ : ByteArray).size) (byteCells txt ++ strCells ⟨s.toArray⟩) → ((w.setCell ⟨q, 2, none⟩ (.bool true)).setCell ⟨q, 3, none⟩ (.bool b)).grownBy w2 (Value.slice ao txt.length cap).ownBlock → (vt2.ownBlock = (Value.slice ao txt.length cap).ownBlock ∨ vt2.ownBlock = some ((w.setCell ⟨q, 2, none⟩ (.bool true)).setCell ⟨q, 3, none⟩ (.bool b)).heap.size) →
   SpM L q A ⟨st.ps, some (b, txt ++ s)⟩ (w2.setCell ⟨q, 1, none⟩ vt2) ∧ Below q w (w2.setCell ⟨q, 1, none⟩ vt2) ∧ w2.cell? ⟨q, 1, none⟩ = some (.slice ao txt.length cap) ∧ w2.frozen? ⟨q, 1, none⟩ = false) := by
  show ∀ _, _
  intro w2 vt2 h2 hg hf
  obtain ⟨k1, k2, k3, k4⟩ := h.text b s _ rfl h2 hg hf
  refine ⟨⟨_, _, _, _, _, k1, fun g hag => ⟨(hA g hag).1, fun e => ?_⟩⟩, k2, k3, k4⟩
  rcases hf with hf | hf
  ·rw [hf] at e; exact (hA g hag).2 e
  ·rw [hf] at e
   have h9 := hAw g hag
   have h8 : w.heap.size = g := by simpa using e
   omega
 clear h hA hAw
 obtain ⟨X, hX⟩ : ∃ X : ByteArray, X = ⟨s.toArray⟩ := ⟨_, rfl⟩
 rw [← hX] at hsz PUT ⊢
 obtain ⟨N, hN⟩ : ∃ N, N = s.length := ⟨_, rfl⟩
 rw [← hN] at hsz hn
 rw [← hsz] at hn
 clear hX hN hsz
 go_enter Tryz.func163, Tryz.ntmps163
 go_wp2_with (at_builtin; refine wpList_append_farS _ rfl (.tmp 25) (.tmp 26) 72 9 rfl (q + 1) 5 i0 Tryz.underlying72 Tryz.underlying9 hi hz0 hz1 hz2 (.slice ao txt.length cap) txt.length (byteCells txt) rfl hown X rfl (by unfold maxLen; omega) (by omega) (by simp; omega) ?_; intro v2 w2 hown2 hgrow2 hfar2; obtain ⟨ao2, cap2, rfl, _⟩ := ownS_shape hown2; obtain ⟨p1, p2, p3, p4⟩ := PUT.out w2 _ hown2 hgrow2 hfar2; have HP := Lib.hid (And.intro p1 p2); clear p1 p2 hown2 hgrow2 hfar2)
 go_end0
 exact ⟨rfl, HP.out⟩
set_option maxHeartbeats 2000000 in
set_option maxRecDepth 20000 in
theorem literal_other (L : ValP (List Co)) (q : Nat) (A : Nat → Prop) (st : Sp) (vp vt : Value) (o qd b : Bool) (txt s : List UInt8) (ps : List Pt) (w : World) (h : SpX L q st vp vt o qd txt w) (hne : qd ≠ b) (hAw : ∀ g, A g → g < w.heap.size) (_hAq : ∀ g, A g → g ≠ q) (hn : s.length ≤ 1000000000)
  (kc : Calls Tryz.prog 168 #[.pointer (some ⟨q, 0, none⟩)] w fun e w' => e = .returned (.tuple #[]) ∧ SpM L q A ⟨ps, none⟩ w' ∧ Below q w w' ∧ ∀ g, A g → w'.heap[g]? = w.heap[g]?) :
  Calls Tryz.prog 163 #[.pointer (some ⟨q, 0, none⟩), .string ⟨s.toArray⟩, .bool b] w fun e w' => e = .returned (.tuple #[]) ∧ SpM L q A ⟨ps, some (b, s)⟩ w' ∧ Below q w w' := by
 obtain ⟨c0, c1, c2, c3, f0, f1, f2, f3⟩ := h.cells
 obtain ⟨i0, hi, hz0, hz1, hz2⟩ := info_parts Tryz.infoU8Z
 have HI := Lib.hid (And.intro hi (And.intro hz0 (And.intro hz1 hz2)))
 have hq := heap_ltS h.blk
 have hsz := sizeS s
 have THEN : Hid (∀ w1, SpM L q A ⟨ps, none⟩ w1 → Below q w w1 → ∃ (ao : Option Addr) (cap : Nat), w1.cell? ⟨q, 1, none⟩ = some (.slice ao 0 cap) ∧ w1.frozen? ⟨q, 1, none⟩ = false ∧ w1.frozen? ⟨q, 2, none⟩ = false ∧ w1.frozen? ⟨q, 3, none⟩ = false ∧ (∃ x, w1.cell? ⟨q, 2, none⟩ = some (.bool x)) ∧ (∃ x, w1.cell? ⟨q, 3, none⟩ = some (.bool x)) ∧ q + 1 ≤ w1.heap.size ∧
   ((w1.setCell ⟨q, 2, none⟩ (.bool true)).setCell ⟨q, 3, none⟩ (.bool b)).ownsRow (q + 1) 5 1 (.slice ao 0 cap) 0 [] ∧
   ∀ (w2 : World) (vt2 : Value), w2.ownsRow (q + 1) 5 1 vt2 (0 + (⟨s.toArray⟩ : ByteArray).size) ([] ++ strCells ⟨s.toArray⟩) → ((w1.setCell ⟨q, 2, none⟩ (.bool true)).setCell ⟨q, 3, none⟩ (.bool b)).grownBy w2 (Value.slice ao 0 cap).ownBlock → (vt2.ownBlock = (Value.slice ao 0 cap).ownBlock ∨ vt2.ownBlock = some ((w1.setCell ⟨q, 2, none⟩ (.bool true)).setCell ⟨q, 3, none⟩ (.bool b)).heap.size) →
   SpM L q A ⟨ps, some (b, s)⟩ (w2.setCell ⟨q, 1, none⟩ vt2) ∧ Below q w (w2.setCell ⟨q, 1, none⟩ vt2) ∧ w2.cell? ⟨q, 1, none⟩ = some (.slice ao 0 cap) ∧ w2.frozen? ⟨q, 1, none⟩ = false) := by
  show ∀ _, _
  intro w1 h1 hb1
  obtain ⟨vp1, vt1, o1, qd1, txt1, h1, hA1⟩ := h1
  obtain ⟨ho1, ht1⟩ := h1.cur
  subst ht1
  obtain ⟨ao, cap, rfl, hcap⟩ := ownS_shape h1.tx
  obtain ⟨d0, d1, d2, d3, g0, g1, g2, g3⟩ := h1.cells
  refine ⟨ao, cap, d1, g1, g2, g3, ⟨_, d2⟩, ⟨_, d3⟩, heap_ltS h1.blk, ?_, ?_⟩
  ·exact ownS_same (w := w1) h1.tx fun g hg => by
    have := (ownS_lt h1.tx hg).1
    rw [Below.heap_setCell _ _ _ _ (by show g ≠ q; omega), Below.heap_setCell _ _ _ _ (by show g ≠ q; omega)]
  ·intro w2 vt2 h2 hg hf
   obtain ⟨k1, k2, k3, k4⟩ := h1.text b s _ rfl h2 hg hf
   refine ⟨⟨_, _, _, _, _, k1, fun g hag => ⟨(hA1 g hag).1, fun e => ?_⟩⟩, hb1.trans k2, k3, k4⟩
   rcases hf with hf | hf
   ·rw [hf] at e; exact (hA1 g hag).2 e
   ·rw [hf] at e
    have h9 := hAw g hag
    have h7 := hb1.size
    have h8 : w1.heap.size = g := by simpa using e
    omega
 clear h hAw hi hz0 hz1 hz2
 obtain ⟨X, hX⟩ : ∃ X : ByteArray, X = ⟨s.toArray⟩ := ⟨_, rfl⟩
 rw [← hX] at hsz THEN ⊢
 obtain ⟨N, hN⟩ : ∃ N, N = s.length := ⟨_, rfl⟩
 rw [← hN] at hsz hn
 rw [← hsz] at hn
 clear hX hN hsz
 cases qd <;> cases b
 case false.false => exact absurd rfl hne
 case true.true => exact absurd rfl hne
 all_goals
  clear hne
  go_enter Tryz.func163, Tryz.ntmps163
  go_wp2_with (first
   | (go_at_call 168; (with_reducible refine kc.mono ?_); rintro e w1 ⟨rfl, h1, hb1, _⟩; obtain ⟨ao, cap, d1, g1, g2, g3, ⟨x2, d2⟩, ⟨x3, d3⟩, hz, hown, hput⟩ := THEN.out w1 h1 hb1; have HPUT := Lib.hid hput; clear hput h1 hb1 c0 c1 c2 c3 f0 f1 f2 f3)
   | (at_builtin; refine wpList_append_farS _ rfl (.tmp 25) (.tmp 26) 72 9 rfl (q + 1) 5 i0 Tryz.underlying72 Tryz.underlying9 HI.out.1 HI.out.2.1 HI.out.2.2.1 HI.out.2.2.2 (.slice ao 0 cap) 0 [] rfl hown X rfl (by unfold maxLen; omega) (by omega) (by simp; omega) ?_; intro v2 w2 hown2 hgrow2 hfar2; obtain ⟨ao2, cap2, hv2, _⟩ := ownS_shape hown2; rw [Nat.zero_add] at hv2; subst hv2; obtain ⟨p1, p2, p3, p4⟩ := HPUT.out w2 _ hown2 hgrow2 hfar2; have HP := Lib.hid (And.intro p1 p2); clear p1 p2 hown2 hgrow2 hfar2))
  go_end0
  exact ⟨rfl, HP.out⟩
theorem literal_any (L : ValP (List Co)) (hL : ∀ F w, L.q F w (.slice none 0 0) []) (q : Nat) (A : Nat → Prop) (st : Sp) (b : Bool) (s : List UInt8) (w : World) (h : SpM L q A st w) (hAw : ∀ g, A g → g < w.heap.size) (hAq : ∀ g, A g → g ≠ q) (hn : st.ps.length ≤ 1000000000) (hs : st.tl + s.length ≤ 1000000000) :
  Calls Tryz.prog 163 #[.pointer (some ⟨q, 0, none⟩), .string ⟨s.toArray⟩, .bool b] w fun e w' => e = .returned (.tuple #[]) ∧ SpM L q A (st.lit s b) w' ∧ Below q w w' := by
 have hh := h
 obtain ⟨vp, vt, o, qd, txt, hx, hA⟩ := h
 have hc := hx.cur
 obtain ⟨ps, cur⟩ := st
 cases cur with
 | none =>
  obtain ⟨rfl, rfl⟩ := hc
  show Calls _ _ _ _ fun e w' => e = .returned (.tuple #[]) ∧ SpM L q A ⟨ps, some (b, s)⟩ w' ∧ Below q w w'
  by_cases hb : qd = b
  ·subst hb
   exact literal_same L q A ⟨ps, none⟩ vp vt false qd [] s w hx hA hAw hAq (by have : s.length ≤ 1000000000 := by { unfold Sp.tl at hs; simpa using hs }; simp; omega)
  ·exact literal_other L q A ⟨ps, none⟩ vp vt false qd b [] s ps w hx hb hAw hAq (by unfold Sp.tl at hs; simpa using hs) (close_none L q A ⟨ps, none⟩ w hh hAq rfl)
 | some p =>
  obtain ⟨b', t⟩ := p
  obtain ⟨rfl, rfl, rfl⟩ := hc
  have hs : txt.length + s.length ≤ 1000000000 := hs
  by_cases hb : qd = b
  ·subst hb
   have e : (⟨ps, some (qd, txt)⟩ : Sp).lit s qd = ⟨ps, some (qd, txt ++ s)⟩ := if_pos rfl
   rw [e]
   exact literal_same L q A ⟨ps, some (qd, txt)⟩ vp vt true qd txt s w hx hA hAw hAq (by omega)
  ·have e : (⟨ps, some (qd, txt)⟩ : Sp).lit s b = ⟨ps ++ [litP qd txt], some (b, s)⟩ := if_neg hb
   rw [e]
   exact literal_other L q A ⟨ps, some (qd, txt)⟩ vp vt true qd b txt s _ w hx hb hAw hAq (by omega) (close_some L hL q A ⟨ps, some (qd, txt)⟩ qd txt w hh hAw hAq rfl hn)
theorem close_any (L : ValP (List Co)) (hL : ∀ F w, L.q F w (.slice none 0 0) []) (q : Nat) (A : Nat → Prop) (st : Sp) (w : World) (h : SpM L q A st w) (hAw : ∀ g, A g → g < w.heap.size) (hAq : ∀ g, A g → g ≠ q) (hn : st.ps.length ≤ 1000000000) :
  Calls Tryz.prog 168 #[.pointer (some ⟨q, 0, none⟩)] w fun e w' => e = .returned (.tuple #[]) ∧ SpM L q A ⟨st.shut, none⟩ w' ∧ Below q w w' ∧ ∀ g, A g → w'.heap[g]? = w.heap[g]? := by
 obtain ⟨ps, cur⟩ := st
 cases cur with
 | none => exact close_none L q A ⟨ps, none⟩ w h hAq rfl
 | some p => exact close_some L hL q A ⟨ps, some p⟩ p.1 p.2 w h hAw hAq rfl hn
structure GoodL (L : ValP (List Co)) : Prop where
 nil : ∀ F w, L.q F w (.slice none 0 0) []
 shape : ∀ F w v l, L.q F w v l → ∃ ao cap, v = .slice ao l.length cap ∧ l.length ≤ cap
theorem cos_good (n : Nat) : GoodL (cosV n) := ⟨fun F w => cos_nil n F w, fun _F _w _v _l h => cos_shape h⟩
set_option maxHeartbeats 4000000 in
set_option maxRecDepth 20000 in
theorem add_any (L : ValP (List Co)) (hL : GoodL L) (q : Nat) (Fx : Nat → Prop) (st : Sp) (x : Pt) (vl : Value) (w : World) (h : SpM L q Fx st w) (hx : L.q Fx w vl x.l) (hF : ∀ g, Fx g → q + 1 ≤ g ∧ g < w.heap.size) (hn : st.ps.length ≤ 900000000) :
  Calls Tryz.prog 166 #[.pointer (some ⟨q, 0, none⟩), .agg #[.int .i64 (x.k : Int), .bool x.q, .string ⟨x.s.toArray⟩, .string ⟨x.t.toArray⟩, vl]] w fun e w' => e = .returned (.tuple #[]) ∧ SpM L q NoneF (st.add x) w' ∧ Below q w w' := by
 obtain ⟨al, cl, rfl, _⟩ := hL.shape _ _ _ _ hx
 obtain ⟨m, hm⟩ : ∃ m, m = x.l.length := ⟨_, rfl⟩
 have hqlt : q < w.heap.size := by obtain ⟨_, _, _, _, _, hh, _⟩ := h; exact heap_ltS hh.blk
 obtain ⟨cs, hcs⟩ : ∃ cs : List Value, cs = [.int .i64 (x.k : Int), .bool x.q, .string ⟨x.s.toArray⟩, .string ⟨x.t.toArray⟩, .slice al x.l.length cl] := ⟨_, rfl⟩
 obtain ⟨W0, hW0⟩ : ∃ W0, W0 = w.alloc (.cells #[.int .i64 (x.k : Int), .bool x.q, .string ⟨x.s.toArray⟩, .string ⟨x.t.toArray⟩, .slice al x.l.length cl] 42) := ⟨_, rfl⟩
 have hz0 : W0.heap.size = w.heap.size + 1 := by rw [hW0]; simp
 have hb0 : Below w.heap.size w W0 := by rw [hW0]; exact (Below.refl _ w).alloc (Nat.le_refl _) _
 have hn0 : W0.heap[w.heap.size]? = some (.cells #[.int .i64 (x.k : Int), .bool x.q, .string ⟨x.s.toArray⟩, .string ⟨x.t.toArray⟩, .slice al x.l.length cl] 42 (0, 0)) := by rw [hW0]; exact heap_alloc_new w _
 have hA : SpM L q (fun g => Fx g ∨ g = w.heap.size) st W0 := by
  obtain ⟨vp, vt, o, qd, txt, h, ha⟩ := h
  refine ⟨vp, vt, o, qd, txt, h.same hb0.size fun g _ hs => hb0.block g hs, fun g hg => ?_⟩
  rcases hg with hg | rfl
  ·exact ha g hg
  ·exact ⟨fun e => by have := (h.ps.lt _ e).2; omega, fun e => by have := (ownS_lt h.tx e).2; omega⟩
 have kc := close_any L hL.nil q (fun g => Fx g ∨ g = w.heap.size) st W0 hA (fun g hg => by
  rcases hg with hg | rfl
  ·have := (hF g hg).2; omega
  ·omega) (fun g hg => by
  rcases hg with hg | rfl
  ·have := (hF g hg).1; omega
  ·omega) (by omega)
 have hshut : st.shut.length ≤ 900000001 := by
  unfold Sp.shut
  split
  ·omega
  ·rw [List.length_append]; show _ + 1 ≤ _; omega
 obtain ⟨i0, hi, hzi0, hzi1, hzi2⟩ := info_parts Tryz.infoPartZ
 have HI := Lib.hid (And.intro hi (And.intro hzi0 (And.intro hzi1 hzi2)))
 have THEN : Hid (∀ w1, SpM L q (fun g => Fx g ∨ g = w.heap.size) ⟨st.shut, none⟩ w1 → Below q W0 w1 → (∀ g, (Fx g ∨ g = w.heap.size) → w1.heap[g]? = W0.heap[g]?) → ∃ (ap : Option Addr) (capp : Nat) (ys : List Value), w1.cell? ⟨q, 0, none⟩ = some (.slice ap st.shut.length capp) ∧ w1.frozen? ⟨q, 0, none⟩ = false ∧
   w1.cell? ⟨w.heap.size, 0, none⟩ = some (.int .i64 (x.k : Int)) ∧ w1.cell? ⟨w.heap.size, 1, none⟩ = some (.bool x.q) ∧ w1.cell? ⟨w.heap.size, 2, none⟩ = some (.string ⟨x.s.toArray⟩) ∧ w1.cell? ⟨w.heap.size, 3, none⟩ = some (.string ⟨x.t.toArray⟩) ∧ w1.cell? ⟨w.heap.size, 4, none⟩ = some (.slice al x.l.length cl) ∧ q + 1 ≤ w1.heap.size ∧ w.heap.size < w1.heap.size ∧
   w1.ownsRow (q + 1) 42 5 (.slice ap st.shut.length capp) st.shut.length ys ∧
   ∀ (w2 : World) (vp2 : Value), w2.ownsRow (q + 1) 42 5 vp2 (st.shut.length + 1) (ys ++ [.int .i64 (x.k : Int), .bool x.q, .string ⟨x.s.toArray⟩, .string ⟨x.t.toArray⟩, .slice al x.l.length cl]) → (w1.drew.alloc (.cells [.int .i64 (x.k : Int), .bool x.q, .string ⟨x.s.toArray⟩, .string ⟨x.t.toArray⟩, .slice al x.l.length cl].toArray 42)).grownBy w2 (Value.slice ap st.shut.length capp).ownBlock →
   (vp2.ownBlock = (Value.slice ap st.shut.length capp).ownBlock ∨ vp2.ownBlock = some (w1.drew.alloc (.cells [.int .i64 (x.k : Int), .bool x.q, .string ⟨x.s.toArray⟩, .string ⟨x.t.toArray⟩, .slice al x.l.length cl].toArray 42)).heap.size) →
   (SpM L q NoneF (st.add x) (w2.setCell ⟨q, 0, none⟩ vp2) ∧ Below q w (w2.setCell ⟨q, 0, none⟩ vp2)) ∧ w2.cell? ⟨q, 0, none⟩ = some (.slice ap st.shut.length capp) ∧ w2.frozen? ⟨q, 0, none⟩ = false) := by
  show ∀ _, _
  intro w1 h1 hb1 hk1
  obtain ⟨vp, vt, o, qd, txt, h1, ha1⟩ := h1
  obtain ⟨ys, hy⟩ := h1.ps.own
  obtain ⟨ap, capp, rfl, hcapp⟩ := ownS_shape hy
  obtain ⟨d0, d1, d2, d3, g0, g1, g2, g3⟩ := h1.cells
  have hn1 := (hk1 w.heap.size (.inr rfl)).trans hn0
  have hq1 := heap_ltS h1.blk
  refine ⟨ap, capp, ys, d0, g0, by rw [cell_of_heap hn1]; rfl, by rw [cell_of_heap hn1]; rfl, by rw [cell_of_heap hn1]; rfl, by rw [cell_of_heap hn1]; rfl, by rw [cell_of_heap hn1]; rfl, hq1, by have := hb1.size; omega, hy, ?_⟩
  intro w2 vp2 h2 hg hf
  have hd : SpX L q ⟨st.shut, none⟩ (.slice ap st.shut.length capp) vt o qd txt w1.drew := h1.same (Nat.le_refl _) fun _ _ _ => rfl
  have hx1 : L.q Fx w1.drew (.slice al x.l.length cl) x.l := L.same _ _ _ _ _ (fun g hg => (hk1 g (.inl hg)).trans (hb0.block g (hF g hg).2)) hx
  obtain ⟨k1, k2, k3⟩ := hd.part (x := x) ⟨_, rfl, hx1⟩ (fun g hg => ⟨(hF g hg).1, by show g < w1.heap.size; have := (hF g hg).2; have := hb1.size; omega⟩) (fun g hg => ha1 g (.inl hg)) (ownS_same hy fun _ _ => rfl) h2 hg hf
  refine ⟨⟨⟨_, _, _, _, _, ⟨k1, k2, k3, h1.cur⟩, fun g hg => hg.elim⟩, ?_⟩, ?_⟩
  ·have hb2 : Below q w (w1.drew.alloc (.cells [.int .i64 (x.k : Int), .bool x.q, .string ⟨x.s.toArray⟩, .string ⟨x.t.toArray⟩, .slice al x.l.length cl].toArray 42)) := ((((hb0.mono (Nat.le_of_lt hqlt)).trans hb1)).drew).alloc (Nat.le_of_lt hq1) _
   exact (hb2.grown hg (by simp; omega) fun g hg2 => by have := (hd.ps.lt g hg2).1; omega).setCell (p := ⟨q, 0, none⟩) (Nat.le_refl _) _
  ·have hb2 : w2.heap[q]? = w1.heap[q]? := (grown_keep (w := w1.drew) hg hq1 fun e => by have := (hd.ps.lt q e).1; omega)
   have hb3 := hb2.trans h1.blk
   exact ⟨by rw [cell_of_heap hb3]; rfl, frozen_of_heap hb3 _⟩
 have hql : q < w.heap.size := hqlt
 rw [hW0] at kc THEN
 clear h hx hF hA hb0 hn0 hz0 hcs hi hzi0 hzi1 hzi2 hm hW0
 generalize (⟨x.s.toArray⟩ : ByteArray) = X at *
 generalize (⟨x.t.toArray⟩ : ByteArray) = T at *
 go_enter Tryz.func166, Tryz.ntmps166
 go_upto_region 2 with (go_at_call 168; (with_reducible refine kc.mono ?_); rintro e w1 ⟨rfl, h1, hb1, hk1⟩; obtain ⟨ap, capp, ys, d0, g0, e0, e1, e2, e3, e4, hz1, hz2, hown, hput⟩ := THEN.out w1 h1 hb1 hk1; have HPUT := Lib.hid hput; clear hput h1 hb1 hk1)
 have hz3 : q < w1.heap.size := by omega
 go_region_law (refine step_append_farG rfl (.tmp 10) (.tmp 12) 38 rfl (q + 1) 42 i0 _ 5 72 Tryz.underlying38 HI.out.1 HI.out.2.1 HI.out.2.2.1 HI.out.2.2.2 rfl (by decide) (.slice ap st.shut.length capp) st.shut.length ys (by simp [Act.eval]) (hown.drew.alloc _) ⟨w1.heap.size, 0, none⟩ 1 [.int .i64 (x.k : Int), .bool x.q, .string X, .string T, .slice al x.l.length cl] (by simp [Act.eval]) rfl (cells_list w1.drew _ _) (by simp [Value.oneCell']) (by unfold maxLen; omega) (by omega) (by simp; omega) ?_; intro v2 w2 hown2 hgrow2 hfar2; obtain ⟨ao2, cap2, rfl, _⟩ := ownS_shape hown2; obtain ⟨p1, p3, p4⟩ := HPUT.out w2 _ hown2 hgrow2 hfar2; have HP := Lib.hid p1; clear p1 hown2 hgrow2 hfar2)
 all_goals
  go_end0
  exact ⟨rfl, HP.out⟩
end Go.Proofs.YtelfgobjnibooaaGreatDoor
namespace Go.Proofs.YtelfgobjnibooaaGreatDoor
open Go.RowKit Go.Lib
def AnsV {X : Type} (V : ValP X) (p : Nat) (sg : Value) (d : Nat) (w : World) : Rr X → Ending → World → Prop
 | .ok x r, e, w' => (∃ v, e = .returned v ∧ V.q (NewF w.heap.size w'.heap.size) w' v x) ∧ Rs p r sg d w' ∧ Mvd p w w'
 | .bad x, e, w' => e = errS x ∧ Mvd p w w'
def AnsE {X : Type} (E : ElemP X) (p : Nat) (sg : Value) (d : Nat) (w : World) : Rr X → Ending → World → Prop
 | .ok x r, e, w' => (∃ cs, e = .returned (.agg cs) ∧ E.q (NewF w.heap.size w'.heap.size) w' x cs.toList) ∧ Rs p r sg d w' ∧ Mvd p w w'
 | .bad x, e, w' => e = errS x ∧ Mvd p w w'
structure Lv (L : ValP (List Co)) (sub : Deeper) (p : Nat) (sg : Value) (d : Nat) : Prop where
 good : GoodL L
 nice : GoodD sub
 top : sub = none → d = 30
 lt : ∀ g, sub = some g → d < 30
 lst : ∀ g, sub = some g → ∀ l w, Rs p l sg (d + 1) w → EnvS p sg w → l.length ≤ 1048576 → Calls Tryz.prog 29 #[.pointer (some ⟨p, 0, none⟩)] w (AnsV L p sg (d + 1) w (g.lst l))
 wds : ∀ g, sub = some g → ∀ l w, Rs p l sg (d + 1) w → EnvS p sg w → l.length ≤ 1048576 → Calls Tryz.prog 141 #[.pointer (some ⟨p, 0, none⟩)] w (AnsV (WdsV L) p sg (d + 1) w (g.wds l))
def PW (p : Nat) (q : Bool) (w : World) : World := ((w.alloc (.cells #[.pointer (some ⟨p, 0, none⟩)] 81)).alloc (.cells #[.int .i64 0, .bool false, .string ⟨#[]⟩, .string ⟨#[]⟩, .slice none 0 0] 42)).alloc (.cells #[.int .i64 0, .bool q, .string ⟨#[]⟩, .string ⟨#[]⟩, .slice none 0 0] 42)
theorem PW_facts (p : Nat) (q : Bool) (w : World) : (PW p q w).heap.size = w.heap.size + 3 ∧ Below w.heap.size w (PW p q w) ∧ (PW p q w).heap[w.heap.size]? = some (.cells #[.pointer (some ⟨p, 0, none⟩)] 81 (0, 0)) ∧ (PW p q w).heap[w.heap.size + 1]? = some (.cells #[.int .i64 0, .bool false, .string ⟨#[]⟩, .string ⟨#[]⟩, .slice none 0 0] 42 (0, 0)) ∧ PtB (w.heap.size + 1 + 1) ⟨0, q, [], [], []⟩ (PW p q w) := by
 have main : ∀ O1 O2 O3 : Obj, (((w.alloc O1).alloc O2).alloc O3).heap.size = w.heap.size + 3 ∧ Below w.heap.size w (((w.alloc O1).alloc O2).alloc O3) ∧ (((w.alloc O1).alloc O2).alloc O3).heap[w.heap.size]? = some O1 ∧ (((w.alloc O1).alloc O2).alloc O3).heap[w.heap.size + 1]? = some O2 ∧ (((w.alloc O1).alloc O2).alloc O3).heap[w.heap.size + 1 + 1]? = some O3 := fun O1 O2 O3 => by
  have z1 : (w.alloc O1).heap.size = w.heap.size + 1 := by simp
  have z2 : ((w.alloc O1).alloc O2).heap.size = w.heap.size + 1 + 1 := by simp
  have h1 := heap_alloc_new w O1
  have h2 := heap_alloc_new (w.alloc O1) O2
  rw [z1] at h2
  have h3 := heap_alloc_new ((w.alloc O1).alloc O2) O3
  rw [z2] at h3
  refine ⟨by simp, ((((Below.refl _ w).alloc (Nat.le_refl _) _).alloc (by simp) _).alloc (by rw [z2]; omega) _), ?_, ?_, h3⟩
  ·rw [Below.heap_alloc _ _ _ (by omega), Below.heap_alloc _ _ _ (by omega)]; exact h1
  ·rw [Below.heap_alloc _ _ _ (by omega)]; exact h2
 exact main _ _ _
theorem PtB.cells5 {b : Nat} {x : Pt} {w : World} (h : PtB b x w) : w.cell? ⟨b, 0, none⟩ = some (.int .i64 (x.k : Int)) ∧ w.cell? ⟨b, 1, none⟩ = some (.bool x.q) ∧ w.cell? ⟨b, 2, none⟩ = some (.string ⟨x.s.toArray⟩) ∧ w.cell? ⟨b, 3, none⟩ = some (.string ⟨x.t.toArray⟩) ∧ w.cell? ⟨b, 4, none⟩ = some (.slice none 0 0) := by
 unfold PtB at h
 exact ⟨by rw [cell_of_heap h]; rfl, by rw [cell_of_heap h]; rfl, by rw [cell_of_heap h]; rfl, by rw [cell_of_heap h]; rfl, by rw [cell_of_heap h]; rfl⟩
theorem set5_heap {w : World} {b : Nat} {a0 a1 a2 a3 a4 v0 v1 v2 v3 v4 : Value} {t : TypeId} (h : w.heap[b]? = some (.cells #[a0, a1, a2, a3, a4] t (0, 0))) : (((((w.setCell ⟨b, 0, none⟩ v0).setCell ⟨b, 1, none⟩ v1).setCell ⟨b, 2, none⟩ v2).setCell ⟨b, 3, none⟩ v3).setCell ⟨b, 4, none⟩ v4).heap[b]? = some (.cells #[v0, v1, v2, v3, v4] t (0, 0)) := by
 have h0 := heap_setCell_same w b 0 _ _ v0 h
 have h1 := heap_setCell_same _ b 1 _ _ v1 h0
 have h2 := heap_setCell_same _ b 2 _ _ v2 h1
 have h3 := heap_setCell_same _ b 3 _ _ v3 h2
 have h4 := heap_setCell_same _ b 4 _ _ v4 h3
 simpa using h4
theorem set5_other {w : World} {b g : Nat} {v0 v1 v2 v3 v4 : Value} (h : g ≠ b) : (((((w.setCell ⟨b, 0, none⟩ v0).setCell ⟨b, 1, none⟩ v1).setCell ⟨b, 2, none⟩ v2).setCell ⟨b, 3, none⟩ v3).setCell ⟨b, 4, none⟩ v4).heap[g]? = w.heap[g]? := by
 rw [Below.heap_setCell _ _ _ _ h, Below.heap_setCell _ _ _ _ h, Below.heap_setCell _ _ _ _ h, Below.heap_setCell _ _ _ _ h, Below.heap_setCell _ _ _ _ h]
theorem cells_five {w : World} {b : Nat} {a0 a1 a2 a3 a4 : Value} {t : TypeId} (h : w.heap[b]? = some (.cells #[a0, a1, a2, a3, a4] t (0, 0))) : w.cell? ⟨b, 0, none⟩ = some a0 ∧ w.cell? ⟨b, 1, none⟩ = some a1 ∧ w.cell? ⟨b, 2, none⟩ = some a2 ∧ w.cell? ⟨b, 3, none⟩ = some a3 ∧ w.cell? ⟨b, 4, none⟩ = some a4 :=
 ⟨by rw [cell_of_heap h]; rfl, by rw [cell_of_heap h]; rfl, by rw [cell_of_heap h]; rfl, by rw [cell_of_heap h]; rfl, by rw [cell_of_heap h]; rfl⟩
def Free5 (b : Nat) (w : World) : Prop := w.frozen? ⟨b, 0, none⟩ = false ∧ w.frozen? ⟨b, 1, none⟩ = false ∧ w.frozen? ⟨b, 2, none⟩ = false ∧ w.frozen? ⟨b, 3, none⟩ = false ∧ w.frozen? ⟨b, 4, none⟩ = false ∧ ∃ v0 v1 v2 v3 v4, w.cell? ⟨b, 0, none⟩ = some v0 ∧ w.cell? ⟨b, 1, none⟩ = some v1 ∧ w.cell? ⟨b, 2, none⟩ = some v2 ∧ w.cell? ⟨b, 3, none⟩ = some v3 ∧ w.cell? ⟨b, 4, none⟩ = some v4 ∧ w.heap[b]? = some (.cells #[v0, v1, v2, v3, v4] 42 (0, 0))
theorem free5_of {b : Nat} {w : World} {a0 a1 a2 a3 a4 : Value} (h : w.heap[b]? = some (.cells #[a0, a1, a2, a3, a4] 42 (0, 0))) : Free5 b w :=
 ⟨frozen_of_heap h _, frozen_of_heap h _, frozen_of_heap h _, frozen_of_heap h _, frozen_of_heap h _, a0, a1, a2, a3, a4, by rw [cell_of_heap h]; rfl, by rw [cell_of_heap h]; rfl, by rw [cell_of_heap h]; rfl, by rw [cell_of_heap h]; rfl, by rw [cell_of_heap h]; rfl, h⟩
theorem PW_at {p : Nat} {q : Bool} {w w1 : World} (hp : p < w.heap.size) (hm : Mv2 p (w.heap.size + 1 + 1) (PW p q w) w1) : w1.cell? ⟨w.heap.size, 0, none⟩ = some (.pointer (some ⟨p, 0, none⟩)) ∧ Free5 (w.heap.size + 1) w1 ∧ Mvd p w w1 ∧ w.heap.size + 3 ≤ w1.heap.size := by
 obtain ⟨z, hb, h1, h2, h3⟩ := PW_facts p q w
 have e1 := (hm.high w.heap.size (by omega) (by omega) (by omega)).trans h1
 have e2 := (hm.high (w.heap.size + 1) (by omega) (by omega) (by omega)).trans h2
 refine ⟨by rw [cell_of_heap e1]; rfl, free5_of e2, ⟨(hb.mono (Nat.le_of_lt hp)).trans hm.low, fun g hg hs => (hm.high g hg (by omega) (by omega)).trans (hb.block g hs)⟩, by have := hm.low.size; omega⟩
theorem Mvd.own5 {p b : Nat} {a w : World} (h : Mvd p a w) (hb : a.heap.size ≤ b) (hp : p < a.heap.size) (v0 v1 v2 v3 v4 : Value) : Mvd p a (((((w.setCell ⟨b, 0, none⟩ v0).setCell ⟨b, 1, none⟩ v1).setCell ⟨b, 2, none⟩ v2).setCell ⟨b, 3, none⟩ v3).setCell ⟨b, 4, none⟩ v4) := ((((h.own hb hp 0 v0).own hb hp 1 v1).own hb hp 2 v2).own hb hp 3 v3).own hb hp 4 v4
theorem pw_named {p : Nat} {q : Bool} {w : World} (hp : p < w.heap.size) (K : Nat) (Z : Int) (hZ : Z = (K : Int)) (s r : List UInt8) (sg : Value) (d : Nat) (w2 : World) (h2 : Rs p r sg d w2) (m2 : Mvd p (PW p q w) w2) :
  w2.cell? ⟨w.heap.size + 1 + 1, 0, none⟩ = some (.int .i64 0) ∧ w2.cell? ⟨w.heap.size + 1 + 1, 2, none⟩ = some (.string ⟨#[]⟩) ∧ w2.frozen? ⟨w.heap.size + 1 + 1, 0, none⟩ = false ∧ w2.frozen? ⟨w.heap.size + 1 + 1, 2, none⟩ = false ∧ Free5 (w.heap.size + 1) ((w2.setCell ⟨w.heap.size + 1 + 1, 0, none⟩ (.int .i64 Z)).setCell ⟨w.heap.size + 1 + 1, 2, none⟩ (.string ⟨s.toArray⟩)) ∧
    (((w2.setCell ⟨w.heap.size + 1 + 1, 0, none⟩ (.int .i64 Z)).setCell ⟨w.heap.size + 1 + 1, 2, none⟩ (.string ⟨s.toArray⟩)).cell? ⟨w.heap.size + 1 + 1, 0, none⟩ = some (.int .i64 Z) ∧ ((w2.setCell ⟨w.heap.size + 1 + 1, 0, none⟩ (.int .i64 Z)).setCell ⟨w.heap.size + 1 + 1, 2, none⟩ (.string ⟨s.toArray⟩)).cell? ⟨w.heap.size + 1 + 1, 1, none⟩ = some (.bool q) ∧ ((w2.setCell ⟨w.heap.size + 1 + 1, 0, none⟩ (.int .i64 Z)).setCell ⟨w.heap.size + 1 + 1, 2, none⟩ (.string ⟨s.toArray⟩)).cell? ⟨w.heap.size + 1 + 1, 2, none⟩ = some (.string ⟨s.toArray⟩) ∧ ((w2.setCell ⟨w.heap.size + 1 + 1, 0, none⟩ (.int .i64 Z)).setCell ⟨w.heap.size + 1 + 1, 2, none⟩ (.string ⟨s.toArray⟩)).cell? ⟨w.heap.size + 1 + 1, 3, none⟩ = some (.string ⟨#[]⟩) ∧ ((w2.setCell ⟨w.heap.size + 1 + 1, 0, none⟩ (.int .i64 Z)).setCell ⟨w.heap.size + 1 + 1, 2, none⟩ (.string ⟨s.toArray⟩)).cell? ⟨w.heap.size + 1 + 1, 4, none⟩ = some (.slice none 0 0) ∧
    (Rs p r sg d ((w2.setCell ⟨w.heap.size + 1 + 1, 0, none⟩ (.int .i64 Z)).setCell ⟨w.heap.size + 1 + 1, 2, none⟩ (.string ⟨s.toArray⟩)) ∧ Mvd p w ((w2.setCell ⟨w.heap.size + 1 + 1, 0, none⟩ (.int .i64 Z)).setCell ⟨w.heap.size + 1 + 1, 2, none⟩ (.string ⟨s.toArray⟩)) ∧ Mv2 p (w.heap.size + 1 + 1) (PW p q w) ((w2.setCell ⟨w.heap.size + 1 + 1, 0, none⟩ (.int .i64 Z)).setCell ⟨w.heap.size + 1 + 1, 2, none⟩ (.string ⟨s.toArray⟩)) ∧ PtB (w.heap.size + 1 + 1) ⟨K, q, s, [], []⟩ ((w2.setCell ⟨w.heap.size + 1 + 1, 0, none⟩ (.int .i64 Z)).setCell ⟨w.heap.size + 1 + 1, 2, none⟩ (.string ⟨s.toArray⟩)))) := by
 subst hZ
 obtain ⟨z, hb, b1, b2, b3⟩ := PW_facts p q w
 have q2 := b3.moved m2 (by omega)
 have q4 := (q2.setK K).setS s
 have m4 : Mv2 p (w.heap.size + 1 + 1) (PW p q w) ((w2.setCell ⟨w.heap.size + 1 + 1, 0, none⟩ (.int .i64 (K : Int))).setCell ⟨w.heap.size + 1 + 1, 2, none⟩ (.string ⟨s.toArray⟩)) := ((Mv2.of m2).trans (Mv2.set (by omega) _ _ _)).trans (Mv2.set (by omega) _ _ _)
 obtain ⟨a1, a2, a3, a4⟩ := PW_at hp m4
 obtain ⟨u0, u1, u2, u3, u4⟩ := q4.cells5
 exact ⟨q2.cells.1, q2.cells.2.1, q2.cells.2.2.2.1, q2.cells.2.2.2.2.1, a2, u0, u1, u2, u3, u4, (h2.other (by omega)).other (by omega), a3, m4, q4⟩
set_option maxHeartbeats 4000000 in
set_option maxRecDepth 20000 in
theorem part_name (L : ValP (List Co)) (hL : GoodL L) (p : Nat) (q : Bool) (l : List UInt8) (sg : Value) (d : Nat) (w : World) (h : Rs p l sg d w) (hl : l.length ≤ 1048576) (h1 : takeS [40, 40] l = none) (h2 : takeS [40] l = none) (h3 : takeS [123, 35] l = none) (h4 : takeS [123] l = none) :
  Calls Tryz.prog 167 #[.pointer (some ⟨p, 0, none⟩), .bool q] w (AnsE (partE L) p sg d w ((nameR l).bind fun n r => .ok ⟨2, q, n, [], []⟩ r)) := by
 obtain ⟨z, hb, b1, b2, b3⟩ := PW_facts p q w
 have hp := h.lt
 have hW := h.below hb
 have k1 := fun w1 (h : Rs p l sg d w1) => (show Calls Tryz.prog 103 #[.pointer (some ⟨p, 0, none⟩), .string ⟨#[40, 40]⟩] w1 fun e w' => e = .returned (.bool false) ∧ w' = w1 from takeS_no p [40, 40] l sg d w1 h h1)
 have k2 := fun w1 (h : Rs p l sg d w1) => (show Calls Tryz.prog 103 #[.pointer (some ⟨p, 0, none⟩), .string ⟨#[40]⟩] w1 fun e w' => e = .returned (.bool false) ∧ w' = w1 from takeS_no p [40] l sg d w1 h h2)
 have k3 := fun w1 (h : Rs p l sg d w1) => (show Calls Tryz.prog 103 #[.pointer (some ⟨p, 0, none⟩), .string ⟨#[123, 35]⟩] w1 fun e w' => e = .returned (.bool false) ∧ w' = w1 from takeS_no p [123, 35] l sg d w1 h h3)
 have k4 := fun w1 (h : Rs p l sg d w1) => (show Calls Tryz.prog 103 #[.pointer (some ⟨p, 0, none⟩), .string ⟨#[123]⟩] w1 fun e w' => e = .returned (.bool false) ∧ w' = w1 from takeS_no p [123] l sg d w1 h h4)
 have kn := fun w1 (h1 : Rs p l sg d w1) => name_any p l sg d w1 h1 hl
 have C0 := Lib.hid (fun w1 (m : Mvd p (PW p q w) w1) => (PW_at (q := q) (w1 := w1) hp (Mv2.of m)).1)
 have OUT := Lib.hid (fun w1 (m : Mvd p (PW p q w) w1) => (PW_at (q := q) (w1 := w1) hp (Mv2.of m)).2.2.1)
 have c0 := C0.out _ (Mvd.refl _ _)
 have HW := Lib.hid hW
 clear h hW b1 b2 b3 hb z h1 h2 h3 h4
 cases hn : nameR l with
 | bad x =>
  rw [hn] at kn
  have kn : ∀ w1, Rs p l sg d w1 → Calls Tryz.prog 140 #[.pointer (some ⟨p, 0, none⟩)] w1 fun e w' => e = errS x ∧ Mvd p w1 w' := kn
  show Calls _ _ _ _ fun e w' => e = errS x ∧ Mvd p w w'
  unfold errS at kn ⊢
  unfold PW at  C0 HW c0 OUT
  go_enter Tryz.func167, Tryz.ntmps167
  go_wp2_with (first
   | (go_at_call 103; first | ((with_reducible refine (k1 _ HW.out).mono ?_); rintro e w1 ⟨rfl, rfl⟩) | ((with_reducible refine (k2 _ HW.out).mono ?_); rintro e w1 ⟨rfl, rfl⟩) | ((with_reducible refine (k3 _ HW.out).mono ?_); rintro e w1 ⟨rfl, rfl⟩) | ((with_reducible refine (k4 _ HW.out).mono ?_); rintro e w1 ⟨rfl, rfl⟩))
   | (go_at_call 140; (with_reducible refine (kn _ HW.out).mono ?_); rintro e w2 ⟨rfl, m2⟩))
  exact ⟨rfl, rfl, OUT.out _ m2⟩
 | ok n r =>
  rw [hn] at kn
  have kn : ∀ w1, Rs p l sg d w1 → Calls Tryz.prog 140 #[.pointer (some ⟨p, 0, none⟩)] w1 fun e w' => e = .returned (.string ⟨n.toArray⟩) ∧ Rs p r sg d w' ∧ Mvd p w1 w' := kn
  have NM := Lib.hid (pw_named (q := q) hp 2 2 rfl n r sg d)
  unfold PW at  C0 HW c0 NM
  go_enter Tryz.func167, Tryz.ntmps167
  go_wp2_with (first
   | (go_at_call 103; first | ((with_reducible refine (k1 _ HW.out).mono ?_); rintro e w1 ⟨rfl, rfl⟩) | ((with_reducible refine (k2 _ HW.out).mono ?_); rintro e w1 ⟨rfl, rfl⟩) | ((with_reducible refine (k3 _ HW.out).mono ?_); rintro e w1 ⟨rfl, rfl⟩) | ((with_reducible refine (k4 _ HW.out).mono ?_); rintro e w1 ⟨rfl, rfl⟩))
   | (go_at_call 140; (with_reducible refine (kn _ HW.out).mono ?_); rintro e w2 ⟨rfl, h2, m2⟩; obtain ⟨e0, e2, g0, g2, FR, f0, f1, f2, f3, f4, F5⟩ := NM.out w2 h2 m2; obtain ⟨r0, r1, r2, r3, r4, x0, x1, x2, x3, x4, y0, y1, y2, y3, y4, y5⟩ := FR; have HY := Lib.hid y5; have HF := Lib.hid F5; clear y5 F5 h2 m2))
  have h5 := set5_heap (v0 := .int .i64 2) (v1 := .bool q) (v2 := .string ⟨n.toArray⟩) (v3 := .string ⟨#[]⟩) (v4 := .slice none 0 0) HY.out
  have c5 := cells_five h5
  refine bodyPost_ret (v := .agg #[.int .i64 2, .bool q, .string ⟨n.toArray⟩, .string ⟨#[]⟩, .slice none 0 0]) (by simp [results, Tryz.results167, go_sem, c5]) rfl ?_
  exact ⟨⟨_, rfl, _, rfl, hL.nil _ _⟩, HF.out.1.same (set5_other (by omega)), HF.out.2.1.own5 (by omega) hp _ _ _ _ _⟩
set_option maxHeartbeats 4000000 in
set_option maxRecDepth 20000 in
theorem part_reck (L : ValP (List Co)) (hL : GoodL L) (p : Nat) (q : Bool) (l l1 : List UInt8) (sg : Value) (d : Nat) (w : World) (h : Rs p l sg d w) (hl : l.length ≤ 1048576) (h1 : takeS [40, 40] l = some l1) :
  Calls Tryz.prog 167 #[.pointer (some ⟨p, 0, none⟩), .bool q] w (AnsE (partE L) p sg d w ((reckS l1).bind fun n r => .ok ⟨8, q, n, [], []⟩ r)) := by
 obtain ⟨z, hb, b1, b2, b3⟩ := PW_facts p q w
 have hp := h.lt
 have hW := h.below hb
 have kt : Calls Tryz.prog 103 #[.pointer (some ⟨p, 0, none⟩), .string ⟨#[40, 40]⟩] (PW p q w) fun e w' => e = .returned (.bool true) ∧ Rs p l1 sg d w' ∧ Mvd p (PW p q w) w' := takeS_yes p [40, 40] l l1 sg d _ hW hl h1
 have hl1 : l1.length ≤ 1048576 := by have := takeS_len h1; omega
 have kn := fun w1 (h1 : Rs p l1 sg d w1) => reckoned_any p l1 sg d w1 h1 hl1
 have C0 := Lib.hid (fun w1 (m : Mvd p (PW p q w) w1) => (PW_at (q := q) (w1 := w1) hp (Mv2.of m)).1)
 have OUT := Lib.hid (fun w1 (m : Mvd p (PW p q w) w1) => (PW_at (q := q) (w1 := w1) hp (Mv2.of m)).2.2.1)
 have c0 := C0.out _ (Mvd.refl _ _)
 have HW := Lib.hid hW
 clear h hW b1 b2 b3 hb z h1
 cases hn : reckS l1 with
 | bad x =>
  rw [hn] at kn
  have kn : ∀ w1, Rs p l1 sg d w1 → Calls Tryz.prog 176 #[.pointer (some ⟨p, 0, none⟩)] w1 fun e w' => e = errS x ∧ Mvd p w1 w' := kn
  show Calls _ _ _ _ fun e w' => e = errS x ∧ Mvd p w w'
  unfold errS at kn ⊢
  unfold PW at kt C0 HW c0 OUT
  go_enter Tryz.func167, Tryz.ntmps167
  go_wp2_with (first
   | (go_at_call 103; (with_reducible refine kt.mono ?_); rintro e w1 ⟨rfl, h1, m1⟩; have d0 := C0.out _ m1; have H1 := Lib.hid h1; have M1 := Lib.hid m1; clear h1 m1 c0)
   | (go_at_call 176; (with_reducible refine (kn _ H1.out).mono ?_); rintro e w2 ⟨rfl, m2⟩))
  exact ⟨rfl, rfl, OUT.out _ (M1.out.trans m2)⟩
 | ok n r =>
  rw [hn] at kn
  have kn : ∀ w1, Rs p l1 sg d w1 → Calls Tryz.prog 176 #[.pointer (some ⟨p, 0, none⟩)] w1 fun e w' => e = .returned (.string ⟨n.toArray⟩) ∧ Rs p r sg d w' ∧ Mvd p w1 w' := kn
  have NM := Lib.hid (pw_named (q := q) hp 8 8 rfl n r sg d)
  unfold PW at kt C0 HW c0 NM
  go_enter Tryz.func167, Tryz.ntmps167
  go_wp2_with (first
   | (go_at_call 103; (with_reducible refine kt.mono ?_); rintro e w1 ⟨rfl, h1, m1⟩; have d0 := C0.out _ m1; have H1 := Lib.hid h1; have M1 := Lib.hid m1; clear h1 m1 c0)
   | (go_at_call 176; (with_reducible refine (kn _ H1.out).mono ?_); rintro e w2 ⟨rfl, h2, m2⟩; have m2 := M1.out.trans m2; obtain ⟨e0, e2, g0, g2, FR, f0, f1, f2, f3, f4, F5⟩ := NM.out w2 h2 m2; obtain ⟨r0, r1, r2, r3, r4, x0, x1, x2, x3, x4, y0, y1, y2, y3, y4, y5⟩ := FR; have HY := Lib.hid y5; have HF := Lib.hid F5; clear y5 F5 h2 m2))
  have h5 := set5_heap (v0 := .int .i64 8) (v1 := .bool q) (v2 := .string ⟨n.toArray⟩) (v3 := .string ⟨#[]⟩) (v4 := .slice none 0 0) HY.out
  have c5 := cells_five h5
  refine bodyPost_ret (v := .agg #[.int .i64 8, .bool q, .string ⟨n.toArray⟩, .string ⟨#[]⟩, .slice none 0 0]) (by simp [results, Tryz.results167, go_sem, c5]) rfl ?_
  exact ⟨⟨_, rfl, _, rfl, hL.nil _ _⟩, HF.out.1.same (set5_other (by omega)), HF.out.2.1.own5 (by omega) hp _ _ _ _ _⟩
end Go.Proofs.YtelfgobjnibooaaGreatDoor
namespace Go.Proofs.YtelfgobjnibooaaGreatDoor
open Go.RowKit Go.Lib
def PtBV (b : Nat) (x : Pt) (vl : Value) (w : World) : Prop := w.heap[b]? = some (.cells #[.int .i64 (x.k : Int), .bool x.q, .string ⟨x.s.toArray⟩, .string ⟨x.t.toArray⟩, vl] 42 (0, 0))
theorem pw_done {p : Nat} {q : Bool} {w w5 : World} {x : Pt} {vl : Value} (hp : p < w.heap.size) (hm : Mv2 p (w.heap.size + 1 + 1) (PW p q w) w5) (hP : PtBV (w.heap.size + 1 + 1) x vl w5) : Free5 (w.heap.size + 1) w5 ∧ (w5.cell? ⟨w.heap.size + 1 + 1, 0, none⟩ = some (.int .i64 (x.k : Int)) ∧ w5.cell? ⟨w.heap.size + 1 + 1, 1, none⟩ = some (.bool x.q) ∧ w5.cell? ⟨w.heap.size + 1 + 1, 2, none⟩ = some (.string ⟨x.s.toArray⟩) ∧ w5.cell? ⟨w.heap.size + 1 + 1, 3, none⟩ = some (.string ⟨x.t.toArray⟩) ∧ w5.cell? ⟨w.heap.size + 1 + 1, 4, none⟩ = some vl) ∧ Mvd p w w5 ∧ w.heap.size + 3 ≤ w5.heap.size ∧ w5.cell? ⟨w.heap.size, 0, none⟩ = some (.pointer (some ⟨p, 0, none⟩)) := by
 obtain ⟨a1, a2, a3, a4⟩ := PW_at hp hm
 exact ⟨a2, cells_five hP, a3, a4, a1⟩
theorem part_ans {L : ValP (List Co)} {p : Nat} {sg : Value} {d b : Nat} {w w5 : World} {x : Pt} {vl : Value} {r : List UInt8} {a0 a1 a2 a3 a4 : Value} (hp : p < w.heap.size) (hb : w.heap.size ≤ b) (_hb5 : b < w5.heap.size) (hr : Rs p r sg d w5) (hm : Mvd p w w5) (hx : L.q (NewF (b + 1) w5.heap.size) w5 vl x.l) (_hy : w5.heap[b]? = some (.cells #[a0, a1, a2, a3, a4] 42 (0, 0))) (v0 v1 v2 v3 v4 : Value) :
  L.q (NewF w.heap.size (((((w5.setCell ⟨b, 0, none⟩ v0).setCell ⟨b, 1, none⟩ v1).setCell ⟨b, 2, none⟩ v2).setCell ⟨b, 3, none⟩ v3).setCell ⟨b, 4, none⟩ v4).heap.size) (((((w5.setCell ⟨b, 0, none⟩ v0).setCell ⟨b, 1, none⟩ v1).setCell ⟨b, 2, none⟩ v2).setCell ⟨b, 3, none⟩ v3).setCell ⟨b, 4, none⟩ v4) vl x.l ∧ Rs p r sg d (((((w5.setCell ⟨b, 0, none⟩ v0).setCell ⟨b, 1, none⟩ v1).setCell ⟨b, 2, none⟩ v2).setCell ⟨b, 3, none⟩ v3).setCell ⟨b, 4, none⟩ v4) ∧ Mvd p w (((((w5.setCell ⟨b, 0, none⟩ v0).setCell ⟨b, 1, none⟩ v1).setCell ⟨b, 2, none⟩ v2).setCell ⟨b, 3, none⟩ v3).setCell ⟨b, 4, none⟩ v4) := by
 refine ⟨?_, hr.same (set5_other (by omega)), hm.own5 hb hp _ _ _ _ _⟩
 refine L.mono _ _ _ _ _ (fun g hg => ?_) (L.same _ _ _ _ _ (fun g hg => set5_other (by have := hg.1; omega)) hx)
 exact ⟨by have := hg.1; omega, by simpa using hg.2⟩
set_option maxHeartbeats 4000000 in
set_option maxRecDepth 20000 in
theorem part_len_bad (_L : ValP (List Co)) (p : Nat) (q : Bool) (l l1 : List UInt8) (sg : Value) (d : Nat) (x : Int) (w : World) (h : Rs p l sg d w) (hl : l.length ≤ 1048576) (h1 : takeS [40, 40] l = none) (h2 : takeS [40] l = none) (h3 : takeS [123, 35] l = some l1) (hn : nameR l1 = .bad x) :
  Calls Tryz.prog 167 #[.pointer (some ⟨p, 0, none⟩), .bool q] w fun e w' => e = errS x ∧ Mvd p w w' := by
 obtain ⟨z, hb, b1, b2, b3⟩ := PW_facts p q w
 have hp := h.lt
 have hW := h.below hb
 have hl1 : l1.length ≤ 1048576 := by have := takeS_len h3; omega
 have k1 := fun w1 (h : Rs p l sg d w1) => (show Calls Tryz.prog 103 #[.pointer (some ⟨p, 0, none⟩), .string ⟨#[40, 40]⟩] w1 fun e w' => e = .returned (.bool false) ∧ w' = w1 from takeS_no p [40, 40] l sg d w1 h h1)
 have k2 := fun w1 (h : Rs p l sg d w1) => (show Calls Tryz.prog 103 #[.pointer (some ⟨p, 0, none⟩), .string ⟨#[40]⟩] w1 fun e w' => e = .returned (.bool false) ∧ w' = w1 from takeS_no p [40] l sg d w1 h h2)
 have k3 := fun w1 (h : Rs p l sg d w1) => (show Calls Tryz.prog 103 #[.pointer (some ⟨p, 0, none⟩), .string ⟨#[123, 35]⟩] w1 fun e w' => e = .returned (.bool true) ∧ Rs p l1 sg d w' ∧ Mvd p w1 w' from takeS_yes p [123, 35] l l1 sg d w1 h hl h3)
 have kn : ∀ w1, Rs p l1 sg d w1 → Calls Tryz.prog 140 #[.pointer (some ⟨p, 0, none⟩)] w1 fun e w' => e = errS x ∧ Mvd p w1 w' := fun w1 h1 => by
  have := name_any p l1 sg d w1 h1 hl1
  rw [hn] at this; exact this
 have C0 := Lib.hid (fun w1 (m : Mvd p (PW p q w) w1) => (PW_at (q := q) (w1 := w1) hp (Mv2.of m)).1)
 have OUT := Lib.hid (fun w1 (m : Mvd p (PW p q w) w1) => (PW_at (q := q) (w1 := w1) hp (Mv2.of m)).2.2.1)
 have c0 := C0.out _ (Mvd.refl _ _)
 have HW := Lib.hid hW
 clear h hW b1 b2 b3 hb z h1 h2 h3 hn
 unfold errS at kn ⊢
 unfold PW at C0 HW c0 OUT
 go_enter Tryz.func167, Tryz.ntmps167
 go_wp2_with (first
  | (go_at_call 103; first | ((with_reducible refine (k1 _ HW.out).mono ?_); rintro e w1 ⟨rfl, rfl⟩) | ((with_reducible refine (k2 _ HW.out).mono ?_); rintro e w1 ⟨rfl, rfl⟩) | ((with_reducible refine (k3 _ HW.out).mono ?_); rintro e w1 ⟨rfl, h1, m1⟩; have d0 := C0.out _ m1; have H1 := Lib.hid h1; have M1 := Lib.hid m1; clear h1 m1 c0))
  | (go_at_call 140; (with_reducible refine (kn _ H1.out).mono ?_); rintro e w2 ⟨rfl, m2⟩))
 exact ⟨rfl, rfl, OUT.out _ (M1.out.trans m2)⟩
set_option maxHeartbeats 4000000 in
set_option maxRecDepth 20000 in
theorem part_len_go (L : ValP (List Co)) (hL : GoodL L) (p : Nat) (q : Bool) (l l1 n r1 : List UInt8) (sg : Value) (d : Nat) (w : World) (h : Rs p l sg d w) (hl : l.length ≤ 1048576) (h1 : takeS [40, 40] l = none) (h2 : takeS [40] l = none) (h3 : takeS [123, 35] l = some l1) (hn : nameR l1 = .ok n r1) :
  Calls Tryz.prog 167 #[.pointer (some ⟨p, 0, none⟩), .bool q] w (AnsE (partE L) p sg d w ((needS [125] r1).bind fun _ r2 => .ok ⟨4, q, n, [], []⟩ r2)) := by
 obtain ⟨z, hb, b1, b2, b3⟩ := PW_facts p q w
 have hp := h.lt
 have hW := h.below hb
 have hl1 : l1.length ≤ 1048576 := by have := takeS_len h3; omega
 have hr1 : r1.length ≤ 1048576 := by have := nameR_nice l1; rw [hn] at this; exact Nat.le_trans this hl1
 have k1 := fun w1 (h : Rs p l sg d w1) => (show Calls Tryz.prog 103 #[.pointer (some ⟨p, 0, none⟩), .string ⟨#[40, 40]⟩] w1 fun e w' => e = .returned (.bool false) ∧ w' = w1 from takeS_no p [40, 40] l sg d w1 h h1)
 have k2 := fun w1 (h : Rs p l sg d w1) => (show Calls Tryz.prog 103 #[.pointer (some ⟨p, 0, none⟩), .string ⟨#[40]⟩] w1 fun e w' => e = .returned (.bool false) ∧ w' = w1 from takeS_no p [40] l sg d w1 h h2)
 have k3 := fun w1 (h : Rs p l sg d w1) => (show Calls Tryz.prog 103 #[.pointer (some ⟨p, 0, none⟩), .string ⟨#[123, 35]⟩] w1 fun e w' => e = .returned (.bool true) ∧ Rs p l1 sg d w' ∧ Mvd p w1 w' from takeS_yes p [123, 35] l l1 sg d w1 h hl h3)
 have kn : ∀ w1, Rs p l1 sg d w1 → Calls Tryz.prog 140 #[.pointer (some ⟨p, 0, none⟩)] w1 fun e w' => e = .returned (.string ⟨n.toArray⟩) ∧ Rs p r1 sg d w' ∧ Mvd p w1 w' := fun w1 h1 => by
  have := name_any p l1 sg d w1 h1 hl1
  rw [hn] at this; exact this
 have C0 := Lib.hid (fun w1 (m : Mvd p (PW p q w) w1) => (PW_at (q := q) (w1 := w1) hp (Mv2.of m)).1)
 have C4 := Lib.hid (fun w1 (m : Mv2 p (w.heap.size + 1 + 1) (PW p q w) w1) => (PW_at (q := q) (w1 := w1) hp m).1)
 have c0 := C0.out _ (Mvd.refl _ _)
 have HW := Lib.hid hW
 have NM := Lib.hid (pw_named (q := q) hp 4 4 rfl n r1 sg d)
 have kt1 := fun r w7 (h7 : Rs p r1 sg d w7) (e : takeS [125] r1 = some r) => take125_yes p _ r sg d w7 h7 hr1 e
 have kt0 := fun w7 (h7 : Rs p r1 sg d w7) (e : takeS [125] r1 = none) => take125_no p _ sg d w7 h7 e
 have en : needS [125] r1 = match takeS [125] r1 with
  | some r => .ok () r
  | none => .bad 9 := rfl
 rw [en]
 clear h hW b1 b2 b3 hb z h1 h2 h3 hn en
 cases ht : takeS [125] r1 with
 | none =>
  have kt := fun w7 h7 => kt0 w7 h7 ht
  have kd := need_no
  show Calls _ _ _ _ fun e w' => e = errS 9 ∧ Mvd p w w'
  unfold errS at kd ⊢
  unfold PW at C0 HW c0 NM C4
  clear ht kt0 kt1
  go_enter Tryz.func167, Tryz.ntmps167
  go_wp2_with (first
   | (go_at_call 103; first | ((with_reducible refine (k1 _ HW.out).mono ?_); rintro e w1 ⟨rfl, rfl⟩) | ((with_reducible refine (k2 _ HW.out).mono ?_); rintro e w1 ⟨rfl, rfl⟩) | ((with_reducible refine (k3 _ HW.out).mono ?_); rintro e w1 ⟨rfl, h1, m1⟩; have d0 := C0.out _ m1; have H1 := Lib.hid h1; have M1 := Lib.hid m1; clear h1 m1 c0) | ((with_reducible refine (kt _ HR4.out).mono ?_); rintro e w5 ⟨rfl, rfl⟩))
   | (go_at_call 140; (with_reducible refine (kn _ H1.out).mono ?_); rintro e w2 ⟨rfl, h2, m2⟩; obtain ⟨e0, e2, g0, g2, FR, f0, f1, f2, f3, f4, F5⟩ := NM.out w2 h2 (M1.out.trans m2); have HR4 := Lib.hid F5.1; have HM4 := Lib.hid F5.2.1; have d4 := C4.out _ F5.2.2.1; clear FR F5 h2 m2)
   | (go_at_call 30; refine (kd _).mono ?_; rintro e w6 ⟨rfl, rfl⟩))
  exact ⟨rfl, rfl, HM4.out⟩
 | some r =>
  have kt := fun w7 h7 => kt1 r w7 h7 ht
  have DONE : Hid (∀ w4 w5 : World, Mv2 p (w.heap.size + 1 + 1) (PW p q w) w4 → PtB (w.heap.size + 1 + 1) ⟨4, q, n, [], []⟩ w4 → Mvd p w4 w5 → Free5 (w.heap.size + 1) w5 ∧ (w5.cell? ⟨w.heap.size + 1 + 1, 0, none⟩ = some (.int .i64 4) ∧ w5.cell? ⟨w.heap.size + 1 + 1, 1, none⟩ = some (.bool q) ∧ w5.cell? ⟨w.heap.size + 1 + 1, 2, none⟩ = some (.string ⟨n.toArray⟩) ∧ w5.cell? ⟨w.heap.size + 1 + 1, 3, none⟩ = some (.string ⟨#[]⟩) ∧ w5.cell? ⟨w.heap.size + 1 + 1, 4, none⟩ = some (.slice none 0 0)) ∧ Mvd p w w5 ∧ w.heap.size + 3 ≤ w5.heap.size ∧ w5.cell? ⟨w.heap.size, 0, none⟩ = some (.pointer (some ⟨p, 0, none⟩))) := fun w4 w5 h4 hP m5 =>
   pw_done (x := ⟨4, q, n, [], []⟩) hp (h4.trans (Mv2.of m5)) (hP.moved m5 (by omega))
  show Calls _ _ _ _ (AnsE (partE L) p sg d w (.ok ⟨4, q, n, [], []⟩ r))
  unfold PW at C0 HW c0 NM C4 DONE
  clear ht kt0 kt1
  go_enter Tryz.func167, Tryz.ntmps167
  go_wp2_with (first
   | (go_at_call 103; first | ((with_reducible refine (k1 _ HW.out).mono ?_); rintro e w1 ⟨rfl, rfl⟩) | ((with_reducible refine (k2 _ HW.out).mono ?_); rintro e w1 ⟨rfl, rfl⟩) | ((with_reducible refine (k3 _ HW.out).mono ?_); rintro e w1 ⟨rfl, h1, m1⟩; have d0 := C0.out _ m1; have H1 := Lib.hid h1; have M1 := Lib.hid m1; clear h1 m1 c0) | ((with_reducible refine (kt _ HR4.out).mono ?_); rintro e w5 ⟨rfl, h5, m5⟩; obtain ⟨FR, ⟨u0, u1, u2, u3, u4⟩, D1, D2, D3⟩ := DONE.out _ _ HM4.out.1 HM4.out.2 m5; obtain ⟨r0, r1', r2, r3, r4, x0, x1, x2, x3, x4, y0, y1, y2, y3, y4, y5⟩ := FR; have HY := Lib.hid y5; have HF := Lib.hid (And.intro h5 (And.intro D1 D2)); clear y5 D1 D2 h5 m5))
   | (go_at_call 140; (with_reducible refine (kn _ H1.out).mono ?_); rintro e w2 ⟨rfl, h2, m2⟩; obtain ⟨e0, e2, g0, g2, FR, f0, f1, f2, f3, f4, F5⟩ := NM.out w2 h2 (M1.out.trans m2); have HR4 := Lib.hid F5.1; have HM4 := Lib.hid F5.2.2; have d4 := C4.out _ F5.2.2.1; clear FR F5 h2 m2)
   | (go_at_call 30; refine (need_yes _).mono ?_; rintro e w6 ⟨rfl, rfl⟩))
  have h5 := set5_heap (v0 := .int .i64 4) (v1 := .bool q) (v2 := .string ⟨n.toArray⟩) (v3 := .string ⟨#[]⟩) (v4 := .slice none 0 0) HY.out
  have c5 := cells_five h5
  refine bodyPost_ret (v := .agg #[.int .i64 4, .bool q, .string ⟨n.toArray⟩, .string ⟨#[]⟩, .slice none 0 0]) (by simp [results, Tryz.results167, go_sem, c5]) rfl ?_
  exact ⟨⟨_, rfl, _, rfl, hL.nil _ _⟩, HF.out.1.same (set5_other (by omega)), HF.out.2.1.own5 (by omega) hp _ _ _ _ _⟩
end Go.Proofs.YtelfgobjnibooaaGreatDoor
