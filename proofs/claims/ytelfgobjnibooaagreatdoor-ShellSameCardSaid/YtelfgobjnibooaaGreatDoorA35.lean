/- Packed texts: RfCmd, RfCommand. What each of them proves stands above its theorems; the conditions stand in these. -/
import Derived.Test.YtelfgobjnibooaaGreatDoorA34
namespace Go.Proofs.YtelfgobjnibooaaGreatDoor
open Go.RowKit Go.Lib
def WordsP (n0 p : Nat) (S : ByteArray) (d k : Nat) : Prop := ∀ (t : Sx) (w9 : World), TS p S d t w9 → Calls Tryz.prog 116 #[.pointer (some ⟨p, 0, none⟩)] w9 fun e w' => AnsWs n0 (t.run (wordsS (rlvl k))) w9 e w' ∧ TS p S d (t.run (wordsS (rlvl k))).sx w' ∧ Mvr p w9 w'
structure CB (n0 p : Nat) (S : ByteArray) (d : Nat) (w : World) (b c : Nat) (k : Nat) (ns : List (List UInt8)) (ws : List (List Pt)) (cA cB cC : List Co) (vn vw va vb vc : Value) (t : Sx) (wr : World) : Prop where
 ts : TS p S d t wr
 mv : Mvr p w wr
 res : wr.heap[b]? = some (.cells #[.int .i64 0, .slice none 0 0, .slice none 0 0, .slice none 0 0, .slice none 0 0, .slice none 0 0, .slice none 0 0] 37 (0, 0))
 blk : wr.heap[c]? = some (.cells #[.int .i64 (k : Int), vn, .slice none 0 0, vw, va, vb, vc] 37 (0, 0))
 hn : StrV.q (NewF (c + 1) wr.heap.size) wr vn ns
 hw : (WdsV (cosV n0)).q (NewF (c + 1) wr.heap.size) wr vw ws
 ha : (cosV n0).q (NewF (c + 1) wr.heap.size) wr va cA
 hb : (cosV n0).q (NewF (c + 1) wr.heap.size) wr vb cB
 hc : (cosV n0).q (NewF (c + 1) wr.heap.size) wr vc cC
section
variable {n0 p : Nat} {S : ByteArray} {d : Nat} {w wr w9 : World} {b c k : Nat} {ns : List (List UInt8)} {ws : List (List Pt)} {cA cB cC : List Co} {vn vw va vb vc : Value} {t t' : Sx}
theorem CB.go (h : CB n0 p S d w b c k ns ws cA cB cC vn vw va vb vc t wr) (hp : p < w.heap.size) (hwb : w.heap.size ≤ b) (hbc : b < c) (m : Mvr p wr w9) (h9 : TS p S d t' w9) : CB n0 p S d w b c k ns ws cA cB cC vn vw va vb vc t' w9 := by
 have keep : ∀ g, NewF (c + 1) wr.heap.size g → w9.heap[g]? = wr.heap[g]? := fun g hg => m.high g (by have := hg.1; omega) hg.2
 have up : ∀ g, NewF (c + 1) wr.heap.size g → NewF (c + 1) w9.heap.size g := fun g hg => ⟨hg.1, Nat.lt_of_lt_of_le hg.2 m.size⟩
 exact ⟨h9, h.mv.trans m, (m.high b (by omega) (heap_ltR h.res)).trans h.res, (m.high c (by omega) (heap_ltR h.blk)).trans h.blk, StrV.mono _ _ _ _ _ up (StrV.same _ _ _ _ _ keep h.hn), (WdsV (cosV n0)).mono _ _ _ _ _ up ((WdsV (cosV n0)).same _ _ _ _ _ keep h.hw), (cosV n0).mono _ _ _ _ _ up ((cosV n0).same _ _ _ _ _ keep h.ha), (cosV n0).mono _ _ _ _ _ up ((cosV n0).same _ _ _ _ _ keep h.hb), (cosV n0).mono _ _ _ _ _ up ((cosV n0).same _ _ _ _ _ keep h.hc)⟩
theorem CB.put (h : CB n0 p S d w b c k ns ws cA cB cC vn vw va vb vc t wr) (hp : p < w.heap.size) (hwb : w.heap.size ≤ b) (hbc : b < c) (i : Nat) (u : Value) : TS p S d t (wr.setCell ⟨c, i, none⟩ u) ∧ Mvr p w (wr.setCell ⟨c, i, none⟩ u) ∧ (wr.setCell ⟨c, i, none⟩ u).heap[b]? = some (.cells #[.int .i64 0, .slice none 0 0, .slice none 0 0, .slice none 0 0, .slice none 0 0, .slice none 0 0, .slice none 0 0] 37 (0, 0)) ∧
  StrV.q (NewF (c + 1) (wr.setCell ⟨c, i, none⟩ u).heap.size) (wr.setCell ⟨c, i, none⟩ u) vn ns ∧ (WdsV (cosV n0)).q (NewF (c + 1) (wr.setCell ⟨c, i, none⟩ u).heap.size) (wr.setCell ⟨c, i, none⟩ u) vw ws ∧ (cosV n0).q (NewF (c + 1) (wr.setCell ⟨c, i, none⟩ u).heap.size) (wr.setCell ⟨c, i, none⟩ u) va cA ∧ (cosV n0).q (NewF (c + 1) (wr.setCell ⟨c, i, none⟩ u).heap.size) (wr.setCell ⟨c, i, none⟩ u) vb cB ∧ (cosV n0).q (NewF (c + 1) (wr.setCell ⟨c, i, none⟩ u).heap.size) (wr.setCell ⟨c, i, none⟩ u) vc cC := by
 have keep : ∀ g, NewF (c + 1) wr.heap.size g → (wr.setCell ⟨c, i, none⟩ u).heap[g]? = wr.heap[g]? := fun g hg => set_other (by have := hg.1; omega)
 have up : ∀ g, NewF (c + 1) wr.heap.size g → NewF (c + 1) (wr.setCell ⟨c, i, none⟩ u).heap.size g := fun g hg => ⟨hg.1, by simpa using hg.2⟩
 exact ⟨h.ts.same (set_other (by omega)), h.mv.own (by omega) hp i u, (set_other (by omega)).trans h.res, StrV.mono _ _ _ _ _ up (StrV.same _ _ _ _ _ keep h.hn), (WdsV (cosV n0)).mono _ _ _ _ _ up ((WdsV (cosV n0)).same _ _ _ _ _ keep h.hw), (cosV n0).mono _ _ _ _ _ up ((cosV n0).same _ _ _ _ _ keep h.ha), (cosV n0).mono _ _ _ _ _ up ((cosV n0).same _ _ _ _ _ keep h.hb), (cosV n0).mono _ _ _ _ _ up ((cosV n0).same _ _ _ _ _ keep h.hc)⟩
theorem newf_set {w : World} {c i lo : Nat} {u : Value} (hlo : c < lo) {L : ValP (List Co)} {v : Value} {l : List Co} (hi : Nat) (hhi : hi ≤ w.heap.size) (h : L.q (NewF lo hi) w v l) : L.q (NewF (c + 1) (w.setCell ⟨c, i, none⟩ u).heap.size) (w.setCell ⟨c, i, none⟩ u) v l :=
 L.mono _ _ _ _ _ (fun g hg => ⟨by have := hg.1; omega, by have := hg.2; simp; omega⟩) (L.same _ _ _ _ _ (fun g hg => set_other (by have := hg.1; omega)) h)
theorem CB.setA (h : CB n0 p S d w b c k ns ws cA cB cC vn vw va vb vc t wr) (hp : p < w.heap.size) (hwb : w.heap.size ≤ b) (hbc : b < c) (m : Mvr p wr w9) (h9 : TS p S d t' w9) (u : Value) (l : List Co) (hq : (cosV n0).q (NewF wr.heap.size w9.heap.size) w9 u l) :
  (w9.cell? ⟨c, 4, none⟩ = some va ∧ w9.frozen? ⟨c, 4, none⟩ = false) ∧ CB n0 p S d w b c k ns ws l cB cC vn vw u vb vc t' (w9.setCell ⟨c, 4, none⟩ u) := by
 have h1 := h.go hp hwb hbc m h9
 obtain ⟨p1, p2, p3, p4, p5, p6, p7, p8⟩ := h1.put hp hwb hbc 4 u
 have hset := heap_setCell_same w9 c 4 _ _ u h1.blk
 have hc := cells7r h1.blk
 exact ⟨⟨hc.1.2.2.2.2.1, hc.2.2.2.2.2.1⟩, p1, p2, p3, by simpa using hset, p4, p5, newf_set (heap_ltR h.blk) _ (Nat.le_refl _) hq, p7, p8⟩
theorem CB.setB (h : CB n0 p S d w b c k ns ws cA cB cC vn vw va vb vc t wr) (hp : p < w.heap.size) (hwb : w.heap.size ≤ b) (hbc : b < c) (m : Mvr p wr w9) (h9 : TS p S d t' w9) (u : Value) (l : List Co) (hq : (cosV n0).q (NewF wr.heap.size w9.heap.size) w9 u l) :
  (w9.cell? ⟨c, 5, none⟩ = some vb ∧ w9.frozen? ⟨c, 5, none⟩ = false) ∧ CB n0 p S d w b c k ns ws cA l cC vn vw va u vc t' (w9.setCell ⟨c, 5, none⟩ u) := by
 have h1 := h.go hp hwb hbc m h9
 obtain ⟨p1, p2, p3, p4, p5, p6, p7, p8⟩ := h1.put hp hwb hbc 5 u
 have hset := heap_setCell_same w9 c 5 _ _ u h1.blk
 have hc := cells7r h1.blk
 exact ⟨⟨hc.1.2.2.2.2.2.1, hc.2.2.2.2.2.2.1⟩, p1, p2, p3, by simpa using hset, p4, p5, p6, newf_set (heap_ltR h.blk) _ (Nat.le_refl _) hq, p8⟩
theorem CB.setC (h : CB n0 p S d w b c k ns ws cA cB cC vn vw va vb vc t wr) (hp : p < w.heap.size) (hwb : w.heap.size ≤ b) (hbc : b < c) (m : Mvr p wr w9) (h9 : TS p S d t' w9) (u : Value) (l : List Co) (hq : (cosV n0).q (NewF wr.heap.size w9.heap.size) w9 u l) :
  (w9.cell? ⟨c, 6, none⟩ = some vc ∧ w9.frozen? ⟨c, 6, none⟩ = false) ∧ CB n0 p S d w b c k ns ws cA cB l vn vw va vb u t' (w9.setCell ⟨c, 6, none⟩ u) := by
 have h1 := h.go hp hwb hbc m h9
 obtain ⟨p1, p2, p3, p4, p5, p6, p7, p8⟩ := h1.put hp hwb hbc 6 u
 have hset := heap_setCell_same w9 c 6 _ _ u h1.blk
 have hc := cells7r h1.blk
 exact ⟨⟨hc.1.2.2.2.2.2.2, hc.2.2.2.2.2.2.2⟩, p1, p2, p3, by simpa using hset, p4, p5, p6, p7, newf_set (heap_ltR h.blk) _ (Nat.le_refl _) hq⟩
theorem CB.setW (h : CB n0 p S d w b c k ns ws cA cB cC vn vw va vb vc t wr) (hp : p < w.heap.size) (hwb : w.heap.size ≤ b) (hbc : b < c) (m : Mvr p wr w9) (h9 : TS p S d t' w9) (u : Value) (l : List (List Pt)) (hq : (WdsV (cosV n0)).q (NewF wr.heap.size w9.heap.size) w9 u l) :
  (w9.cell? ⟨c, 3, none⟩ = some vw ∧ w9.frozen? ⟨c, 3, none⟩ = false) ∧ CB n0 p S d w b c k ns l cA cB cC vn u va vb vc t' (w9.setCell ⟨c, 3, none⟩ u) := by
 have h1 := h.go hp hwb hbc m h9
 obtain ⟨p1, p2, p3, p4, p5, p6, p7, p8⟩ := h1.put hp hwb hbc 3 u
 have hset := heap_setCell_same w9 c 3 _ _ u h1.blk
 have hc := cells7r h1.blk
 have hcl := heap_ltR h.blk
 exact ⟨⟨hc.1.2.2.2.1, hc.2.2.2.2.1⟩, p1, p2, p3, by simpa using hset, p4, (WdsV (cosV n0)).mono _ _ _ _ _ (fun g hg => ⟨by have := hg.1; omega, by have := hg.2; simp; omega⟩) ((WdsV (cosV n0)).same _ _ _ _ _ (fun g hg => set_other (by have := hg.1; omega)) hq), p6, p7, p8⟩
theorem CB.setN (h : CB n0 p S d w b c k ns ws cA cB cC vn vw va vb vc t wr) (hp : p < w.heap.size) (hwb : w.heap.size ≤ b) (hbc : b < c) (m : Mvr p wr w9) (h9 : TS p S d t' w9) (n : List UInt8) :
  ((w9.alloc (.cells #[.string ⟨n.toArray⟩] 9)).cell? ⟨c, 1, none⟩ = some vn ∧ (w9.alloc (.cells #[.string ⟨n.toArray⟩] 9)).frozen? ⟨c, 1, none⟩ = false) ∧ CB n0 p S d w b c k [n] ws cA cB cC (.slice (some ⟨w9.heap.size, 0, none⟩) 1 1) vw va vb vc t' ((w9.alloc (.cells #[.string ⟨n.toArray⟩] 9)).setCell ⟨c, 1, none⟩ (.slice (some ⟨w9.heap.size, 0, none⟩) 1 1)) := by
 have hp9 : p < w9.heap.size := h9.lt
 have hbA : Below w9.heap.size w9 (w9.alloc (.cells #[.string ⟨n.toArray⟩] 9)) := (Below.refl _ w9).alloc (Nat.le_refl _) _
 have h1 := (h.go hp hwb hbc m h9).go hp hwb hbc (Mvr.of hbA hp9) (h9.below hbA)
 obtain ⟨p1, p2, p3, p4, p5, p6, p7, p8⟩ := h1.put hp hwb hbc 1 (.slice (some ⟨w9.heap.size, 0, none⟩) 1 1)
 have hset := heap_setCell_same _ c 1 _ _ (.slice (some ⟨w9.heap.size, 0, none⟩) 1 1) h1.blk
 have hc := cells7r h1.blk
 have hcl : c < w9.heap.size := Nat.lt_of_lt_of_le (heap_ltR h.blk) m.size
 have hrow : StrV.q (NewF w9.heap.size (w9.heap.size + 1)) (w9.alloc (.cells #[.string ⟨n.toArray⟩] 9)) (.slice (some ⟨w9.heap.size, 0, none⟩) 1 1) [n] := row_one (E := strE) (x := n) (cs := [.string ⟨n.toArray⟩]) rfl ⟨Nat.le_refl _, Nat.lt_succ_self _⟩
 exact ⟨⟨hc.1.2.1, hc.2.2.1⟩, p1, p2, p3, by simpa using hset, StrV.mono _ _ _ _ _ (fun g hg => ⟨by have := hg.1; omega, by have := hg.2; simp; omega⟩) (StrV.same _ _ _ _ _ (fun g hg => set_other (by have := hg.1; omega)) hrow), p5, p6, p7, p8⟩
theorem CB.start {W : World} (_hp : p < w.heap.size) (_hwb : w.heap.size ≤ b) (mv : Mvr p w W) (ht : TS p S d t W) (res : W.heap[b]? = some (.cells #[.int .i64 0, .slice none 0 0, .slice none 0 0, .slice none 0 0, .slice none 0 0, .slice none 0 0, .slice none 0 0] 37 (0, 0))) (k : Nat) :
  b < W.heap.size ∧
  CB n0 p S d w b W.heap.size k [] [] [] [] [] (.slice none 0 0) (.slice none 0 0) (.slice none 0 0) (.slice none 0 0) (.slice none 0 0) t (W.alloc (.cells #[.int .i64 (k : Int), .slice none 0 0, .slice none 0 0, .slice none 0 0, .slice none 0 0, .slice none 0 0, .slice none 0 0] 37)) := by
 have hbA : Below W.heap.size W (W.alloc (.cells #[.int .i64 (k : Int), .slice none 0 0, .slice none 0 0, .slice none 0 0, .slice none 0 0, .slice none 0 0, .slice none 0 0] 37)) := (Below.refl _ W).alloc (Nat.le_refl _) _
 have hbl := heap_ltR res
 have hpW : p < W.heap.size := ht.lt
 exact ⟨hbl, ht.below hbA, mv.trans (Mvr.of hbA hpW), (hbA.block b hbl).trans res, heap_alloc_new W _, RowM.nil _ _ _ _, RowM.nil _ _ _ _, cos_nil _ _ _, cos_nil _ _ _, cos_nil _ _ _⟩
theorem CB.finish {D : Rr Co} (h : CB n0 p S (d + 1) w b c k ns ws cA cB cC vn vw va vb vc t wr) (hp : p < w.heap.size) (hwb : w.heap.size ≤ b) (hbc : b < c) (hD : D.sx = t ∧ ∀ y r, D = .ok y r → (Co.mk k ns [] ws cA cB cC) = y) :
  (wr.cell? ⟨p, 2, none⟩ = some (.int .i64 ((d : Int) + 1)) ∧ wr.frozen? ⟨p, 2, none⟩ = false) ∧
  ((wr.setCell ⟨p, 2, none⟩ (.int .i64 (d : Int))).cell? ⟨c, 0, none⟩ = some (.int .i64 (k : Int)) ∧ (wr.setCell ⟨p, 2, none⟩ (.int .i64 (d : Int))).cell? ⟨c, 1, none⟩ = some vn ∧ (wr.setCell ⟨p, 2, none⟩ (.int .i64 (d : Int))).cell? ⟨c, 2, none⟩ = some (.slice none 0 0) ∧ (wr.setCell ⟨p, 2, none⟩ (.int .i64 (d : Int))).cell? ⟨c, 3, none⟩ = some vw ∧ (wr.setCell ⟨p, 2, none⟩ (.int .i64 (d : Int))).cell? ⟨c, 4, none⟩ = some va ∧ (wr.setCell ⟨p, 2, none⟩ (.int .i64 (d : Int))).cell? ⟨c, 5, none⟩ = some vb ∧ (wr.setCell ⟨p, 2, none⟩ (.int .i64 (d : Int))).cell? ⟨c, 6, none⟩ = some vc) ∧
  (wr.setCell ⟨p, 2, none⟩ (.int .i64 (d : Int))).heap[b]? = some (.cells #[.int .i64 0, .slice none 0 0, .slice none 0 0, .slice none 0 0, .slice none 0 0, .slice none 0 0, .slice none 0 0] 37 (0, 0)) ∧
  (S7r (wr.setCell ⟨p, 2, none⟩ (.int .i64 (d : Int))) b (.int .i64 (k : Int)) vn (.slice none 0 0) vw va vb vc).heap[b]? = some (.cells #[.int .i64 (k : Int), vn, .slice none 0 0, vw, va, vb, vc] 37 (0, 0)) ∧ AnsC n0 D w (.returned (.agg #[.int .i64 (k : Int), vn, .slice none 0 0, vw, va, vb, vc])) (S7r (wr.setCell ⟨p, 2, none⟩ (.int .i64 (d : Int))) b (.int .i64 (k : Int)) vn (.slice none 0 0) vw va vb vc) ∧ TS p S d D.sx (S7r (wr.setCell ⟨p, 2, none⟩ (.int .i64 (d : Int))) b (.int .i64 (k : Int)) vn (.slice none 0 0) vw va vb vc) ∧ Mvr p w (S7r (wr.setCell ⟨p, 2, none⟩ (.int .i64 (d : Int))) b (.int .i64 (k : Int)) vn (.slice none 0 0) vw va vb vc) := by
 obtain ⟨g1, g2, g3⟩ := h.ts.deeper
 rw [show ((d + 1 : Nat) : Int) = (d : Int) + 1 by omega] at g1
 obtain ⟨t1, m1⟩ := g3 d
 have hcb := (m1.high c (by omega) (heap_ltR h.blk)).trans h.blk
 have hbb := (m1.high b (by omega) (heap_ltR h.res)).trans h.res
 have keep : ∀ g, NewF (c + 1) wr.heap.size g → (wr.setCell ⟨p, 2, none⟩ (.int .i64 (d : Int))).heap[g]? = wr.heap[g]? := fun g hg => m1.high g (by have := hg.1; omega) hg.2
 have up : ∀ g, NewF (c + 1) wr.heap.size g → NewF (b + 1) (wr.setCell ⟨p, 2, none⟩ (.int .i64 (d : Int))).heap.size g := fun g hg => ⟨by have := hg.1; omega, Nat.lt_of_lt_of_le hg.2 m1.size⟩
 refine ⟨⟨g1, g2⟩, (cells7r hcb).1, hbb, ?_⟩
 rw [← hD.1] at t1
 refine com_answer (x := .mk k ns [] ws cA cB cC) (_o := #[]) hp hwb t1 (h.mv.trans m1) ?_ hD.2 ⟨_, _, _, _, _, _, _, hbb⟩
 exact ⟨_, _, _, _, _, _, rfl, StrV.mono _ _ _ _ _ up (StrV.same _ _ _ _ _ keep h.hn), RowM.nil _ _ _ _, (WdsV (cosV n0)).mono _ _ _ _ _ up ((WdsV (cosV n0)).same _ _ _ _ _ keep h.hw), (cosV n0).mono _ _ _ _ _ up ((cosV n0).same _ _ _ _ _ keep h.ha), (cosV n0).mono _ _ _ _ _ up ((cosV n0).same _ _ _ _ _ keep h.hb), (cosV n0).mono _ _ _ _ _ up ((cosV n0).same _ _ _ _ _ keep h.hc)⟩
end
end Go.Proofs.YtelfgobjnibooaaGreatDoor
namespace Go.Proofs.YtelfgobjnibooaaGreatDoor
open Go.RowKit Go.Lib
theorem com_start (p : Nat) (S : ByteArray) (d : Nat) (s : Sx) (w : World) (h : TS p S d s w) :
  ∃ W1, W1 = w.alloc (.cells #[.int .i64 0, .slice none 0 0, .slice none 0 0, .slice none 0 0, .slice none 0 0, .slice none 0 0, .slice none 0 0] 37) ∧ TS p S d s W1 ∧ Mvr p w W1 ∧ p < W1.heap.size ∧ w.heap.size < W1.heap.size ∧ ∀ w4, Mvr p W1 w4 → w4.heap[w.heap.size]? = some (.cells #[.int .i64 0, .slice none 0 0, .slice none 0 0, .slice none 0 0, .slice none 0 0, .slice none 0 0, .slice none 0 0] 37 (0, 0)) := by
 have hb1 : Below w.heap.size w (w.alloc (.cells #[.int .i64 0, .slice none 0 0, .slice none 0 0, .slice none 0 0, .slice none 0 0, .slice none 0 0, .slice none 0 0] 37)) := (Below.refl _ w).alloc (Nat.le_refl _) _
 have hp := h.lt
 refine ⟨_, rfl, h.below hb1, Mvr.of hb1 hp, by simp; omega, by simp, fun w4 m => ?_⟩
 rw [m.high _ (by omega) (by simp)]
 exact heap_alloc_new w _
theorem none_answer {n0 p : Nat} {S : ByteArray} {d : Nat} {e : Int} {w w5 : World} (hp : p < w.heap.size) (hr : TS p S d (.bad e) w5) (hm : Mvr p w w5) (hy : w5.heap[w.heap.size]? = some (.cells #[.int .i64 0, .slice none 0 0, .slice none 0 0, .slice none 0 0, .slice none 0 0, .slice none 0 0, .slice none 0 0] 37 (0, 0))) :
  (S7r w5 w.heap.size (.int .i64 0) (.slice none 0 0) (.slice none 0 0) (.slice none 0 0) (.slice none 0 0) (.slice none 0 0) (.slice none 0 0)).heap[w.heap.size]? = some (.cells #[.int .i64 0, .slice none 0 0, .slice none 0 0, .slice none 0 0, .slice none 0 0, .slice none 0 0, .slice none 0 0] 37 (0, 0)) ∧ AnsC n0 (.bad e) w (.returned (.agg #[.int .i64 0, .slice none 0 0, .slice none 0 0, .slice none 0 0, .slice none 0 0, .slice none 0 0, .slice none 0 0])) (S7r w5 w.heap.size (.int .i64 0) (.slice none 0 0) (.slice none 0 0) (.slice none 0 0) (.slice none 0 0) (.slice none 0 0) (.slice none 0 0)) ∧ TS p S d (Rr.bad e : Rr Co).sx (S7r w5 w.heap.size (.int .i64 0) (.slice none 0 0) (.slice none 0 0) (.slice none 0 0) (.slice none 0 0) (.slice none 0 0) (.slice none 0 0)) ∧ Mvr p w (S7r w5 w.heap.size (.int .i64 0) (.slice none 0 0) (.slice none 0 0) (.slice none 0 0) (.slice none 0 0) (.slice none 0 0) (.slice none 0 0)) :=
 com_answer (x := .mk 0 [] [] [] [] [] []) (_o := #[]) hp (Nat.le_refl _) hr hm ⟨_, _, _, _, _, _, rfl, RowM.nil _ _ _ _, RowM.nil _ _ _ _, RowM.nil _ _ _ _, cos_nil _ _ _, cos_nil _ _ _, cos_nil _ _ _⟩ (fun y r h => by cases h) ⟨_, _, _, _, _, _, _, hy⟩
set_option maxHeartbeats 8000000 in
set_option maxRecDepth 20000 in
theorem command_simple (n0 k p : Nat) (S : ByteArray) (d : Nat) (s : Sx) (w : World) (h : TS p S d s w) (hS : S.size ≤ 1048576) (hgap : s.map gapS = s) (hD : DeepP n0 p S d k) (hk : keyX s = []) :
  Calls Tryz.prog 82 #[.pointer (some ⟨p, 0, none⟩)] w fun e w' => AnsC n0 (s.run (simpleS (rlvl k))) w e w' ∧ TS p S d (s.run (simpleS (rlvl k))).sx w' ∧ Mvr p w w' := by
 have hp := h.lt
 obtain ⟨W1, hW1, t1, m1, hp1, hz1, hres⟩ := com_start p S d s w h
 have kh := white_any p S d s W1 t1 hS
 rw [hgap] at kh
 have KK := Lib.hid (fun (w9 : World) (h9 : TS p S d s w9) => (by
  have := key_any p S d s w9 h9 hS
  rw [hk] at this
  exact this : Calls Tryz.prog 34 #[.pointer (some ⟨p, 0, none⟩)] w9 fun x w' => x = .returned (.string ⟨#[]⟩) ∧ Below w9.heap.size w9 w'))
 have KS := Lib.hid (fun (w8 w9 : World) (h8 : TS p S d s w8) (hb : Below w8.heap.size w8 w9) => simpleF_any n0 k p S d s w9 (h8.below hb) hS hD)
 obtain ⟨D, hDD⟩ : ∃ D, s.run (simpleS (rlvl k)) = D := ⟨_, rfl⟩
 rw [hDD] at KS ⊢
 have FIN := Lib.hid (fun (w3 w4 : World) (m3 : Mvr p W1 w3) (x : Co) (vn vv vw va vb vc : Value) (hq : (cmdE (cosV n0)).q (NewF w3.heap.size w4.heap.size) w4 x [.int .i64 (x.k : Int), vn, vv, vw, va, vb, vc]) (hx : ∀ y r, D = .ok y r → x = y) (h4 : TS p S d D.sx w4) (m4 : Mvr p w3 w4) => (by
  have e3 := m3.size
  have hr := hres w4 (m3.trans m4)
  exact ⟨cells7r hr, com_answer (_o := #[]) hp (Nat.le_refl _) h4 ((m1.trans m3).trans m4) ((cmdE (cosV n0)).mono _ _ _ _ _ (fun g hg => ⟨by have := hg.1; omega, hg.2⟩) hq) hx ⟨_, _, _, _, _, _, _, hr⟩⟩ :
  _ ∧ (S7r w4 w.heap.size (.int .i64 (x.k : Int)) vn vv vw va vb vc).heap[w.heap.size]? = some (.cells #[.int .i64 (x.k : Int), vn, vv, vw, va, vb, vc] 37 (0, 0)) ∧ AnsC n0 D w (.returned (.agg #[.int .i64 (x.k : Int), vn, vv, vw, va, vb, vc])) (S7r w4 w.heap.size (.int .i64 (x.k : Int)) vn vv vw va vb vc) ∧ TS p S d D.sx (S7r w4 w.heap.size (.int .i64 (x.k : Int)) vn vv vw va vb vc) ∧ Mvr p w (S7r w4 w.heap.size (.int .i64 (x.k : Int)) vn vv vw va vb vc)))
 have MK := Lib.hid (fun (w8 w9 : World) (h8 : TS p S d s w8) (hb : Below w8.heap.size w8 w9) => Mvr.of hb h8.lt)
 rw [hW1] at kh FIN
 clear h hgap hD hk t1 m1 hres hDD hp1 hz1 hW1
 go_enter Tryz.func82, Tryz.ntmps82
 go_wp2_with (first
  | (go_at_call 50; (with_reducible refine kh.mono ?_); rintro e w2 ⟨rfl, h2, m2⟩; have kk := KK.out w2 h2; have H2 := Lib.hid (And.intro h2 m2); clear h2 m2 kh)
  | (go_at_call 34; (with_reducible refine kk.mono ?_); rintro e w3 ⟨rfl, b3⟩; have ks := KS.out w2 w3 H2.out.1 b3; have M3 := Lib.hid (H2.out.2.trans (MK.out w2 w3 H2.out.1 b3)); clear b3 kk)
  | (go_at_call 112; (with_reducible refine ks.mono ?_); rintro e w4 ⟨⟨x, vn, vv, vw, va, vb, vc, rfl, hq, hx⟩, h4, m4⟩; obtain ⟨⟨a1, n1, c1, rfl⟩, ⟨a2, n2, c2, rfl⟩, ⟨a3, n3, c3, rfl⟩, ⟨a4, n4, c4, rfl⟩, ⟨a5, n5, c5, rfl⟩, ⟨a6, n6, c6, rfl⟩⟩ := cmd_shapes hq; obtain ⟨⟨⟨r0, r1, r2, r3, r4, r5, r6⟩, f0, f1, f2, f3, f4, f5, f6⟩, ff⟩ := FIN.out w3 w4 M3.out x _ _ _ _ _ _ hq hx h4 m4; have FF := Lib.hid ff; clear hq hx h4 m4 ff ks))
 exact bodyPost_ret (v := .agg _) (results_cell_row (p := 2) (ty := 37) Tryz.results82 _ _ w.heap.size 37 _ (0, 0) _ rfl FF.out.1 Tryz.underlying37 rfl Tryz.infoCmdSq) rfl FF.out.2
set_option maxHeartbeats 8000000 in
set_option maxRecDepth 20000 in
theorem command_bad (n0 p : Nat) (S : ByteArray) (d : Nat) (l : List UInt8) (w : World) (h : TS p S d (.at l) w) (hS : S.size ≤ 1048576) (hgap : gapS l = l) (hk : keyX (.at l) = [116, 104, 101, 110] ∨ keyX (.at l) = [101, 108, 115, 101] ∨ keyX (.at l) = [102, 105] ∨ keyX (.at l) = [100, 111] ∨ keyX (.at l) = [100, 111, 110, 101] ∨ keyX (.at l) = [105, 110]) :
  Calls Tryz.prog 82 #[.pointer (some ⟨p, 0, none⟩)] w fun e w' => AnsC n0 (.bad 9) w e w' ∧ TS p S d (.bad 9) w' ∧ Mvr p w w' := by
 have hp := h.lt
 obtain ⟨W1, hW1, t1, m1, hp1, hz1, hres⟩ := com_start p S d _ w h
 have kh := white_any p S d _ W1 t1 hS
 rw [show (Sx.at l).map gapS = .at l from congrArg Sx.at hgap] at kh
 have KK := Lib.hid (fun (w9 : World) (h9 : TS p S d (.at l) w9) => key_any p S d (.at l) w9 h9 hS)
 obtain ⟨K, hK⟩ : ∃ K, keyX (.at l) = K := ⟨_, rfl⟩
 rw [hK] at KK hk
 have KF := Lib.hid (fun (w8 w9 : World) (h8 : TS p S d (.at l) w8) (hb : Below w8.heap.size w8 w9) => (show Calls Tryz.prog 16 #[.pointer (some ⟨p, 0, none⟩), .int .i64 9] w9 fun x w' => x = .returned (.tuple #[]) ∧ TS p S d (.bad 9) w' ∧ Mvr p w9 w' from fail_any p S d (.at l) 9 (by decide) w9 (h8.below hb)))
 have FIN := Lib.hid (fun (w4 : World) (m3 : Mvr p W1 w4) (h4 : TS p S d (.bad 9) w4) => (⟨cells7r (hres w4 m3), none_answer (n0 := n0) hp h4 (m1.trans m3) (hres w4 m3)⟩ : _ ∧ _))
 have MK := Lib.hid (fun (w8 w9 : World) (h8 : TS p S d (.at l) w8) (hb : Below w8.heap.size w8 w9) => Mvr.of hb h8.lt)
 rw [hW1] at kh FIN
 clear h hgap t1 m1 hres hp1 hz1 hW1 hK
 go_enter Tryz.func82, Tryz.ntmps82
 rcases hk with rfl | rfl | rfl | rfl | rfl | rfl
 all_goals
  go_wp2_with (first
   | (go_at_call 50; (with_reducible refine kh.mono ?_); rintro e w2 ⟨rfl, h2, m2⟩; have kk := KK.out w2 h2; have H2 := Lib.hid (And.intro h2 m2); clear h2 m2 kh)
   | (go_at_call 34; (with_reducible refine kk.mono ?_); rintro e w3 ⟨rfl, b3⟩; have ks := KF.out w2 w3 H2.out.1 b3; have M3 := Lib.hid (H2.out.2.trans (MK.out w2 w3 H2.out.1 b3)); clear b3 kk)
   | (go_at_call 16; (with_reducible refine ks.mono ?_); rintro e w4 ⟨rfl, h4, m4⟩; obtain ⟨⟨⟨r0, r1, r2, r3, r4, r5, r6⟩, f0, f1, f2, f3, f4, f5, f6⟩, ff⟩ := FIN.out w4 (M3.out.trans m4) h4; have FF := Lib.hid ff; clear h4 m4 ff ks))
  exact bodyPost_ret (v := .agg _) (results_cell_row (p := 2) (ty := 37) Tryz.results82 _ _ w.heap.size 37 _ (0, 0) _ rfl FF.out.1 Tryz.underlying37 rfl Tryz.infoCmdSq) rfl FF.out.2
set_option maxHeartbeats 8000000 in
set_option maxRecDepth 20000 in
theorem command_deep (n0 p : Nat) (S : ByteArray) (l : List UInt8) (w : World) (h : TS p S 30 (.at l) w) (hS : S.size ≤ 1048576) (hgap : gapS l = l) (hk : keyX (.at l) = [105, 102] ∨ keyX (.at l) = [119, 104, 105, 108, 101] ∨ keyX (.at l) = [102, 111, 114]) :
  Calls Tryz.prog 82 #[.pointer (some ⟨p, 0, none⟩)] w fun e w' => AnsC n0 (.bad 7) w e w' ∧ TS p S 30 (.bad 7) w' ∧ Mvr p w w' := by
 have hp := h.lt
 obtain ⟨W1, hW1, t1, m1, hp1, hz1, hres⟩ := com_start p S 30 _ w h
 have kh := white_any p S 30 _ W1 t1 hS
 rw [show (Sx.at l).map gapS = .at l from congrArg Sx.at hgap] at kh
 have KK := Lib.hid (fun (w9 : World) (h9 : TS p S 30 (.at l) w9) => key_any p S 30 (.at l) w9 h9 hS)
 obtain ⟨K, hK⟩ : ∃ K, keyX (.at l) = K := ⟨_, rfl⟩
 rw [hK] at KK hk
 have KF := Lib.hid (fun (w8 w9 : World) (h8 : TS p S 30 (.at l) w8) (hb : Below w8.heap.size w8 w9) => (⟨(h8.below hb).deeper.1, (show Calls Tryz.prog 16 #[.pointer (some ⟨p, 0, none⟩), .int .i64 7] w9 fun x w' => x = .returned (.tuple #[]) ∧ TS p S 30 (.bad 7) w' ∧ Mvr p w9 w' from fail_any p S 30 (.at l) 7 (by decide) w9 (h8.below hb))⟩ : w9.cell? ⟨p, 2, none⟩ = some (.int .i64 30) ∧ _))
 have FIN := Lib.hid (fun (w4 : World) (m3 : Mvr p W1 w4) (h4 : TS p S 30 (.bad 7) w4) => (⟨cells7r (hres w4 m3), none_answer (n0 := n0) hp h4 (m1.trans m3) (hres w4 m3)⟩ : _ ∧ _))
 have MK := Lib.hid (fun (w8 w9 : World) (h8 : TS p S 30 (.at l) w8) (hb : Below w8.heap.size w8 w9) => Mvr.of hb h8.lt)
 rw [hW1] at kh FIN
 clear h hgap t1 m1 hres hp1 hz1 hW1 hK
 go_enter Tryz.func82, Tryz.ntmps82
 rcases hk with rfl | rfl | rfl
 all_goals
  go_wp2_with (first
   | (go_at_call 50; (with_reducible refine kh.mono ?_); rintro e w2 ⟨rfl, h2, m2⟩; have kk := KK.out w2 h2; have H2 := Lib.hid (And.intro h2 m2); clear h2 m2 kh)
   | (go_at_call 34; (with_reducible refine kk.mono ?_); rintro e w3 ⟨rfl, b3⟩; obtain ⟨g2, ks⟩ := KF.out w2 w3 H2.out.1 b3; have M3 := Lib.hid (H2.out.2.trans (MK.out w2 w3 H2.out.1 b3)); clear b3 kk)
   | (go_at_call 16; (with_reducible refine ks.mono ?_); rintro e w4 ⟨rfl, h4, m4⟩; obtain ⟨⟨⟨r0, r1, r2, r3, r4, r5, r6⟩, f0, f1, f2, f3, f4, f5, f6⟩, ff⟩ := FIN.out w4 (M3.out.trans m4) h4; have FF := Lib.hid ff; clear h4 m4 ff ks))
  exact bodyPost_ret (v := .agg _) (results_cell_row (p := 2) (ty := 37) Tryz.results82 _ _ w.heap.size 37 _ (0, 0) _ rfl FF.out.1 Tryz.underlying37 rfl Tryz.infoCmdSq) rfl FF.out.2
end Go.Proofs.YtelfgobjnibooaaGreatDoor
