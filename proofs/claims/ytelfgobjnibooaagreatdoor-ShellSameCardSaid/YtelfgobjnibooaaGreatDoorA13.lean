/- Packed texts: ShCom, ShSimple. What each of them proves stands above its theorems; the conditions stand in these. -/
import Derived.RegionDies
import Derived.Test.YtelfgobjnibooaaGreatDoorA12
namespace Go.Proofs.YtelfgobjnibooaaGreatDoor
open Go.RowKit Go.Lib
theorem Tryz.infoStrZ : (Tryz.prog.info? 9).map (fun i => (i.zero, i.size, i.bytes)) = some (some (.string ByteArray.empty), 1, 16) := by kernel_rfl
def S7 (w : World) (b : Nat) (v0 v1 v2 v3 v4 v5 v6 : Value) : World := (((((((w.setCell ⟨b, 0, none⟩ v0).setCell ⟨b, 1, none⟩ v1).setCell ⟨b, 2, none⟩ v2).setCell ⟨b, 3, none⟩ v3).setCell ⟨b, 4, none⟩ v4).setCell ⟨b, 5, none⟩ v5).setCell ⟨b, 6, none⟩ v6)
theorem S7_heap {w : World} {b : Nat} {a0 a1 a2 a3 a4 a5 a6 : Value} (v0 v1 v2 v3 v4 v5 v6 : Value) {t : TypeId} (h : w.heap[b]? = some (.cells #[a0, a1, a2, a3, a4, a5, a6] t (0, 0))) : (S7 w b v0 v1 v2 v3 v4 v5 v6).heap[b]? = some (.cells #[v0, v1, v2, v3, v4, v5, v6] t (0, 0)) := by
 have h0 := heap_setCell_same w b 0 _ _ v0 h
 have h1 := heap_setCell_same _ b 1 _ _ v1 h0
 have h2 := heap_setCell_same _ b 2 _ _ v2 h1
 have h3 := heap_setCell_same _ b 3 _ _ v3 h2
 have h4 := heap_setCell_same _ b 4 _ _ v4 h3
 have h5 := heap_setCell_same _ b 5 _ _ v5 h4
 have h6 := heap_setCell_same _ b 6 _ _ v6 h5
 simpa [S7] using h6
theorem S7_other {w : World} {b g : Nat} (v0 v1 v2 v3 v4 v5 v6 : Value) (h : g ≠ b) : (S7 w b v0 v1 v2 v3 v4 v5 v6).heap[g]? = w.heap[g]? := by
 unfold S7
 rw [Below.heap_setCell _ _ _ _ h, Below.heap_setCell _ _ _ _ h, Below.heap_setCell _ _ _ _ h, Below.heap_setCell _ _ _ _ h, Below.heap_setCell _ _ _ _ h, Below.heap_setCell _ _ _ _ h, Below.heap_setCell _ _ _ _ h]
theorem S7_size (w : World) (b : Nat) (v0 v1 v2 v3 v4 v5 v6 : Value) : (S7 w b v0 v1 v2 v3 v4 v5 v6).heap.size = w.heap.size := by unfold S7; simp
theorem Mvd.own7 {p b : Nat} {a w : World} (h : Mvd p a w) (hb : a.heap.size ≤ b) (hp : p < a.heap.size) (v0 v1 v2 v3 v4 v5 v6 : Value) : Mvd p a (S7 w b v0 v1 v2 v3 v4 v5 v6) := ((((((h.own hb hp 0 v0).own hb hp 1 v1).own hb hp 2 v2).own hb hp 3 v3).own hb hp 4 v4).own hb hp 5 v5).own hb hp 6 v6
theorem cells_seven {w : World} {b : Nat} {a0 a1 a2 a3 a4 a5 a6 : Value} {t : TypeId} (h : w.heap[b]? = some (.cells #[a0, a1, a2, a3, a4, a5, a6] t (0, 0))) : w.cell? ⟨b, 0, none⟩ = some a0 ∧ w.cell? ⟨b, 1, none⟩ = some a1 ∧ w.cell? ⟨b, 2, none⟩ = some a2 ∧ w.cell? ⟨b, 3, none⟩ = some a3 ∧ w.cell? ⟨b, 4, none⟩ = some a4 ∧ w.cell? ⟨b, 5, none⟩ = some a5 ∧ w.cell? ⟨b, 6, none⟩ = some a6 :=
 ⟨by rw [cell_of_heap h]; rfl, by rw [cell_of_heap h]; rfl, by rw [cell_of_heap h]; rfl, by rw [cell_of_heap h]; rfl, by rw [cell_of_heap h]; rfl, by rw [cell_of_heap h]; rfl, by rw [cell_of_heap h]; rfl⟩
def Free7 (b : Nat) (w : World) : Prop := w.frozen? ⟨b, 0, none⟩ = false ∧ w.frozen? ⟨b, 1, none⟩ = false ∧ w.frozen? ⟨b, 2, none⟩ = false ∧ w.frozen? ⟨b, 3, none⟩ = false ∧ w.frozen? ⟨b, 4, none⟩ = false ∧ w.frozen? ⟨b, 5, none⟩ = false ∧ w.frozen? ⟨b, 6, none⟩ = false ∧ ∃ v0 v1 v2 v3 v4 v5 v6, w.cell? ⟨b, 0, none⟩ = some v0 ∧ w.cell? ⟨b, 1, none⟩ = some v1 ∧ w.cell? ⟨b, 2, none⟩ = some v2 ∧ w.cell? ⟨b, 3, none⟩ = some v3 ∧ w.cell? ⟨b, 4, none⟩ = some v4 ∧ w.cell? ⟨b, 5, none⟩ = some v5 ∧ w.cell? ⟨b, 6, none⟩ = some v6 ∧ w.heap[b]? = some (.cells #[v0, v1, v2, v3, v4, v5, v6] 37 (0, 0))
theorem free7_of {b : Nat} {w : World} {a0 a1 a2 a3 a4 a5 a6 : Value} (h : w.heap[b]? = some (.cells #[a0, a1, a2, a3, a4, a5, a6] 37 (0, 0))) : Free7 b w :=
 ⟨frozen_of_heap h _, frozen_of_heap h _, frozen_of_heap h _, frozen_of_heap h _, frozen_of_heap h _, frozen_of_heap h _, frozen_of_heap h _, a0, a1, a2, a3, a4, a5, a6, by rw [cell_of_heap h]; rfl, by rw [cell_of_heap h]; rfl, by rw [cell_of_heap h]; rfl, by rw [cell_of_heap h]; rfl, by rw [cell_of_heap h]; rfl, by rw [cell_of_heap h]; rfl, by rw [cell_of_heap h]; rfl, h⟩
def CW (k : Nat) (w : World) : World := (w.alloc (.cells #[.int .i64 0, .slice none 0 0, .slice none 0 0, .slice none 0 0, .slice none 0 0, .slice none 0 0, .slice none 0 0] 37)).alloc (.cells #[.int .i64 (k : Int), .slice none 0 0, .slice none 0 0, .slice none 0 0, .slice none 0 0, .slice none 0 0, .slice none 0 0] 37)
theorem CW_facts (k : Nat) (w : World) : (CW k w).heap.size = w.heap.size + 2 ∧ Below w.heap.size w (CW k w) ∧ (CW k w).heap[w.heap.size]? = some (.cells #[.int .i64 0, .slice none 0 0, .slice none 0 0, .slice none 0 0, .slice none 0 0, .slice none 0 0, .slice none 0 0] 37 (0, 0)) ∧ (CW k w).heap[w.heap.size + 1]? = some (.cells #[.int .i64 (k : Int), .slice none 0 0, .slice none 0 0, .slice none 0 0, .slice none 0 0, .slice none 0 0, .slice none 0 0] 37 (0, 0)) := by
 have main : ∀ O1 O2 : Obj, ((w.alloc O1).alloc O2).heap.size = w.heap.size + 2 ∧ Below w.heap.size w ((w.alloc O1).alloc O2) ∧ ((w.alloc O1).alloc O2).heap[w.heap.size]? = some O1 ∧ ((w.alloc O1).alloc O2).heap[w.heap.size + 1]? = some O2 := fun O1 O2 => by
  have z1 : (w.alloc O1).heap.size = w.heap.size + 1 := by simp
  have h1 := heap_alloc_new w O1
  have h2 := heap_alloc_new (w.alloc O1) O2
  rw [z1] at h2
  refine ⟨by simp, (((Below.refl _ w).alloc (Nat.le_refl _) _).alloc (by simp) _), ?_, h2⟩
  rw [Below.heap_alloc _ _ _ (by omega)]; exact h1
 exact main _ _
theorem cmd_ans {L : ValP (List Co)} {p : Nat} {sg : Value} {d b k : Nat} {w w5 : World} {r : List UInt8} {ns : List (List UInt8)} {vs ws : List (List Pt)} {cA cB cC : List Co} {a0 a1 a2 a3 a4 a5 a6 vn vv vw va vb vc : Value} (hp : p < w.heap.size) (hb : w.heap.size ≤ b) (hr : Rs p r sg d w5) (hm : Mvd p w w5)
  (hn : StrV.q (NewF (b + 1) w5.heap.size) w5 vn ns) (hv : (WdsV L).q (NewF (b + 1) w5.heap.size) w5 vv vs) (hw : (WdsV L).q (NewF (b + 1) w5.heap.size) w5 vw ws) (ha : L.q (NewF (b + 1) w5.heap.size) w5 va cA) (hB : L.q (NewF (b + 1) w5.heap.size) w5 vb cB) (hc : L.q (NewF (b + 1) w5.heap.size) w5 vc cC)
  (_hy : w5.heap[b]? = some (.cells #[a0, a1, a2, a3, a4, a5, a6] 37 (0, 0))) :
  AnsE (cmdE L) p sg d w (.ok (.mk k ns vs ws cA cB cC) r) (.returned (.agg #[.int .i64 (k : Int), vn, vv, vw, va, vb, vc])) (S7 w5 b (.int .i64 (k : Int)) vn vv vw va vb vc) := by
 have keep : ∀ g, NewF (b + 1) w5.heap.size g → (S7 w5 b (.int .i64 (k : Int)) vn vv vw va vb vc).heap[g]? = w5.heap[g]? := fun g hg => S7_other _ _ _ _ _ _ _ (by have := hg.1; omega)
 have up : ∀ g, NewF (b + 1) w5.heap.size g → NewF w.heap.size (S7 w5 b (.int .i64 (k : Int)) vn vv vw va vb vc).heap.size g := fun g hg => ⟨by have := hg.1; omega, by rw [S7_size]; exact hg.2⟩
 refine ⟨⟨_, rfl, vn, vv, vw, va, vb, vc, rfl, ?_, ?_, ?_, ?_, ?_, ?_⟩, hr.same (S7_other _ _ _ _ _ _ _ (by omega)), hm.own7 hb hp _ _ _ _ _ _ _⟩
 ·exact StrV.mono _ _ _ _ _ up (StrV.same _ _ _ _ _ keep hn)
 ·exact (WdsV L).mono _ _ _ _ _ up ((WdsV L).same _ _ _ _ _ keep hv)
 ·exact (WdsV L).mono _ _ _ _ _ up ((WdsV L).same _ _ _ _ _ keep hw)
 ·exact L.mono _ _ _ _ _ up (L.same _ _ _ _ _ keep ha)
 ·exact L.mono _ _ _ _ _ up (L.same _ _ _ _ _ keep hB)
 ·exact L.mono _ _ _ _ _ up (L.same _ _ _ _ _ keep hc)
structure CmX (L : ValP (List Co)) (c : Nat) (ns : List (List UInt8)) (vs : List (List Pt)) (vn vv : Value) (w : World) : Prop where
 blk : w.heap[c]? = some (.cells #[.int .i64 1, vn, vv, .slice none 0 0, .slice none 0 0, .slice none 0 0, .slice none 0 0] 37 (0, 0))
 nm : BldA strE 9 (c + 1) (fun g => vv.ownBlock = some g) w vn ns
 vl : BldA (wordE (PtsV L)) 40 (c + 1) (fun g => vn.ownBlock = some g) w vv vs
theorem CmX.same {L : ValP (List Co)} {c : Nat} {ns : List (List UInt8)} {vs : List (List Pt)} {vn vv : Value} {w w' : World} (h : CmX L c ns vs vn vv w) (hs : w.heap.size ≤ w'.heap.size) (hb : ∀ g, c ≤ g → g < w.heap.size → w'.heap[g]? = w.heap[g]?) : CmX L c ns vs vn vv w' :=
 ⟨(hb c (Nat.le_refl _) (heap_ltS h.blk)).trans h.blk, h.nm.same hs fun g a b _ => hb g (by omega) b, h.vl.same hs fun g a b _ => hb g (by omega) b⟩
theorem CmX.moved {L : ValP (List Co)} {p c : Nat} {ns : List (List UInt8)} {vs : List (List Pt)} {vn vv : Value} {w w' : World} (h : CmX L c ns vs vn vv w) (hm : Mvd p w w') (hp : p < c) : CmX L c ns vs vn vv w' := h.same hm.size fun g a b => hm.high g (by omega) b
theorem CmX.cells {L : ValP (List Co)} {c : Nat} {ns : List (List UInt8)} {vs : List (List Pt)} {vn vv : Value} {w : World} (h : CmX L c ns vs vn vv w) : w.cell? ⟨c, 1, none⟩ = some vn ∧ w.cell? ⟨c, 2, none⟩ = some vv ∧ w.frozen? ⟨c, 1, none⟩ = false ∧ w.frozen? ⟨c, 2, none⟩ = false :=
 ⟨by rw [cell_of_heap h.blk]; rfl, by rw [cell_of_heap h.blk]; rfl, frozen_of_heap h.blk _, frozen_of_heap h.blk _⟩
theorem CmX.name {L : ValP (List Co)} {c : Nat} {ns : List (List UInt8)} {vs : List (List Pt)} {vn vv v6 : Value} {ys : List Value} {w w5 w6 : World} (h : CmX L c ns vs vn vv w) (n : List UInt8) (b5 : Below w.heap.size w w5) (hy : w.ownsRow (c + 1) 9 1 vn ns.length ys) (h6 : w6.ownsRow (c + 1) 9 1 v6 (ns.length + 1) (ys ++ [.string ⟨n.toArray⟩])) (hg : w5.grownBy w6 vn.ownBlock) (hf : v6.ownBlock = vn.ownBlock ∨ v6.ownBlock = some w5.heap.size) :
  CmX L c (ns ++ [n]) vs v6 vv (w6.setCell ⟨c, 1, none⟩ v6) := by
 have hc := heap_ltS h.blk
 have hz := b5.size
 have hn5 : BldA strE 9 (c + 1) (fun g => vv.ownBlock = some g) w5 vn ns := h.nm.same hz fun g a b _ => b5.block g b
 have hv5 : BldA (wordE (PtsV L)) 40 (c + 1) (fun g => vn.ownBlock = some g) w5 vv vs := h.vl.same hz fun g a b _ => b5.block g b
 have hy5 : w5.ownsRow (c + 1) 9 1 vn ns.length ys := ownS_same hy fun g hg => b5.block g (ownS_lt hy hg).2
 have hb := hn5.snoc (Fx := NoneF) (show strE.q NoneF w5 n [.string ⟨n.toArray⟩] from rfl) (fun g hg => hg.elim) (fun g hg => hg.elim) (fun g hg => ⟨fun h => h, (hv5.lt g hg).2⟩) hy5 h6 hg hf
 have h6z : w5.heap.size ≤ w6.heap.size := hg.size
 have hv6 : BldA (wordE (PtsV L)) 40 (c + 1) (fun g => v6.ownBlock = some g) w6 vv vs := by
  have h1 : BldA (wordE (PtsV L)) 40 (c + 1) (fun g => vn.ownBlock = some g ∨ v6.ownBlock = some g) w5 vv vs := hv5.avoid fun g hg => by
   rcases hg with hg | hg
   ·exact .inl hg
   ·rcases hf with hf | hf
    ·left; rw [← hf]; exact hg
    ·right; rw [hf] at hg; injection hg with hg; omega
  exact (h1.same h6z fun g a b hA => hg.block g b fun e => hA (.inl e.symm)).avoid fun g hg => .inl (.inr hg)
 have hcb : w6.heap[c]? = w.heap[c]? := (hg.block c (by omega) fun e => by have := (h.nm.lt c e.symm).1; omega).trans (b5.block c hc)
 have hset := heap_setCell_same w6 c 1 _ _ v6 (hcb.trans h.blk)
 exact ⟨by simpa using hset, hb.same (by simp) fun g a b _ => Below.heap_setCell _ _ _ _ (by show g ≠ c; omega), hv6.same (by simp) fun g a b _ => Below.heap_setCell _ _ _ _ (by show g ≠ c; omega)⟩
theorem CmX.value {L : ValP (List Co)} {c : Nat} {ns : List (List UInt8)} {vs : List (List Pt)} {vn vv v6 u : Value} {Fx : Nat → Prop} {ys : List Value} {w w5 w6 : World} (h : CmX L c ns vs vn vv w) (ps : List Pt) (hx : (PtsV L).q Fx w u ps) (hF : ∀ g, Fx g → c + 1 ≤ g ∧ g < w.heap.size) (hA : ∀ g, Fx g → vv.ownBlock ≠ some g ∧ vn.ownBlock ≠ some g) (b5 : Below w.heap.size w w5) (hy : w.ownsRow (c + 1) 40 1 vv vs.length ys) (h6 : w6.ownsRow (c + 1) 40 1 v6 (vs.length + 1) (ys ++ [u])) (hg : w5.grownBy w6 vv.ownBlock) (hf : v6.ownBlock = vv.ownBlock ∨ v6.ownBlock = some w5.heap.size) :
  CmX L c ns (vs ++ [ps]) vn v6 (w6.setCell ⟨c, 2, none⟩ v6) := by
 have hc := heap_ltS h.blk
 have hz := b5.size
 have hn5 : BldA strE 9 (c + 1) (fun g => vv.ownBlock = some g) w5 vn ns := h.nm.same hz fun g a b _ => b5.block g b
 have hv5 : BldA (wordE (PtsV L)) 40 (c + 1) (fun g => vn.ownBlock = some g) w5 vv vs := h.vl.same hz fun g a b _ => b5.block g b
 have hy5 : w5.ownsRow (c + 1) 40 1 vv vs.length ys := ownS_same hy fun g hg => b5.block g (ownS_lt hy hg).2
 have hx5 : (wordE (PtsV L)).q Fx w5 ps [u] := ⟨u, rfl, (PtsV L).same _ _ _ _ _ (fun g hg => b5.block g (hF g hg).2) hx⟩
 have hb := hv5.snoc hx5 (fun g hg => ⟨(hF g hg).1, by have := (hF g hg).2; omega⟩) (fun g hg => (hA g hg).1) (fun g hg => ⟨fun hx => (hA g hx).2 hg, (hn5.lt g hg).2⟩) hy5 h6 hg hf
 have h6z : w5.heap.size ≤ w6.heap.size := hg.size
 have hn6 : BldA strE 9 (c + 1) (fun g => v6.ownBlock = some g) w6 vn ns := by
  have h1 : BldA strE 9 (c + 1) (fun g => vv.ownBlock = some g ∨ v6.ownBlock = some g) w5 vn ns := hn5.avoid fun g hg => by
   rcases hg with hg | hg
   ·exact .inl hg
   ·rcases hf with hf | hf
    ·left; rw [← hf]; exact hg
    ·right; rw [hf] at hg; injection hg with hg; omega
  exact (h1.same h6z fun g a b hA => hg.block g b fun e => hA (.inl e.symm)).avoid fun g hg => .inl (.inr hg)
 have hcb : w6.heap[c]? = w.heap[c]? := (hg.block c (by omega) fun e => by have := (h.vl.lt c e.symm).1; omega).trans (b5.block c hc)
 have hset := heap_setCell_same w6 c 2 _ _ v6 (hcb.trans h.blk)
 exact ⟨by simpa using hset, hn6.same (by simp) fun g a b _ => Below.heap_setCell _ _ _ _ (by show g ≠ c; omega), hb.same (by simp) fun g a b _ => Below.heap_setCell _ _ _ _ (by show g ≠ c; omega)⟩
theorem CW_cm (L : ValP (List Co)) (w : World) : CmX L (w.heap.size + 1) [] [] (.slice none 0 0) (.slice none 0 0) (CW 1 w) := by
 obtain ⟨z, hb, h1, h2⟩ := CW_facts 1 w
 exact ⟨h2, BldA.nil _ _ _ _ _, BldA.nil _ _ _ _ _⟩
end Go.Proofs.YtelfgobjnibooaaGreatDoor
namespace Go.Proofs.YtelfgobjnibooaaGreatDoor
open Go.RowKit Go.Lib
theorem asg_none {sub : Deeper} {s : List (List UInt8) × List (List Pt)} {l : List UInt8} (h : assignS l = none) : asgStep sub s l = .ok (.stop s) l := by unfold asgStep; rw [h]
theorem asg_some {sub : Deeper} {s : List (List UInt8) × List (List Pt)} {l n r : List UInt8} (h : assignS l = some (n, r)) : asgStep sub s l = (wordS sub r).bind fun ps r' => .ok (.go (s.1 ++ [n], s.2 ++ [ps])) (gapS r') := by unfold asgStep; rw [h]
def tailS (sub : Deeper) (s : List (List UInt8) × List (List Pt)) (r : List UInt8) : Rr Co :=
 if shKeys.contains (keyS r) then .bad 9 else (wordsS sub r).bind fun ws r' =>
 if s.1 = [] ∧ ws = [] then .bad 9 else .ok (.mk 1 s.1 s.2 ws [] [] []) r'
theorem simple_tail (sub : Deeper) (l : List UInt8) : simpleS sub l = (iterS (asgStep sub) ([], []) l).bind (tailS sub) := rfl
def SmI (L : ValP (List Co)) (sub : Deeper) (p c : Nat) (sg : Value) (d : Nat) (W0 : World) (R : Rr (List (List UInt8) × List (List Pt))) (g : Nat) (wr : World) : Prop :=
 ∃ ns vs vn vv l, CmX L c ns vs vn vv wr ∧ Rs p l sg d wr ∧ Mvq p c W0 wr ∧ l.length ≤ g ∧ ns.length + l.length ≤ 1048576 ∧ vs.length = ns.length ∧ iterS (asgStep sub) (ns, vs) l = R
theorem cmq_out {p k : Nat} {w w2 : World} (hp : p < w.heap.size) (hm : Mvq p (w.heap.size + 1) (CW k w) w2) : Mvd p w w2 := by
 obtain ⟨z, hb, h1, h2⟩ := CW_facts k w
 exact ⟨(hb.mono (Nat.le_of_lt hp)).trans hm.low, fun g hg hs => (hm.high g hg (by omega)).trans (hb.block g hs)⟩
theorem cw_free {p k : Nat} {w w2 : World} (hp : p < w.heap.size) (hm : Mvq p (w.heap.size + 1) (CW k w) w2) : w2.heap[w.heap.size]? = some (.cells #[.int .i64 0, .slice none 0 0, .slice none 0 0, .slice none 0 0, .slice none 0 0, .slice none 0 0, .slice none 0 0] 37 (0, 0)) := by
 obtain ⟨z, hb, h1, h2⟩ := CW_facts k w
 exact (hm.high w.heap.size (by omega) (by omega)).trans h1
theorem simple_done {L : ValP (List Co)} (hL : GoodL L) {p lo : Nat} {sg : Value} {d : Nat} {r : List UInt8} {ns : List (List UInt8)} {vs ws : List (List Pt)} {vn vv vw : Value} {w w3 : World} (hp : p < w.heap.size) (hC : CmX L (w.heap.size + 1) ns vs vn vv w3) (hx : (WdsV L).q (NewF lo w3.heap.size) w3 vw ws) (hlo : w.heap.size + 2 ≤ lo) (hr : Rs p r sg d w3) (hm : Mvq p (w.heap.size + 1) (CW 1 w) w3) :
  (w3.cell? ⟨w.heap.size + 1, 3, none⟩ = some (.slice none 0 0) ∧ w3.frozen? ⟨w.heap.size + 1, 3, none⟩ = false) ∧ ((w3.setCell ⟨w.heap.size + 1, 3, none⟩ vw).cell? ⟨w.heap.size + 1, 0, none⟩ = some (.int .i64 1) ∧ (w3.setCell ⟨w.heap.size + 1, 3, none⟩ vw).cell? ⟨w.heap.size + 1, 1, none⟩ = some vn ∧ (w3.setCell ⟨w.heap.size + 1, 3, none⟩ vw).cell? ⟨w.heap.size + 1, 2, none⟩ = some vv ∧ (w3.setCell ⟨w.heap.size + 1, 3, none⟩ vw).cell? ⟨w.heap.size + 1, 3, none⟩ = some vw ∧ (w3.setCell ⟨w.heap.size + 1, 3, none⟩ vw).cell? ⟨w.heap.size + 1, 4, none⟩ = some (.slice none 0 0) ∧ (w3.setCell ⟨w.heap.size + 1, 3, none⟩ vw).cell? ⟨w.heap.size + 1, 5, none⟩ = some (.slice none 0 0) ∧ (w3.setCell ⟨w.heap.size + 1, 3, none⟩ vw).cell? ⟨w.heap.size + 1, 6, none⟩ = some (.slice none 0 0)) ∧
  Free7 w.heap.size (w3.setCell ⟨w.heap.size + 1, 3, none⟩ vw) ∧ AnsE (cmdE L) p sg d w (.ok (.mk 1 ns vs ws [] [] []) r) (.returned (.agg #[.int .i64 1, vn, vv, vw, .slice none 0 0, .slice none 0 0, .slice none 0 0])) (S7 (w3.setCell ⟨w.heap.size + 1, 3, none⟩ vw) w.heap.size (.int .i64 1) vn vv vw (.slice none 0 0) (.slice none 0 0) (.slice none 0 0)) ∧ Mvd p w (w3.setCell ⟨w.heap.size + 1, 3, none⟩ vw) ∧
  (S7 (w3.setCell ⟨w.heap.size + 1, 3, none⟩ vw) w.heap.size (.int .i64 1) vn vv vw (.slice none 0 0) (.slice none 0 0) (.slice none 0 0)).heap[w.heap.size]? = some (.cells #[.int .i64 1, vn, vv, vw, .slice none 0 0, .slice none 0 0, .slice none 0 0] 37 (0, 0)) := by
 have hb := cw_free hp hm
 have hset : (w3.setCell ⟨w.heap.size + 1, 3, none⟩ vw).heap[w.heap.size + 1]? = some (.cells #[.int .i64 1, vn, vv, vw, .slice none 0 0, .slice none 0 0, .slice none 0 0] 37 (0, 0)) := by
  have h := heap_setCell_same w3 (w.heap.size + 1) 3 _ _ vw hC.blk
  simpa using h
 have hb4 : (w3.setCell ⟨w.heap.size + 1, 3, none⟩ vw).heap[w.heap.size]? = some (.cells #[.int .i64 0, .slice none 0 0, .slice none 0 0, .slice none 0 0, .slice none 0 0, .slice none 0 0, .slice none 0 0] 37 (0, 0)) := (Below.heap_setCell _ _ _ _ (show w.heap.size ≠ w.heap.size + 1 by omega)).trans hb
 have hmd : Mvd p w (w3.setCell ⟨w.heap.size + 1, 3, none⟩ vw) := (cmq_out hp hm).own (Nat.le_succ _) hp 3 vw
 have hz : (w3.setCell ⟨w.heap.size + 1, 3, none⟩ vw).heap.size = w3.heap.size := by simp
 have keep : ∀ g, w.heap.size + 2 ≤ g → (w3.setCell ⟨w.heap.size + 1, 3, none⟩ vw).heap[g]? = w3.heap[g]? := fun g hg => Below.heap_setCell _ _ _ _ (show g ≠ w.heap.size + 1 by omega)
 have up : ∀ lo g, w.heap.size + 2 ≤ lo → NewF lo w3.heap.size g → NewF (w.heap.size + 1) (w3.setCell ⟨w.heap.size + 1, 3, none⟩ vw).heap.size g := fun lo g h hg => ⟨by have := hg.1; omega, by rw [hz]; exact hg.2⟩
 refine ⟨⟨by rw [cell_of_heap hC.blk]; rfl, frozen_of_heap hC.blk _⟩, cells_seven hset, free7_of hb4, ?_, hmd, S7_heap _ _ _ _ _ _ _ hb4⟩
 exact cmd_ans (k := 1) hp (Nat.le_refl _) (hr.same (Below.heap_setCell _ _ _ _ (show p ≠ w.heap.size + 1 by omega))) hmd (StrV.mono _ _ _ _ _ (fun g => up _ g (Nat.le_refl _)) (StrV.same _ _ _ _ _ (fun g hg => keep g hg.1) hC.nm.row)) ((WdsV L).mono _ _ _ _ _ (fun g => up _ g (Nat.le_refl _)) ((WdsV L).same _ _ _ _ _ (fun g hg => keep g hg.1) hC.vl.row)) ((WdsV L).mono _ _ _ _ _ (fun g => up _ g hlo) ((WdsV L).same _ _ _ _ _ (fun g hg => keep g (by have := hg.1; omega)) hx)) (hL.nil _ _) (hL.nil _ _) (hL.nil _ _) hb4
set_option maxHeartbeats 8000000 in
set_option maxRecDepth 20000 in
theorem simple_any (L : ValP (List Co)) (sub : Deeper) (p : Nat) (sg : Value) (d : Nat) (hv : Lv L sub p sg d) (l0 : List UInt8) (w : World) (h : Rs p l0 sg d w) (hE : EnvS p sg w) (hl0 : l0.length ≤ 1048576) :
  Calls Tryz.prog 111 #[.pointer (some ⟨p, 0, none⟩)] w (AnsE (cmdE L) p sg d w (simpleS sub l0)) := by
 have hp := h.lt
 obtain ⟨z, hb, b1, b2⟩ := CW_facts 1 w
 obtain ⟨R, hR⟩ : ∃ R, iterS (asgStep sub) ([], []) l0 = R := ⟨_, rfl⟩
 obtain ⟨T, hT⟩ : ∃ T, R.bind (tailS sub) = T := ⟨_, rfl⟩
 have HST : Hid (SmI L sub p (w.heap.size + 1) sg d (CW 1 w) R l0.length (CW 1 w)) := ⟨[], [], _, _, l0, CW_cm L w, h.below hb, Mvq.refl _ _ _, Nat.le_refl _, by simpa using hl0, rfl, hR⟩
 have HE := Lib.hid (hE.below (hb.mono (Nat.le_of_lt hp)))
 obtain ⟨i0, hi, hz0, hz1, hz2⟩ := info_parts Tryz.infoWordZ
 obtain ⟨j0, hj, hj0, hj1, hj2⟩ := info_parts Tryz.infoStrZ
 have hpc : p < w.heap.size + 1 := by omega
 rw [simple_tail, hR, hT]
 clear h hE hR b1 b2 hb z
 go_enter Tryz.func111, Tryz.ntmps111
 go_wp2
 go_loopg [4] l0.length (fun g _ wr => Hid (SmI L sub p (w.heap.size + 1) sg d (CW 1 w) R g wr))
 case atStart => exact HST.out
 case round =>
  obtain ⟨ns, vs, vn, vv, l, hC, hr, hm, hg, hnl, hvs, hR⟩ := hrel.out
  clear hrel HST hl0
  rw [iterS_eq (asgStep_nice hv.nice)] at hR
  have HC := Lib.hid hC
  have HM := Lib.hid hm
  have HR0 := Lib.hid hr
  have hcz : w.heap.size + 1 < wr.heap.size := heap_ltS hC.blk
  cases ha : assignS l with
  | none =>
   rw [asg_none ha] at hR
   have hR2 : R = .ok (ns, vs) l := hR.symm
   subst hR2
   have hT3 : tailS sub (ns, vs) l = T := hT
   have kA := assigned_none p l sg d wr hr (by omega) ha
   have KK := Lib.hid (fun w2 (h2 : Rs p l sg d w2) => keyS_any p l sg d w2 h2 (by omega))
   have ki := fun w1 => isKey_any (keyS l) w1
   have E1 : Hid (∀ w2 w1, Rs p l sg d w2 → Mvd p wr w2 → Below w2.heap.size w2 w1 → Rs p l sg d w1 ∧ EnvS p sg w1 ∧ Mvd p wr w1) := by
    show ∀ _, _
    intro w2 w1 h2 m2 b1
    have m1 : Mvd p wr w1 := m2.trans (Mvd.of b1 h2.lt)
    exact ⟨h2.below b1, HE.out.below (HM.out.low.trans m1.low), m1⟩
   have OUT := Lib.hid (fun w1 (m1 : Mvd p wr w1) => cmq_out hp (HM.out.trans (Mvq.of m1 (Nat.le_of_lt hcz))))
   obtain ⟨Y, hY⟩ : ∃ Y : ByteArray, Y = ⟨(keyS l).toArray⟩ := ⟨_, rfl⟩
   rw [← hY] at KK ki
   clear hY hC hr hm hT hR ha
   cases hk : shKeys.contains (keyS l) with
   | true =>
    rw [hk] at ki
    have k2 := need_no
    have hT4 : T = .bad 9 := by rw [← hT3]; unfold tailS; rw [if_pos hk]
    subst hT4
    clear hT3 hk hvs hnl hg
    show Code.wp _ _ _ _ _
    unfold AnsE
    unfold errS at k2 ⊢
    go_wp2_with (first
     | (go_at_call 142; (with_reducible refine kA.mono ?_); rintro e w2 ⟨rfl, h2, m2⟩; have H2 := Lib.hid (And.intro h2 m2); clear h2 m2)
     | (go_at_call 75; (with_reducible refine (KK.out _ H2.out.1).mono ?_); rintro e w1 ⟨rfl, b1⟩; have H1 := Lib.hid (E1.out _ w1 H2.out.1 H2.out.2 b1); clear b1)
     | (go_at_call 144; (with_reducible refine (ki _).mono ?_); rintro e w4 ⟨rfl, hw4⟩; rw [hw4]; clear hw4)
     | (go_at_call 30; refine (k2 _).mono ?_; rintro e w4 ⟨rfl, hw4⟩; rw [hw4]; clear hw4))
    exact ⟨rfl, rfl, OUT.out _ H1.out.2.2⟩
   | false =>
    rw [hk] at ki
    have hT4 : T = (wordsS sub l).bind fun ws r' => if ns = [] ∧ ws = [] then .bad 9 else .ok (.mk 1 ns vs ws [] [] []) r' := by rw [← hT3]; unfold tailS; rw [if_neg (by rw [hk]; simp)]
    have KWD := Lib.hid (fun w1 (h1 : Rs p l sg d w1) (e1 : EnvS p sg w1) => words_any L sub p sg d hv l w1 h1 e1 (by omega))
    cases hw : wordsS sub l with
    | bad x =>
     rw [hw] at hT4 KWD
     have hT5 : T = .bad x := hT4
     have KW : Hid (∀ w1, Rs p l sg d w1 → EnvS p sg w1 → Calls Tryz.prog 141 #[.pointer (some ⟨p, 0, none⟩)] w1 fun e w' => e = errS x ∧ Mvd p w1 w') := KWD.out
     subst hT5
     clear hT3 hT4 hk hvs hnl hg hw KWD
     show Code.wp _ _ _ _ _
     unfold AnsE
     unfold errS at KW ⊢
     go_wp2_with (first
      | (go_at_call 142; (with_reducible refine kA.mono ?_); rintro e w2 ⟨rfl, h2, m2⟩; have H2 := Lib.hid (And.intro h2 m2); clear h2 m2)
      | (go_at_call 75; (with_reducible refine (KK.out _ H2.out.1).mono ?_); rintro e w1 ⟨rfl, b1⟩; have H1 := Lib.hid (E1.out _ w1 H2.out.1 H2.out.2 b1); clear b1)
      | (go_at_call 144; (with_reducible refine (ki _).mono ?_); rintro e w4 ⟨rfl, hw4⟩; rw [hw4]; clear hw4)
      | (go_at_call 30; refine (need_yes _).mono ?_; rintro e w4 ⟨rfl, hw4⟩; rw [hw4]; clear hw4)
      | (go_at_call 141; (with_reducible refine (KW.out _ H1.out.1 H1.out.2.1).mono ?_); rintro e w5 ⟨rfl, m5⟩))
     exact ⟨rfl, rfl, OUT.out _ (H1.out.2.2.trans m5)⟩
    | ok ws r' =>
     rw [hw] at hT4 KWD
     have hT5 : T = if ns = [] ∧ ws = [] then .bad 9 else .ok (.mk 1 ns vs ws [] [] []) r' := hT4
     have KW : Hid (∀ w1, Rs p l sg d w1 → EnvS p sg w1 → Calls Tryz.prog 141 #[.pointer (some ⟨p, 0, none⟩)] w1 fun e w' => (∃ ao cap, e = .returned (.slice ao ws.length cap) ∧ (WdsV L).q (NewF w1.heap.size w'.heap.size) w' (.slice ao ws.length cap) ws) ∧ Rs p r' sg d w' ∧ Mvd p w1 w') := by
      show ∀ _, _
      intro w1 h1 e1
      refine (KWD.out w1 h1 e1).mono fun e w' ha => ?_
      obtain ⟨⟨v, h2, h3⟩, h4, h5⟩ := ha
      obtain ⟨ao, cap, rfl, _⟩ := wds_shape h3
      exact ⟨⟨ao, cap, h2, h3⟩, h4, h5⟩
     obtain ⟨an, cn, rfl, _⟩ := HC.out.nm.row.shape
     obtain ⟨av, cv, rfl, _⟩ := HC.out.vl.row.shape
     have DN := Lib.hid (fun (w1 w5 : World) (vw : Value) (m1 : Mvd p wr w1) (hx : (WdsV L).q (NewF w1.heap.size w5.heap.size) w5 vw ws) (h5 : Rs p r' sg d w5) (m5 : Mvd p w1 w5) => simple_done hv.good hp (HC.out.moved (m1.trans m5) hpc) hx (by have := m1.size; omega) h5 (HM.out.trans (Mvq.of (m1.trans m5) (Nat.le_of_lt hcz))))
     have hlen : (ns = [] ↔ ns.length = 0) ∧ (ws = [] ↔ ws.length = 0) := ⟨List.length_eq_zero_iff.symm, List.length_eq_zero_iff.symm⟩
     have k2 := need_no
     clear hT3 hT4 hk hw KWD hg hnl hvs hpc hcz
     have hns := hlen.1
     have hws := hlen.2
     obtain ⟨kn, hkn⟩ : ∃ k, k = ns.length := ⟨_, rfl⟩
     obtain ⟨kv, hkv⟩ : ∃ k, k = vs.length := ⟨_, rfl⟩
     obtain ⟨kw, hkw⟩ : ∃ k, k = ws.length := ⟨_, rfl⟩
     rw [← hkn] at hns DN
     rw [← hkv] at DN
     rw [← hkw] at hws KW
     clear hkn hkv hkw hlen
     by_cases hn0 : 0 < kn
     ·have hn1 : (0 : Int) < (kn : Int) := by omega
      have hT6 : T = .ok (.mk 1 ns vs ws [] [] []) r' := by rw [hT5]; exact if_neg fun h => by have := hns.1 h.1; omega
      subst hT6
      clear hT5 hns hws
      go_wp2_with (first
       | (go_at_call 142; (with_reducible refine kA.mono ?_); rintro e w2 ⟨rfl, h2, m2⟩; have H2 := Lib.hid (And.intro h2 m2); clear h2 m2)
       | (go_at_call 75; (with_reducible refine (KK.out _ H2.out.1).mono ?_); rintro e w1 ⟨rfl, b1⟩; have H1 := Lib.hid (E1.out _ w1 H2.out.1 H2.out.2 b1); clear b1)
       | (go_at_call 144; (with_reducible refine (ki _).mono ?_); rintro e w4 ⟨rfl, hw4⟩; rw [hw4]; clear hw4)
       | (go_at_call 30; first | (refine (need_yes _).mono ?_; rintro e w4 ⟨rfl, hw4⟩; rw [hw4]; clear hw4) | (refine (k2 _).mono ?_; rintro e w4 ⟨rfl, hw4⟩; rw [hw4]; clear hw4))
       | (go_at_call 141; (with_reducible refine (KW.out _ H1.out.1 H1.out.2.1).mono ?_); rintro e w5 ⟨⟨aw, cw, rfl, hx⟩, h5, m5⟩; obtain ⟨⟨c3, f3⟩, ⟨c40, c41, c42, c43, c44, c45, c46⟩, FR, AN, MD, HP⟩ := DN.out w1 w5 _ H1.out.2.2 hx h5 m5; obtain ⟨g0, g1, g2, g3, g4, g5, g6, x0, x1, x2, x3, x4, x5, x6, y0, y1, y2, y3, y4, y5, y6, y7⟩ := FR; have HAN := Lib.hid AN; have HMD := Lib.hid MD; have HHP := Lib.hid HP; clear hx h5 m5 AN MD HP y7))
      have c7 := cells_seven HHP.out
      unfold S7 at c7 HAN
      refine bodyPost_ret (v := .agg #[.int .i64 1, .slice an kn cn, .slice av kv cv, .slice aw kw cw, .slice none 0 0, .slice none 0 0, .slice none 0 0]) (by simp [results, Tryz.results111, go_sem, c7]) rfl ?_
      exact HAN.out
     ·have hn1 : ¬ (0 : Int) < (kn : Int) := by omega
      by_cases hw0 : 0 < kw
      ·have hw1 : (0 : Int) < (kw : Int) := by omega
       have hT6 : T = .ok (.mk 1 ns vs ws [] [] []) r' := by rw [hT5]; exact if_neg fun h => by have := hws.1 h.2; omega
       subst hT6
       clear hT5 hns hws
       go_wp2_with (first
        | (go_at_call 142; (with_reducible refine kA.mono ?_); rintro e w2 ⟨rfl, h2, m2⟩; have H2 := Lib.hid (And.intro h2 m2); clear h2 m2)
        | (go_at_call 75; (with_reducible refine (KK.out _ H2.out.1).mono ?_); rintro e w1 ⟨rfl, b1⟩; have H1 := Lib.hid (E1.out _ w1 H2.out.1 H2.out.2 b1); clear b1)
        | (go_at_call 144; (with_reducible refine (ki _).mono ?_); rintro e w4 ⟨rfl, hw4⟩; rw [hw4]; clear hw4)
        | (go_at_call 30; first | (refine (need_yes _).mono ?_; rintro e w4 ⟨rfl, hw4⟩; rw [hw4]; clear hw4) | (refine (k2 _).mono ?_; rintro e w4 ⟨rfl, hw4⟩; rw [hw4]; clear hw4))
        | (go_at_call 141; (with_reducible refine (KW.out _ H1.out.1 H1.out.2.1).mono ?_); rintro e w5 ⟨⟨aw, cw, rfl, hx⟩, h5, m5⟩; obtain ⟨⟨c3, f3⟩, ⟨c40, c41, c42, c43, c44, c45, c46⟩, FR, AN, MD, HP⟩ := DN.out w1 w5 _ H1.out.2.2 hx h5 m5; obtain ⟨g0, g1, g2, g3, g4, g5, g6, x0, x1, x2, x3, x4, x5, x6, y0, y1, y2, y3, y4, y5, y6, y7⟩ := FR; have HAN := Lib.hid AN; have HMD := Lib.hid MD; have HHP := Lib.hid HP; clear hx h5 m5 AN MD HP y7))
       have c7 := cells_seven HHP.out
       unfold S7 at c7 HAN
       refine bodyPost_ret (v := .agg #[.int .i64 1, .slice an kn cn, .slice av kv cv, .slice aw kw cw, .slice none 0 0, .slice none 0 0, .slice none 0 0]) (by simp [results, Tryz.results111, go_sem, c7]) rfl ?_
       exact HAN.out
      ·have hw1 : ¬ (0 : Int) < (kw : Int) := by omega
       have hT6 : T = .bad 9 := by rw [hT5]; exact if_pos ⟨hns.2 (by omega), hws.2 (by omega)⟩
       subst hT6
       clear hT5 hns hws
       show Code.wp _ _ _ _ _
       unfold AnsE
       unfold errS at k2 ⊢
       go_wp2_with (first
        | (go_at_call 142; (with_reducible refine kA.mono ?_); rintro e w2 ⟨rfl, h2, m2⟩; have H2 := Lib.hid (And.intro h2 m2); clear h2 m2)
        | (go_at_call 75; (with_reducible refine (KK.out _ H2.out.1).mono ?_); rintro e w1 ⟨rfl, b1⟩; have H1 := Lib.hid (E1.out _ w1 H2.out.1 H2.out.2 b1); clear b1)
        | (go_at_call 144; (with_reducible refine (ki _).mono ?_); rintro e w4 ⟨rfl, hw4⟩; rw [hw4]; clear hw4)
        | (go_at_call 30; first | (refine (need_yes _).mono ?_; rintro e w4 ⟨rfl, hw4⟩; rw [hw4]; clear hw4) | (refine (k2 _).mono ?_; rintro e w4 ⟨rfl, hw4⟩; rw [hw4]; clear hw4))
        | (go_at_call 141; (with_reducible refine (KW.out _ H1.out.1 H1.out.2.1).mono ?_); rintro e w5 ⟨⟨aw, cw, rfl, hx⟩, h5, m5⟩; obtain ⟨⟨c3, f3⟩, ⟨c40, c41, c42, c43, c44, c45, c46⟩, FR, AN, MD, HP⟩ := DN.out w1 w5 _ H1.out.2.2 hx h5 m5; obtain ⟨g0, g1, g2, g3, g4, g5, g6, x0, x1, x2, x3, x4, x5, x6, y0, y1, y2, y3, y4, y5, y6, y7⟩ := FR; have HAN := Lib.hid AN; have HMD := Lib.hid MD; have HHP := Lib.hid HP; clear hx h5 m5 AN MD HP y7))
       exact ⟨rfl, rfl, HMD.out⟩
  | some nr =>
   obtain ⟨n, r⟩ := nr
   rw [asg_some ha] at hR
   have hlen := assignS_len ha
   have kA := assigned_some p l n r sg d wr hr (by omega) ha
   obtain ⟨yn, hyn⟩ := hC.nm.own
   obtain ⟨yv, hyv⟩ := hC.vl.own
   obtain ⟨an, cn, rfl, _⟩ := hC.nm.row.shape
   obtain ⟨av, cv, rfl, _⟩ := hC.vl.row.shape
   obtain ⟨X, hX⟩ : ∃ X : ByteArray, X = ⟨n.toArray⟩ := ⟨_, rfl⟩
   rw [← hX] at kA
   have HX := Lib.hid hX
   have AT2 : Hid (∀ w2, Mvd p wr w2 → (w2.cell? ⟨w.heap.size + 1, 1, none⟩ = some (.slice an ns.length cn) ∧ w2.frozen? ⟨w.heap.size + 1, 1, none⟩ = false) ∧ w.heap.size + 2 ≤ w2.heap.size ∧ (w2.alloc (.cells #[.string X] 9)).ownsRow (w.heap.size + 2) 9 1 (.slice an ns.length cn) ns.length yn) := by
    show ∀ _, _
    intro w2 m2
    have hC2 := HC.out.moved m2 hpc
    exact ⟨⟨hC2.cells.1, hC2.cells.2.2.1⟩, by have := m2.size; omega, ownS_same hyn fun g hg => (Below.heap_alloc _ _ _ (by have := (ownS_lt hyn hg).2; have := m2.size; omega)).trans (m2.high g (by have := (ownS_lt hyn hg).1; omega) (ownS_lt hyn hg).2)⟩
   have NM : Hid (∀ w2 w6 v6, Mvd p wr w2 → w6.ownsRow (w.heap.size + 2) 9 1 v6 (ns.length + 1) (yn ++ [.string X]) → (w2.alloc (.cells #[.string X] 9)).grownBy w6 (Value.slice an ns.length cn).ownBlock → (v6.ownBlock = (Value.slice an ns.length cn).ownBlock ∨ v6.ownBlock = some (w2.alloc (.cells #[.string X] 9)).heap.size) → CmX L (w.heap.size + 1) (ns ++ [n]) vs v6 (.slice av vs.length cv) (w6.setCell ⟨w.heap.size + 1, 1, none⟩ v6) ∧ Below (w.heap.size + 1) w2 (w6.setCell ⟨w.heap.size + 1, 1, none⟩ v6) ∧ w6.cell? ⟨w.heap.size + 1, 1, none⟩ = some (.slice an ns.length cn) ∧ w6.frozen? ⟨w.heap.size + 1, 1, none⟩ = false) := by
    show ∀ _, _
    intro w2 w6 v6 m2 h6 hg6 hf6
    have hC2 := HC.out.moved m2 hpc
    have hy2 : w2.ownsRow (w.heap.size + 2) 9 1 (.slice an ns.length cn) ns.length yn := ownS_same hyn fun g hg => m2.high g (by have := (ownS_lt hyn hg).1; omega) (ownS_lt hyn hg).2
    have b5 : Below w2.heap.size w2 (w2.alloc (.cells #[.string X] 9)) := (Below.refl _ w2).alloc (Nat.le_refl _) _
    have hz2 : w.heap.size + 2 ≤ w2.heap.size := by have := m2.size; omega
    have b6 : Below (w.heap.size + 2) w2 w6 := (b5.mono hz2).grown hg6 (by have := b5.size; omega) fun g hg => (ownS_lt hyn hg).1
    have hc6 := (b6.block (w.heap.size + 1) (by omega)).trans hC2.blk
    refine ⟨hC2.name n b5 hy2 (by rw [← HX.out]; exact h6) hg6 hf6, (b6.mono (show w.heap.size + 1 ≤ w.heap.size + 2 by omega)).setCell (p := ⟨w.heap.size + 1, 1, none⟩) (Nat.le_refl _) _, by rw [cell_of_heap hc6]; rfl, frozen_of_heap hc6 _⟩
   have HVS := Lib.hid hvs
   have hvs2 : vs.length ≤ 1048576 := by omega
   have hns2 : ns.length ≤ 1048576 := by omega
   have hbn : (ns.length + 1) * 16 ≤ 140737488355328 := by omega
   have hbv : (vs.length + 1) * 24 ≤ 140737488355328 := by omega
   clear hC hr hm hX hvs
   have E2 : Hid (∀ w2 w3, Mvd p wr w2 → Rs p r sg d w2 → Below (w.heap.size + 1) w2 w3 → Rs p r sg d w3.drew ∧ EnvS p sg w3.drew ∧ Mvq p (w.heap.size + 1) (CW 1 w) w3.drew) := by
    show ∀ _, _
    intro w2 w3 m2 h2 b3
    have hb3 : Below p w2 w3.drew := (b3.mono (show p ≤ w.heap.size + 1 by omega)).drew
    exact ⟨(b3.block p hpc).trans h2, HE.out.below ((HM.out.low.trans m2.low).trans hb3), (HM.out.trans (Mvq.of m2 (Nat.le_of_lt hcz))).trans (Mvq.low' b3.drew (Nat.le_of_lt hpc))⟩
   cases hw : wordS sub r with
   | bad x =>
    rw [hw] at hR
    have hR2 : R = .bad x := hR.symm
    subst hR2
    have hT2 : T = .bad x := hT.symm
    subst hT2
    have KW : Hid (∀ w3, Rs p r sg d w3 → EnvS p sg w3 → Calls Tryz.prog 143 #[.pointer (some ⟨p, 0, none⟩)] w3 fun e w' => e = errS x ∧ Mvd p w3 w') := by
     show ∀ _, _
     intro w3 h3 e3
     have := word_any L sub p sg d hv r w3 h3 e3 (by omega)
     rw [hw] at this
     exact this
    clear hR hT hw
    show Code.wp _ _ _ _ _
    unfold AnsE
    unfold errS at KW ⊢
    go_wp2_with (first
     | (go_at_call 142; (with_reducible refine kA.mono ?_); rintro e w2 ⟨rfl, h2, m2⟩; obtain ⟨⟨q1, q2⟩, q3, q4⟩ := AT2.out w2 m2; have OW := Lib.hid q4; have M2 := Lib.hid m2; have H2 := Lib.hid h2; clear h2 m2 q4)
     | (at_builtin; refine wpList_append_farG _ rfl (.tmp 15) (.tmp 17) 34 rfl (w.heap.size + 2) 9 j0 _ 1 16 Tryz.underlying34 hj hj0 hj1 hj2 rfl (by decide) (.slice an ns.length cn) ns.length yn (by simp [Act.eval]) OW.out ⟨w2.heap.size, 0, none⟩ 1 [.string X] (by simp [Act.eval]) rfl (cells_list w2 _ _) (by simp [Value.oneCell']) (by unfold maxLen; omega) hbn (by simp; omega) ?_; intro v6 w6 h6 g6 f6; obtain ⟨ao2, cap2, rfl, _⟩ := ownS_shape h6; obtain ⟨n1, n2, n3, n4⟩ := NM.out w2 w6 _ M2.out h6 g6 f6; have HN := Lib.hid (And.intro n1 n2); clear h6 g6 f6 n1 n2))
    obtain ⟨hC3, b3⟩ := HN.out
    obtain ⟨e1, e2, e3⟩ := E2.out _ _ M2.out H2.out b3
    have hcel := hC3.cells
    have kw := KW.out _ e1 e2
    have OUT := Lib.hid e3
    have hsz3 : w.heap.size + 2 ≤ (w6.setCell ⟨w.heap.size + 1, 1, none⟩ (.slice ao2 (ns.length + 1) cap2)).heap.size := by have := heap_ltS hC3.blk; omega
    clear HN hC3 b3 e1 e2 e3 n3 n4
    generalize w6.setCell ⟨w.heap.size + 1, 1, none⟩ (.slice ao2 (ns.length + 1) cap2) = w3 at *
    obtain ⟨-, c2, -, f2⟩ := hcel
    have FIN := Lib.hid (fun w7 (m7 : Mvd p w3.drew w7) => cmq_out hp (OUT.out.trans (Mvq.of m7 (show w.heap.size + 1 ≤ w3.drew.heap.size from Nat.le_of_succ_le hsz3))))
    go_region_dies
    all_goals (go_at_call 143; (with_reducible refine kw.mono ?_); rintro e w7 ⟨rfl, m7⟩; (try go_big_unhide); (try simp only [Exit.then, Exit.inBlock]); exact And.intro rfl (And.intro rfl (FIN.out _ m7)))
   | ok ps r' =>
    rw [hw] at hR
    have hR2 : iterS (asgStep sub) (ns ++ [n], vs ++ [ps]) (gapS r') = R := hR
    have hwn := wordS_nice hv.nice r
    rw [hw] at hwn
    have hwn : r'.length ≤ r.length := hwn
    have hgl := gapS_len r'
    have KW : Hid (∀ w3, Rs p r sg d w3 → EnvS p sg w3 → Calls Tryz.prog 143 #[.pointer (some ⟨p, 0, none⟩)] w3 fun e w' => (∃ ao cap, e = .returned (.agg #[.slice ao ps.length cap]) ∧ (PtsV L).q (NewF w3.heap.size w'.heap.size) w' (.slice ao ps.length cap) ps) ∧ Rs p r' sg d w' ∧ Mvd p w3 w') := by
     show ∀ _, _
     intro w3 h3 e3
     have := word_any L sub p sg d hv r w3 h3 e3 (by omega)
     rw [hw] at this
     exact this.mono fun e w' => ansWd
    have KG := Lib.hid (fun w9 (h9 : Rs p r' sg d w9) => gapS_any p r' sg d w9 h9 (by omega))
    cases gk with
    | zero => omega
    | succ g =>
     have NEXT : Hid (∀ (w3 w7 w9 w10 : World) (vn6 v8 : Value), Mvq p (w.heap.size + 1) (CW 1 w) w3.drew → Mvd p w3.drew w7 → Below (w.heap.size + 1) w7 w9 → w.heap.size + 2 ≤ w3.heap.size → CmX L (w.heap.size + 1) (ns ++ [n]) (vs ++ [ps]) vn6 v8 w9 → Rs p (gapS r') sg d w10 → Mvd p w9 w10 → SmI L sub p (w.heap.size + 1) sg d (CW 1 w) R g w10) := by
      show ∀ _, _
      intro w3 w7 w9 w10 vn6 v8 m3 m7 b9 hz3 hC9 h10 m10
      have z7 : w.heap.size + 1 ≤ w3.drew.heap.size := Nat.le_of_succ_le hz3
      exact ⟨ns ++ [n], vs ++ [ps], vn6, v8, gapS r', hC9.moved m10 hpc, h10, ((m3.trans (Mvq.of m7 z7)).trans (Mvq.low' b9 (Nat.le_of_lt hpc))).trans (Mvq.of m10 (Nat.le_of_lt (heap_ltS hC9.blk))), by omega, by rw [List.length_append]; show _ + 1 + _ ≤ _; omega, by rw [List.length_append, List.length_append, HVS.out]; rfl, hR2⟩
     have hsps : ps.length = ps.length := rfl
     obtain ⟨m, hm0⟩ : ∃ m, m = ps.length := ⟨_, rfl⟩
     rw [← hm0] at KW
     clear hR hT hw hR2 hwn hgl hg hnl hlen hm0 hsps ha
     go_wp2_with (first
      | (go_at_call 142; (with_reducible refine kA.mono ?_); rintro e w2 ⟨rfl, h2, m2⟩; obtain ⟨⟨q1, q2⟩, q3, q4⟩ := AT2.out w2 m2; have OW := Lib.hid q4; have M2 := Lib.hid m2; have H2 := Lib.hid h2; clear h2 m2 q4)
      | (at_builtin; refine wpList_append_farG _ rfl (.tmp 15) (.tmp 17) 34 rfl (w.heap.size + 2) 9 j0 _ 1 16 Tryz.underlying34 hj hj0 hj1 hj2 rfl (by decide) (.slice an ns.length cn) ns.length yn (by simp [Act.eval]) OW.out ⟨w2.heap.size, 0, none⟩ 1 [.string X] (by simp [Act.eval]) rfl (cells_list w2 _ _) (by simp [Value.oneCell']) (by unfold maxLen; omega) hbn (by simp; omega) ?_; intro v6 w6 h6 g6 f6; obtain ⟨ao2, cap2, rfl, _⟩ := ownS_shape h6; obtain ⟨n1, n2, n3, n4⟩ := NM.out w2 w6 _ M2.out h6 g6 f6; have HN := Lib.hid (And.intro n1 n2); clear h6 g6 f6 n1 n2))
     obtain ⟨hC3, b3⟩ := HN.out
     obtain ⟨e1, e2, e3⟩ := E2.out _ _ M2.out H2.out b3
     have hcel := hC3.cells
     have kw := KW.out _ e1 e2
     have OUT := Lib.hid e3
     have HC3 := Lib.hid hC3
     have hsz3 : w.heap.size + 2 ≤ (w6.setCell ⟨w.heap.size + 1, 1, none⟩ (.slice ao2 (ns.length + 1) cap2)).heap.size := by have := heap_ltS hC3.blk; omega
     clear HN hC3 b3 e1 e2 e3 n3 n4
     generalize w6.setCell ⟨w.heap.size + 1, 1, none⟩ (.slice ao2 (ns.length + 1) cap2) = w3 at *
     obtain ⟨-, c2, -, f2⟩ := hcel
     obtain ⟨yv, hyv3⟩ := HC3.out.vl.own
     have AT7 : Hid (∀ (w7 : World) (u : Value), Mvd p w3.drew w7 → w7.cell? ⟨w.heap.size + 1, 2, none⟩ = some (.slice av vs.length cv) ∧ w7.frozen? ⟨w.heap.size + 1, 2, none⟩ = false ∧ w.heap.size + 2 ≤ w7.heap.size ∧ (w7.alloc (.cells [u].toArray 40)).ownsRow (w.heap.size + 2) 40 1 (.slice av vs.length cv) vs.length yv ∧ (w7.alloc (.cells #[u] 40)).cell? ⟨w.heap.size + 1, 2, none⟩ = some (.slice av vs.length cv)) := by
      show ∀ _, _
      intro w7 u m7
      have hC7 := (HC3.out.same (w' := w3.drew) (Nat.le_refl _) fun _ _ _ => rfl).moved m7 hpc
      have hz7 : w3.heap.size ≤ w7.heap.size := m7.size
      exact ⟨hC7.cells.2.1, hC7.cells.2.2.2, by omega, ownS_same hyv3 fun g hg => (Below.heap_alloc _ _ _ (by have := (ownS_lt hyv3 hg).2; omega)).trans (m7.high g (by have := (ownS_lt hyv3 hg).1; omega) (ownS_lt hyv3 hg).2), (hC7.same (w' := w7.alloc (.cells #[u] 40)) (by simp) fun g a b => Below.heap_alloc _ _ _ b).cells.2.1⟩
     have VAL : Hid (∀ (w7 w8 : World) (v8 u : Value), Mvd p w3.drew w7 → (PtsV L).q (NewF w3.drew.heap.size w7.heap.size) w7 u ps → w8.ownsRow (w.heap.size + 2) 40 1 v8 (vs.length + 1) (yv ++ [u]) → (w7.alloc (.cells [u].toArray 40)).grownBy w8 (Value.slice av vs.length cv).ownBlock → (v8.ownBlock = (Value.slice av vs.length cv).ownBlock ∨ v8.ownBlock = some (w7.alloc (.cells [u].toArray 40)).heap.size) → CmX L (w.heap.size + 1) (ns ++ [n]) (vs ++ [ps]) (.slice ao2 (ns.length + 1) cap2) v8 (w8.setCell ⟨w.heap.size + 1, 2, none⟩ v8) ∧ Below (w.heap.size + 1) w7 (w8.setCell ⟨w.heap.size + 1, 2, none⟩ v8) ∧ w8.cell? ⟨w.heap.size + 1, 2, none⟩ = some (.slice av vs.length cv) ∧ w8.frozen? ⟨w.heap.size + 1, 2, none⟩ = false) := by
      show ∀ _, _
      intro w7 w8 v8 u m7 hx h8 g8 f8
      have hC7 := (HC3.out.same (w' := w3.drew) (Nat.le_refl _) fun _ _ _ => rfl).moved m7 hpc
      have hy7 : w7.ownsRow (w.heap.size + 2) 40 1 (.slice av vs.length cv) vs.length yv := ownS_same hyv3 fun g hg => m7.high g (by have := (ownS_lt hyv3 hg).1; omega) (ownS_lt hyv3 hg).2
      have b5 : Below w7.heap.size w7 (w7.alloc (.cells [u].toArray 40)) := (Below.refl _ w7).alloc (Nat.le_refl _) _
      have hz7 : w3.heap.size ≤ w7.heap.size := m7.size
      have b6 : Below (w.heap.size + 2) w7 w8 := (b5.mono (by omega)).grown g8 (by have := b5.size; omega) fun g hg => (ownS_lt hyv3 hg).1
      have hc8 := (b6.block (w.heap.size + 1) (by omega)).trans hC7.blk
      have nin : ∀ g, NewF w3.drew.heap.size w7.heap.size g → (Value.slice av vs.length cv).ownBlock ≠ some g ∧ (Value.slice ao2 (ns.length + 1) cap2).ownBlock ≠ some g := fun g hg => ⟨fun e => by have := (HC3.out.vl.lt g e).2; have : w3.heap.size ≤ g := hg.1; omega, fun e => by have := (HC3.out.nm.lt g e).2; have : w3.heap.size ≤ g := hg.1; omega⟩
      refine ⟨hC7.value ps hx (fun g hg => ⟨by have : w3.heap.size ≤ g := hg.1; omega, hg.2⟩) nin b5 hy7 h8 g8 f8, (b6.mono (show w.heap.size + 1 ≤ w.heap.size + 2 by omega)).setCell (p := ⟨w.heap.size + 1, 2, none⟩) (Nat.le_refl _) _, by rw [cell_of_heap hc8]; rfl, frozen_of_heap hc8 _⟩
     have RS9 : Hid (∀ w7 w9, Rs p r' sg d w7 → Below (w.heap.size + 1) w7 w9 → Rs p r' sg d w9) := fun w7 w9 h7 b9 => (b9.block p hpc).trans h7
     clear hyv3
     go_region_law (first
      | (go_simp; go_at_call 143; (with_reducible refine kw.mono ?_); rintro e w7 ⟨⟨au, cu, rfl, hx⟩, h7, m7⟩; obtain ⟨d1, d2, d3, d4, d5⟩ := AT7.out w7 (.slice au m cu) m7; have OV := Lib.hid d4; have H7 := Lib.hid (And.intro hx (And.intro h7 m7)); clear hx h7 m7 d4)
      | (refine step_append_farG rfl (.tmp 21) (.tmp 24) 35 rfl (w.heap.size + 2) 40 i0 _ 1 24 Tryz.underlying35 hi hz0 hz1 hz2 rfl (by decide) (.slice av vs.length cv) vs.length yv (by simp [Act.eval]) OV.out ⟨w7.heap.size, 0, none⟩ 1 [.slice au m cu] (by simp [Act.eval]) rfl (cells_list w7 _ _) (by simp [Value.oneCell']) (by unfold maxLen; omega) hbv (by simp; omega) ?_; intro v8 w8 h8 g8 f8; obtain ⟨ao8, cap8, rfl, _⟩ := ownS_shape h8; obtain ⟨s1, s2, s3, s4⟩ := VAL.out w7 w8 _ _ H7.out.2.2 H7.out.1 h8 g8 f8; have HV := Lib.hid (And.intro s1 s2); clear h8 g8 f8 s1 s2))
     all_goals
      have kg := KG.out _ (RS9.out _ _ H7.out.2.1 HV.out.2)
      clear c2 f2 d1 d2 d5 s3 s4
      go_wp2_with (go_at_call 73; (with_reducible refine kg.mono ?_); rintro e w10 ⟨rfl, h10, m10⟩; have HNX := Lib.hid (NEXT.out _ _ _ w10 _ _ OUT.out H7.out.2.2 HV.out.2 hsz3 HV.out.1 h10 m10); clear h10 m10)
      go_roundg g
      case measure => omega
      case rel => exact HNX.out
end Go.Proofs.YtelfgobjnibooaaGreatDoor
