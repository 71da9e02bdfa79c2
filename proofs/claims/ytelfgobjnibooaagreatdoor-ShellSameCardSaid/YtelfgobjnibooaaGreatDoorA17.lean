/- Packed texts: ShRow, ShRow2, ShFits. What each of them proves stands above its theorems; the conditions stand in these. -/
import Derived.Test.YtelfgobjnibooaaGreatDoorA16
namespace Go.Proofs.YtelfgobjnibooaaGreatDoor
open Go.RowKit Go.Lib
structure RowS (L : ValP (List Co)) (p b B : Nat) (sg : Value) (d : Nat) (W0 : World) (cs : List Co) (c : Co) (l : List UInt8) (Z : Int) (v1 v2 v3 v4 v5 v6 vr : Value) (w : World) : Prop where
 z : Z = (c.k : Int)
 blk : w.heap[b]? = some (.cells #[.int .i64 Z, v1, v2, v3, v4, v5, v6] 37 (0, 0))
 co : ∃ Fc : Nat → Prop, (∀ g, Fc g → B ≤ g ∧ g < w.heap.size ∧ g ≠ b) ∧ (cmdE L).q Fc w c [.int .i64 Z, v1, v2, v3, v4, v5, v6] ∧ BldA (cmdE L) 37 B (fun g => Fc g ∨ g = b) w vr cs
 rs : Rs p l sg d w
 env : EnvS p sg w
 mv : Mvd p W0 w
 hB : B ≤ b
structure RowT (L : ValP (List Co)) (p b B : Nat) (sg : Value) (d : Nat) (W0 : World) (cs : List Co) (l : List UInt8) (vr : Value) (w : World) : Prop where
 fr : Free7 b w
 row : BldA (cmdE L) 37 B (fun g => g = b) w vr cs
 rs : Rs p l sg d w
 env : EnvS p sg w
 mv : Mvd p W0 w
 hB : B ≤ b
theorem free7_same {b : Nat} {w w' : World} (h : Free7 b w) (e : w'.heap[b]? = w.heap[b]?) : Free7 b w' := by
 obtain ⟨_, _, _, _, _, _, _, x0, x1, x2, x3, x4, x5, x6, _, _, _, _, _, _, _, hblk⟩ := h
 exact free7_of (e.trans hblk)
theorem Free7.lt {b : Nat} {w : World} (h : Free7 b w) : b < w.heap.size := by
 obtain ⟨_, _, _, _, _, _, _, x0, x1, x2, x3, x4, x5, x6, _, _, _, _, _, _, _, hblk⟩ := h
 exact heap_ltS hblk
theorem RowS.move {L : ValP (List Co)} {p b B : Nat} {sg : Value} {d : Nat} {W0 : World} {cs : List Co} {c : Co} {l r : List UInt8} {Z : Int} {v1 v2 v3 v4 v5 v6 vr : Value} {w w' : World} (h : RowS L p b B sg d W0 cs c l Z v1 v2 v3 v4 v5 v6 vr w) (hpB : p < B) (m : Mvd p w w') (hr : Rs p r sg d w') : RowS L p b B sg d W0 cs c r Z v1 v2 v3 v4 v5 v6 vr w' := by
 obtain ⟨Fc, h1, h2, h3⟩ := h.co
 have hb := heap_ltS h.blk
 have hB := h.hB
 have keep : ∀ g, B ≤ g → g < w.heap.size → w'.heap[g]? = w.heap[g]? := fun g a b => m.high g (by omega) b
 exact ⟨h.z, (m.high b (by omega) hb).trans h.blk, ⟨Fc, fun g hg => ⟨(h1 g hg).1, Nat.lt_of_lt_of_le (h1 g hg).2.1 m.size, (h1 g hg).2.2⟩, (cmdE L).same _ _ _ _ _ (fun g hg => keep g (h1 g hg).1 (h1 g hg).2.1) h2, h3.same m.size fun g a b _ => keep g a b⟩, hr, h.env.below m.low, h.mv.trans m, hB⟩
theorem RowT.move {L : ValP (List Co)} {p b B : Nat} {sg : Value} {d : Nat} {W0 : World} {cs : List Co} {l r : List UInt8} {vr : Value} {w w' : World} (h : RowT L p b B sg d W0 cs l vr w) (hpB : p < B) (m : Mvd p w w') (hr : Rs p r sg d w') : RowT L p b B sg d W0 cs r vr w' := by
 have hB := h.hB
 have keep : ∀ g, B ≤ g → g < w.heap.size → w'.heap[g]? = w.heap[g]? := fun g a b => m.high g (by omega) b
 exact ⟨free7_same h.fr (m.high b (by omega) h.fr.lt), h.row.same m.size fun g a b _ => keep g a b, hr, h.env.below m.low, h.mv.trans m, hB⟩
theorem RowS.app {L : ValP (List Co)} {p b B : Nat} {sg : Value} {d : Nat} {W0 : World} {cs : List Co} {c : Co} {l : List UInt8} {Z : Int} {v1 v2 v3 v4 v5 v6 vr vr6 : Value} {ys : List Value} {w w5 w6 : World} (h : RowS L p b B sg d W0 cs c l Z v1 v2 v3 v4 v5 v6 vr w) (hpB : p < B) (hW : B ≤ W0.heap.size) (b5 : Below w.heap.size w w5) (hy : w.ownsRow B 37 7 vr cs.length ys) (h6 : w6.ownsRow B 37 7 vr6 (cs.length + 1) (ys ++ [.int .i64 Z, v1, v2, v3, v4, v5, v6])) (hg : w5.grownBy w6 vr.ownBlock) (hf : vr6.ownBlock = vr.ownBlock ∨ vr6.ownBlock = some w5.heap.size) (hWB : W0.heap.size ≤ B) :
  RowT L p b B sg d W0 (cs ++ [c]) l vr6 w6 := by
 obtain ⟨Fc, h1, h2, h3⟩ := h.co
 have hb := heap_ltS h.blk
 have hB := h.hB
 have hz := b5.size
 have h35 : BldA (cmdE L) 37 B (fun g => Fc g ∨ g = b) w5 vr cs := h3.same hz fun g a b _ => b5.block g b
 have h35b : BldA (cmdE L) 37 B (fun g => g = b) w5 vr cs := h35.avoid fun g hg => .inl (.inr hg)
 have hy5 : w5.ownsRow B 37 7 vr cs.length ys := ownS_same hy fun g hg => b5.block g (ownS_lt hy hg).2
 have h25 : (cmdE L).q Fc w5 c [.int .i64 Z, v1, v2, v3, v4, v5, v6] := (cmdE L).same _ _ _ _ _ (fun g hg => b5.block g (h1 g hg).2.1) h2
 have hAv : ∀ g, Fc g ∨ g = b → vr.ownBlock ≠ some g := by
  obtain ⟨css, F, k1, k2, k3, k4, k5, k6⟩ := h3
  exact fun g hg => (k6 g hg).2
 have hbl := h35b.snoc h25 (fun g hg => ⟨(h1 g hg).1, by have := (h1 g hg).2.1; omega⟩) (fun g hg => hAv g (.inl hg)) (fun g hg => ⟨fun hfc => (h1 g hfc).2.2 hg, by rw [hg]; omega⟩) hy5 h6 hg hf
 have bel6 : Below B w5 w6 := (Below.refl B w5).grown hg (by have := h.mv.size; omega) fun g hg => (ownS_lt hy hg).1
 have hp5 : p < w5.heap.size := by have := h.rs.lt; omega
 have hm6 : Mvd p W0 w6 := ⟨(h.mv.low.trans (b5.mono (Nat.le_of_lt h.rs.lt))).trans (bel6.mono (Nat.le_of_lt hpB)), fun g a bb => (bel6.block g (by omega)).trans ((b5.block g (by have := h.mv.size; omega)).trans (h.mv.high g a bb))⟩
 refine ⟨free7_same (free7_of h.blk) ((hg.block b (by omega) fun e => hAv b (.inr rfl) e.symm).trans (b5.block b hb)), hbl, (bel6.block p hpB).trans (h.rs.below b5), h.env.below ((b5.mono (Nat.le_of_lt h.rs.lt)).trans (bel6.mono (Nat.le_of_lt hpB))), hm6, hB⟩
theorem RowT.next {L : ValP (List Co)} {p b B : Nat} {sg : Value} {d : Nat} {W0 : World} {cs : List Co} {c : Co} {l r : List UInt8} {Z : Int} {v1 v2 v3 v4 v5 v6 vr : Value} {w w' : World} (h : RowT L p b B sg d W0 cs l vr w) (hpB : p < B) (m : Mvd p w w') (hr : Rs p r sg d w') (hZ : Z = (c.k : Int)) (hq : (cmdE L).q (NewF w.heap.size w'.heap.size) w' c [.int .i64 Z, v1, v2, v3, v4, v5, v6]) (hWB : W0.heap.size ≤ B) :
  Free7 b w' ∧ RowS L p b B sg d W0 cs c r Z v1 v2 v3 v4 v5 v6 vr (S7 w' b (.int .i64 Z) v1 v2 v3 v4 v5 v6) := by
 have hB := h.hB
 have hlt := h.fr.lt
 have h1 := h.move hpB m hr
 have hsz : (S7 w' b (.int .i64 Z) v1 v2 v3 v4 v5 v6).heap.size = w'.heap.size := S7_size _ _ _ _ _ _ _ _ _
 have other : ∀ g, g ≠ b → (S7 w' b (.int .i64 Z) v1 v2 v3 v4 v5 v6).heap[g]? = w'.heap[g]? := fun g hg => S7_other _ _ _ _ _ _ _ hg
 have hlow : Below p w' (S7 w' b (.int .i64 Z) v1 v2 v3 v4 v5 v6) := ((Mv2.of (b := b) (Mvd.refl p w')).own7 (by omega) _ _ _ _ _ _ _).low
 have hBsz : B ≤ w.heap.size := by omega
 have h2 : BldA (cmdE L) 37 B (fun g => NewF w.heap.size w'.heap.size g ∨ g = b) w' vr cs := (h.row.avoid (A' := fun g => NewF w.heap.size w'.heap.size g ∨ g = b) fun g hg => by
  rcases hg with hg | hg
  ·exact .inr hg.1
  ·exact .inl hg).same m.size fun g a bb _ => m.high g (by omega) bb
 have hW0 : W0.heap.size ≤ w.heap.size := h.mv.size
 obtain ⟨y0, y1, y2, y3, y4, y5, y6, x0, x1, x2, x3, x4, x5, x6, t0, t1, t2, t3, t4, t5, t6, hblk⟩ := h1.fr
 refine ⟨h1.fr, hZ, S7_heap _ _ _ _ _ _ _ hblk, ⟨NewF w.heap.size w'.heap.size, fun g hg => ⟨by have := hg.1; omega, by rw [hsz]; exact hg.2, by have := hg.1; omega⟩, (cmdE L).same _ _ _ _ _ (fun g hg => other g (by have := hg.1; omega)) hq, h2.same (by rw [hsz]; exact Nat.le_refl _) fun g a bb hA => other g fun e => hA (.inr e)⟩, hr.same (other p (by omega)), h1.env.below hlow, ⟨h1.mv.low.trans hlow, fun g a bb => ?_⟩, hB⟩
 by_cases e : g = b
 ·omega
 ·exact (other g e).trans (h1.mv.high g a bb)
def RW (w : World) : World := w.alloc (.cells #[.int .i64 0, .slice none 0 0, .slice none 0 0, .slice none 0 0, .slice none 0 0, .slice none 0 0, .slice none 0 0] 37)
theorem RW_facts (w : World) : (RW w).heap.size = w.heap.size + 1 ∧ Below w.heap.size w (RW w) ∧ (RW w).heap[w.heap.size]? = some (.cells #[.int .i64 0, .slice none 0 0, .slice none 0 0, .slice none 0 0, .slice none 0 0, .slice none 0 0, .slice none 0 0] 37 (0, 0)) :=
 ⟨by unfold RW; simp, (Below.refl _ w).alloc (Nat.le_refl _) _, heap_alloc_new w _⟩
theorem RW_out {p : Nat} {w w1 : World} (hp : p < w.heap.size) (hm : Mvd p (RW w) w1) : Mvd p w w1 ∧ w1.heap[w.heap.size]? = some (.cells #[.int .i64 0, .slice none 0 0, .slice none 0 0, .slice none 0 0, .slice none 0 0, .slice none 0 0, .slice none 0 0] 37 (0, 0)) ∧ Free7 w.heap.size w1 := by
 obtain ⟨z, hb, h1⟩ := RW_facts w
 have e1 := (hm.high w.heap.size (by omega) (by omega)).trans h1
 exact ⟨⟨(hb.mono (Nat.le_of_lt hp)).trans hm.low, fun g hg hs => (hm.high g hg (by omega)).trans (hb.block g hs)⟩, e1, free7_of e1⟩
theorem row_begin {L : ValP (List Co)} {p : Nat} {sg : Value} {d : Nat} {c : Co} {r : List UInt8} {Z : Int} {v1 v2 v3 v4 v5 v6 : Value} {w w2 : World} (hp : p < w.heap.size) (hE : EnvS p sg w) (hZ : Z = (c.k : Int)) (hq : (cmdE L).q (NewF (RW w).heap.size w2.heap.size) w2 c [.int .i64 Z, v1, v2, v3, v4, v5, v6]) (hr : Rs p r sg d w2) (hm : Mvd p (RW w) w2) :
  RowS L p w2.heap.size (w.heap.size + 1) sg d (RW w) [] c r Z v1 v2 v3 v4 v5 v6 (.slice none 0 0) (w2.alloc (.cells #[.int .i64 Z, v1, v2, v3, v4, v5, v6] 37)) := by
 obtain ⟨z, hb, h1⟩ := RW_facts w
 have hz2 := hm.size
 have b3 : Below w2.heap.size w2 (w2.alloc (.cells #[.int .i64 Z, v1, v2, v3, v4, v5, v6] 37)) := (Below.refl _ w2).alloc (Nat.le_refl _) _
 have hp2 : p < w2.heap.size := hr.lt
 refine ⟨hZ, heap_alloc_new w2 _, ⟨NewF (RW w).heap.size w2.heap.size, fun g hg => ⟨by have := hg.1; omega, by have := hg.2; simp; omega, by have := hg.2; omega⟩, (cmdE L).same _ _ _ _ _ (fun g hg => b3.block g hg.2) hq, BldA.nil _ _ _ _ _⟩, hr.below b3, (hE.below ((hb.mono (Nat.le_of_lt hp)).trans hm.low)).below (b3.mono (Nat.le_of_lt hp2)), hm.trans (Mvd.of b3 hp2), by omega⟩
theorem RowS.forms {L : ValP (List Co)} (hL : GoodL L) {p b B : Nat} {sg : Value} {d : Nat} {W0 : World} {cs : List Co} {c : Co} {l : List UInt8} {Z : Int} {v1 v2 v3 v4 v5 v6 vr : Value} {w : World} (h : RowS L p b B sg d W0 cs c l Z v1 v2 v3 v4 v5 v6 vr w) :
  ∃ (an : Option Addr) (nn cn : Nat) (av : Option Addr) (nv cv : Nat) (aw : Option Addr) (nw cw : Nat) (aa : Option Addr) (na ca : Nat) (ab : Option Addr) (nb cb : Nat) (ac : Option Addr) (nc cc : Nat) (ar : Option Addr) (cr : Nat), v1 = .slice an nn cn ∧ v2 = .slice av nv cv ∧ v3 = .slice aw nw cw ∧ v4 = .slice aa na ca ∧ v5 = .slice ab nb cb ∧ v6 = .slice ac nc cc ∧ vr = .slice ar cs.length cr ∧ nn = c.n.length := by
 obtain ⟨Fc, h1, h2, h3⟩ := h.co
 obtain ⟨vn, vv, vw, va, vb, vc, h0, k1, k2, k3, k4, k5, k6⟩ := h2
 injection h0 with _ h0
 injection h0 with e1 h0
 injection h0 with e2 h0
 injection h0 with e3 h0
 injection h0 with e4 h0
 injection h0 with e5 h0
 injection h0 with e6 h0
 subst e1 e2 e3 e4 e5 e6
 obtain ⟨an, cn, rfl, _⟩ := str_shape k1
 obtain ⟨av, cv, rfl, _⟩ := wds_shape k2
 obtain ⟨aw, cw, rfl, _⟩ := wds_shape k3
 obtain ⟨aa, ca, rfl, _⟩ := hL.shape _ _ _ _ k4
 obtain ⟨ab, cb, rfl, _⟩ := hL.shape _ _ _ _ k5
 obtain ⟨ac, cc, rfl, _⟩ := hL.shape _ _ _ _ k6
 obtain ⟨ar, cr, rfl, _⟩ := h3.row.shape
 exact ⟨an, _, cn, av, _, cv, aw, _, cw, aa, _, ca, ab, _, cb, ac, _, cc, ar, cr, rfl, rfl, rfl, rfl, rfl, rfl, rfl, rfl⟩
theorem RowS.fin {L M : ValP (List Co)} (hup : Ups L M) {p b : Nat} {sg : Value} {d : Nat} {cs : List Co} {c : Co} {l : List UInt8} {Z : Int} {v1 v2 v3 v4 v5 v6 vr : Value} {w wr : World} (hp : p < w.heap.size) (h : RowS L p b (w.heap.size + 1) sg d (RW w) cs c l Z v1 v2 v3 v4 v5 v6 vr wr) :
  Free7 w.heap.size wr ∧ AnsE (cmdE M) p sg d w (.ok c l) (.returned (.agg #[.int .i64 Z, v1, v2, v3, v4, v5, v6])) (S7 wr w.heap.size (.int .i64 Z) v1 v2 v3 v4 v5 v6) ∧ (S7 wr w.heap.size (.int .i64 Z) v1 v2 v3 v4 v5 v6).heap[w.heap.size]? = some (.cells #[.int .i64 Z, v1, v2, v3, v4, v5, v6] 37 (0, 0)) := by
 obtain ⟨m1, hb, hf⟩ := RW_out hp h.mv
 obtain ⟨hz, hblk, ⟨Fc, h1, h2, h3⟩, hr, he, hm, hB⟩ := h
 subst hz
 refine ⟨hf, ?_, S7_heap _ _ _ _ _ _ _ hb⟩
 have h2 := cmd_ups hup _ _ _ _ h2
 obtain ⟨k, n, v, ww, a, bb, cc⟩ := c
 obtain ⟨vn, vv, vw, va, vb, vc, h0, k1, k2, k3, k4, k5, k6⟩ := h2
 injection h0 with _ h0
 injection h0 with e1 h0
 injection h0 with e2 h0
 injection h0 with e3 h0
 injection h0 with e4 h0
 injection h0 with e5 h0
 injection h0 with e6 h0
 subst e1 e2 e3 e4 e5 e6
 have up : ∀ g, Fc g → NewF (w.heap.size + 1) wr.heap.size g := fun g hg => ⟨(h1 g hg).1, (h1 g hg).2.1⟩
 exact cmd_ans (k := k) hp (Nat.le_refl _) hr m1 (StrV.mono _ _ _ _ _ up k1) ((WdsV M).mono _ _ _ _ _ up k2) ((WdsV M).mono _ _ _ _ _ up k3) (M.mono _ _ _ _ _ up k4) (M.mono _ _ _ _ _ up k5) (M.mono _ _ _ _ _ up k6) hb
theorem RowT.fin {L M : ValP (List Co)} (hM : GoodL M) (hrow : Ups (RowV (cmdE L) 37) M) {p b K : Nat} {Z : Int} (hZ : Z = (K : Int)) {sg : Value} {d : Nat} {cs : List Co} {l : List UInt8} {vr : Value} {w wr : World} (hp : p < w.heap.size) (h : RowT L p b (w.heap.size + 1) sg d (RW w) cs l vr wr) :
  Free7 w.heap.size wr ∧ AnsE (cmdE M) p sg d w (.ok (.mk K [] [] [] cs [] []) l) (.returned (.agg #[.int .i64 Z, .slice none 0 0, .slice none 0 0, .slice none 0 0, vr, .slice none 0 0, .slice none 0 0])) (S7 wr w.heap.size (.int .i64 Z) (.slice none 0 0) (.slice none 0 0) (.slice none 0 0) vr (.slice none 0 0) (.slice none 0 0)) ∧ (S7 wr w.heap.size (.int .i64 Z) (.slice none 0 0) (.slice none 0 0) (.slice none 0 0) vr (.slice none 0 0) (.slice none 0 0)).heap[w.heap.size]? = some (.cells #[.int .i64 Z, .slice none 0 0, .slice none 0 0, .slice none 0 0, vr, .slice none 0 0, .slice none 0 0] 37 (0, 0)) := by
 obtain ⟨m1, hb, hf⟩ := RW_out hp h.mv
 subst hZ
 exact ⟨hf, cmd_ans (k := K) hp (Nat.le_refl _) h.rs m1 (RowM.nil _ _ _ _) (RowM.nil _ _ _ _) (RowM.nil _ _ _ _) (hrow _ _ _ _ h.row.row) (hM.nil _ _) (hM.nil _ _) hb, S7_heap _ _ _ _ _ _ _ hb⟩
end Go.Proofs.YtelfgobjnibooaaGreatDoor
namespace Go.Proofs.YtelfgobjnibooaaGreatDoor
open Go.RowKit Go.Lib
theorem Tryz.infoCmdZ7 : (Tryz.prog.info? 37).map (fun i => (i.zero, i.size, i.bytes)) = some (some (.agg #[.int .i64 0, .slice none 0 0, .slice none 0 0, .slice none 0 0, .slice none 0 0, .slice none 0 0, .slice none 0 0]), 7, 152) := by kernel_rfl
def RoI (L : ValP (List Co)) (p b : Nat) (sg : Value) (d : Nat) (w : World) (KK : World → Prop) (step : List Co × Co × Bool → List UInt8 → Rr (It (List Co × Co × Bool) Co)) (R : Rr Co) (g : Nat) (v11 v12 : Value) (wr : World) : Prop :=
 ∃ cs c more l Z v1 v2 v3 v4 v5 v6, v11 = .bool more ∧ RowS L p b (w.heap.size + 1) sg d (RW w) cs c l Z v1 v2 v3 v4 v5 v6 v12 wr ∧ KK wr ∧ l.length ≤ g ∧ cs.length + l.length ≤ 1048576 ∧ iterS step (cs, c, more) l = R
structure OneK (L : ValP (List Co)) (p a4 B0 : Nat) (sg : Value) (d : Nat) (k1 k2 : FuncId) (f1 c1 : Array Value) (one : List UInt8 → Rr Co) (fits : Co → Bool) (KK : World → Prop) : Prop where
 keep : ∀ w w' : World, KK w → w.heap.size ≤ w'.heap.size → (∀ g, g ≠ p → g < B0 → w'.heap[g]? = w.heap[g]?) → KK w'
 cell : ∀ w, KK w → w.cell? ⟨a4, 0, none⟩ = some (.pointer (some ⟨p, 0, none⟩))
 call : ∀ l w, Rs p l sg d w → EnvS p sg w → KK w → l.length ≤ 1048576 → Calls Tryz.prog k1 (f1 ++ c1) w (AnsE (cmdE L) p sg d w (one l))
 nice : ∀ l, Nice l (one l)
 lt : NotNil one
 fit : ∀ (c : Co) (Z : Int) (an : Option Addr) (nn cn : Nat) (av : Option Addr) (nv cv : Nat) (aw : Option Addr) (nw cw : Nat) (aa : Option Addr) (na ca : Nat) (ab : Option Addr) (nb cb : Nat) (ac : Option Addr) (nc cc : Nat) (w : World), Z = (c.k : Int) → nn = c.n.length → Calls Tryz.prog k2 #[.agg #[.int .i64 Z, .slice an nn cn, .slice av nv cv, .slice aw nw cw, .slice aa na ca, .slice ab nb cb, .slice ac nc cc]] w fun e w' => e = .returned (.bool (fits c)) ∧ Below w.heap.size w w'
theorem row_e1 {K : Nat} {mk : List UInt8} {one : List UInt8 → Rr Co} {fits : Co → Bool} {cs : List Co} {c : Co} {more : Bool} {l : List UInt8} (h : fits c = false) : rowStep K mk one fits (cs, c, more) l = .bad 9 := by unfold rowStep; exact if_pos h
theorem row_e2 {K : Nat} {mk : List UInt8} {one : List UInt8 → Rr Co} {fits : Co → Bool} {cs : List Co} {c : Co} {l : List UInt8} (h : fits c = true) : rowStep K mk one fits (cs, c, false) l = .ok (.stop (.mk K [] [] [] (cs ++ [c]) [] [])) l := by unfold rowStep; rw [if_neg (by show ¬ fits c = false; rw [h]; simp)]; exact if_pos rfl
theorem row_e3 {K : Nat} {mk : List UInt8} {one : List UInt8 → Rr Co} {fits : Co → Bool} {cs : List Co} {c : Co} {l : List UInt8} (h : fits c = true) : rowStep K mk one fits (cs, c, true) l = (one (skipS [10] l)).bind fun c' r => .ok (.go (cs ++ [c], c', (markS mk r).isSome)) (behindS mk r) := by unfold rowStep; rw [if_neg (by show ¬ fits c = false; rw [h]; simp)]; exact if_neg (by simp)
set_option maxHeartbeats 8000000 in
set_option maxRecDepth 20000 in
theorem row_any (L M : ValP (List Co)) (hL : GoodL L) (hM : GoodL M) (hup : Ups L M) (hrow : Ups (RowV (cmdE L) 37) M) (p a4 : Nat) (sg : Value) (d K : Nat) (Z0 : Int) (hZ0 : Z0 = (K : Int)) (mk : List UInt8) (hmk : mk = [124] ∨ mk = [124, 124]) (k1 k2 : FuncId) (f1 c1 : Array Value) (he1 : ∀ args w, (callFunc k1 args).run Tryz.prog w = .ok (.enter k1 args) w) (he2 : ∀ args w, (callFunc k2 args).run Tryz.prog w = .ok (.enter k2 args) w) (one : List UInt8 → Rr Co) (fits : Co → Bool) (KK : World → Prop) (B0 : Nat) (O : OneK L p a4 B0 sg d k1 k2 f1 c1 one fits KK) (l : List UInt8) (w : World) (hB0 : B0 ≤ w.heap.size) (h : Rs p l sg d w) (hE : EnvS p sg w) (hK : KK w) (hl : l.length ≤ 1048576) :
  Calls Tryz.prog 76 #[.int .i64 Z0, .string ⟨mk.toArray⟩, .func (.func k1) f1 c1, .func (.func k2) #[] #[], .pointer (some ⟨a4, 0, none⟩)] w (AnsE (cmdE M) p sg d w (rowS K mk one fits l)) := by
 obtain ⟨z, hb, b1⟩ := RW_facts w
 have HZ0 := Lib.hid hZ0
 clear hZ0
 have hp := h.lt
 have hpB : p < w.heap.size + 1 := by omega
 have hW := h.below hb
 have hm0 : Mvd p w (RW w) := Mvd.of hb hp
 have KOF := Lib.hid (fun w' (m : Mvd p (RW w) w') => O.keep w w' hK (hm0.trans m).size (fun g a b => (hm0.trans m).high g a (by omega)))
 have k0 := O.call l (RW w) hW (hE.below hm0.low) (KOF.out _ (Mvd.refl _ _)) hl
 obtain ⟨i0, hi, hz0, hz1, hz2⟩ := info_parts Tryz.infoCmdZ7
 have hn0 := O.nice l
 obtain ⟨mv, hmv⟩ : ∃ mv : ByteArray, mv = ⟨mk.toArray⟩ := ⟨_, rfl⟩
 have KM := Lib.hid (fun (l : List UInt8) w1 (h1 : Rs p l sg d w1) (hl : l.length ≤ 1048576) => mark_any p mk l hmk sg d w1 h1 hl)
 rw [← hmv] at KM ⊢
 clear hmv
 unfold rowS
 cases hr : one l with
 | bad x =>
  rw [hr] at k0
  have k0 : Calls Tryz.prog k1 (f1 ++ c1) (RW w) fun e w' => e = errS x ∧ Mvd p (RW w) w' := k0
  show Calls _ _ _ _ fun e w' => e = errS x ∧ Mvd p w w'
  have OUT := Lib.hid (fun w1 (m : Mvd p (RW w) w1) => hm0.trans m)
  clear h hE hW b1 hb hm0 hn0 hr
  unfold errS at k0 ⊢
  unfold RW at k0 OUT
  go_enter Tryz.func76, Tryz.ntmps76
  go_wp2_with (go_at_fn k1; (with_reducible refine k0.mono ?_); rintro e w1 ⟨rfl, m1⟩)
  exact ⟨rfl, rfl, OUT.out _ m1⟩
 | ok c r =>
  rw [hr] at k0 hn0
  have hn0 : r.length ≤ l.length := hn0
  have k0 := k0.mono fun e w' => ansCo hL
  show Calls _ _ _ _ (AnsE (cmdE M) p sg d w (if (markS mk r).isSome = false then .ok c (behindS mk r) else iterS (rowStep K mk one fits) ([], c, true) (behindS mk r)))
  have hbl := behindS_len mk r
  have AT1 : Hid (∀ (w2 : World) (Z : Int) (an : Option Addr) (nn cn : Nat) (av : Option Addr) (nv cv : Nat) (aw : Option Addr) (nw cw : Nat) (aa : Option Addr) (na ca : Nat) (ab : Option Addr) (nb cb : Nat) (ac : Option Addr) (nc cc : Nat), Z = (c.k : Int) → (cmdE L).q (NewF (RW w).heap.size w2.heap.size) w2 c [.int .i64 Z, .slice an nn cn, .slice av nv cv, .slice aw nw cw, .slice aa na ca, .slice ab nb cb, .slice ac nc cc] → Rs p r sg d w2 → Mvd p (RW w) w2 → RowS L p w2.heap.size (w.heap.size + 1) sg d (RW w) [] c r Z (.slice an nn cn) (.slice av nv cv) (.slice aw nw cw) (.slice aa na ca) (.slice ab nb cb) (.slice ac nc cc) (.slice none 0 0) (w2.alloc (.cells #[.int .i64 Z, .slice an nn cn, .slice av nv cv, .slice aw nw cw, .slice aa na ca, .slice ab nb cb, .slice ac nc cc] 37)) ∧ KK (w2.alloc (.cells #[.int .i64 Z, .slice an nn cn, .slice av nv cv, .slice aw nw cw, .slice aa na ca, .slice ab nb cb, .slice ac nc cc] 37)) ∧ (w2.alloc (.cells #[.int .i64 Z, .slice an nn cn, .slice av nv cv, .slice aw nw cw, .slice aa na ca, .slice ab nb cb, .slice ac nc cc] 37)).cell? ⟨a4, 0, none⟩ = some (.pointer (some ⟨p, 0, none⟩))) := by
   show ∀ _, _
   intro w2 Z an nn cn av nv cv aw nw cw aa na ca ab nb cb ac nc cc hZ hq h2 m2
   have hk3 : KK (w2.alloc (.cells #[.int .i64 Z, .slice an nn cn, .slice av nv cv, .slice aw nw cw, .slice aa na ca, .slice ab nb cb, .slice ac nc cc] 37)) := KOF.out _ (m2.trans (Mvd.of ((Below.refl _ w2).alloc (Nat.le_refl _) _) h2.lt))
   exact ⟨row_begin hp hE hZ hq h2 m2, hk3, O.cell _ hk3⟩
  cases hm : (markS mk r).isSome with
  | false =>
   rw [if_pos rfl]
   have KM2 : Hid (∀ w3, Rs p r sg d w3 → Calls Tryz.prog 77 #[.pointer (some ⟨p, 0, none⟩), .string mv] w3 fun e w' => e = .returned (.bool false) ∧ Rs p (behindS mk r) sg d w' ∧ Mvd p w3 w') := by
    show ∀ _, _
    intro w3 h3
    have := KM.out r w3 h3 (by omega)
    rw [hm] at this
    exact this
   have FIN := Lib.hid (fun (b : Nat) (cs : List Co) (Z : Int) (an : Option Addr) (nn cn : Nat) (av : Option Addr) (nv cv : Nat) (aw : Option Addr) (nw cw : Nat) (aa : Option Addr) (na ca : Nat) (ab : Option Addr) (nb cb : Nat) (ac : Option Addr) (nc cc : Nat) (vr : Value) (w3 w4 : World) (hS : RowS L p b (w.heap.size + 1) sg d (RW w) cs c r Z (.slice an nn cn) (.slice av nv cv) (.slice aw nw cw) (.slice aa na ca) (.slice ab nb cb) (.slice ac nc cc) vr w3) (h4 : Rs p (behindS mk r) sg d w4) (m4 : Mvd p w3 w4) => And.intro (cells_seven (hS.move hpB m4 h4).blk) ((hS.move hpB m4 h4).fin hup hp))
   clear h hE hW b1 hb hm0 hn0 hr hm KM hK
   unfold RW at k0 AT1 FIN
   go_enter Tryz.func76, Tryz.ntmps76
   go_wp2_with (first
    | (go_at_fn k1; (with_reducible refine k0.mono ?_); rintro e w2 ⟨⟨Z, an, nn, cn, av, nv, cv, aw, nw, cw, aa, na, ca, ab, nb, cb, ac, nc, cc, rfl, hZ, hq⟩, h2, m2⟩; obtain ⟨s1, s2, s3⟩ := AT1.out w2 _ _ _ _ _ _ _ _ _ _ _ _ _ _ _ _ _ _ _ hZ hq h2 m2; have HS := Lib.hid s1; clear hZ hq h2 m2 s1 s2)
    | (go_at_call 77; (with_reducible refine (KM2.out _ HS.out.rs).mono ?_); rintro e w4 ⟨rfl, h4, m4⟩; obtain ⟨⟨q0, q1, q2, q3, q4, q5, q6⟩, FR, AN, HP⟩ := FIN.out _ _ _ _ _ _ _ _ _ _ _ _ _ _ _ _ _ _ _ _ _ _ _ w4 HS.out h4 m4; obtain ⟨g0, g1, g2, g3, g4, g5, g6, x0, x1, x2, x3, x4, x5, x6, y0, y1, y2, y3, y4, y5, y6, y7⟩ := FR; have HAN := Lib.hid AN; have HHP := Lib.hid HP; clear h4 m4 AN HP y7 s3))
   have cs7 := cells_seven HHP.out
   unfold S7 at cs7 HAN
   refine bodyPost_ret (v := .agg #[.int .i64 Z, .slice an nn cn, .slice av nv cv, .slice aw nw cw, .slice aa na ca, .slice ab nb cb, .slice ac nc cc]) (by simp [results, Tryz.results76, go_sem, cs7]) rfl ?_
   exact HAN.out
  | true =>
   rw [if_neg (by simp)]
   have KM2 : Hid (∀ w3, Rs p r sg d w3 → Calls Tryz.prog 77 #[.pointer (some ⟨p, 0, none⟩), .string mv] w3 fun e w' => e = .returned (.bool true) ∧ Rs p (behindS mk r) sg d w' ∧ Mvd p w3 w') := by
    show ∀ _, _
    intro w3 h3
    have := KM.out r w3 h3 (by omega)
    rw [hm] at this
    exact this
   obtain ⟨R, hR⟩ : ∃ R, iterS (rowStep K mk one fits) ([], c, true) (behindS mk r) = R := ⟨_, rfl⟩
   rw [hR]
   have START := Lib.hid (fun (b : Nat) (Z : Int) (an : Option Addr) (nn cn : Nat) (av : Option Addr) (nv cv : Nat) (aw : Option Addr) (nw cw : Nat) (aa : Option Addr) (na ca : Nat) (ab : Option Addr) (nb cb : Nat) (ac : Option Addr) (nc cc : Nat) (vr : Value) (w3 w4 : World) (hS : RowS L p b (w.heap.size + 1) sg d (RW w) [] c r Z (.slice an nn cn) (.slice av nv cv) (.slice aw nw cw) (.slice aa na ca) (.slice ab nb cb) (.slice ac nc cc) vr w3) (hk : KK w3) (h4 : Rs p (behindS mk r) sg d w4) (m4 : Mvd p w3 w4) => (show RoI L p b sg d w KK (rowStep K mk one fits) R (behindS mk r).length (.bool true) vr w4 from ⟨[], c, true, behindS mk r, _, _, _, _, _, _, _, rfl, hS.move hpB m4 h4, KOF.out _ (hS.mv.trans m4), Nat.le_refl _, by show 0 + _ ≤ _; omega, hR⟩))
   clear h hE hW b1 hb hn0 hr hm hR hK
   unfold RW at k0 AT1
   go_enter Tryz.func76, Tryz.ntmps76
   go_wp2_with (first
    | (go_at_fn k1; (with_reducible refine k0.mono ?_); rintro e w2 ⟨⟨Z, an, nn, cn, av, nv, cv, aw, nw, cw, aa, na, ca, ab, nb, cb, ac, nc, cc, rfl, hZ, hq⟩, h2, m2⟩; obtain ⟨s1, s2, s3⟩ := AT1.out w2 _ _ _ _ _ _ _ _ _ _ _ _ _ _ _ _ _ _ _ hZ hq h2 m2; have HS := Lib.hid (And.intro s1 s2); clear hZ hq h2 m2 s1 s2)
    | (go_at_call 77; (with_reducible refine (KM2.out _ HS.out.1.rs).mono ?_); rintro e w4 ⟨rfl, h4, m4⟩; have HST := Lib.hid (START.out _ _ _ _ _ _ _ _ _ _ _ _ _ _ _ _ _ _ _ _ _ _ w4 HS.out.1 HS.out.2 h4 m4); clear h4 m4 s3))
   clear k0 AT1 START KM2 HS
   generalize w2.heap.size = b at *
   go_loopg [11, 12] (behindS mk r).length (fun g v11 v12 wr => Hid (RoI L p b sg d w KK (rowStep K mk one fits) R g v11 v12 wr))
   case atStart => exact HST.out
   case round =>
    obtain ⟨cs, c, more, l, Z, v1, v2, v3, v4, v5, v6, rfl, hS, hK, hg, hcl, hR⟩ := hrel.out
    clear hrel HST hl
    rw [iterS_eq (rowStep_nice O.nice O.lt)] at hR
    obtain ⟨an, nn, cn, av, nv, cv, aw, nw, cw, aa, na, ca, ab, nb, cb, ac, nc, cc, ar, cr, rfl, rfl, rfl, rfl, rfl, rfl, rfl, hnn⟩ := hS.forms hL
    have HS := Lib.hid hS
    have hcel := cells_seven hS.blk
    have c4 := O.cell _ hK
    have kf := O.fit c Z an nn cn av nv cv aw nw cw aa na ca ab nb cb ac nc cc wr hS.z hnn
    have HK := Lib.hid hK
    clear hS hnn hK
    obtain ⟨q0, q1, q2, q3, q4, q5, q6⟩ := hcel
    have k3 := need_no
    have hmw := hm0
    cases hf : fits c with
    | false =>
     rw [row_e1 hf] at hR
     rw [hf] at kf
     have hR2 : R = .bad 9 := hR.symm
     subst hR2
     have OUT := Lib.hid (fun w2 (b2 : Below wr.heap.size wr w2) => hm0.trans (HS.out.mv.trans (Mvd.of b2 HS.out.rs.lt)))
     have OWN := Lib.hid (fun (w2 : World) (b2 : Below wr.heap.size wr w2) => trivial)
     clear hR hf hg hcl hm0 hmw KM
     show Code.wp _ _ _ _ _
     unfold AnsE
     unfold errS at k3 ⊢
     go_wp2_with (first
      | (go_at_fn k2; (with_reducible refine kf.mono ?_); rintro e w2 ⟨rfl, hb2⟩; have HB := Lib.hid hb2; have OW := Lib.hid (OWN.out w2 hb2); clear hb2)
      | (go_at_call 30; refine (k3 _).mono ?_; rintro e wn ⟨rfl, hwn⟩; rw [hwn]; clear hwn))
     exact ⟨rfl, rfl, OUT.out _ HB.out⟩
    | true =>
     rw [hf] at kf
     obtain ⟨ys, hy⟩ : ∃ ys, wr.ownsRow (w.heap.size + 1) 37 7 (.slice ar cs.length cr) cs.length ys := by
      obtain ⟨Fc, _, _, h3⟩ := HS.out.co
      exact h3.own
     have OWN : Hid (∀ w2, Below wr.heap.size wr w2 → (w2.alloc (.cells [.int .i64 Z, .slice an nn cn, .slice av nv cv, .slice aw nw cw, .slice aa na ca, .slice ab nb cb, .slice ac nc cc].toArray 37)).ownsRow (w.heap.size + 1) 37 7 (.slice ar cs.length cr) cs.length ys ∧ w.heap.size + 1 ≤ w2.heap.size ∧ w2.cell? ⟨b, 0, none⟩ = some (.int .i64 Z) ∧ w2.cell? ⟨b, 1, none⟩ = some (.slice an nn cn) ∧ w2.cell? ⟨b, 2, none⟩ = some (.slice av nv cv) ∧ w2.cell? ⟨b, 3, none⟩ = some (.slice aw nw cw) ∧ w2.cell? ⟨b, 4, none⟩ = some (.slice aa na ca) ∧ w2.cell? ⟨b, 5, none⟩ = some (.slice ab nb cb) ∧ w2.cell? ⟨b, 6, none⟩ = some (.slice ac nc cc)) := by
      show ∀ _, _
      intro w2 b2
      have hz2 := b2.size
      have hz1 := HS.out.mv.size
      exact ⟨ownS_same hy fun g hg => (Below.heap_alloc _ _ _ (by have := (ownS_lt hy hg).2; omega)).trans (b2.block g (ownS_lt hy hg).2), by omega, cells_seven ((b2.block b (heap_ltS HS.out.blk)).trans HS.out.blk)⟩
     have APP : Hid (∀ w2 w6 v6, Below wr.heap.size wr w2 → w6.ownsRow (w.heap.size + 1) 37 7 v6 (cs.length + 1) (ys ++ [.int .i64 Z, .slice an nn cn, .slice av nv cv, .slice aw nw cw, .slice aa na ca, .slice ab nb cb, .slice ac nc cc]) → (w2.alloc (.cells [.int .i64 Z, .slice an nn cn, .slice av nv cv, .slice aw nw cw, .slice aa na ca, .slice ab nb cb, .slice ac nc cc].toArray 37)).grownBy w6 (Value.slice ar cs.length cr).ownBlock → (v6.ownBlock = (Value.slice ar cs.length cr).ownBlock ∨ v6.ownBlock = some (w2.alloc (.cells [.int .i64 Z, .slice an nn cn, .slice av nv cv, .slice aw nw cw, .slice aa na ca, .slice ab nb cb, .slice ac nc cc].toArray 37)).heap.size) → RowT L p b (w.heap.size + 1) sg d (RW w) (cs ++ [c]) l v6 w6 ∧ KK w6) := by
      show ∀ _, _
      intro w2 w6 v6 b2 h6 g6 f6
      have b5 : Below wr.heap.size wr (w2.alloc (.cells [.int .i64 Z, .slice an nn cn, .slice av nv cv, .slice aw nw cw, .slice aa na ca, .slice ab nb cb, .slice ac nc cc].toArray 37)) := b2.alloc b2.size _
      have ht := HS.out.app hpB (by omega) b5 hy h6 g6 f6 (by omega)
      exact ⟨ht, KOF.out _ ht.mv⟩
     have hbc : (cs.length + 1) * 152 ≤ 140737488355328 := by omega
     have hcz : cs.length ≤ 1048576 := by omega
     clear hy
     cases more with
     | false =>
      rw [row_e2 hf] at hR
      have hR2 : R = .ok (.mk K [] [] [] (cs ++ [c]) [] []) l := hR.symm
      subst hR2
      have FIN := Lib.hid (fun w6 v6 (hT : RowT L p b (w.heap.size + 1) sg d (RW w) (cs ++ [c]) l v6 w6) => hT.fin hM hrow HZ0.out hp)
      clear hR hf hg hcl hm0 hmw KM
      go_wp2_with (first
       | (go_at_fn k2; (with_reducible refine kf.mono ?_); rintro e w2 ⟨rfl, hb2⟩; have HB := Lib.hid hb2; obtain ⟨ow1, ow2, p0, p1, p2, p3, p4, p5, p6⟩ := OWN.out w2 hb2; have OW := Lib.hid (And.intro ow1 ow2); clear hb2 ow1 ow2)
       | (go_at_call 30; refine (need_yes _).mono ?_; rintro e wn ⟨rfl, hwn⟩; rw [hwn]; clear hwn)
       | (at_builtin; refine wpList_append_farG _ rfl (.tmp 25) (.tmp 27) 23 rfl (w.heap.size + 1) 37 i0 _ 7 152 Tryz.underlying23 hi hz0 hz1 hz2 rfl (by decide) (.slice ar cs.length cr) cs.length ys (by simp [Act.eval]) OW.out.1 ⟨w2.heap.size, 0, none⟩ 1 [.int .i64 Z, .slice an nn cn, .slice av nv cv, .slice aw nw cw, .slice aa na ca, .slice ab nb cb, .slice ac nc cc] (by simp [Act.eval]) rfl (cells_list w2 _ _) (by simp [Value.oneCell']) (by unfold maxLen; omega) hbc (by have := OW.out.2; simp; omega) ?_; intro v6 w6 h6 g6 f6; obtain ⟨ar6, cr6, rfl, _⟩ := ownS_shape h6; have HT := Lib.hid (APP.out w2 w6 _ HB.out h6 g6 f6); obtain ⟨FR, AN, HP⟩ := FIN.out w6 _ HT.out.1; obtain ⟨g0, g1, g2, g3, g4, g5, g6', x0, x1, x2, x3, x4, x5, x6, y0, y1, y2, y3, y4, y5, y6, y7⟩ := FR; have HAN := Lib.hid AN; have HHP := Lib.hid HP; clear AN HP y7; clear h6 g6 f6))
      have cs7 := cells_seven HHP.out
      unfold S7 at cs7 HAN
      refine bodyPost_ret (v := .agg #[.int .i64 Z0, .slice none 0 0, .slice none 0 0, .slice none 0 0, .slice ar6 (cs.length + 1) cr6, .slice none 0 0, .slice none 0 0]) (by simp [results, Tryz.results76, go_sem, cs7]) rfl ?_
      exact HAN.out
     | true =>
      rw [row_e3 hf] at hR
      have hsl := (skipS_len [10] _ l rfl).1
      have KS := Lib.hid (fun w6 (h6 : Rs p l sg d w6) => (show Calls Tryz.prog 47 #[.pointer (some ⟨p, 0, none⟩), .string ⟨#[10]⟩] w6 fun e w' => e = .returned (.bool (wasS [10] l)) ∧ Rs p (skipS [10] l) sg d w' ∧ Mvd p w6 w' from skipS_any p [10] l sg d w6 h6 (by omega)))
      have C6 := Lib.hid (fun w6 v6 (hT : RowT L p b (w.heap.size + 1) sg d (RW w) (cs ++ [c]) l v6 w6) => O.cell w6 (KOF.out _ hT.mv))
      have K7 := Lib.hid (fun w6 w7 v6 (hT : RowT L p b (w.heap.size + 1) sg d (RW w) (cs ++ [c]) l v6 w6) (h7 : Rs p (skipS [10] l) sg d w7) (m7 : Mvd p w6 w7) => O.call (skipS [10] l) w7 h7 (hT.move hpB m7 h7).env (KOF.out _ (hT.mv.trans m7)) (by omega))
      have hn1 := O.nice (skipS [10] l)
      have hl1 := O.lt (skipS [10] l)
      obtain ⟨l1, hl1e⟩ : ∃ l1, l1 = skipS [10] l := ⟨_, rfl⟩
      rw [← hl1e] at KS K7 hn1 hl1 hR hsl
      clear hl1e
      cases ho : one l1 with
      | bad x =>
       rw [ho] at hR K7
       have hR2 : R = .bad x := hR.symm
       subst hR2
       have K8 : Hid (∀ w6 w7 v6, RowT L p b (w.heap.size + 1) sg d (RW w) (cs ++ [c]) l v6 w6 → Rs p l1 sg d w7 → Mvd p w6 w7 → Calls Tryz.prog k1 (f1 ++ c1) w7 fun e w' => e = errS x ∧ Mvd p w7 w') := K7.out
       have OUT := Lib.hid (fun w6 w7 w8 v6 (hT : RowT L p b (w.heap.size + 1) sg d (RW w) (cs ++ [c]) l v6 w6) (m7 : Mvd p w6 w7) (m8 : Mvd p w7 w8) => hm0.trans (hT.mv.trans (m7.trans m8)))
       clear hR hf hg hcl hm0 hmw KM K7 hn1 hl1 hsl ho
       show Code.wp _ _ _ _ _
       unfold AnsE
       unfold errS at K8 ⊢
       go_wp2_with (first
        | (go_at_fn k2; (with_reducible refine kf.mono ?_); rintro e w2 ⟨rfl, hb2⟩; have HB := Lib.hid hb2; obtain ⟨ow1, ow2, p0, p1, p2, p3, p4, p5, p6⟩ := OWN.out w2 hb2; have OW := Lib.hid (And.intro ow1 ow2); clear hb2 ow1 ow2)
        | (go_at_call 30; refine (need_yes _).mono ?_; rintro e wn ⟨rfl, hwn⟩; rw [hwn]; clear hwn)
        | (at_builtin; refine wpList_append_farG _ rfl (.tmp 25) (.tmp 27) 23 rfl (w.heap.size + 1) 37 i0 _ 7 152 Tryz.underlying23 hi hz0 hz1 hz2 rfl (by decide) (.slice ar cs.length cr) cs.length ys (by simp [Act.eval]) OW.out.1 ⟨w2.heap.size, 0, none⟩ 1 [.int .i64 Z, .slice an nn cn, .slice av nv cv, .slice aw nw cw, .slice aa na ca, .slice ab nb cb, .slice ac nc cc] (by simp [Act.eval]) rfl (cells_list w2 _ _) (by simp [Value.oneCell']) (by unfold maxLen; omega) hbc (by have := OW.out.2; simp; omega) ?_; intro v6 w6 h6 g6 f6; obtain ⟨ar6, cr6, rfl, _⟩ := ownS_shape h6; have HT := Lib.hid (APP.out w2 w6 _ HB.out h6 g6 f6); have c46 := C6.out _ _ HT.out.1; clear h6 g6 f6)
        | (go_at_call 47; (with_reducible refine (KS.out _ HT.out.1.rs).mono ?_); rintro e w7 ⟨rfl, h7, m7⟩; have k8 := K8.out _ w7 _ HT.out.1 h7 m7; have M7 := Lib.hid m7; clear h7 m7)
        | (go_at_fn k1; (with_reducible refine k8.mono ?_); rintro e w8 ⟨rfl, m8⟩))
       exact ⟨rfl, rfl, OUT.out _ _ _ _ HT.out.1 M7.out m8⟩
      | ok c' r' =>
       rw [ho] at hR K7 hn1
       have hn1 : r'.length ≤ l1.length := hn1
       have hl1 := hl1 c' r' ho
       have hbh := behindS_len mk r'
       have hR2 : iterS (rowStep K mk one fits) (cs ++ [c], c', (markS mk r').isSome) (behindS mk r') = R := hR
       have K8 : Hid (∀ w6 w7 v6, RowT L p b (w.heap.size + 1) sg d (RW w) (cs ++ [c]) l v6 w6 → Rs p l1 sg d w7 → Mvd p w6 w7 → Calls Tryz.prog k1 (f1 ++ c1) w7 fun e w' => (∃ (Z : Int) (an : Option Addr) (nn cn : Nat) (av : Option Addr) (nv cv : Nat) (aw : Option Addr) (nw cw : Nat) (aa : Option Addr) (na ca : Nat) (ab : Option Addr) (nb cb : Nat) (ac : Option Addr) (nc cc : Nat), e = .returned (.agg #[.int .i64 Z, .slice an nn cn, .slice av nv cv, .slice aw nw cw, .slice aa na ca, .slice ab nb cb, .slice ac nc cc]) ∧ Z = (c'.k : Int) ∧ (cmdE L).q (NewF w7.heap.size w'.heap.size) w' c' [.int .i64 Z, .slice an nn cn, .slice av nv cv, .slice aw nw cw, .slice aa na ca, .slice ab nb cb, .slice ac nc cc]) ∧ Rs p r' sg d w' ∧ Mvd p w7 w') := by
        show ∀ _, _
        intro w6 w7 v6 a1 a2 a3
        exact (K7.out w6 w7 v6 a1 a2 a3).mono fun e w' => ansCo hL
       have NX : Hid (∀ (w6 w7 w8 : World) (v6 : Value) (Z' : Int) (u1 u2 u3 u4 u5 u6 : Value), RowT L p b (w.heap.size + 1) sg d (RW w) (cs ++ [c]) l v6 w6 → Rs p l1 sg d w7 → Mvd p w6 w7 → Z' = (c'.k : Int) → (cmdE L).q (NewF w7.heap.size w8.heap.size) w8 c' [.int .i64 Z', u1, u2, u3, u4, u5, u6] → Rs p r' sg d w8 → Mvd p w7 w8 → Free7 b w8 ∧ RowS L p b (w.heap.size + 1) sg d (RW w) (cs ++ [c]) c' r' Z' u1 u2 u3 u4 u5 u6 v6 (S7 w8 b (.int .i64 Z') u1 u2 u3 u4 u5 u6) ∧ (S7 w8 b (.int .i64 Z') u1 u2 u3 u4 u5 u6).cell? ⟨a4, 0, none⟩ = some (.pointer (some ⟨p, 0, none⟩))) := by
        show ∀ _, _
        intro w6 w7 w8 v6 Z' u1 u2 u3 u4 u5 u6 hT h7 m7 hZ' hq h8 m8
        obtain ⟨e1, e2⟩ := (hT.move hpB m7 h7).next hpB m8 h8 hZ' hq (by omega)
        exact ⟨e1, e2, O.cell _ (KOF.out _ e2.mv)⟩
       have KM2 := Lib.hid (fun w9 (h9 : Rs p r' sg d w9) => KM.out r' w9 h9 (by omega))
       cases gk with
       | zero => omega
       | succ g =>
        have NEXT : Hid (∀ (w9 w10 : World) (v6 : Value) (Z' : Int) (u1 u2 u3 u4 u5 u6 : Value), RowS L p b (w.heap.size + 1) sg d (RW w) (cs ++ [c]) c' r' Z' u1 u2 u3 u4 u5 u6 v6 w9 → Rs p (behindS mk r') sg d w10 → Mvd p w9 w10 → RoI L p b sg d w KK (rowStep K mk one fits) R g (.bool (markS mk r').isSome) v6 w10) := by
         show ∀ _, _
         intro w9 w10 v6 Z' u1 u2 u3 u4 u5 u6 hS9 h10 m10
         exact ⟨cs ++ [c], c', (markS mk r').isSome, behindS mk r', Z', u1, u2, u3, u4, u5, u6, rfl, hS9.move hpB m10 h10, KOF.out _ (hS9.mv.trans m10), by omega, by rw [List.length_append]; show _ + 1 + _ ≤ _; omega, hR2⟩
        obtain ⟨mb, hmb⟩ : ∃ mb, mb = (markS mk r').isSome := ⟨_, rfl⟩
        rw [← hmb] at KM2 NEXT
        clear hR hR2 hf hg hcl hm0 hmw KM K7 hn1 hl1 hsl ho hbh hmb
        unfold S7 at NX
        go_wp2_with (first
         | (go_at_fn k2; (with_reducible refine kf.mono ?_); rintro e w2 ⟨rfl, hb2⟩; have HB := Lib.hid hb2; obtain ⟨ow1, ow2, p0, p1, p2, p3, p4, p5, p6⟩ := OWN.out w2 hb2; have OW := Lib.hid (And.intro ow1 ow2); clear hb2 ow1 ow2)
         | (go_at_call 30; refine (need_yes _).mono ?_; rintro e wn ⟨rfl, hwn⟩; rw [hwn]; clear hwn)
         | (at_builtin; refine wpList_append_farG _ rfl (.tmp 25) (.tmp 27) 23 rfl (w.heap.size + 1) 37 i0 _ 7 152 Tryz.underlying23 hi hz0 hz1 hz2 rfl (by decide) (.slice ar cs.length cr) cs.length ys (by simp [Act.eval]) OW.out.1 ⟨w2.heap.size, 0, none⟩ 1 [.int .i64 Z, .slice an nn cn, .slice av nv cv, .slice aw nw cw, .slice aa na ca, .slice ab nb cb, .slice ac nc cc] (by simp [Act.eval]) rfl (cells_list w2 _ _) (by simp [Value.oneCell']) (by unfold maxLen; omega) hbc (by have := OW.out.2; simp; omega) ?_; intro v6 w6 h6 g6 f6; obtain ⟨ar6, cr6, rfl, _⟩ := ownS_shape h6; have HT := Lib.hid (APP.out w2 w6 _ HB.out h6 g6 f6); have c46 := C6.out _ _ HT.out.1; clear h6 g6 f6)
         | (go_at_call 47; (with_reducible refine (KS.out _ HT.out.1.rs).mono ?_); rintro e w7 ⟨rfl, h7, m7⟩; have k8 := K8.out _ w7 _ HT.out.1 h7 m7; have M7 := Lib.hid (And.intro h7 m7); clear h7 m7)
         | (go_at_fn k1; (with_reducible refine k8.mono ?_); rintro e w8 ⟨⟨Z', en1, en2, en3, ev1, ev2, ev3, ew1, ew2, ew3, ea1, ea2, ea3, eb1, eb2, eb3, ec1, ec2, ec3, rfl, hZ', hq⟩, h8, m8⟩; obtain ⟨FR, S9, c49⟩ := NX.out _ _ w8 _ _ _ _ _ _ _ _ HT.out.1 M7.out.1 M7.out.2 hZ' hq h8 m8; have HS9 := Lib.hid S9; obtain ⟨g0, g1, g2, g3, g4, g5, g6', x0, x1, x2, x3, x4, x5, x6, y0, y1, y2, y3, y4, y5, y6, y7⟩ := FR; clear hZ' hq h8 m8 S9 y7)
         | (go_at_call 77; (with_reducible refine (KM2.out _ HS9.out.rs).mono ?_); rintro e w10 ⟨rfl, h10, m10⟩; have HN := Lib.hid (NEXT.out _ w10 _ _ _ _ _ _ _ _ HS9.out h10 m10); clear h10 m10))
        go_roundg g
        case measure => omega
        case rel => exact HN.out
end Go.Proofs.YtelfgobjnibooaaGreatDoor
namespace Go.Proofs.YtelfgobjnibooaaGreatDoor
open Go.RowKit Go.Lib
set_option maxHeartbeats 2000000 in
set_option maxRecDepth 20000 in
theorem fits_all (Z : Int) (an : Option Addr) (nn cn : Nat) (av : Option Addr) (nv cv : Nat) (aw : Option Addr) (nw cw : Nat) (aa : Option Addr) (na ca : Nat) (ab : Option Addr) (nb cb : Nat) (ac : Option Addr) (nc cc : Nat) (w : World) : Calls Tryz.prog 81 #[.agg #[.int .i64 Z, .slice an nn cn, .slice av nv cv, .slice aw nw cw, .slice aa na ca, .slice ab nb cb, .slice ac nc cc]] w fun e w' => e = .returned (.bool true) ∧ Below w.heap.size w w' := by
 have OUT : Hid (∀ ob : Obj, Below w.heap.size w (w.alloc ob)) := fun ob => (Below.refl _ w).alloc (Nat.le_refl _) _
 go_enter Tryz.func81, Tryz.ntmps81
 go_wp2
 refine bodyPost_ret (results_tmp rfl _ _ _) rfl ?_
 exact ⟨rfl, OUT.out _⟩
set_option maxHeartbeats 2000000 in
set_option maxRecDepth 20000 in
theorem fits_plain (c : Co) (Z : Int) (an : Option Addr) (nn cn : Nat) (av : Option Addr) (nv cv : Nat) (aw : Option Addr) (nw cw : Nat) (aa : Option Addr) (na ca : Nat) (ab : Option Addr) (nb cb : Nat) (ac : Option Addr) (nc cc : Nat) (w : World) (hZ : Z = (c.k : Int)) (hn : nn = c.n.length) : Calls Tryz.prog 80 #[.agg #[.int .i64 Z, .slice an nn cn, .slice av nv cv, .slice aw nw cw, .slice aa na ca, .slice ab nb cb, .slice ac nc cc]] w fun e w' => e = .returned (.bool (plainC c)) ∧ Below w.heap.size w w' := by
 have OUT : Hid (∀ ob : Obj, Below w.heap.size w (w.alloc ob)) := fun ob => (Below.refl _ w).alloc (Nat.le_refl _) _
 have e0 : plainC c = (decide (c.k = 1) && decide (c.n.length = 0)) := by
  unfold plainC
  cases hc : c.n with
  | nil => by_cases h : c.k = 1 <;> simp [h]
  | cons a b => by_cases h : c.k = 1 <;> simp [h]
 rw [e0]
 by_cases h1 : c.k = 1
 ·have hz : Z = 1 := by rw [hZ, h1]; rfl
  subst hz
  by_cases h2 : c.n.length = 0
  ·have hn2 : nn = 0 := by omega
   subst hn2
   rw [decide_eq_true h1, decide_eq_true h2]
   clear hZ hn e0 h1 h2
   go_enter Tryz.func80, Tryz.ntmps80
   go_wp2
   refine bodyPost_ret (results_tmp rfl _ _ _) rfl ?_
   exact ⟨rfl, OUT.out _⟩
  ·have hn2 : nn ≠ 0 := by omega
   have hn3 : ((nn : Int) == 0) = false := by rw [beq_eq_false_iff_ne]; omega
   have hn4 : ¬ ((nn : Int) = 0) := by omega
   rw [decide_eq_true h1, decide_eq_false h2]
   clear hZ hn e0 h1 h2
   go_enter Tryz.func80, Tryz.ntmps80
   go_wp2
   refine bodyPost_ret (results_tmp rfl _ _ _) rfl ?_
   exact ⟨rfl, OUT.out _⟩
 ·have hz : Z ≠ 1 := by omega
  have hz2 : (Z == 1) = false := by rw [beq_eq_false_iff_ne]; exact hz
  rw [decide_eq_false h1]
  clear hZ hn e0 h1
  show Calls _ _ _ _ fun e w' => e = .returned (.bool false) ∧ Below w.heap.size w w'
  go_enter Tryz.func80, Tryz.ntmps80
  go_wp2
  refine bodyPost_ret (results_tmp rfl _ _ _) rfl ?_
  exact ⟨rfl, OUT.out _⟩
def LineK (p a3 a4 : Nat) (w : World) : Prop := w.heap[a3]? = some (.cells #[.func (.func 76) #[] #[.pointer (some ⟨a4, 0, none⟩)]] (98 : TypeId) (0, 0)) ∧ w.heap[a4]? = some (.cells #[.pointer (some ⟨p, 0, none⟩)] 81 (0, 0))
theorem enters_cmd : ∀ args w, (callFunc 79 args).run Tryz.prog w = .ok (.enter 79 args) w := enters_of Tryz.func79 (by kernel_rfl) rfl
theorem enters_pipe : ∀ args w, (callFunc 78 args).run Tryz.prog w = .ok (.enter 78 args) w := enters_of Tryz.func78 (by kernel_rfl) rfl
theorem enters_row : ∀ args w, (callFunc 76 args).run Tryz.prog w = .ok (.enter 76 args) w := enters_of Tryz.func76 (by kernel_rfl) rfl
theorem enters_fits1 : ∀ args w, (callFunc 80 args).run Tryz.prog w = .ok (.enter 80 args) w := enters_of Tryz.func80 (by kernel_rfl) rfl
theorem enters_fits3 : ∀ args w, (callFunc 81 args).run Tryz.prog w = .ok (.enter 81 args) w := enters_of Tryz.func81 (by kernel_rfl) rfl
theorem lineK_keep {p a3 a4 B0 : Nat} (h3 : a3 < B0) (h4 : a4 < B0) (hp3 : p ≠ a3) (hp4 : p ≠ a4) (w w' : World) (h : LineK p a3 a4 w) (k : ∀ g, g ≠ p → g < B0 → w'.heap[g]? = w.heap[g]?) : LineK p a3 a4 w' :=
 ⟨(k a3 (Ne.symm hp3) h3).trans h.1, (k a4 (Ne.symm hp4) h4).trans h.2⟩
theorem one_cmd (L : ValP (List Co)) (sub : Deeper) (p a3 a4 B0 : Nat) (sg : Value) (d : Nat) (hv : Lv L sub p sg d) (h3 : a3 < B0) (h4 : a4 < B0) (hp3 : p ≠ a3) (hp4 : p ≠ a4) : OneK L p a4 B0 sg d 79 80 #[.pointer (some ⟨p, 0, none⟩)] #[] (cmdS sub) plainC (LineK p a3 a4) where
 keep w w' h _ k := lineK_keep h3 h4 hp3 hp4 w w' h k
 cell w h := by rw [cell_of_heap h.2]; rfl
 call l w h hE _ hl := command_any L sub p sg d hv l w h hE hl
 nice := cmdS_nice hv.nice
 lt := cmdS_lt hv.nice
 fit c Z an nn cn av nv cv aw nw cw aa na ca ab nb cb ac nc cc w hZ hn := fits_plain c Z an nn cn av nv cv aw nw cw aa na ca ab nb cb ac nc cc w hZ hn
end Go.Proofs.YtelfgobjnibooaaGreatDoor
