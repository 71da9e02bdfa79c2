/- Packed texts: RfCom, RfSimpleL. What each of them proves stands above its theorems; the conditions stand in these. -/
import Derived.Test.YtelfgobjnibooaaGreatDoorA30
namespace Go.Proofs.YtelfgobjnibooaaGreatDoor
open Go.RowKit Go.Lib
theorem step_app_run {P : Program} {ops : Array Oper} {o : Oper} {a : Act} {w : World} {K : Act → World → Prop} {Q : Exit → Act → World → Prop} {E : Prop}
  (hg : o.guard = none) (s x : Operand) (t : TypeId) (ho : o.op = .call { callee := .builtin .append, args := #[s, x], argTypes := #[t, t] }) {v u v' : Value} {w' : World} (hs : a.eval s = v) (hx : a.eval x = u) (hr : (Builtin.append_ #[t, t] o.type #[v, u]).run P w = .ok v' w') (h : K (a.put o.dst v') w') :
  if Region.wanted o (yielded ops a.tmps) = true then Oper.wp P o a w K Q else E := by
 have hw : Region.wanted o (yielded ops a.tmps) = true := by simp [Region.wanted, hg]
 rw [if_pos hw]
 unfold Oper.wp execOp
 simp only [ho, resolve, invoke, builtin, Sem.run_bind, Sem.run_pure, Result.andThen_ok, List.map_toArray, List.map_cons, List.map_nil, hs, hx, hr]
 exact h
theorem app_B {X : Type} {E : ElemP X} {t e : TypeId} {bytes : Nat} (K : Kd E t e bytes) (ty : TypeId) {B : Nat} {A Fx : Nat → Prop} {w : World} {v : Value} {xs : List X} {x : X} {cs : List Value} (h : BldA E e B A w v xs) (hx : E.q Fx w x cs) (hF : ∀ g, Fx g → B ≤ g ∧ g < w.heap.size) (hv : ∀ g, Fx g → v.ownBlock ≠ some g) (hA : ∀ g, A g → ¬ Fx g ∧ g < w.heap.size) (hB : B ≤ w.heap.size)
  (hn : xs.length + 1 ≤ 16777216) (hb : bytes ≤ 1024) :
  ∃ al n cl w', (Builtin.append_ #[t, t] ty #[v, .slice (some ⟨w.heap.size, 0, none⟩) 1 1]).run Tryz.prog (w.alloc (.cells cs.toArray e)) = .ok (.slice al n cl) w' ∧ BldA E e B A w' (.slice al n cl) (xs ++ [x]) ∧ Below B w w' ∧ (∀ g, g < w.heap.size → v.ownBlock ≠ some g → w'.heap[g]? = w.heap[g]?) ∧ ((Value.slice al n cl).ownBlock = v.ownBlock ∨ ∃ g, (Value.slice al n cl).ownBlock = some g ∧ w.heap.size ≤ g) := by
 obtain ⟨i, z, hi, hz, hs, hby, hzs⟩ := K.hi
 obtain ⟨ys, hy⟩ := h.own
 have hbo : Below w.heap.size w (w.alloc (.cells cs.toArray e)) := (Below.refl _ w).alloc (Nat.le_refl _) _
 have hy2 : (w.alloc (.cells cs.toArray e)).ownsRow B e E.size v xs.length ys := ownS_same hy fun g hg => hbo.block g (ownS_lt hy hg).2
 have hbytes : (xs.length + 1) * bytes ≤ 140737488355328 := Nat.le_trans (Nat.mul_le_mul hn hb) (by omega)
 obtain ⟨v', w', hr, h2, h3, h4⟩ := run_append_farG (P := Tryz.prog) _ B t ty e i z E.size bytes K.ht hi hz hs hby hzs K.pos v xs.length ys hy2 ⟨w.heap.size, 0, none⟩ 1 cs (E.len _ _ _ _ hx) (cellsR w e cs) (K.one _ _ _ _ hx) (by unfold maxLen; omega) hbytes (Nat.le_trans hB hbo.size)
 obtain ⟨ao, cap, rfl, _⟩ := ownS_shape h2
 have hR : BldA E e B A (w.alloc (.cells cs.toArray e)) v xs := h.same hbo.size fun g _ hs _ => hbo.block g hs
 have hx2 : E.q Fx (w.alloc (.cells cs.toArray e)) x cs := E.same _ _ _ _ _ (fun g hg => hbo.block g (hF g hg).2) hx
 have hsz := hbo.size
 refine ⟨_, _, _, w', hr, hR.snoc hx2 (fun g hg => ⟨(hF g hg).1, by have := (hF g hg).2; omega⟩) hv (fun g hg => ⟨(hA g hg).1, by have := (hA g hg).2; omega⟩) hy2 h2 h3 h4, (hbo.mono hB).grown h3 (Nat.le_trans hB hbo.size) fun g hg2 => (ownS_lt hy2 hg2).1, fun g hg ho => ?_, ?_⟩
 ·exact (h3.block g (by omega) (fun e' => ho e'.symm)).trans (hbo.block g hg)
 ·rcases h4 with h4 | h4
  ·exact .inl h4
  ·exact .inr ⟨_, h4, hsz⟩
set_option maxRecDepth 100000 in
theorem Tryz.infoStrRf : (Tryz.prog.info? 9).map (fun i => (i.zero, i.size, i.bytes)) = some (some (.string ByteArray.empty), 1, 16) := by kernel_rfl
theorem kd_str : Kd strE 34 9 16 := by
 obtain ⟨i, hi, h0, h1, h2⟩ := info_parts Tryz.infoStrRf
 refine ⟨Tryz.underlying34, ⟨i, _, hi, h0, h1, h2, rfl⟩, Nat.succ_pos 0, fun F w x cs h u hu => ?_⟩
 have h : cs = [.string ⟨x.toArray⟩] := h
 subst h
 obtain rfl := List.mem_singleton.1 hu
 rfl
structure CmR (n0 c : Nat) (ns : List (List UInt8)) (vs : List (List Pt)) (vn vv : Value) (w : World) : Prop where
 blk : w.heap[c]? = some (.cells #[.int .i64 1, vn, vv, .slice none 0 0, .slice none 0 0, .slice none 0 0, .slice none 0 0] 37 (0, 0))
 nm : BldA strE 9 (c + 1) (fun g => vv.ownBlock = some g) w vn ns
 vl : BldA (wordE (PtsV (cosV n0))) 40 (c + 1) (fun g => vn.ownBlock = some g) w vv vs
theorem CmR.same {n0 c : Nat} {ns : List (List UInt8)} {vs : List (List Pt)} {vn vv : Value} {w w' : World} (h : CmR n0 c ns vs vn vv w) (hs : w.heap.size ≤ w'.heap.size) (hb : ∀ g, c ≤ g → g < w.heap.size → w'.heap[g]? = w.heap[g]?) : CmR n0 c ns vs vn vv w' :=
 ⟨(hb c (Nat.le_refl _) (heap_ltR h.blk)).trans h.blk, h.nm.same hs fun g a b _ => hb g (by omega) b, h.vl.same hs fun g a b _ => hb g (by omega) b⟩
theorem CmR.moved {n0 p c : Nat} {ns : List (List UInt8)} {vs : List (List Pt)} {vn vv : Value} {w w' : World} (h : CmR n0 c ns vs vn vv w) (hm : Mvr p w w') (hp : p < c) : CmR n0 c ns vs vn vv w' := h.same hm.size fun g a b => hm.high g (by omega) b
theorem CmR.cells {n0 c : Nat} {ns : List (List UInt8)} {vs : List (List Pt)} {vn vv : Value} {w : World} (h : CmR n0 c ns vs vn vv w) : w.cell? ⟨c, 1, none⟩ = some vn ∧ w.cell? ⟨c, 2, none⟩ = some vv ∧ w.frozen? ⟨c, 1, none⟩ = false ∧ w.frozen? ⟨c, 2, none⟩ = false :=
 ⟨by rw [cell_of_heap h.blk]; rfl, by rw [cell_of_heap h.blk]; rfl, frozen_of_heap h.blk _, frozen_of_heap h.blk _⟩
theorem CmR.shapes {n0 c : Nat} {ns : List (List UInt8)} {vs : List (List Pt)} {vn vv : Value} {w : World} (h : CmR n0 c ns vs vn vv w) : (∃ a cap, vn = .slice a ns.length cap) ∧ ∃ a cap, vv = .slice a vs.length cap := by
 obtain ⟨ys, hy⟩ := h.nm.own
 obtain ⟨zs, hz⟩ := h.vl.own
 obtain ⟨a, c1, h1, _⟩ := ownS_shape hy
 obtain ⟨b, c2, h2, _⟩ := ownS_shape hz
 exact ⟨⟨a, c1, h1⟩, b, c2, h2⟩
theorem CmR.name {n0 c : Nat} {ns : List (List UInt8)} {vs : List (List Pt)} {vn vv : Value} {w : World} (h : CmR n0 c ns vs vn vv w) (n : List UInt8) (hn : ns.length + 1 ≤ 16777216) :
  ∃ al m cl w', (Builtin.append_ #[34, 34] 34 #[vn, .slice (some ⟨w.heap.size, 0, none⟩) 1 1]).run Tryz.prog (w.alloc (.cells #[.string ⟨n.toArray⟩] 9)) = .ok (.slice al m cl) w' ∧ (w'.cell? ⟨c, 1, none⟩ = some vn ∧ w'.frozen? ⟨c, 1, none⟩ = false) ∧ CmR n0 c (ns ++ [n]) vs (.slice al m cl) vv (w'.setCell ⟨c, 1, none⟩ (.slice al m cl)) ∧ Below c w (w'.setCell ⟨c, 1, none⟩ (.slice al m cl)) := by
 have hc := heap_ltR h.blk
 obtain ⟨al, m, cl, w', hr, r1, b1, k1, f1⟩ := app_B kd_str 34 (Fx := NoneF) (x := n) (cs := [.string ⟨n.toArray⟩]) h.nm rfl (fun g hg => hg.elim) (fun g hg => hg.elim) (fun g hg => ⟨fun h => h, (h.vl.lt g hg).2⟩) (by omega) hn (by omega)
 have hcb : w'.heap[c]? = w.heap[c]? := b1.block c (by omega)
 have hset := heap_setCell_same w' c 1 _ _ (.slice al m cl) (hcb.trans h.blk)
 have hvl : BldA (wordE (PtsV (cosV n0))) 40 (c + 1) (fun g => (Value.slice al m cl).ownBlock = some g) w' vv vs := by
  have h1 : BldA (wordE (PtsV (cosV n0))) 40 (c + 1) (fun g => vn.ownBlock = some g ∨ (Value.slice al m cl).ownBlock = some g) w vv vs := h.vl.avoid fun g hg => by
   rcases hg with hg | hg
   ·exact .inl hg
   ·rcases f1 with f1 | ⟨g2, f1, f2⟩
    ·left; rw [← f1]; exact hg
    ·right; rw [f1] at hg; injection hg with hg; omega
  exact (h1.same b1.size fun g a b hA => k1 g b fun e => hA (.inl e)).avoid fun g hg => .inl (.inr hg)
 refine ⟨al, m, cl, w', hr, ⟨by rw [cell_of_heap (hcb.trans h.blk)]; rfl, frozen_of_heap (hcb.trans h.blk) _⟩, ⟨by simpa using hset, r1.same (by simp) fun g a b _ => Below.heap_setCell _ _ _ _ (by show g ≠ c; omega), hvl.same (by simp) fun g a b _ => Below.heap_setCell _ _ _ _ (by show g ≠ c; omega)⟩, ?_⟩
 exact (b1.mono (Nat.le_succ c)).setCell (p := ⟨c, 1, none⟩) (Nat.le_refl _) _
theorem CmR.value {n0 c : Nat} {ns : List (List UInt8)} {vs : List (List Pt)} {vn vv u : Value} {Fx : Nat → Prop} {w : World} (h : CmR n0 c ns vs vn vv w) (ps : List Pt) (hx : (PtsV (cosV n0)).q Fx w u ps) (hF : ∀ g, Fx g → c + 1 ≤ g ∧ g < w.heap.size) (hA : ∀ g, Fx g → vv.ownBlock ≠ some g ∧ vn.ownBlock ≠ some g) (hn : vs.length + 1 ≤ 16777216) :
  ∃ al m cl w', (Builtin.append_ #[35, 35] 35 #[vv, .slice (some ⟨w.heap.size, 0, none⟩) 1 1]).run Tryz.prog (w.alloc (.cells #[u] 40)) = .ok (.slice al m cl) w' ∧ (w'.cell? ⟨c, 2, none⟩ = some vv ∧ w'.frozen? ⟨c, 2, none⟩ = false) ∧ CmR n0 c ns (vs ++ [ps]) vn (.slice al m cl) (w'.setCell ⟨c, 2, none⟩ (.slice al m cl)) ∧ Below c w (w'.setCell ⟨c, 2, none⟩ (.slice al m cl)) := by
 have hc := heap_ltR h.blk
 obtain ⟨al, m, cl, w', hr, r1, b1, k1, f1⟩ := app_B (kd_word n0) 35 (Fx := Fx) (x := ps) (cs := [u]) h.vl ⟨u, rfl, hx⟩ hF (fun g hg => (hA g hg).1) (fun g hg => ⟨fun hf => (hA g hf).2 hg, (h.nm.lt g hg).2⟩) (by omega) hn (by omega)
 have hcb : w'.heap[c]? = w.heap[c]? := b1.block c (by omega)
 have hset := heap_setCell_same w' c 2 _ _ (.slice al m cl) (hcb.trans h.blk)
 have hnm : BldA strE 9 (c + 1) (fun g => (Value.slice al m cl).ownBlock = some g) w' vn ns := by
  have h1 : BldA strE 9 (c + 1) (fun g => vv.ownBlock = some g ∨ (Value.slice al m cl).ownBlock = some g) w vn ns := h.nm.avoid fun g hg => by
   rcases hg with hg | hg
   ·exact .inl hg
   ·rcases f1 with f1 | ⟨g2, f1, f2⟩
    ·left; rw [← f1]; exact hg
    ·right; rw [f1] at hg; injection hg with hg; omega
  exact (h1.same b1.size fun g a b hA => k1 g b fun e => hA (.inl e)).avoid fun g hg => .inl (.inr hg)
 refine ⟨al, m, cl, w', hr, ⟨by rw [cell_of_heap (hcb.trans h.blk)]; rfl, frozen_of_heap (hcb.trans h.blk) _⟩, ⟨by simpa using hset, hnm.same (by simp) fun g a b _ => Below.heap_setCell _ _ _ _ (by show g ≠ c; omega), r1.same (by simp) fun g a b _ => Below.heap_setCell _ _ _ _ (by show g ≠ c; omega)⟩, ?_⟩
 exact (b1.mono (Nat.le_succ c)).setCell (p := ⟨c, 2, none⟩) (Nat.le_refl _) _
def S7r (w : World) (b : Nat) (v0 v1 v2 v3 v4 v5 v6 : Value) : World := (((((((w.setCell ⟨b, 0, none⟩ v0).setCell ⟨b, 1, none⟩ v1).setCell ⟨b, 2, none⟩ v2).setCell ⟨b, 3, none⟩ v3).setCell ⟨b, 4, none⟩ v4).setCell ⟨b, 5, none⟩ v5).setCell ⟨b, 6, none⟩ v6)
theorem S7r_heap {w : World} {b : Nat} {a0 a1 a2 a3 a4 a5 a6 : Value} (v0 v1 v2 v3 v4 v5 v6 : Value) {t : TypeId} (h : w.heap[b]? = some (.cells #[a0, a1, a2, a3, a4, a5, a6] t (0, 0))) : (S7r w b v0 v1 v2 v3 v4 v5 v6).heap[b]? = some (.cells #[v0, v1, v2, v3, v4, v5, v6] t (0, 0)) := by
 have h0 := heap_setCell_same w b 0 _ _ v0 h
 have h1 := heap_setCell_same _ b 1 _ _ v1 h0
 have h2 := heap_setCell_same _ b 2 _ _ v2 h1
 have h3 := heap_setCell_same _ b 3 _ _ v3 h2
 have h4 := heap_setCell_same _ b 4 _ _ v4 h3
 have h5 := heap_setCell_same _ b 5 _ _ v5 h4
 have h6 := heap_setCell_same _ b 6 _ _ v6 h5
 simpa [S7r] using h6
theorem S7r_other {w : World} {b g : Nat} (v0 v1 v2 v3 v4 v5 v6 : Value) (h : g ≠ b) : (S7r w b v0 v1 v2 v3 v4 v5 v6).heap[g]? = w.heap[g]? := by
 unfold S7r
 rw [Below.heap_setCell _ _ _ _ h, Below.heap_setCell _ _ _ _ h, Below.heap_setCell _ _ _ _ h, Below.heap_setCell _ _ _ _ h, Below.heap_setCell _ _ _ _ h, Below.heap_setCell _ _ _ _ h, Below.heap_setCell _ _ _ _ h]
theorem S7r_size (w : World) (b : Nat) (v0 v1 v2 v3 v4 v5 v6 : Value) : (S7r w b v0 v1 v2 v3 v4 v5 v6).heap.size = w.heap.size := by unfold S7r; simp
theorem Mvr.own7 {p b : Nat} {a w : World} (h : Mvr p a w) (hb : a.heap.size ≤ b) (hp : p < a.heap.size) (v0 v1 v2 v3 v4 v5 v6 : Value) : Mvr p a (S7r w b v0 v1 v2 v3 v4 v5 v6) := ((((((h.own hb hp 0 v0).own hb hp 1 v1).own hb hp 2 v2).own hb hp 3 v3).own hb hp 4 v4).own hb hp 5 v5).own hb hp 6 v6
theorem cells7r {w : World} {b : Nat} {a0 a1 a2 a3 a4 a5 a6 : Value} {t : TypeId} (h : w.heap[b]? = some (.cells #[a0, a1, a2, a3, a4, a5, a6] t (0, 0))) : (w.cell? ⟨b, 0, none⟩ = some a0 ∧ w.cell? ⟨b, 1, none⟩ = some a1 ∧ w.cell? ⟨b, 2, none⟩ = some a2 ∧ w.cell? ⟨b, 3, none⟩ = some a3 ∧ w.cell? ⟨b, 4, none⟩ = some a4 ∧ w.cell? ⟨b, 5, none⟩ = some a5 ∧ w.cell? ⟨b, 6, none⟩ = some a6) ∧ w.frozen? ⟨b, 0, none⟩ = false ∧ w.frozen? ⟨b, 1, none⟩ = false ∧ w.frozen? ⟨b, 2, none⟩ = false ∧ w.frozen? ⟨b, 3, none⟩ = false ∧ w.frozen? ⟨b, 4, none⟩ = false ∧ w.frozen? ⟨b, 5, none⟩ = false ∧ w.frozen? ⟨b, 6, none⟩ = false :=
 ⟨⟨by rw [cell_of_heap h]; rfl, by rw [cell_of_heap h]; rfl, by rw [cell_of_heap h]; rfl, by rw [cell_of_heap h]; rfl, by rw [cell_of_heap h]; rfl, by rw [cell_of_heap h]; rfl, by rw [cell_of_heap h]; rfl⟩, frozen_of_heap h _, frozen_of_heap h _, frozen_of_heap h _, frozen_of_heap h _, frozen_of_heap h _, frozen_of_heap h _, frozen_of_heap h _⟩
def AnsC (n0 : Nat) (R : Rr Co) (w : World) (e : Ending) (w' : World) : Prop := ∃ (x : Co) (vn vv vw va vb vc : Value), e = .returned (.agg #[.int .i64 (x.k : Int), vn, vv, vw, va, vb, vc]) ∧ (cmdE (cosV n0)).q (NewF w.heap.size w'.heap.size) w' x [.int .i64 (x.k : Int), vn, vv, vw, va, vb, vc] ∧ ∀ y r, R = .ok y r → x = y
theorem com_answer {n0 p b : Nat} {S : ByteArray} {d : Nat} {s : Sx} {R : Rr Co} {w w5 : World} {x : Co} {vn vv vw va vb vc : Value} {_o : Array Value} (hp : p < w.heap.size) (hb : w.heap.size ≤ b) (hr : TS p S d s w5) (hm : Mvr p w w5)
  (hq : (cmdE (cosV n0)).q (NewF (b + 1) w5.heap.size) w5 x [.int .i64 (x.k : Int), vn, vv, vw, va, vb, vc]) (hR : ∀ y r, R = .ok y r → x = y)
  (hy : ∃ a0 a1 a2 a3 a4 a5 a6, w5.heap[b]? = some (.cells #[a0, a1, a2, a3, a4, a5, a6] 37 (0, 0))) :
  (S7r w5 b (.int .i64 (x.k : Int)) vn vv vw va vb vc).heap[b]? = some (.cells #[.int .i64 (x.k : Int), vn, vv, vw, va, vb, vc] 37 (0, 0)) ∧ AnsC n0 R w (.returned (.agg #[.int .i64 (x.k : Int), vn, vv, vw, va, vb, vc])) (S7r w5 b (.int .i64 (x.k : Int)) vn vv vw va vb vc) ∧ TS p S d s (S7r w5 b (.int .i64 (x.k : Int)) vn vv vw va vb vc) ∧ Mvr p w (S7r w5 b (.int .i64 (x.k : Int)) vn vv vw va vb vc) := by
 obtain ⟨a0, a1, a2, a3, a4, a5, a6, hy⟩ := hy
 refine ⟨S7r_heap _ _ _ _ _ _ _ hy, ⟨x, vn, vv, vw, va, vb, vc, rfl, ?_, hR⟩, hr.same (S7r_other _ _ _ _ _ _ _ (by omega)), hm.own7 hb hp _ _ _ _ _ _ _⟩
 exact (cmdE (cosV n0)).mono _ _ _ _ _ (fun g hg => ⟨by have := hg.1; omega, by rw [S7r_size]; exact hg.2⟩) ((cmdE (cosV n0)).same _ _ _ _ _ (fun g hg => S7r_other _ _ _ _ _ _ _ (by have := hg.1; omega)) hq)
end Go.Proofs.YtelfgobjnibooaaGreatDoor
namespace Go.Proofs.YtelfgobjnibooaaGreatDoor
open Go.RowKit Go.Lib
def tailR (sub : Deeper) (s : List (List UInt8) × List (List Pt)) (r : List UInt8) : Rr Co :=
 if shKeys.contains (keyS r) then .bad 9 else (wordsS sub r).bind fun ws r' => if s.1 = [] ∧ ws = [] then .bad 9 else .ok (.mk 1 s.1 s.2 ws [] [] []) r'
def LinkA (sub : Deeper) (D : Rr Co) (ns : List (List UInt8)) (vs : List (List Pt)) : Sx → Prop
 | .at m => (iterS (asgStep sub) (ns, vs) m).bind (tailR sub) = D
 | .bad e => D = .bad e
section
variable {sub : Deeper} (hg : GoodD sub) {D : Rr Co} {ns : List (List UInt8)} {vs : List (List Pt)}
include hg
theorem asg_k (s : List (List UInt8) × List (List Pt)) (l : List UInt8) : iterS (asgStep sub) s l = stepK (iterS (asgStep sub)) (asgStep sub s l) := iterS_k (asgStep_nice hg) s l
theorem linka_stop {l : List UInt8} (h : LinkA sub D ns vs (.at l)) (ha : assignS l = none) : tailR sub (ns, vs) l = D := by
 have h : (iterS (asgStep sub) (ns, vs) l).bind (tailR sub) = D := h
 rw [← h, asg_k hg]
 unfold asgStep
 rw [ha]
 rfl
theorem linka_go {l n r : List UInt8} (h : LinkA sub D ns vs (.at l)) (ha : assignS l = some (n, r)) (ps : List Pt) (hp : ∀ y r', wordS sub r = .ok y r' → ps = y) : LinkA sub D (ns ++ [n]) (vs ++ [ps]) ((wordS sub r).sx.map gapS) := by
 have h : (iterS (asgStep sub) (ns, vs) l).bind (tailR sub) = D := h
 have e : iterS (asgStep sub) (ns, vs) l = stepK (iterS (asgStep sub)) ((wordS sub r).bind fun ps r' => .ok (.go (ns ++ [n], vs ++ [ps])) (gapS r')) := by
  rw [asg_k hg]
  unfold asgStep
  rw [ha]
 cases hw : wordS sub r with
 | bad b =>
  rw [hw] at e
  rw [e] at h
  exact h.symm
 | ok y r' =>
  rw [hw] at e
  rw [e] at h
  obtain rfl := hp _ _ hw
  exact h
end
theorem assignR_some {l n r : List UInt8} (h : assignS l = some (n, r)) : n = nameS l ∧ n ≠ [] ∧ l.drop n.length = 61 :: r := by
 unfold assignS at h
 split at h
 ·cases h
 ·rename_i h0
  cases ht : takeS [61] (l.drop (nameS l).length) with
  | none => rw [ht] at h; cases h
  | some q =>
   rw [ht] at h
   cases h
   refine ⟨rfl, h0, ?_⟩
   unfold takeS at ht
   split at ht
   ·rename_i hpre
    cases hd : l.drop (nameS l).length with
    | nil => rw [hd] at hpre; cases hpre
    | cons c q =>
     rw [hd] at hpre ht
     have : (61 : UInt8) = c := by simpa using hpre
     subst this
     cases ht
     rfl
   ·cases ht
theorem assignR_none {l : List UInt8} (h : assignS l = none) : nameS l = [] ∨ l.drop (nameS l).length = [] ∨ ∃ c q, l.drop (nameS l).length = c :: q ∧ c ≠ 61 := by
 unfold assignS at h
 split at h
 ·rename_i h0; exact .inl h0
 ·refine .inr ?_
  cases hd : l.drop (nameS l).length with
  | nil => exact .inl rfl
  | cons c q =>
   refine .inr ⟨c, q, rfl, fun e => ?_⟩
   rw [hd, e, take_eq] at h
   cases h
def keyF (t : Sx) : Sx := if keyX t = [] then t else t.fail 9
theorem tail_end {sub : Deeper} {D : Rr Co} {ns : List (List UInt8)} {vs : List (List Pt)} {t : Sx} (h : (∃ l, t = .at l ∧ tailR sub (ns, vs) l = D) ∨ ∃ e, t = .bad e ∧ D = .bad e) (ws : List (List Pt)) (hw : ∀ y r, (keyF t).run (wordsS sub) = .ok y r → ws = y) :
  D.sx = (if ns.length + ws.length = 0 then ((keyF t).run (wordsS sub)).sx.fail 9 else ((keyF t).run (wordsS sub)).sx) ∧ ∀ y r, D = .ok y r → (Co.mk 1 ns vs ws [] [] []) = y := by
 have hne : ∀ k ∈ shKeys, k ≠ [] := by decide
 rcases h with ⟨l, rfl, rfl⟩ | ⟨e, rfl, rfl⟩
 ·unfold tailR
  by_cases hk : shKeys.contains (keyS l) = true
  ·rw [if_pos hk]
   have e1 : keyX (.at l) = keyS l := by show (if _ then _ else _) = _; rw [if_pos hk]
   have e2 : keyF (.at l) = .bad 9 := by
    unfold keyF
    rw [e1, if_neg (hne _ (by simpa using hk))]
    rfl
   rw [e2]
   refine ⟨?_, fun y r h => by cases h⟩
   show Sx.bad 9 = if _ then Sx.bad 9 else Sx.bad 9
   split <;> rfl
  ·rw [if_neg hk]
   have e1 : keyX (.at l) = [] := by show (if _ then _ else _) = _; rw [if_neg hk]
   have e2 : keyF (.at l) = .at l := by unfold keyF; rw [e1, if_pos rfl]
   rw [e2] at hw ⊢
   have hw : ∀ y r, wordsS sub l = .ok y r → ws = y := hw
   show _ = (if _ then (wordsS sub l).sx.fail 9 else (wordsS sub l).sx) ∧ _
   cases hx : wordsS sub l with
   | bad b =>
    refine ⟨?_, fun y r h => by cases h⟩
    show Sx.bad b = if _ then Sx.bad b else Sx.bad b
    split <;> rfl
   | ok y r =>
    obtain rfl := hw _ _ hx
    have e : ((Rr.ok ws r).bind fun ws r' => (if (ns, vs).1 = [] ∧ ws = [] then (.bad 9 : Rr Co) else .ok (.mk 1 (ns, vs).1 (ns, vs).2 ws [] [] []) r')) = if ns = [] ∧ ws = [] then .bad 9 else .ok (.mk 1 ns vs ws [] [] []) r := rfl
    rw [e]
    by_cases hz : ns.length + ws.length = 0
    ·have z1 : ns = [] := List.length_eq_zero_iff.1 (by omega)
     have z2 : ws = [] := List.length_eq_zero_iff.1 (by omega)
     rw [if_pos hz, if_pos ⟨z1, z2⟩]
     exact ⟨rfl, fun y r h => by cases h⟩
    ·rw [if_neg hz, if_neg (fun h => hz (by rw [h.1, h.2]; rfl))]
     exact ⟨rfl, fun y r h => by cases h; rfl⟩
 ·have e2 : keyF (.bad e) = .bad e := rfl
  rw [e2]
  refine ⟨?_, fun y r h => by cases h⟩
  show Sx.bad e = if _ then Sx.bad e else Sx.bad e
  split <;> rfl
end Go.Proofs.YtelfgobjnibooaaGreatDoor
