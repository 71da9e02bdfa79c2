/- Packed texts: RfRow, RfWith, RfWith2, RfBrace. What each of them proves stands above its theorems; the conditions stand in these. -/
import Derived.Deep.RegionLaw
import Derived.Test.YtelfgobjnibooaaGreatDoorA1
import Derived.Test.YtelfgobjnibooaaGreatDoorA3
import Derived.Test.YtelfgobjnibooaaGreatDoorA24
namespace Go.Proofs.YtelfgobjnibooaaGreatDoor
open Go.RowKit Go.Lib
def RowO {X : Type} (E : ElemP X) (e : TypeId) (B : Nat) (A : Nat → Prop) (w : World) (v : Value) (xs : List X) : Prop :=
 ∃ (css : List (List Value)) (F : Nat → Prop), css.length = xs.length ∧ (∀ (i : Nat) (x : X) (cs : List Value), xs[i]? = some x → css[i]? = some cs → E.q F w x cs) ∧ w.ownsRow B e E.size v xs.length css.flatten ∧ (∀ g, F g → B ≤ g ∧ g < w.heap.size) ∧ (∀ g, v.ownBlock = some g → ¬ F g) ∧ ∀ g, A g → v.ownBlock ≠ some g
theorem RowO.nil {X : Type} (E : ElemP X) (e : TypeId) (B : Nat) (A : Nat → Prop) (w : World) : RowO E e B A w (.slice none 0 0) ([] : List X) :=
 ⟨[], fun _ => False, rfl, fun i x cs hx => by simp at hx, World.ownsRow_nil _ _ _ _, fun g hg => hg.elim, fun g hg => (by cases hg), fun g _ => fun h => (by cases h)⟩
theorem RowO.same {X : Type} {E : ElemP X} {e : TypeId} {B : Nat} {A : Nat → Prop} {w w' : World} {v : Value} {xs : List X} (h : RowO E e B A w v xs) (hs : w.heap.size ≤ w'.heap.size) (hb : ∀ g, B ≤ g → g < w.heap.size → w'.heap[g]? = w.heap[g]?) : RowO E e B A w' v xs := by
 obtain ⟨css, F, h1, h2, h3, h4, h5, h6⟩ := h
 exact ⟨css, F, h1, fun i x cs hx hc => E.same _ _ _ _ _ (fun g hg => hb g (h4 g hg).1 (h4 g hg).2) (h2 i x cs hx hc), ownS_same h3 fun g hg => hb g (ownS_lt h3 hg).1 (ownS_lt h3 hg).2, fun g hg => ⟨(h4 g hg).1, Nat.lt_of_lt_of_le (h4 g hg).2 hs⟩, h5, h6⟩
theorem RowO.moved {X : Type} {E : ElemP X} {e : TypeId} {B p : Nat} {A : Nat → Prop} {w w' : World} {v : Value} {xs : List X} (h : RowO E e B A w v xs) (hm : Mvr p w w') (hp : p < B) : RowO E e B A w' v xs := h.same hm.size fun g h1 h2 => hm.high g (by omega) h2
theorem RowO.avoid {X : Type} {E : ElemP X} {e : TypeId} {B : Nat} {A A' : Nat → Prop} {w : World} {v : Value} {xs : List X} (h : RowO E e B A w v xs) (hA : ∀ g, A' g → A g ∨ w.heap.size ≤ g) : RowO E e B A' w v xs := by
 obtain ⟨css, F, h1, h2, h3, h4, h5, h6⟩ := h
 refine ⟨css, F, h1, h2, h3, h4, h5, fun g ha => ?_⟩
 rcases hA g ha with h | h
 ·exact h6 g h
 ·exact fun hv => by have := (ownS_lt h3 hv).2; omega
theorem RowO.since {X : Type} {E : ElemP X} {e : TypeId} {B p : Nat} {A : Nat → Prop} {w w' : World} {v : Value} {xs : List X} (h : RowO E e B A w v xs) (hm : Mvr p w w') (hp : p < B) : RowO E e B (NewF w.heap.size w'.heap.size) w' v xs := by
 have h := h.avoid (A' := NewF w.heap.size w'.heap.size) (fun g hg => .inr hg.1)
 exact h.moved hm hp
theorem RowO.row {X : Type} {E : ElemP X} {e : TypeId} {B : Nat} {A : Nat → Prop} {w : World} {v : Value} {xs : List X} (h : RowO E e B A w v xs) : RowM E e (NewF B w.heap.size) w v xs := by
 obtain ⟨css, F, h1, h2, h3, h4, h5, h6⟩ := h
 exact ⟨css, h1, fun i x cs hx hc => E.mono _ _ _ _ _ (fun g hg => h4 g hg) (h2 i x cs hx hc), ownS_base h3 (Nat.zero_le _), fun g hg => ownS_lt h3 hg⟩
theorem RowO.own {X : Type} {E : ElemP X} {e : TypeId} {B : Nat} {A : Nat → Prop} {w : World} {v : Value} {xs : List X} (h : RowO E e B A w v xs) : ∃ ys, w.ownsRow B e E.size v xs.length ys := by
 obtain ⟨css, F, h1, h2, h3, h4, h5, h6⟩ := h
 exact ⟨_, h3⟩
theorem RowO.out {X : Type} {E : ElemP X} {e : TypeId} {B : Nat} {A : Nat → Prop} {w : World} {v : Value} {xs : List X} (h : RowO E e B A w v xs) : ∀ g, A g → v.ownBlock ≠ some g := by
 obtain ⟨css, F, h1, h2, h3, h4, h5, h6⟩ := h
 exact h6
theorem RowO.lt {X : Type} {E : ElemP X} {e : TypeId} {B : Nat} {A : Nat → Prop} {w : World} {v : Value} {xs : List X} (h : RowO E e B A w v xs) : ∀ g, v.ownBlock = some g → B ≤ g ∧ g < w.heap.size := by
 obtain ⟨css, F, h1, h2, h3, h4, h5, h6⟩ := h
 exact fun g hg => ownS_lt h3 hg
theorem RowO.snoc {X : Type} {E : ElemP X} {e : TypeId} {B : Nat} {A Fx : Nat → Prop} {w w6 : World} {v v6 : Value} {xs : List X} {ys cs : List Value} {x : X} (h : RowO E e B A w v xs) (hx : E.q Fx w x cs) (hF : ∀ g, Fx g → B ≤ g ∧ g < w.heap.size) (hv : ∀ g, Fx g → v.ownBlock ≠ some g) (hA : ∀ g, A g → g < w.heap.size)
  (hy : w.ownsRow B e E.size v xs.length ys) (h6 : w6.ownsRow B e E.size v6 (xs.length + 1) (ys ++ cs)) (hg : w.grownBy w6 v.ownBlock) (hf : v6.ownBlock = v.ownBlock ∨ v6.ownBlock = some w.heap.size) : RowO E e B A w6 v6 (xs ++ [x]) := by
 obtain ⟨css, F, h1, h2, h3, h4, h5, hAF⟩ := h
 have eys := ownS_one hy h3
 subst eys
 have keep : ∀ g, (F g ∨ Fx g) → w6.heap[g]? = w.heap[g]? := fun g h => hg.block g (by
  rcases h with h | h
  ·exact (h4 g h).2
  ·exact (hF g h).2) (fun e' => by
   rcases h with h | h
   ·exact h5 g e'.symm h
   ·exact hv g h e'.symm)
 refine ⟨css ++ [cs], fun g => F g ∨ Fx g, by rw [List.length_append, List.length_append, h1]; rfl, ?_, ?_, ?_, ?_, ?_⟩
 ·intro i y ds hy hd
  by_cases hi : i < xs.length
  ·rw [List.getElem?_append_left hi] at hy
   rw [List.getElem?_append_left (by omega)] at hd
   exact E.same _ _ _ _ _ keep (E.mono _ _ _ _ _ (fun g h => .inl h) (h2 i y ds hy hd))
  ·rw [List.getElem?_append_right (by omega)] at hy
   rw [List.getElem?_append_right (by omega)] at hd
   have hi0 : i - xs.length = 0 := by
    by_cases h : i - xs.length = 0
    ·exact h
    ·rw [List.getElem?_eq_none (by simp; omega)] at hy; cases hy
   rw [hi0] at hy
   rw [h1, hi0] at hd
   cases hy; cases hd
   exact E.same _ _ _ _ _ keep (E.mono _ _ _ _ _ (fun g h => .inr h) hx)
 ·rw [List.length_append, List.flatten_append]
  simpa using h6
 ·intro g h
  have hs := hg.size
  rcases h with h | h
  ·exact ⟨(h4 g h).1, Nat.lt_of_lt_of_le (h4 g h).2 hs⟩
  ·exact ⟨(hF g h).1, Nat.lt_of_lt_of_le (hF g h).2 hs⟩
 ·intro g hg6 h
  rcases hf with hf | hf
  ·rw [hf] at hg6
   rcases h with h | h
   ·exact h5 g hg6 h
   ·exact hv g h hg6
  ·rw [hf] at hg6
   cases hg6
   rcases h with h | h
   ·have h7 := (h4 _ h).2; omega
   ·have h7 := (hF _ h).2; omega
 ·intro g ha
  rcases hf with hf | hf
  ·rw [hf]; exact hAF g ha
  ·rw [hf]; intro e; cases e; have := hA _ ha; omega
theorem grown_blocks {w w6 : World} {row : Option Nat} {A : Nat → Prop} (hg : w.grownBy w6 row) (hA : ∀ g, A g → g < w.heap.size ∧ row ≠ some g) : ∀ g, A g → w6.heap[g]? = w.heap[g]? := fun g ha => hg.block g (hA g ha).1 fun e => (hA g ha).2 e.symm
theorem ownS_take {w : World} {B n size : Nat} {e : TypeId} {ao : Option Addr} {cap : Nat} {xs : List Value} (h : w.ownsRow B e size (.slice ao n cap) n xs) (m : Nat) (hm : m ≤ n) : w.ownsRow B e size (.slice ao m cap) m (xs.take (m * size)) := by
 have hl := h.1
 have hle : m * size ≤ n * size := Nat.mul_le_mul_right _ hm
 rcases h.2 with ⟨e0, e1⟩ | ⟨g, c, cur, hv, hB, hg, hn, hc, hz, ht⟩
 ·cases e0
  obtain rfl : m = 0 := by omega
  rw [Nat.zero_mul, List.take_zero]
  exact World.ownsRow_nil _ _ _ _
 ·cases hv
  refine ⟨by rw [List.length_take]; omega, .inr ⟨g, _, cur, rfl, hB, hg, by omega, hc, hz, ?_⟩⟩
  rw [← ht, List.take_take, Nat.min_eq_left hle]
theorem flat_take {X : Type} {E : ElemP X} : ∀ (css : List (List Value)) (m : Nat), (∀ cs ∈ css, cs.length = E.size) → css.flatten.take (m * E.size) = (css.take m).flatten
 | [], m, _ => by simp
 | c :: css, 0, _ => by simp
 | c :: css, m + 1, h => by
  have hc := h c (by simp)
  rw [List.take_succ_cons, List.flatten_cons, List.flatten_cons, Nat.succ_mul, List.take_append, hc]
  rw [List.take_of_length_le (by omega), show m * E.size + E.size - E.size = m * E.size by omega, flat_take css m (fun cs h' => h cs (by simp [h']))]
theorem RowM.take {X : Type} {E : ElemP X} {e : TypeId} {F : Nat → Prop} {w : World} {ao : Option Addr} {n cap : Nat} {xs : List X} (h : RowM E e F w (.slice ao n cap) xs) (m : Nat) (hm : m ≤ xs.length) : RowM E e F w (.slice ao m cap) (xs.take m) := by
 obtain ⟨css, h1, h2, h3, h4⟩ := h
 have hn : n = xs.length := by
  rcases h3.2 with ⟨e0, e1⟩ | ⟨g, c, cur, hv, _⟩
  ·cases e0; exact e1.symm
  ·cases hv; rfl
 subst hn
 have hall : ∀ cs ∈ css, cs.length = E.size := by
  intro cs hcs
  obtain ⟨i, hi⟩ := List.mem_iff_getElem?.1 hcs
  have hil : i < xs.length := by have := (List.getElem?_eq_some_iff.1 hi).1; omega
  exact E.len _ _ _ _ (h2 i _ _ (List.getElem?_eq_getElem hil) hi)
 refine ⟨css.take m, by rw [List.length_take, List.length_take, h1], fun i x cs hx hc => ?_, ?_, fun g hg => h4 g (by cases ao <;> exact hg)⟩
 ·have hi : i < m := by
   have := (List.getElem?_eq_some_iff.1 hx).1
   rw [List.length_take] at this
   omega
  rw [List.getElem?_take_of_lt hi] at hx hc
  exact h2 i x cs hx hc
 ·have hlt : (xs.take m).length = m := by rw [List.length_take]; omega
  rw [hlt, ← flat_take css m hall]
  exact ownS_take h3 m hm
theorem AppR.rowO {X : Type} {E : ElemP X} {e : TypeId} {B B0 : Nat} {F A : Nat → Prop} {w : World} {v : Value} {xs : List X} (h : AppR E e B0 F w v xs) (hB : B ≤ B0) (hF : ∀ g, F g → B ≤ g) (hs : B0 ≤ w.heap.size) (hA : ∀ g, A g → g < B0) : RowO E e B A w v xs := by
 obtain ⟨css, h1, h2, h3, h4⟩ := h
 exact ⟨css, F, h1, h2, ownS_base h3 hB, fun g hg => ⟨hF g hg, by have := h4 g hg; omega⟩, fun g hg hf => by have := (ownS_lt h3 hg).1; have := h4 g hf; omega, fun g ha e => by have := (ownS_lt h3 e).1; have := hA g ha; omega⟩
end Go.Proofs.YtelfgobjnibooaaGreatDoor
namespace Go.Proofs.YtelfgobjnibooaaGreatDoor
open Go.RowKit Go.Lib
theorem Tryz.infoPartR : (Tryz.prog.info? 42).map (fun i => (i.zero, i.size, i.bytes)) = some (some (.agg #[.int .i64 0, .bool false, .string ByteArray.empty, .string ByteArray.empty, .slice none 0 0]), 5, 72) := by kernel_rfl
theorem cellsR (w : World) (t : TypeId) (cs : List Value) : ∀ r x, cs[r]? = some x → (w.alloc (.cells cs.toArray t)).cell? ((⟨w.heap.size, 0, none⟩ : Addr).add r) = some x := by
 intro r x hx
 have hh := heap_alloc_new w (.cells cs.toArray t)
 have ea : (⟨w.heap.size, 0, none⟩ : Addr).add r = ⟨w.heap.size, r, none⟩ := by simp [Addr.add]; intro h; exact h.symm
 rw [ea, cell_of_heap hh]
 simpa using hx
theorem cellsZ (w : World) (t : TypeId) (cs : List Value) (z : Nat) (hz : w.heap.size = z) : ∀ r x, cs[r]? = some x → (w.alloc (.cells cs.toArray t)).cell? ((⟨z, 0, none⟩ : Addr).add r) = some x := by
 subst hz
 exact cellsR w t cs
def ptC (x : Pt) (vl : Value) : List Value := [.int .i64 (x.k : Int), .bool x.q, .string ⟨x.s.toArray⟩, .string ⟨x.t.toArray⟩, vl]
abbrev PtsO (L : ValP (List Co)) (B : Nat) (A : Nat → Prop) (w : World) (v : Value) (ps : List Pt) : Prop := RowO (partE L) 42 B A w v ps
set_option maxHeartbeats 4000000 in
set_option maxRecDepth 20000 in
theorem with_plain (n0 : Nat) (B : Nat) (A : Nat → Prop) (ps : List Pt) (x : Pt) (al : Option Addr) (m cl : Nat) (w : World) (hx : (cosV n0).q A w (.slice al m cl) x.l) (hA : ∀ g, A g → B ≤ g ∧ g < w.heap.size) (hB : B ≤ w.heap.size) (v : Value) (h : PtsO (cosV n0) B A w v ps) (hps : ps.length ≤ 4194304)
  (hnm : ps = [] ∨ ∃ P q, ps = P ++ [q] ∧ ¬ (x.k = 1 ∧ q.k = 1 ∧ q.q = x.q)) :
  Calls Tryz.prog 170 #[v, .agg #[.int .i64 (x.k : Int), .bool x.q, .string ⟨x.s.toArray⟩, .string ⟨x.t.toArray⟩, .slice al m cl]] w fun e w' => ∃ v', e = .returned v' ∧ PtsO (cosV n0) B A w' v' (ps ++ [x]) ∧ Below B w w' ∧ ∀ g, A g → w'.heap[g]? = w.heap[g]? := by
 obtain ⟨ys, hy⟩ := h.own
 obtain ⟨ao, cap, rfl, hcap⟩ := ownS_shape hy
 obtain ⟨W0, hW0⟩ : ∃ W0, W0 = w.alloc (.cells #[.int .i64 (x.k : Int), .bool x.q, .string ⟨x.s.toArray⟩, .string ⟨x.t.toArray⟩, .slice al m cl] 42) := ⟨_, rfl⟩
 have hz0 : W0.heap.size = w.heap.size + 1 := by rw [hW0]; simp
 have hb0 : Below w.heap.size w W0 := by rw [hW0]; exact (Below.refl _ w).alloc (Nat.le_refl _) _
 have hn0 : W0.heap[w.heap.size]? = some (.cells #[.int .i64 (x.k : Int), .bool x.q, .string ⟨x.s.toArray⟩, .string ⟨x.t.toArray⟩, .slice al m cl] 42 (0, 0)) := by rw [hW0]; exact heap_alloc_new w _
 obtain ⟨i0, hi, hzi0, hzi1, hzi2⟩ := info_parts Tryz.infoPartR
 have HI := Lib.hid (And.intro hi (And.intro hzi0 (And.intro hzi1 hzi2)))
 have PUT : Hid (∀ (W : World) (o : Obj) (w2 : World) (v2 : Value), Below W0.heap.size W0 W → w2.ownsRow B 42 5 v2 (ps.length + 1) (ys ++ [.int .i64 (x.k : Int), .bool x.q, .string ⟨x.s.toArray⟩, .string ⟨x.t.toArray⟩, .slice al m cl]) → (W.alloc o).grownBy w2 (Value.slice ao ps.length cap).ownBlock → (v2.ownBlock = (Value.slice ao ps.length cap).ownBlock ∨ v2.ownBlock = some (W.alloc o).heap.size) →
   PtsO (cosV n0) B A w2 v2 (ps ++ [x]) ∧ Below B w w2 ∧ ∀ g, A g → w2.heap[g]? = w.heap[g]?) := by
  intro W o w2 v2 hbW h2 hg hf
  have hbo : Below w.heap.size w (W.alloc o) := (hb0.trans (hbW.mono hb0.size)).alloc (Nat.le_trans hb0.size hbW.size) _
  have hR : PtsO (cosV n0) B A (W.alloc o) (.slice ao ps.length cap) ps := h.same hbo.size fun g _ hs => hbo.block g hs
  have hx2 : (partE (cosV n0)).q A (W.alloc o) x (ptC x (.slice al m cl)) := ⟨_, rfl, (cosV n0).same _ _ _ _ _ (fun g hg => hbo.block g (hA g hg).2) hx⟩
  have hA2 : ∀ g, A g → B ≤ g ∧ g < (W.alloc o).heap.size := fun g hg => ⟨(hA g hg).1, Nat.lt_of_lt_of_le (hA g hg).2 hbo.size⟩
  refine ⟨hR.snoc hx2 hA2 (fun g hg => hR.out g hg) (fun g hg => (hA2 g hg).2) (ownS_same hy fun g hg => hbo.block g (ownS_lt hy hg).2) h2 hg hf, (hbo.mono hB).grown hg (Nat.le_trans hB hbo.size) fun g hg2 => (ownS_lt hy hg2).1, fun g hg3 => ?_⟩
  rw [grown_blocks hg (A := A) (fun g hg => ⟨(hA2 g hg).2, hR.out g hg⟩) g hg3]
  exact hbo.block g (hA g hg3).2
 have NEWC := Lib.hid (fun (W : World) (hb : Below W0.heap.size W0 W) => (by
  have hn1 := (hb.block _ (by omega)).trans hn0
  exact ⟨⟨by rw [cell_of_heap hn1]; rfl, by rw [cell_of_heap hn1]; rfl, by rw [cell_of_heap hn1]; rfl, by rw [cell_of_heap hn1]; rfl, by rw [cell_of_heap hn1]; rfl⟩, ownS_same hy fun g hg => (hb.block g (by have := (ownS_lt hy hg).2; omega)).trans (hb0.block g (ownS_lt hy hg).2), fun o => by have := hb.size; rw [World.size_alloc]; omega⟩ :
  (W.cell? ⟨w.heap.size, 0, none⟩ = some (.int .i64 (x.k : Int)) ∧ W.cell? ⟨w.heap.size, 1, none⟩ = some (.bool x.q) ∧ W.cell? ⟨w.heap.size, 2, none⟩ = some (.string ⟨x.s.toArray⟩) ∧ W.cell? ⟨w.heap.size, 3, none⟩ = some (.string ⟨x.t.toArray⟩) ∧ W.cell? ⟨w.heap.size, 4, none⟩ = some (.slice al m cl)) ∧ W.ownsRow B 42 5 (.slice ao ps.length cap) ps.length ys ∧ ∀ o, B ≤ (W.alloc o).heap.size))
 obtain ⟨⟨c0, c1, c2, c3, c4⟩, -, -⟩ := NEWC.out W0 (Below.refl _ _)
 have HB0 := Lib.hid (Below.refl W0.heap.size W0)
 rw [hW0] at PUT NEWC c0 c1 c2 c3 c4 HB0
 obtain ⟨N, hN⟩ : ∃ N, N = ps.length := ⟨_, rfl⟩
 rw [← hN] at PUT NEWC hps hcap ⊢
 rcases hnm with rfl | ⟨P, q, rfl, hnm⟩
 ·subst hN
  clear h hx hA hb0 hn0 hz0 hi hzi0 hzi1 hzi2 hy hcap
  generalize (⟨x.s.toArray⟩ : ByteArray) = XS at *
  generalize (⟨x.t.toArray⟩ : ByteArray) = XT at *
  go_enter Tryz.func170, Tryz.ntmps170
  go_wp2_with fail
  go_quiet (fail)
  go_wp2_with (at_builtin; refine wpList_append_farG _ rfl (.tmp 56) (.tmp 58) 38 rfl B 42 i0 _ 5 72 Tryz.underlying38 HI.out.1 HI.out.2.1 HI.out.2.2.1 HI.out.2.2.2 rfl (by decide) (.slice ao 0 cap) 0 ys rfl ((NEWC.out _ (below_draws HB0.out _)).2.1.alloc _) ⟨_, 0, none⟩ 1 [.int .i64 (x.k : Int), .bool x.q, .string XS, .string XT, .slice al m cl] rfl rfl (cellsZ _ _ _ _ (by simp)) (by simp [Value.oneCell']) (by unfold maxLen; omega) (by omega) ((NEWC.out _ (below_draws HB0.out _)).2.2 _) ?_; intro v2 w2 hown2 hgrow2 hfar2; obtain ⟨ao2, cap2, rfl, _⟩ := ownS_shape hown2; have HP := Lib.hid (PUT.out _ _ w2 _ (below_draws HB0.out _) hown2 hgrow2 hfar2); clear hown2 hgrow2 hfar2)
  go_ret
  exact ⟨_, rfl, HP.out⟩
 ·have hrow := h.row
  obtain ⟨g0, cap0, aq, mq, cq, e0, -, hg0, ⟨q0, q1, q2, -, -⟩, -⟩ := pt_at hrow (i := P.length) (x := q) (by simp)
  cases e0
  have hlt : g0 ≠ w.heap.size := by omega
  have LASTC := Lib.hid (fun (W : World) (hb : Below W0.heap.size W0 W) => (by
   have hb1 : W.heap[g0]? = w.heap[g0]? := (hb.block g0 (by omega)).trans (hb0.block g0 hg0)
   exact ⟨(World.cell?_of_block hb1).trans q0, (World.cell?_of_block hb1).trans q1, (World.cell?_of_block hb1).trans q2⟩ :
   W.cell? ⟨g0, P.length * 5, none⟩ = some (.int .i64 (q.k : Int)) ∧ W.cell? ⟨g0, P.length * 5 + 1, none⟩ = some (.bool q.q) ∧ W.cell? ⟨g0, P.length * 5 + 2, none⟩ = some (.string ⟨q.s.toArray⟩)))
  obtain ⟨l0, l1, -⟩ := LASTC.out W0 (Below.refl _ _)
  rw [hW0] at l0 l1
  have hNM : N = P.length + 1 := by rw [hN]; simp
  generalize P.length = M at *
  have hw1 : IntKind.i64.wrap ((N : Int) - 1) = (M : Int) := by rw [IntWalk.i64_in _ (by omega)]; omega
  have hMN : (M : Int) < (N : Int) := by omega
  have hMN2 : M < N := by omega
  have h0N : (0 : Int) < (N : Int) := by omega
  have hcapI : (N : Int) ≤ (cap : Int) := by omega
  have h0N2 : 0 < N := by omega
  have h0N3 : decide ((0 : Int) < (N : Int)) = true := decide_eq_true h0N
  have h0N4 : decide (0 < N) = true := decide_eq_true h0N2
  have h0N5 : ((N : Int) == 0) = false := by rw [beq_eq_false_iff_ne]; omega
  have HNM := Lib.hid hNM
  clear h hx hA hb0 hn0 hz0 hi hzi0 hzi1 hzi2 hy hcap hN hNM LASTC q0 q1 q2 hrow hg0
  generalize (⟨x.s.toArray⟩ : ByteArray) = XS at *
  generalize (⟨x.t.toArray⟩ : ByteArray) = XT at *
  by_cases hk : x.k = 1
  ·have hkI : (x.k : Int) = 1 := by omega
   rw [hkI] at PUT NEWC c0 HB0 l0 l1 c1 c2 c3 c4 ⊢
   clear hkI
   by_cases hqk : q.k = 1
   ·have e2 : ((q.k : Int) == 1) = true := by rw [hqk]; rfl
    have hne : q.q ≠ x.q := fun e => hnm ⟨hk, hqk, e⟩
    generalize hXQ : x.q = xq at *
    generalize hQQ : q.q = qq at *
    cases qq <;> cases xq
    case false.false => exact absurd rfl hne
    case true.true => exact absurd rfl hne
    all_goals
     clear hne hnm hXQ hQQ
     go_enter Tryz.func170, Tryz.ntmps170
     go_wp2_with fail
     go_quiet (fail)
     go_wp2_with (at_builtin; refine wpList_append_farG _ rfl (.tmp 56) (.tmp 58) 38 rfl B 42 i0 _ 5 72 Tryz.underlying38 HI.out.1 HI.out.2.1 HI.out.2.2.1 HI.out.2.2.2 rfl (by decide) (.slice (some ⟨g0, 0, none⟩) N cap) N ys rfl ((NEWC.out _ (below_draws HB0.out _)).2.1.alloc _) ⟨_, 0, none⟩ 1 [.int .i64 1, .bool _, .string XS, .string XT, .slice al m cl] rfl rfl (cellsZ _ _ _ _ (by simp)) (by simp [Value.oneCell']) (by unfold maxLen; omega) (by omega) ((NEWC.out _ (below_draws HB0.out _)).2.2 _) ?_; intro v2 w2 hown2 hgrow2 hfar2; obtain ⟨ao2, cap2, rfl, _⟩ := ownS_shape hown2; have HP := Lib.hid (PUT.out _ _ w2 _ (below_draws HB0.out _) hown2 hgrow2 hfar2); clear hown2 hgrow2 hfar2)
     go_ret
     exact ⟨_, rfl, HP.out⟩
   ·have e2 : ((q.k : Int) == 1) = false := by rw [beq_eq_false_iff_ne]; omega
    go_enter Tryz.func170, Tryz.ntmps170
    go_wp2_with fail
    go_quiet (fail)
    go_wp2_with (at_builtin; refine wpList_append_farG _ rfl (.tmp 56) (.tmp 58) 38 rfl B 42 i0 _ 5 72 Tryz.underlying38 HI.out.1 HI.out.2.1 HI.out.2.2.1 HI.out.2.2.2 rfl (by decide) (.slice (some ⟨g0, 0, none⟩) N cap) N ys rfl ((NEWC.out _ (below_draws HB0.out _)).2.1.alloc _) ⟨_, 0, none⟩ 1 [.int .i64 1, .bool x.q, .string XS, .string XT, .slice al m cl] rfl rfl (cellsZ _ _ _ _ (by simp)) (by simp [Value.oneCell']) (by unfold maxLen; omega) (by omega) ((NEWC.out _ (below_draws HB0.out _)).2.2 _) ?_; intro v2 w2 hown2 hgrow2 hfar2; obtain ⟨ao2, cap2, rfl, _⟩ := ownS_shape hown2; have HP := Lib.hid (PUT.out _ _ w2 _ (below_draws HB0.out _) hown2 hgrow2 hfar2); clear hown2 hgrow2 hfar2)
    go_ret
    exact ⟨_, rfl, HP.out⟩
  ·have e1 : ((x.k : Int) == 1) = false := by rw [beq_eq_false_iff_ne]; omega
   go_enter Tryz.func170, Tryz.ntmps170
   go_wp2_with fail
   go_quiet (fail)
   go_wp2_with (at_builtin; refine wpList_append_farG _ rfl (.tmp 56) (.tmp 58) 38 rfl B 42 i0 _ 5 72 Tryz.underlying38 HI.out.1 HI.out.2.1 HI.out.2.2.1 HI.out.2.2.2 rfl (by decide) (.slice (some ⟨g0, 0, none⟩) N cap) N ys rfl ((NEWC.out _ (below_draws HB0.out _)).2.1.alloc _) ⟨_, 0, none⟩ 1 [.int .i64 (x.k : Int), .bool x.q, .string XS, .string XT, .slice al m cl] rfl rfl (cellsZ _ _ _ _ (by simp)) (by simp [Value.oneCell']) (by unfold maxLen; omega) (by omega) ((NEWC.out _ (below_draws HB0.out _)).2.2 _) ?_; intro v2 w2 hown2 hgrow2 hfar2; obtain ⟨ao2, cap2, rfl, _⟩ := ownS_shape hown2; have HP := Lib.hid (PUT.out _ _ w2 _ (below_draws HB0.out _) hown2 hgrow2 hfar2); clear hown2 hgrow2 hfar2)
   go_ret
   exact ⟨_, rfl, HP.out⟩
end Go.Proofs.YtelfgobjnibooaaGreatDoor
namespace Go.Proofs.YtelfgobjnibooaaGreatDoor
open Go.RowKit Go.Lib
theorem part_one (n : Nat) : ∀ F w x cs, (partE (cosV n)).q F w x cs → ∀ u ∈ cs, u.oneCell' = true := by
 intro F w x cs h u hu
 obtain ⟨vl, rfl, h1⟩ := h
 obtain ⟨ao, cap, rfl, _⟩ := cos_shape h1
 simp only [List.mem_cons, List.not_mem_nil, or_false] at hu
 rcases hu with rfl | rfl | rfl | rfl | rfl <;> rfl
theorem AppR.beginZ {X : Type} (E : ElemP X) (e : TypeId) (w : World) (z : Nat) (hz : w.heap.size = z) : AppR E e z NoneF (w.alloc (.cells #[] e)) (.slice (some ⟨z, 0, none⟩) 0 0) ([] : List X) := by
 subst hz
 exact AppR.begin E e w
theorem AppR.shape {X : Type} {E : ElemP X} {e : TypeId} {B : Nat} {F : Nat → Prop} {w : World} {v : Value} {xs : List X} (h : AppR E e B F w v xs) : ∃ ao cap, v = .slice ao xs.length cap ∧ xs.length ≤ cap := by
 obtain ⟨css, h1, h2, h3, h4⟩ := h
 exact ownS_shape h3
theorem AppR.same {X : Type} {E : ElemP X} {e : TypeId} {B : Nat} {F : Nat → Prop} {w w' : World} {v : Value} {xs : List X} (h : AppR E e B F w v xs) (hF : ∀ g, F g → w'.heap[g]? = w.heap[g]?) (hO : ∀ g, B ≤ g → g < w.heap.size → w'.heap[g]? = w.heap[g]?) : AppR E e B F w' v xs := by
 obtain ⟨css, h1, h2, h3, h4⟩ := h
 exact ⟨css, h1, fun i x cs hx hc => E.same _ _ _ _ _ hF (h2 i x cs hx hc), ownS_same h3 fun g hg => hO g (ownS_lt h3 hg).1 (ownS_lt h3 hg).2, h4⟩
theorem AppR.owned {X : Type} {E : ElemP X} {e : TypeId} {B : Nat} {F : Nat → Prop} {w : World} {v : Value} {xs : List X} (h : AppR E e B F w v xs) : ∃ ys, w.ownsRow B e E.size v xs.length ys := by
 obtain ⟨css, h1, h2, h3, h4⟩ := h
 exact ⟨_, h3⟩
theorem merge_end (n0 B : Nat) (A : Nat → Prop) (P : List Pt) (x : Pt) (al : Option Addr) (m cl z : Nat) (w W w2 w3 w4 : World) (o : Obj) (v2 v4 : Value) (ys2 : List Value) (hB : B ≤ w.heap.size) (hA : ∀ g, A g → B ≤ g ∧ g < w.heap.size) (hx : (cosV n0).q A w (.slice al m cl) x.l) (hz : z = w.heap.size) (hW : w.heap.size < W.heap.size) (hb : Below w.heap.size w w2) (hb2 : W.heap.size ≤ w2.heap.size)
  (ha : AppR (partE (cosV n0)) 42 W.heap.size (fun g => NoneF g ∨ NewF B w.heap.size g) w2 v2 P) (hs3 : w3.heap.size = w2.heap.size) (ht3 : Below z w2 w3) (hk3 : ∀ g, g ≠ z → w3.heap[g]? = w2.heap[g]?)
  (hy2 : w2.ownsRow W.heap.size 42 5 v2 P.length ys2) (h4 : w4.ownsRow B 42 5 v4 (P.length + 1) (ys2 ++ ptC x (.slice al m cl))) (hg : (w3.alloc o).grownBy w4 v2.ownBlock) (hf : v4.ownBlock = v2.ownBlock ∨ v4.ownBlock = some (w3.alloc o).heap.size) :
  PtsO (cosV n0) B A w4 v4 (P ++ [x]) ∧ Below B w w4 ∧ ∀ g, A g → w4.heap[g]? = w.heap[g]? := by
 subst hz
 have ha3 := ha.same (w' := w3) (fun g hg => hk3 g (by rcases hg with hg | hg; exact hg.elim; have := hg.2; omega)) (fun g h1 _ => hk3 g (by omega))
 have ha4 := ha3.same (w' := w3.alloc o) (fun g hg => Below.heap_alloc _ _ _ (by rcases hg with hg | hg; exact hg.elim; have := hg.2; omega)) (fun g _ h2 => Below.heap_alloc _ _ _ h2)
 have hR : PtsO (cosV n0) B A (w3.alloc o) v2 P := ha4.rowO (B := B) (A := A) (by omega) (fun g hg => hg.elim (fun h => h.elim) (fun h => h.1)) (by rw [World.size_alloc]; omega) (fun g hg => by have := (hA g hg).2; omega)
 have hbo : Below w.heap.size w (w3.alloc o) := (hb.trans ht3).alloc (by omega) _
 have hsz : (w3.alloc o).heap.size = w2.heap.size + 1 := by rw [World.size_alloc, hs3]
 have hAo : ∀ g, A g → (w3.alloc o).heap[g]? = w.heap[g]? := fun g hg => hbo.block g (hA g hg).2
 have hA2 : ∀ g, A g → B ≤ g ∧ g < (w3.alloc o).heap.size := fun g hg => ⟨(hA g hg).1, by have := (hA g hg).2; omega⟩
 have hx2 : (partE (cosV n0)).q A (w3.alloc o) x (ptC x (.slice al m cl)) := ⟨_, rfl, (cosV n0).same _ _ _ _ _ hAo hx⟩
 have hyo : (w3.alloc o).ownsRow B 42 5 v2 P.length ys2 := ownS_base (ownS_same hy2 fun g hg => by
  have h1 := ownS_lt hy2 hg
  rw [Below.heap_alloc _ _ _ (by omega)]
  exact hk3 g (by omega)) (by omega)
 refine ⟨hR.snoc hx2 hA2 (fun g hg => hR.out g hg) (fun g hg => (hA2 g hg).2) hyo h4 hg hf, (hbo.mono hB).grown hg (by omega) fun g hg2 => (ownS_lt hyo hg2).1, fun g hg3 => ?_⟩
 rw [grown_blocks hg (A := A) (fun g hg => ⟨(hA2 g hg).2, hR.out g hg⟩) g hg3]
 exact hAo g hg3
theorem store_facts (w2 : World) (z i : Nat) (u : Value) : (w2.setCell ⟨z, i, none⟩ u).drew.heap.size = w2.heap.size ∧ Below z w2 (w2.setCell ⟨z, i, none⟩ u).drew ∧ ∀ g, g ≠ z → (w2.setCell ⟨z, i, none⟩ u).drew.heap[g]? = w2.heap[g]? :=
 ⟨by simp, ((Below.refl _ w2).setCell (p := ⟨z, i, none⟩) (Nat.le_refl _) u).drew, fun _g hg => Below.heap_setCell _ _ _ _ hg⟩
theorem arr_app (a b : List UInt8) : (⟨a.toArray⟩ : ByteArray) ++ ⟨b.toArray⟩ = ⟨(a ++ b).toArray⟩ := by
 apply ByteArray.ext
 simp [ByteArray.data_append]
theorem arr_size (a : List UInt8) : (⟨a.toArray⟩ : ByteArray).size = a.length := by simp [ByteArray.size]
set_option maxHeartbeats 4000000 in
set_option maxRecDepth 20000 in
theorem with_merge (n0 : Nat) (B : Nat) (A : Nat → Prop) (P : List Pt) (q x : Pt) (al : Option Addr) (m cl : Nat) (w : World) (hx : (cosV n0).q A w (.slice al m cl) x.l) (hA : ∀ g, A g → B ≤ g ∧ g < w.heap.size) (hB : B ≤ w.heap.size) (v : Value) (h : PtsO (cosV n0) B A w v (P ++ [q])) (hps : P.length ≤ 4194304)
  (hm : x.k = 1 ∧ q.k = 1 ∧ q.q = x.q) (hs1 : q.s.length ≤ 16777216) (hs2 : x.s.length ≤ 16777216) :
  Calls Tryz.prog 170 #[v, .agg #[.int .i64 (x.k : Int), .bool x.q, .string ⟨x.s.toArray⟩, .string ⟨x.t.toArray⟩, .slice al m cl]] w fun e w' => ∃ v', e = .returned v' ∧ PtsO (cosV n0) B A w' v' (P ++ [{ x with s := q.s ++ x.s }]) ∧ Below B w w' ∧ ∀ g, A g → w'.heap[g]? = w.heap[g]? := by
 obtain ⟨hk, hqk, hqq⟩ := hm
 obtain ⟨ys, hy⟩ := h.own
 obtain ⟨ao, cap, rfl, hcap⟩ := ownS_shape hy
 obtain ⟨W0, hW0⟩ : ∃ W0, W0 = w.alloc (.cells #[.int .i64 (x.k : Int), .bool x.q, .string ⟨x.s.toArray⟩, .string ⟨x.t.toArray⟩, .slice al m cl] 42) := ⟨_, rfl⟩
 have hz0 : W0.heap.size = w.heap.size + 1 := by rw [hW0]; simp
 have hb0 : Below w.heap.size w W0 := by rw [hW0]; exact (Below.refl _ w).alloc (Nat.le_refl _) _
 have hn0 : W0.heap[w.heap.size]? = some (.cells #[.int .i64 (x.k : Int), .bool x.q, .string ⟨x.s.toArray⟩, .string ⟨x.t.toArray⟩, .slice al m cl] 42 (0, 0)) := by rw [hW0]; exact heap_alloc_new w _
 obtain ⟨i0, hi, hzi0, hzi1, hzi2⟩ := info_parts Tryz.infoPartR
 have HI := Lib.hid (And.intro hi (And.intro hzi0 (And.intro hzi1 hzi2)))
 have hrow := h.row
 obtain ⟨g0, cap0, aq, mq, cq, e0, -, hg0, ⟨q0, q1, q2, -, -⟩, -⟩ := pt_at hrow (i := P.length) (x := q) (by simp)
 cases e0
 have LASTC := Lib.hid (fun (W : World) (hb : Below W0.heap.size W0 W) => (by
  have hb1 : W.heap[g0]? = w.heap[g0]? := (hb.block g0 (by omega)).trans (hb0.block g0 hg0)
  have hn1 := (hb.block _ (by omega)).trans hn0
  exact ⟨(World.cell?_of_block hb1).trans q0, (World.cell?_of_block hb1).trans q1, (World.cell?_of_block hb1).trans q2, by rw [cell_of_heap hn1]; rfl, by rw [cell_of_heap hn1]; rfl, by rw [cell_of_heap hn1]; rfl, by rw [cell_of_heap hn1]; rfl, by rw [cell_of_heap hn1]; rfl, frozen_of_heap hn1 _⟩ :
  W.cell? ⟨g0, P.length * 5, none⟩ = some (.int .i64 (q.k : Int)) ∧ W.cell? ⟨g0, P.length * 5 + 1, none⟩ = some (.bool q.q) ∧ W.cell? ⟨g0, P.length * 5 + 2, none⟩ = some (.string ⟨q.s.toArray⟩) ∧
   W.cell? ⟨w.heap.size, 0, none⟩ = some (.int .i64 (x.k : Int)) ∧ W.cell? ⟨w.heap.size, 1, none⟩ = some (.bool x.q) ∧ W.cell? ⟨w.heap.size, 2, none⟩ = some (.string ⟨x.s.toArray⟩) ∧ W.cell? ⟨w.heap.size, 3, none⟩ = some (.string ⟨x.t.toArray⟩) ∧ W.cell? ⟨w.heap.size, 4, none⟩ = some (.slice al m cl) ∧ W.frozen? ⟨w.heap.size, 2, none⟩ = false))
 have COPY := Lib.hid (fun (W : World) (hb : Below W0.heap.size W0 W) (o : Obj) => (by
  have hbo : Below w.heap.size w (W.alloc o) := (hb0.trans (hb.mono hb0.size)).alloc (Nat.le_trans hb0.size hb.size) _
  have := hrow.take P.length (by simp)
  rw [List.take_left] at this
  exact ⟨this.same fun g hg => hbo.block g hg.2, fun g hg => by have := hg.2; have := hb.size; omega, by have := hb.size; rw [World.size_alloc]; omega⟩ :
  RowM (partE (cosV n0)) 42 (NewF B w.heap.size) (W.alloc o) (.slice (some ⟨g0, 0, none⟩) P.length cap) P ∧ (∀ g, NewF B w.heap.size g → g < W.heap.size) ∧ W.heap.size ≤ (W.alloc o).heap.size))
 have hz3 : w.heap.size < W0.heap.size := by omega
 have PUT := Lib.hid (fun (W : World) (o : Obj) (v2 : Value) (w2 : World) (hb : Below W0.heap.size W0 W) (z : Nat) (hz : W.heap.size = z) (ha : AppR (partE (cosV n0)) 42 z (fun g => NoneF g ∨ NewF B w.heap.size g) w2 v2 ([] ++ P)) (hb2 : Below z (W.alloc o) w2) => (by
  subst hz
  have hbW : Below W.heap.size W w2 := ((Below.refl _ W).alloc (Nat.le_refl _) o).trans hb2
  have hbW0 : Below W0.heap.size W0 w2 := hb.trans (hbW.mono hb.size)
  have hbw : Below w.heap.size w w2 := hb0.trans (hbW0.mono hb0.size)
  rw [List.nil_append] at ha
  obtain ⟨ys2, hy2⟩ := ha.owned
  have hWs : w.heap.size < W.heap.size := by have := hb.size; omega
  obtain ⟨ao2, cap2, hv2, _⟩ := ha.shape
  refine ⟨hbW0, ao2, cap2, ys2, hv2, fun w3 hs3 ht3 hk3 o3 => ⟨?_, by rw [World.size_alloc, hs3]; have := hbW.size; omega, fun w4 v4 h4 hg hf => merge_end n0 B A P { x with s := q.s ++ x.s } al m cl w.heap.size w W w2 w3 w4 o3 v2 v4 ys2 hB hA hx rfl hWs hbw hbW.size ha hs3 ht3 hk3 hy2 h4 hg hf⟩⟩
  refine ownS_base (ownS_same hy2 fun g hg => ?_) (by omega)
  have h1 := ownS_lt hy2 hg
  rw [Below.heap_alloc _ _ _ (by omega)]
  exact hk3 g (by omega) :
  Below W0.heap.size W0 w2 ∧ ∃ (ao2 : Option Addr) (cap2 : Nat) (ys2 : List Value), v2 = .slice ao2 P.length cap2 ∧ ∀ (w3 : World), w3.heap.size = w2.heap.size → Below w.heap.size w2 w3 → (∀ g, g ≠ w.heap.size → w3.heap[g]? = w2.heap[g]?) → ∀ (o3 : Obj), (w3.alloc o3).ownsRow B 42 5 v2 P.length ys2 ∧ B ≤ (w3.alloc o3).heap.size ∧ ∀ (w4 : World) (v4 : Value), w4.ownsRow B 42 5 v4 (P.length + 1) (ys2 ++ [.int .i64 (x.k : Int), .bool x.q, .string ⟨(q.s ++ x.s).toArray⟩, .string ⟨x.t.toArray⟩, .slice al m cl]) → (w3.alloc o3).grownBy w4 v2.ownBlock → (v4.ownBlock = v2.ownBlock ∨ v4.ownBlock = some (w3.alloc o3).heap.size) →
   PtsO (cosV n0) B A w4 v4 (P ++ [{ x with s := q.s ++ x.s }]) ∧ Below B w w4 ∧ ∀ g, A g → w4.heap[g]? = w.heap[g]?))
 obtain ⟨l0, l1, -, c0, c1, c2, c3, c4, -⟩ := LASTC.out W0 (Below.refl _ _)
 have HB0 := Lib.hid (Below.refl W0.heap.size W0)
 rw [hW0] at PUT LASTC COPY HB0 l0 l1 c0 c1 c2 c3 c4
 have hkI : (x.k : Int) = 1 := by omega
 rw [hkI] at PUT LASTC COPY HB0 l0 l1 c0 c1 c2 c3 c4 ⊢
 rw [hqq] at l1 LASTC
 have e2 : ((q.k : Int) == 1) = true := by rw [hqk]; rfl
 obtain ⟨N, hN⟩ : ∃ N, N = (P ++ [q]).length := ⟨_, rfl⟩
 have hNM : N = P.length + 1 := by rw [hN]; simp
 rw [← hN] at hcap ⊢
 rw [← arr_app] at PUT
 have zq : (⟨q.s.toArray⟩ : ByteArray).size ≤ 16777216 := by rw [arr_size]; exact hs1
 have zx : (⟨x.s.toArray⟩ : ByteArray).size ≤ 16777216 := by rw [arr_size]; exact hs2
 generalize hM : P.length = M at *
 have hw1 : IntKind.i64.wrap ((N : Int) - 1) = (M : Int) := by rw [IntWalk.i64_in _ (by omega)]; omega
 have hMN : (M : Int) < (N : Int) := by omega
 have hMN2 : M < N := by omega
 have h0N : (0 : Int) < (N : Int) := by omega
 have hcapI : (N : Int) ≤ (cap : Int) := by omega
 have hcapM : (M : Int) ≤ (cap : Int) := by omega
 have hcapM2 : M ≤ cap := by omega
 have hcapM3 : ¬ (cap < M) := by omega
 have h0N2 : 0 < N := by omega
 have h0N3 : decide ((0 : Int) < (N : Int)) = true := decide_eq_true h0N
 have h0N4 : decide (0 < N) = true := decide_eq_true h0N2
 clear h hx hA hb0 hn0 hz0 hz3 hi hzi0 hzi1 hzi2 hy hcap hN hNM q0 q1 q2 hrow hg0 hk hqk hqq hs1 hs2 hkI
 generalize (⟨x.s.toArray⟩ : ByteArray) = XS at *
 generalize (⟨x.t.toArray⟩ : ByteArray) = XT at *
 generalize (⟨q.s.toArray⟩ : ByteArray) = QS at *
 generalize hXQ : x.q = xq at *
 generalize (q.k : Int) = qk at *
 go_enter Tryz.func170, Tryz.ntmps170
 go_wp2_with fail
 go_quiet (fail)
 go_wp2_with (at_builtin; refine wpList_append_rowM (part_one n0) _ rfl (.tmp 36) (.tmp 40) 38 rfl (bytes := 72) Tryz.underlying38 HI.out.1 HI.out.2.1 HI.out.2.2.1 HI.out.2.2.2 rfl (Nat.succ_pos 4) rfl rfl (AppR.beginZ (partE (cosV n0)) 42 _ _ (by simp)) (COPY.out _ (below_draws HB0.out _) _).1 (by intro g hg; have := hg.2; omega) (by simp) (by rw [List.length_nil, hM]; unfold maxLen; omega) (by rw [List.length_nil, hM]; omega) ?_; intro v2 w2 happ hbel; obtain ⟨hbw2, ao2, cap2, ys2, rfl, hput⟩ := PUT.out _ _ v2 w2 (below_draws HB0.out _) _ (by simp) happ hbel; have HPUT := Lib.hid hput; obtain ⟨-, -, l2, c0', c1', c2', c3', c4', f2⟩ := LASTC.out w2 hbw2; clear happ hbel hput)
 have cqa : ∀ w, (Op.stringOp .add QS XS).run Tryz.prog w = .ok (.string (QS ++ XS)) w := fun w => run_string_add_sum w _ _ (by omega)
 go_region_law (fail)
 all_goals
  have SF := Lib.hid (store_facts w2 w.heap.size 2 (Value.string (QS ++ XS)))
  go_wp2_with (at_builtin; refine wpList_append_farG _ rfl (.tmp 52) (.tmp 54) 38 rfl B 42 i0 _ 5 72 Tryz.underlying38 HI.out.1 HI.out.2.1 HI.out.2.2.1 HI.out.2.2.2 rfl (by decide) (.slice ao2 M cap2) M ys2 rfl (HPUT.out _ SF.out.1 SF.out.2.1 SF.out.2.2 _).1 ⟨_, 0, none⟩ 1 [.int .i64 1, .bool xq, .string (QS ++ XS), .string XT, .slice al m cl] rfl rfl (cellsZ _ _ _ _ (by simp)) (by simp [Value.oneCell']) (by unfold maxLen; omega) (by omega) (HPUT.out _ SF.out.1 SF.out.2.1 SF.out.2.2 _).2.1 ?_; intro v3 w4 hown2 hgrow2 hfar2; obtain ⟨ao3, cap3, rfl, _⟩ := ownS_shape hown2; have HP := Lib.hid ((HPUT.out _ SF.out.1 SF.out.2.1 SF.out.2.2 _).2.2 w4 _ hown2 hgrow2 hfar2); clear hown2 hgrow2 hfar2)
  go_ret
  exact ⟨_, rfl, HP.out⟩
def FitP (b : Nat) (ps : List Pt) : Prop := ∀ p ∈ ps, p.s.length ≤ b
theorem with_any (n0 : Nat) (B : Nat) (A : Nat → Prop) (ps : List Pt) (x : Pt) (al : Option Addr) (m cl : Nat) (w : World) (hx : (cosV n0).q A w (.slice al m cl) x.l) (hA : ∀ g, A g → B ≤ g ∧ g < w.heap.size) (hB : B ≤ w.heap.size) (v : Value) (h : PtsO (cosV n0) B A w v ps) (hps : ps.length ≤ 4194304)
  (hs1 : FitP 16777216 ps) (hs2 : x.s.length ≤ 16777216) :
  Calls Tryz.prog 170 #[v, .agg #[.int .i64 (x.k : Int), .bool x.q, .string ⟨x.s.toArray⟩, .string ⟨x.t.toArray⟩, .slice al m cl]] w fun e w' => ∃ v', e = .returned v' ∧ PtsO (cosV n0) B A w' v' (withP ps x) ∧ Below B w w' ∧ ∀ g, A g → w'.heap[g]? = w.heap[g]? := by
 rcases List.eq_nil_or_concat ps with rfl | ⟨P, q, rfl⟩
 ·exact with_plain n0 B A [] x al m cl w hx hA hB v h hps (.inl rfl)
 ·rw [List.concat_eq_append] at *
  rw [with_snoc]
  by_cases hm : x.k = 1 ∧ q.k = 1 ∧ q.q = x.q
  ·rw [if_pos hm]
   exact with_merge n0 B A P q x al m cl w hx hA hB v h (by simp at hps; omega) hm (hs1 q (by simp)) hs2
  ·rw [if_neg hm]
   exact with_plain n0 B A (P ++ [q]) x al m cl w hx hA hB v h hps (.inr ⟨P, q, rfl, hm⟩)
end Go.Proofs.YtelfgobjnibooaaGreatDoor
namespace Go.Proofs.YtelfgobjnibooaaGreatDoor
open Go.RowKit Go.Lib
def brTail (n : List UInt8) : List UInt8 → Rr Pt
 | 58 :: r => (needS [45] r).bind fun _ r => withT false 3 n r
 | 35 :: r => withT false 5 n r
 | 37 :: r => withT false 6 n r
 | l => (needS [125] l).bind fun _ r => .ok ⟨2, false, n, [], []⟩ r
def braceS (l : List UInt8) : Rr Pt := if atS [35] l then (nameR (l.drop 1)).bind fun n r1 => (needS [125] r1).bind fun _ r2 => .ok ⟨4, false, n, [], []⟩ r2 else (nameR l).bind brTail
theorem take_two {a b c : UInt8} {r : List UInt8} : takeS [a, b] (c :: r) = if a = c then takeS [b] r else none := by
 unfold takeS
 by_cases h : a = c
 ·subst h
  rw [if_pos rfl]
  simp only [List.isPrefixOf, beq_self_eq_true, Bool.true_and]
  cases r <;> rfl
 ·rw [if_neg h, if_neg]
  simp [List.isPrefixOf, h]
theorem brTail_else (n : List UInt8) (c : UInt8) (r : List UInt8) (h2 : c ≠ 58) (h3 : c ≠ 35) (h4 : c ≠ 37) : brTail n (c :: r) = (needS [125] (c :: r)).bind fun _ r => .ok ⟨2, false, n, [], []⟩ r := by
 unfold brTail
 split
 ·rename_i h; exact absurd (List.cons.inj h).1 h2
 ·rename_i h; exact absurd (List.cons.inj h).1 h3
 ·rename_i h; exact absurd (List.cons.inj h).1 h4
 ·rfl
theorem braced_eq (l : List UInt8) : bracedS false l = (nameR l).bind brTail := by
 unfold bracedS
 congr 1
 funext n l1
 cases l1 with
 | nil => rfl
 | cons c r =>
  by_cases h1 : c = 125
  ·subst h1
   rw [take_eq, brTail_else n 125 r (by decide) (by decide) (by decide), byteX_ok]
   rfl
  ·rw [take_ne (fun e => h1 e.symm), take_two]
   by_cases h2 : c = 58
   ·subst h2
    rw [if_pos rfl]
    show _ = (needS [45] r).bind _
    unfold needS
    cases takeS [45] r with
    | some r' => rfl
    | none =>
     rw [take_ne (by decide), take_ne (by decide)]
     rfl
   ·rw [if_neg (fun e => h2 e.symm)]
    by_cases h3 : c = 35
    ·subst h3
     rw [take_eq]
     rfl
    ·rw [take_ne (fun e => h3 e.symm)]
     by_cases h4 : c = 37
     ·subst h4
      rw [take_eq]
      rfl
     ·rw [take_ne (fun e => h4 e.symm)]
      rw [brTail_else n c r h2 h3 h4, byteX_no 125 c r (fun e => h1 e.symm)]
      rfl
theorem sx_bind {α β γ : Type} (R : Rr α) (g : List UInt8 → Rr β) (f : α → β → γ) : (R.bind fun y r => (g r).bind fun z r2 => .ok (f y z) r2).sx = (R.sx.run g).sx := by
 cases R with
 | bad e => rfl
 | ok y r =>
  show ((g r).bind _).sx = (g r).sx
  cases g r <;> rfl
def AnsP (n0 : Nat) (R : Rr Pt) (w : World) (e : Ending) (w' : World) : Prop := ∃ (x : Pt) (al : Option Addr) (m cl : Nat), e = .returned (.agg #[.int .i64 (x.k : Int), .bool false, .string ⟨x.s.toArray⟩, .string ⟨x.t.toArray⟩, .slice al m cl]) ∧ (cosV n0).q (NewF w.heap.size w'.heap.size) w' (.slice al m cl) x.l ∧ x.q = false ∧ (∀ y r, R = .ok y r → x = y) ∧ x.s.length ≤ 1048576 ∧ x.t.length ≤ 1048576 ∧ x.k ≠ 1
theorem cut_size {p : Nat} {S : ByteArray} {d : Nat} {s : Sx} {w : World} (h : TS p S d s w) (hS : S.size ≤ 1048576) : s.len ≤ 1048576 := Nat.le_trans h.size hS
def AnsTF' (R : Rr (List UInt8)) (e : Ending) : Prop := ∃ v : List UInt8, e = .returned (.string ⟨v.toArray⟩) ∧ (∀ y r, R = .ok y r → v = y) ∧ v.length ≤ 1048576
theorem nameR_short {l y r : List UInt8} (h : nameR l = .ok y r) : y.length ≤ l.length := by
 unfold nameR at h
 split at h
 ·cases h
 ·cases h; exact nameS_lenF l
theorem name_short (p : Nat) (S : ByteArray) (d : Nat) (s : Sx) (w : World) (h : TS p S d s w) (hS : S.size ≤ 1048576) :
  Calls Tryz.prog 115 #[.pointer (some ⟨p, 0, none⟩)] w fun x w' => AnsTF' (s.run nameR) x ∧ TS p S d (s.run nameR).sx w' ∧ Mvr p w w' := by
 have hl := cut_size h hS
 by_cases hc : ∃ y r, s.run nameR = .ok y r
 ·obtain ⟨y, r, hy⟩ := hc
  have hlen : y.length ≤ 1048576 := by
   cases s with
   | bad e => cases hy
   | «at» l => exact Nat.le_trans (nameR_short hy) hl
  refine (nameF_any p S d s w h hS).mono ?_
  rintro e w' ⟨⟨v, rfl, h1⟩, h2⟩
  exact ⟨⟨v, rfl, h1, by rw [h1 y r hy]; exact hlen⟩, h2⟩
 ·have ended : ∀ (X : Sx), (Calls Tryz.prog 115 #[.pointer (some ⟨p, 0, none⟩)] w fun x w' => x = .returned (.string ⟨#[]⟩) ∧ TS p S d X w' ∧ Mvr p w w') → (s.run nameR).sx = X → Calls Tryz.prog 115 #[.pointer (some ⟨p, 0, none⟩)] w fun x w' => AnsTF' (s.run nameR) x ∧ TS p S d (s.run nameR).sx w' ∧ Mvr p w w' := by
   rintro X hX rfl
   refine hX.mono ?_
   rintro e w' ⟨rfl, h2⟩
   exact ⟨⟨[], rfl, fun y r h => absurd ⟨y, r, h⟩ hc, by simp⟩, h2⟩
  cases s with
  | bad b => exact ended _ (name_ended p S d _ w h hS rfl) rfl
  | «at» l =>
   cases l with
   | nil => exact ended _ (name_ended p S d _ w h hS rfl) rfl
   | cons c r =>
    have e0 : (Sx.at (c :: r)).run nameR = if nameS (c :: r) = [] then .bad 9 else .ok (nameS (c :: r)) ((c :: r).drop (nameS (c :: r)).length) := rfl
    by_cases hn : nameS (c :: r) = []
    ·rw [if_pos hn] at e0
     exact ended _ (name_none p S d c r w h hS hn) (by rw [e0]; rfl)
    ·rw [if_neg hn] at e0
     exact absurd ⟨_, _, e0⟩ hc
theorem byte1_125 (p : Nat) (S : ByteArray) (d : Nat) (s : Sx) (w : World) (h : TS p S d s w) (hS : S.size ≤ 1048576) :
  Calls Tryz.prog 171 #[.pointer (some ⟨p, 0, none⟩), .int .u8 125] w fun x w' => x = .returned (.tuple #[]) ∧ TS p S d (s.run (needS [125])).sx w' ∧ Mvr p w w' := byte1_any p S d s 125 w h hS
theorem byte1_45 (p : Nat) (S : ByteArray) (d : Nat) (s : Sx) (w : World) (h : TS p S d s w) (hS : S.size ≤ 1048576) :
  Calls Tryz.prog 171 #[.pointer (some ⟨p, 0, none⟩), .int .u8 45] w fun x w' => x = .returned (.tuple #[]) ∧ TS p S d (s.run (needS [45])).sx w' ∧ Mvr p w w' := byte1_any p S d s 45 w h hS
theorem byte1_41 (p : Nat) (S : ByteArray) (d : Nat) (s : Sx) (w : World) (h : TS p S d s w) (hS : S.size ≤ 1048576) :
  Calls Tryz.prog 171 #[.pointer (some ⟨p, 0, none⟩), .int .u8 41] w fun x w' => x = .returned (.tuple #[]) ∧ TS p S d (s.run (needS [41])).sx w' ∧ Mvr p w w' := byte1_any p S d s 41 w h hS
theorem byte1_34 (p : Nat) (S : ByteArray) (d : Nat) (s : Sx) (w : World) (h : TS p S d s w) (hS : S.size ≤ 1048576) :
  Calls Tryz.prog 171 #[.pointer (some ⟨p, 0, none⟩), .int .u8 34] w fun x w' => x = .returned (.tuple #[]) ∧ TS p S d (s.run (needS [34])).sx w' ∧ Mvr p w w' := byte1_any p S d s 34 w h hS
def fiveW (w : World) (g : Nat) (a b c d e : Value) : World := ((((w.setCell ⟨g, 0, none⟩ a).setCell ⟨g, 1, none⟩ b).setCell ⟨g, 2, none⟩ c).setCell ⟨g, 3, none⟩ d).setCell ⟨g, 4, none⟩ e
theorem five_facts (p : Nat) (S : ByteArray) (d : Nat) (s : Sx) (w w4 : World) (g : Nat) (a b c e u : Value) (o0 o1 o2 o3 o4 : Value) (ty : TypeId) (hg : w4.heap[g]? = some (.cells #[o0, o1, o2, o3, o4] ty (0, 0))) (h4 : TS p S d s w4) (m4 : Mvr p w w4) (hgw : w.heap.size ≤ g) (hp : p < w.heap.size) :
  (fiveW w4 g a b c e u).heap[g]? = some (.cells #[a, b, c, e, u] ty (0, 0)) ∧ TS p S d s (fiveW w4 g a b c e u) ∧ Mvr p w (fiveW w4 g a b c e u) := by
 have h1 := heap_setCell_same w4 g 0 _ _ a hg
 have h2 := heap_setCell_same _ g 1 _ _ b h1
 have h3 := heap_setCell_same _ g 2 _ _ c h2
 have h5 := heap_setCell_same _ g 3 _ _ e h3
 have h6 := heap_setCell_same _ g 4 _ _ u h5
 refine ⟨by unfold fiveW; simpa using h6, h4.same ?_, ((((m4.own hgw hp 0 a).own hgw hp 1 b).own hgw hp 2 c).own hgw hp 3 e).own hgw hp 4 u⟩
 have hpg : p ≠ g := by omega
 unfold fiveW
 rw [Below.heap_setCell _ _ _ _ hpg, Below.heap_setCell _ _ _ _ hpg, Below.heap_setCell _ _ _ _ hpg, Below.heap_setCell _ _ _ _ hpg, Below.heap_setCell _ _ _ _ hpg]
theorem Tryz.infoPartS : (Tryz.prog.info? 42).map (·.size) = some 5 := by kernel_rfl
set_option maxHeartbeats 4000000 in
set_option maxRecDepth 20000 in
theorem brace_hash (n0 p : Nat) (S : ByteArray) (d : Nat) (r : List UInt8) (w : World) (h : TS p S d (.at (35 :: r)) w) (hS : S.size ≤ 1048576) :
  Calls Tryz.prog 180 #[.pointer (some ⟨p, 0, none⟩)] w fun e w' => AnsP n0 (braceS (35 :: r)) w e w' ∧ TS p S d (braceS (35 :: r)).sx w' ∧ Mvr p w w' := by
 have hR : braceS (35 :: r) = (nameR r).bind fun n r1 => (needS [125] r1).bind fun _ r2 => .ok ⟨4, false, n, [], []⟩ r2 := rfl
 have hX : (braceS (35 :: r)).sx = ((nameR r).sx.run (needS [125])).sx := by rw [hR]; exact sx_bind (nameR r) (needS [125]) (fun n _ => (⟨4, false, n, [], []⟩ : Pt))
 rw [hX]
 have hp := h.lt
 obtain ⟨W1, hW1⟩ : ∃ W1, W1 = w.alloc (.cells #[.int .i64 0, .bool false, .string ⟨#[]⟩, .string ⟨#[]⟩, .slice none 0 0] 42) := ⟨_, rfl⟩
 have hb1 : Below w.heap.size w W1 := by rw [hW1]; exact (Below.refl _ w).alloc (Nat.le_refl _) _
 have hz1 : w.heap.size < W1.heap.size := by rw [hW1]; simp
 have h1 : TS p S d (.at (35 :: r)) W1 := h.below hb1
 have RES := Lib.hid (fun (w4 : World) (m : Mvr p W1 w4) => (by
  have hh : w4.heap[w.heap.size]? = some (.cells #[.int .i64 0, .bool false, .string ⟨#[]⟩, .string ⟨#[]⟩, .slice none 0 0] 42 (0, 0)) := by
   rw [m.high _ (by omega) hz1, hW1]
   exact heap_alloc_new w _
  exact ⟨hh, by rw [cell_of_heap hh]; rfl, by rw [cell_of_heap hh]; rfl, by rw [cell_of_heap hh]; rfl, by rw [cell_of_heap hh]; rfl, by rw [cell_of_heap hh]; rfl, frozen_of_heap hh _, frozen_of_heap hh _, frozen_of_heap hh _, frozen_of_heap hh _, frozen_of_heap hh _⟩ :
  w4.heap[w.heap.size]? = some (.cells #[.int .i64 0, .bool false, .string ⟨#[]⟩, .string ⟨#[]⟩, .slice none 0 0] 42 (0, 0)) ∧ w4.cell? ⟨w.heap.size, 0, none⟩ = some (.int .i64 0) ∧ w4.cell? ⟨w.heap.size, 1, none⟩ = some (.bool false) ∧ w4.cell? ⟨w.heap.size, 2, none⟩ = some (.string ⟨#[]⟩) ∧ w4.cell? ⟨w.heap.size, 3, none⟩ = some (.string ⟨#[]⟩) ∧ w4.cell? ⟨w.heap.size, 4, none⟩ = some (.slice none 0 0) ∧
   w4.frozen? ⟨w.heap.size, 0, none⟩ = false ∧ w4.frozen? ⟨w.heap.size, 1, none⟩ = false ∧ w4.frozen? ⟨w.heap.size, 2, none⟩ = false ∧ w4.frozen? ⟨w.heap.size, 3, none⟩ = false ∧ w4.frozen? ⟨w.heap.size, 4, none⟩ = false))
 have kc := c_any p S d (.at (35 :: r)) W1 h1 hS
 have hcc : (Sx.at (35 :: r)).c = 35 := rfl
 rw [hcc] at kc
 obtain ⟨a, hwk, hst⟩ := h1.step hS
 have HST := Lib.hid hst
 have KN := Lib.hid (fun (wr : World) (ht : TS p S d (.at r) wr) => name_short p S d (.at r) wr ht hS)
 have KB := Lib.hid (fun (wr : World) (ht : TS p S d (nameR r).sx wr) => byte1_125 p S d (nameR r).sx wr ht hS)
 have M0 := Lib.hid (Mvr.of hb1 hp)
 rw [hW1] at kc HST RES M0
 clear h hX h1 hb1 hst hcc hW1 hz1
 go_enter Tryz.func180, Tryz.ntmps180
 go_wp2_with (first
  | (go_at_call 33; (with_reducible refine kc.mono ?_); rintro e w2 ⟨rfl, b2⟩; obtain ⟨g1, g2, g3, g4⟩ := HST.out w2 b2; have M4 := Lib.hid g4; have k3 := KN.out _ g3; clear b2 g4 kc)
  | (go_at_call 115; (with_reducible refine k3.mono ?_); rintro e w3 ⟨⟨v, rfl, hv1, hv2⟩, h3, m3⟩; have M5 := Lib.hid (M4.out.trans m3); have k4 := KB.out w3 h3; have HV := Lib.hid (And.intro hv1 hv2); clear h3 m3 k3 hv1 hv2)
  | (go_at_call 171; (with_reducible refine k4.mono ?_); rintro e w4 ⟨rfl, h4, m4⟩; have M6 := Lib.hid (M5.out.trans m4); have H4 := Lib.hid h4; obtain ⟨rh, r0, r1, r2, r3, r4, f0, f1, f2, f3, f4⟩ := RES.out w4 (M5.out.trans m4); have RH := Lib.hid rh; clear h4 m4 k4 rh))
 have FF := five_facts p S d _ w w4 w.heap.size (.int .i64 4) (.bool false) (.string ⟨v.toArray⟩) (.string ⟨#[]⟩) (.slice none 0 0) _ _ _ _ _ _ RH.out H4.out (M0.out.trans M6.out) (Nat.le_refl _) hp
 refine bodyPost_ret (v := .agg _) (results_cell_row (p := 2) (ty := 42) Tryz.results180 _ _ w.heap.size 42 _ (0, 0) _ rfl FF.1 Tryz.underlying42 rfl Tryz.infoPartS) rfl ⟨?_, FF.2.1, FF.2.2⟩
 refine ⟨⟨4, false, v, [], []⟩, none, 0, 0, rfl, cos_nil n0 _ _, rfl, fun y r' hy => ?_, HV.out.2, by simp, by show (4 : Nat) ≠ 1; omega⟩
 rw [hR] at hy
 obtain ⟨n, r1, hn, hy⟩ := bind_ok hy
 obtain ⟨_, r2, _, hy⟩ := bind_ok hy
 cases hy
 rw [HV.out.1 n r1 hn]
end Go.Proofs.YtelfgobjnibooaaGreatDoor
