/- Packed texts: ReMem. What each of them proves stands above its theorems; the conditions stand in these. -/
import Derived.Deep.RegionHeld3
import Derived.Deep.RegionLaw
import Derived.Test.YtkgpnlldlekcbaaGreatDoorX0
import Derived.Test.YtkgpnlldlekcbaaGreatDoorX1
import Derived.Test.YtkgpnlldlekcbaaGreatDoorX2
namespace Go.Proofs.YtkgpnlldlekcbaaGreatDoor
open Go.RowKit Go.Lib

theorem Tryz.infoRe : (Tryz.prog.info? 163).map (fun i => (i.zero, i.size, i.bytes)) = some (some (.agg #[.int .i64 0, .int .u64 0, .int .u64 0, .int .u64 0, .int .u64 0, .int .i64 0, .int .i64 0]), 7, 56) := by kernel_rfl
theorem cells_seven (w : World) (t : TypeId) (p q r s u v z : Value) : ∀ j x, [p, q, r, s, u, v, z][j]? = some x → (w.alloc (.cells #[p, q, r, s, u, v, z] t)).cell? ((⟨w.heap.size, 0, none⟩ : Addr).add j) = some x := by
  intro j x hj
  have h := heap_alloc_new w (.cells #[p, q, r, s, u, v, z] t)
  have e : (⟨w.heap.size, 0, none⟩ : Addr).add j = ⟨w.heap.size, j, none⟩ := by simp [Addr.add]; intro h; exact h.symm
  rw [e, cell_of_heap h]
  simpa using hj
/-- A row of nodes whose slice stands first in a block of the call's own. -/
def Own (B p : Nat) (T : TypeId) (more : List Value) (xs : List Nd) (w : World) : Prop :=
  B ≤ p ∧ B ≤ w.heap.size ∧ xs.length ≤ 2000 ∧ T ≠ 163 ∧ ∃ v, w.heap[p]? = some (.cells ⟨v :: more⟩ T (0, 0)) ∧ w.ownsRow B 163 7 v xs.length (ndC xs) ∧ v.ownBlock ≠ some p
def errV (e : Int) : Ending := .panicked [{ v := .iface 31 (.int .i64 e), recovered := false }]

theorem own_block_lt {w : World} {B g n size : Nat} {e : TypeId} {v : Value} {xs : List Value} (h : w.ownsRow B e size v n xs) (hg : v.ownBlock = some g) : g < w.heap.size := by
  rcases h.2 with ⟨rfl, _⟩ | ⟨g', _, _, rfl, _, hh, _⟩
  · cases hg
  · cases hg; exact block_lt hh
theorem owns_same {w w' : World} {base n size : Nat} {e : TypeId} {v : Value} {xs : List Value} (h : w.ownsRow base e size v n xs) (hb : ∀ g, v.ownBlock = some g → w'.heap[g]? = w.heap[g]?) : w'.ownsRow base e size v n xs := by
  obtain ⟨h1, h2⟩ := h
  refine ⟨h1, ?_⟩
  rcases h2 with h2 | ⟨g, cap, cur, hv, hg, hh, r⟩
  · exact .inl h2
  · exact .inr ⟨g, cap, cur, hv, hg, (hb g (by rw [hv]; rfl)).trans hh, r⟩
theorem Own.below {B p : Nat} {T : TypeId} {more : List Value} {xs : List Nd} {w w' : World} (h : Own B p T more xs w) (hb : Below w.heap.size w w') : Own B p T more xs w' := by
  obtain ⟨h1, h2, h3, hT, v, h4, h5, h6⟩ := h
  exact ⟨h1, Nat.le_trans h2 hb.size, h3, hT, v, (hb.block p (block_lt h4)).trans h4, owns_same h5 fun g hg => hb.block g (own_block_lt h5 hg), h6⟩
theorem owned_slice {w : World} {B n size : Nat} {e : TypeId} {v : Value} {xs : List Value} (h : w.ownsRow B e size v n xs) (hn : 1 ≤ n) : ∃ g cap, v = .slice (some ⟨g, 0, none⟩) n cap := by
  rcases h.2 with ⟨_, h0⟩ | ⟨g, cap, cur, hv, _⟩
  · omega
  · exact ⟨g, cap, hv⟩
theorem tree_put {B p n : Nat} {T : TypeId} {more ys : List Value} {v v' : Value} {w : World} (hT : T ≠ 163) (hp : w.heap[p]? = some (.cells ⟨v :: more⟩ T (0, 0))) (ho : w.ownsRow B 163 7 v' n ys) :
    ∃ u, (w.setCell ⟨p, 0, none⟩ v').heap[p]? = some (.cells ⟨u :: more⟩ T (0, 0)) ∧ (w.setCell ⟨p, 0, none⟩ v').ownsRow B 163 7 u n ys ∧ u.ownBlock ≠ some p := by
  have hne : v'.ownBlock ≠ some p := fun e => by
    rcases ho.2 with ⟨rfl, _⟩ | ⟨g', _, _, rfl, _, hh, _⟩
    · cases e
    · cases e
      rw [hp] at hh
      injection hh with hh
      injection hh with _ hh _
      exact hT hh
  refine ⟨v', ?_, owns_same ho fun g hg => Below.heap_setCell _ _ _ _ (fun e => hne (by rw [hg]; simp [e])), hne⟩
  have h := heap_setCell_same w p 0 _ _ v' hp
  simpa using h
theorem node_cells {w : World} {g : Nat} {t : TypeId} {p q r s u v z : Value} (h : w.heap[g]? = some (.cells #[p, q, r, s, u, v, z] t (0, 0))) :
    w.cell? ⟨g, 0, none⟩ = some p ∧ w.cell? ⟨g, 1, none⟩ = some q ∧ w.cell? ⟨g, 2, none⟩ = some r ∧ w.cell? ⟨g, 3, none⟩ = some s ∧ w.cell? ⟨g, 4, none⟩ = some u ∧ w.cell? ⟨g, 5, none⟩ = some v ∧ w.cell? ⟨g, 6, none⟩ = some z :=
  ⟨cell_of_row w g 0 _ _ _ h, cell_of_row w g 1 _ _ _ h, cell_of_row w g 2 _ _ _ h, cell_of_row w g 3 _ _ _ h, cell_of_row w g 4 _ _ _ h, cell_of_row w g 5 _ _ _ h, cell_of_row w g 6 _ _ _ h⟩

set_option maxHeartbeats 1000000 in
set_option maxRecDepth 20000 in
theorem last_any (B p : Nat) (T : TypeId) (more : List Value) (xs : List Nd) (w : World) (h : Own B p T more xs w) :
    Calls Tryz.prog 170 #[.pointer (some ⟨p, 0, none⟩)] w fun e w' => e = .returned (.int .i64 ((xs.length : Int) - 1)) ∧ w' = w := by
  obtain ⟨h1, h2, h3, hT, v, h4, h5, h6⟩ := h
  have c0 : w.cell? ⟨p, 0, none⟩ = some v := by rw [cell_of_heap h4]; rfl
  obtain ⟨n, hn⟩ : ∃ n, n = xs.length := ⟨_, rfl⟩
  rw [← hn] at h3 h5 ⊢
  obtain ⟨ao, cap, rfl⟩ : ∃ ao cap, v = .slice ao n cap := by
    rcases h5.2 with ⟨hv, h0⟩ | ⟨g, cap, cur, hv, _⟩
    · exact ⟨_, _, by rw [hv, h0]⟩
    · exact ⟨_, _, hv⟩
  clear h4 h5 h6
  go_enter Tryz.func170, Tryz.ntmps170
  go_wp2
  go_ret
  exact ⟨by go_num, rfl⟩

set_option maxHeartbeats 2000000 in
set_option maxRecDepth 20000 in
theorem add_ok_walk (B p : Nat) (T : TypeId) (more : List Value) (xs : List Nd) (k a b c d x y : Int) (w : World) (h : Own B p T more xs w) (hl : xs.length < 2000) :
    Calls Tryz.prog 185 #[.pointer (some ⟨p, 0, none⟩), .agg #[.int .i64 k, .int .u64 a, .int .u64 b, .int .u64 c, .int .u64 d, .int .i64 x, .int .i64 y]] w fun e w' => e = .returned (.tuple #[]) ∧
      ((∃ v', w'.heap[p]? = some (.cells ⟨v' :: more⟩ T (0, 0)) ∧ w'.ownsRow B 163 7 v' (xs.length + 1) (ndC xs ++ [.int .i64 k, .int .u64 a, .int .u64 b, .int .u64 c, .int .u64 d, .int .i64 x, .int .i64 y]) ∧ v'.ownBlock ≠ some p) ∧ Below B w w') := by
  obtain ⟨h1, h2, h3, hT, v, h4, h5, h6⟩ := h
  have c0 : w.cell? ⟨p, 0, none⟩ = some v := by rw [cell_of_heap h4]; rfl
  obtain ⟨n, hn⟩ : ∃ n, n = xs.length := ⟨_, rfl⟩
  rw [← hn] at h3 h5 hl ⊢
  obtain ⟨ys, hys⟩ : ∃ ys, ys = ndC xs := ⟨_, rfl⟩
  rw [← hys] at h5 ⊢
  obtain ⟨ao, cap, hv⟩ : ∃ ao cap, v = .slice ao n cap := by
    rcases h5.2 with ⟨hv, h0⟩ | ⟨g, cap, cur, hv, _⟩
    · exact ⟨_, _, by rw [hv, h0]⟩
    · exact ⟨_, _, hv⟩
  subst hv
  have hplt := block_lt h4
  have H4 := Lib.hid h4
  have H5 := Lib.hid h5
  have H6 := Lib.hid h6
  clear h4 h5 h6 hn hys
  have hnb : ((n : Int) == 2000) = false := by rw [beq_eq_false_iff_ne]; omega
  obtain ⟨i0, hi, hz0, hz1, hz2⟩ := info_parts Tryz.infoRe
  go_enter Tryz.func185, Tryz.ntmps185
  go_wp2_with fail
  have hd0 := node_cells (heap_alloc_new w (.cells #[.int .i64 k, .int .u64 a, .int .u64 b, .int .u64 c, .int .u64 d, .int .i64 x, .int .i64 y] 163))
  obtain ⟨W, hW⟩ : ∃ W, W = w.alloc (.cells #[.int .i64 k, .int .u64 a, .int .u64 b, .int .u64 c, .int .u64 d, .int .i64 x, .int .i64 y] 163) := ⟨_, rfl⟩
  have hWz : W.heap.size = w.heap.size + 1 := by rw [hW]; simp
  have hold : ∀ j, j < w.heap.size → W.heap[j]? = w.heap[j]? := fun j hj => by rw [hW]; exact Below.heap_alloc _ _ _ hj
  have hbW : Below B w W := by rw [hW]; exact (Below.refl _ w).alloc h2 _
  rw [← hW] at hd0 ⊢
  clear hW
  have H4' := Lib.hid ((hold p hplt).trans H4.out)
  have c0' : W.cell? ⟨p, 0, none⟩ = some (.slice ao n cap) := by rw [cell_of_heap H4'.out]; rfl
  have hown : W.ownsRow B 163 7 (.slice ao n cap) n ys := owns_same H5.out fun g hg => hold g (own_block_lt H5.out hg)
  obtain ⟨g0, hg0⟩ : ∃ g0, g0 = w.heap.size := ⟨_, rfl⟩
  rw [← hg0] at hd0 hWz ⊢
  have HG0 := Lib.hid hg0
  clear hg0
  obtain ⟨d0, d1, d2, d3, d4, d5, d6⟩ := hd0
  have hpW : p < W.heap.size := by have := HG0.out; omega
  have hgW : g0 < W.heap.size := by omega
  have hBg : B ≤ W.heap.size := by have := HG0.out; omega
  have hpo : ∀ r, (Value.slice ao n cap).ownBlock = some r → r ≠ p := fun r hr e => H6.out (by rw [hr, e])
  have hgo : ∀ r, (Value.slice ao n cap).ownBlock = some r → r ≠ g0 := fun r hr e => by have := own_block_lt H5.out hr; have := HG0.out; omega
  have SW : ∀ W' : World, W'.heap[p]? = W.heap[p]? → W'.heap[g0]? = W.heap[g0]? → (W'.cell? ⟨p, 0, none⟩ = some (.slice ao n cap) ∧ W'.cell? ⟨g0, 0, none⟩ = some (.int .i64 k) ∧ W'.cell? ⟨g0, 1, none⟩ = some (.int .u64 a) ∧ W'.cell? ⟨g0, 2, none⟩ = some (.int .u64 b) ∧ W'.cell? ⟨g0, 3, none⟩ = some (.int .u64 c) ∧ W'.cell? ⟨g0, 4, none⟩ = some (.int .u64 d) ∧ W'.cell? ⟨g0, 5, none⟩ = some (.int .i64 x) ∧ W'.cell? ⟨g0, 6, none⟩ = some (.int .i64 y)) := fun W' hb1 hb2 => by
    have e1 : ∀ o, W'.cell? ⟨p, o, none⟩ = W.cell? ⟨p, o, none⟩ := fun o => by unfold World.cell?; rw [hb1]
    have e2 : ∀ o, W'.cell? ⟨g0, o, none⟩ = W.cell? ⟨g0, o, none⟩ := fun o => by unfold World.cell?; rw [hb2]
    rw [e1, e2, e2, e2, e2, e2, e2, e2]
    exact ⟨c0', d0, d1, d2, d3, d4, d5, d6⟩
  have SWH := Lib.hid SW
  clear SW
  have ca : (W.alloc (.cells #[.int .i64 k, .int .u64 a, .int .u64 b, .int .u64 c, .int .u64 d, .int .i64 x, .int .i64 y] 163)).cell? ⟨p, 0, none⟩ = some (.slice ao n cap) := (World.cell?_alloc_some W _ _ (by rw [c0']; rfl)).trans c0'
  go_region_law
    (first
      | (refine step_append_own rfl (.tmp 13) (.tmp 15) 191 rfl B 163 i0 _ 7 56 Tryz.underlying191 hi hz0 hz1 hz2 rfl (by decide) _ n ys (by simp [Act.eval]) (hown.drew.alloc _) ⟨W.heap.size, 0, none⟩ 1 1 [.int .i64 k, .int .u64 a, .int .u64 b, .int .u64 c, .int .u64 d, .int .i64 x, .int .i64 y] (by simp [Act.eval]) rfl (cells_seven _ _ _ _ _ _ _ _ _) (by simp [Value.oneCell']) (by unfold maxLen; omega) (by omega) (by simp; omega) ?_; intro v2 w2 hown2 hgrow2; have hp2 : w2.heap[p]? = W.heap[p]? := (hgrow2.block p (by simp; omega) (fun e => hpo p e.symm rfl)).trans (Below.heap_alloc _ _ _ hpW); have hg2 : w2.heap[g0]? = W.heap[g0]? := (hgrow2.block g0 (by simp; omega) (fun e => hgo g0 e.symm rfl)).trans (Below.heap_alloc _ _ _ hgW); have hS2 := SWH.out w2 hp2 hg2; have hp3 : w2.heap[p]? = _ := hp2.trans H4'.out; have cp2 : w2.cell? ⟨p, 0, none⟩ = some (.slice ao n cap) := hS2.1; have fp2 : w2.frozen? ⟨p, 0, none⟩ = false := frozen_of_heap hp3 0; obtain ⟨g2, cap2, rfl⟩ := owned_slice hown2 (by omega)))
  all_goals
    go_end0
    refine ⟨rfl, tree_put hT hp3 hown2, ?_⟩
    refine hbW.trans (Below.setCell (p := ⟨p, 0, none⟩) ?_ h1 _)
    first
      | exact ((Below.refl B W).drew.alloc hBg _).grown hgrow2 (by simp; omega) (fun r hr => own_base H5.out hr)
      | exact (((Below.refl B W).alloc hBg _).drew).grown hgrow2 (by simp; omega) (fun r hr => own_base H5.out hr)

theorem add_ok (B p : Nat) (T : TypeId) (more : List Value) (xs : List Nd) (n : Nd) (w : World) (h : Own B p T more xs w) (hl : xs.length < 2000) :
    Calls Tryz.prog 185 #[.pointer (some ⟨p, 0, none⟩), n.val] w fun e w' => e = .returned (.tuple #[]) ∧ Own B p T more (xs ++ [n]) w' ∧ Below B w w' := by
  refine (add_ok_walk B p T more xs n.k _ _ _ _ n.x n.y w h hl).mono ?_
  rintro e w' ⟨rfl, ⟨v', g1, g2, g3⟩, g4⟩
  refine ⟨rfl, ⟨h.1, Nat.le_trans h.2.1 g4.size, by rw [List.length_append]; exact hl, h.2.2.2.1, v', g1, ?_, g3⟩, g4⟩
  rw [ndC_append, List.length_append]
  exact g2
set_option maxRecDepth 20000 in
theorem add_big (B p : Nat) (T : TypeId) (more : List Value) (xs : List Nd) (n : Nd) (w : World) (h : Own B p T more xs w) (hl : 2000 ≤ xs.length) :
    Calls Tryz.prog 185 #[.pointer (some ⟨p, 0, none⟩), n.val] w fun e w' => e = errV 6 ∧ Below B w w' := by
  obtain ⟨h1, h2, h3, hT, v, h4, h5, h6⟩ := h
  have c0 : w.cell? ⟨p, 0, none⟩ = some v := by rw [cell_of_heap h4]; rfl
  obtain ⟨m, hn⟩ : ∃ n, n = xs.length := ⟨_, rfl⟩
  rw [← hn] at h3 h5 hl
  obtain ⟨ao, cap, rfl⟩ : ∃ ao cap, v = .slice ao m cap := by
    rcases h5.2 with ⟨hv, h0⟩ | ⟨g, cap, cur, hv, _⟩
    · exact ⟨_, _, by rw [hv, h0]⟩
    · exact ⟨_, _, hv⟩
  have hplt := block_lt h4
  clear h4 h5 h6 hn
  have hmb : ((m : Int) == 2000) = true := by rw [beq_iff_eq]; omega
  obtain ⟨k, ⟨a, b, c, d⟩, x, y⟩ := n
  unfold Nd.val wd
  obtain ⟨a', ha⟩ : ∃ a', a' = (a.toNat : Int) := ⟨_, rfl⟩
  obtain ⟨b', hb⟩ : ∃ a', a' = (b.toNat : Int) := ⟨_, rfl⟩
  obtain ⟨c', hc⟩ : ∃ a', a' = (c.toNat : Int) := ⟨_, rfl⟩
  obtain ⟨d', hd⟩ : ∃ a', a' = (d.toNat : Int) := ⟨_, rfl⟩
  dsimp only
  rw [← ha, ← hb, ← hc, ← hd]
  clear ha hb hc hd
  go_enter Tryz.func185, Tryz.ntmps185
  go_wp2
  exact ⟨rfl, rfl, (Below.refl _ w).alloc h2 _⟩

/-- A node of a kind alone; of a class; of kids. -/
theorem leaf_ok (B p : Nat) (T : TypeId) (more : List Value) (xs : List Nd) (k : Int) (w : World) (h : Own B p T more xs w) (hl : xs.length < 2000) :
    Calls Tryz.prog 183 #[.pointer (some ⟨p, 0, none⟩), .int .i64 k] w fun e w' => e = .returned (.tuple #[]) ∧ Own B p T more (xs ++ [⟨k, k0, 0, 0⟩]) w' ∧ Below B w w' := by
  have k1 : ∀ w, Own B p T more xs w → Calls Tryz.prog 185 #[.pointer (some ⟨p, 0, none⟩), .agg #[.int .i64 k, .int .u64 0, .int .u64 0, .int .u64 0, .int .u64 0, .int .i64 0, .int .i64 0]] w fun e w' => e = .returned (.tuple #[]) ∧ Own B p T more (xs ++ [⟨k, k0, 0, 0⟩]) w' ∧ Below B w w' := fun w h => add_ok B p T more xs ⟨k, k0, 0, 0⟩ w h hl
  go_enter Tryz.func183, Tryz.ntmps183
  go_wp2_with (go_at_call 185; refine (k1 _ h).mono ?_; rintro e w1 ⟨rfl, ho, hb⟩)
  go_end0
  exact ⟨rfl, ho, hb⟩
theorem leaf_big (B p : Nat) (T : TypeId) (more : List Value) (xs : List Nd) (k : Int) (w : World) (h : Own B p T more xs w) (hl : 2000 ≤ xs.length) :
    Calls Tryz.prog 183 #[.pointer (some ⟨p, 0, none⟩), .int .i64 k] w fun e w' => e = errV 6 ∧ Below B w w' := by
  have k1 : ∀ w, Own B p T more xs w → Calls Tryz.prog 185 #[.pointer (some ⟨p, 0, none⟩), .agg #[.int .i64 k, .int .u64 0, .int .u64 0, .int .u64 0, .int .u64 0, .int .i64 0, .int .i64 0]] w fun e w' => e = errV 6 ∧ Below B w w' := fun w h => add_big B p T more xs ⟨k, k0, 0, 0⟩ w h hl
  go_enter Tryz.func183, Tryz.ntmps183
  unfold errV at k1 ⊢
  go_wp2_with (go_at_call 185; refine (k1 _ h).mono ?_; rintro e w1 ⟨rfl, hb⟩)
  exact ⟨rfl, rfl, hb⟩
set_option maxRecDepth 20000 in
theorem over_ok (B p : Nat) (T : TypeId) (more : List Value) (xs : List Nd) (k : Int) (w : World) (h : Own B p T more xs w) (hl : xs.length < 2000) :
    Calls Tryz.prog 201 #[.pointer (some ⟨p, 0, none⟩), .int .i64 k] w fun e w' => e = .returned (.tuple #[]) ∧ Own B p T more (xs ++ [⟨k, k0, (xs.length : Int) - 1, 0⟩]) w' ∧ Below B w w' := by
  have k1 : ∀ w, Own B p T more xs w → Calls Tryz.prog 185 #[.pointer (some ⟨p, 0, none⟩), .agg #[.int .i64 k, .int .u64 0, .int .u64 0, .int .u64 0, .int .u64 0, .int .i64 ((xs.length : Int) - 1), .int .i64 0]] w fun e w' => e = .returned (.tuple #[]) ∧ Own B p T more (xs ++ [⟨k, k0, (xs.length : Int) - 1, 0⟩]) w' ∧ Below B w w' := fun w h => add_ok B p T more xs ⟨k, k0, (xs.length : Int) - 1, 0⟩ w h hl
  go_enter Tryz.func201, Tryz.ntmps201
  go_wp2_with (first
    | (go_at_call 170; refine (last_any B p T more xs _ h).mono ?_; rintro e w1 ⟨rfl, rfl⟩)
    | (go_at_call 185; refine (k1 _ h).mono ?_; rintro e w1 ⟨rfl, ho, hb⟩))
  go_end0
  exact ⟨rfl, ho, hb⟩
set_option maxRecDepth 20000 in
theorem over_big (B p : Nat) (T : TypeId) (more : List Value) (xs : List Nd) (k : Int) (w : World) (h : Own B p T more xs w) (hl : 2000 ≤ xs.length) :
    Calls Tryz.prog 201 #[.pointer (some ⟨p, 0, none⟩), .int .i64 k] w fun e w' => e = errV 6 ∧ Below B w w' := by
  have k1 : ∀ w, Own B p T more xs w → Calls Tryz.prog 185 #[.pointer (some ⟨p, 0, none⟩), .agg #[.int .i64 k, .int .u64 0, .int .u64 0, .int .u64 0, .int .u64 0, .int .i64 ((xs.length : Int) - 1), .int .i64 0]] w fun e w' => e = errV 6 ∧ Below B w w' := fun w h => add_big B p T more xs ⟨k, k0, (xs.length : Int) - 1, 0⟩ w h hl
  go_enter Tryz.func201, Tryz.ntmps201
  unfold errV at k1 ⊢
  go_wp2_with (first
    | (go_at_call 170; refine (last_any B p T more xs _ h).mono ?_; rintro e w1 ⟨rfl, rfl⟩)
    | (go_at_call 185; refine (k1 _ h).mono ?_; rintro e w1 ⟨rfl, hb⟩))
  exact ⟨rfl, rfl, hb⟩
set_option maxRecDepth 20000 in
theorem pair_ok (B p : Nat) (T : TypeId) (more : List Value) (xs : List Nd) (k a : Int) (w : World) (h : Own B p T more xs w) (hl : xs.length < 2000) :
    Calls Tryz.prog 171 #[.pointer (some ⟨p, 0, none⟩), .int .i64 k, .int .i64 a] w fun e w' => e = .returned (.tuple #[]) ∧ Own B p T more (xs ++ [⟨k, k0, a, (xs.length : Int) - 1⟩]) w' ∧ Below B w w' := by
  have k1 : ∀ w, Own B p T more xs w → Calls Tryz.prog 185 #[.pointer (some ⟨p, 0, none⟩), .agg #[.int .i64 k, .int .u64 0, .int .u64 0, .int .u64 0, .int .u64 0, .int .i64 a, .int .i64 ((xs.length : Int) - 1)]] w fun e w' => e = .returned (.tuple #[]) ∧ Own B p T more (xs ++ [⟨k, k0, a, (xs.length : Int) - 1⟩]) w' ∧ Below B w w' := fun w h => add_ok B p T more xs ⟨k, k0, a, (xs.length : Int) - 1⟩ w h hl
  go_enter Tryz.func171, Tryz.ntmps171
  go_wp2_with (first
    | (go_at_call 170; refine (last_any B p T more xs _ h).mono ?_; rintro e w1 ⟨rfl, rfl⟩)
    | (go_at_call 185; refine (k1 _ h).mono ?_; rintro e w1 ⟨rfl, ho, hb⟩))
  go_end0
  exact ⟨rfl, ho, hb⟩
set_option maxRecDepth 20000 in
theorem pair_big (B p : Nat) (T : TypeId) (more : List Value) (xs : List Nd) (k a : Int) (w : World) (h : Own B p T more xs w) (hl : 2000 ≤ xs.length) :
    Calls Tryz.prog 171 #[.pointer (some ⟨p, 0, none⟩), .int .i64 k, .int .i64 a] w fun e w' => e = errV 6 ∧ Below B w w' := by
  have k1 : ∀ w, Own B p T more xs w → Calls Tryz.prog 185 #[.pointer (some ⟨p, 0, none⟩), .agg #[.int .i64 k, .int .u64 0, .int .u64 0, .int .u64 0, .int .u64 0, .int .i64 a, .int .i64 ((xs.length : Int) - 1)]] w fun e w' => e = errV 6 ∧ Below B w w' := fun w h => add_big B p T more xs ⟨k, k0, a, (xs.length : Int) - 1⟩ w h hl
  go_enter Tryz.func171, Tryz.ntmps171
  unfold errV at k1 ⊢
  go_wp2_with (first
    | (go_at_call 170; refine (last_any B p T more xs _ h).mono ?_; rintro e w1 ⟨rfl, rfl⟩)
    | (go_at_call 185; refine (k1 _ h).mono ?_; rintro e w1 ⟨rfl, hb⟩))
  exact ⟨rfl, rfl, hb⟩
set_option maxRecDepth 20000 in
theorem set_ok (B p : Nat) (T : TypeId) (more : List Value) (xs : List Nd) (k : K4) (w : World) (h : Own B p T more xs w) (hl : xs.length < 2000) :
    Calls Tryz.prog 211 #[.pointer (some ⟨p, 0, none⟩), .agg #[.int .u64 (k.a.toNat : Int), .int .u64 (k.b.toNat : Int), .int .u64 (k.c.toNat : Int), .int .u64 (k.d.toNat : Int)]] w fun e w' => e = .returned (.tuple #[]) ∧ Own B p T more (xs ++ [⟨1, k, 0, 0⟩]) w' ∧ Below B w w' := by
  have k1 : ∀ w, Own B p T more xs w → Calls Tryz.prog 185 #[.pointer (some ⟨p, 0, none⟩), .agg #[.int .i64 1, .int .u64 (k.a.toNat : Int), .int .u64 (k.b.toNat : Int), .int .u64 (k.c.toNat : Int), .int .u64 (k.d.toNat : Int), .int .i64 0, .int .i64 0]] w fun e w' => e = .returned (.tuple #[]) ∧ Own B p T more (xs ++ [⟨1, k, 0, 0⟩]) w' ∧ Below B w w' := fun w h => add_ok B p T more xs ⟨1, k, 0, 0⟩ w h hl
  go_enter Tryz.func211, Tryz.ntmps211
  go_wp2_with (first
    | (go_at_call 185; refine (k1 _ (h.below ((Below.refl _ w).alloc (Nat.le_refl _) _))).mono ?_; rintro e w1 ⟨rfl, ho, hb⟩))
  go_end0
  exact ⟨rfl, ho, (((Below.refl _ w).alloc h.2.1 _).trans hb)⟩
set_option maxRecDepth 20000 in
theorem set_big (B p : Nat) (T : TypeId) (more : List Value) (xs : List Nd) (k : K4) (w : World) (h : Own B p T more xs w) (hl : 2000 ≤ xs.length) :
    Calls Tryz.prog 211 #[.pointer (some ⟨p, 0, none⟩), .agg #[.int .u64 (k.a.toNat : Int), .int .u64 (k.b.toNat : Int), .int .u64 (k.c.toNat : Int), .int .u64 (k.d.toNat : Int)]] w fun e w' => e = errV 6 ∧ Below B w w' := by
  have k1 : ∀ w, Own B p T more xs w → Calls Tryz.prog 185 #[.pointer (some ⟨p, 0, none⟩), .agg #[.int .i64 1, .int .u64 (k.a.toNat : Int), .int .u64 (k.b.toNat : Int), .int .u64 (k.c.toNat : Int), .int .u64 (k.d.toNat : Int), .int .i64 0, .int .i64 0]] w fun e w' => e = errV 6 ∧ Below B w w' := fun w h => add_big B p T more xs ⟨1, k, 0, 0⟩ w h hl
  go_enter Tryz.func211, Tryz.ntmps211
  unfold errV at k1 ⊢
  go_wp2_with (first
    | (go_at_call 185; refine (k1 _ (h.below ((Below.refl _ w).alloc (Nat.le_refl _) _))).mono ?_; rintro e w1 ⟨rfl, hb⟩))
  exact ⟨rfl, rfl, (((Below.refl _ w).alloc h.2.1 _).trans hb)⟩

set_option maxRecDepth 20000 in
theorem point_any (w : World) : Calls Tryz.prog 212 #[] w fun e w' => e = .returned (clsV kPoint.cl) ∧ Below w.heap.size w w' := by
  have k1 := fun w => one_any 10 w (by decide) (by decide)
  have k2 := fun w => not_any (oneK 10) w
  have e2 : clsV kPoint.cl = clsV (notK (oneK 10)) := clsV_k4 _
  rw [e2]
  obtain ⟨K, hK⟩ : ∃ K, K = oneK 10 := ⟨_, rfl⟩
  have e10 : oneK (Int.toNat 10) = oneK 10 := rfl
  rw [e10, ← hK] at k1
  rw [← hK] at k2 ⊢
  clear hK e2 e10
  have f1 : clsV K = four ((K 0).toNat : Int) ((K 1).toNat : Int) ((K 2).toNat : Int) ((K 3).toNat : Int) := rfl
  have f2 : clsV (notK K) = four ((notK K 0).toNat : Int) ((notK K 1).toNat : Int) ((notK K 2).toNat : Int) ((notK K 3).toNat : Int) := rfl
  rw [f1] at k1 k2
  rw [f2] at k2 ⊢
  generalize ((K 0).toNat : Int) = a at k1 k2 ⊢
  generalize ((K 1).toNat : Int) = b at k1 k2 ⊢
  generalize ((K 2).toNat : Int) = c at k1 k2 ⊢
  generalize ((K 3).toNat : Int) = d at k1 k2 ⊢
  generalize ((notK K 0).toNat : Int) = a' at k2 ⊢
  generalize ((notK K 1).toNat : Int) = b' at k2 ⊢
  generalize ((notK K 2).toNat : Int) = c' at k2 ⊢
  generalize ((notK K 3).toNat : Int) = d' at k2 ⊢
  clear f1 f2
  unfold four at k1 k2 ⊢
  go_enter Tryz.func212, Tryz.ntmps212
  go_wp2_with (first
    | (go_at_call 216; refine (k1 _).mono ?_; rintro en w1 ⟨rfl, hb1⟩; clear k1)
    | (go_at_call 215; refine (k2 _).mono ?_; rintro en w2 ⟨rfl, hb2⟩; clear k2
       have hg0 : w2.heap[w.heap.size]? = some (.cells #[.int .u64 0, .int .u64 0, .int .u64 0, .int .u64 0] 154 (0, 0)) := (hb2.block _ (by have := hb1.size; simp at this; omega)).trans ((hb1.block _ (by simp)).trans (heap_alloc_new w _))
       obtain ⟨⟨c0, c1, c2, c3⟩, f0, f1, f2, f3⟩ := res_four hg0
       have HG := Lib.hid hg0
       have H1 := Lib.hid hb1
       have H2 := Lib.hid hb2
       clear hg0 hb1 hb2))
  have hh := set_four (.int .u64 a') (.int .u64 b') (.int .u64 c') (.int .u64 d') HG.out
  have hB := below_four (((Below.refl _ w).alloc (Nat.le_refl _) _).trans ((H1.out.mono (by simp)).trans (H2.out.mono (by have := H1.out.size; simp at this; omega)))) (Nat.le_refl _) (.int .u64 a') (.int .u64 b') (.int .u64 c') (.int .u64 d')
  exact bodyPost_ret (v := .agg _) (results_cell_row (p := 0) (ty := 154) Tryz.results212 _ _ w.heap.size 154 _ (0, 0) _ rfl hh Tryz.underlying154 rfl Tryz.infoCls) rfl ⟨rfl, hB⟩
end Go.Proofs.YtkgpnlldlekcbaaGreatDoor
