/- Packed texts: StPut, StSpaces, StPlace, StTells. What each of them proves stands above its theorems; the conditions stand in these. -/
import Derived.Deep.RegionHeld3
import Derived.Test.YtkgpnlldlekcbaaGreatDoorX28
namespace Go.Proofs.YtkgpnlldlekcbaaGreatDoor
open Go.RowKit Go.Lib Go.Maps
attribute [local go_sem] Oper.semAt_some

/-- A line more is put out. -/
theorem RunM.grown {E : RC} {s : Sn} {n d : Nat} {w w2 : World} {v2 : Value} (hE : E.Ok) (h : RunM E s n d w) (hC : s.out.length < E.C) (hb : Below E.B w w2) (hp : w2.heap[E.p]? = w.heap[E.p]?) (hg : w2.heap[E.g]? = w.heap[E.g]?) (hm : w2.heap[E.m]? = w.heap[E.m]?) (hko : ∀ b, E.ko = some b → w2.heap[b]? = w.heap[b]?)
    (ho : w2.ownsRow E.B 9 1 v2 (s.out.length + 1) (strC s.out ++ [.string s.pat])) : RunM E (outD s) n d (w2.setCell ⟨E.p, 6, none⟩ v2) := by
  obtain ⟨vo, h1, _⟩ := h.row
  obtain ⟨k, D, ⟨es, cl, h3, r⟩, h4, h5⟩ := h.map
  have hp2 := hp.trans h1
  have hne : v2.ownBlock ≠ some E.p := owns_kind ho hp2 (by decide)
  have hgp : E.g ≠ E.p := fun e => by
    have := h.on
    rw [e, h1] at this
    injection this with this
    injection this with _ this _
    exact absurd this (by decide)
  have hmp : E.m ≠ E.p := fun e => by
    rw [e, h1] at h3
    injection h3 with h3
    cases h3
  refine ⟨h.low.trans (hb.setCell (p := ⟨E.p, 6, none⟩) hE.pB v2), ⟨v2, ?_, ?_⟩, ?_, h.onl, ⟨k, D, ⟨es, cl, ?_, r⟩, h4, h5⟩, h.ps, h.hs, h.nm, ?_, h.po, fun b e => ?_⟩
  · have := Go.heap_setCell_same w2 E.p 6 _ _ v2 hp2
    have e : (rowR E s n vo).set 6 v2 = rowR E (outD s) n v2 := rfl
    rw [← e]
    simpa using this
  · have e1 : (outD s).out.length = s.out.length + 1 := by show (s.out ++ [s.pat]).length = _; rw [List.length_append]; rfl
    have e2 : strC (outD s).out = strC s.out ++ [.string s.pat] := by show strC (s.out ++ [s.pat]) = _; rw [strC_append]; rfl
    rw [e1, e2]
    exact owns_same ho fun q hq => Below.heap_setCell _ _ _ _ (fun e => hne (by rw [hq]; simp [e]))
  · exact (Below.heap_setCell _ _ _ _ hgp).trans (hg.trans h.on)
  · exact (Below.heap_setCell _ _ _ _ hmp).trans (hm.trans h3)
  · show (s.out ++ [s.pat]).length ≤ _
    rw [List.length_append]
    exact hC
  · obtain ⟨es', cl', g1, g2⟩ := h.kb b e
    refine ⟨es', cl', (Below.heap_setCell _ _ _ _ (fun eb => ?_)).trans ((hko b e).trans g1), g2⟩
    rw [show b = E.p from eb, h1] at g1
    cases g1
set_option maxHeartbeats 4000000 in
set_option maxRecDepth 20000 in
theorem put9_any (E : RC) (hE : E.Ok) (s : Sn) (n d : Nat) (w : World) (h : RunM E s n d w) (hC : s.out.length < E.C) :
    Calls Tryz.prog 73 #[.pointer (some ⟨E.p, 0, none⟩)] w fun e w' => e = .returned (.tuple #[]) ∧ RunM E (outD s) n d w' := by
  obtain ⟨vo, hrow, hown⟩ := h.row
  obtain ⟨ao, cap, rfl⟩ := own_zeroB hown
  have hplt := block_lt hrow
  have hBw := h.Blt hE
  have c0 : w.cell? ⟨E.p, 0, none⟩ = some (.string s.pat) := by rw [cell_of_heap hrow]; rfl
  have c6 : w.cell? ⟨E.p, 6, none⟩ = some (.slice ao s.out.length cap) := by rw [cell_of_heap hrow]; rfl
  have hpo : ∀ r, (Value.slice ao s.out.length cap).ownBlock = some r → r ≠ E.p := fun r hr e => owns_kind hown hrow (by decide) (by rw [hr, e])
  have hpg : ∀ r, (Value.slice ao s.out.length cap).ownBlock = some r → r ≠ E.g := fun r hr e => owns_kind hown h.on (by decide) (by rw [hr, e])
  have hpm : ∀ r, (Value.slice ao s.out.length cap).ownBlock = some r → r ≠ E.m := fun r hr e => by
    obtain ⟨k, D, ⟨es, cl, h3, _⟩, _⟩ := h.map
    rcases hown.2 with ⟨hv, _⟩ | ⟨g', _, _, hv, _, hg', _⟩
    · rw [hv] at hr; cases hr
    · rw [hv] at hr
      cases hr
      have e : g' = E.m := e
      rw [e, h3] at hg'
      cases hg'
  have hpk : ∀ b, E.ko = some b → ∀ r, (Value.slice ao s.out.length cap).ownBlock = some r → r ≠ b := fun b eo r hr e => by
    obtain ⟨es', cl', hk, _⟩ := h.kb b eo
    rcases hown.2 with ⟨hv, _⟩ | ⟨g', _, _, hv, _, hg', _⟩
    · rw [hv] at hr; cases hr
    · rw [hv] at hr
      cases hr
      have e : g' = b := e
      rw [e, hk] at hg'
      cases hg'
  have hcap := hE.cap
  obtain ⟨m, hm⟩ : ∃ m, m = s.out.length := ⟨_, rfl⟩
  rw [← hm] at hrow hown c6 hpo hpg hpm hC hpk
  have HPK := Lib.hid hpk
  have HH := Lib.hid (And.intro h (And.intro hrow (And.intro hown (And.intro hpo (And.intro hpg (And.intro hpm (And.intro hm (And.intro hE hC))))))))
  have HB : Hid (w.heap[E.g]? = some (.cells ⟨s.on.map Value.bool⟩ 4 (0, 0))) := h.on
  obtain ⟨x, hx⟩ : ∃ x, x = s.pat := ⟨_, rfl⟩
  rw [← hx] at c0
  have HX := Lib.hid hx
  obtain ⟨i0, hi, hz0, hz1, hz2⟩ := info_parts Tryz.infoStrU
  have HI0 := Lib.hid (And.intro hi (And.intro hz0 (And.intro hz1 hz2)))
  have ca : ∀ o, (w.alloc o).cell? ⟨E.p, 6, none⟩ = some (.slice ao m cap) := fun o => (World.cell?_alloc_some w _ _ (by rw [c6]; rfl)).trans c6
  have ca1 := ca (.cells #[.string x] 9)
  have hmb : m ≤ 140737488355328 := by omega
  have hBI : E.B ≤ w.heap.size := hBw
  clear h hrow hown hpo hpg hpm hm hx hi hz0 hz1 hz2 ca hE hpk
  go_enter Tryz.func73, Tryz.ntmps73
  go_wp2_with fail
  go_region_law
    (first
      | (refine step_append_own rfl (.tmp 6) (.tmp 12) 22 rfl E.B 9 i0 (.string ByteArray.empty) 1 16 Tryz.underlying22 HI0.out.1 HI0.out.2.1 HI0.out.2.2.1 HI0.out.2.2.2 rfl (by decide) _ m (strC s.out) (by simp [Act.eval]) (owns_alloc HH.out.2.2.1.drew) ⟨w.heap.size, 0, none⟩ 1 1 [.string x] (by simp [Act.eval]) rfl (cell_one' _ _ _) (by simp [Value.oneCell']) (by unfold maxLen; omega) (by omega) (by simp; omega) ?_; intro v2 w2 hown2 hgrow2
         have hk2 : ∀ b, b < w.heap.size → (∀ r, (Value.slice ao m cap).ownBlock = some r → r ≠ b) → w2.heap[b]? = w.heap[b]? := fun b hb hne => (hgrow2.block b (by simp; omega) (fun e => hne b e.symm rfl)).trans (Below.heap_alloc _ _ _ hb)
         have hp2 : w2.heap[E.p]? = _ := (hk2 E.p hplt HH.out.2.2.2.1).trans HH.out.2.1
         have cp2 : w2.cell? ⟨E.p, 6, none⟩ = some (.slice ao m cap) := (by rw [cell_of_heap hp2]; rfl)
         have fp2 : w2.frozen? ⟨E.p, 6, none⟩ = false := frozen_of_heap hp2 6
         obtain ⟨g2, cap2, rfl⟩ := owned_slice hown2 (by omega)))
  all_goals
    go_end0
    refine ⟨rfl, ?_⟩
    have hB2 : Below E.B w w2 := by
      first
        | exact ((Below.refl E.B w).drew.alloc hBI _).grown hgrow2 (by simp; omega) (fun r hr => own_base HH.out.2.2.1 hr)
        | exact (((Below.refl E.B w).alloc hBI _).drew).grown hgrow2 (by simp; omega) (fun r hr => own_base HH.out.2.2.1 hr)
    have hm2 : E.m < w.heap.size := by
      obtain ⟨k, D, ⟨es, cl, h3, _⟩, _⟩ := HH.out.1.map
      exact block_lt h3
    refine RunM.grown HH.out.2.2.2.2.2.2.2.1 HH.out.1 (by rw [← HH.out.2.2.2.2.2.2.1]; exact HH.out.2.2.2.2.2.2.2.2) hB2 (hk2 E.p hplt HH.out.2.2.2.1) (hk2 E.g (block_lt HB.out) HH.out.2.2.2.2.1) (hk2 E.m hm2 HH.out.2.2.2.2.2.1) (fun b e => hk2 b (by obtain ⟨_, _, g1, _⟩ := HH.out.1.kb b e; exact block_lt g1) (HPK.out b e)) ?_
    rw [← HH.out.2.2.2.2.2.2.1, ← HX.out]
    exact hown2
set_option maxHeartbeats 1000000 in
set_option maxRecDepth 20000 in
theorem end9_any (E : RC) (hE : E.Ok) (s : Sn) (n d : Nat) (w : World) (h : RunM E s n d w) (hC : E.q = false → s.out.length < E.C) :
    Calls Tryz.prog 43 #[.pointer (some ⟨E.p, 0, none⟩)] w fun e w' => e = .returned (.tuple #[]) ∧ RunM E (endD E.q s) n d w' := by
  obtain ⟨ao, cap, c0, c1, c2, c3, c4, c5, c6, c7, c8, c9, c10, c11⟩ := h.cells
  have k := fun hC => put9_any E hE s n d w h hC
  cases hq : E.q with
  | true =>
    rw [hq] at c4
    have H := Lib.hid h
    clear h k c0 c1 c2 c3 c5 c6 c7 c8 c9 c10 c11 hC
    go_enter Tryz.func43, Tryz.ntmps43
    go_wp2
    go_end0
    exact ⟨rfl, H.out⟩
  | false =>
    rw [hq] at c4
    have k := k (hC hq)
    clear h c0 c1 c2 c3 c5 c6 c7 c8 c9 c10 c11 hC
    go_enter Tryz.func43, Tryz.ntmps43
    go_wp2_with (go_at_call 73; refine k.mono ?_; rintro e w1 ⟨rfl, h1⟩)
    go_end0
    exact ⟨rfl, h1⟩
set_option maxHeartbeats 1000000 in
set_option maxRecDepth 20000 in
theorem print9_any (E : RC) (hE : E.Ok) (s : Sn) (n d : Nat) (w : World) (h : RunM E s n d w) (hC : s.out.length < E.C) (v : Value) :
    Calls Tryz.prog 60 #[.pointer (some ⟨E.p, 0, none⟩), v] w fun e w' => e = .returned (.int .i64 0) ∧ RunM E (outD s) n d w' := by
  have k := put9_any E hE s n d w h hC
  clear h hC
  go_enter Tryz.func60, Tryz.ntmps60
  go_wp2_with (go_at_call 73; refine k.mono ?_; rintro e w1 ⟨rfl, h1⟩)
  exact bodyPost_ret (results_tmp rfl _ _ _) rfl ⟨rfl, h1⟩
theorem drop9_any (v u : Value) (w : World) :
    Calls Tryz.prog 61 #[v, u] w fun e w' => e = .returned (.int .i64 1) ∧ w' = w := by
  go_enter Tryz.func61, Tryz.ntmps61
  go_wp2
  exact bodyPost_ret (results_tmp rfl _ _ _) rfl ⟨rfl, rfl⟩
set_option maxHeartbeats 1000000 in
set_option maxRecDepth 20000 in
theorem quit9_any (E : RC) (hE : E.Ok) (s : Sn) (n d : Nat) (w : World) (h : RunM E s n d w) (hC : E.q = false → s.out.length < E.C) (v : Value) :
    Calls Tryz.prog 62 #[.pointer (some ⟨E.p, 0, none⟩), v] w fun e w' => e = .returned (.int .i64 2) ∧ RunM E (endD E.q s) n d w' := by
  have k := end9_any E hE s n d w h hC
  clear h hC
  go_enter Tryz.func62, Tryz.ntmps62
  go_wp2_with (go_at_call 43; refine k.mono ?_; rintro e w1 ⟨rfl, h1⟩)
  exact bodyPost_ret (results_tmp rfl _ _ _) rfl ⟨rfl, h1⟩
theorem end_num (q : Bool) (s : Sn) : (endD q s).num = s.num := by unfold endD; split <;> rfl
set_option maxHeartbeats 2000000 in
set_option maxRecDepth 20000 in
theorem next9_any (E : RC) (hE : E.Ok) (s : Sn) (n d : Nat) (w : World) (h : RunM E s n d w) (hC : E.q = false → s.out.length < E.C) (v : Value) :
    Calls Tryz.prog 63 #[.pointer (some ⟨E.p, 0, none⟩), v] w fun e w' => e = .returned (.int .i64 (if s.num = E.xs.length then 2 else 0)) ∧ RunM E (if s.num = E.xs.length then endD E.q s else takeD E.xs (endD E.q s)) n d w' := by
  have k := end9_any E hE s n d w h hC
  have hnm := h.nm
  obtain ⟨a0, c0, hv, _, hl, _⟩ := hE.str
  have hcl : ∀ w', RunM E (endD E.q s) n d w' → w'.cell? ⟨E.p, 3, none⟩ = some (.slice a0 E.xs.length c0) ∧ w'.cell? ⟨E.p, 7, none⟩ = some (.int .i64 (s.num : Int)) := fun w' h' => by
    obtain ⟨ao, cap, c0, c1, c2, c3, c4, c5, c6, c7, c8, c9, c10, c11⟩ := h'.cells
    rw [hv] at c3
    rw [end_num] at c7
    exact ⟨c3, c7⟩
  have HE := Lib.hid hE
  have HC := Lib.hid hcl
  clear h hC hE hcl hv
  by_cases hlt : s.num = E.xs.length
  · rw [if_pos hlt, if_pos hlt]
    have hne : ((s.num : Int) == (E.xs.length : Int)) = true := by rw [hlt]; simp
    obtain ⟨N, hN⟩ : ∃ N, N = E.xs.length := ⟨_, rfl⟩
    rw [← hN] at HC hl hne
    clear hlt hN hnm
    go_enter Tryz.func63, Tryz.ntmps63
    go_wp2_with (go_at_call 43; refine k.mono ?_; rintro e w1 ⟨rfl, h1⟩; obtain ⟨c3, c7⟩ := HC.out _ h1; have H1 := Lib.hid h1; clear h1)
    go_quiet (fail)
    go_wp2
    exact bodyPost_ret (results_tmp rfl _ _ _) rfl ⟨rfl, H1.out.below HE.out (below_draws (Below.refl _ _) _)⟩
  · rw [if_neg hlt, if_neg hlt]
    have kt := fun w' d' (h' : RunM E (endD E.q s) n d' w') => take9_any E HE.out (endD E.q s) n d' w' h' (by rw [end_num]; omega)
    have hne : ((s.num : Int) == (E.xs.length : Int)) = false := by rw [beq_eq_false_iff_ne]; omega
    obtain ⟨N, hN⟩ : ∃ N, N = E.xs.length := ⟨_, rfl⟩
    rw [← hN] at HC hl hne
    clear hlt hN hnm
    go_enter Tryz.func63, Tryz.ntmps63
    go_wp2_with (go_at_call 43; refine k.mono ?_; rintro e w1 ⟨rfl, h1⟩; obtain ⟨c3, c7⟩ := HC.out _ h1; have H1 := Lib.hid h1; clear h1)
    go_quiet (fail)
    have h2 := H1.out.below HE.out (below_draws (Below.refl _ _) nq)
    go_wp2_with (go_at_call 41; refine (kt _ _ h2).mono ?_; rintro e w2 ⟨rfl, h3⟩)
    exact bodyPost_ret (results_tmp rfl _ _ _) rfl ⟨rfl, h3⟩
end Go.Proofs.YtkgpnlldlekcbaaGreatDoor
namespace Go.Proofs.YtkgpnlldlekcbaaGreatDoor
open Go.RowKit Go.Lib Go.Maps
attribute [local go_sem] Oper.semAt_some

set_option maxHeartbeats 1000000 in
set_option maxRecDepth 20000 in
theorem keep9_any (E : RC) (hE : E.Ok) (s : Sn) (n d : Nat) (w : World) (h : RunM E s n d w) (v : Value) :
    Calls Tryz.prog 64 #[.pointer (some ⟨E.p, 0, none⟩), v] w fun e w' => e = .returned (.int .i64 0) ∧ RunM E { s with hold := s.pat } n d w' := by
  obtain ⟨ao, cap, c0, c1, c2, c3, c4, c5, c6, c7, c8, c9, c10, c11⟩ := h.cells
  have f1 := h.frozen 1
  have h2 := h.set hE 1 (.string s.pat) { s with hold := s.pat } n d (fun vo => rfl) rfl rfl (Nat.le_refl _) h.ps h.ps h.nm h.po
  have H2 := Lib.hid h2
  clear h2 h c2 c3 c4 c5 c6 c7 c8 c9 c10 c11
  go_enter Tryz.func64, Tryz.ntmps64
  go_wp2
  exact bodyPost_ret (results_tmp rfl _ _ _) rfl ⟨rfl, H2.out⟩
set_option maxHeartbeats 1000000 in
set_option maxRecDepth 20000 in
theorem fetch9_any (E : RC) (hE : E.Ok) (s : Sn) (n d : Nat) (w : World) (h : RunM E s n d w) (v : Value) :
    Calls Tryz.prog 66 #[.pointer (some ⟨E.p, 0, none⟩), v] w fun e w' => e = .returned (.int .i64 0) ∧ RunM E { s with pat := s.hold } n d w' := by
  obtain ⟨ao, cap, c0, c1, c2, c3, c4, c5, c6, c7, c8, c9, c10, c11⟩ := h.cells
  have f1 := h.frozen 0
  have h2 := h.set hE 0 (.string s.hold) { s with pat := s.hold } n d (fun vo => rfl) rfl rfl (Nat.le_refl _) h.hs h.hs h.nm h.po
  have H2 := Lib.hid h2
  clear h2 h c2 c3 c4 c5 c6 c7 c8 c9 c10 c11
  go_enter Tryz.func66, Tryz.ntmps66
  go_wp2
  exact bodyPost_ret (results_tmp rfl _ _ _) rfl ⟨rfl, H2.out⟩
set_option maxHeartbeats 1000000 in
set_option maxRecDepth 20000 in
theorem swap9_any (E : RC) (hE : E.Ok) (s : Sn) (n d : Nat) (w : World) (h : RunM E s n d w) (v : Value) :
    Calls Tryz.prog 68 #[.pointer (some ⟨E.p, 0, none⟩), v] w fun e w' => e = .returned (.int .i64 0) ∧ RunM E { s with pat := s.hold, hold := s.pat } n d w' := by
  obtain ⟨ao, cap, c0, c1, c2, c3, c4, c5, c6, c7, c8, c9, c10, c11⟩ := h.cells
  have f0 := h.frozen 0
  have f1 := h.frozen 1
  have H0 := Lib.hid (And.intro h hE)
  obtain ⟨x, hx⟩ : ∃ x, x = s.pat := ⟨_, rfl⟩
  obtain ⟨y, hy⟩ : ∃ y, y = s.hold := ⟨_, rfl⟩
  rw [← hx] at c0
  rw [← hy] at c1
  have HX := Lib.hid (And.intro hx hy)
  clear h hE c2 c3 c4 c5 c6 c7 c8 c9 c10 c11 hx hy
  go_enter Tryz.func68, Tryz.ntmps68
  go_wp2_with fail
  go_region_law (fail)
  all_goals
    go_wp2
    refine bodyPost_ret (results_tmp rfl _ _ _) rfl ⟨rfl, ?_⟩
    have h1 := H0.out.1.set H0.out.2 0 (.string y) { s with pat := y } n d (fun vo => rfl) rfl rfl (Nat.le_refl _) (by rw [HX.out.2]; exact H0.out.1.hs) H0.out.1.hs H0.out.1.nm H0.out.1.po
    have h2 := h1.set H0.out.2 1 (.string x) { s with pat := y, hold := x } n d (fun vo => rfl) rfl rfl (Nat.le_refl _) (by rw [HX.out.2]; exact H0.out.1.hs) (by rw [HX.out.1]; exact H0.out.1.ps) H0.out.1.nm H0.out.1.po
    have h3 := h2.below H0.out.2 ((Below.refl _ _).drew)
    rw [HX.out.1, HX.out.2] at h3
    rw [HX.out.1, HX.out.2]
    exact h3
theorem cat_size (a b : ByteArray) : (a ++ b).size = a.size + b.size := ByteArray.size_append
set_option maxHeartbeats 2000000 in
set_option maxRecDepth 20000 in
/-- add: a text behind what a cell holds, with a line's end between. -/
theorem add9_big (p i : Nat) (x y : ByteArray) (w : World) (c : w.cell? ⟨p, i, none⟩ = some (.string x)) (hx : x.size ≤ 140737488355328) (hy : y.size ≤ 140737488355328) (hb : 65536 < x.size + 1 + y.size) :
    Calls Tryz.prog 89 #[.pointer (some ⟨p, i, none⟩), .string y] w fun e w' => e = .returned (.int .i64 3) ∧ w' = w := by
  have h1 : decide ((65536 : Int) < (x.size : Int) + 1 + (y.size : Int)) = true := decide_eq_true (by omega)
  go_enter Tryz.func89, Tryz.ntmps89
  go_wp2
  exact bodyPost_ret (results_tmp rfl _ _ _) rfl ⟨rfl, rfl⟩
set_option maxHeartbeats 2000000 in
set_option maxRecDepth 20000 in
theorem add9_fit (p i : Nat) (x y : ByteArray) (w : World) (c : w.cell? ⟨p, i, none⟩ = some (.string x)) (f : w.frozen? ⟨p, i, none⟩ = false) (hb : x.size + 1 + y.size ≤ 65536) :
    Calls Tryz.prog 89 #[.pointer (some ⟨p, i, none⟩), .string y] w fun e w' => e = .returned (.int .i64 0) ∧ w' = w.setCell ⟨p, i, none⟩ (.string (x ++ (lineB ++ y))) := by
  have h1 : decide ((65536 : Int) < (x.size : Int) + 1 + (y.size : Int)) = false := decide_eq_false (by omega)
  have h2 : lineB = ⟨#[10]⟩ := rfl
  have h3 : (lineB ++ y).size = 1 + y.size := by rw [cat_size]; rfl
  rw [h2] at h3 ⊢
  clear h2
  go_enter Tryz.func89, Tryz.ntmps89
  go_wp2
  exact bodyPost_ret (results_tmp rfl _ _ _) rfl ⟨rfl, rfl⟩
set_option maxHeartbeats 4000000 in
set_option maxRecDepth 20000 in
theorem keepMore9_any (E : RC) (hE : E.Ok) (s : Sn) (n d : Nat) (w : World) (h : RunM E s n d w) (v : Value) :
    Calls Tryz.prog 65 #[.pointer (some ⟨E.p, 0, none⟩), v] w fun e w' => e = .returned (.int .i64 (if 65536 < s.hold.size + 1 + s.pat.size then 3 else 0)) ∧ RunM E (if 65536 < s.hold.size + 1 + s.pat.size then s else { s with hold := s.hold ++ (lineB ++ s.pat) }) n d w' := by
  obtain ⟨ao, cap, c0, c1, c2, c3, c4, c5, c6, c7, c8, c9, c10, c11⟩ := h.cells
  have h' := h.below hE (Below.refl _ w).drew
  obtain ⟨ao', cap', b0, b1, _⟩ := h'.cells
  have g1 := h'.frozen 1
  have hs := h.hs
  have hp := h.ps
  by_cases hb : 65536 < s.hold.size + 1 + s.pat.size
  · have k := add9_big E.p 1 s.hold s.pat w.drew b1 hs hp hb
    rw [if_pos hb, if_pos hb]
    have H := Lib.hid h'
    clear h h' hE b0 b1 g1 hs hp hb c1 c2 c3 c4 c5 c6 c7 c8 c9 c10 c11
    go_enter Tryz.func65, Tryz.ntmps65
    go_wp2_with fail
    go_region_law (first | (go_simp; go_at_call 89; refine k.mono ?_; rintro e w1 ⟨rfl, rfl⟩))
    all_goals
      go_wp2
      exact bodyPost_ret (results_tmp rfl _ _ _) rfl ⟨rfl, H.out⟩
  · have k := add9_fit E.p 1 s.hold s.pat w.drew b1 g1 (by omega)
    rw [if_neg hb, if_neg hb]
    have h2 := h'.set hE 1 (.string (s.hold ++ (lineB ++ s.pat))) { s with hold := s.hold ++ (lineB ++ s.pat) } n d (fun vo => rfl) rfl rfl (Nat.le_refl _) h.ps (by show (s.hold ++ (lineB ++ s.pat)).size ≤ _; rw [cat_size, cat_size]; show s.hold.size + (1 + s.pat.size) ≤ _; omega) h.nm h.po
    have H := Lib.hid h2
    clear h h' hE b0 b1 g1 hs hp hb h2 c1 c2 c3 c4 c5 c6 c7 c8 c9 c10 c11
    go_enter Tryz.func65, Tryz.ntmps65
    go_wp2_with fail
    go_region_law (first | (go_simp; go_at_call 89; refine k.mono ?_; rintro e w1 ⟨rfl, rfl⟩))
    all_goals
      go_wp2
      exact bodyPost_ret (results_tmp rfl _ _ _) rfl ⟨rfl, H.out⟩
set_option maxHeartbeats 4000000 in
set_option maxRecDepth 20000 in
theorem fetchMore9_any (E : RC) (hE : E.Ok) (s : Sn) (n d : Nat) (w : World) (h : RunM E s n d w) (v : Value) :
    Calls Tryz.prog 67 #[.pointer (some ⟨E.p, 0, none⟩), v] w fun e w' => e = .returned (.int .i64 (if 65536 < s.pat.size + 1 + s.hold.size then 3 else 0)) ∧ RunM E (if 65536 < s.pat.size + 1 + s.hold.size then s else { s with pat := s.pat ++ (lineB ++ s.hold) }) n d w' := by
  obtain ⟨ao, cap, c0, c1, c2, c3, c4, c5, c6, c7, c8, c9, c10, c11⟩ := h.cells
  have h' := h.below hE (Below.refl _ w).drew
  obtain ⟨ao', cap', b0, b1, _⟩ := h'.cells
  have g1 := h'.frozen 0
  have hs := h.hs
  have hp := h.ps
  by_cases hb : 65536 < s.pat.size + 1 + s.hold.size
  · have k := add9_big E.p 0 s.pat s.hold w.drew b0 hp hs hb
    rw [if_pos hb, if_pos hb]
    have H := Lib.hid h'
    clear h h' hE b0 b1 g1 hs hp hb c0 c2 c3 c4 c5 c6 c7 c8 c9 c10 c11
    go_enter Tryz.func67, Tryz.ntmps67
    go_wp2_with fail
    go_region_law (first | (go_simp; go_at_call 89; refine k.mono ?_; rintro e w1 ⟨rfl, rfl⟩))
    all_goals
      go_wp2
      exact bodyPost_ret (results_tmp rfl _ _ _) rfl ⟨rfl, H.out⟩
  · have k := add9_fit E.p 0 s.pat s.hold w.drew b0 g1 (by omega)
    rw [if_neg hb, if_neg hb]
    have h2 := h'.set hE 0 (.string (s.pat ++ (lineB ++ s.hold))) { s with pat := s.pat ++ (lineB ++ s.hold) } n d (fun vo => rfl) rfl rfl (Nat.le_refl _) (by show (s.pat ++ (lineB ++ s.hold)).size ≤ _; rw [cat_size, cat_size]; show s.pat.size + (1 + s.hold.size) ≤ _; omega) h.hs h.nm h.po
    have H := Lib.hid h2
    clear h h' hE b0 b1 g1 hs hp hb h2 c0 c2 c3 c4 c5 c6 c7 c8 c9 c10 c11
    go_enter Tryz.func67, Tryz.ntmps67
    go_wp2_with fail
    go_region_law (first | (go_simp; go_at_call 89; refine k.mono ?_; rintro e w1 ⟨rfl, rfl⟩))
    all_goals
      go_wp2
      exact bodyPost_ret (results_tmp rfl _ _ _) rfl ⟨rfl, H.out⟩
end Go.Proofs.YtkgpnlldlekcbaaGreatDoor
namespace Go.Proofs.YtkgpnlldlekcbaaGreatDoor
open Go.RowKit Go.Lib Go.Maps
attribute [local go_sem] Oper.semAt_some

theorem place_bd (cs : List Cm) (x : List UInt8) : placeD cs x ≤ cs.length := by
  unfold placeD
  split
  · exact Nat.le_refl _
  · split
    · unfold jumpK
      split
      · exact List.findIdx_le_length
      · exact Nat.zero_le _
    · exact Nat.le_refl _
theorem plc_put {cs : List Cm} {D : DataW Unit} {x : List UInt8} (h : PlcD cs D) (hm : IsMap D) : PlcD cs (D.put (.string x) (.lit (.int .i64 (placeD cs x : Int)))) := fun y => by
  by_cases hy : y = x
  · subst hy
    exact ⟨fun _ z => atKey_put_same hm (by unfold WideAt.IsKeyLit; trivial) _ z, fun _ => has_put_same hm (by unfold WideAt.IsKeyLit; trivial) _⟩
  · have hne : (Lit.string y) ≠ (Lit.string x) := fun e => hy (Lit.string.inj e)
    rw [has_put_other hne]
    refine ⟨fun hh z => ?_, (h y).2⟩
    rw [atKey_put_other hne]
    exact (h y).1 hh z
theorem RunM.jump {E : RC} (hE : E.Ok) {s : Sn} {n d : Nat} {w : World} (h : RunM E s n d w) (X : ByteArray) :
    Calls Tryz.prog 115 #[E.vl, .string X] w fun e w' => e = .returned (.tuple #[.int .i64 (jumpK E.cs X.data.toList : Int), .bool (jumpB E.cs X.data.toList)]) ∧ Below w.heap.size w w' := by
  obtain ⟨B', hs⟩ := hE.scr
  exact jump_any B' E.cs E.vl X w (hs.below (h.low' hE)) hE.csl
/-- The map of places with one entry more. -/
theorem RunM.named {E : RC} (hE : E.Ok) {s : Sn} {n d : Nat} {w w' : World} (h : RunM E s n (d + 1) w) {k : Nat} {D' : DataW Unit} (ho : w'.ownsMap Tryz.prog 9 (plainElem (H := Unit) Tryz.prog 3) E.m (k + 1) D') (hk : k + n + (d + 1) ≤ 1152921504606846976) (hP : PlcD E.cs D') (hg : w.grownBy w' (some E.m)) : RunM E s n d w' := by
  obtain ⟨vo, h1, h2⟩ := h.row
  obtain ⟨k0, D0, ⟨es, cl, h3, _⟩, _⟩ := h.map
  have hne : ∀ b, (∃ (cs : Array Value) (t : TypeId), w.heap[b]? = some (Obj.cells cs t (0, 0))) → w'.heap[b]? = w.heap[b]? := fun b ⟨cs, t, hb⟩ => hg.block b (block_lt hb) (fun e => by
    injection e with e
    rw [e, h3] at hb
    cases hb)
  refine { h with low := ?_, row := ⟨vo, (hne _ ⟨_, _, h1⟩).trans h1, owns_same h2 fun q hq => ?_⟩, on := (hne _ ⟨_, _, h.on⟩).trans h.on, map := ⟨k + 1, D', ho, by omega, hP⟩, kb := fun b e => (h.kb b e).elim fun es' h1 => h1.elim fun cl' g => ⟨es', cl', (hg.block b (block_lt g.1) (fun eb => by injection eb with eb; exact hE.koM b e eb)).trans g.1, g.2⟩ }
  · exact h.low.grown hg (h.Blt hE) (fun b hb => by injection hb with hb; rw [← hb]; exact hE.mB)
  · rcases h2.2 with ⟨hv, _⟩ | ⟨g', cap, cur, hv, _, hg', _⟩
    · rw [hv] at hq; cases hq
    · rw [hv] at hq
      cases hq
      exact hne _ ⟨_, _, hg'⟩
theorem zeroI9 (w : World) : (zeroValue 3).run Tryz.prog w = .ok (.int .i64 0) w := by kernel_rfl
set_option maxHeartbeats 4000000 in
set_option maxRecDepth 20000 in
theorem place9_any (E : RC) (hE : E.Ok) (s : Sn) (n d : Nat) (w : World) (h : RunM E s n (d + 1) w) (X : ByteArray) (hX : X.size ≤ 1000000000) :
    Calls Tryz.prog 91 #[.pointer (some ⟨E.p, 0, none⟩), .string X] w fun e w' => e = .returned (.int .i64 (placeD E.cs X.data.toList : Int)) ∧ RunM E s n d w' := by
  obtain ⟨ao, cap, c0, c1, c2, c3, c4, c5, c6, c7, c8, c9, c10, c11⟩ := h.cells
  obtain ⟨k, D, hD, hk, hP⟩ := h.map
  obtain ⟨B', hs⟩ := hE.scr
  obtain ⟨al, cl, hv⟩ := hs.shape
  rw [hv] at c2
  have kJ := fun w' (h' : RunM E s n (d + 1) w') => h'.jump hE X
  rw [hv] at kJ
  obtain ⟨x, hx⟩ : ∃ x, x = X.data.toList := ⟨_, rfl⟩
  rw [← hx] at kJ ⊢
  have hkey : keyOf Tryz.prog 9 (.string X) = some (.string x) := by rw [hx]; exact WideMaps.keyOf_string_mk Tryz.underlying9 (by unfold maxLen; omega)
  have hpb := place_bd E.cs x
  have hcl := hE.csl
  have hmap := hD.isMap
  have H := Lib.hid (And.intro h (And.intro hD (And.intro hP (And.intro hE (And.intro hmap hk)))))
  have HK := Lib.hid hkey
  clear c0 c1 c3 c4 c5 c6 c7 c8 c9 c10 hD hkey hmap hs hv hx hk
  by_cases hh : Maps.has D (.string x) = true
  · have hat : D.atKey (.string x) (.lit (.int .i64 0)) = .lit (.int .i64 (placeD E.cs x : Int)) := (hP x).1 hh _
    have HA := Lib.hid (And.intro hh hat)
    clear hh hat hP hE h kJ
    generalize placeD E.cs x = r at HA hpb ⊢
    go_enter Tryz.func91, Tryz.ntmps91
    go_wp2_with (first
      | (at_lookup; refine wpList_lookup_own_ok_int _ rfl _ _ 56 rfl 9 3 .i64 str_law Tryz.underlying56 Tryz.underlying3 (zeroI9 _) E.m k _ rfl H.out.2.1 _ _ rfl HK.out ?_; intro c hat hwc
         obtain rfl : c = (r : Int) := (by rw [HA.out.2] at hat; exact ((Lit.int.inj (DataW.lit.inj hat)).2).symm)
         clear hat hwc
         rw [HA.out.1])
      | fail)
    exact bodyPost_ret (results_tmp rfl _ _ _) rfl ⟨rfl, H.out.1.fewer (Nat.le_succ _)⟩
  · have hxn : x ≠ [] := fun e => hh ((hP x).2 e)
    have hf : Maps.has D (.string x) = false := by simpa using hh
    have hpl : placeD E.cs x = if jumpB E.cs x then jumpK E.cs x else E.cs.length := by unfold placeD; rw [if_neg hxn]
    have hput := plc_put (x := x) hP H.out.2.2.2.2.1
    have hkm : k < maxLen := by have := H.out.2.2.2.2.2; unfold maxLen; omega
    have HKM := Lib.hid hkm
    clear hkm
    have HP := Lib.hid (And.intro hput hf)
    clear hxn hh hP hput hf
    have kU := fun w' (h' : RunM E s n (d + 1) w') => h'.jump hE X
    have hkeep : ∀ w', Below w.heap.size w w' → w'.ownsMap Tryz.prog 9 (plainElem (H := Unit) Tryz.prog 3) E.m k D := fun w' hb => by
      obtain ⟨es, c, hb', r⟩ := H.out.2.1
      exact ⟨es, c, (hb.block _ (block_lt hb')).trans hb', r⟩
    have HKp := Lib.hid hkeep
    obtain ⟨r, hr⟩ : ∃ r, r = placeD E.cs x := ⟨_, rfl⟩
    rw [← hr] at hpl hpb HP ⊢
    have hcell : ∀ w', Below w.heap.size w w' → w'.cell? ⟨E.p, 2, none⟩ = some (.slice al E.cs.length cl) ∧ w'.cell? ⟨E.p, 11, none⟩ = some (.map (some E.m)) := fun w' hb => by
      exact ⟨cell_stays hb c2, cell_stays hb c11⟩
    have HCl := Lib.hid hcell
    have HR := Lib.hid hr
    clear hkeep hcell kU hr
    have kJ := kJ w h
    obtain ⟨j, hj⟩ : ∃ j, j = jumpK E.cs x := ⟨_, rfl⟩
    obtain ⟨N, hN⟩ : ∃ N, N = E.cs.length := ⟨_, rfl⟩
    rw [← hj] at kJ hpl
    rw [← hN] at HCl hpl hpb hcl c2 kJ
    cases hB : jumpB E.cs x with
    | true =>
      rw [hB] at kJ hpl
      rw [if_pos rfl] at hpl
      subst hpl
      clear hB hj hN hE h
      go_enter Tryz.func91, Tryz.ntmps91
      go_wp2_with (first
        | (at_lookup; refine wpList_lookup_own_ok_int _ rfl _ _ 56 rfl 9 3 .i64 str_law Tryz.underlying56 Tryz.underlying3 (zeroI9 _) E.m k _ rfl H.out.2.1 _ _ rfl HK.out ?_; intro c hat hwc
           clear hat hwc
           rw [HP.out.2])
        | (go_at_call 115; refine kJ.mono ?_; rintro e w1 ⟨rfl, hb1⟩; obtain ⟨c2', c11'⟩ := HCl.out _ hb1; have HB1 := Lib.hid hb1; clear hb1)
        | (at_mapUpdate; refine wpList_mapUpdate_own _ rfl _ _ _ 56 rfl 9 3 str_law Tryz.underlying56 _ E.m k _ rfl (HKp.out _ HB1.out) HKM.out _ _ _ rfl rfl HK.out _ [] (plainElem_int (a := (r : Int)) Tryz.underlying3 (WalkArith.wf_i64 (by omega))) ?_; intro w2 hown2 hgrow2
           have H2 := Lib.hid (And.intro hown2 hgrow2)
           clear hown2 hgrow2))
      exact bodyPost_ret (results_tmp rfl _ _ _) rfl ⟨rfl, RunM.named H.out.2.2.2.1 (H.out.1.below H.out.2.2.2.1 HB1.out) H2.out.1 H.out.2.2.2.2.2 HP.out.1 H2.out.2⟩
    | false =>
      rw [hB] at kJ hpl
      rw [if_neg (by simp)] at hpl
      subst hpl
      clear hB hj hN hE h
      go_enter Tryz.func91, Tryz.ntmps91
      go_wp2_with (first
        | (at_lookup; refine wpList_lookup_own_ok_int _ rfl _ _ 56 rfl 9 3 .i64 str_law Tryz.underlying56 Tryz.underlying3 (zeroI9 _) E.m k _ rfl H.out.2.1 _ _ rfl HK.out ?_; intro c hat hwc
           clear hat hwc
           rw [HP.out.2])
        | (go_at_call 115; refine kJ.mono ?_; rintro e w1 ⟨rfl, hb1⟩; obtain ⟨c2', c11'⟩ := HCl.out _ hb1; have HB1 := Lib.hid hb1; clear hb1)
        | (at_mapUpdate; refine wpList_mapUpdate_own _ rfl _ _ _ 56 rfl 9 3 str_law Tryz.underlying56 _ E.m k _ rfl (HKp.out _ HB1.out) HKM.out _ _ _ rfl rfl HK.out _ [] (plainElem_int (a := (r : Int)) Tryz.underlying3 (WalkArith.wf_i64 (by omega))) ?_; intro w2 hown2 hgrow2
           have H2 := Lib.hid (And.intro hown2 hgrow2)
           clear hown2 hgrow2))
      exact bodyPost_ret (results_tmp rfl _ _ _) rfl ⟨rfl, RunM.named H.out.2.2.2.1 (H.out.1.below H.out.2.2.2.1 HB1.out) H2.out.1 H.out.2.2.2.2.2 HP.out.1 H2.out.2⟩
end Go.Proofs.YtkgpnlldlekcbaaGreatDoor
namespace Go.Proofs.YtkgpnlldlekcbaaGreatDoor
open Go.RowKit Go.Lib Go.Maps
attribute [local go_sem] Oper.semAt_some

/-- An address's cells. -/
def AdC (b o : Nat) (a : Ad) (vr : Value) (w : World) : Prop := w.cell? ⟨b, o, none⟩ = some (.int .i64 (a.k : Int)) ∧ w.cell? ⟨b, o + 1, none⟩ = some (.int .i64 (a.n : Int)) ∧ w.cell? ⟨b, o + 2, none⟩ = some vr
theorem AdC.below {b o : Nat} {a : Ad} {vr : Value} {w w' : World} (h : AdC b o a vr w) (hb : Below w.heap.size w w') : AdC b o a vr w' := ⟨cell_stays hb h.1, cell_stays hb h.2.1, cell_stays hb h.2.2⟩
set_option maxHeartbeats 4000000 in
set_option maxRecDepth 20000 in
theorem tells9_any (O : Ora) (E : RC) (hE : E.Ok) (s : Sn) (n d : Nat) (w : World) (h : RunM E s n d w) (a : Ad) (b o : Nat) (vr : Value) (hvr : ∃ x y z, vr = .slice x y z) (ha : AdC b o a vr w)
    (hI : ∀ t, a = .re t → ∀ w', Below w.heap.size w w' → Calls Tryz.prog 116 #[vr, .string s.pat] w' fun e w'' => e = .returned (.bool (O.I t s.pat)) ∧ Below w'.heap.size w' w'') :
    Calls Tryz.prog 92 #[.pointer (some ⟨E.p, 0, none⟩), .pointer (some ⟨b, o, none⟩)] w fun e w' => e = .returned (.bool (tellsD O E.xs s a)) ∧ Below w.heap.size w w' := by
  obtain ⟨ao, cap, c0, c1, c2, c3, c4, c5, c6, c7, c8, c9, c10, c11⟩ := h.cells
  obtain ⟨a0, cx, hv, _, hl, _⟩ := hE.str
  rw [hv] at c3
  obtain ⟨x1, x2, x3, rfl⟩ := hvr
  obtain ⟨d0, d1, d2⟩ := ha
  obtain ⟨N, hN⟩ : ∃ N, N = E.xs.length := ⟨_, rfl⟩
  have hnm := h.nm
  rw [← hN] at c3 hnm hl
  obtain ⟨K, hK⟩ : ∃ K, K = s.num := ⟨_, rfl⟩
  rw [← hK] at c7 hnm
  obtain ⟨P, hP⟩ : ∃ P, P = s.pat := ⟨_, rfl⟩
  rw [← hP] at c0 hI
  cases a with
  | none =>
    have d0' : w.cell? ⟨b, o, none⟩ = some (.int .i64 0) := d0
    show Calls _ _ _ _ fun e w' => e = .returned (.bool false) ∧ _
    clear hv h hE c1 c2 c4 c5 c6 c8 c9 c10 c11 hN hK hP d0 hI
    go_enter Tryz.func92, Tryz.ntmps92
    go_wp2
    exact bodyPost_ret (results_tmp rfl _ _ _) rfl ⟨rfl, Below.refl _ _⟩
  | line m =>
    have d0' : w.cell? ⟨b, o, none⟩ = some (.int .i64 1) := d0
    have d1' : w.cell? ⟨b, o + 1, none⟩ = some (.int .i64 (m : Int)) := d1
    show Calls _ _ _ _ fun e w' => e = .returned (.bool (m == s.num)) ∧ _
    rw [← hK]
    obtain ⟨r, hr⟩ : ∃ r, (m == K) = r := ⟨_, rfl⟩
    have hr2 : ((m : Int) == (K : Int)) = r := by rw [← hr, Bool.eq_iff_iff, beq_iff_eq, beq_iff_eq]; omega
    rw [hr]
    clear hv h hE c1 c2 c4 c5 c6 c8 c9 c10 c11 hN hK hP d0 d1 hI hr
    go_enter Tryz.func92, Tryz.ntmps92
    go_wp2_with fail
    go_quiet (fail)
    go_wp2
    exact bodyPost_ret (results_tmp rfl _ _ _) rfl ⟨rfl, below_draws (Below.refl _ _) _⟩
  | last =>
    have d0' : w.cell? ⟨b, o, none⟩ = some (.int .i64 2) := d0
    show Calls _ _ _ _ fun e w' => e = .returned (.bool (s.num == E.xs.length)) ∧ _
    rw [← hK, ← hN]
    obtain ⟨r, hr⟩ : ∃ r, (K == N) = r := ⟨_, rfl⟩
    have hr2 : ((K : Int) == (N : Int)) = r := by rw [← hr, Bool.eq_iff_iff, beq_iff_eq, beq_iff_eq]; omega
    rw [hr]
    clear hv h hE c1 c2 c4 c5 c6 c8 c9 c10 c11 hN hK hP d0 d1 hI hr
    go_enter Tryz.func92, Tryz.ntmps92
    go_wp2_with fail
    go_quiet (fail)
    go_wp2
    exact bodyPost_ret (results_tmp rfl _ _ _) rfl ⟨rfl, below_draws (Below.refl _ _) _⟩
  | re t =>
    have d0' : w.cell? ⟨b, o, none⟩ = some (.int .i64 3) := d0
    show Calls _ _ _ _ fun e w' => e = .returned (.bool (O.I t s.pat)) ∧ _
    rw [← hP]
    have kI := hI t rfl w.drew ((Below.refl w.heap.size w).drew)
    generalize O.I t P = r at kI ⊢
    clear hv h hE c1 c2 c4 c5 c6 c8 c9 c10 c11 hN hK hP d0 d1 hI
    go_enter Tryz.func92, Tryz.ntmps92
    go_wp2_with fail
    go_region_law (first | (go_simp; go_at_call 116; refine kI.mono ?_; rintro e w1 ⟨rfl, hb1⟩))
    all_goals
      go_wp2
      exact bodyPost_ret (results_tmp rfl _ _ _) rfl ⟨rfl, ((Below.refl _ w).drew).trans (hb1.mono (Nat.le_refl _))⟩
set_option maxHeartbeats 4000000 in
set_option maxRecDepth 20000 in
theorem past9_any (E : RC) (s : Sn) (n d : Nat) (w : World) (h : RunM E s n d w) (a : Ad) (b o : Nat) (vr : Value) (ha : AdC b o a vr w) :
    Calls Tryz.prog 93 #[.pointer (some ⟨E.p, 0, none⟩), .pointer (some ⟨b, o, none⟩)] w fun e w' => e = .returned (.bool (pastD s a)) ∧ Below w.heap.size w w' := by
  obtain ⟨ao, cap, c0, c1, c2, c3, c4, c5, c6, c7, c8, c9, c10, c11⟩ := h.cells
  obtain ⟨d0, d1, d2⟩ := ha
  obtain ⟨K, hK⟩ : ∃ K, K = s.num := ⟨_, rfl⟩
  rw [← hK] at c7
  by_cases hl : ∃ m, a = .line m
  · obtain ⟨m, rfl⟩ := hl
    have d0' : w.cell? ⟨b, o, none⟩ = some (.int .i64 1) := d0
    have d1' : w.cell? ⟨b, o + 1, none⟩ = some (.int .i64 (m : Int)) := d1
    show Calls _ _ _ _ fun e w' => e = .returned (.bool (decide (m ≤ s.num))) ∧ _
    rw [← hK]
    obtain ⟨r, hr⟩ : ∃ r, decide (m ≤ K) = r := ⟨_, rfl⟩
    have hr2 : decide ((m : Int) ≤ (K : Int)) = r := by rw [← hr, Bool.eq_iff_iff, decide_eq_true_iff, decide_eq_true_iff]; omega
    rw [hr]
    have HR := Lib.hid hr
    clear h c0 c1 c2 c3 c4 c5 c6 c8 c9 c10 c11 hK d0 d1 d2
    go_enter Tryz.func93, Tryz.ntmps93
    go_wp2_with fail
    go_quiet (fail)
    go_wp2
    exact bodyPost_ret (results_tmp rfl _ _ _) rfl ⟨rfl, below_draws (Below.refl _ _) _⟩
  · have hp : pastD s a = false := by
      cases a with
      | line m => exact absurd ⟨m, rfl⟩ hl
      | none => rfl
      | last => rfl
      | re t => rfl
    have hk : ((a.k : Int) == 1) = false := by
      rw [beq_eq_false_iff_ne]
      cases a with
      | line m => exact absurd ⟨m, rfl⟩ hl
      | none => decide
      | last => decide
      | re t => show (3 : Int) ≠ 1; decide
    rw [hp]
    clear h c0 c1 c2 c3 c4 c5 c6 c7 c8 c9 c10 c11 hK d1 d2 hp hl
    go_enter Tryz.func93, Tryz.ntmps93
    go_wp2_with fail
    go_quiet (fail)
    go_wp2
    exact bodyPost_ret (results_tmp rfl _ _ _) rfl ⟨rfl, below_draws (Below.refl _ _) _⟩
end Go.Proofs.YtkgpnlldlekcbaaGreatDoor
