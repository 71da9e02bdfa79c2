/- Packed texts: ReRefRight. What each of them proves stands above its theorems; the conditions stand in these. -/
import Derived.Test.YtgceckejchdnlaaGreatDoorB41
namespace Go.Proofs.YtgceckejchdnlaaGreatDoor
open Go.RowKit Go.Lib

theorem run_neq_same2 (a b : Int) (w : World) : (binOp .neq 70 (.agg #[.int .i64 a, .int .i64 b]) (.agg #[.int .i64 a, .int .i64 b])).run Tryz.prog w = .ok (.bool false) w := by
  rw [run_neq_two]; simp
theorem run_neq_zero (w : World) : (binOp .neq 69 (.agg #[.int .u64 0, .int .u64 0, .int .u64 0, .int .u64 0]) (.agg #[.int .u64 0, .int .u64 0, .int .u64 0, .int .u64 0])).run Tryz.prog w = .ok (.bool false) w := by
  rw [run_neq_cls]; rfl

/-- Where a tree's nodes begin. -/
def Begins (v : Value) (ts : List Nd) (r n : Nat) : Prop := ∀ w, Lies v ts w → Calls Tryz.prog 34 #[v, .int .i64 (r : Int)] w fun e w' => e = .returned (.int .i64 (n : Int)) ∧ Below w.heap.size w w'

set_option maxHeartbeats 2000000 in
set_option maxRecDepth 20000 in
theorem begin_leaf (N cap b o r : Nat) (nd : Nd) (w : World) (hr : r < N) (hk : nd.k = 1 ∨ ((nd.k = 0 ∨ nd.k = 7 ∨ nd.k = 8) ∧ nd.s = k0)) (hx : nd.x = 0 ∧ nd.y = 0) (hat : NdAt b (o + r * 7) nd w) :
    Calls Tryz.prog 34 #[.slice (some ⟨b, o, none⟩) N cap, .int .i64 (r : Int)] w fun e w' => e = .returned (.int .i64 (r : Int)) ∧ Below w.heap.size w w' := by
  obtain ⟨k, s, x, y⟩ := nd
  obtain ⟨rfl, rfl⟩ : x = 0 ∧ y = 0 := hx
  obtain ⟨a0, a1, a2, a3, a4, a5, a6⟩ := hat
  dsimp only at a0 a1 a2 a3 a4 a5 a6 hk
  have kk := fun w => many_any k w
  have e2 := run_neq_same2 0 0
  have e3 := run_neq_zero
  rcases hk with rfl | ⟨hk, rfl⟩
  · unfold wd at a1 a2 a3 a4
    have hz : kidsN 1 = 0 := rfl
    rw [hz] at kk
    go_enter Tryz.func34, Tryz.ntmps34
    go_wp2_with (first | (go_at_call 56; refine (kk _).mono ?_; rintro e w1 ⟨rfl, rfl⟩) | fail)
    exact bodyPost_ret (results_tmp rfl _ _ _) rfl ⟨rfl, (Below.refl _ w).alloc (Nat.le_refl _) _⟩
  · have b1 : w.cell? ⟨b, o + r * 7 + 1, none⟩ = some (.int .u64 0) := a1
    have b2 : w.cell? ⟨b, o + r * 7 + 2, none⟩ = some (.int .u64 0) := a2
    have b3 : w.cell? ⟨b, o + r * 7 + 3, none⟩ = some (.int .u64 0) := a3
    have b4 : w.cell? ⟨b, o + r * 7 + 4, none⟩ = some (.int .u64 0) := a4
    clear a1 a2 a3 a4
    have hz : kidsN k = 0 := by rcases hk with rfl | rfl | rfl <;> rfl
    have hk1 : (k != 1) = true := by rcases hk with rfl | rfl | rfl <;> rfl
    rw [hz] at kk
    clear hz hk
    go_enter Tryz.func34, Tryz.ntmps34
    go_wp2_with (first | (go_at_call 56; refine (kk _).mono ?_; rintro e w1 ⟨rfl, rfl⟩) | fail)
    exact bodyPost_ret (results_tmp rfl _ _ _) rfl ⟨rfl, (Below.refl _ w).alloc (Nat.le_refl _) _⟩

set_option maxHeartbeats 2000000 in
set_option maxRecDepth 20000 in
theorem begin_rep (N cap b o r ra n : Nat) (j : Int) (ts : List Nd) (w : World) (hr : r < N) (hN : N ≤ 2000) (hj : j = 4 ∨ j = 5 ∨ j = 6) (hra : ra + 1 = r) (hat : NdAt b (o + r * 7) ⟨j, k0, (ra : Int), 0⟩ w)
    (hL : Lies (.slice (some ⟨b, o, none⟩) N cap) ts w) (kb : Begins (.slice (some ⟨b, o, none⟩) N cap) ts ra n) :
    Calls Tryz.prog 34 #[.slice (some ⟨b, o, none⟩) N cap, .int .i64 (r : Int)] w fun e w' => e = .returned (.int .i64 (n : Int)) ∧ Below w.heap.size w w' := by
  obtain ⟨a0, a1, a2, a3, a4, a5, a6⟩ := hat
  dsimp only at a0 a1 a2 a3 a4 a5 a6
  have b1 : w.cell? ⟨b, o + r * 7 + 1, none⟩ = some (.int .u64 0) := a1
  have b2 : w.cell? ⟨b, o + r * 7 + 2, none⟩ = some (.int .u64 0) := a2
  have b3 : w.cell? ⟨b, o + r * 7 + 3, none⟩ = some (.int .u64 0) := a3
  have b4 : w.cell? ⟨b, o + r * 7 + 4, none⟩ = some (.int .u64 0) := a4
  clear a1 a2 a3 a4
  have kk := fun w => many_any j w
  have hI : IntKind.i64.wrap ((r : Int) - 1) = (ra : Int) := by rw [IntWalk.i64_in _ (by omega)]; omega
  have e2 := run_neq_same2 (ra : Int) 0
  have e3 := run_neq_zero
  have hz : kidsN j = 1 := by rcases hj with rfl | rfl | rfl <;> rfl
  have hk1 : (j != 1) = true := by rcases hj with rfl | rfl | rfl <;> rfl
  rw [hz] at kk
  have HL := Lib.hid hL
  have KB := Lib.hid kb
  clear hz hj hra hL kb
  go_enter Tryz.func34, Tryz.ntmps34
  go_wp2_with (first
    | (go_at_call 56; refine (kk _).mono ?_; rintro e w1 ⟨rfl, rfl⟩)
    | (go_at_call 34; refine (KB.out _ (HL.out.below ((Below.refl _ w).alloc (Nat.le_refl _) _))).mono ?_; rintro e w2 ⟨rfl, hb2⟩)
    | fail)
  exact bodyPost_ret (results_tmp rfl _ _ _) rfl ⟨rfl, ((Below.refl _ w).alloc (Nat.le_refl _) _).trans (hb2.mono (by simp))⟩

set_option maxHeartbeats 2000000 in
set_option maxRecDepth 20000 in
theorem begin_two (N cap b o r ra rb n m : Nat) (j : Int) (ts : List Nd) (w : World) (hr : r < N) (hN : N ≤ 2000) (hj : j = 2 ∨ j = 3) (hrb : rb + 1 = r) (hm : m = ra + 1) (hmr : m ≤ r) (hat : NdAt b (o + r * 7) ⟨j, k0, (ra : Int), (rb : Int)⟩ w)
    (hL : Lies (.slice (some ⟨b, o, none⟩) N cap) ts w) (kb : Begins (.slice (some ⟨b, o, none⟩) N cap) ts rb m) (ka : Begins (.slice (some ⟨b, o, none⟩) N cap) ts ra n) :
    Calls Tryz.prog 34 #[.slice (some ⟨b, o, none⟩) N cap, .int .i64 (r : Int)] w fun e w' => e = .returned (.int .i64 (n : Int)) ∧ Below w.heap.size w w' := by
  obtain ⟨a0, a1, a2, a3, a4, a5, a6⟩ := hat
  dsimp only at a0 a1 a2 a3 a4 a5 a6
  have b1 : w.cell? ⟨b, o + r * 7 + 1, none⟩ = some (.int .u64 0) := a1
  have b2 : w.cell? ⟨b, o + r * 7 + 2, none⟩ = some (.int .u64 0) := a2
  have b3 : w.cell? ⟨b, o + r * 7 + 3, none⟩ = some (.int .u64 0) := a3
  have b4 : w.cell? ⟨b, o + r * 7 + 4, none⟩ = some (.int .u64 0) := a4
  clear a1 a2 a3 a4
  have kk := fun w => many_any j w
  have hI : IntKind.i64.wrap ((r : Int) - 1) = (rb : Int) := by rw [IntWalk.i64_in _ (by omega)]; omega
  have hJ : IntKind.i64.wrap ((m : Int) - 1) = (ra : Int) := by rw [IntWalk.i64_in _ (by omega)]; omega
  have hm1 : decide ((m : Int) < 1) = false := by simp; omega
  have e2 := run_neq_same2 (ra : Int) (rb : Int)
  have e3 := run_neq_zero
  have hz : kidsN j = 2 := by rcases hj with rfl | rfl <;> rfl
  have hk1 : (j != 1) = true := by rcases hj with rfl | rfl <;> rfl
  rw [hz] at kk
  unfold Begins at kb ka
  have HL := Lib.hid hL
  clear hz hj hrb hm hmr hL
  go_enter Tryz.func34, Tryz.ntmps34
  go_wp2_with (first
    | (go_at_call 56; refine (kk _).mono ?_; rintro e w1 ⟨rfl, rfl⟩)
    | (go_at_call 34; first
        | (with_reducible refine (kb _ (HL.out.below ((Below.refl _ w).alloc (Nat.le_refl _) _))).mono ?_; rintro e w2 ⟨rfl, hb2⟩
           have HB2 := Lib.hid (((Below.refl _ w).alloc (Nat.le_refl _) _).trans (hb2.mono (by simp)))
           have hg := hb2.block w.heap.size (by simp)
           rw [heap_alloc_new] at hg
           obtain ⟨q0, q1, q2, q3, q4, q5, q6⟩ := node_cells hg
           clear hg hb2 kb)
        | (with_reducible refine (ka _ (HL.out.below HB2.out)).mono ?_; rintro e w3 ⟨rfl, hb3⟩))
    | fail)
  exact bodyPost_ret (results_tmp rfl _ _ _) rfl ⟨rfl, HB2.out.trans (hb3.mono HB2.out.size)⟩

theorem begin_does (ts : List Nd) (N cap b o : Nat) (hN : N = ts.length) (hN2 : N ≤ 2000) : ∀ (t : Tr), t.ok → ∀ (n r : Nat), Sub ts t n → r + 1 = n + t.size → Begins (.slice (some ⟨b, o, none⟩) N cap) ts r n := by
  have at_ : ∀ {t : Tr} {n r : Nat} {w : World}, Sub ts t n → r + 1 = n + t.size → Lies (.slice (some ⟨b, o, none⟩) N cap) ts w → NdAt b (o + r * 7) (t.node n) w ∧ r < N := fun {t n r w} hs hr hL => by
    have hroot := hs.root hr
    obtain ⟨b', o', h1, h2, h3⟩ := hL.at hroot
    cases h1
    refine ⟨h3, ?_⟩
    rw [hN]
    by_cases hlt : r < ts.length
    · exact hlt
    · rw [List.getElem?_eq_none (by omega)] at hroot; cases hroot
  intro t
  induction t with
  | leaf j =>
    intro hok n r hs hr w hL
    obtain ⟨ha, hlt⟩ := at_ hs hr hL
    have hj : j = 0 ∨ j = 7 ∨ j = 8 := hok
    have hr' : r + 1 = n + 1 := hr
    have hrn : r = n := by omega
    have h := begin_leaf N cap b o r _ w hlt (.inr ⟨by show (j : Int) = 0 ∨ (j : Int) = 7 ∨ (j : Int) = 8; omega, rfl⟩) ⟨rfl, rfl⟩ ha
    rwa [hrn] at h ⊢
  | set k =>
    intro hok n r hs hr w hL
    obtain ⟨ha, hlt⟩ := at_ hs hr hL
    have hr' : r + 1 = n + 1 := hr
    have hrn : r = n := by omega
    have h := begin_leaf N cap b o r _ w hlt (.inl rfl) ⟨rfl, rfl⟩ ha
    rwa [hrn] at h ⊢
  | rep j a ih =>
    intro hok n r hs hr w hL
    obtain ⟨hj, hoka⟩ := hok
    obtain ⟨ha, hlt⟩ := at_ hs hr hL
    have hpa := a.size_pos
    have hr' : r + 1 = n + (a.size + 1) := hr
    obtain ⟨ra, hra⟩ : ∃ ra, ra + 1 = n + a.size := ⟨n + a.size - 1, by omega⟩
    have e : (Tr.rep j a).node n = ⟨(j : Int), k0, (ra : Int), 0⟩ := by
      show (⟨(j : Int), k0, (n : Int) + a.size - 1, 0⟩ : Nd) = _
      rw [show (n : Int) + a.size - 1 = (ra : Int) by omega]
    rw [e] at ha
    exact begin_rep N cap b o r ra n _ ts w hlt hN2 (by omega) (by omega) ha hL (ih hoka n ra hs.rep hra)
  | two j a b' iha ihb =>
    intro hok n r hs hr w hL
    obtain ⟨hj, hoka, hokb⟩ := hok
    obtain ⟨ha, hlt⟩ := at_ hs hr hL
    have hpa := a.size_pos
    have hpb := b'.size_pos
    have hr' : r + 1 = n + (a.size + b'.size + 1) := hr
    obtain ⟨ra, hra⟩ : ∃ ra, ra + 1 = n + a.size := ⟨n + a.size - 1, by omega⟩
    obtain ⟨rb, hrb⟩ : ∃ rb, rb + 1 = n + a.size + b'.size := ⟨n + a.size + b'.size - 1, by omega⟩
    have e : (Tr.two j a b').node n = ⟨(j : Int), k0, (ra : Int), (rb : Int)⟩ := by
      show (⟨(j : Int), k0, (n : Int) + a.size - 1, (n : Int) + a.size + b'.size - 1⟩ : Nd) = _
      rw [show (n : Int) + a.size - 1 = (ra : Int) by omega, show (n : Int) + a.size + b'.size - 1 = (rb : Int) by omega]
    rw [e] at ha
    exact begin_two N cap b o r ra rb n (n + a.size) _ ts w hlt hN2 (by omega) (by omega) (by omega) (by omega) ha hL (ihb hokb (n + a.size) rb hs.snd hrb) (iha hoka n ra hs.fst hra)

set_option maxHeartbeats 1000000 in
set_option maxRecDepth 20000 in
theorem refRight_walk (v : Value) (N cap r : Nat) (ao : Option Addr) (w : World) (hv : v = .slice ao N cap) (hN : N ≤ 2000) (hr : r + 1 = N) (k : Calls Tryz.prog 34 #[v, .int .i64 (r : Int)] w fun e w' => e = .returned (.int .i64 0) ∧ Below w.heap.size w w') :
    Calls Tryz.prog 17 #[v] w fun e w' => e = .returned (.bool true) ∧ Below w.heap.size w w' := by
  subst hv
  have hI : IntKind.i64.wrap ((N : Int) - 1) = (r : Int) := by rw [IntWalk.i64_in _ (by omega)]; omega
  have h1 : decide ((N : Int) ≤ 2000) = true := by simp; omega
  have h2 : decide ((0 : Int) < (N : Int)) = true := by simp; omega
  go_enter Tryz.func17, Tryz.ntmps17
  go_wp2_with (first
    | (go_at_call 34; refine k.mono ?_; rintro e w2 ⟨rfl, hb2⟩)
    | fail)
  exact bodyPost_ret (results_tmp rfl _ _ _) rfl ⟨rfl, hb2⟩
/-- The document's Right, of a tree's row. -/
theorem refRight_tree (v : Value) (t : Tr) (w : World) (hok : t.ok) (hn : t.size ≤ 2000) (hL : Lies v (t.row 0) w) :
    Calls Tryz.prog 17 #[v] w fun e w' => e = .returned (.bool true) ∧ Below w.heap.size w w' := by
  have hp := t.size_pos
  have hlen := t.row_length 0
  have h0 : ∃ n, (t.row 0)[0]? = some n := ⟨_, List.getElem?_eq_getElem (by omega)⟩
  obtain ⟨n0, hn0⟩ := h0
  have hL' := hL
  obtain ⟨ao, cap, rfl, _⟩ := hL
  obtain ⟨b, o, rfl, _⟩ := hL'.at hn0
  rw [hlen] at hL' ⊢
  exact refRight_walk _ t.size cap (t.size - 1) _ w rfl hn (by omega) (begin_does (t.row 0) t.size cap b o hlen.symm hn t hok 0 (t.size - 1) (sub_row t) (by omega) w hL')
end Go.Proofs.YtgceckejchdnlaaGreatDoor
