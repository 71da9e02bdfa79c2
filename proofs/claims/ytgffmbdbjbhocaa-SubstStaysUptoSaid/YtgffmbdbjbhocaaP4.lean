/- Packed texts: ClsRefHas, MbStep, MbWith. What each of them proves stands above its theorems; the conditions stand in these. -/
import Derived.Test.YtgffmbdbjbhocaaP0
import Derived.Test.YtgffmbdbjbhocaaP3
namespace Go.Proofs.Ytgffmbdbjbhocaa
open Go.RowKit Go.Lib

theorem word_bit (y : BitVec 64) (n : Nat) : ((IntKind.u64.wrap ((y.toNat : Int) / ((2 ^ n : Nat) : Int))).tmod 2 == 1) = y.getLsbD n := by
  have h1 : ((y.toNat : Int) / ((2 ^ n : Nat) : Int)) = ((y.toNat / 2 ^ n : Nat) : Int) := by rw [Int.natCast_ediv]
  have h2 : y.toNat / 2 ^ n < 18446744073709551616 := Nat.lt_of_le_of_lt (Nat.div_le_self _ _) y.isLt
  have h3 : y.getLsbD n = decide (y.toNat / 2 ^ n % 2 = 1) := by rw [← BitVec.testBit_toNat, Nat.testBit_eq_decide_div_mod_eq]
  rw [h1, h3]
  generalize y.toNat / 2 ^ n = d at h2
  rw [IntKind.wrap_u64, Int.emod_eq_of_lt (by omega) (by omega), Int.tmod_eq_emod_of_nonneg (by omega), Bool.eq_iff_iff]
  simp only [beq_iff_eq, decide_eq_true_eq]
  omega
theorem bit_wrap (x : Int) (hx0 : 0 ≤ x) : IntKind.u64.wrap (2 ^ (x % 64).toNat) = ((2 ^ (x.toNat % 64) : Nat) : Int) := by
  have h : (x % 64).toNat = x.toNat % 64 := by omega
  have h2 : 2 ^ (x.toNat % 64) ≤ 2 ^ 63 := Nat.pow_le_pow_right (by omega) (by omega)
  have h3 : (2 : Nat) ^ 63 < 18446744073709551616 := by decide
  rw [h, IntKind.wrap_u64, show ((2 : Int) ^ (x.toNat % 64)) = ((2 ^ (x.toNat % 64) : Nat) : Int) by simp]
  generalize 2 ^ (x.toNat % 64) = p at h2
  exact Int.emod_eq_of_lt (by omega) (by omega)

set_option maxHeartbeats 800000 in
set_option maxRecDepth 20000 in
theorem refHas_any (k : Cl) (x : Int) (w : World) (hx0 : 0 ≤ x) (hx1 : x ≤ 255) :
    Calls Try.prog 78 #[clsV k, .int .u8 x] w fun e w' => e = .returned (.bool (has k x.toNat)) ∧ Below w.heap.size w w' := by
  obtain ⟨q, hq⟩ : ∃ q, q = x / 64 := ⟨_, rfl⟩
  have hq4 : q = 0 ∨ q = 1 ∨ q = 2 ∨ q = 3 := by omega
  obtain ⟨r, hr⟩ : ∃ r : Bool, r = has k x.toNat := ⟨_, rfl⟩
  have HR := Lib.hid hr
  rw [← hr]
  obtain ⟨P, hP⟩ : ∃ P, P = IntKind.u64.wrap (2 ^ (x % 64).toNat) := ⟨_, rfl⟩
  have HP := Lib.hid (hP.trans (bit_wrap x hx0))
  have hP0 : ¬ P = 0 := by
    have := Nat.two_pow_pos (x.toNat % 64)
    have h := HP.out
    omega
  have hP' := hP.symm
  clear hP
  unfold clsV clsA wd
  rcases hq4 with h | h | h | h
  all_goals
    rw [h] at hq
    have hq' := hq.symm
    have hn : x.toNat / 64 = q.toNat := by omega
    rw [h] at hn
    have HN := Lib.hid hn
    clear hq hn hr
    go_enter Try.func78, Try.ntmps78
    go_wp2
    go_ret
    refine ⟨?_, (Below.refl _ w).alloc (Nat.le_refl _) _⟩
    rw [HR.out]
    show Ending.returned (.bool _) = Ending.returned (.bool _)
    rw [HP.out, word_bit]
    unfold has
    rw [HN.out]
    rfl
end Go.Proofs.Ytgffmbdbjbhocaa
namespace Go.Proofs.Ytgffmbdbjbhocaa
open Go.RowKit Go.Lib

/-- A state: a node that begins, or has ended, at a place. -/
abbrev Stt := Nat × Bool × Nat
def sttC (L : List Stt) : List Value := L.flatMap fun x => [.int .i64 (x.1 : Int), .bool x.2.1, .int .i64 (x.2.2 : Int)]
def gateS (x : Stt) : Nat × Nat := (2 * x.1 + (if x.2.1 = true then 1 else 0), x.2.2)
/-- A row of states that is answered. -/
def StRow (w : World) (L : List Stt) (e : Ending) (w' : World) : Prop :=
  Below w.heap.size w w' ∧ ((L = [] ∧ e = .returned (.slice none 0 0)) ∨ ∃ g, 0 < L.length ∧ w.heap.size ≤ g ∧ e = .returned (.slice (some ⟨g, 0, none⟩) L.length L.length) ∧ w'.heap[g]? = some (.cells ⟨sttC L⟩ 157 (0, 0)))
theorem strow_one {w W : World} {a g : Nat} {t : Bool} {c : Nat} (hg : g = W.heap.size) (hb : Below w.heap.size w W) : StRow w [(a, t, c)] (.returned (.slice (some ⟨g, 0, none⟩) 1 1)) (W.alloc (.cells #[.int .i64 (a : Int), .bool t, .int .i64 (c : Int)] 157)) := by
  subst hg
  exact ⟨hb.alloc hb.size _, .inr ⟨_, by simp, hb.size, rfl, heap_alloc_new _ _⟩⟩
theorem strow_two {w W : World} {a a' g : Nat} {t t' : Bool} {c c' : Nat} (hg : g = W.heap.size) (hb : Below w.heap.size w W) : StRow w [(a, t, c), (a', t', c')] (.returned (.slice (some ⟨g, 0, none⟩) 2 2)) (W.alloc (.cells #[.int .i64 (a : Int), .bool t, .int .i64 (c : Int), .int .i64 (a' : Int), .bool t', .int .i64 (c' : Int)] 157)) := by
  subst hg
  exact ⟨hb.alloc hb.size _, .inr ⟨_, by simp, hb.size, rfl, heap_alloc_new _ _⟩⟩
theorem StRow.no {w W : World} {L : List Stt} {e : Ending} (h : StRow w L e W) (hL : L = []) : e = .returned (.slice none 0 0) ∧ Below w.heap.size w W := by
  obtain ⟨hb, ⟨_, h2⟩ | ⟨g, h2, _⟩⟩ := h
  · exact ⟨h2, hb⟩
  · rw [hL] at h2; simp at h2
theorem StRow.some {w W : World} {L : List Stt} {e : Ending} (h : StRow w L e W) (hL : L ≠ []) : ∃ g, w.heap.size ≤ g ∧ e = .returned (.slice (some ⟨g, 0, none⟩) L.length L.length) ∧ W.heap[g]? = some (.cells ⟨sttC L⟩ 157 (0, 0)) ∧ Below w.heap.size w W := by
  obtain ⟨hb, ⟨h1, _⟩ | ⟨g, _, h2, h3, h4⟩⟩ := h
  · exact absurd h1 hL
  · exact ⟨g, h2, h3, h4, hb⟩
theorem StRow.drew {w W : World} {L : List Stt} {e : Ending} (h : StRow w L e W) : StRow w L e W.drew := ⟨h.1.drew, h.2⟩
theorem strow_none {w W : World} (hb : Below w.heap.size w W) : StRow w [] (.returned (.slice none 0 0)) W := ⟨hb, .inl ⟨rfl, rfl⟩⟩
def beyS (n : Nd) (u r p : Nat) : List Stt := if n.k = 2 ∧ n.x = (r : Int) then [(n.y.toNat, false, p)] else if n.k = 4 ∨ n.k = 5 then [(u, true, p), (r, false, p)] else [(u, true, p)]

set_option maxHeartbeats 4000000 in
set_option maxRecDepth 20000 in
theorem beyond_walk (b o cap N r u p X : Nat) (n : Nd) (w : World) (L : List Stt) (hL : L = beyS n u r p) (hu : u < N) (_hN : N ≤ 2000) (hk : n.k = 2 ∨ n.k = 3 ∨ n.k = 4 ∨ n.k = 5 ∨ n.k = 6) (hy : n.y = (X : Int)) (hb : b < w.heap.size) (hat : NdAt b (o + u * 7) n w)
    (kp : ∀ w', Below w.heap.size w w' → Calls Try.prog 149 #[.slice (some ⟨b, o, none⟩) N cap, .int .i64 (r : Int)] w' fun e w'' => e = .returned (.int .i64 (u : Int)) ∧ w' = w'') :
    Calls Try.prog 128 #[.slice (some ⟨b, o, none⟩) N cap, .agg #[.int .i64 (r : Int), .bool true, .int .i64 (p : Int)]] w fun e w' => StRow w L e w' := by
  obtain ⟨k, s, x, y⟩ := n
  dsimp only at hk hy
  obtain ⟨a0, a1, a2, a3, a4, a5, a6⟩ := hat
  dsimp only at a0 a5 a6
  subst hy
  unfold beyS at hL
  dsimp only at hL
  have hlt : (u : Int) < (N : Int) := by omega
  obtain ⟨q, hq⟩ : ∃ q, (x == (r : Int)) = q := ⟨_, rfl⟩
  have HL : Hid (L = if k = 2 ∧ q = true then [(X, false, p)] else if k = 4 ∨ k = 5 then [(u, true, p), (r, false, p)] else [(u, true, p)]) := by
    show _ = _
    rw [hL, ← hq]
    simp
  have HB := Lib.hid ((Below.refl w.heap.size w).alloc (Nat.le_refl _) (.cells #[.int .i64 (r : Int), .bool true, .int .i64 (p : Int)] 157))
  have kp := kp _ HB.out
  obtain ⟨h, hh⟩ : ∃ h, h = w.heap.size := ⟨_, rfl⟩
  have n0 := heap_alloc_new w (.cells #[.int .i64 (r : Int), .bool true, .int .i64 (p : Int)] 157)
  clear hL a1 a2 a3 a4
  have HH := Lib.hid hh
  rcases hk with rfl | rfl | rfl | rfl | rfl
  all_goals
    cases q
    all_goals
      have hL2 := HL.out
      simp at hL2
      subst hL2
      clear HL
      go_enter Try.func128, Try.ntmps128
      go_wp2_with (first
        | (go_at_call 149; refine kp.mono ?_; rintro e w1 ⟨rfl, rfl⟩)
        | fail)
      go_region
      all_goals
        try go_wp2
        try (go_region; go_wp2)
        refine bodyPost_ret (results_tmp rfl _ _ _) rfl ?_
        repeat refine StRow.drew ?_
        first
          | refine strow_one ?_ ?_
          | refine strow_two ?_ ?_
        · simp
        exact HB.out.alloc (by simp) _
end Go.Proofs.Ytgffmbdbjbhocaa
namespace Go.Proofs.Ytgffmbdbjbhocaa
open Go.RowKit Go.Lib

def witS (s : List UInt8) (n : Nd) (r p : Nat) : List Stt :=
  if n.k = 0 then [(r, true, p)]
  else if n.k = 1 then if inSet s n.s p = true then [(r, true, p + 1)] else []
  else if n.k = 2 ∨ n.k = 5 then [(n.x.toNat, false, p)]
  else if n.k = 3 then [(n.x.toNat, false, p), (n.y.toNat, false, p)]
  else if n.k = 4 ∨ n.k = 6 then [(r, true, p), (n.x.toNat, false, p)]
  else if n.k = 7 then if p = 0 then [(r, true, p)] else []
  else if p = s.length then [(r, true, p)] else []
set_option maxHeartbeats 4000000 in
set_option maxRecDepth 20000 in
theorem within_plain (b o cap N r p X Y : Nat) (k : Int) (K : K4) (z0 zs : Bool) (s : ByteArray) (w : World) (L : List Stt) (hr : r < N) (_hN : N ≤ 2000) (hb : b < w.heap.size) (hat : NdAt b (o + r * 7) ⟨k, K, (X : Int), (Y : Int)⟩ w)
    (hz0 : ((p : Int) == 0) = z0) (hzs : ((p : Int) == (s.size : Int)) = zs)
    (hL : (k = 0 ∧ L = [(r, true, p)]) ∨ (k = 2 ∧ L = [(X, false, p)]) ∨ (k = 5 ∧ L = [(X, false, p)]) ∨ (k = 3 ∧ L = [(X, false, p), (Y, false, p)]) ∨ (k = 4 ∧ L = [(r, true, p), (X, false, p)]) ∨ (k = 6 ∧ L = [(r, true, p), (X, false, p)]) ∨
      (k = 7 ∧ z0 = true ∧ L = [(r, true, p)]) ∨ (k = 7 ∧ z0 = false ∧ L = []) ∨ (k = 8 ∧ zs = true ∧ L = [(r, true, p)]) ∨ (k = 8 ∧ zs = false ∧ L = [])) :
    Calls Try.prog 129 #[.slice (some ⟨b, o, none⟩) N cap, .string s, .agg #[.int .i64 (r : Int), .bool false, .int .i64 (p : Int)]] w fun e w' => StRow w L e w' := by
  obtain ⟨a0, a1, a2, a3, a4, a5, a6⟩ := hat
  dsimp only at a0 a1 a2 a3 a4 a5 a6
  unfold wd at a1 a2 a3 a4
  have hlt : (r : Int) < (N : Int) := by omega
  have HB := Lib.hid (Below.refl w.heap.size w)
  rcases hL with ⟨rfl, rfl⟩ | ⟨rfl, rfl⟩ | ⟨rfl, rfl⟩ | ⟨rfl, rfl⟩ | ⟨rfl, rfl⟩ | ⟨rfl, rfl⟩ | ⟨rfl, rfl, rfl⟩ | ⟨rfl, rfl, rfl⟩ | ⟨rfl, rfl, rfl⟩ | ⟨rfl, rfl, rfl⟩
  all_goals
    go_enter Try.func129, Try.ntmps129
    go_wp2
    refine bodyPost_ret (results_tmp rfl _ _ _) rfl ?_
    repeat refine StRow.drew ?_
    first
      | refine strow_one ?_ ?_
      | refine strow_two ?_ ?_
      | (refine strow_none ?_; skip)
    all_goals try (simp; done)
    exact (((HB.out.alloc (by simp) _).alloc (by simp <;> omega) _).alloc (by simp <;> omega) _).alloc (by simp <;> omega) _
set_option maxHeartbeats 4000000 in
set_option maxRecDepth 20000 in
theorem within_set (b o cap N r p : Nat) (x y : Int) (K : K4) (s : ByteArray) (w : World) (L : List Stt) (hr : r < N) (_hN : N ≤ 2000) (hp : p ≤ 1000000) (hb : b < w.heap.size) (hat : NdAt b (o + r * 7) ⟨1, K, x, y⟩ w)
    (hL : L = if inSet s.data.toList K p = true then [(r, true, p + 1)] else []) :
    Calls Try.prog 129 #[.slice (some ⟨b, o, none⟩) N cap, .string s, .agg #[.int .i64 (r : Int), .bool false, .int .i64 (p : Int)]] w fun e w' => StRow w L e w' := by
  obtain ⟨a0, a1, a2, a3, a4, a5, a6⟩ := hat
  dsimp only at a0 a1 a2 a3 a4 a5 a6
  unfold wd at a1 a2 a3 a4
  have hlt : (r : Int) < (N : Int) := by omega
  have HB := Lib.hid (Below.refl w.heap.size w)
  have hwp : IntKind.i64.wrap ((p : Int) + 1) = ((p + 1 : Nat) : Int) := by rw [IntWalk.i64_in _ (by omega)]; omega
  have p0 : (0 : Int) ≤ (p : Int) := by omega
  have hz : s.data.toList.length = s.size := Array.length_toList
  by_cases hlp : p < s.size
  · obtain ⟨d, hd⟩ : ∃ d, s[p] = d := ⟨_, rfl⟩
    have hin : inSet s.data.toList K p = has K.cl d.toNat := by unfold inSet; rw [at_byte hlp, hd]
    rw [hin] at hL
    obtain ⟨hs, hhs⟩ : ∃ hs, hs = has K.cl d.toNat := ⟨_, rfl⟩
    rw [← hhs] at hL
    have kh := fun w => refHas_any K.cl (d.toNat : Int) w (by omega) (by have := d.toNat_lt; omega)
    rw [Int.toNat_natCast, ← hhs] at kh
    have kh : ∀ w, Calls Try.prog 78 #[.agg #[.int .u64 (K.a.toNat : Int), .int .u64 (K.b.toNat : Int), .int .u64 (K.c.toNat : Int), .int .u64 (K.d.toNat : Int)], .int .u8 (d.toNat : Int)] w fun e w' => e = .returned (.bool hs) ∧ Below w.heap.size w w' := kh
    have hltI : (p : Int) < (s.size : Int) := by omega
    have HL := Lib.hid hL
    clear hL hin hhs hz
    go_enter Try.func129, Try.ntmps129
    go_wp2_with fail
    obtain ⟨h, hh⟩ : ∃ h, h = w.heap.size := ⟨_, rfl⟩
    rw [← hh]
    obtain ⟨W, hW⟩ : ∃ W, W = (((w.alloc (.cells #[.int .i64 (r : Int), .bool false, .int .i64 (p : Int)] 157)).alloc (.cells #[.int .i64 1, .int .u64 (K.a.toNat : Int), .int .u64 (K.b.toNat : Int), .int .u64 (K.c.toNat : Int), .int .u64 (K.d.toNat : Int), .int .i64 x, .int .i64 y] 56)).alloc (.cells #[.int .i64 (r : Int), .bool true, .int .i64 (p : Int)] 157)).alloc (.cells #[.int .i64 x, .bool false, .int .i64 (p : Int)] 157) := ⟨_, rfl⟩
    rw [← hW]
    have hbW : Below w.heap.size w W := by rw [hW]; exact (((HB.out.alloc (by simp) _).alloc (by simp) _).alloc (by simp <;> omega) _).alloc (by simp <;> omega) _
    have hWz : W.heap.size = h + 4 := by rw [hW, hh]; simp
    have d0 : W.heap[h]? = some (.cells #[.int .i64 (r : Int), .bool false, .int .i64 (p : Int)] 157 (0, 0)) := by
      rw [hW, hh]
      exact (Below.heap_alloc _ _ _ (by simp <;> omega)).trans ((Below.heap_alloc _ _ _ (by simp <;> omega)).trans ((Below.heap_alloc _ _ _ (by simp)).trans (heap_alloc_new _ _)))
    have d1 : W.heap[h + 1]? = some (.cells #[.int .i64 1, .int .u64 (K.a.toNat : Int), .int .u64 (K.b.toNat : Int), .int .u64 (K.c.toNat : Int), .int .u64 (K.d.toNat : Int), .int .i64 x, .int .i64 y] 56 (0, 0)) := by
      rw [hW, hh]
      refine (Below.heap_alloc _ _ _ (by simp <;> omega)).trans ((Below.heap_alloc _ _ _ (by simp)).trans ?_)
      have h := heap_alloc_new (w.alloc (.cells #[.int .i64 (r : Int), .bool false, .int .i64 (p : Int)] 157)) (.cells #[.int .i64 1, .int .u64 (K.a.toNat : Int), .int .u64 (K.b.toNat : Int), .int .u64 (K.c.toNat : Int), .int .u64 (K.d.toNat : Int), .int .i64 x, .int .i64 y] 56)
      rwa [World.size_alloc] at h
    have SB : ∀ W', Below W.heap.size W W' → W'.cell? ⟨h, 0, none⟩ = some (.int .i64 (r : Int)) ∧ W'.cell? ⟨h, 2, none⟩ = some (.int .i64 (p : Int)) ∧ W'.cell? ⟨h + 1, 1, none⟩ = some (.int .u64 (K.a.toNat : Int)) ∧ W'.cell? ⟨h + 1, 2, none⟩ = some (.int .u64 (K.b.toNat : Int)) ∧ W'.cell? ⟨h + 1, 3, none⟩ = some (.int .u64 (K.c.toNat : Int)) ∧ W'.cell? ⟨h + 1, 4, none⟩ = some (.int .u64 (K.d.toNat : Int)) := fun W' hb => by
      have e0 := (hb.block h (by omega)).trans d0
      have e1 := (hb.block (h + 1) (by omega)).trans d1
      obtain ⟨_, g1, g2, g3, g4, _⟩ := node_cells e1
      exact ⟨by rw [cell_of_heap e0]; rfl, by rw [cell_of_heap e0]; rfl, g1, g2, g3, g4⟩
    have SBH := Lib.hid SB
    have HW := Lib.hid (And.intro hbW hWz)
    obtain ⟨c0, c2, c4, c5, c6, c7⟩ := SB W (Below.refl _ _)
    clear hW hbW hWz d0 d1 SB hh
    go_region_held3 (fun W' => W'.cell? ⟨h, 0, none⟩ = some (.int .i64 (r : Int)) ∧ W'.cell? ⟨h, 2, none⟩ = some (.int .i64 (p : Int)) ∧ W'.cell? ⟨h + 1, 1, none⟩ = some (.int .u64 (K.a.toNat : Int)) ∧ W'.cell? ⟨h + 1, 2, none⟩ = some (.int .u64 (K.b.toNat : Int)) ∧ W'.cell? ⟨h + 1, 3, none⟩ = some (.int .u64 (K.c.toNat : Int)) ∧ W'.cell? ⟨h + 1, 4, none⟩ = some (.int .u64 (K.d.toNat : Int)))
      (first | with_reducible exact SBH.out _ (Below.refl _ W).drew | with_reducible exact SBH.out _ hd2)
      (first | (go_at_call 78; refine (kh _).mono ?_; rintro e w2 ⟨rfl, hb2⟩; have hd2 : Below W.heap.size W w2 := ((Below.refl _ W).drew).trans hb2))
    all_goals
      have hd3 : Below W.heap.size W w2 := ((Below.refl _ W).drew).trans hb2
      obtain ⟨q0, q2, _, _, _, _⟩ := SBH.out _ hd3
      have HD := Lib.hid hd3
      clear hd3 hb2 c0 c2 c4 c5 c6 c7
      cases hs
      · have hL2 : L = [] := by rw [HL.out]; rfl
        subst hL2
        go_wp2
        refine bodyPost_ret (results_tmp rfl _ _ _) rfl ?_
        refine strow_none ?_
        exact HW.out.1.trans (HD.out.mono HW.out.1.size)
      · have hL2 : L = [(r, true, p + 1)] := by rw [HL.out]; rfl
        subst hL2
        go_wp2
        refine bodyPost_ret (results_tmp rfl _ _ _) rfl ?_
        refine strow_one ?_ ?_
        · simp
        · exact HW.out.1.trans (HD.out.mono HW.out.1.size)
  · have hin : inSet s.data.toList K p = false := by
      unfold inSet
      rw [List.getElem?_eq_none (by omega)]
    have hltI : decide ((p : Int) < (s.size : Int)) = false := decide_eq_false (by omega)
    have hL : L = [] := by rw [hL, hin]; rfl
    subst hL
    clear hin hz
    go_enter Try.func129, Try.ntmps129
    go_wp2_with fail
    go_region
    all_goals
      go_wp2
      refine bodyPost_ret (results_tmp rfl _ _ _) rfl ?_
      repeat refine StRow.drew ?_
      refine strow_none ?_
      exact (((HB.out.alloc (by simp) _).alloc (by simp) _).alloc (by simp <;> omega) _).alloc (by simp <;> omega) _
theorem witS_any (b o cap N r p : Nat) (n : Nd) (s : ByteArray) (w : World) (hr : r < N) (hN : N ≤ 2000) (hp : p ≤ 1000000) (hf : NdFit n N) (hb : b < w.heap.size) (hat : NdAt b (o + r * 7) n w) :
    Calls Try.prog 129 #[.slice (some ⟨b, o, none⟩) N cap, .string s, .agg #[.int .i64 (r : Int), .bool false, .int .i64 (p : Int)]] w fun e w' => StRow w (witS s.data.toList n r p) e w' := by
  obtain ⟨k, K, x, y⟩ := n
  obtain ⟨hk, X, Y, hx, hy, _⟩ := hf
  dsimp only at hk hx hy
  subst hx hy
  have hz : s.data.toList.length = s.size := Array.length_toList
  have plain := fun L hL => within_plain b o cap N r p X Y k K ((p : Int) == 0) ((p : Int) == (s.size : Int)) s w L hr hN hb hat rfl rfl hL
  have e0 : ((p : Int) == 0) = decide (p = 0) := by rw [Bool.eq_iff_iff]; simp
  have es : ((p : Int) == (s.size : Int)) = decide (p = s.data.toList.length) := by rw [hz, Bool.eq_iff_iff]; simp; omega
  rw [e0, es] at plain
  unfold witS
  dsimp only
  rcases hk with rfl | rfl | rfl | rfl | rfl | rfl | rfl | rfl | rfl
  · exact plain _ (.inl ⟨rfl, rfl⟩)
  · exact within_set b o cap N r p X Y K s w _ hr hN hp hb hat rfl
  · exact plain _ (.inr (.inl ⟨rfl, rfl⟩))
  · exact plain _ (.inr (.inr (.inr (.inl ⟨rfl, rfl⟩))))
  · exact plain _ (.inr (.inr (.inr (.inr (.inl ⟨rfl, rfl⟩)))))
  · exact plain _ (.inr (.inr (.inl ⟨rfl, rfl⟩)))
  · exact plain _ (.inr (.inr (.inr (.inr (.inr (.inl ⟨rfl, rfl⟩))))))
  · by_cases h : p = 0
    · exact plain _ (.inr (.inr (.inr (.inr (.inr (.inr (.inl ⟨rfl, decide_eq_true h, by simp [h]⟩)))))))
    · exact plain _ (.inr (.inr (.inr (.inr (.inr (.inr (.inr (.inl ⟨rfl, decide_eq_false h, by simp [h]⟩))))))))
  · by_cases h : p = s.data.toList.length
    · exact plain _ (.inr (.inr (.inr (.inr (.inr (.inr (.inr (.inr (.inl ⟨rfl, decide_eq_true h, (if_pos h : (if p = s.data.toList.length then [(r, true, p)] else []) = [(r, true, p)])⟩)))))))))
    · exact plain _ (.inr (.inr (.inr (.inr (.inr (.inr (.inr (.inr (.inr ⟨rfl, decide_eq_false h, (if_neg h : (if p = s.data.toList.length then [(r, true, p)] else []) = [])⟩)))))))))
end Go.Proofs.Ytgffmbdbjbhocaa
