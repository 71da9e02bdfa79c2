/- dec's reckonings as they are called. Conditions: the arguments are of 64 bits. -/
import Derived.Test.YtokfkckfclnoaaaDoorDecArith
import Derived.Deep.RegionHeld3
namespace Go.Proofs.YtokfkckfclnoaaaDoor
open Go.RowKit

theorem add1_any (p q : Nat) (a b : Int) (w : World) (ha : -9223372036854775808 ≤ a ∧ a ≤ 9223372036854775807) (hb : -9223372036854775808 ≤ b ∧ b ≤ 9223372036854775807)
    (hp : w.cell? ⟨p, 0, none⟩ = some (.int .i64 a)) (hq : w.cell? ⟨q, 0, none⟩ = some (.int .i64 b)) :
    Calls Tryd.prog 56 #[.pointer (some ⟨p, 0, none⟩), .pointer (some ⟨q, 0, none⟩)] w fun e w' => e = deedOf (a + b) ∧ Below w.heap.size w w' := by
  have k1 := fun w => sum_any a b w ha hb
  clear ha hb
  by_cases hin : -9223372036854775808 ≤ a + b ∧ a + b ≤ 9223372036854775807
  · rw [deedOf_in hin] at *
    clear hin
    go_enter Tryd.func56, Tryd.ntmps56
    go_wp2_with (go_at_call 57; refine (k1 _).mono ?_; rintro e w' ⟨rfl, rfl⟩)
    go_ret
    exact ⟨rfl, Below.refl _ _⟩
  · rw [deedOf_out hin] at *
    clear hin
    unfold overE at *
    go_enter Tryd.func56, Tryd.ntmps56
    go_wp2_with (go_at_call 57; refine (k1 _).mono ?_; rintro e w' ⟨rfl, rfl⟩)
    exact ⟨rfl, rfl, Below.refl _ _⟩
/-- Two variables that a reckoning captured stand as they were. -/
structure Two (p q : Nat) (a b : Int) (w0 w : World) : Prop where
  one : w.cell? ⟨p, 0, none⟩ = some (.int .i64 a)
  two : w.cell? ⟨q, 0, none⟩ = some (.int .i64 b)
  bel : Below w0.heap.size w0 w
theorem Two.drew {p q : Nat} {a b : Int} {w0 w : World} (h : Two p q a b w0 w) : Two p q a b w0 w.drew := ⟨h.one, h.two, h.bel.drew⟩
theorem cell_in {w : World} {p : Nat} {v : Value} (h : w.cell? ⟨p, 0, none⟩ = some v) : p < w.heap.size := by
  by_cases hl : p < w.heap.size
  · exact hl
  · exfalso
    simp [World.cell?, Array.getElem?_eq_none (Nat.le_of_not_lt hl)] at h
theorem Two.step {p q : Nat} {a b : Int} {w0 w w1 : World} (h : Two p q a b w0 w) (hb : Below w.heap.size w w1) : Two p q a b w0 w1 :=
  ⟨(hb.cell (cell_in h.one)).trans h.one, (hb.cell (cell_in h.two)).trans h.two, h.bel.trans (hb.mono h.bel.size)⟩

theorem Two.conj {p q : Nat} {a b : Int} {w0 w : World} (h : Two p q a b w0 w) : w.cell? ⟨p, 0, none⟩ = some (.int .i64 a) ∧ w.cell? ⟨q, 0, none⟩ = some (.int .i64 b) ∧ Below w0.heap.size w0 w := ⟨h.one, h.two, h.bel⟩
theorem tdiv_abs (x c : Int) (s : Bool) (hs : x ≠ 0 → s = (decide (x < 0) != decide (c < 0))) : sgn s (x.natAbs / c.natAbs) = x.tdiv c := by
  by_cases h0 : x = 0
  · subst h0
    simp [sgn]
  · rw [hs h0]
    by_cases h1 : x < 0 <;> by_cases h2 : c < 0
    · obtain ⟨m, rfl⟩ : ∃ m : Nat, x = -(m : Int) := ⟨x.natAbs, by omega⟩
      obtain ⟨n, rfl⟩ : ∃ n : Nat, c = -(n : Int) := ⟨c.natAbs, by omega⟩
      rw [Int.neg_tdiv, Int.tdiv_neg, Int.neg_neg, Int.tdiv_eq_ediv_of_nonneg (by omega)]
      simp [sgn]
      intro h; exfalso; omega
    · obtain ⟨m, rfl⟩ : ∃ m : Nat, x = -(m : Int) := ⟨x.natAbs, by omega⟩
      obtain ⟨n, rfl⟩ : ∃ n : Nat, c = (n : Int) := ⟨c.natAbs, by omega⟩
      rw [Int.neg_tdiv, Int.tdiv_eq_ediv_of_nonneg (by omega)]
      simp [sgn, h2]
      intro h; exfalso; omega
    · obtain ⟨m, rfl⟩ : ∃ m : Nat, x = (m : Int) := ⟨x.natAbs, by omega⟩
      obtain ⟨n, rfl⟩ : ∃ n : Nat, c = -(n : Int) := ⟨c.natAbs, by omega⟩
      rw [Int.tdiv_neg, Int.tdiv_eq_ediv_of_nonneg (by omega)]
      simp [sgn, h1]
      intro h; exfalso; omega
    · obtain ⟨m, rfl⟩ : ∃ m : Nat, x = (m : Int) := ⟨x.natAbs, by omega⟩
      obtain ⟨n, rfl⟩ : ∃ n : Nat, c = (n : Int) := ⟨c.natAbs, by omega⟩
      rw [Int.tdiv_eq_ediv_of_nonneg (by omega)]
      simp [sgn, h1, h2]
theorem mul_neg_sign (a b : Int) (h : a * b ≠ 0) : decide (a * b < 0) = (decide (a < 0) != decide (b < 0)) := by
  have ha : a ≠ 0 := fun e => h (by rw [e, Int.zero_mul])
  have hb : b ≠ 0 := fun e => h (by rw [e, Int.mul_zero])
  by_cases h1 : a < 0 <;> by_cases h2 : b < 0
  · have := Int.mul_pos_of_neg_of_neg h1 h2
    simp [h1, h2]; omega
  · have := Int.mul_neg_of_neg_of_pos h1 (show 0 < b by omega)
    simp [h1, h2, this]
  · have := Int.mul_neg_of_pos_of_neg (show 0 < a by omega) h2
    simp [h1, h2, this]
  · have := Int.mul_pos (show 0 < a by omega) (show 0 < b by omega)
    simp [h1, h2]; omega
theorem mul_value (a b : Int) : sgn (decide (a < 0) != decide (b < 0)) (a.natAbs * b.natAbs / 1000000) = (a * b).tdiv 1000000 := by
  have := tdiv_abs (a * b) 1000000 (decide (a < 0) != decide (b < 0)) (fun h => by rw [mul_neg_sign a b h]; simp)
  rw [Int.natAbs_mul] at this
  exact this
theorem div_value (a b : Int) : sgn (decide (a < 0) != decide (b < 0)) (a.natAbs * 1000000 / b.natAbs) = (a * 1000000).tdiv b := by
  have := tdiv_abs (a * 1000000) b (decide (a < 0) != decide (b < 0)) (fun h => by
    congr 2
    exact propext (by omega))
  rw [Int.natAbs_mul] at this
  exact this
theorem whole_value (a : Int) : sgn (decide (a < 0)) (a.natAbs * 1000000 / 1) = a * 1000000 := by
  rw [Nat.div_one]
  by_cases h : a < 0
  · simp [sgn, h]; omega
  · simp [sgn, h]; omega
theorem far_out (s : Bool) (p c : Nat) (hc : 0 < c) (h : ¬ p / 18446744073709551616 < c) : ¬ (-9223372036854775808 ≤ sgn s (p / c) ∧ sgn s (p / c) ≤ 9223372036854775807) := by
  have h1 : c ≤ p / 18446744073709551616 := by omega
  rw [Nat.le_div_iff_mul_le (by decide)] at h1
  have h2 : 18446744073709551616 ≤ p / c := by rw [Nat.le_div_iff_mul_le hc, Nat.mul_comm]; exact h1
  cases s
  · have : sgn false (p / c) = ((p / c : Nat) : Int) := rfl
    omega
  · have : sgn true (p / c) = -((p / c : Nat) : Int) := rfl
    omega

set_option maxHeartbeats 1000000 in
theorem mul1_any (p q : Nat) (a b : Int) (w : World) (ha : -9223372036854775808 ≤ a ∧ a ≤ 9223372036854775807) (hb : -9223372036854775808 ≤ b ∧ b ≤ 9223372036854775807)
    (hp : w.cell? ⟨p, 0, none⟩ = some (.int .i64 a)) (hq : w.cell? ⟨q, 0, none⟩ = some (.int .i64 b)) :
    Calls Tryd.prog 63 #[.pointer (some ⟨p, 0, none⟩), .pointer (some ⟨q, 0, none⟩)] w fun e w' => e = deedOf ((a * b).tdiv 1000000) ∧ Below w.heap.size w w' := by
  have k1 := fun w => magn_any a w ha
  have k2 := fun w => magn_any b w hb
  have k3 := fun w => magn_any 1000000 w (by omega)
  have k4 := fun w => scaled_any (a.natAbs) (b.natAbs) (1000000) w (by omega) (by omega) (by omega)
  have HS : Two p q a b w w := ⟨hp, hq, Below.refl _ _⟩
  rw [show (((1000000 : Int).natAbs : Nat) : Int) = 1000000 from rfl] at k3
  rw [← mul_value]
  have hfar := far_out (decide (a < 0) != decide (b < 0)) ((a.natAbs) * (b.natAbs)) (1000000) (by omega)
  by_cases hin : (a.natAbs) * (b.natAbs) / 18446744073709551616 < (1000000)
  · have hE : scaledE (a.natAbs) (b.natAbs) (1000000) = .returned (.int .u64 ((((a.natAbs) * (b.natAbs)) / (1000000) : Nat) : Int)) := if_pos hin
    rw [hE] at k4
    clear hE hfar
    have hz : (a.natAbs) * (b.natAbs) / (1000000) < 18446744073709551616 := by
      rcases Nat.eq_zero_or_pos (1000000) with hc | hc
      · rw [hc, Nat.div_zero]; decide
      · rw [Nat.div_lt_iff_lt_mul hc]
        rw [Nat.div_lt_iff_lt_mul (by decide)] at hin
        rw [Nat.mul_comm] at hin ⊢
        omega
    generalize (a.natAbs) * (b.natAbs) / (1000000) = z at k4 hz ⊢
    rw [show ((1000000 : Nat) : Int) = 1000000 from rfl] at k4
    generalize a.natAbs = a' at k1 k4
    generalize b.natAbs = b' at k2 k4
    obtain ⟨s, hs⟩ : ∃ s, s = (decide (a < 0) != decide (b < 0)) := ⟨_, rfl⟩
    rw [← hs]
    have hs2 := hs.symm
    have hs3 : (!decide (a < 0) == decide (b < 0)) = s := hs.symm
    have HSS := Lib.hid hs
    clear hs
    have k5 := fun w => signed_any z s w hz
    clear ha hb hin
    by_cases hin : -9223372036854775808 ≤ sgn s z ∧ sgn s z ≤ 9223372036854775807
    · rw [deedOf_in hin] at *
      generalize sgn s z = r at *
      go_enter Tryd.func63, Tryd.ntmps63
      go_wp2_with fail
      refine wp_region_held_drew (S := (fun w' => w'.cell? ⟨p, 0, none⟩ = some (.int .i64 a) ∧ w'.cell? ⟨q, 0, none⟩ = some (.int .i64 b) ∧ Below w.heap.size w w')) (by kernel_rfl) HS.drew.conj (fun hHeld => ?_)
      refine wpAnyH_take (i := 0) (v := .int .i64 a) rfl (by kernel_rfl) (by kernel_rfl) (by kernel_rfl) (fun _ _ _ h => h) (Or.inl ⟨by rfl, by intro w hSw; obtain ⟨c1, c2, c3⟩ := hSw; first | (go_simp; done) | (go_simp; with_reducible rfl)⟩) hHeld ?_
      try simp only [Act.put, List.setIfInBounds_toArray]
      refine wpAnyH_take (i := 2) (v := .int .i64 b) rfl (by kernel_rfl) (by kernel_rfl) (by kernel_rfl) (fun _ _ _ h => h) (Or.inl ⟨by rfl, by intro w hSw; obtain ⟨c1, c2, c3⟩ := hSw; first | (go_simp; done) | (go_simp; with_reducible rfl)⟩) hHeld ?_
      try simp only [Act.put]
      refine wpAnyH_take (i := 6) (v := .int .i64 a) rfl (by kernel_rfl) (by kernel_rfl) (by kernel_rfl) (fun _ _ _ h => h) (Or.inl ⟨by rfl, by intro w hSw; obtain ⟨c1, c2, c3⟩ := hSw; first | (go_simp; done) | (go_simp; with_reducible rfl)⟩) hHeld ?_
      try simp only [Act.put]
      refine wpAnyH_take (i := 8) (v := .int .i64 b) rfl (by kernel_rfl) (by kernel_rfl) (by kernel_rfl) (fun _ _ _ h => h) (Or.inl ⟨by rfl, by intro w hSw; obtain ⟨c1, c2, c3⟩ := hSw; first | (go_simp; done) | (go_simp; with_reducible rfl)⟩) hHeld ?_
      try simp only [Act.put]
      refine wpAnyH_take (i := 7) (v := .bool (decide (a < 0))) rfl (by kernel_rfl) (by kernel_rfl) (by kernel_rfl) (fun _ _ _ h => h) (Or.inl ⟨by rfl, by intro w hSw; obtain ⟨c1, c2, c3⟩ := hSw; first | (go_simp; done) | (go_simp; with_reducible rfl)⟩) hHeld ?_
      try simp only [Act.put]
      refine wpAnyH_take (i := 9) (v := .bool (decide (b < 0))) rfl (by kernel_rfl) (by kernel_rfl) (by kernel_rfl) (fun _ _ _ h => h) (Or.inl ⟨by rfl, by intro w hSw; obtain ⟨c1, c2, c3⟩ := hSw; first | (go_simp; done) | (go_simp; with_reducible rfl)⟩) hHeld ?_
      try simp only [Act.put]
      refine wpAnyH_take (i := 10) (v := .bool s) rfl (by kernel_rfl) (by kernel_rfl) (by kernel_rfl) (fun _ _ _ h => h) (Or.inl ⟨by rfl, by intro w hSw; obtain ⟨c1, c2, c3⟩ := hSw; first | (go_simp; done) | (go_simp; with_reducible rfl)⟩) hHeld ?_
      try simp only [Act.put]
      refine wpAnyH_ready (rs := [1]) (by kernel_rfl) (by simp) ?_
      refine AllReadyH.cons rfl (fun K hK => ?_) AllReadyH.nil
      go_simp
      refine (k1 _).mono ?_
      rintro e w1 ⟨rfl, rfl⟩
      refine hK.out _ _ HS.drew.conj (fun hHeld => ?_)
      clear hK K
      try simp only [Act.put, List.setIfInBounds_toArray, List.set_cons_zero, List.set_cons_succ]
      refine wpAnyH_ready (rs := [3]) (by kernel_rfl) (by simp) ?_
      refine AllReadyH.cons rfl (fun K hK => ?_) AllReadyH.nil
      go_simp
      refine (k2 _).mono ?_
      rintro e w1 ⟨rfl, rfl⟩
      refine hK.out _ _ HS.drew.conj (fun hHeld => ?_)
      clear hK K
      try simp only [Act.put, List.setIfInBounds_toArray, List.set_cons_zero, List.set_cons_succ]
      refine wpAnyH_ready (rs := [4]) (by kernel_rfl) (by simp) ?_
      refine AllReadyH.cons rfl (fun K hK => ?_) AllReadyH.nil
      go_simp
      refine (k3 _).mono ?_
      rintro e w1 ⟨rfl, rfl⟩
      refine hK.out _ _ HS.drew.conj (fun hHeld => ?_)
      clear hK K
      try simp only [Act.put, List.setIfInBounds_toArray, List.set_cons_zero, List.set_cons_succ]
      refine wpAnyH_ready (rs := [5]) (by kernel_rfl) (by simp) ?_
      refine AllReadyH.cons rfl (fun K hK => ?_) AllReadyH.nil
      go_simp
      refine (k4 _).mono ?_
      rintro e w1 ⟨rfl, hb1⟩
      refine hK.out _ _ (HS.drew.step hb1).conj (fun hHeld => ?_)
      clear hK K
      try simp only [Act.put, List.setIfInBounds_toArray, List.set_cons_zero, List.set_cons_succ]
      refine wpAnyH_ready (rs := [11]) (by kernel_rfl) (by simp) ?_
      refine AllReadyH.cons rfl (fun K hK => ?_) AllReadyH.nil
      go_simp
      refine (k5 _).mono ?_
      rintro e w1 ⟨rfl, rfl⟩
      refine hK.out _ _ (HS.drew.step hb1).conj (fun hHeld => ?_)
      clear hK K
      try simp only [Act.put, List.setIfInBounds_toArray, List.set_cons_zero, List.set_cons_succ]
      refine wpAnyH_ready (rs := [12]) (by kernel_rfl) (by simp) ?_
      refine AllReadyH.cons rfl (fun K hK => ?_) AllReadyH.nil
      go_simp
      refine hK.out _ _ (HS.drew.step hb1).conj (fun hHeld => ?_)
      clear hK K
      refine wpAnyH_done (by kernel_rfl) ?_ _
      all_goals
        go_wp2
        go_ret
        exact ⟨rfl, (HS.drew.step hb1).bel⟩
    · rw [deedOf_out hin] at *
      unfold overE at *
      clear hin
      go_enter Tryd.func63, Tryd.ntmps63
      go_wp2_with fail
      refine wp_region_held_drew (S := (fun w' => w'.cell? ⟨p, 0, none⟩ = some (.int .i64 a) ∧ w'.cell? ⟨q, 0, none⟩ = some (.int .i64 b) ∧ Below w.heap.size w w')) (by kernel_rfl) HS.drew.conj (fun hHeld => ?_)
      refine wpAnyH_take (i := 0) (v := .int .i64 a) rfl (by kernel_rfl) (by kernel_rfl) (by kernel_rfl) (fun _ _ _ h => h) (Or.inl ⟨by rfl, by intro w hSw; obtain ⟨c1, c2, c3⟩ := hSw; first | (go_simp; done) | (go_simp; with_reducible rfl)⟩) hHeld ?_
      try simp only [Act.put, List.setIfInBounds_toArray]
      refine wpAnyH_take (i := 2) (v := .int .i64 b) rfl (by kernel_rfl) (by kernel_rfl) (by kernel_rfl) (fun _ _ _ h => h) (Or.inl ⟨by rfl, by intro w hSw; obtain ⟨c1, c2, c3⟩ := hSw; first | (go_simp; done) | (go_simp; with_reducible rfl)⟩) hHeld ?_
      try simp only [Act.put]
      refine wpAnyH_take (i := 6) (v := .int .i64 a) rfl (by kernel_rfl) (by kernel_rfl) (by kernel_rfl) (fun _ _ _ h => h) (Or.inl ⟨by rfl, by intro w hSw; obtain ⟨c1, c2, c3⟩ := hSw; first | (go_simp; done) | (go_simp; with_reducible rfl)⟩) hHeld ?_
      try simp only [Act.put]
      refine wpAnyH_take (i := 8) (v := .int .i64 b) rfl (by kernel_rfl) (by kernel_rfl) (by kernel_rfl) (fun _ _ _ h => h) (Or.inl ⟨by rfl, by intro w hSw; obtain ⟨c1, c2, c3⟩ := hSw; first | (go_simp; done) | (go_simp; with_reducible rfl)⟩) hHeld ?_
      try simp only [Act.put]
      refine wpAnyH_take (i := 7) (v := .bool (decide (a < 0))) rfl (by kernel_rfl) (by kernel_rfl) (by kernel_rfl) (fun _ _ _ h => h) (Or.inl ⟨by rfl, by intro w hSw; obtain ⟨c1, c2, c3⟩ := hSw; first | (go_simp; done) | (go_simp; with_reducible rfl)⟩) hHeld ?_
      try simp only [Act.put]
      refine wpAnyH_take (i := 9) (v := .bool (decide (b < 0))) rfl (by kernel_rfl) (by kernel_rfl) (by kernel_rfl) (fun _ _ _ h => h) (Or.inl ⟨by rfl, by intro w hSw; obtain ⟨c1, c2, c3⟩ := hSw; first | (go_simp; done) | (go_simp; with_reducible rfl)⟩) hHeld ?_
      try simp only [Act.put]
      refine wpAnyH_take (i := 10) (v := .bool s) rfl (by kernel_rfl) (by kernel_rfl) (by kernel_rfl) (fun _ _ _ h => h) (Or.inl ⟨by rfl, by intro w hSw; obtain ⟨c1, c2, c3⟩ := hSw; first | (go_simp; done) | (go_simp; with_reducible rfl)⟩) hHeld ?_
      try simp only [Act.put]
      refine wpAnyH_ready (rs := [1]) (by kernel_rfl) (by simp) ?_
      refine AllReadyH.cons rfl (fun K hK => ?_) AllReadyH.nil
      go_simp
      refine (k1 _).mono ?_
      rintro e w1 ⟨rfl, rfl⟩
      refine hK.out _ _ HS.drew.conj (fun hHeld => ?_)
      clear hK K
      try simp only [Act.put, List.setIfInBounds_toArray, List.set_cons_zero, List.set_cons_succ]
      refine wpAnyH_ready (rs := [3]) (by kernel_rfl) (by simp) ?_
      refine AllReadyH.cons rfl (fun K hK => ?_) AllReadyH.nil
      go_simp
      refine (k2 _).mono ?_
      rintro e w1 ⟨rfl, rfl⟩
      refine hK.out _ _ HS.drew.conj (fun hHeld => ?_)
      clear hK K
      try simp only [Act.put, List.setIfInBounds_toArray, List.set_cons_zero, List.set_cons_succ]
      refine wpAnyH_ready (rs := [4]) (by kernel_rfl) (by simp) ?_
      refine AllReadyH.cons rfl (fun K hK => ?_) AllReadyH.nil
      go_simp
      refine (k3 _).mono ?_
      rintro e w1 ⟨rfl, rfl⟩
      refine hK.out _ _ HS.drew.conj (fun hHeld => ?_)
      clear hK K
      try simp only [Act.put, List.setIfInBounds_toArray, List.set_cons_zero, List.set_cons_succ]
      refine wpAnyH_ready (rs := [5]) (by kernel_rfl) (by simp) ?_
      refine AllReadyH.cons rfl (fun K hK => ?_) AllReadyH.nil
      go_simp
      refine (k4 _).mono ?_
      rintro e w1 ⟨rfl, hb1⟩
      refine hK.out _ _ (HS.drew.step hb1).conj (fun hHeld => ?_)
      clear hK K
      try simp only [Act.put, List.setIfInBounds_toArray, List.set_cons_zero, List.set_cons_succ]
      refine wpAnyH_ready (rs := [11]) (by kernel_rfl) (by simp) ?_
      refine AllReadyH.cons rfl (fun K hK => ?_) AllReadyH.nil
      go_simp
      refine (k5 _).mono ?_
      rintro e w1 ⟨rfl, rfl⟩
      exact ⟨rfl, rfl, (HS.drew.step hb1).bel⟩
  · rw [deedOf_out (hfar hin)]
    have hE : scaledE (a.natAbs) (b.natAbs) (1000000) = overE := if_neg hin
    rw [hE, show ((1000000 : Nat) : Int) = 1000000 from rfl] at k4
    unfold overE at *
    clear hE hfar hin ha hb
    obtain ⟨s, hs⟩ : ∃ s, s = (decide (a < 0) != decide (b < 0)) := ⟨_, rfl⟩
    have hs2 := hs.symm
    have hs3 : (!decide (a < 0) == decide (b < 0)) = s := hs.symm
    clear hs
    generalize a.natAbs = a' at k1 k4
    generalize b.natAbs = b' at k2 k4
    go_enter Tryd.func63, Tryd.ntmps63
    go_wp2_with fail
    refine wp_region_held_drew (S := (fun w' => w'.cell? ⟨p, 0, none⟩ = some (.int .i64 a) ∧ w'.cell? ⟨q, 0, none⟩ = some (.int .i64 b) ∧ Below w.heap.size w w')) (by kernel_rfl) HS.drew.conj (fun hHeld => ?_)
    refine wpAnyH_take (i := 0) (v := .int .i64 a) rfl (by kernel_rfl) (by kernel_rfl) (by kernel_rfl) (fun _ _ _ h => h) (Or.inl ⟨by rfl, by intro w hSw; obtain ⟨c1, c2, c3⟩ := hSw; first | (go_simp; done) | (go_simp; with_reducible rfl)⟩) hHeld ?_
    try simp only [Act.put, List.setIfInBounds_toArray]
    refine wpAnyH_take (i := 2) (v := .int .i64 b) rfl (by kernel_rfl) (by kernel_rfl) (by kernel_rfl) (fun _ _ _ h => h) (Or.inl ⟨by rfl, by intro w hSw; obtain ⟨c1, c2, c3⟩ := hSw; first | (go_simp; done) | (go_simp; with_reducible rfl)⟩) hHeld ?_
    try simp only [Act.put]
    refine wpAnyH_take (i := 6) (v := .int .i64 a) rfl (by kernel_rfl) (by kernel_rfl) (by kernel_rfl) (fun _ _ _ h => h) (Or.inl ⟨by rfl, by intro w hSw; obtain ⟨c1, c2, c3⟩ := hSw; first | (go_simp; done) | (go_simp; with_reducible rfl)⟩) hHeld ?_
    try simp only [Act.put]
    refine wpAnyH_take (i := 8) (v := .int .i64 b) rfl (by kernel_rfl) (by kernel_rfl) (by kernel_rfl) (fun _ _ _ h => h) (Or.inl ⟨by rfl, by intro w hSw; obtain ⟨c1, c2, c3⟩ := hSw; first | (go_simp; done) | (go_simp; with_reducible rfl)⟩) hHeld ?_
    try simp only [Act.put]
    refine wpAnyH_take (i := 7) (v := .bool (decide (a < 0))) rfl (by kernel_rfl) (by kernel_rfl) (by kernel_rfl) (fun _ _ _ h => h) (Or.inl ⟨by rfl, by intro w hSw; obtain ⟨c1, c2, c3⟩ := hSw; first | (go_simp; done) | (go_simp; with_reducible rfl)⟩) hHeld ?_
    try simp only [Act.put]
    refine wpAnyH_take (i := 9) (v := .bool (decide (b < 0))) rfl (by kernel_rfl) (by kernel_rfl) (by kernel_rfl) (fun _ _ _ h => h) (Or.inl ⟨by rfl, by intro w hSw; obtain ⟨c1, c2, c3⟩ := hSw; first | (go_simp; done) | (go_simp; with_reducible rfl)⟩) hHeld ?_
    try simp only [Act.put]
    refine wpAnyH_take (i := 10) (v := .bool s) rfl (by kernel_rfl) (by kernel_rfl) (by kernel_rfl) (fun _ _ _ h => h) (Or.inl ⟨by rfl, by intro w hSw; obtain ⟨c1, c2, c3⟩ := hSw; first | (go_simp; done) | (go_simp; with_reducible rfl)⟩) hHeld ?_
    try simp only [Act.put]
    refine wpAnyH_ready (rs := [1]) (by kernel_rfl) (by simp) ?_
    refine AllReadyH.cons rfl (fun K hK => ?_) AllReadyH.nil
    go_simp
    refine (k1 _).mono ?_
    rintro e w1 ⟨rfl, rfl⟩
    refine hK.out _ _ HS.drew.conj (fun hHeld => ?_)
    clear hK K
    try simp only [Act.put, List.setIfInBounds_toArray, List.set_cons_zero, List.set_cons_succ]
    refine wpAnyH_ready (rs := [3]) (by kernel_rfl) (by simp) ?_
    refine AllReadyH.cons rfl (fun K hK => ?_) AllReadyH.nil
    go_simp
    refine (k2 _).mono ?_
    rintro e w1 ⟨rfl, rfl⟩
    refine hK.out _ _ HS.drew.conj (fun hHeld => ?_)
    clear hK K
    try simp only [Act.put, List.setIfInBounds_toArray, List.set_cons_zero, List.set_cons_succ]
    refine wpAnyH_ready (rs := [4]) (by kernel_rfl) (by simp) ?_
    refine AllReadyH.cons rfl (fun K hK => ?_) AllReadyH.nil
    go_simp
    refine (k3 _).mono ?_
    rintro e w1 ⟨rfl, rfl⟩
    refine hK.out _ _ HS.drew.conj (fun hHeld => ?_)
    clear hK K
    try simp only [Act.put, List.setIfInBounds_toArray, List.set_cons_zero, List.set_cons_succ]
    refine wpAnyH_ready (rs := [5]) (by kernel_rfl) (by simp) ?_
    refine AllReadyH.cons rfl (fun K hK => ?_) AllReadyH.nil
    go_simp
    refine (k4 _).mono ?_
    rintro e w1 ⟨rfl, hb1⟩
    exact ⟨rfl, rfl, (HS.drew.step hb1).bel⟩
end Go.Proofs.YtokfkckfclnoaaaDoor
