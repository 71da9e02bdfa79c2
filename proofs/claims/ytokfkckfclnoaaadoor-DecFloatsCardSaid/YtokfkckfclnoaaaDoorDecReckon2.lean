/- dec's quotients and whole numbers, as their reckonings. Conditions: the arguments are of 64 bits; the divisor is not 0. -/
import Derived.Test.YtokfkckfclnoaaaDoorDecReckon
namespace Go.Proofs.YtokfkckfclnoaaaDoor
open Go.RowKit

set_option maxHeartbeats 1000000 in
theorem div1_any (p q : Nat) (a b : Int) (w : World) (ha : -9223372036854775808 ≤ a ∧ a ≤ 9223372036854775807) (hb : -9223372036854775808 ≤ b ∧ b ≤ 9223372036854775807) (hb0 : b ≠ 0)
    (hp : w.cell? ⟨p, 0, none⟩ = some (.int .i64 a)) (hq : w.cell? ⟨q, 0, none⟩ = some (.int .i64 b)) :
    Calls Tryd.prog 70 #[.pointer (some ⟨p, 0, none⟩), .pointer (some ⟨q, 0, none⟩)] w fun e w' => e = deedOf ((a * 1000000).tdiv b) ∧ Below w.heap.size w w' := by
  have k1 := fun w => magn_any a w ha
  have k2 := fun w => magn_any b w hb
  have k3 := fun w => magn_any 1000000 w (by omega)
  have k4 := fun w => scaled_any (a.natAbs) (1000000) (b.natAbs) w (by omega) (by omega) (by omega)
  have HS : Two p q a b w w := ⟨hp, hq, Below.refl _ _⟩
  rw [show (((1000000 : Int).natAbs : Nat) : Int) = 1000000 from rfl] at k3
  rw [← div_value]
  have hfar := far_out (decide (a < 0) != decide (b < 0)) ((a.natAbs) * (1000000)) (b.natAbs) (by omega)
  by_cases hin : (a.natAbs) * (1000000) / 18446744073709551616 < (b.natAbs)
  · have hE : scaledE (a.natAbs) (1000000) (b.natAbs) = .returned (.int .u64 ((((a.natAbs) * (1000000)) / (b.natAbs) : Nat) : Int)) := if_pos hin
    rw [hE] at k4
    clear hE hfar
    have hz : (a.natAbs) * (1000000) / (b.natAbs) < 18446744073709551616 := by
      rcases Nat.eq_zero_or_pos (b.natAbs) with hc | hc
      · rw [hc, Nat.div_zero]; decide
      · rw [Nat.div_lt_iff_lt_mul hc]
        rw [Nat.div_lt_iff_lt_mul (by decide)] at hin
        rw [Nat.mul_comm] at hin ⊢
        omega
    generalize (a.natAbs) * (1000000) / (b.natAbs) = z at k4 hz ⊢
    rw [show ((1000000 : Nat) : Int) = 1000000 from rfl] at k4
    generalize a.natAbs = a' at k1 k4
    generalize b.natAbs = b' at k2 k4
    obtain ⟨s, hs⟩ : ∃ s, s = (decide (a < 0) != decide (b < 0)) := ⟨_, rfl⟩
    rw [← hs]
    have hs2 := hs.symm
    have hs3 : (!decide (a < 0) == decide (b < 0)) = s := hs.symm
    have HSS := Lib.hid hs
    clear hs
    have k5 := fun w => signed_any z s w hz
    clear ha hb hin
    by_cases hin : -9223372036854775808 ≤ sgn s z ∧ sgn s z ≤ 9223372036854775807
    · rw [deedOf_in hin] at *
      generalize sgn s z = r at *
      go_enter Tryd.func70, Tryd.ntmps70
      go_wp2_with fail
      refine wp_region_held_drew (S := (fun w' => w'.cell? ⟨p, 0, none⟩ = some (.int .i64 a) ∧ w'.cell? ⟨q, 0, none⟩ = some (.int .i64 b) ∧ Below w.heap.size w w')) (by kernel_rfl) HS.drew.conj (fun hHeld => ?_)
      refine wpAnyH_take (i := 0) (v := .int .i64 a) rfl (by kernel_rfl) (by kernel_rfl) (by kernel_rfl) (fun _ _ _ h => h) (Or.inl ⟨by rfl, by intro w hSw; obtain ⟨c1, c2, c3⟩ := hSw; first | (go_simp; done) | (go_simp; with_reducible rfl)⟩) hHeld ?_
      try simp only [Act.put, List.setIfInBounds_toArray]
      refine wpAnyH_take (i := 3) (v := .int .i64 b) rfl (by kernel_rfl) (by kernel_rfl) (by kernel_rfl) (fun _ _ _ h => h) (Or.inl ⟨by rfl, by intro w hSw; obtain ⟨c1, c2, c3⟩ := hSw; first | (go_simp; done) | (go_simp; with_reducible rfl)⟩) hHeld ?_
      try simp only [Act.put]
      refine wpAnyH_take (i := 6) (v := .int .i64 a) rfl (by kernel_rfl) (by kernel_rfl) (by kernel_rfl) (fun _ _ _ h => h) (Or.inl ⟨by rfl, by intro w hSw; obtain ⟨c1, c2, c3⟩ := hSw; first | (go_simp; done) | (go_simp; with_reducible rfl)⟩) hHeld ?_
      try simp only [Act.put]
      refine wpAnyH_take (i := 8) (v := .int .i64 b) rfl (by kernel_rfl) (by kernel_rfl) (by kernel_rfl) (fun _ _ _ h => h) (Or.inl ⟨by rfl, by intro w hSw; obtain ⟨c1, c2, c3⟩ := hSw; first | (go_simp; done) | (go_simp; with_reducible rfl)⟩) hHeld ?_
      try simp only [Act.put]
      refine wpAnyH_take (i := 7) (v := .bool (decide (a < 0))) rfl (by kernel_rfl) (by kernel_rfl) (by kernel_rfl) (fun _ _ _ h => h) (Or.inl ⟨by rfl, by intro w hSw; obtain ⟨c1, c2, c3⟩ := hSw; first | (go_simp; done) | (go_simp; with_reducible rfl)⟩) hHeld ?_
      try simp only [Act.put]
      refine wpAnyH_take (i := 9) (v := .bool (decide (b < 0))) rfl (by kernel_rfl) (by kernel_rfl) (by kernel_rfl) (fun _ _ _ h => h) (Or.inl ⟨by rfl, by intro w hSw; obtain ⟨c1, c2, c3⟩ := hSw; first | (go_simp; done) | (go_simp; with_reducible rfl)⟩) hHeld ?_
      try simp only [Act.put]
      refine wpAnyH_take (i := 10) (v := .bool s) rfl (by kernel_rfl) (by kernel_rfl) (by kernel_rfl) (fun _ _ _ h => h) (Or.inl ⟨by rfl, by intro w hSw; obtain ⟨c1, c2, c3⟩ := hSw; first | (go_simp; done) | (go_simp; with_reducible rfl)⟩) hHeld ?_
      try simp only [Act.put]
      refine wpAnyH_ready (rs := [1]) (by kernel_rfl) (by simp) ?_
      refine AllReadyH.cons rfl (fun K hK => ?_) AllReadyH.nil
      go_simp
      refine (k1 _).mono ?_
      rintro e w1 ⟨rfl, rfl⟩
      refine hK.out _ _ HS.drew.conj (fun hHeld => ?_)
      clear hK K
      try simp only [Act.put, List.setIfInBounds_toArray, List.set_cons_zero, List.set_cons_succ]
      refine wpAnyH_ready (rs := [2]) (by kernel_rfl) (by simp) ?_
      refine AllReadyH.cons rfl (fun K hK => ?_) AllReadyH.nil
      go_simp
      refine (k3 _).mono ?_
      rintro e w1 ⟨rfl, rfl⟩
      refine hK.out _ _ HS.drew.conj (fun hHeld => ?_)
      clear hK K
      try simp only [Act.put, List.setIfInBounds_toArray, List.set_cons_zero, List.set_cons_succ]
      refine wpAnyH_ready (rs := [4]) (by kernel_rfl) (by simp) ?_
      refine AllReadyH.cons rfl (fun K hK => ?_) AllReadyH.nil
      go_simp
      refine (k2 _).mono ?_
      rintro e w1 ⟨rfl, rfl⟩
      refine hK.out _ _ HS.drew.conj (fun hHeld => ?_)
      clear hK K
      try simp only [Act.put, List.setIfInBounds_toArray, List.set_cons_zero, List.set_cons_succ]
      refine wpAnyH_ready (rs := [5]) (by kernel_rfl) (by simp) ?_
      refine AllReadyH.cons rfl (fun K hK => ?_) AllReadyH.nil
      go_simp
      refine (k4 _).mono ?_
      rintro e w1 ⟨rfl, hb1⟩
      refine hK.out _ _ (HS.drew.step hb1).conj (fun hHeld => ?_)
      clear hK K
      try simp only [Act.put, List.setIfInBounds_toArray, List.set_cons_zero, List.set_cons_succ]
      refine wpAnyH_ready (rs := [11]) (by kernel_rfl) (by simp) ?_
      refine AllReadyH.cons rfl (fun K hK => ?_) AllReadyH.nil
      go_simp
      refine (k5 _).mono ?_
      rintro e w1 ⟨rfl, rfl⟩
      refine hK.out _ _ (HS.drew.step hb1).conj (fun hHeld => ?_)
      clear hK K
      try simp only [Act.put, List.setIfInBounds_toArray, List.set_cons_zero, List.set_cons_succ]
      refine wpAnyH_ready (rs := [12]) (by kernel_rfl) (by simp) ?_
      refine AllReadyH.cons rfl (fun K hK => ?_) AllReadyH.nil
      go_simp
      refine hK.out _ _ (HS.drew.step hb1).conj (fun hHeld => ?_)
      clear hK K
      refine wpAnyH_done (by kernel_rfl) ?_ _
      all_goals
        go_wp2
        go_ret
        exact ⟨rfl, (HS.drew.step hb1).bel⟩
    · rw [deedOf_out hin] at *
      unfold overE at *
      clear hin
      go_enter Tryd.func70, Tryd.ntmps70
      go_wp2_with fail
      refine wp_region_held_drew (S := (fun w' => w'.cell? ⟨p, 0, none⟩ = some (.int .i64 a) ∧ w'.cell? ⟨q, 0, none⟩ = some (.int .i64 b) ∧ Below w.heap.size w w')) (by kernel_rfl) HS.drew.conj (fun hHeld => ?_)
      refine wpAnyH_take (i := 0) (v := .int .i64 a) rfl (by kernel_rfl) (by kernel_rfl) (by kernel_rfl) (fun _ _ _ h => h) (Or.inl ⟨by rfl, by intro w hSw; obtain ⟨c1, c2, c3⟩ := hSw; first | (go_simp; done) | (go_simp; with_reducible rfl)⟩) hHeld ?_
      try simp only [Act.put, List.setIfInBounds_toArray]
      refine wpAnyH_take (i := 3) (v := .int .i64 b) rfl (by kernel_rfl) (by kernel_rfl) (by kernel_rfl) (fun _ _ _ h => h) (Or.inl ⟨by rfl, by intro w hSw; obtain ⟨c1, c2, c3⟩ := hSw; first | (go_simp; done) | (go_simp; with_reducible rfl)⟩) hHeld ?_
      try simp only [Act.put]
      refine wpAnyH_take (i := 6) (v := .int .i64 a) rfl (by kernel_rfl) (by kernel_rfl) (by kernel_rfl) (fun _ _ _ h => h) (Or.inl ⟨by rfl, by intro w hSw; obtain ⟨c1, c2, c3⟩ := hSw; first | (go_simp; done) | (go_simp; with_reducible rfl)⟩) hHeld ?_
      try simp only [Act.put]
      refine wpAnyH_take (i := 8) (v := .int .i64 b) rfl (by kernel_rfl) (by kernel_rfl) (by kernel_rfl) (fun _ _ _ h => h) (Or.inl ⟨by rfl, by intro w hSw; obtain ⟨c1, c2, c3⟩ := hSw; first | (go_simp; done) | (go_simp; with_reducible rfl)⟩) hHeld ?_
      try simp only [Act.put]
      refine wpAnyH_take (i := 7) (v := .bool (decide (a < 0))) rfl (by kernel_rfl) (by kernel_rfl) (by kernel_rfl) (fun _ _ _ h => h) (Or.inl ⟨by rfl, by intro w hSw; obtain ⟨c1, c2, c3⟩ := hSw; first | (go_simp; done) | (go_simp; with_reducible rfl)⟩) hHeld ?_
      try simp only [Act.put]
      refine wpAnyH_take (i := 9) (v := .bool (decide (b < 0))) rfl (by kernel_rfl) (by kernel_rfl) (by kernel_rfl) (fun _ _ _ h => h) (Or.inl ⟨by rfl, by intro w hSw; obtain ⟨c1, c2, c3⟩ := hSw; first | (go_simp; done) | (go_simp; with_reducible rfl)⟩) hHeld ?_
      try simp only [Act.put]
      refine wpAnyH_take (i := 10) (v := .bool s) rfl (by kernel_rfl) (by kernel_rfl) (by kernel_rfl) (fun _ _ _ h => h) (Or.inl ⟨by rfl, by intro w hSw; obtain ⟨c1, c2, c3⟩ := hSw; first | (go_simp; done) | (go_simp; with_reducible rfl)⟩) hHeld ?_
      try simp only [Act.put]
      refine wpAnyH_ready (rs := [1]) (by kernel_rfl) (by simp) ?_
      refine AllReadyH.cons rfl (fun K hK => ?_) AllReadyH.nil
      go_simp
      refine (k1 _).mono ?_
      rintro e w1 ⟨rfl, rfl⟩
      refine hK.out _ _ HS.drew.conj (fun hHeld => ?_)
      clear hK K
      try simp only [Act.put, List.setIfInBounds_toArray, List.set_cons_zero, List.set_cons_succ]
      refine wpAnyH_ready (rs := [2]) (by kernel_rfl) (by simp) ?_
      refine AllReadyH.cons rfl (fun K hK => ?_) AllReadyH.nil
      go_simp
      refine (k3 _).mono ?_
      rintro e w1 ⟨rfl, rfl⟩
      refine hK.out _ _ HS.drew.conj (fun hHeld => ?_)
      clear hK K
      try simp only [Act.put, List.setIfInBounds_toArray, List.set_cons_zero, List.set_cons_succ]
      refine wpAnyH_ready (rs := [4]) (by kernel_rfl) (by simp) ?_
      refine AllReadyH.cons rfl (fun K hK => ?_) AllReadyH.nil
      go_simp
      refine (k2 _).mono ?_
      rintro e w1 ⟨rfl, rfl⟩
      refine hK.out _ _ HS.drew.conj (fun hHeld => ?_)
      clear hK K
      try simp only [Act.put, List.setIfInBounds_toArray, List.set_cons_zero, List.set_cons_succ]
      refine wpAnyH_ready (rs := [5]) (by kernel_rfl) (by simp) ?_
      refine AllReadyH.cons rfl (fun K hK => ?_) AllReadyH.nil
      go_simp
      refine (k4 _).mono ?_
      rintro e w1 ⟨rfl, hb1⟩
      refine hK.out _ _ (HS.drew.step hb1).conj (fun hHeld => ?_)
      clear hK K
      try simp only [Act.put, List.setIfInBounds_toArray, List.set_cons_zero, List.set_cons_succ]
      refine wpAnyH_ready (rs := [11]) (by kernel_rfl) (by simp) ?_
      refine AllReadyH.cons rfl (fun K hK => ?_) AllReadyH.nil
      go_simp
      refine (k5 _).mono ?_
      rintro e w1 ⟨rfl, rfl⟩
      exact ⟨rfl, rfl, (HS.drew.step hb1).bel⟩
  · rw [deedOf_out (hfar hin)]
    have hE : scaledE (a.natAbs) (1000000) (b.natAbs) = overE := if_neg hin
    rw [hE, show ((1000000 : Nat) : Int) = 1000000 from rfl] at k4
    unfold overE at *
    clear hE hfar hin ha hb
    obtain ⟨s, hs⟩ : ∃ s, s = (decide (a < 0) != decide (b < 0)) := ⟨_, rfl⟩
    have hs2 := hs.symm
    have hs3 : (!decide (a < 0) == decide (b < 0)) = s := hs.symm
    clear hs
    generalize a.natAbs = a' at k1 k4
    generalize b.natAbs = b' at k2 k4
    go_enter Tryd.func70, Tryd.ntmps70
    go_wp2_with fail
    refine wp_region_held_drew (S := (fun w' => w'.cell? ⟨p, 0, none⟩ = some (.int .i64 a) ∧ w'.cell? ⟨q, 0, none⟩ = some (.int .i64 b) ∧ Below w.heap.size w w')) (by kernel_rfl) HS.drew.conj (fun hHeld => ?_)
    refine wpAnyH_take (i := 0) (v := .int .i64 a) rfl (by kernel_rfl) (by kernel_rfl) (by kernel_rfl) (fun _ _ _ h => h) (Or.inl ⟨by rfl, by intro w hSw; obtain ⟨c1, c2, c3⟩ := hSw; first | (go_simp; done) | (go_simp; with_reducible rfl)⟩) hHeld ?_
    try simp only [Act.put, List.setIfInBounds_toArray]
    refine wpAnyH_take (i := 3) (v := .int .i64 b) rfl (by kernel_rfl) (by kernel_rfl) (by kernel_rfl) (fun _ _ _ h => h) (Or.inl ⟨by rfl, by intro w hSw; obtain ⟨c1, c2, c3⟩ := hSw; first | (go_simp; done) | (go_simp; with_reducible rfl)⟩) hHeld ?_
    try simp only [Act.put]
    refine wpAnyH_take (i := 6) (v := .int .i64 a) rfl (by kernel_rfl) (by kernel_rfl) (by kernel_rfl) (fun _ _ _ h => h) (Or.inl ⟨by rfl, by intro w hSw; obtain ⟨c1, c2, c3⟩ := hSw; first | (go_simp; done) | (go_simp; with_reducible rfl)⟩) hHeld ?_
    try simp only [Act.put]
    refine wpAnyH_take (i := 8) (v := .int .i64 b) rfl (by kernel_rfl) (by kernel_rfl) (by kernel_rfl) (fun _ _ _ h => h) (Or.inl ⟨by rfl, by intro w hSw; obtain ⟨c1, c2, c3⟩ := hSw; first | (go_simp; done) | (go_simp; with_reducible rfl)⟩) hHeld ?_
    try simp only [Act.put]
    refine wpAnyH_take (i := 7) (v := .bool (decide (a < 0))) rfl (by kernel_rfl) (by kernel_rfl) (by kernel_rfl) (fun _ _ _ h => h) (Or.inl ⟨by rfl, by intro w hSw; obtain ⟨c1, c2, c3⟩ := hSw; first | (go_simp; done) | (go_simp; with_reducible rfl)⟩) hHeld ?_
    try simp only [Act.put]
    refine wpAnyH_take (i := 9) (v := .bool (decide (b < 0))) rfl (by kernel_rfl) (by kernel_rfl) (by kernel_rfl) (fun _ _ _ h => h) (Or.inl ⟨by rfl, by intro w hSw; obtain ⟨c1, c2, c3⟩ := hSw; first | (go_simp; done) | (go_simp; with_reducible rfl)⟩) hHeld ?_
    try simp only [Act.put]
    refine wpAnyH_take (i := 10) (v := .bool s) rfl (by kernel_rfl) (by kernel_rfl) (by kernel_rfl) (fun _ _ _ h => h) (Or.inl ⟨by rfl, by intro w hSw; obtain ⟨c1, c2, c3⟩ := hSw; first | (go_simp; done) | (go_simp; with_reducible rfl)⟩) hHeld ?_
    try simp only [Act.put]
    refine wpAnyH_ready (rs := [1]) (by kernel_rfl) (by simp) ?_
    refine AllReadyH.cons rfl (fun K hK => ?_) AllReadyH.nil
    go_simp
    refine (k1 _).mono ?_
    rintro e w1 ⟨rfl, rfl⟩
    refine hK.out _ _ HS.drew.conj (fun hHeld => ?_)
    clear hK K
    try simp only [Act.put, List.setIfInBounds_toArray, List.set_cons_zero, List.set_cons_succ]
    refine wpAnyH_ready (rs := [2]) (by kernel_rfl) (by simp) ?_
    refine AllReadyH.cons rfl (fun K hK => ?_) AllReadyH.nil
    go_simp
    refine (k3 _).mono ?_
    rintro e w1 ⟨rfl, rfl⟩
    refine hK.out _ _ HS.drew.conj (fun hHeld => ?_)
    clear hK K
    try simp only [Act.put, List.setIfInBounds_toArray, List.set_cons_zero, List.set_cons_succ]
    refine wpAnyH_ready (rs := [4]) (by kernel_rfl) (by simp) ?_
    refine AllReadyH.cons rfl (fun K hK => ?_) AllReadyH.nil
    go_simp
    refine (k2 _).mono ?_
    rintro e w1 ⟨rfl, rfl⟩
    refine hK.out _ _ HS.drew.conj (fun hHeld => ?_)
    clear hK K
    try simp only [Act.put, List.setIfInBounds_toArray, List.set_cons_zero, List.set_cons_succ]
    refine wpAnyH_ready (rs := [5]) (by kernel_rfl) (by simp) ?_
    refine AllReadyH.cons rfl (fun K hK => ?_) AllReadyH.nil
    go_simp
    refine (k4 _).mono ?_
    rintro e w1 ⟨rfl, hb1⟩
    exact ⟨rfl, rfl, (HS.drew.step hb1).bel⟩
set_option maxHeartbeats 1000000 in
theorem whole1_any (p q : Nat) (a b : Int) (w : World) (ha : -9223372036854775808 ≤ a ∧ a ≤ 9223372036854775807) (hb : -9223372036854775808 ≤ b ∧ b ≤ 9223372036854775807)
    (hp : w.cell? ⟨p, 0, none⟩ = some (.int .i64 a)) (hq : w.cell? ⟨q, 0, none⟩ = some (.int .i64 b)) :
    Calls Tryd.prog 71 #[.pointer (some ⟨p, 0, none⟩)] w fun e w' => e = deedOf (a * 1000000) ∧ Below w.heap.size w w' := by
  have k1 := fun w => magn_any a w ha
  have k2 := fun w => magn_any b w hb
  have k3 := fun w => magn_any 1000000 w (by omega)
  have k4 := fun w => scaled_any (a.natAbs) (1000000) (1) w (by omega) (by omega) (by omega)
  have HS : Two p q a b w w := ⟨hp, hq, Below.refl _ _⟩
  rw [show (((1000000 : Int).natAbs : Nat) : Int) = 1000000 from rfl] at k3
  rw [← whole_value]
  have hfar := far_out (decide (a < 0)) ((a.natAbs) * (1000000)) (1) (by omega)
  by_cases hin : (a.natAbs) * (1000000) / 18446744073709551616 < (1)
  · have hE : scaledE (a.natAbs) (1000000) (1) = .returned (.int .u64 ((((a.natAbs) * (1000000)) / (1) : Nat) : Int)) := if_pos hin
    rw [hE] at k4
    clear hE hfar
    have hz : (a.natAbs) * (1000000) / (1) < 18446744073709551616 := by
      rcases Nat.eq_zero_or_pos (1) with hc | hc
      · rw [hc, Nat.div_zero]; decide
      · rw [Nat.div_lt_iff_lt_mul hc]
        rw [Nat.div_lt_iff_lt_mul (by decide)] at hin
        rw [Nat.mul_comm] at hin ⊢
        omega
    generalize (a.natAbs) * (1000000) / (1) = z at k4 hz ⊢
    rw [show ((1000000 : Nat) : Int) = 1000000 from rfl, show ((1 : Nat) : Int) = 1 from rfl] at k4
    generalize a.natAbs = a' at k1 k4
    generalize b.natAbs = b' at k2 k4
    obtain ⟨s, hs⟩ : ∃ s, s = (decide (a < 0)) := ⟨_, rfl⟩
    rw [← hs]
    have hs2 := hs.symm
    have HSS := Lib.hid hs
    clear hs
    have k5 := fun w => signed_any z s w hz
    clear ha hb hin
    by_cases hin : -9223372036854775808 ≤ sgn s z ∧ sgn s z ≤ 9223372036854775807
    · rw [deedOf_in hin] at *
      generalize sgn s z = r at *
      go_enter Tryd.func71, Tryd.ntmps71
      go_wp2_with fail
      refine wp_region_held_drew (S := (fun w' => w'.cell? ⟨p, 0, none⟩ = some (.int .i64 a) ∧ w'.cell? ⟨q, 0, none⟩ = some (.int .i64 b) ∧ Below w.heap.size w w')) (by kernel_rfl) HS.drew.conj (fun hHeld => ?_)
      refine wpAnyH_take (i := 0) (v := .int .i64 a) rfl (by kernel_rfl) (by kernel_rfl) (by kernel_rfl) (fun _ _ _ h => h) (Or.inl ⟨by rfl, by intro w hSw; obtain ⟨c1, c2, c3⟩ := hSw; first | (go_simp; done) | (go_simp; with_reducible rfl)⟩) hHeld ?_
      try simp only [Act.put, List.setIfInBounds_toArray]
      refine wpAnyH_take (i := 4) (v := .int .i64 a) rfl (by kernel_rfl) (by kernel_rfl) (by kernel_rfl) (fun _ _ _ h => h) (Or.inl ⟨by rfl, by intro w hSw; obtain ⟨c1, c2, c3⟩ := hSw; first | (go_simp; done) | (go_simp; with_reducible rfl)⟩) hHeld ?_
      try simp only [Act.put]
      refine wpAnyH_take (i := 5) (v := .bool s) rfl (by kernel_rfl) (by kernel_rfl) (by kernel_rfl) (fun _ _ _ h => h) (Or.inl ⟨by rfl, by intro w hSw; obtain ⟨c1, c2, c3⟩ := hSw; first | (go_simp; done) | (go_simp; with_reducible rfl)⟩) hHeld ?_
      try simp only [Act.put]
      refine wpAnyH_ready (rs := [1]) (by kernel_rfl) (by simp) ?_
      refine AllReadyH.cons rfl (fun K hK => ?_) AllReadyH.nil
      go_simp
      refine (k1 _).mono ?_
      rintro e w1 ⟨rfl, rfl⟩
      refine hK.out _ _ HS.drew.conj (fun hHeld => ?_)
      clear hK K
      try simp only [Act.put, List.setIfInBounds_toArray, List.set_cons_zero, List.set_cons_succ]
      refine wpAnyH_ready (rs := [2]) (by kernel_rfl) (by simp) ?_
      refine AllReadyH.cons rfl (fun K hK => ?_) AllReadyH.nil
      go_simp
      refine (k3 _).mono ?_
      rintro e w1 ⟨rfl, rfl⟩
      refine hK.out _ _ HS.drew.conj (fun hHeld => ?_)
      clear hK K
      try simp only [Act.put, List.setIfInBounds_toArray, List.set_cons_zero, List.set_cons_succ]
      refine wpAnyH_ready (rs := [3]) (by kernel_rfl) (by simp) ?_
      refine AllReadyH.cons rfl (fun K hK => ?_) AllReadyH.nil
      go_simp
      refine (k4 _).mono ?_
      rintro e w1 ⟨rfl, hb1⟩
      refine hK.out _ _ (HS.drew.step hb1).conj (fun hHeld => ?_)
      clear hK K
      try simp only [Act.put, List.setIfInBounds_toArray, List.set_cons_zero, List.set_cons_succ]
      refine wpAnyH_ready (rs := [6]) (by kernel_rfl) (by simp) ?_
      refine AllReadyH.cons rfl (fun K hK => ?_) AllReadyH.nil
      go_simp
      refine (k5 _).mono ?_
      rintro e w1 ⟨rfl, rfl⟩
      refine hK.out _ _ (HS.drew.step hb1).conj (fun hHeld => ?_)
      clear hK K
      try simp only [Act.put, List.setIfInBounds_toArray, List.set_cons_zero, List.set_cons_succ]
      refine wpAnyH_ready (rs := [7]) (by kernel_rfl) (by simp) ?_
      refine AllReadyH.cons rfl (fun K hK => ?_) AllReadyH.nil
      go_simp
      refine hK.out _ _ (HS.drew.step hb1).conj (fun hHeld => ?_)
      clear hK K
      refine wpAnyH_done (by kernel_rfl) ?_ _
      all_goals
        go_wp2
        go_ret
        exact ⟨rfl, (HS.drew.step hb1).bel⟩
    · rw [deedOf_out hin] at *
      unfold overE at *
      clear hin
      go_enter Tryd.func71, Tryd.ntmps71
      go_wp2_with fail
      refine wp_region_held_drew (S := (fun w' => w'.cell? ⟨p, 0, none⟩ = some (.int .i64 a) ∧ w'.cell? ⟨q, 0, none⟩ = some (.int .i64 b) ∧ Below w.heap.size w w')) (by kernel_rfl) HS.drew.conj (fun hHeld => ?_)
      refine wpAnyH_take (i := 0) (v := .int .i64 a) rfl (by kernel_rfl) (by kernel_rfl) (by kernel_rfl) (fun _ _ _ h => h) (Or.inl ⟨by rfl, by intro w hSw; obtain ⟨c1, c2, c3⟩ := hSw; first | (go_simp; done) | (go_simp; with_reducible rfl)⟩) hHeld ?_
      try simp only [Act.put, List.setIfInBounds_toArray]
      refine wpAnyH_take (i := 4) (v := .int .i64 a) rfl (by kernel_rfl) (by kernel_rfl) (by kernel_rfl) (fun _ _ _ h => h) (Or.inl ⟨by rfl, by intro w hSw; obtain ⟨c1, c2, c3⟩ := hSw; first | (go_simp; done) | (go_simp; with_reducible rfl)⟩) hHeld ?_
      try simp only [Act.put]
      refine wpAnyH_take (i := 5) (v := .bool s) rfl (by kernel_rfl) (by kernel_rfl) (by kernel_rfl) (fun _ _ _ h => h) (Or.inl ⟨by rfl, by intro w hSw; obtain ⟨c1, c2, c3⟩ := hSw; first | (go_simp; done) | (go_simp; with_reducible rfl)⟩) hHeld ?_
      try simp only [Act.put]
      refine wpAnyH_ready (rs := [1]) (by kernel_rfl) (by simp) ?_
      refine AllReadyH.cons rfl (fun K hK => ?_) AllReadyH.nil
      go_simp
      refine (k1 _).mono ?_
      rintro e w1 ⟨rfl, rfl⟩
      refine hK.out _ _ HS.drew.conj (fun hHeld => ?_)
      clear hK K
      try simp only [Act.put, List.setIfInBounds_toArray, List.set_cons_zero, List.set_cons_succ]
      refine wpAnyH_ready (rs := [2]) (by kernel_rfl) (by simp) ?_
      refine AllReadyH.cons rfl (fun K hK => ?_) AllReadyH.nil
      go_simp
      refine (k3 _).mono ?_
      rintro e w1 ⟨rfl, rfl⟩
      refine hK.out _ _ HS.drew.conj (fun hHeld => ?_)
      clear hK K
      try simp only [Act.put, List.setIfInBounds_toArray, List.set_cons_zero, List.set_cons_succ]
      refine wpAnyH_ready (rs := [3]) (by kernel_rfl) (by simp) ?_
      refine AllReadyH.cons rfl (fun K hK => ?_) AllReadyH.nil
      go_simp
      refine (k4 _).mono ?_
      rintro e w1 ⟨rfl, hb1⟩
      refine hK.out _ _ (HS.drew.step hb1).conj (fun hHeld => ?_)
      clear hK K
      try simp only [Act.put, List.setIfInBounds_toArray, List.set_cons_zero, List.set_cons_succ]
      refine wpAnyH_ready (rs := [6]) (by kernel_rfl) (by simp) ?_
      refine AllReadyH.cons rfl (fun K hK => ?_) AllReadyH.nil
      go_simp
      refine (k5 _).mono ?_
      rintro e w1 ⟨rfl, rfl⟩
      exact ⟨rfl, rfl, (HS.drew.step hb1).bel⟩
  · rw [deedOf_out (hfar hin)]
    have hE : scaledE (a.natAbs) (1000000) (1) = overE := if_neg hin
    rw [hE, show ((1000000 : Nat) : Int) = 1000000 from rfl, show ((1 : Nat) : Int) = 1 from rfl] at k4
    unfold overE at *
    clear hE hfar hin ha hb
    obtain ⟨s, hs⟩ : ∃ s, s = (decide (a < 0)) := ⟨_, rfl⟩
    have hs2 := hs.symm
    clear hs
    generalize a.natAbs = a' at k1 k4
    generalize b.natAbs = b' at k2 k4
    go_enter Tryd.func71, Tryd.ntmps71
    go_wp2_with fail
    refine wp_region_held_drew (S := (fun w' => w'.cell? ⟨p, 0, none⟩ = some (.int .i64 a) ∧ w'.cell? ⟨q, 0, none⟩ = some (.int .i64 b) ∧ Below w.heap.size w w')) (by kernel_rfl) HS.drew.conj (fun hHeld => ?_)
    refine wpAnyH_take (i := 0) (v := .int .i64 a) rfl (by kernel_rfl) (by kernel_rfl) (by kernel_rfl) (fun _ _ _ h => h) (Or.inl ⟨by rfl, by intro w hSw; obtain ⟨c1, c2, c3⟩ := hSw; first | (go_simp; done) | (go_simp; with_reducible rfl)⟩) hHeld ?_
    try simp only [Act.put, List.setIfInBounds_toArray]
    refine wpAnyH_take (i := 4) (v := .int .i64 a) rfl (by kernel_rfl) (by kernel_rfl) (by kernel_rfl) (fun _ _ _ h => h) (Or.inl ⟨by rfl, by intro w hSw; obtain ⟨c1, c2, c3⟩ := hSw; first | (go_simp; done) | (go_simp; with_reducible rfl)⟩) hHeld ?_
    try simp only [Act.put]
    refine wpAnyH_take (i := 5) (v := .bool s) rfl (by kernel_rfl) (by kernel_rfl) (by kernel_rfl) (fun _ _ _ h => h) (Or.inl ⟨by rfl, by intro w hSw; obtain ⟨c1, c2, c3⟩ := hSw; first | (go_simp; done) | (go_simp; with_reducible rfl)⟩) hHeld ?_
    try simp only [Act.put]
    refine wpAnyH_ready (rs := [1]) (by kernel_rfl) (by simp) ?_
    refine AllReadyH.cons rfl (fun K hK => ?_) AllReadyH.nil
    go_simp
    refine (k1 _).mono ?_
    rintro e w1 ⟨rfl, rfl⟩
    refine hK.out _ _ HS.drew.conj (fun hHeld => ?_)
    clear hK K
    try simp only [Act.put, List.setIfInBounds_toArray, List.set_cons_zero, List.set_cons_succ]
    refine wpAnyH_ready (rs := [2]) (by kernel_rfl) (by simp) ?_
    refine AllReadyH.cons rfl (fun K hK => ?_) AllReadyH.nil
    go_simp
    refine (k3 _).mono ?_
    rintro e w1 ⟨rfl, rfl⟩
    refine hK.out _ _ HS.drew.conj (fun hHeld => ?_)
    clear hK K
    try simp only [Act.put, List.setIfInBounds_toArray, List.set_cons_zero, List.set_cons_succ]
    refine wpAnyH_ready (rs := [3]) (by kernel_rfl) (by simp) ?_
    refine AllReadyH.cons rfl (fun K hK => ?_) AllReadyH.nil
    go_simp
    refine (k4 _).mono ?_
    rintro e w1 ⟨rfl, hb1⟩
    exact ⟨rfl, rfl, (HS.drew.step hb1).bel⟩
end Go.Proofs.YtokfkckfclnoaaaDoor
