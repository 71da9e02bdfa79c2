/- Packed texts: DecReckon2, DecCalls, DecShown. What each of them proves stands above its theorems; the conditions stand in these. -/
import Derived.Test.YtjdollmfjflkoaaGreatDoorB5
import Derived.Test.YtjdollmfjflkoaaGreatDoorB8
namespace Go.Proofs.YtjdollmfjflkoaaGreatDoor
open Go.RowKit

set_option maxHeartbeats 1000000 in
theorem div1_any (p q : Nat) (a b : Int) (w : World) (ha : -9223372036854775808 ≤ a ∧ a ≤ 9223372036854775807) (hb : -9223372036854775808 ≤ b ∧ b ≤ 9223372036854775807) (hb0 : b ≠ 0)
    (hp : w.cell? ⟨p, 0, none⟩ = some (.int .i64 a)) (hq : w.cell? ⟨q, 0, none⟩ = some (.int .i64 b)) :
    Calls Tryz.prog 152 #[.pointer (some ⟨p, 0, none⟩), .pointer (some ⟨q, 0, none⟩)] w fun e w' => e = deedOf ((a * 1000000).tdiv b) ∧ Below w.heap.size w w' := by
  have k1 := fun w => magn_any a w ha
  have k2 := fun w => magn_any b w hb
  have k3 := fun w => magn_any 1000000 w (by omega)
  have k4 := fun w => scaled_any (a.natAbs) (1000000) (b.natAbs) w (by omega) (by omega) (by omega)
  have HS : Two p q a b w w := ⟨hp, hq, Below.refl _ _⟩
  rw [show (((1000000 : Int).natAbs : Nat) : Int) = 1000000 from rfl] at k3
  rw [← div_value]
  have hfar := far_out (decide (a < 0) != decide (b < 0)) ((a.natAbs) * (1000000)) (b.natAbs) (by omega)
  by_cases hin : (a.natAbs) * (1000000) / 18446744073709551616 < (b.natAbs)
  · have hE : scaledE (a.natAbs) (1000000) (b.natAbs) = .returned (.int .u64 ((((a.natAbs) * (1000000)) / (b.natAbs) : Nat) : Int)) := if_pos hin
    rw [hE] at k4
    clear hE hfar
    have hz : (a.natAbs) * (1000000) / (b.natAbs) < 18446744073709551616 := by
      rcases Nat.eq_zero_or_pos (b.natAbs) with hc | hc
      · rw [hc, Nat.div_zero]; decide
      · rw [Nat.div_lt_iff_lt_mul hc]
        rw [Nat.div_lt_iff_lt_mul (by decide)] at hin
        rw [Nat.mul_comm] at hin ⊢
        omega
    generalize (a.natAbs) * (1000000) / (b.natAbs) = z at k4 hz ⊢
    rw [show ((1000000 : Nat) : Int) = 1000000 from rfl] at k4
    generalize a.natAbs = a' at k1 k4
    generalize b.natAbs = b' at k2 k4
    obtain ⟨s, hs⟩ : ∃ s, s = (decide (a < 0) != decide (b < 0)) := ⟨_, rfl⟩
    rw [← hs]
    have hs2 := hs.symm
    have hs3 : (!decide (a < 0) == decide (b < 0)) = s := hs.symm
    have HSS := Lib.hid hs
    clear hs
    have k5 := fun w => signed_any z s w hz
    clear ha hb hin
    by_cases hin : -9223372036854775808 ≤ sgn s z ∧ sgn s z ≤ 9223372036854775807
    · rw [deedOf_in hin] at *
      generalize sgn s z = r at *
      go_enter Tryz.func152, Tryz.ntmps152
      go_wp2_with fail
      refine wp_region_held_drew (S := (fun w' => w'.cell? ⟨p, 0, none⟩ = some (.int .i64 a) ∧ w'.cell? ⟨q, 0, none⟩ = some (.int .i64 b) ∧ Below w.heap.size w w')) (by kernel_rfl) HS.drew.conj (fun hHeld => ?_)
      refine wpAnyH_take (i := 0) (v := .int .i64 a) rfl (by kernel_rfl) (by kernel_rfl) (by kernel_rfl) (fun _ _ _ h => h) (Or.inl ⟨by rfl, by intro w hSw; obtain ⟨c1, c2, c3⟩ := hSw; first | (go_simp; done) | (go_simp; with_reducible rfl)⟩) hHeld ?_
      try simp only [Act.put, List.setIfInBounds_toArray]
      refine wpAnyH_take (i := 3) (v := .int .i64 b) rfl (by kernel_rfl) (by kernel_rfl) (by kernel_rfl) (fun _ _ _ h => h) (Or.inl ⟨by rfl, by intro w hSw; obtain ⟨c1, c2, c3⟩ := hSw; first | (go_simp; done) | (go_simp; with_reducible rfl)⟩) hHeld ?_
      try simp only [Act.put]
      refine wpAnyH_take (i := 6) (v := .int .i64 a) rfl (by kernel_rfl) (by kernel_rfl) (by kernel_rfl) (fun _ _ _ h => h) (Or.inl ⟨by rfl, by intro w hSw; obtain ⟨c1, c2, c3⟩ := hSw; first | (go_simp; done) | (go_simp; with_reducible rfl)⟩) hHeld ?_
      try simp only [Act.put]
      refine wpAnyH_take (i := 8) (v := .int .i64 b) rfl (by kernel_rfl) (by kernel_rfl) (by kernel_rfl) (fun _ _ _ h => h) (Or.inl ⟨by rfl, by intro w hSw; obtain ⟨c1, c2, c3⟩ := hSw; first | (go_simp; done) | (go_simp; with_reducible rfl)⟩) hHeld ?_
      try simp only [Act.put]
      refine wpAnyH_take (i := 7) (v := .bool (decide (a < 0))) rfl (by kernel_rfl) (by kernel_rfl) (by kernel_rfl) (fun _ _ _ h => h) (Or.inl ⟨by rfl, by intro w hSw; obtain ⟨c1, c2, c3⟩ := hSw; first | (go_simp; done) | (go_simp; with_reducible rfl)⟩) hHeld ?_
      try simp only [Act.put]
      refine wpAnyH_take (i := 9) (v := .bool (decide (b < 0))) rfl (by kernel_rfl) (by kernel_rfl) (by kernel_rfl) (fun _ _ _ h => h) (Or.inl ⟨by rfl, by intro w hSw; obtain ⟨c1, c2, c3⟩ := hSw; first | (go_simp; done) | (go_simp; with_reducible rfl)⟩) hHeld ?_
      try simp only [Act.put]
      refine wpAnyH_take (i := 10) (v := .bool s) rfl (by kernel_rfl) (by kernel_rfl) (by kernel_rfl) (fun _ _ _ h => h) (Or.inl ⟨by rfl, by intro w hSw; obtain ⟨c1, c2, c3⟩ := hSw; first | (go_simp; done) | (go_simp; with_reducible rfl)⟩) hHeld ?_
      try simp only [Act.put]
      refine wpAnyH_ready (rs := [1]) (by kernel_rfl) (by simp) ?_
      refine AllReadyH.cons rfl (fun K hK => ?_) AllReadyH.nil
      go_simp
      refine (k1 _).mono ?_
      rintro e w1 ⟨rfl, rfl⟩
      refine hK.out _ _ HS.drew.conj (fun hHeld => ?_)
      clear hK K
      try simp only [Act.put, List.setIfInBounds_toArray, List.set_cons_zero, List.set_cons_succ]
      refine wpAnyH_ready (rs := [2]) (by kernel_rfl) (by simp) ?_
      refine AllReadyH.cons rfl (fun K hK => ?_) AllReadyH.nil
      go_simp
      refine (k3 _).mono ?_
      rintro e w1 ⟨rfl, rfl⟩
      refine hK.out _ _ HS.drew.conj (fun hHeld => ?_)
      clear hK K
      try simp only [Act.put, List.setIfInBounds_toArray, List.set_cons_zero, List.set_cons_succ]
      refine wpAnyH_ready (rs := [4]) (by kernel_rfl) (by simp) ?_
      refine AllReadyH.cons rfl (fun K hK => ?_) AllReadyH.nil
      go_simp
      refine (k2 _).mono ?_
      rintro e w1 ⟨rfl, rfl⟩
      refine hK.out _ _ HS.drew.conj (fun hHeld => ?_)
      clear hK K
      try simp only [Act.put, List.setIfInBounds_toArray, List.set_cons_zero, List.set_cons_succ]
      refine wpAnyH_ready (rs := [5]) (by kernel_rfl) (by simp) ?_
      refine AllReadyH.cons rfl (fun K hK => ?_) AllReadyH.nil
      go_simp
      refine (k4 _).mono ?_
      rintro e w1 ⟨rfl, hb1⟩
      refine hK.out _ _ (HS.drew.step hb1).conj (fun hHeld => ?_)
      clear hK K
      try simp only [Act.put, List.setIfInBounds_toArray, List.set_cons_zero, List.set_cons_succ]
      refine wpAnyH_ready (rs := [11]) (by kernel_rfl) (by simp) ?_
      refine AllReadyH.cons rfl (fun K hK => ?_) AllReadyH.nil
      go_simp
      refine (k5 _).mono ?_
      rintro e w1 ⟨rfl, rfl⟩
      refine hK.out _ _ (HS.drew.step hb1).conj (fun hHeld => ?_)
      clear hK K
      try simp only [Act.put, List.setIfInBounds_toArray, List.set_cons_zero, List.set_cons_succ]
      refine wpAnyH_ready (rs := [12]) (by kernel_rfl) (by simp) ?_
      refine AllReadyH.cons rfl (fun K hK => ?_) AllReadyH.nil
      go_simp
      refine hK.out _ _ (HS.drew.step hb1).conj (fun hHeld => ?_)
      clear hK K
      refine wpAnyH_done (by kernel_rfl) ?_ _
      all_goals
        go_wp2
        go_ret
        exact ⟨rfl, (HS.drew.step hb1).bel⟩
    · rw [deedOf_out hin] at *
      unfold overE at *
      clear hin
      go_enter Tryz.func152, Tryz.ntmps152
      go_wp2_with fail
      refine wp_region_held_drew (S := (fun w' => w'.cell? ⟨p, 0, none⟩ = some (.int .i64 a) ∧ w'.cell? ⟨q, 0, none⟩ = some (.int .i64 b) ∧ Below w.heap.size w w')) (by kernel_rfl) HS.drew.conj (fun hHeld => ?_)
      refine wpAnyH_take (i := 0) (v := .int .i64 a) rfl (by kernel_rfl) (by kernel_rfl) (by kernel_rfl) (fun _ _ _ h => h) (Or.inl ⟨by rfl, by intro w hSw; obtain ⟨c1, c2, c3⟩ := hSw; first | (go_simp; done) | (go_simp; with_reducible rfl)⟩) hHeld ?_
      try simp only [Act.put, List.setIfInBounds_toArray]
      refine wpAnyH_take (i := 3) (v := .int .i64 b) rfl (by kernel_rfl) (by kernel_rfl) (by kernel_rfl) (fun _ _ _ h => h) (Or.inl ⟨by rfl, by intro w hSw; obtain ⟨c1, c2, c3⟩ := hSw; first | (go_simp; done) | (go_simp; with_reducible rfl)⟩) hHeld ?_
      try simp only [Act.put]
      refine wpAnyH_take (i := 6) (v := .int .i64 a) rfl (by kernel_rfl) (by kernel_rfl) (by kernel_rfl) (fun _ _ _ h => h) (Or.inl ⟨by rfl, by intro w hSw; obtain ⟨c1, c2, c3⟩ := hSw; first | (go_simp; done) | (go_simp; with_reducible rfl)⟩) hHeld ?_
      try simp only [Act.put]
      refine wpAnyH_take (i := 8) (v := .int .i64 b) rfl (by kernel_rfl) (by kernel_rfl) (by kernel_rfl) (fun _ _ _ h => h) (Or.inl ⟨by rfl, by intro w hSw; obtain ⟨c1, c2, c3⟩ := hSw; first | (go_simp; done) | (go_simp; with_reducible rfl)⟩) hHeld ?_
      try simp only [Act.put]
      refine wpAnyH_take (i := 7) (v := .bool (decide (a < 0))) rfl (by kernel_rfl) (by kernel_rfl) (by kernel_rfl) (fun _ _ _ h => h) (Or.inl ⟨by rfl, by intro w hSw; obtain ⟨c1, c2, c3⟩ := hSw; first | (go_simp; done) | (go_simp; with_reducible rfl)⟩) hHeld ?_
      try simp only [Act.put]
      refine wpAnyH_take (i := 9) (v := .bool (decide (b < 0))) rfl (by kernel_rfl) (by kernel_rfl) (by kernel_rfl) (fun _ _ _ h => h) (Or.inl ⟨by rfl, by intro w hSw; obtain ⟨c1, c2, c3⟩ := hSw; first | (go_simp; done) | (go_simp; with_reducible rfl)⟩) hHeld ?_
      try simp only [Act.put]
      refine wpAnyH_take (i := 10) (v := .bool s) rfl (by kernel_rfl) (by kernel_rfl) (by kernel_rfl) (fun _ _ _ h => h) (Or.inl ⟨by rfl, by intro w hSw; obtain ⟨c1, c2, c3⟩ := hSw; first | (go_simp; done) | (go_simp; with_reducible rfl)⟩) hHeld ?_
      try simp only [Act.put]
      refine wpAnyH_ready (rs := [1]) (by kernel_rfl) (by simp) ?_
      refine AllReadyH.cons rfl (fun K hK => ?_) AllReadyH.nil
      go_simp
      refine (k1 _).mono ?_
      rintro e w1 ⟨rfl, rfl⟩
      refine hK.out _ _ HS.drew.conj (fun hHeld => ?_)
      clear hK K
      try simp only [Act.put, List.setIfInBounds_toArray, List.set_cons_zero, List.set_cons_succ]
      refine wpAnyH_ready (rs := [2]) (by kernel_rfl) (by simp) ?_
      refine AllReadyH.cons rfl (fun K hK => ?_) AllReadyH.nil
      go_simp
      refine (k3 _).mono ?_
      rintro e w1 ⟨rfl, rfl⟩
      refine hK.out _ _ HS.drew.conj (fun hHeld => ?_)
      clear hK K
      try simp only [Act.put, List.setIfInBounds_toArray, List.set_cons_zero, List.set_cons_succ]
      refine wpAnyH_ready (rs := [4]) (by kernel_rfl) (by simp) ?_
      refine AllReadyH.cons rfl (fun K hK => ?_) AllReadyH.nil
      go_simp
      refine (k2 _).mono ?_
      rintro e w1 ⟨rfl, rfl⟩
      refine hK.out _ _ HS.drew.conj (fun hHeld => ?_)
      clear hK K
      try simp only [Act.put, List.setIfInBounds_toArray, List.set_cons_zero, List.set_cons_succ]
      refine wpAnyH_ready (rs := [5]) (by kernel_rfl) (by simp) ?_
      refine AllReadyH.cons rfl (fun K hK => ?_) AllReadyH.nil
      go_simp
      refine (k4 _).mono ?_
      rintro e w1 ⟨rfl, hb1⟩
      refine hK.out _ _ (HS.drew.step hb1).conj (fun hHeld => ?_)
      clear hK K
      try simp only [Act.put, List.setIfInBounds_toArray, List.set_cons_zero, List.set_cons_succ]
      refine wpAnyH_ready (rs := [11]) (by kernel_rfl) (by simp) ?_
      refine AllReadyH.cons rfl (fun K hK => ?_) AllReadyH.nil
      go_simp
      refine (k5 _).mono ?_
      rintro e w1 ⟨rfl, rfl⟩
      exact ⟨rfl, rfl, (HS.drew.step hb1).bel⟩
  · rw [deedOf_out (hfar hin)]
    have hE : scaledE (a.natAbs) (1000000) (b.natAbs) = overE := if_neg hin
    rw [hE, show ((1000000 : Nat) : Int) = 1000000 from rfl] at k4
    unfold overE at *
    clear hE hfar hin ha hb
    obtain ⟨s, hs⟩ : ∃ s, s = (decide (a < 0) != decide (b < 0)) := ⟨_, rfl⟩
    have hs2 := hs.symm
    have hs3 : (!decide (a < 0) == decide (b < 0)) = s := hs.symm
    clear hs
    generalize a.natAbs = a' at k1 k4
    generalize b.natAbs = b' at k2 k4
    go_enter Tryz.func152, Tryz.ntmps152
    go_wp2_with fail
    refine wp_region_held_drew (S := (fun w' => w'.cell? ⟨p, 0, none⟩ = some (.int .i64 a) ∧ w'.cell? ⟨q, 0, none⟩ = some (.int .i64 b) ∧ Below w.heap.size w w')) (by kernel_rfl) HS.drew.conj (fun hHeld => ?_)
    refine wpAnyH_take (i := 0) (v := .int .i64 a) rfl (by kernel_rfl) (by kernel_rfl) (by kernel_rfl) (fun _ _ _ h => h) (Or.inl ⟨by rfl, by intro w hSw; obtain ⟨c1, c2, c3⟩ := hSw; first | (go_simp; done) | (go_simp; with_reducible rfl)⟩) hHeld ?_
    try simp only [Act.put, List.setIfInBounds_toArray]
    refine wpAnyH_take (i := 3) (v := .int .i64 b) rfl (by kernel_rfl) (by kernel_rfl) (by kernel_rfl) (fun _ _ _ h => h) (Or.inl ⟨by rfl, by intro w hSw; obtain ⟨c1, c2, c3⟩ := hSw; first | (go_simp; done) | (go_simp; with_reducible rfl)⟩) hHeld ?_
    try simp only [Act.put]
    refine wpAnyH_take (i := 6) (v := .int .i64 a) rfl (by kernel_rfl) (by kernel_rfl) (by kernel_rfl) (fun _ _ _ h => h) (Or.inl ⟨by rfl, by intro w hSw; obtain ⟨c1, c2, c3⟩ := hSw; first | (go_simp; done) | (go_simp; with_reducible rfl)⟩) hHeld ?_
    try simp only [Act.put]
    refine wpAnyH_take (i := 8) (v := .int .i64 b) rfl (by kernel_rfl) (by kernel_rfl) (by kernel_rfl) (fun _ _ _ h => h) (Or.inl ⟨by rfl, by intro w hSw; obtain ⟨c1, c2, c3⟩ := hSw; first | (go_simp; done) | (go_simp; with_reducible rfl)⟩) hHeld ?_
    try simp only [Act.put]
    refine wpAnyH_take (i := 7) (v := .bool (decide (a < 0))) rfl (by kernel_rfl) (by kernel_rfl) (by kernel_rfl) (fun _ _ _ h => h) (Or.inl ⟨by rfl, by intro w hSw; obtain ⟨c1, c2, c3⟩ := hSw; first | (go_simp; done) | (go_simp; with_reducible rfl)⟩) hHeld ?_
    try simp only [Act.put]
    refine wpAnyH_take (i := 9) (v := .bool (decide (b < 0))) rfl (by kernel_rfl) (by kernel_rfl) (by kernel_rfl) (fun _ _ _ h => h) (Or.inl ⟨by rfl, by intro w hSw; obtain ⟨c1, c2, c3⟩ := hSw; first | (go_simp; done) | (go_simp; with_reducible rfl)⟩) hHeld ?_
    try simp only [Act.put]
    refine wpAnyH_take (i := 10) (v := .bool s) rfl (by kernel_rfl) (by kernel_rfl) (by kernel_rfl) (fun _ _ _ h => h) (Or.inl ⟨by rfl, by intro w hSw; obtain ⟨c1, c2, c3⟩ := hSw; first | (go_simp; done) | (go_simp; with_reducible rfl)⟩) hHeld ?_
    try simp only [Act.put]
    refine wpAnyH_ready (rs := [1]) (by kernel_rfl) (by simp) ?_
    refine AllReadyH.cons rfl (fun K hK => ?_) AllReadyH.nil
    go_simp
    refine (k1 _).mono ?_
    rintro e w1 ⟨rfl, rfl⟩
    refine hK.out _ _ HS.drew.conj (fun hHeld => ?_)
    clear hK K
    try simp only [Act.put, List.setIfInBounds_toArray, List.set_cons_zero, List.set_cons_succ]
    refine wpAnyH_ready (rs := [2]) (by kernel_rfl) (by simp) ?_
    refine AllReadyH.cons rfl (fun K hK => ?_) AllReadyH.nil
    go_simp
    refine (k3 _).mono ?_
    rintro e w1 ⟨rfl, rfl⟩
    refine hK.out _ _ HS.drew.conj (fun hHeld => ?_)
    clear hK K
    try simp only [Act.put, List.setIfInBounds_toArray, List.set_cons_zero, List.set_cons_succ]
    refine wpAnyH_ready (rs := [4]) (by kernel_rfl) (by simp) ?_
    refine AllReadyH.cons rfl (fun K hK => ?_) AllReadyH.nil
    go_simp
    refine (k2 _).mono ?_
    rintro e w1 ⟨rfl, rfl⟩
    refine hK.out _ _ HS.drew.conj (fun hHeld => ?_)
    clear hK K
    try simp only [Act.put, List.setIfInBounds_toArray, List.set_cons_zero, List.set_cons_succ]
    refine wpAnyH_ready (rs := [5]) (by kernel_rfl) (by simp) ?_
    refine AllReadyH.cons rfl (fun K hK => ?_) AllReadyH.nil
    go_simp
    refine (k4 _).mono ?_
    rintro e w1 ⟨rfl, hb1⟩
    exact ⟨rfl, rfl, (HS.drew.step hb1).bel⟩
end Go.Proofs.YtjdollmfjflkoaaGreatDoor
namespace Go.Proofs.YtjdollmfjflkoaaGreatDoor
open Go.RowKit

theorem trunc_any (a : Int) (w : World) (h : -9223372036854775808 ≤ a ∧ a ≤ 9223372036854775807) :
    Calls Tryz.prog 130 #[.int .i64 a] w fun e w' => e = .returned (.int .i64 (a.tdiv 1000000)) ∧ w = w' := by
  go_enter Tryz.func130, Tryz.ntmps130
  go_wp2
  go_ret
  exact ⟨rfl, rfl⟩
theorem sub1_any (p q : Nat) (a b : Int) (w : World) (ha : -9223372036854775808 ≤ a ∧ a ≤ 9223372036854775807) (hb : -9223372036854775808 ≤ b ∧ b ≤ 9223372036854775807)
    (hp : w.cell? ⟨p, 0, none⟩ = some (.int .i64 a)) (hq : w.cell? ⟨q, 0, none⟩ = some (.int .i64 b)) :
    Calls Tryz.prog 146 #[.pointer (some ⟨p, 0, none⟩), .pointer (some ⟨q, 0, none⟩)] w fun e w' => e = deedOf (a - b) ∧ Below w.heap.size w w' := by
  have k1 := fun w => difference_any a b w ha hb
  clear ha hb
  by_cases hin : -9223372036854775808 ≤ a - b ∧ a - b ≤ 9223372036854775807
  · rw [deedOf_in hin] at *
    clear hin
    go_enter Tryz.func146, Tryz.ntmps146
    go_wp2_with (go_at_call 147; refine (k1 _).mono ?_; rintro e w' ⟨rfl, rfl⟩)
    go_ret
    exact ⟨rfl, Below.refl _ _⟩
  · rw [deedOf_out hin] at *
    clear hin
    unfold overE at *
    go_enter Tryz.func146, Tryz.ntmps146
    go_wp2_with (go_at_call 147; refine (k1 _).mono ?_; rintro e w' ⟨rfl, rfl⟩)
    exact ⟨rfl, rfl, Below.refl _ _⟩

/-- Two variables that were just made, behind whatever was laid since. -/
theorem two_of_new {w : World} {a b : Int} {w1 : World} (hb : Below ((w.alloc (.cells #[.int .i64 a] 2)).alloc (.cells #[.int .i64 b] 2)).heap.size ((w.alloc (.cells #[.int .i64 a] 2)).alloc (.cells #[.int .i64 b] 2)) w1) :
    w1.cell? ⟨w.heap.size, 0, none⟩ = some (.int .i64 a) ∧ w1.cell? ⟨w.heap.size + 1, 0, none⟩ = some (.int .i64 b) := by
  obtain ⟨T1, T2, T3, _⟩ := two_new w (.cells #[.int .i64 a] 2) (.cells #[.int .i64 b] 2)
  exact ⟨(cell_one (below_two hb T1 (by rw [T3]; omega))).1, (cell_one (below_two hb T2 (by rw [T3]; omega))).1⟩
theorem add_any (a b : Int) (w : World) (ha : -9223372036854775808 ≤ a ∧ a ≤ 9223372036854775807) (hb : -9223372036854775808 ≤ b ∧ b ≤ 9223372036854775807) :
    Calls Tryz.prog 118 #[.int .i64 a, .int .i64 b] w fun e w' => e = intoE (a + b) ∧ Below w.heap.size w w' := by
  have hmf : ∀ (fn : Fn) (first cap : Array Value) (w : World), (Instr.makeFunc fn first cap).run Tryz.prog w = .ok (.func fn first cap) w := fun _ _ _ _ => rfl
  have k1 := kept_any 144 #[.pointer (some ⟨w.heap.size, 0, none⟩), .pointer (some ⟨w.heap.size + 1, 0, none⟩)] (a + b) ((w.alloc (.cells #[.int .i64 a] 2)).alloc (.cells #[.int .i64 b] 2)) (enters_of Tryz.func144 (by kernel_rfl) rfl) (fun w1 hb1 => add1_any w.heap.size (w.heap.size + 1) a b w1 ha hb (two_of_new hb1).1 (two_of_new hb1).2)
  unfold intoE at *
  clear ha hb
  generalize into (a + b) = r at *
  go_enter Tryz.func118, Tryz.ntmps118
  go_wp2_with (go_at_call 143; refine k1.mono ?_; rintro e w' ⟨rfl, hb2⟩)
  go_ret2
  exact ⟨rfl, ((two_new _ _ _).2.2.2).trans (hb2.mono ((two_new _ _ _).2.2.2).size)⟩
theorem sub_any (a b : Int) (w : World) (ha : -9223372036854775808 ≤ a ∧ a ≤ 9223372036854775807) (hb : -9223372036854775808 ≤ b ∧ b ≤ 9223372036854775807) :
    Calls Tryz.prog 119 #[.int .i64 a, .int .i64 b] w fun e w' => e = intoE (a - b) ∧ Below w.heap.size w w' := by
  have hmf : ∀ (fn : Fn) (first cap : Array Value) (w : World), (Instr.makeFunc fn first cap).run Tryz.prog w = .ok (.func fn first cap) w := fun _ _ _ _ => rfl
  have k1 := kept_any 146 #[.pointer (some ⟨w.heap.size, 0, none⟩), .pointer (some ⟨w.heap.size + 1, 0, none⟩)] (a - b) ((w.alloc (.cells #[.int .i64 a] 2)).alloc (.cells #[.int .i64 b] 2)) (enters_of Tryz.func146 (by kernel_rfl) rfl) (fun w1 hb1 => sub1_any w.heap.size (w.heap.size + 1) a b w1 ha hb (two_of_new hb1).1 (two_of_new hb1).2)
  unfold intoE at *
  clear ha hb
  generalize into (a - b) = r at *
  go_enter Tryz.func119, Tryz.ntmps119
  go_wp2_with (go_at_call 143; refine k1.mono ?_; rintro e w' ⟨rfl, hb2⟩)
  go_ret2
  exact ⟨rfl, ((two_new _ _ _).2.2.2).trans (hb2.mono ((two_new _ _ _).2.2.2).size)⟩
theorem mul_any (a b : Int) (w : World) (ha : -9223372036854775808 ≤ a ∧ a ≤ 9223372036854775807) (hb : -9223372036854775808 ≤ b ∧ b ≤ 9223372036854775807) :
    Calls Tryz.prog 120 #[.int .i64 a, .int .i64 b] w fun e w' => e = intoE ((a * b).tdiv 1000000) ∧ Below w.heap.size w w' := by
  have hmf : ∀ (fn : Fn) (first cap : Array Value) (w : World), (Instr.makeFunc fn first cap).run Tryz.prog w = .ok (.func fn first cap) w := fun _ _ _ _ => rfl
  have k1 := kept_any 148 #[.pointer (some ⟨w.heap.size, 0, none⟩), .pointer (some ⟨w.heap.size + 1, 0, none⟩)] ((a * b).tdiv 1000000) ((w.alloc (.cells #[.int .i64 a] 2)).alloc (.cells #[.int .i64 b] 2)) (enters_of Tryz.func148 (by kernel_rfl) rfl) (fun w1 hb1 => mul1_any w.heap.size (w.heap.size + 1) a b w1 ha hb (two_of_new hb1).1 (two_of_new hb1).2)
  unfold intoE at *
  clear ha hb
  generalize into ((a * b).tdiv 1000000) = r at *
  go_enter Tryz.func120, Tryz.ntmps120
  go_wp2_with (go_at_call 143; refine k1.mono ?_; rintro e w' ⟨rfl, hb2⟩)
  go_ret2
  exact ⟨rfl, ((two_new _ _ _).2.2.2).trans (hb2.mono ((two_new _ _ _).2.2.2).size)⟩
theorem div_any (a b : Int) (w : World) (ha : -9223372036854775808 ≤ a ∧ a ≤ 9223372036854775807) (hb : -9223372036854775808 ≤ b ∧ b ≤ 9223372036854775807) (h0 : b ≠ 0) :
    Calls Tryz.prog 121 #[.int .i64 a, .int .i64 b] w fun e w' => e = intoE ((a * 1000000).tdiv b) ∧ Below w.heap.size w w' := by
  have hmf : ∀ (fn : Fn) (first cap : Array Value) (w : World), (Instr.makeFunc fn first cap).run Tryz.prog w = .ok (.func fn first cap) w := fun _ _ _ _ => rfl
  have k1 := kept_any 152 #[.pointer (some ⟨w.heap.size, 0, none⟩), .pointer (some ⟨w.heap.size + 1, 0, none⟩)] ((a * 1000000).tdiv b) ((w.alloc (.cells #[.int .i64 a] 2)).alloc (.cells #[.int .i64 b] 2)) (enters_of Tryz.func152 (by kernel_rfl) rfl) (fun w1 hb1 => div1_any w.heap.size (w.heap.size + 1) a b w1 ha hb h0 (two_of_new hb1).1 (two_of_new hb1).2)
  unfold intoE at *
  clear ha hb
  have h00 : ((b : Int) == 0) = false := beq_eq_false_iff_ne.2 h0
  clear h0
  generalize into ((a * 1000000).tdiv b) = r at *
  go_enter Tryz.func121, Tryz.ntmps121
  go_wp2_with (go_at_call 143; refine k1.mono ?_; rintro e w' ⟨rfl, hb2⟩)
  go_ret2
  exact ⟨rfl, ((two_new _ _ _).2.2.2).trans (hb2.mono ((two_new _ _ _).2.2.2).size)⟩
theorem mod_any (a b : Int) (w : World) (h0 : b ≠ 0) :
    Calls Tryz.prog 122 #[.int .i64 a, .int .i64 b] w fun e w' => e = .returned (.tuple #[.int .i64 (a.tmod b), .int .i64 0]) ∧ Below w.heap.size w w' := by
  have h1 : ((b : Int) == 0) = false := beq_eq_false_iff_ne.2 h0
  go_enter Tryz.func122, Tryz.ntmps122
  go_wp2
  go_ret2
  exact ⟨rfl, Below.refl _ _⟩
theorem mod_zero (a : Int) (w : World) :
    Calls Tryz.prog 122 #[.int .i64 a, .int .i64 0] w fun e w' => e = .returned (.tuple #[.int .i64 0, .int .i64 4]) ∧ Below w.heap.size w w' := by
  go_enter Tryz.func122, Tryz.ntmps122
  go_wp2
  go_ret2
  exact ⟨rfl, Below.refl _ _⟩
theorem div_zero (a : Int) (w : World) :
    Calls Tryz.prog 121 #[.int .i64 a, .int .i64 0] w fun e w' => e = .returned (.tuple #[.int .i64 0, .int .i64 4]) ∧ Below w.heap.size w w' := by
  have hmf : ∀ (fn : Fn) (first cap : Array Value) (w : World), (Instr.makeFunc fn first cap).run Tryz.prog w = .ok (.func fn first cap) w := fun _ _ _ _ => rfl
  go_enter Tryz.func121, Tryz.ntmps121
  go_wp2
  go_ret2
  exact ⟨rfl, (two_new _ _ _).2.2.2⟩
end Go.Proofs.YtjdollmfjflkoaaGreatDoor
namespace Go.Proofs.YtjdollmfjflkoaaGreatDoor
open Go.RowKit

theorem below_at {B : Nat} {w w1 w2 : World} (h : Below B w w1) (k : Below w1.heap.size w1 w2) (hB : B ≤ w1.heap.size) : Below B w w2 := h.trans (k.mono hB)
end Go.Proofs.YtjdollmfjflkoaaGreatDoor
