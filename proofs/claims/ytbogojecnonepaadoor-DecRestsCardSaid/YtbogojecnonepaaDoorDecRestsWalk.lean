/- The statement DecRests, walked. Condition: the library's table of powers of ten holds what its text lays. -/
import Derived.Test.YtbogojecnonepaaDoorDecShown
namespace Go.Proofs.YtbogojecnonepaaDoor
open Go.RowKit

set_option maxHeartbeats 1000000 in
theorem decRests_walk (a : Int) (ha : -9223372036854775808 ≤ a ∧ a ≤ 9223372036854775807) (b : Int) (hb : -9223372036854775808 ≤ b ∧ b ≤ 9223372036854775807) (w : World) (ht : Tab w) :
    Calls Tryd.prog 8 #[.int .i64 a, .int .i64 b] w fun e w' => e = .returned (.bool true) ∧ Below w.heap.size w w' := by
  have c1 := shown_any w ht
  by_cases h0 : b = 0
  · subst h0
    have k1 := fun w => mod_zero a w
    have k2 := fun w => div_zero a w
    clear ha hb
    go_enter Tryd.func8, Tryd.ntmps8
    go_wp2_with (first
      | (go_at_call 12; refine c1.mono ?_; rintro e w1 ⟨rfl, hb1⟩)
      | (go_at_call 25; with_reducible refine (k1 _).mono ?_; rintro e w2 ⟨rfl, hb2⟩; have HB2 := below_at hb1 hb2 hb1.size)
      | (go_at_call 23; with_reducible refine (k2 _).mono ?_; rintro e w3 ⟨rfl, hb3⟩; have HB3 := below_at HB2 hb3 HB2.size))
    all_goals
      go_ret
      exact ⟨rfl, HB3⟩
  · have k1 := fun w => mod_any a b w h0
    have k2 := fun w => div_any a b w ha hb h0
    obtain ⟨r, hr⟩ : ∃ r, r = a.tmod b := ⟨_, rfl⟩
    rw [← hr] at k1
    have hb0 : ((b : Int) == 0) = false := beq_eq_false_iff_ne.2 h0
    have hsmall : (r : Int).natAbs < b.natAbs := by rw [hr, Int.natAbs_tmod]; exact Nat.mod_lt _ (by omega)
    have hsign : r ≠ 0 → decide (r < 0) = decide (a < 0) := by
      intro hne
      congr 1
      refine propext ?_
      rw [hr] at hne ⊢
      rcases Int.le_total 0 a with h | h
      · have := Int.tmod_nonneg b h
        omega
      · have h2 : 0 ≤ (-a).tmod b := Int.tmod_nonneg b (by omega)
        rw [Int.neg_tmod] at h2
        constructor
        · intro h3; by_cases h4 : a = 0
          · subst h4; simp at h3
          · omega
        · intro _; omega
    have hdvd : (wrap64 (a - r)).tmod b = 0 := by
      have h1 : a - r = b * a.tdiv b := by have := Int.mul_tdiv_add_tmod a b; omega
      have h2 : wrap64 (a - r) = a - r := by
        rw [wrap64_eq]
        have h3 : (r : Int).natAbs ≤ a.natAbs := by rw [hr, Int.natAbs_tmod]; exact Nat.mod_le _ _
        by_cases h4 : r = 0
        · omega
        · have h5 := hsign h4
          have h6 : (r < 0 ↔ a < 0) := by
            rw [decide_eq_decide] at h5; exact h5
          omega
      rw [h2, h1, Int.mul_tmod_right]
    unfold intoE at k2
    generalize into ((a * 1000000).tdiv b) = q at k2
    have hd2 : (a - r).tmod b = 0 := by
      have h1 : a - r = b * a.tdiv b := by have := Int.mul_tdiv_add_tmod a b; omega
      rw [h1, Int.mul_tmod_right]
    have hlt : -9223372036854775808 ≤ r ∧ r ≤ 9223372036854775807 := by omega
    have hsg : r = 0 ∨ (r ≠ 0 ∧ r < 0 ∧ a < 0) ∨ (r ≠ 0 ∧ ¬ r < 0 ∧ ¬ a < 0) := by
      by_cases h4 : r = 0
      · exact .inl h4
      · have h5 := hsign h4
        rw [decide_eq_decide] at h5
        by_cases h6 : r < 0
        · exact .inr (.inl ⟨h4, h6, h5.1 h6⟩)
        · exact .inr (.inr ⟨h4, h6, fun h => h6 (h5.2 h)⟩)
    have hbc : ∃ z, wrap64 (-b) = z ∧ ((b < 0 ∧ b < r ∧ ¬ r < z ∧ ((b : Int) == z) = true) ∨ (b < 0 ∧ b < r ∧ r < z) ∨ (¬ b < 0 ∧ 0 < b ∧ r < b ∧ z < r)) := by
      refine ⟨_, rfl, ?_⟩
      rw [beq_iff_eq, wrap64_eq]
      omega
    obtain ⟨z, hz, hbc⟩ := hbc
    clear ha hr hsmall hsign hlt
    rcases hsg with rfl | ⟨s1, s2, s3⟩ | ⟨s1, s2, s3⟩
    · rw [Int.sub_zero] at hdvd hd2
      rcases hbc with ⟨q1, q2, q3, q4⟩ | ⟨q1, q2, q3⟩ | ⟨q1, q2, q3, q4⟩
      all_goals
        clear hb
        go_enter Tryd.func8, Tryd.ntmps8
        go_wp2_with (first
          | (go_at_call 12; refine c1.mono ?_; rintro e w1 ⟨rfl, hb1⟩)
          | (go_at_call 25; with_reducible refine (k1 _).mono ?_; rintro e w2 ⟨rfl, hb2⟩; have HB2 := below_at hb1 hb2 hb1.size)
          | (go_at_call 23; with_reducible refine (k2 _).mono ?_; rintro e w3 ⟨rfl, hb3⟩; have HB3 := below_at HB2 hb3 HB2.size))
        all_goals
          go_ret
          exact ⟨rfl, HB3⟩
    all_goals
      have t1 : ((r : Int) != 0) = true := bne_iff_ne.2 s1
      have t2 : ((r : Int) == 0) = false := beq_eq_false_iff_ne.2 s1
      have t3 : (!decide (r < 0) == decide (a < 0)) = false := by simp [s2, s3]
      clear s1
      rcases hbc with ⟨q1, q2, q3, q4⟩ | ⟨q1, q2, q3⟩ | ⟨q1, q2, q3, q4⟩
      all_goals
        clear hb
        go_enter Tryd.func8, Tryd.ntmps8
        go_wp2_with (first
          | (go_at_call 12; refine c1.mono ?_; rintro e w1 ⟨rfl, hb1⟩)
          | (go_at_call 25; with_reducible refine (k1 _).mono ?_; rintro e w2 ⟨rfl, hb2⟩; have HB2 := below_at hb1 hb2 hb1.size)
          | (go_at_call 23; with_reducible refine (k2 _).mono ?_; rintro e w3 ⟨rfl, hb3⟩; have HB3 := below_at HB2 hb3 HB2.size))
        all_goals
          go_ret
          exact ⟨rfl, HB3⟩
end Go.Proofs.YtbogojecnonepaaDoor
