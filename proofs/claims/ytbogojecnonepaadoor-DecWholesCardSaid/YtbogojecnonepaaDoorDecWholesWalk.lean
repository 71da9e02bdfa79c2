/- The statement DecWholes, walked. Condition: the library's table of powers of ten holds what its text lays. -/
import Derived.Test.YtbogojecnonepaaDoorDecShown
namespace Go.Proofs.YtbogojecnonepaaDoor
open Go.RowKit

theorem text_whole (n : Int) : textL (n * 1000000) = (if n < 0 then [45] else []) ++ Lib.decDigits n.natAbs := by
  have h1 : (n * 1000000).natAbs = n.natAbs * 1000000 := by rw [Int.natAbs_mul]; rfl
  have h2 : textU (n.natAbs * 1000000) = Lib.decDigits n.natAbs := by
    unfold textU
    rw [Nat.mul_mod_left, Nat.mul_div_cancel _ (by omega), show stripZ (frac 6 0) = [] by decide, if_pos rfl, List.append_nil]
  unfold textL
  rw [h1, h2]
  by_cases h : n < 0
  · rw [if_pos h, if_pos (by omega)]; rfl
  · rw [if_neg h, if_neg (by omega)]; rfl
theorem whole_no_point (n : Int) : ∀ c ∈ textL (n * 1000000), c ≠ 46 := by
  intro c hc
  rw [text_whole, List.mem_append] at hc
  rcases hc with h | h
  · split at h
    · have : c = 45 := by simpa using h
      rw [this]; decide
    · cases h
  · have := (dec_figs n.natAbs).1
    rw [List.all_eq_true] at this
    exact (fig_plain c (this c h)).2.2
theorem no_point_at (s : ByteArray) (h : ∀ c ∈ s.data.toList, c ≠ 46) (k : Nat) (hk : k < s.size) : ((s[k].toNat : Int) == 46) = false := by
  have h1 : s[k] ∈ s.data.toList := by
    have : s.data.toList[k]? = some s[k] := by rw [List.getElem?_eq_getElem (by rw [Array.length_toList]; exact hk)]; rfl
    exact List.mem_of_getElem? this
  refine beq_eq_false_iff_ne.2 (fun e => h _ h1 (UInt8.toNat_inj.1 ?_))
  show s[k].toNat = 46
  omega

set_option maxHeartbeats 4000000 in
theorem decWholes_walk (n : Int) (hn : -9223372036854775808 ≤ n ∧ n ≤ 9223372036854775807) (a : Int) (ha : -9223372036854775808 ≤ a ∧ a ≤ 9223372036854775807) (w : World) (ht : Tab w) :
    Calls Tryd.prog 10 #[.int .i64 n, .int .i64 a] w fun e w' => e = .returned (.bool true) ∧ Below w.heap.size w w' := by
  have c1 := shown_any w ht
  have k1 := fun w => whole10_any n w hn
  have k2 := fun w => trunc_any a w ha
  have hq : (a.tdiv 1000000).natAbs = a.natAbs / 1000000 := Int.natAbs_tdiv a 1000000
  have hr : a - a.tdiv 1000000 * 1000000 = a.tmod 1000000 := by have := Int.mul_tdiv_add_tmod a 1000000; omega
  have hrs : (a.tmod 1000000).natAbs = a.natAbs % 1000000 := Int.natAbs_tmod a 1000000
  have hsg : (0 ≤ a → 0 ≤ a.tmod 1000000) ∧ (a ≤ 0 → a.tmod 1000000 ≤ 0) := by
    refine ⟨fun h => Int.tmod_nonneg _ h, fun h => ?_⟩
    have := Int.tmod_nonneg 1000000 (show 0 ≤ -a by omega)
    rw [Int.neg_tmod] at this
    omega
  have hkr : -9223372036854775808 ≤ a.tdiv 1000000 ∧ a.tdiv 1000000 ≤ 9223372036854775807 := by omega
  have k3 := fun w => whole10_any (a.tdiv 1000000) w hkr
  have hb : -9223372036854775808 ≤ a.tdiv 1000000 * 1000000 ∧ a.tdiv 1000000 * 1000000 ≤ 9223372036854775807 := by omega
  rw [intoE_in hb] at k3
  have k4 := fun w => sub_any a (a.tdiv 1000000 * 1000000) w ha hb
  rw [hr, intoE_in (by omega)] at k4
  clear hr
  have hfacts : ¬ a.tmod 1000000 ≤ -1000000 ∧ ¬ 1000000 ≤ a.tmod 1000000 := by omega
  have hcase : a.tmod 1000000 = 0 ∨ (a.tmod 1000000 ≠ 0 ∧ a.tmod 1000000 < 0 ∧ a < 0) ∨ (a.tmod 1000000 ≠ 0 ∧ ¬ a.tmod 1000000 < 0 ∧ ¬ a < 0) := by omega
  generalize a.tmod 1000000 = r at k4 hfacts hcase
  generalize a.tdiv 1000000 * 1000000 = bk at k3 k4
  generalize a.tdiv 1000000 = k at k2 k3
  obtain ⟨f1, f2⟩ := hfacts
  have HT := Lib.hid ht
  clear hq hrs hsg hkr hb ht ha
  by_cases hin : -9223372036854775808 ≤ n * 1000000 ∧ n * 1000000 ≤ 9223372036854775807
  · rw [intoE_in hin] at k1
    have k5 := fun w ht => text_any (n * 1000000) w hin ht
    have k6 := fun w => trunc_any (n * 1000000) w hin
    rw [show (n * 1000000).tdiv 1000000 = n from Int.mul_tdiv_cancel n (by omega)] at k6
    obtain ⟨s, hs⟩ : ∃ s, s = ba (textL (n * 1000000)) := ⟨_, rfl⟩
    have hS : str (textL (n * 1000000)) = .string s := by rw [hs]; rfl
    have hs40 : s.size ≤ 1000 := by
      rw [hs, ba_len, text_whole, List.length_append]
      have h1 := decDigits_len n.natAbs (by omega)
      have h2 : ((if n < 0 then [45] else []) : List UInt8).length ≤ 1 := by split <;> simp
      omega
    have hnp := no_point_at s (by rw [hs, ba_list]; exact whole_no_point n)
    rw [hS] at k5
    clear hin hs hS hn
    generalize n * 1000000 = m at k1 k5 k6
    rcases hcase with rfl | ⟨g1, g2, g3⟩ | ⟨g1, g2, g3⟩
    · go_enter Tryd.func10, Tryd.ntmps10
      go_wp2_with (first
        | (go_at_call 12; with_reducible refine c1.mono ?_; rintro e w1 ⟨rfl, hb1⟩)
        | (go_at_call 27; first | (with_reducible refine (k1 _).mono ?_; rintro e w2 ⟨rfl, hb2⟩; have HB2 := below_at hb1 hb2 hb1.size) | (with_reducible refine (k3 _).mono ?_; rintro e w3 ⟨rfl, hb3⟩; have HB3 := below_at HB2 hb3 HB2.size))
        | (go_at_call 29; first | (with_reducible refine (k2 _).mono ?_; rintro e w' ⟨rfl, rfl⟩) | (with_reducible refine (k6 _).mono ?_; rintro e w' ⟨rfl, rfl⟩))
        | (go_at_call 19; with_reducible refine (k4 _).mono ?_; rintro e w4 ⟨rfl, hb4⟩; have HB4 := below_at HB3 hb4 HB3.size)
        | (go_at_call 15; with_reducible refine (k5 _ (HT.out.below HB4)).mono ?_; rintro e w5 ⟨rfl, hb5⟩; have HB5 := below_at HB4 hb5 HB4.size))
      go_loop [14] (fun i => ∃ j : Nat, j ≤ s.size ∧ i = .int .i64 (j : Int)) (fun i => s.size - (intOf i).toNat)
      case atStart => exact ⟨0, Nat.zero_le _, rfl⟩
      case round =>
        obtain ⟨j, hj, rfl⟩ := hrel
        by_cases hlt : j < s.size
        · have hp := hnp j hlt
          have hwj : wrap64 ((j : Int) + 1) = (j : Int) + 1 := by rw [wrap64_eq]; omega
          clear hnp
          go_wp2
          go_round
          case rel => exact ⟨j + 1, by omega, by go_num⟩
          case measure => simp only [intOf]; omega
        · clear hnp
          go_wp2_with (go_at_call 29; with_reducible refine (k6 _).mono ?_; rintro e w' ⟨rfl, rfl⟩)
          all_goals
            go_ret
            exact ⟨rfl, HB5⟩
    all_goals
      have t1 : ((r : Int) != 0) = true := bne_iff_ne.2 g1
      have t3 : (!decide (r < 0) == decide (a < 0)) = false := by simp [g2, g3]
      clear g1
      go_enter Tryd.func10, Tryd.ntmps10
      go_wp2_with (first
        | (go_at_call 12; with_reducible refine c1.mono ?_; rintro e w1 ⟨rfl, hb1⟩)
        | (go_at_call 27; first | (with_reducible refine (k1 _).mono ?_; rintro e w2 ⟨rfl, hb2⟩; have HB2 := below_at hb1 hb2 hb1.size) | (with_reducible refine (k3 _).mono ?_; rintro e w3 ⟨rfl, hb3⟩; have HB3 := below_at HB2 hb3 HB2.size))
        | (go_at_call 29; first | (with_reducible refine (k2 _).mono ?_; rintro e w' ⟨rfl, rfl⟩) | (with_reducible refine (k6 _).mono ?_; rintro e w' ⟨rfl, rfl⟩))
        | (go_at_call 19; with_reducible refine (k4 _).mono ?_; rintro e w4 ⟨rfl, hb4⟩; have HB4 := below_at HB3 hb4 HB3.size)
        | (go_at_call 15; with_reducible refine (k5 _ (HT.out.below HB4)).mono ?_; rintro e w5 ⟨rfl, hb5⟩; have HB5 := below_at HB4 hb5 HB4.size))
      go_loop [14] (fun i => ∃ j : Nat, j ≤ s.size ∧ i = .int .i64 (j : Int)) (fun i => s.size - (intOf i).toNat)
      case atStart => exact ⟨0, Nat.zero_le _, rfl⟩
      case round =>
        obtain ⟨j, hj, rfl⟩ := hrel
        by_cases hlt : j < s.size
        · have hp := hnp j hlt
          have hwj : wrap64 ((j : Int) + 1) = (j : Int) + 1 := by rw [wrap64_eq]; omega
          clear hnp
          go_wp2
          go_round
          case rel => exact ⟨j + 1, by omega, by go_num⟩
          case measure => simp only [intOf]; omega
        · clear hnp
          go_wp2_with (go_at_call 29; with_reducible refine (k6 _).mono ?_; rintro e w' ⟨rfl, rfl⟩)
          all_goals
            go_ret
            exact ⟨rfl, HB5⟩
  · rw [intoE_out hin] at k1
    have hbig : (9223372036854 : Int) < n ∨ (¬ (9223372036854 : Int) < n ∧ n < -9223372036854) := by omega
    clear hin hn
    rcases hcase with rfl | ⟨g1, g2, g3⟩ | ⟨g1, g2, g3⟩
    · rcases hbig with b1 | ⟨b1, b2⟩
      all_goals
        go_enter Tryd.func10, Tryd.ntmps10
        go_wp2_with (first
          | (go_at_call 12; with_reducible refine c1.mono ?_; rintro e w1 ⟨rfl, hb1⟩)
          | (go_at_call 27; first | (with_reducible refine (k1 _).mono ?_; rintro e w2 ⟨rfl, hb2⟩; have HB2 := below_at hb1 hb2 hb1.size) | (with_reducible refine (k3 _).mono ?_; rintro e w3 ⟨rfl, hb3⟩; have HB3 := below_at HB2 hb3 HB2.size))
          | (go_at_call 29; first | (with_reducible refine (k2 _).mono ?_; rintro e w' ⟨rfl, rfl⟩) | (with_reducible refine (k6 _).mono ?_; rintro e w' ⟨rfl, rfl⟩))
          | (go_at_call 19; with_reducible refine (k4 _).mono ?_; rintro e w4 ⟨rfl, hb4⟩; have HB4 := below_at HB3 hb4 HB3.size)
          | (go_at_call 15; with_reducible refine (k5 _ (HT.out.below HB4)).mono ?_; rintro e w5 ⟨rfl, hb5⟩; have HB5 := below_at HB4 hb5 HB4.size))
        all_goals
          go_ret
          exact ⟨rfl, HB4⟩
    all_goals
      have t1 : ((r : Int) != 0) = true := bne_iff_ne.2 g1
      have t3 : (!decide (r < 0) == decide (a < 0)) = false := by simp [g2, g3]
      clear g1
      rcases hbig with b1 | ⟨b1, b2⟩
      all_goals
        go_enter Tryd.func10, Tryd.ntmps10
        go_wp2_with (first
          | (go_at_call 12; with_reducible refine c1.mono ?_; rintro e w1 ⟨rfl, hb1⟩)
          | (go_at_call 27; first | (with_reducible refine (k1 _).mono ?_; rintro e w2 ⟨rfl, hb2⟩; have HB2 := below_at hb1 hb2 hb1.size) | (with_reducible refine (k3 _).mono ?_; rintro e w3 ⟨rfl, hb3⟩; have HB3 := below_at HB2 hb3 HB2.size))
          | (go_at_call 29; first | (with_reducible refine (k2 _).mono ?_; rintro e w' ⟨rfl, rfl⟩) | (with_reducible refine (k6 _).mono ?_; rintro e w' ⟨rfl, rfl⟩))
          | (go_at_call 19; with_reducible refine (k4 _).mono ?_; rintro e w4 ⟨rfl, hb4⟩; have HB4 := below_at HB3 hb4 HB3.size)
          | (go_at_call 15; with_reducible refine (k5 _ (HT.out.below HB4)).mono ?_; rintro e w5 ⟨rfl, hb5⟩; have HB5 := below_at HB4 hb5 HB4.size))
        all_goals
          go_ret
          exact ⟨rfl, HB4⟩
end Go.Proofs.YtbogojecnonepaaDoor
