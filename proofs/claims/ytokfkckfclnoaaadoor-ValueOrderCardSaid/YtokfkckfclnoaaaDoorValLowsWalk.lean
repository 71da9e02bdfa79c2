/- The statement ValueLows, walked. Condition: the library's table of powers of ten holds what its text lays. -/
import Derived.Test.YtokfkckfclnoaaaDoorValShown
import Derived.Test.YtokfkckfclnoaaaDoorDecBackWalk
namespace Go.Proofs.YtokfkckfclnoaaaDoor
open Go.RowKit

theorem ba_small (n : Int) (hn : -9223372036854775808 ≤ n ∧ n ≤ 9223372036854775807) : (ba (textL n)).size ≤ 40 := by rw [ba_len]; exact text_len n hn
theorem text_ba (n : Int) (w : World) (hn : -9223372036854775808 ≤ n ∧ n ≤ 9223372036854775807) (ht : Tab w) :
    Calls Tryd.prog 15 #[.int .i64 n] w fun e w' => e = .returned (.string (ba (textL n))) ∧ Below w.heap.size w w' := text_any n w hn ht
theorem low_of_text (n : Int) (hn : -9223372036854775808 ≤ n ∧ n ≤ 9223372036854775807) (w : World) :
    Calls Tryd.prog 38 #[.string (ba (textL n))] w fun e w' => e = .returned (.tuple #[.int .i64 (n.tdiv 1000000 % 256), .int .i64 0]) ∧ Below w.heap.size w w' := by
  have := low_any (ba (textL n)) w (by have := ba_small n hn; omega)
  rw [ba_list] at this
  unfold lowE at this
  rw [low_text n hn] at this
  exact this
theorem tdiv_up (n : Int) (h : 0 ≤ n) : (n + 256000000).tdiv 1000000 % 256 = n.tdiv 1000000 % 256 := by
  rw [Int.tdiv_eq_ediv_of_nonneg (by omega), Int.tdiv_eq_ediv_of_nonneg h]; omega
theorem tdiv_b (n : Int) (hn : -9223372036854775808 ≤ n ∧ n ≤ 9223372036854775807) : -9223372036855 ≤ n.tdiv 1000000 ∧ n.tdiv 1000000 ≤ 9223372036855 := by
  have hq : (n.tdiv 1000000).natAbs = n.natAbs / 1000000 := Int.natAbs_tdiv n 1000000
  omega
theorem lows_rest (k : Int) : (k % 256 - k) % 256 = 0 ∧ (k % 256 - k).tmod 256 = 0 := by
  have h : (k % 256 - k) % 256 = 0 := by omega
  exact ⟨h, Int.tmod_eq_zero_of_dvd (Int.dvd_of_emod_eq_zero h)⟩

theorem valueLows_walk (n : Int) (hn : -9223372036854775808 ≤ n ∧ n ≤ 9223372036854775807) (w : World) (ht : Tab w) :
    Calls Tryd.prog 11 #[.int .i64 n] w fun e w' => e = .returned (.bool true) ∧ Below w.heap.size w w' := by
  have c1 := shownV_any w
  have HT := Lib.hid ht
  clear ht
  by_cases hbig : (9000000000000000000 : Int) < n
  · go_enter Tryd.func11, Tryd.ntmps11
    go_wp2_with (go_at_call 33; refine c1.mono ?_; rintro e w1 ⟨rfl, hb1⟩)
    go_ret
    exact ⟨rfl, hb1⟩
  · by_cases hsm : n < -9000000000000000000
    · go_enter Tryd.func11, Tryd.ntmps11
      go_wp2_with (go_at_call 33; refine c1.mono ?_; rintro e w1 ⟨rfl, hb1⟩)
      go_ret
      exact ⟨rfl, hb1⟩
    · have k1 := fun w ht => text_ba n w hn ht
      have k2 := fun w => low_of_text n hn w
      have k3 := fun w => trunc_any n w hn
      have k4 := fun w ht => text_ba (n + 256000000) w (by omega) ht
      have k5 := fun w => low_of_text (n + 256000000) (by omega) w
      have hk := tdiv_b n hn
      have hr := lows_rest (n.tdiv 1000000)
      have hu : ¬ n < 0 → (n + 256000000).tdiv 1000000 % 256 = n.tdiv 1000000 % 256 := fun h => tdiv_up n (by omega)
      generalize (n + 256000000).tdiv 1000000 % 256 = b at k5 hu
      have ha : 0 ≤ n.tdiv 1000000 % 256 ∧ n.tdiv 1000000 % 256 < 256 := by omega
      generalize n.tdiv 1000000 % 256 = a at *
      generalize n.tdiv 1000000 = k at *
      obtain ⟨hr1, hr2⟩ := hr
      by_cases h0 : n < 0
      · clear hu k4 k5
        go_enter Tryd.func11, Tryd.ntmps11
        go_wp2_with (first
          | (go_at_call 33; refine c1.mono ?_; rintro e w1 ⟨rfl, hb1⟩)
          | (go_at_call 15; (with_reducible refine (k1 _ (HT.out.below hb1)).mono ?_); rintro e w2 ⟨rfl, hb2⟩; have HB2 := below_at hb1 hb2 hb1.size)
          | (go_at_call 38; refine (k2 _).mono ?_; rintro e w3 ⟨rfl, hb3⟩; have HB3 := below_at HB2 hb3 HB2.size)
          | (go_at_call 29; refine (k3 _).mono ?_; rintro e w' ⟨rfl, rfl⟩))
        all_goals
          go_ret
          exact ⟨rfl, HB3⟩
      · have hu2 := hu h0
        subst hu2
        clear hu
        go_enter Tryd.func11, Tryd.ntmps11
        go_wp2_with (first
          | (go_at_call 33; refine c1.mono ?_; rintro e w1 ⟨rfl, hb1⟩)
          | (go_at_call 15; (with_reducible refine (k1 _ (HT.out.below hb1)).mono ?_); rintro e w2 ⟨rfl, hb2⟩; have HB2 := below_at hb1 hb2 hb1.size)
          | (go_at_call 38; (with_reducible refine (k2 _).mono ?_); rintro e w3 ⟨rfl, hb3⟩; have HB3 := below_at HB2 hb3 HB2.size)
          | (go_at_call 29; refine (k3 _).mono ?_; rintro e w' ⟨rfl, rfl⟩)
          | (go_at_call 15; (with_reducible refine (k4 _ (HT.out.below HB3)).mono ?_); rintro e w4 ⟨rfl, hb4⟩; have HB4 := below_at HB3 hb4 HB3.size)
          | (go_at_call 38; (with_reducible refine (k5 _).mono ?_); rintro e w5 ⟨rfl, hb5⟩; have HB5 := below_at HB4 hb5 HB4.size))
        all_goals
          go_ret
          exact ⟨rfl, HB5⟩
end Go.Proofs.YtokfkckfclnoaaaDoor
