/- The statement ValueOrder, walked. Condition: the library's table of powers of ten holds what its text lays. -/
import Derived.Test.YtokfkckfclnoaaaDoorValLowsWalk
namespace Go.Proofs.YtokfkckfclnoaaaDoor
open Go.RowKit

theorem compare_of_text (a b : Int) (ha : -9223372036854775808 ≤ a ∧ a ≤ 9223372036854775807) (hb : -9223372036854775808 ≤ b ∧ b ≤ 9223372036854775807) (w : World) :
    Calls Tryd.prog 44 #[.string (ba (textL a)), .string (ba (textL b))] w fun e w' => e = .returned (.int .i64 (cmpI a b)) ∧ Below w.heap.size w w' := by
  have := compare_any (ba (textL a)) (ba (textL b)) w (by have := ba_small a ha; omega) (by have := ba_small b hb; omega)
  rw [ba_list, ba_list, compare_text a b ha hb] at this
  exact this
theorem compare_x (s : ByteArray) (hs : s.size ≤ 1000) (w : World) :
    Calls Tryd.prog 44 #[.string (⟨#[120]⟩ ++ s), .string ((⟨#[120]⟩ ++ s) ++ ⟨#[97]⟩)] w fun e w' => e = .returned (.int .i64 (-1)) ∧ Below w.heap.size w w' := by
  have h1 : ((⟨#[120]⟩ : ByteArray) ++ s).size ≤ 2000 := by rw [ByteArray.size_append]; show 1 + s.size ≤ _; omega
  have h2 : (((⟨#[120]⟩ : ByteArray) ++ s) ++ ⟨#[97]⟩).size ≤ 3000 := by rw [ByteArray.size_append]; show _ + 1 ≤ _; omega
  have := compare_any (⟨#[120]⟩ ++ s) ((⟨#[120]⟩ ++ s) ++ ⟨#[97]⟩) w (by omega) (by omega)
  have e1 : ((⟨#[120]⟩ : ByteArray) ++ s).data.toList = 120 :: s.data.toList := by rw [ByteArray.data_append, Array.toList_append]; rfl
  have e2 : (((⟨#[120]⟩ : ByteArray) ++ s) ++ ⟨#[97]⟩).data.toList = 120 :: s.data.toList ++ [97] := by rw [ByteArray.data_append, Array.toList_append, e1]
  rw [e1, e2, compare_more] at this
  exact this
theorem compare_y (s : ByteArray) (hs : s.size ≤ 1000) (w : World) :
    Calls Tryd.prog 44 #[.string ⟨#[121]⟩, .string (⟨#[120]⟩ ++ s)] w fun e w' => e = .returned (.int .i64 1) ∧ Below w.heap.size w w' := by
  have h1 : ((⟨#[120]⟩ : ByteArray) ++ s).size ≤ 2000 := by rw [ByteArray.size_append]; show 1 + s.size ≤ _; omega
  have := compare_any ⟨#[121]⟩ (⟨#[120]⟩ ++ s) w (by decide) (by omega)
  have e1 : ((⟨#[120]⟩ : ByteArray) ++ s).data.toList = 120 :: s.data.toList := by rw [ByteArray.data_append, Array.toList_append]; rfl
  rw [e1, show (⟨#[121]⟩ : ByteArray).data.toList = [121] from rfl, compare_yx] at this
  exact this

theorem valueOrder_walk (a : Int) (ha : -9223372036854775808 ≤ a ∧ a ≤ 9223372036854775807) (b : Int) (hb : -9223372036854775808 ≤ b ∧ b ≤ 9223372036854775807) (s : ByteArray) (hsz : s.size ≤ 140737488351232) (w : World) (ht : Tab w) :
    Calls Tryd.prog 10 #[.int .i64 a, .int .i64 b, .string s] w fun e w' => e = .returned (.bool true) ∧ Below w.heap.size w w' := by
  have c1 := shownV_any w
  have HT := Lib.hid ht
  clear ht
  by_cases hbig : (200 : Int) < (s.size : Int)
  · have hdb : decide (200 < s.size) = true := by rw [decide_eq_true_eq]; omega
    go_enter Tryd.func10, Tryd.ntmps10
    go_wp2_with (go_at_call 33; refine c1.mono ?_; rintro e w1 ⟨rfl, hb1⟩)
    go_ret
    exact ⟨rfl, hb1⟩
  · have hs : s.size ≤ 1000 := by omega
    have k1 := fun w ht => text_ba a w ha ht
    have k2 := fun w ht => text_ba b w hb ht
    have k3 := fun w => compare_of_text a b ha hb w
    have k4 := fun w => compare_x s hs w
    have k5 := fun w => compare_y s hs w
    have hd : a < b ∨ a = b ∨ b < a := by omega
    have m1 : ¬ 9223372036854775807 < 1 + s.size := by omega
    have m2 : ¬ 9223372036854775807 < 1 + s.size + 1 := by omega
    have hcmp : (a < b ∧ cmpI a b = -1) ∨ (a = b ∧ cmpI a b = 0) ∨ (b < a ∧ cmpI a b = 1) := by
      unfold cmpI
      rcases hd with h | h | h
      · left; exact ⟨h, if_pos h⟩
      · right; left; subst h; exact ⟨rfl, by simp⟩
      · right; right; exact ⟨h, by rw [if_neg (by omega), if_pos h]⟩
    generalize cmpI a b = c at k3 hcmp
    clear hd
    rcases hcmp with ⟨h, rfl⟩ | ⟨h, rfl⟩ | ⟨h, rfl⟩
    · have h2 : decide (b < a) = false := decide_eq_false (by omega)
      go_enter Tryd.func10, Tryd.ntmps10
      go_wp2_with (first
        | (go_at_call 33; refine c1.mono ?_; rintro e w1 ⟨rfl, hb1⟩)
        | (go_at_call 15; (with_reducible refine (k1 _ (HT.out.below hb1)).mono ?_); rintro e w2 ⟨rfl, hb2⟩; have HB2 := below_at hb1 hb2 hb1.size)
        | (go_at_call 15; (with_reducible refine (k2 _ (HT.out.below HB2)).mono ?_); rintro e w3 ⟨rfl, hb3⟩; have HB3 := below_at HB2 hb3 HB2.size)
        | (go_at_call 44; (with_reducible refine (k3 _).mono ?_); rintro e w4 ⟨rfl, hb4⟩; have HB4 := below_at HB3 hb4 HB3.size)
        | (go_at_call 44; (with_reducible refine (k4 _).mono ?_); rintro e w5 ⟨rfl, hb5⟩; have HB5 := below_at HB4 hb5 HB4.size)
        | (go_at_call 44; (with_reducible refine (k5 _).mono ?_); rintro e w6 ⟨rfl, hb6⟩; have HB6 := below_at HB5 hb6 HB5.size))
      all_goals
        go_ret
        exact ⟨rfl, HB6⟩
    · subst h
      go_enter Tryd.func10, Tryd.ntmps10
      go_wp2_with (first
        | (go_at_call 33; refine c1.mono ?_; rintro e w1 ⟨rfl, hb1⟩)
        | (go_at_call 15; (with_reducible refine (k1 _ (HT.out.below hb1)).mono ?_); rintro e w2 ⟨rfl, hb2⟩; have HB2 := below_at hb1 hb2 hb1.size)
        | (go_at_call 15; (with_reducible refine (k2 _ (HT.out.below HB2)).mono ?_); rintro e w3 ⟨rfl, hb3⟩; have HB3 := below_at HB2 hb3 HB2.size)
        | (go_at_call 44; (with_reducible refine (k3 _).mono ?_); rintro e w4 ⟨rfl, hb4⟩; have HB4 := below_at HB3 hb4 HB3.size)
        | (go_at_call 44; (with_reducible refine (k4 _).mono ?_); rintro e w5 ⟨rfl, hb5⟩; have HB5 := below_at HB4 hb5 HB4.size)
        | (go_at_call 44; (with_reducible refine (k5 _).mono ?_); rintro e w6 ⟨rfl, hb6⟩; have HB6 := below_at HB5 hb6 HB5.size))
      all_goals
        go_ret
        exact ⟨rfl, HB6⟩
    · have h2 : decide (a < b) = false := decide_eq_false (by omega)
      go_enter Tryd.func10, Tryd.ntmps10
      go_wp2_with (first
        | (go_at_call 33; refine c1.mono ?_; rintro e w1 ⟨rfl, hb1⟩)
        | (go_at_call 15; (with_reducible refine (k1 _ (HT.out.below hb1)).mono ?_); rintro e w2 ⟨rfl, hb2⟩; have HB2 := below_at hb1 hb2 hb1.size)
        | (go_at_call 15; (with_reducible refine (k2 _ (HT.out.below HB2)).mono ?_); rintro e w3 ⟨rfl, hb3⟩; have HB3 := below_at HB2 hb3 HB2.size)
        | (go_at_call 44; (with_reducible refine (k3 _).mono ?_); rintro e w4 ⟨rfl, hb4⟩; have HB4 := below_at HB3 hb4 HB3.size)
        | (go_at_call 44; (with_reducible refine (k4 _).mono ?_); rintro e w5 ⟨rfl, hb5⟩; have HB5 := below_at HB4 hb5 HB4.size)
        | (go_at_call 44; (with_reducible refine (k5 _).mono ?_); rintro e w6 ⟨rfl, hb6⟩; have HB6 := below_at HB5 hb6 HB5.size))
      all_goals
        go_ret
        exact ⟨rfl, HB6⟩
end Go.Proofs.YtokfkckfclnoaaaDoor
