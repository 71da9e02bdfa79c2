/- The leaves of layer 3: comparing two of one type, yes or no as a text, what a text begins with, as the plain functions of ValMath say it. Condition: texts are shorter than 2^44. -/
import Derived.Test.YtokfkckfclnoaaaDoorValMath
import Derived.Test.YtokfkckfclnoaaaDoorDecShown
import Derived.Deep.QuietTactic
import Derived.BigQuiet
namespace Go.Proofs.YtokfkckfclnoaaaDoor
open Go.RowKit

theorem isNaNI_any (x : Int) (w : World) : Calls Tryd.prog 99 #[.int .i64 x] w fun e w' => e = .returned (.bool false) ∧ w = w' := by
  have h : ((x : Int) != x) = false := by simp
  go_enter Tryd.func99, Tryd.ntmps99
  go_wp2
  go_ret
  exact ⟨rfl, rfl⟩
theorem isNaNS_any (x : ByteArray) (w : World) : Calls Tryd.prog 100 #[.string x] w fun e w' => e = .returned (.bool false) ∧ w = w' := by
  go_enter Tryd.func100, Tryd.ntmps100
  go_wp2
  go_ret
  exact ⟨by simp, rfl⟩
theorem cmpI_any (x y : Int) (w : World) : Calls Tryd.prog 76 #[.int .i64 x, .int .i64 y] w fun e w' => e = .returned (.int .i64 (cmpI x y)) ∧ w = w' := by
  by_cases h : x < y
  · have e : cmpI x y = -1 := if_pos h
    rw [e]
    clear e
    go_enter Tryd.func76, Tryd.ntmps76
    go_wp2_with (go_at_call 99; refine (isNaNI_any _ _).mono ?_; rintro e w' ⟨rfl, rfl⟩)
    go_ret
    exact ⟨rfl, rfl⟩
  · by_cases k : y < x
    · have e : cmpI x y = 1 := by unfold cmpI; rw [if_neg h, if_pos k]
      rw [e]
      clear e
      go_enter Tryd.func76, Tryd.ntmps76
      go_wp2_with (go_at_call 99; refine (isNaNI_any _ _).mono ?_; rintro e w' ⟨rfl, rfl⟩)
      go_ret
      exact ⟨rfl, rfl⟩
    · have e : cmpI x y = 0 := by unfold cmpI; rw [if_neg h, if_neg k]
      rw [e]
      clear e
      go_enter Tryd.func76, Tryd.ntmps76
      go_wp2_with (go_at_call 99; refine (isNaNI_any _ _).mono ?_; rintro e w' ⟨rfl, rfl⟩)
      go_ret
      exact ⟨rfl, rfl⟩
theorem ba_toList (s : ByteArray) : s.toList = s.data.toList := by
  rw [ByteArray.toList_eq]
theorem cmpS_any (x y : ByteArray) (w : World) : Calls Tryd.prog 77 #[.string x, .string y] w fun e w' => e = .returned (.int .i64 (cmpL x.data.toList y.data.toList)) ∧ w = w' := by
  rcases cmpL_cases x.data.toList y.data.toList with ⟨h, h1, h2⟩ | ⟨h, h1, h2⟩ | ⟨h, h1⟩
  · rw [h, ← ba_toList, ← ba_toList] at *
    clear h h2
    go_enter Tryd.func77, Tryd.ntmps77
    go_wp2_with (go_at_call 100; refine (isNaNS_any _ _).mono ?_; rintro e w' ⟨rfl, rfl⟩)
    go_ret
    exact ⟨rfl, rfl⟩
  · rw [h, ← ba_toList, ← ba_toList] at *
    have h3 : (x.toList == y.toList) = false := by
      refine beq_eq_false_iff_ne.2 (fun e => ?_)
      rw [e, bytesLess_irr] at h2; cases h2
    have h4 : (Op.bytesLess x.toList y.toList || (x.toList == y.toList)) = false := by rw [h1, h3]; rfl
    clear h
    go_enter Tryd.func77, Tryd.ntmps77
    go_wp2_with (go_at_call 100; refine (isNaNS_any _ _).mono ?_; rintro e w' ⟨rfl, rfl⟩)
    go_ret
    exact ⟨rfl, rfl⟩
  · have hxy : x = y := by
      cases x; cases y
      congr 1
      exact Array.toList_inj.1 h1
    subst hxy
    rw [h]
    have h2 := bytesLess_irr x.toList
    have h3 : (x.toList == x.toList) = true := beq_self_eq_true _
    clear h h1
    go_enter Tryd.func77, Tryd.ntmps77
    go_wp2_with (go_at_call 100; refine (isNaNS_any _ _).mono ?_; rintro e w' ⟨rfl, rfl⟩)
    go_ret
    exact ⟨rfl, rfl⟩
theorem of_any (b : Bool) (w : World) : Calls Tryd.prog 42 #[.bool b] w fun e w' => e = .returned (.string (if b then ⟨#[49]⟩ else ⟨#[48]⟩)) ∧ w = w' := by
  cases b
  all_goals
    go_enter Tryd.func42, Tryd.ntmps42
    go_wp2
    go_ret
    exact ⟨rfl, rfl⟩
theorem readE_tuple (l : List UInt8) : readE l = .returned (.tuple #[.int .i64 (readD l).1, .int .i64 (readD l).2.1, .int .i64 (readD l).2.2]) := rfl
theorem numberV_walk (s : ByteArray) (n u er m f : Int) (w : World) (k1 : ∀ w, Calls Tryd.prog 13 #[.string s] w fun e w' => e = .returned (.tuple #[.int .i64 n, .int .i64 u, .int .i64 er]) ∧ Below w.heap.size w w')
    (h : er = 2 ∧ m = 0 ∧ f = 0 ∨ ((er : Int) == 2) = false ∧ m = n ∧ f = er) :
    Calls Tryd.prog 36 #[.string s] w fun e w' => e = .returned (.tuple #[.int .i64 m, .int .i64 f]) ∧ Below w.heap.size w w' := by
  rcases h with ⟨rfl, rfl, rfl⟩ | ⟨h1, rfl, rfl⟩
  all_goals
    go_enter Tryd.func36, Tryd.ntmps36
    go_wp2_with (go_at_call 13; refine (k1 _).mono ?_; rintro e w1 ⟨rfl, hb1⟩)
    go_ret2
    exact ⟨rfl, hb1⟩
def numberE (l : List UInt8) : Ending := .returned (.tuple #[.int .i64 (numberD l).1, .int .i64 (numberD l).2])
theorem numberV_any (s : ByteArray) (w : World) (hs : s.size ≤ 30000000000000) :
    Calls Tryd.prog 36 #[.string s] w fun e w' => e = numberE s.data.toList ∧ Below w.heap.size w w' := by
  refine numberV_walk s _ _ _ _ _ w (fun w => read_any s w hs) ?_
  unfold numberD
  by_cases h : (readD s.data.toList).2.2 = 2
  · left; rw [if_pos h]; exact ⟨h, rfl, rfl⟩
  · right; rw [if_neg h]; exact ⟨beq_eq_false_iff_ne.2 h, rfl, rfl⟩
theorem low_walk (s : ByteArray) (n er m : Int) (w : World) (k1 : ∀ w, Calls Tryd.prog 36 #[.string s] w fun e w' => e = .returned (.tuple #[.int .i64 n, .int .i64 er]) ∧ Below w.heap.size w w')
    (hn : -9223372036854775808 ≤ n ∧ n ≤ 9223372036854775807) (h : ((er : Int) != 0) = true ∧ m = 0 ∨ er = 0 ∧ m = n.tdiv 1000000 % 256) :
    Calls Tryd.prog 38 #[.string s] w fun e w' => e = .returned (.tuple #[.int .i64 m, .int .i64 er]) ∧ Below w.heap.size w w' := by
  rcases h with ⟨h1, rfl⟩ | ⟨rfl, rfl⟩
  · go_enter Tryd.func38, Tryd.ntmps38
    go_wp2_with (go_at_call 36; refine (k1 _).mono ?_; rintro e w1 ⟨rfl, hb1⟩)
    go_ret2
    exact ⟨rfl, hb1⟩
  · have k2 := fun w => trunc_any n w hn
    have hq : (n.tdiv 1000000).natAbs = n.natAbs / 1000000 := Int.natAbs_tdiv n 1000000
    have hb : -9223372036855 ≤ n.tdiv 1000000 ∧ n.tdiv 1000000 ≤ 9223372036855 := by omega
    clear hq
    generalize n.tdiv 1000000 = q at k2 hb ⊢
    clear hn
    obtain ⟨r, hr⟩ : ∃ r, q.tmod 256 = r := ⟨_, rfl⟩
    have hra : (q.tmod 256).natAbs = q.natAbs % 256 := Int.natAbs_tmod q 256
    have hrd := Int.mul_tdiv_add_tmod q 256
    have hrs : 0 ≤ q → 0 ≤ q.tmod 256 := fun h => Int.tmod_nonneg _ h
    rw [hr] at hra hrd hrs
    generalize q.tdiv 256 = z at hrd
    have hrb : -256 < r ∧ r < 256 := by omega
    by_cases h0 : r < 0
    · have e : q % 256 = r + 256 := by omega
      rw [e]
      clear e hb hra hrd hrs
      go_enter Tryd.func38, Tryd.ntmps38
      go_wp2_with (first | (go_at_call 36; refine (k1 _).mono ?_; rintro e w1 ⟨rfl, hb1⟩) | (go_at_call 29; refine (k2 _).mono ?_; rintro e w' ⟨rfl, rfl⟩))
      go_ret2
      exact ⟨rfl, hb1⟩
    · have e : q % 256 = r := by omega
      rw [e]
      clear e hb hra hrd hrs
      go_enter Tryd.func38, Tryd.ntmps38
      go_wp2_with (first | (go_at_call 36; refine (k1 _).mono ?_; rintro e w1 ⟨rfl, hb1⟩) | (go_at_call 29; refine (k2 _).mono ?_; rintro e w' ⟨rfl, rfl⟩))
      go_ret2
      exact ⟨rfl, hb1⟩
def lowE (l : List UInt8) : Ending := .returned (.tuple #[.int .i64 (lowD l).1, .int .i64 (lowD l).2])
theorem low_any (s : ByteArray) (w : World) (hs : s.size ≤ 30000000000000) :
    Calls Tryd.prog 38 #[.string s] w fun e w' => e = lowE s.data.toList ∧ Below w.heap.size w w' := by
  have hE : lowE s.data.toList = .returned (.tuple #[.int .i64 (lowD s.data.toList).1, .int .i64 (numberD s.data.toList).2]) := by
    unfold lowE lowD
    by_cases h : (numberD s.data.toList).2 = 0
    · rw [if_pos h, h]
    · rw [if_neg h]
  rw [hE]
  refine low_walk s (numberD s.data.toList).1 _ _ w (fun w => numberV_any s w hs) ?_ ?_
  · rcases numberD_cases s.data.toList with ⟨_, h⟩ | ⟨_, h⟩
    · exact h
    · rw [h]; omega
  · unfold lowD
    by_cases h : (numberD s.data.toList).2 = 0
    · right; rw [if_pos h]; exact ⟨h, rfl⟩
    · left; rw [if_neg h]; exact ⟨bne_iff_ne.2 h, rfl⟩
end Go.Proofs.YtokfkckfclnoaaaDoor
