/- The leaves of layer 3: comparing two of one type, yes or no as a text, what a text begins with, as the plain functions of ValMath say it. Condition: texts are shorter than 2^44. -/
import Derived.Test.YtokfkckfclnoaaaGreatDoorValMath
import Derived.Test.YtokfkckfclnoaaaGreatDoorDecShown
import Derived.Deep.QuietTactic
import Derived.BigQuiet
namespace Go.Proofs.YtokfkckfclnoaaaGreatDoor
open Go.RowKit

theorem isNaNI_any (x : Int) (w : World) : Calls Tryz.prog 44 #[.int .i64 x] w fun e w' => e = .returned (.bool false) ∧ w = w' := by
  have h : ((x : Int) != x) = false := by simp
  go_enter Tryz.func44, Tryz.ntmps44
  go_wp2
  go_ret
  exact ⟨rfl, rfl⟩
theorem isNaNS_any (x : ByteArray) (w : World) : Calls Tryz.prog 45 #[.string x] w fun e w' => e = .returned (.bool false) ∧ w = w' := by
  go_enter Tryz.func45, Tryz.ntmps45
  go_wp2
  go_ret
  exact ⟨by simp, rfl⟩
theorem cmpI_any (x y : Int) (w : World) : Calls Tryz.prog 22 #[.int .i64 x, .int .i64 y] w fun e w' => e = .returned (.int .i64 (cmpI x y)) ∧ w = w' := by
  by_cases h : x < y
  · have e : cmpI x y = -1 := if_pos h
    rw [e]
    clear e
    go_enter Tryz.func22, Tryz.ntmps22
    go_wp2_with (go_at_call 44; refine (isNaNI_any _ _).mono ?_; rintro e w' ⟨rfl, rfl⟩)
    go_ret
    exact ⟨rfl, rfl⟩
  · by_cases k : y < x
    · have e : cmpI x y = 1 := by unfold cmpI; rw [if_neg h, if_pos k]
      rw [e]
      clear e
      go_enter Tryz.func22, Tryz.ntmps22
      go_wp2_with (go_at_call 44; refine (isNaNI_any _ _).mono ?_; rintro e w' ⟨rfl, rfl⟩)
      go_ret
      exact ⟨rfl, rfl⟩
    · have e : cmpI x y = 0 := by unfold cmpI; rw [if_neg h, if_neg k]
      rw [e]
      clear e
      go_enter Tryz.func22, Tryz.ntmps22
      go_wp2_with (go_at_call 44; refine (isNaNI_any _ _).mono ?_; rintro e w' ⟨rfl, rfl⟩)
      go_ret
      exact ⟨rfl, rfl⟩
theorem ba_toList (s : ByteArray) : s.toList = s.data.toList := by
  rw [ByteArray.toList_eq]
theorem cmpS_any (x y : ByteArray) (w : World) : Calls Tryz.prog 23 #[.string x, .string y] w fun e w' => e = .returned (.int .i64 (cmpL x.data.toList y.data.toList)) ∧ w = w' := by
  rcases cmpL_cases x.data.toList y.data.toList with ⟨h, h1, h2⟩ | ⟨h, h1, h2⟩ | ⟨h, h1⟩
  · rw [h, ← ba_toList, ← ba_toList] at *
    clear h h2
    go_enter Tryz.func23, Tryz.ntmps23
    go_wp2_with (go_at_call 45; refine (isNaNS_any _ _).mono ?_; rintro e w' ⟨rfl, rfl⟩)
    go_ret
    exact ⟨rfl, rfl⟩
  · rw [h, ← ba_toList, ← ba_toList] at *
    have h3 : (x.toList == y.toList) = false := by
      refine beq_eq_false_iff_ne.2 (fun e => ?_)
      rw [e, bytesLess_irr] at h2; cases h2
    have h4 : (Op.bytesLess x.toList y.toList || (x.toList == y.toList)) = false := by rw [h1, h3]; rfl
    clear h
    go_enter Tryz.func23, Tryz.ntmps23
    go_wp2_with (go_at_call 45; refine (isNaNS_any _ _).mono ?_; rintro e w' ⟨rfl, rfl⟩)
    go_ret
    exact ⟨rfl, rfl⟩
  · have hxy : x = y := by
      cases x; cases y
      congr 1
      exact Array.toList_inj.1 h1
    subst hxy
    rw [h]
    have h2 := bytesLess_irr x.toList
    have h3 : (x.toList == x.toList) = true := beq_self_eq_true _
    clear h h1
    go_enter Tryz.func23, Tryz.ntmps23
    go_wp2_with (go_at_call 45; refine (isNaNS_any _ _).mono ?_; rintro e w' ⟨rfl, rfl⟩)
    go_ret
    exact ⟨rfl, rfl⟩
theorem of_any (b : Bool) (w : World) : Calls Tryz.prog 10 #[.bool b] w fun e w' => e = .returned (.string (if b then ⟨#[49]⟩ else ⟨#[48]⟩)) ∧ w = w' := by
  cases b
  all_goals
    go_enter Tryz.func10, Tryz.ntmps10
    go_wp2
    go_ret
    exact ⟨rfl, rfl⟩
theorem readE_tuple (l : List UInt8) : readE l = .returned (.tuple #[.int .i64 (readD l).1, .int .i64 (readD l).2.1, .int .i64 (readD l).2.2]) := rfl
theorem numberV_walk (s : ByteArray) (n u er m f : Int) (w : World) (k1 : ∀ w, Calls Tryz.prog 30 #[.string s] w fun e w' => e = .returned (.tuple #[.int .i64 n, .int .i64 u, .int .i64 er]) ∧ Below w.heap.size w w')
    (h : er = 2 ∧ m = 0 ∧ f = 0 ∨ ((er : Int) == 2) = false ∧ m = n ∧ f = er) :
    Calls Tryz.prog 12 #[.string s] w fun e w' => e = .returned (.tuple #[.int .i64 m, .int .i64 f]) ∧ Below w.heap.size w w' := by
  rcases h with ⟨rfl, rfl, rfl⟩ | ⟨h1, rfl, rfl⟩
  all_goals
    go_enter Tryz.func12, Tryz.ntmps12
    go_wp2_with (go_at_call 30; refine (k1 _).mono ?_; rintro e w1 ⟨rfl, hb1⟩)
    go_ret2
    exact ⟨rfl, hb1⟩
def numberE (l : List UInt8) : Ending := .returned (.tuple #[.int .i64 (numberD l).1, .int .i64 (numberD l).2])
theorem numberV_any (s : ByteArray) (w : World) (hs : s.size ≤ 30000000000000) :
    Calls Tryz.prog 12 #[.string s] w fun e w' => e = numberE s.data.toList ∧ Below w.heap.size w w' := by
  refine numberV_walk s _ _ _ _ _ w (fun w => read_any s w hs) ?_
  unfold numberD
  by_cases h : (readD s.data.toList).2.2 = 2
  · left; rw [if_pos h]; exact ⟨h, rfl, rfl⟩
  · right; rw [if_neg h]; exact ⟨beq_eq_false_iff_ne.2 h, rfl, rfl⟩
def lowE (l : List UInt8) : Ending := .returned (.tuple #[.int .i64 (lowD l).1, .int .i64 (lowD l).2])
end Go.Proofs.YtokfkckfclnoaaaGreatDoor
