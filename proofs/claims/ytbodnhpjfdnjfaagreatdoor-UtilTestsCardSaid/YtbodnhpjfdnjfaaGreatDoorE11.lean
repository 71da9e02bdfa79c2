/- Packed texts: ValLeaf. What each of them proves stands above its theorems; the conditions stand in these. -/
import Derived.BigQuiet
import Derived.Deep.QuietTactic
import Derived.Test.YtbodnhpjfdnjfaaGreatDoorE3
import Derived.Test.YtbodnhpjfdnjfaaGreatDoorE9
namespace Go.Proofs.YtbodnhpjfdnjfaaGreatDoor
open Go.RowKit

theorem isNaNI_any (x : Int) (w : World) : Calls Tryz.prog 176 #[.int .i64 x] w fun e w' => e = .returned (.bool false) ∧ w = w' := by
  have h : ((x : Int) != x) = false := by simp
  go_enter Tryz.func176, Tryz.ntmps176
  go_wp2
  go_ret
  exact ⟨rfl, rfl⟩
theorem cmpI_any (x y : Int) (w : World) : Calls Tryz.prog 126 #[.int .i64 x, .int .i64 y] w fun e w' => e = .returned (.int .i64 (cmpI x y)) ∧ w = w' := by
  by_cases h : x < y
  · have e : cmpI x y = -1 := if_pos h
    rw [e]
    clear e
    go_enter Tryz.func126, Tryz.ntmps126
    go_wp2_with (go_at_call 176; refine (isNaNI_any _ _).mono ?_; rintro e w' ⟨rfl, rfl⟩)
    go_ret
    exact ⟨rfl, rfl⟩
  · by_cases k : y < x
    · have e : cmpI x y = 1 := by unfold cmpI; rw [if_neg h, if_pos k]
      rw [e]
      clear e
      go_enter Tryz.func126, Tryz.ntmps126
      go_wp2_with (go_at_call 176; refine (isNaNI_any _ _).mono ?_; rintro e w' ⟨rfl, rfl⟩)
      go_ret
      exact ⟨rfl, rfl⟩
    · have e : cmpI x y = 0 := by unfold cmpI; rw [if_neg h, if_neg k]
      rw [e]
      clear e
      go_enter Tryz.func126, Tryz.ntmps126
      go_wp2_with (go_at_call 176; refine (isNaNI_any _ _).mono ?_; rintro e w' ⟨rfl, rfl⟩)
      go_ret
      exact ⟨rfl, rfl⟩
theorem numberV_walk (s : ByteArray) (n u er m f : Int) (w : World) (k1 : ∀ w, Calls Tryz.prog 171 #[.string s] w fun e w' => e = .returned (.tuple #[.int .i64 n, .int .i64 u, .int .i64 er]) ∧ Below w.heap.size w w')
    (h : er = 2 ∧ m = 0 ∧ f = 0 ∨ ((er : Int) == 2) = false ∧ m = n ∧ f = er) :
    Calls Tryz.prog 122 #[.string s] w fun e w' => e = .returned (.tuple #[.int .i64 m, .int .i64 f]) ∧ Below w.heap.size w w' := by
  rcases h with ⟨rfl, rfl, rfl⟩ | ⟨h1, rfl, rfl⟩
  all_goals
    go_enter Tryz.func122, Tryz.ntmps122
    go_wp2_with (go_at_call 171; refine (k1 _).mono ?_; rintro e w1 ⟨rfl, hb1⟩)
    go_ret2
    exact ⟨rfl, hb1⟩
def numberE (l : List UInt8) : Ending := .returned (.tuple #[.int .i64 (numberD l).1, .int .i64 (numberD l).2])
theorem numberV_any (s : ByteArray) (w : World) (hs : s.size ≤ 30000000000000) :
    Calls Tryz.prog 122 #[.string s] w fun e w' => e = numberE s.data.toList ∧ Below w.heap.size w w' := by
  refine numberV_walk s _ _ _ _ _ w (fun w => read_any s w hs) ?_
  unfold numberD
  by_cases h : (readD s.data.toList).2.2 = 2
  · left; rw [if_pos h]; exact ⟨h, rfl, rfl⟩
  · right; rw [if_neg h]; exact ⟨beq_eq_false_iff_ne.2 h, rfl, rfl⟩
end Go.Proofs.YtbodnhpjfdnjfaaGreatDoor
