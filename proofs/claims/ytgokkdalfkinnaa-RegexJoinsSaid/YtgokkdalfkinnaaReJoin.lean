/- Package regex's moved, and its Join of two trees. Conditions: the rows can be read, and are trees'; together they have less than 2000 nodes. -/
import Derived.Test.YtgokkdalfkinnaaReRefJoin
import Derived.Test.YtgokkdalfkinnaaReRight
import Derived.Test.YtgokkdalfkinnaaReMath
namespace Go.Proofs.Ytgokkdalfkinnaa
open Go.RowKit Go.Lib

set_option maxHeartbeats 2000000 in
theorem set_seven {w : World} {g : Nat} {t : TypeId} {p q r s u v z : Value} (a b c d e f h : Value) (hg : w.heap[g]? = some (.cells #[p, q, r, s, u, v, z] t (0, 0))) :
    (((((((w.setCell ⟨g, 0, none⟩ a).setCell ⟨g, 1, none⟩ b).setCell ⟨g, 2, none⟩ c).setCell ⟨g, 3, none⟩ d).setCell ⟨g, 4, none⟩ e).setCell ⟨g, 5, none⟩ f).setCell ⟨g, 6, none⟩ h).heap[g]? = some (.cells #[a, b, c, d, e, f, h] t (0, 0)) := by
  have h1 := heap_setCell_same w g 0 _ _ a hg
  have h2 := heap_setCell_same _ g 1 _ _ b h1
  have h3 := heap_setCell_same _ g 2 _ _ c h2
  have h4 := heap_setCell_same _ g 3 _ _ d h3
  have h5 := heap_setCell_same _ g 4 _ _ e h4
  have h6 := heap_setCell_same _ g 5 _ _ f h5
  exact heap_setCell_same _ g 6 _ _ h h6
theorem below_seven {B g : Nat} {a w : World} (hb : Below B a w) (hB : B ≤ g) (p q r s u v z : Value) : Below B a (((((((w.setCell ⟨g, 0, none⟩ p).setCell ⟨g, 1, none⟩ q).setCell ⟨g, 2, none⟩ r).setCell ⟨g, 3, none⟩ s).setCell ⟨g, 4, none⟩ u).setCell ⟨g, 5, none⟩ v).setCell ⟨g, 6, none⟩ z) :=
  ((((((hb.setCell (p := ⟨g, 0, none⟩) hB _).setCell (p := ⟨g, 1, none⟩) hB _).setCell (p := ⟨g, 2, none⟩) hB _).setCell (p := ⟨g, 3, none⟩) hB _).setCell (p := ⟨g, 4, none⟩) hB _).setCell (p := ⟨g, 5, none⟩) hB _).setCell (p := ⟨g, 6, none⟩) hB _
theorem Try.infoRe7 : (Try.prog.info? 46).map (·.size) = some 7 := by kernel_rfl

set_option maxHeartbeats 2000000 in
set_option maxRecDepth 20000 in
theorem moved_walk (k p q u v x y n m x' y' : Int) (w : World) (HXY : Hid (x' = (if 0 < m then x + n else x) ∧ y' = (if 1 < m then y + n else y))) (hm : m = 0 ∨ m = 1 ∨ m = 2) (hx : IntKind.i64.wrap (x + n) = x + n) (hy : IntKind.i64.wrap (y + n) = y + n)
    (kk : ∀ w, Calls Try.prog 35 #[.int .i64 k] w fun e w' => e = .returned (.int .i64 m) ∧ w' = w) :
    Calls Try.prog 36 #[.agg #[.int .i64 k, .int .u64 p, .int .u64 q, .int .u64 u, .int .u64 v, .int .i64 x, .int .i64 y], .int .i64 n] w fun e w' =>
      e = .returned (.agg #[.int .i64 k, .int .u64 p, .int .u64 q, .int .u64 u, .int .u64 v, .int .i64 x', .int .i64 y']) ∧ Below w.heap.size w w' := by
  go_enter Try.func36, Try.ntmps36
  go_wp2_with (first
    | (go_at_call 35; refine (kk _).mono ?_; rintro e w1 ⟨rfl, rfl⟩)
    | fail)
  have hT := two_new w (.cells #[.int .i64 k, .int .u64 p, .int .u64 q, .int .u64 u, .int .u64 v, .int .i64 x, .int .i64 y] 46) (.cells #[.int .i64 0, .int .u64 0, .int .u64 0, .int .u64 0, .int .u64 0, .int .i64 0, .int .i64 0] 46)
  obtain ⟨W0, hW0⟩ : ∃ W0, W0 = (w.alloc (.cells #[.int .i64 k, .int .u64 p, .int .u64 q, .int .u64 u, .int .u64 v, .int .i64 x, .int .i64 y] 46)).alloc (.cells #[.int .i64 0, .int .u64 0, .int .u64 0, .int .u64 0, .int .u64 0, .int .i64 0, .int .i64 0] 46) := ⟨_, rfl⟩
  rw [← hW0] at hT ⊢
  have HT := Lib.hid hT
  clear hT hW0 kk
  obtain ⟨g, hg⟩ : ∃ g, g = w.heap.size := ⟨_, rfl⟩
  rw [← hg] at HT ⊢
  have HGG := Lib.hid hg
  clear hg
  go_loopg [9] 3 (fun z i wr => ∃ (j : Nat), i = .int .i64 j ∧ (j : Int) ≤ m ∧ Hid (z = 3 - j) ∧ Hid (wr.heap[g]? = some (.cells #[.int .i64 k, .int .u64 p, .int .u64 q, .int .u64 u, .int .u64 v, .int .i64 (if 0 < j then x + n else x), .int .i64 (if 1 < j then y + n else y)] 46 (0, 0))) ∧ Hid (wr.heap[g + 1]? = some (.cells #[.int .i64 0, .int .u64 0, .int .u64 0, .int .u64 0, .int .u64 0, .int .i64 0, .int .i64 0] 46 (0, 0))) ∧ Hid (Below g w wr))
  case atStart => exact ⟨0, rfl, by omega, rfl, HT.out.1, HT.out.2.1, HT.out.2.2.2⟩
  case round =>
    obtain ⟨j, rfl, hj, HK, HA, HR, HB⟩ := hrel
    by_cases hlt : (j : Int) < m
    · have hd : decide ((j : Int) < m) = true := decide_eq_true hlt
      have hj2 : j = 0 ∨ j = 1 := by omega
      rcases hj2 with rfl | rfl
      · have HA' := Lib.hid (show wr.heap[g]? = some (.cells #[.int .i64 k, .int .u64 p, .int .u64 q, .int .u64 u, .int .u64 v, .int .i64 x, .int .i64 y] 46 (0, 0)) from HA.out)
        obtain ⟨a0, a1, a2, a3, a4, a5, a6⟩ := node_cells HA'.out
        have f5 := frozen_of_row wr g 5 _ _ HA'.out
        go_wp2
        go_roundg 2
        case rel => exact ⟨1, rfl, by omega, rfl, heap_setCell_same wr g 5 _ _ _ HA'.out, (Below.heap_setCell _ _ _ _ (by simp)).trans HR.out, HB.out.setCell (p := ⟨g, 5, none⟩) (Nat.le_refl _) _⟩
        case measure => have := HK.out; omega
      · have HA' := Lib.hid (show wr.heap[g]? = some (.cells #[.int .i64 k, .int .u64 p, .int .u64 q, .int .u64 u, .int .u64 v, .int .i64 (x + n), .int .i64 y] 46 (0, 0)) from HA.out)
        obtain ⟨a0, a1, a2, a3, a4, a5, a6⟩ := node_cells HA'.out
        have f6 := frozen_of_row wr g 6 _ _ HA'.out
        go_wp2
        go_roundg 1
        case rel => exact ⟨2, rfl, by omega, rfl, heap_setCell_same wr g 6 _ _ _ HA'.out, (Below.heap_setCell _ _ _ _ (by simp)).trans HR.out, HB.out.setCell (p := ⟨g, 6, none⟩) (Nat.le_refl _) _⟩
        case measure => have := HK.out; omega
    · have hd : decide ((j : Int) < m) = false := decide_eq_false hlt
      have ej : (j : Int) = m := by omega
      have e5 : (if 0 < j then x + n else x) = (if 0 < m then x + n else x) := by
        by_cases h : 0 < j
        · rw [if_pos h, if_pos (by omega)]
        · rw [if_neg h, if_neg (by omega)]
      have e6 : (if 1 < j then y + n else y) = (if 1 < m then y + n else y) := by
        by_cases h : 1 < j
        · rw [if_pos h, if_pos (by omega)]
        · rw [if_neg h, if_neg (by omega)]
      rw [e5, e6] at HA
      rw [← HXY.out.1, ← HXY.out.2] at HA
      clear e5 e6
      obtain ⟨a0, a1, a2, a3, a4, a5, a6⟩ := node_cells HA.out
      obtain ⟨r0, r1, r2, r3, r4, r5, r6⟩ := node_cells HR.out
      have f0 := frozen_of_row wr (g + 1) 0 _ _ HR.out
      have f1 := frozen_of_row wr (g + 1) 1 _ _ HR.out
      have f2 := frozen_of_row wr (g + 1) 2 _ _ HR.out
      have f3 := frozen_of_row wr (g + 1) 3 _ _ HR.out
      have f4 := frozen_of_row wr (g + 1) 4 _ _ HR.out
      have f5 := frozen_of_row wr (g + 1) 5 _ _ HR.out
      have f6 := frozen_of_row wr (g + 1) 6 _ _ HR.out
      go_wp2
      have hh := set_seven (.int .i64 k) (.int .u64 p) (.int .u64 q) (.int .u64 u) (.int .u64 v) (.int .i64 x') (.int .i64 y') HR.out
      have hB := below_seven HB.out (Nat.le_add_right g 1) (.int .i64 k) (.int .u64 p) (.int .u64 q) (.int .u64 u) (.int .u64 v) (.int .i64 x') (.int .i64 y')
      exact bodyPost_ret (v := .agg _) (results_cell_row (p := 4) (ty := 46) Try.results36 _ _ (g + 1) 46 _ (0, 0) _ rfl hh Try.underlying46 rfl Try.infoRe7) rfl ⟨rfl, by rw [← HGG.out]; exact hB⟩
end Go.Proofs.Ytgokkdalfkinnaa
