/- dec's reckonings as they are called: Add, Sub, Mul, Div, Mod, Whole, Trunc answer what plain whole numbers say. Conditions: the arguments are of 64 bits. -/
import Derived.Test.YtokfkckfclnoaaaDoorDecReckon2
namespace Go.Proofs.YtokfkckfclnoaaaDoor
open Go.RowKit

theorem trunc_any (a : Int) (w : World) (h : -9223372036854775808 ≤ a ∧ a ≤ 9223372036854775807) :
    Calls Tryd.prog 29 #[.int .i64 a] w fun e w' => e = .returned (.int .i64 (a.tdiv 1000000)) ∧ w = w' := by
  go_enter Tryd.func29, Tryd.ntmps29
  go_wp2
  go_ret
  exact ⟨rfl, rfl⟩
theorem sub1_any (p q : Nat) (a b : Int) (w : World) (ha : -9223372036854775808 ≤ a ∧ a ≤ 9223372036854775807) (hb : -9223372036854775808 ≤ b ∧ b ≤ 9223372036854775807)
    (hp : w.cell? ⟨p, 0, none⟩ = some (.int .i64 a)) (hq : w.cell? ⟨q, 0, none⟩ = some (.int .i64 b)) :
    Calls Tryd.prog 61 #[.pointer (some ⟨p, 0, none⟩), .pointer (some ⟨q, 0, none⟩)] w fun e w' => e = deedOf (a - b) ∧ Below w.heap.size w w' := by
  have k1 := fun w => difference_any a b w ha hb
  clear ha hb
  by_cases hin : -9223372036854775808 ≤ a - b ∧ a - b ≤ 9223372036854775807
  · rw [deedOf_in hin] at *
    clear hin
    go_enter Tryd.func61, Tryd.ntmps61
    go_wp2_with (go_at_call 62; refine (k1 _).mono ?_; rintro e w' ⟨rfl, rfl⟩)
    go_ret
    exact ⟨rfl, Below.refl _ _⟩
  · rw [deedOf_out hin] at *
    clear hin
    unfold overE at *
    go_enter Tryd.func61, Tryd.ntmps61
    go_wp2_with (go_at_call 62; refine (k1 _).mono ?_; rintro e w' ⟨rfl, rfl⟩)
    exact ⟨rfl, rfl, Below.refl _ _⟩

/-- Two variables that were just made, behind whatever was laid since. -/
theorem two_of_new {w : World} {a b : Int} {w1 : World} (hb : Below ((w.alloc (.cells #[.int .i64 a] 2)).alloc (.cells #[.int .i64 b] 2)).heap.size ((w.alloc (.cells #[.int .i64 a] 2)).alloc (.cells #[.int .i64 b] 2)) w1) :
    w1.cell? ⟨w.heap.size, 0, none⟩ = some (.int .i64 a) ∧ w1.cell? ⟨w.heap.size + 1, 0, none⟩ = some (.int .i64 b) := by
  obtain ⟨T1, T2, T3, _⟩ := two_new w (.cells #[.int .i64 a] 2) (.cells #[.int .i64 b] 2)
  exact ⟨(cell_one (below_two hb T1 (by rw [T3]; omega))).1, (cell_one (below_two hb T2 (by rw [T3]; omega))).1⟩
theorem one_of_new {w : World} {a : Int} {w1 : World} (hb : Below (w.alloc (.cells #[.int .i64 a] 2)).heap.size (w.alloc (.cells #[.int .i64 a] 2)) w1) :
    w1.cell? ⟨w.heap.size, 0, none⟩ = some (.int .i64 a) :=
  (cell_one (below_two hb (heap_alloc_new _ _) (by simp))).1

theorem add_any (a b : Int) (w : World) (ha : -9223372036854775808 ≤ a ∧ a ≤ 9223372036854775807) (hb : -9223372036854775808 ≤ b ∧ b ≤ 9223372036854775807) :
    Calls Tryd.prog 17 #[.int .i64 a, .int .i64 b] w fun e w' => e = intoE (a + b) ∧ Below w.heap.size w w' := by
  have hmf : ∀ (fn : Fn) (first cap : Array Value) (w : World), (Instr.makeFunc fn first cap).run Tryd.prog w = .ok (.func fn first cap) w := fun _ _ _ _ => rfl
  have k1 := kept_any 56 #[.pointer (some ⟨w.heap.size, 0, none⟩), .pointer (some ⟨w.heap.size + 1, 0, none⟩)] (a + b) ((w.alloc (.cells #[.int .i64 a] 2)).alloc (.cells #[.int .i64 b] 2)) (enters_of Tryd.func56 (by kernel_rfl) rfl) (fun w1 hb1 => add1_any w.heap.size (w.heap.size + 1) a b w1 ha hb (two_of_new hb1).1 (two_of_new hb1).2)
  unfold intoE at *
  clear ha hb
  generalize into (a + b) = r at *
  go_enter Tryd.func17, Tryd.ntmps17
  go_wp2_with (go_at_call 47; refine k1.mono ?_; rintro e w' ⟨rfl, hb2⟩)
  go_ret2
  exact ⟨rfl, ((two_new _ _ _).2.2.2).trans (hb2.mono ((two_new _ _ _).2.2.2).size)⟩
theorem sub_any (a b : Int) (w : World) (ha : -9223372036854775808 ≤ a ∧ a ≤ 9223372036854775807) (hb : -9223372036854775808 ≤ b ∧ b ≤ 9223372036854775807) :
    Calls Tryd.prog 19 #[.int .i64 a, .int .i64 b] w fun e w' => e = intoE (a - b) ∧ Below w.heap.size w w' := by
  have hmf : ∀ (fn : Fn) (first cap : Array Value) (w : World), (Instr.makeFunc fn first cap).run Tryd.prog w = .ok (.func fn first cap) w := fun _ _ _ _ => rfl
  have k1 := kept_any 61 #[.pointer (some ⟨w.heap.size, 0, none⟩), .pointer (some ⟨w.heap.size + 1, 0, none⟩)] (a - b) ((w.alloc (.cells #[.int .i64 a] 2)).alloc (.cells #[.int .i64 b] 2)) (enters_of Tryd.func61 (by kernel_rfl) rfl) (fun w1 hb1 => sub1_any w.heap.size (w.heap.size + 1) a b w1 ha hb (two_of_new hb1).1 (two_of_new hb1).2)
  unfold intoE at *
  clear ha hb
  generalize into (a - b) = r at *
  go_enter Tryd.func19, Tryd.ntmps19
  go_wp2_with (go_at_call 47; refine k1.mono ?_; rintro e w' ⟨rfl, hb2⟩)
  go_ret2
  exact ⟨rfl, ((two_new _ _ _).2.2.2).trans (hb2.mono ((two_new _ _ _).2.2.2).size)⟩
theorem mul_any (a b : Int) (w : World) (ha : -9223372036854775808 ≤ a ∧ a ≤ 9223372036854775807) (hb : -9223372036854775808 ≤ b ∧ b ≤ 9223372036854775807) :
    Calls Tryd.prog 21 #[.int .i64 a, .int .i64 b] w fun e w' => e = intoE ((a * b).tdiv 1000000) ∧ Below w.heap.size w w' := by
  have hmf : ∀ (fn : Fn) (first cap : Array Value) (w : World), (Instr.makeFunc fn first cap).run Tryd.prog w = .ok (.func fn first cap) w := fun _ _ _ _ => rfl
  have k1 := kept_any 63 #[.pointer (some ⟨w.heap.size, 0, none⟩), .pointer (some ⟨w.heap.size + 1, 0, none⟩)] ((a * b).tdiv 1000000) ((w.alloc (.cells #[.int .i64 a] 2)).alloc (.cells #[.int .i64 b] 2)) (enters_of Tryd.func63 (by kernel_rfl) rfl) (fun w1 hb1 => mul1_any w.heap.size (w.heap.size + 1) a b w1 ha hb (two_of_new hb1).1 (two_of_new hb1).2)
  unfold intoE at *
  clear ha hb
  generalize into ((a * b).tdiv 1000000) = r at *
  go_enter Tryd.func21, Tryd.ntmps21
  go_wp2_with (go_at_call 47; refine k1.mono ?_; rintro e w' ⟨rfl, hb2⟩)
  go_ret2
  exact ⟨rfl, ((two_new _ _ _).2.2.2).trans (hb2.mono ((two_new _ _ _).2.2.2).size)⟩
theorem div_any (a b : Int) (w : World) (ha : -9223372036854775808 ≤ a ∧ a ≤ 9223372036854775807) (hb : -9223372036854775808 ≤ b ∧ b ≤ 9223372036854775807) (h0 : b ≠ 0) :
    Calls Tryd.prog 23 #[.int .i64 a, .int .i64 b] w fun e w' => e = intoE ((a * 1000000).tdiv b) ∧ Below w.heap.size w w' := by
  have hmf : ∀ (fn : Fn) (first cap : Array Value) (w : World), (Instr.makeFunc fn first cap).run Tryd.prog w = .ok (.func fn first cap) w := fun _ _ _ _ => rfl
  have k1 := kept_any 70 #[.pointer (some ⟨w.heap.size, 0, none⟩), .pointer (some ⟨w.heap.size + 1, 0, none⟩)] ((a * 1000000).tdiv b) ((w.alloc (.cells #[.int .i64 a] 2)).alloc (.cells #[.int .i64 b] 2)) (enters_of Tryd.func70 (by kernel_rfl) rfl) (fun w1 hb1 => div1_any w.heap.size (w.heap.size + 1) a b w1 ha hb h0 (two_of_new hb1).1 (two_of_new hb1).2)
  unfold intoE at *
  clear ha hb
  have h00 : ((b : Int) == 0) = false := beq_eq_false_iff_ne.2 h0
  clear h0
  generalize into ((a * 1000000).tdiv b) = r at *
  go_enter Tryd.func23, Tryd.ntmps23
  go_wp2_with (go_at_call 47; refine k1.mono ?_; rintro e w' ⟨rfl, hb2⟩)
  go_ret2
  exact ⟨rfl, ((two_new _ _ _).2.2.2).trans (hb2.mono ((two_new _ _ _).2.2.2).size)⟩
theorem whole10_any (a : Int) (w : World) (ha : -9223372036854775808 ≤ a ∧ a ≤ 9223372036854775807) :
    Calls Tryd.prog 27 #[.int .i64 a] w fun e w' => e = intoE (a * 1000000) ∧ Below w.heap.size w w' := by
  have hmf : ∀ (fn : Fn) (first cap : Array Value) (w : World), (Instr.makeFunc fn first cap).run Tryd.prog w = .ok (.func fn first cap) w := fun _ _ _ _ => rfl
  have k1 := kept_any 71 #[.pointer (some ⟨w.heap.size, 0, none⟩)] (a * 1000000) (w.alloc (.cells #[.int .i64 a] 2)) (enters_of Tryd.func71 (by kernel_rfl) rfl) (fun w1 hb1 => whole1_any w.heap.size w.heap.size a a w1 ha ha (one_of_new hb1) (one_of_new hb1))
  unfold intoE at *
  clear ha 
  generalize into (a * 1000000) = r at *
  go_enter Tryd.func27, Tryd.ntmps27
  go_wp2_with (go_at_call 47; refine k1.mono ?_; rintro e w' ⟨rfl, hb2⟩)
  go_ret2
  exact ⟨rfl, (((Below.refl _ w).alloc (Nat.le_refl _) _)).trans (hb2.mono (((Below.refl _ w).alloc (Nat.le_refl _) _)).size)⟩
theorem mod_any (a b : Int) (w : World) (h0 : b ≠ 0) :
    Calls Tryd.prog 25 #[.int .i64 a, .int .i64 b] w fun e w' => e = .returned (.tuple #[.int .i64 (a.tmod b), .int .i64 0]) ∧ Below w.heap.size w w' := by
  have h1 : ((b : Int) == 0) = false := beq_eq_false_iff_ne.2 h0
  go_enter Tryd.func25, Tryd.ntmps25
  go_wp2
  go_ret2
  exact ⟨rfl, Below.refl _ _⟩
theorem mod_zero (a : Int) (w : World) :
    Calls Tryd.prog 25 #[.int .i64 a, .int .i64 0] w fun e w' => e = .returned (.tuple #[.int .i64 0, .int .i64 4]) ∧ Below w.heap.size w w' := by
  go_enter Tryd.func25, Tryd.ntmps25
  go_wp2
  go_ret2
  exact ⟨rfl, Below.refl _ _⟩
theorem div_zero (a : Int) (w : World) :
    Calls Tryd.prog 23 #[.int .i64 a, .int .i64 0] w fun e w' => e = .returned (.tuple #[.int .i64 0, .int .i64 4]) ∧ Below w.heap.size w w' := by
  have hmf : ∀ (fn : Fn) (first cap : Array Value) (w : World), (Instr.makeFunc fn first cap).run Tryd.prog w = .ok (.func fn first cap) w := fun _ _ _ _ => rfl
  go_enter Tryd.func23, Tryd.ntmps23
  go_wp2
  go_ret2
  exact ⟨rfl, (two_new _ _ _).2.2.2⟩
end Go.Proofs.YtokfkckfclnoaaaDoor
