/- dec's reckonings as they are called: Add, Sub, Mul, Div, Mod, Whole, Trunc answer what plain whole numbers say. Conditions: the arguments are of 64 bits. -/
import Derived.Test.YtokfkckfclnoaaaGreatDoorDecReckon2
namespace Go.Proofs.YtokfkckfclnoaaaGreatDoor
open Go.RowKit

theorem sub1_any (p q : Nat) (a b : Int) (w : World) (ha : -9223372036854775808 ≤ a ∧ a ≤ 9223372036854775807) (hb : -9223372036854775808 ≤ b ∧ b ≤ 9223372036854775807)
    (hp : w.cell? ⟨p, 0, none⟩ = some (.int .i64 a)) (hq : w.cell? ⟨q, 0, none⟩ = some (.int .i64 b)) :
    Calls Tryz.prog 49 #[.pointer (some ⟨p, 0, none⟩), .pointer (some ⟨q, 0, none⟩)] w fun e w' => e = deedOf (a - b) ∧ Below w.heap.size w w' := by
  have k1 := fun w => difference_any a b w ha hb
  clear ha hb
  by_cases hin : -9223372036854775808 ≤ a - b ∧ a - b ≤ 9223372036854775807
  · rw [deedOf_in hin] at *
    clear hin
    go_enter Tryz.func49, Tryz.ntmps49
    go_wp2_with (go_at_call 50; refine (k1 _).mono ?_; rintro e w' ⟨rfl, rfl⟩)
    go_ret
    exact ⟨rfl, Below.refl _ _⟩
  · rw [deedOf_out hin] at *
    clear hin
    unfold overE at *
    go_enter Tryz.func49, Tryz.ntmps49
    go_wp2_with (go_at_call 50; refine (k1 _).mono ?_; rintro e w' ⟨rfl, rfl⟩)
    exact ⟨rfl, rfl, Below.refl _ _⟩

/-- Two variables that were just made, behind whatever was laid since. -/
theorem two_of_new {w : World} {a b : Int} {w1 : World} (hb : Below ((w.alloc (.cells #[.int .i64 a] 2)).alloc (.cells #[.int .i64 b] 2)).heap.size ((w.alloc (.cells #[.int .i64 a] 2)).alloc (.cells #[.int .i64 b] 2)) w1) :
    w1.cell? ⟨w.heap.size, 0, none⟩ = some (.int .i64 a) ∧ w1.cell? ⟨w.heap.size + 1, 0, none⟩ = some (.int .i64 b) := by
  obtain ⟨T1, T2, T3, _⟩ := two_new w (.cells #[.int .i64 a] 2) (.cells #[.int .i64 b] 2)
  exact ⟨(cell_one (below_two hb T1 (by rw [T3]; omega))).1, (cell_one (below_two hb T2 (by rw [T3]; omega))).1⟩
theorem one_of_new {w : World} {a : Int} {w1 : World} (hb : Below (w.alloc (.cells #[.int .i64 a] 2)).heap.size (w.alloc (.cells #[.int .i64 a] 2)) w1) :
    w1.cell? ⟨w.heap.size, 0, none⟩ = some (.int .i64 a) :=
  (cell_one (below_two hb (heap_alloc_new _ _) (by simp))).1

theorem add_any (a b : Int) (w : World) (ha : -9223372036854775808 ≤ a ∧ a ≤ 9223372036854775807) (hb : -9223372036854775808 ≤ b ∧ b ≤ 9223372036854775807) :
    Calls Tryz.prog 25 #[.int .i64 a, .int .i64 b] w fun e w' => e = intoE (a + b) ∧ Below w.heap.size w w' := by
  have hmf : ∀ (fn : Fn) (first cap : Array Value) (w : World), (Instr.makeFunc fn first cap).run Tryz.prog w = .ok (.func fn first cap) w := fun _ _ _ _ => rfl
  have k1 := kept_any 47 #[.pointer (some ⟨w.heap.size, 0, none⟩), .pointer (some ⟨w.heap.size + 1, 0, none⟩)] (a + b) ((w.alloc (.cells #[.int .i64 a] 2)).alloc (.cells #[.int .i64 b] 2)) (enters_of Tryz.func47 (by kernel_rfl) rfl) (fun w1 hb1 => add1_any w.heap.size (w.heap.size + 1) a b w1 ha hb (two_of_new hb1).1 (two_of_new hb1).2)
  unfold intoE at *
  clear ha hb
  generalize into (a + b) = r at *
  go_enter Tryz.func25, Tryz.ntmps25
  go_wp2_with (go_at_call 46; refine k1.mono ?_; rintro e w' ⟨rfl, hb2⟩)
  go_ret2
  exact ⟨rfl, ((two_new _ _ _).2.2.2).trans (hb2.mono ((two_new _ _ _).2.2.2).size)⟩
theorem sub_any (a b : Int) (w : World) (ha : -9223372036854775808 ≤ a ∧ a ≤ 9223372036854775807) (hb : -9223372036854775808 ≤ b ∧ b ≤ 9223372036854775807) :
    Calls Tryz.prog 26 #[.int .i64 a, .int .i64 b] w fun e w' => e = intoE (a - b) ∧ Below w.heap.size w w' := by
  have hmf : ∀ (fn : Fn) (first cap : Array Value) (w : World), (Instr.makeFunc fn first cap).run Tryz.prog w = .ok (.func fn first cap) w := fun _ _ _ _ => rfl
  have k1 := kept_any 49 #[.pointer (some ⟨w.heap.size, 0, none⟩), .pointer (some ⟨w.heap.size + 1, 0, none⟩)] (a - b) ((w.alloc (.cells #[.int .i64 a] 2)).alloc (.cells #[.int .i64 b] 2)) (enters_of Tryz.func49 (by kernel_rfl) rfl) (fun w1 hb1 => sub1_any w.heap.size (w.heap.size + 1) a b w1 ha hb (two_of_new hb1).1 (two_of_new hb1).2)
  unfold intoE at *
  clear ha hb
  generalize into (a - b) = r at *
  go_enter Tryz.func26, Tryz.ntmps26
  go_wp2_with (go_at_call 46; refine k1.mono ?_; rintro e w' ⟨rfl, hb2⟩)
  go_ret2
  exact ⟨rfl, ((two_new _ _ _).2.2.2).trans (hb2.mono ((two_new _ _ _).2.2.2).size)⟩
theorem mul_any (a b : Int) (w : World) (ha : -9223372036854775808 ≤ a ∧ a ≤ 9223372036854775807) (hb : -9223372036854775808 ≤ b ∧ b ≤ 9223372036854775807) :
    Calls Tryz.prog 27 #[.int .i64 a, .int .i64 b] w fun e w' => e = intoE ((a * b).tdiv 1000000) ∧ Below w.heap.size w w' := by
  have hmf : ∀ (fn : Fn) (first cap : Array Value) (w : World), (Instr.makeFunc fn first cap).run Tryz.prog w = .ok (.func fn first cap) w := fun _ _ _ _ => rfl
  have k1 := kept_any 51 #[.pointer (some ⟨w.heap.size, 0, none⟩), .pointer (some ⟨w.heap.size + 1, 0, none⟩)] ((a * b).tdiv 1000000) ((w.alloc (.cells #[.int .i64 a] 2)).alloc (.cells #[.int .i64 b] 2)) (enters_of Tryz.func51 (by kernel_rfl) rfl) (fun w1 hb1 => mul1_any w.heap.size (w.heap.size + 1) a b w1 ha hb (two_of_new hb1).1 (two_of_new hb1).2)
  unfold intoE at *
  clear ha hb
  generalize into ((a * b).tdiv 1000000) = r at *
  go_enter Tryz.func27, Tryz.ntmps27
  go_wp2_with (go_at_call 46; refine k1.mono ?_; rintro e w' ⟨rfl, hb2⟩)
  go_ret2
  exact ⟨rfl, ((two_new _ _ _).2.2.2).trans (hb2.mono ((two_new _ _ _).2.2.2).size)⟩
theorem div_any (a b : Int) (w : World) (ha : -9223372036854775808 ≤ a ∧ a ≤ 9223372036854775807) (hb : -9223372036854775808 ≤ b ∧ b ≤ 9223372036854775807) (h0 : b ≠ 0) :
    Calls Tryz.prog 28 #[.int .i64 a, .int .i64 b] w fun e w' => e = intoE ((a * 1000000).tdiv b) ∧ Below w.heap.size w w' := by
  have hmf : ∀ (fn : Fn) (first cap : Array Value) (w : World), (Instr.makeFunc fn first cap).run Tryz.prog w = .ok (.func fn first cap) w := fun _ _ _ _ => rfl
  have k1 := kept_any 55 #[.pointer (some ⟨w.heap.size, 0, none⟩), .pointer (some ⟨w.heap.size + 1, 0, none⟩)] ((a * 1000000).tdiv b) ((w.alloc (.cells #[.int .i64 a] 2)).alloc (.cells #[.int .i64 b] 2)) (enters_of Tryz.func55 (by kernel_rfl) rfl) (fun w1 hb1 => div1_any w.heap.size (w.heap.size + 1) a b w1 ha hb h0 (two_of_new hb1).1 (two_of_new hb1).2)
  unfold intoE at *
  clear ha hb
  have h00 : ((b : Int) == 0) = false := beq_eq_false_iff_ne.2 h0
  clear h0
  generalize into ((a * 1000000).tdiv b) = r at *
  go_enter Tryz.func28, Tryz.ntmps28
  go_wp2_with (go_at_call 46; refine k1.mono ?_; rintro e w' ⟨rfl, hb2⟩)
  go_ret2
  exact ⟨rfl, ((two_new _ _ _).2.2.2).trans (hb2.mono ((two_new _ _ _).2.2.2).size)⟩
theorem mod_any (a b : Int) (w : World) (h0 : b ≠ 0) :
    Calls Tryz.prog 29 #[.int .i64 a, .int .i64 b] w fun e w' => e = .returned (.tuple #[.int .i64 (a.tmod b), .int .i64 0]) ∧ Below w.heap.size w w' := by
  have h1 : ((b : Int) == 0) = false := beq_eq_false_iff_ne.2 h0
  go_enter Tryz.func29, Tryz.ntmps29
  go_wp2
  go_ret2
  exact ⟨rfl, Below.refl _ _⟩
theorem mod_zero (a : Int) (w : World) :
    Calls Tryz.prog 29 #[.int .i64 a, .int .i64 0] w fun e w' => e = .returned (.tuple #[.int .i64 0, .int .i64 4]) ∧ Below w.heap.size w w' := by
  go_enter Tryz.func29, Tryz.ntmps29
  go_wp2
  go_ret2
  exact ⟨rfl, Below.refl _ _⟩
theorem div_zero (a : Int) (w : World) :
    Calls Tryz.prog 28 #[.int .i64 a, .int .i64 0] w fun e w' => e = .returned (.tuple #[.int .i64 0, .int .i64 4]) ∧ Below w.heap.size w w' := by
  have hmf : ∀ (fn : Fn) (first cap : Array Value) (w : World), (Instr.makeFunc fn first cap).run Tryz.prog w = .ok (.func fn first cap) w := fun _ _ _ _ => rfl
  go_enter Tryz.func28, Tryz.ntmps28
  go_wp2
  go_ret2
  exact ⟨rfl, (two_new _ _ _).2.2.2⟩
end Go.Proofs.YtokfkckfclnoaaaGreatDoor
