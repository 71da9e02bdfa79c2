/- dec.kept: a reckoning is called, and its panic is turned into the error that it says. No condition on the reckoning but how it ends. -/
import Derived.Test.YtokfkckfclnoaaaDoorHexLeaf
import Derived.Defers
import Derived.Recover
import Derived.Shelf.Abstract
import Derived.Laws.Pointers
import Derived.Deep.RegionLaw
namespace Go.Proofs.YtokfkckfclnoaaaDoor
open Go.RowKit

/-- How a reckoning ends: with its number, or with a panic that says why not. -/
def deed (n e : Int) : Ending := if e = 0 then .returned (.int .i64 n) else .panicked [{ v := .iface 23 (.int .i64 e), recovered := false }]
theorem deed_ok (n : Int) : deed n 0 = .returned (.int .i64 n) := rfl
theorem deed_bad {n e : Int} (h : e ≠ 0) : deed n e = .panicked [{ v := .iface 23 (.int .i64 e), recovered := false }] := if_neg h

theorem kept1_idle (p q : Addr) (w : World) :
    CallsD Tryd.prog 82 #[.pointer (some p), .pointer (some q)] .returning w fun e u' w' => e = .returned (.tuple #[]) ∧ u' = .returning ∧ w' = w := by
  refine callsD_of_wpS Tryd.func82 rfl fun c₀ cs hu => ?_
  apply wpS_seq
  apply wpS_region
  simp [wpOpsS, go_sem, recoverD, hu, Tryd.ntmps82, Exit.thenS]
  apply wpS_seq
  apply wpS_region
  simp [wpOpsS, go_sem, Exit.thenS]
  refine wpS_cond (t := false) (by simp [Act.eval, Array.replicate]) ?_
  simp only [Bool.false_eq_true, if_false]
  refine wpS_of_wp (wp_skip ?_)
  cases c₀
  simp_all [bodyPostS, results, Tryd.results82]

theorem assert_errno (e : Int) (w : World) : (Instr.typeAssert (.iface 23 (.int .i64 e)) 20 23 false).run Tryd.prog w = .ok (.int .i64 e) w := by kernel_rfl

theorem kept1_panics (g : Nat) (a b e : Int) (t1 t2 : TypeId) (w : World)
    (ha : w.heap[g]? = some (.cells #[.int .i64 a] t1 (0, 0))) (hb : w.heap[g + 1]? = some (.cells #[.int .i64 b] t2 (0, 0))) :
    CallsD Tryd.prog 82 #[.pointer (some ⟨g, 0, none⟩), .pointer (some ⟨g + 1, 0, none⟩)] (.panicking [{ v := .iface 23 (.int .i64 e), recovered := false }]) w fun e' u' w' =>
      e' = .returned (.tuple #[]) ∧ u' = .panicking [{ v := .iface 23 (.int .i64 e), recovered := true }] ∧ w' = ((w.setCell ⟨g, 0, none⟩ (.int .i64 0)).setCell ⟨g + 1, 0, none⟩ (.int .i64 e)).drew := by
  have hca : w.cell? ⟨g, 0, none⟩ = some (.int .i64 a) := by simp [World.cell?, ha]
  have hfa : w.frozen? ⟨g, 0, none⟩ = false := by simp [World.frozen?, ha]
  have hcb : w.cell? ⟨g + 1, 0, none⟩ = some (.int .i64 b) := by simp [World.cell?, hb]
  have hfb : w.frozen? ⟨g + 1, 0, none⟩ = false := by simp [World.frozen?, hb]
  have hta := assert_errno e
  refine callsD_of_wpS Tryd.func82 rfl fun c₀ cs hu => ?_
  apply wpS_seq
  apply wpS_region
  simp [wpOpsS, go_sem, recoverD, hu, Tryd.ntmps82, Exit.thenS]
  apply wpS_seq
  apply wpS_region
  simp [wpOpsS, go_sem, Exit.thenS]
  refine wpS_cond (t := true) (by simp [Act.eval, Array.replicate]) ?_
  simp only [if_true]
  refine wpS_of_wp ?_
  go_region_law (fail)
  all_goals
    simp [bodyPostS, results, Tryd.results82]

theorem two_new (w : World) (A B : Obj) : ((w.alloc A).alloc B).heap[w.heap.size]? = some A ∧ ((w.alloc A).alloc B).heap[w.heap.size + 1]? = some B ∧ ((w.alloc A).alloc B).heap.size = w.heap.size + 2 ∧ Below w.heap.size w ((w.alloc A).alloc B) := by
  refine ⟨?_, ?_, by simp, ((Below.refl _ w).alloc (Nat.le_refl _) _).alloc (by simp) _⟩
  · rw [Below.heap_alloc _ _ _ (by simp)]; exact heap_alloc_new _ _
  · rw [show w.heap.size + 1 = (w.alloc A).heap.size by simp]; exact heap_alloc_new _ _
theorem cell_one {w : World} {g : Nat} {v : Value} {t : TypeId} (h : w.heap[g]? = some (.cells #[v] t (0, 0))) : w.cell? ⟨g, 0, none⟩ = some v ∧ w.frozen? ⟨g, 0, none⟩ = false := by
  constructor <;> simp [World.cell?, World.frozen?, h]
theorem below_two {w W : World} (h : Below W.heap.size W w) {g : Nat} {o : Obj} (hg : W.heap[g]? = some o) (hlt : g < W.heap.size) : w.heap[g]? = some o := (h.block g hlt).trans hg

theorem kept_ok (k : FuncId) (caps : Array Value) (n : Int) (w : World) (he : ∀ args w, (callFunc k args).run Tryd.prog w = .ok (.enter k args) w)
    (h : ∀ w1, Below w.heap.size w w1 → Calls Tryd.prog k caps w1 fun e w2 => e = .returned (.int .i64 n) ∧ Below w1.heap.size w1 w2) :
    Calls Tryd.prog 47 #[.func (.func k) #[] caps] w fun e w' => e = .returned (.tuple #[.int .i64 n, .int .i64 0]) ∧ Below w.heap.size w w' := by
  have hmf : ∀ (fn : Fn) (first cap : Array Value) (w : World), (Instr.makeFunc fn first cap).run Tryd.prog w = .ok (.func fn first cap) w := fun _ _ _ _ => rfl
  go_enter_defers Tryd.func47, Tryd.ntmps47
  go_wp2_with (go_at_fn k; refine (h _ (two_new _ _ _).2.2.2).mono ?_; rintro e w2 ⟨rfl, hb2⟩; obtain ⟨T1, T2, T3, T4⟩ := two_new w (.cells #[.int .i64 0] 2) (.cells #[.int .i64 0] 23); have c1 := below_two hb2 T1 (by rw [T3]; omega); have c2 := below_two hb2 T2 (by rw [T3]; omega); obtain ⟨c3, c4⟩ := cell_one c1; obtain ⟨c5, c6⟩ := cell_one c2)
  refine leaves_cons (f := 82) (args := #[.pointer (some ⟨w.heap.size, 0, none⟩), .pointer (some ⟨w.heap.size + 1, 0, none⟩)]) (by simp) (by simp [go_sem]) ?_
  refine (kept1_idle ⟨w.heap.size, 0, none⟩ ⟨w.heap.size + 1, 0, none⟩ _).mono ?_
  rintro e u' w'' ⟨rfl, rfl, rfl⟩
  simp [Leaves, settle, results, Tryd.results47, go_sem, c3, c5]
  exact ((T4.trans (hb2.mono T4.size)).setCell (by simp) _).setCell (by simp) _
theorem kept_bad (k : FuncId) (caps : Array Value) (er : Int) (w : World) (he : ∀ args w, (callFunc k args).run Tryd.prog w = .ok (.enter k args) w)
    (h : ∀ w1, Below w.heap.size w w1 → Calls Tryd.prog k caps w1 fun e w2 => e = .panicked [{ v := .iface 23 (.int .i64 er), recovered := false }] ∧ Below w1.heap.size w1 w2) :
    Calls Tryd.prog 47 #[.func (.func k) #[] caps] w fun e w' => e = .returned (.tuple #[.int .i64 0, .int .i64 er]) ∧ Below w.heap.size w w' := by
  have hmf : ∀ (fn : Fn) (first cap : Array Value) (w : World), (Instr.makeFunc fn first cap).run Tryd.prog w = .ok (.func fn first cap) w := fun _ _ _ _ => rfl
  go_enter_defers Tryd.func47, Tryd.ntmps47
  go_wp2_with (go_at_fn k; refine (h _ (two_new _ _ _).2.2.2).mono ?_; rintro e w2 ⟨rfl, hb2⟩; obtain ⟨T1, T2, T3, T4⟩ := two_new w (.cells #[.int .i64 0] 2) (.cells #[.int .i64 0] 23); have c1 := below_two hb2 T1 (by rw [T3]; omega); have c2 := below_two hb2 T2 (by rw [T3]; omega); obtain ⟨c3, c4⟩ := cell_one c1; obtain ⟨c5, c6⟩ := cell_one c2)
  refine leaves_cons (f := 82) (args := #[.pointer (some ⟨w.heap.size, 0, none⟩), .pointer (some ⟨w.heap.size + 1, 0, none⟩)]) (by simp) (by simp [go_sem]) ?_
  refine (kept1_panics w.heap.size 0 0 er _ _ _ c1 c2).mono ?_
  rintro e u' w'' ⟨rfl, rfl, rfl⟩
  simp [Leaves, settle, results, Tryd.results47, go_sem, c3, c5]
  exact (((T4.trans (hb2.mono T4.size)).setCell (by simp) _).setCell (by simp) _).drew
/- The same of a method value: its receiver goes first. -/
theorem kept_ok1 (k : FuncId) (v : Value) (n : Int) (w : World) (he : ∀ args w, (callFunc k args).run Tryd.prog w = .ok (.enter k args) w)
    (h : ∀ w1, Below w.heap.size w w1 → Calls Tryd.prog k #[v] w1 fun e w2 => e = .returned (.int .i64 n) ∧ Below w1.heap.size w1 w2) :
    Calls Tryd.prog 47 #[.func (.func k) #[v] #[]] w fun e w' => e = .returned (.tuple #[.int .i64 n, .int .i64 0]) ∧ Below w.heap.size w w' := by
  have hmf : ∀ (fn : Fn) (first cap : Array Value) (w : World), (Instr.makeFunc fn first cap).run Tryd.prog w = .ok (.func fn first cap) w := fun _ _ _ _ => rfl
  go_enter_defers Tryd.func47, Tryd.ntmps47
  go_wp2_with (go_at_fn k; refine (h _ (two_new _ _ _).2.2.2).mono ?_; rintro e w2 ⟨rfl, hb2⟩; obtain ⟨T1, T2, T3, T4⟩ := two_new w (.cells #[.int .i64 0] 2) (.cells #[.int .i64 0] 23); have c1 := below_two hb2 T1 (by rw [T3]; omega); have c2 := below_two hb2 T2 (by rw [T3]; omega); obtain ⟨c3, c4⟩ := cell_one c1; obtain ⟨c5, c6⟩ := cell_one c2)
  refine leaves_cons (f := 82) (args := #[.pointer (some ⟨w.heap.size, 0, none⟩), .pointer (some ⟨w.heap.size + 1, 0, none⟩)]) (by simp) (by simp [go_sem]) ?_
  refine (kept1_idle ⟨w.heap.size, 0, none⟩ ⟨w.heap.size + 1, 0, none⟩ _).mono ?_
  rintro e u' w'' ⟨rfl, rfl, rfl⟩
  simp [Leaves, settle, results, Tryd.results47, go_sem, c3, c5]
  exact ((T4.trans (hb2.mono T4.size)).setCell (by simp) _).setCell (by simp) _
theorem kept_bad1 (k : FuncId) (v : Value) (er : Int) (w : World) (he : ∀ args w, (callFunc k args).run Tryd.prog w = .ok (.enter k args) w)
    (h : ∀ w1, Below w.heap.size w w1 → Calls Tryd.prog k #[v] w1 fun e w2 => e = .panicked [{ v := .iface 23 (.int .i64 er), recovered := false }] ∧ Below w1.heap.size w1 w2) :
    Calls Tryd.prog 47 #[.func (.func k) #[v] #[]] w fun e w' => e = .returned (.tuple #[.int .i64 0, .int .i64 er]) ∧ Below w.heap.size w w' := by
  have hmf : ∀ (fn : Fn) (first cap : Array Value) (w : World), (Instr.makeFunc fn first cap).run Tryd.prog w = .ok (.func fn first cap) w := fun _ _ _ _ => rfl
  go_enter_defers Tryd.func47, Tryd.ntmps47
  go_wp2_with (go_at_fn k; refine (h _ (two_new _ _ _).2.2.2).mono ?_; rintro e w2 ⟨rfl, hb2⟩; obtain ⟨T1, T2, T3, T4⟩ := two_new w (.cells #[.int .i64 0] 2) (.cells #[.int .i64 0] 23); have c1 := below_two hb2 T1 (by rw [T3]; omega); have c2 := below_two hb2 T2 (by rw [T3]; omega); obtain ⟨c3, c4⟩ := cell_one c1; obtain ⟨c5, c6⟩ := cell_one c2)
  refine leaves_cons (f := 82) (args := #[.pointer (some ⟨w.heap.size, 0, none⟩), .pointer (some ⟨w.heap.size + 1, 0, none⟩)]) (by simp) (by simp [go_sem]) ?_
  refine (kept1_panics w.heap.size 0 0 er _ _ _ c1 c2).mono ?_
  rintro e u' w'' ⟨rfl, rfl, rfl⟩
  simp [Leaves, settle, results, Tryd.results47, go_sem, c3, c5]
  exact (((T4.trans (hb2.mono T4.size)).setCell (by simp) _).setCell (by simp) _).drew
end Go.Proofs.YtokfkckfclnoaaaDoor
