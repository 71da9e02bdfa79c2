/- regex.kept: a tree is made, and a panic is turned into the error that it says. No condition on the making but how it ends. -/
import Derived.Test.YtgokkdalfkinnaaReAll
import Derived.Defers
import Derived.Recover
import Derived.Shelf.Abstract
import Derived.Laws.Pointers
namespace Go.Proofs.Ytgokkdalfkinnaa
open Go.RowKit Go.Lib

theorem owns_base {w : World} {B B' n size : Nat} {e : TypeId} {v : Value} {xs : List Value} (h : w.ownsRow B e size v n xs) (hB : B' ≤ B) : w.ownsRow B' e size v n xs := by
  obtain ⟨h1, h2⟩ := h
  refine ⟨h1, ?_⟩
  rcases h2 with h2 | ⟨g, cap, cur, hv, hg, r⟩
  · exact .inl h2
  · exact .inr ⟨g, cap, cur, hv, Nat.le_trans hB hg, r⟩
/-- A row of a tree that a call answers: of its own making. -/
def IsRow (B : Nat) (ys : List Nd) (v : Value) (w : World) : Prop := w.ownsRow B 46 7 v ys.length (ndC ys)
theorem isRow_slice {B : Nat} {ys : List Nd} {v : Value} {w : World} (h : IsRow B ys v w) : ∃ ao cap, v = .slice ao ys.length cap := by
  rcases h.2 with ⟨hv, h0⟩ | ⟨g, cap, cur, hv, _⟩
  · exact ⟨_, _, by rw [hv, h0]⟩
  · exact ⟨_, _, hv⟩
theorem isRow_put {B : Nat} {ys : List Nd} {v : Value} {w : World} (h : IsRow B ys v w) (a : Addr) (u : Value) (ha : a.block < B) : IsRow B ys v (w.setCell a u) :=
  owns_same h fun g hg => Below.heap_setCell _ _ _ _ (by have := own_base h hg; omega)
theorem kept1_idle (p q : Addr) (w : World) :
    CallsD Try.prog 49 #[.pointer (some p), .pointer (some q)] .returning w fun e u' w' => e = .returned (.tuple #[]) ∧ u' = .returning ∧ w' = w := by
  refine callsD_of_wpS Try.func49 rfl fun c₀ cs hu => ?_
  apply wpS_seq
  apply wpS_region
  simp [wpOpsS, go_sem, recoverD, hu, Try.ntmps49, Exit.thenS]
  apply wpS_seq
  apply wpS_region
  simp [wpOpsS, go_sem, Exit.thenS]
  refine wpS_cond (t := false) (by simp [Act.eval, Array.replicate]) ?_
  simp only [Bool.false_eq_true, if_false]
  refine wpS_of_wp (wp_skip ?_)
  cases c₀
  simp_all [bodyPostS, results, Try.results49]

theorem assert_errno (e : Int) (w : World) : (Instr.typeAssert (.iface 24 (.int .i64 e)) 20 24 false).run Try.prog w = .ok (.int .i64 e) w := by kernel_rfl

theorem kept1_panics (g : Nat) (a : Value) (b e : Int) (t1 t2 : TypeId) (w : World)
    (ha : w.heap[g]? = some (.cells #[a] t1 (0, 0))) (hb : w.heap[g + 1]? = some (.cells #[.int .i64 b] t2 (0, 0))) :
    CallsD Try.prog 49 #[.pointer (some ⟨g, 0, none⟩), .pointer (some ⟨g + 1, 0, none⟩)] (.panicking [{ v := .iface 24 (.int .i64 e), recovered := false }]) w fun e' u' w' =>
      e' = .returned (.tuple #[]) ∧ u' = .panicking [{ v := .iface 24 (.int .i64 e), recovered := true }] ∧ w' = ((w.setCell ⟨g, 0, none⟩ (.slice none 0 0)).setCell ⟨g + 1, 0, none⟩ (.int .i64 e)).drew := by
  have hca : w.cell? ⟨g, 0, none⟩ = some a := by simp [World.cell?, ha]
  have hfa : w.frozen? ⟨g, 0, none⟩ = false := by simp [World.frozen?, ha]
  have hcb : w.cell? ⟨g + 1, 0, none⟩ = some (.int .i64 b) := by simp [World.cell?, hb]
  have hfb : w.frozen? ⟨g + 1, 0, none⟩ = false := by simp [World.frozen?, hb]
  have hta := assert_errno e
  refine callsD_of_wpS Try.func49 rfl fun c₀ cs hu => ?_
  apply wpS_seq
  apply wpS_region
  simp [wpOpsS, go_sem, recoverD, hu, Try.ntmps49, Exit.thenS]
  apply wpS_seq
  apply wpS_region
  simp [wpOpsS, go_sem, Exit.thenS]
  refine wpS_cond (t := true) (by simp [Act.eval, Array.replicate]) ?_
  simp only [if_true]
  refine wpS_of_wp ?_
  go_region_law (fail)
  all_goals
    simp [bodyPostS, results, Try.results49]

theorem two_new (w : World) (A B : Obj) : ((w.alloc A).alloc B).heap[w.heap.size]? = some A ∧ ((w.alloc A).alloc B).heap[w.heap.size + 1]? = some B ∧ ((w.alloc A).alloc B).heap.size = w.heap.size + 2 ∧ Below w.heap.size w ((w.alloc A).alloc B) := by
  refine ⟨?_, ?_, by simp, ((Below.refl _ w).alloc (Nat.le_refl _) _).alloc (by simp) _⟩
  · rw [Below.heap_alloc _ _ _ (by simp)]; exact heap_alloc_new _ _
  · rw [show w.heap.size + 1 = (w.alloc A).heap.size by simp]; exact heap_alloc_new _ _
theorem cell_one {w : World} {g : Nat} {v : Value} {t : TypeId} (h : w.heap[g]? = some (.cells #[v] t (0, 0))) : w.cell? ⟨g, 0, none⟩ = some v ∧ w.frozen? ⟨g, 0, none⟩ = false := by
  constructor <;> simp [World.cell?, World.frozen?, h]
theorem below_two {w W : World} (h : Below W.heap.size W w) {g : Nat} {o : Obj} (hg : W.heap[g]? = some o) (hlt : g < W.heap.size) : w.heap[g]? = some o := (h.block g hlt).trans hg

theorem kept_ok (k : FuncId) (caps : Array Value) (ys : List Nd) (w : World) (he : ∀ args w, (callFunc k args).run Try.prog w = .ok (.enter k args) w)
    (h : ∀ w1, Below w.heap.size w w1 → Calls Try.prog k caps w1 fun e w2 => (∃ v, e = .returned v ∧ IsRow w1.heap.size ys v w2) ∧ Below w1.heap.size w1 w2) :
    Calls Try.prog 23 #[.func (.func k) #[] caps] w fun e w' => (∃ v, e = .returned (.tuple #[v, .int .i64 0]) ∧ IsRow w.heap.size ys v w') ∧ Below w.heap.size w w' := by
  have hmf : ∀ (fn : Fn) (first cap : Array Value) (w : World), (Instr.makeFunc fn first cap).run Try.prog w = .ok (.func fn first cap) w := fun _ _ _ _ => rfl
  go_enter_defers Try.func23, Try.ntmps23
  go_wp2_with (go_at_fn k; refine (h _ (two_new _ _ _).2.2.2).mono ?_; rintro e w2 ⟨⟨v, rfl, hrow⟩, hb2⟩; obtain ⟨ao, cap, rfl⟩ := isRow_slice hrow; obtain ⟨T1, T2, T3, T4⟩ := two_new w (.cells #[.slice none 0 0] 49) (.cells #[.int .i64 0] 24); have c1 := below_two hb2 T1 (by rw [T3]; omega); have c2 := below_two hb2 T2 (by rw [T3]; omega); obtain ⟨c3, c4⟩ := cell_one c1; obtain ⟨c5, c6⟩ := cell_one c2)
  refine leaves_cons (f := 49) (args := #[.pointer (some ⟨w.heap.size, 0, none⟩), .pointer (some ⟨w.heap.size + 1, 0, none⟩)]) (by simp) (by simp [go_sem]) ?_
  refine (kept1_idle ⟨w.heap.size, 0, none⟩ ⟨w.heap.size + 1, 0, none⟩ _).mono ?_
  rintro e u' w'' ⟨rfl, rfl, rfl⟩
  simp [Leaves, settle, results, Try.results23, go_sem, c3, c5]
  refine ⟨?_, ((T4.trans (hb2.mono T4.size)).setCell (by simp) _).setCell (by simp) _⟩
  exact owns_base (isRow_put (isRow_put hrow _ _ (by rw [T3]; simp)) _ _ (by rw [T3]; simp)) T4.size
theorem kept_bad (k : FuncId) (caps : Array Value) (er : Int) (w : World) (he : ∀ args w, (callFunc k args).run Try.prog w = .ok (.enter k args) w)
    (h : ∀ w1, Below w.heap.size w w1 → Calls Try.prog k caps w1 fun e w2 => e = .panicked [{ v := .iface 24 (.int .i64 er), recovered := false }] ∧ Below w1.heap.size w1 w2) :
    Calls Try.prog 23 #[.func (.func k) #[] caps] w fun e w' => e = .returned (.tuple #[.slice none 0 0, .int .i64 er]) ∧ Below w.heap.size w w' := by
  have hmf : ∀ (fn : Fn) (first cap : Array Value) (w : World), (Instr.makeFunc fn first cap).run Try.prog w = .ok (.func fn first cap) w := fun _ _ _ _ => rfl
  go_enter_defers Try.func23, Try.ntmps23
  go_wp2_with (go_at_fn k; refine (h _ (two_new _ _ _).2.2.2).mono ?_; rintro e w2 ⟨rfl, hb2⟩; obtain ⟨T1, T2, T3, T4⟩ := two_new w (.cells #[.slice none 0 0] 49) (.cells #[.int .i64 0] 24); have c1 := below_two hb2 T1 (by rw [T3]; omega); have c2 := below_two hb2 T2 (by rw [T3]; omega); obtain ⟨c3, c4⟩ := cell_one c1; obtain ⟨c5, c6⟩ := cell_one c2)
  refine leaves_cons (f := 49) (args := #[.pointer (some ⟨w.heap.size, 0, none⟩), .pointer (some ⟨w.heap.size + 1, 0, none⟩)]) (by simp) (by simp [go_sem]) ?_
  refine (kept1_panics w.heap.size _ 0 er _ _ _ c1 c2).mono ?_
  rintro e u' w'' ⟨rfl, rfl, rfl⟩
  simp [Leaves, settle, results, Try.results23, go_sem, c3, c5]
  exact (((T4.trans (hb2.mono T4.size)).setCell (by simp) _).setCell (by simp) _).drew

/-- What Read answers. -/
def ReadP (B : Nat) : Res → Ending → World → Prop
  | .ok t _, e, w => ∃ v, e = .returned (.tuple #[v, .int .i64 0]) ∧ IsRow B (t.row 0) v w
  | .bad x, e, _ => e = .returned (.tuple #[.slice none 0 0, .int .i64 x])
/-- What its closure does. -/
def DeedP (B : Nat) : Res → Ending → World → Prop
  | .ok t _, e, w => ∃ v, e = .returned v ∧ IsRow B (t.row 0) v w
  | .bad x, e, _ => e = errV x

theorem fresh_rdr (l : List UInt8) (w : World) : Rdr w.heap.size w.heap.size [] l 0 (w.alloc (.cells #[.slice none 0 0, .string ⟨l.toArray⟩, .int .i64 0] 53)) := by
  refine ⟨Nat.le_refl _, by simp, by simp, by decide, .slice none 0 0, heap_alloc_new w _, ⟨rfl, .inl ⟨rfl, rfl⟩⟩, by simp [Value.ownBlock]⟩
theorem Own.first {B p : Nat} {T : TypeId} {more : List Value} {xs : List Nd} {w : World} (h : Own B p T more xs w) : ∃ v, w.cell? ⟨p, 0, none⟩ = some v ∧ IsRow B xs v w := by
  obtain ⟨_, _, _, _, v, h4, h5, _⟩ := h
  exact ⟨v, by rw [cell_of_heap h4]; rfl, h5⟩

set_option maxHeartbeats 1000000 in
set_option maxRecDepth 20000 in
theorem read1_bad (l : List UInt8) (q : Nat) (x : Int) (w : World) (hq : w.heap[q]? = some (.cells #[.string ⟨l.toArray⟩] 9 (0, 0)))
    (k1 : ∀ w' : World, Rdr w.heap.size w.heap.size [] l 0 w' → Calls Try.prog 25 #[.pointer (some ⟨w.heap.size, 0, none⟩)] w' fun e w2 => e = errV x ∧ Below w.heap.size w' w2) :
    Calls Try.prog 24 #[.pointer (some ⟨q, 0, none⟩)] w fun e w' => e = errV x ∧ Below w.heap.size w w' := by
  have c0 : w.cell? ⟨q, 0, none⟩ = some (.string ⟨l.toArray⟩) := by rw [cell_of_heap hq]; rfl
  have k2 := k1 _ (fresh_rdr l w)
  clear hq k1
  generalize (⟨l.toArray⟩ : ByteArray) = S at c0 k2
  unfold errV at k2 ⊢
  go_enter Try.func24, Try.ntmps24
  go_wp2_with (first
    | (go_at_call 25; refine k2.mono ?_; rintro e w1 ⟨rfl, hb1⟩))
  exact ⟨rfl, rfl, ((Below.refl _ w).alloc (Nat.le_refl _) _).trans hb1⟩

set_option maxHeartbeats 1000000 in
set_option maxRecDepth 20000 in
theorem read1_more (l l' : List UInt8) (c : UInt8) (ys : List Nd) (q : Nat) (w : World) (hq : w.heap[q]? = some (.cells #[.string ⟨l.toArray⟩] 9 (0, 0)))
    (k1 : ∀ w' : World, Rdr w.heap.size w.heap.size [] l 0 w' → Calls Try.prog 25 #[.pointer (some ⟨w.heap.size, 0, none⟩)] w' fun e w2 => (e = .returned (.tuple #[]) ∧ Rdr w.heap.size w.heap.size ys (c :: l') 0 w2) ∧ Below w.heap.size w' w2) :
    Calls Try.prog 24 #[.pointer (some ⟨q, 0, none⟩)] w fun e w' => e = errV 9 ∧ Below w.heap.size w w' := by
  have c0 : w.cell? ⟨q, 0, none⟩ = some (.string ⟨l.toArray⟩) := by rw [cell_of_heap hq]; rfl
  have k2 := k1 _ (fresh_rdr l w)
  have hE := list_full c l'
  clear hq k1
  generalize (⟨l.toArray⟩ : ByteArray) = S at c0 k2
  unfold errV
  go_enter Try.func24, Try.ntmps24
  go_wp2_with (first
    | (go_at_call 25; refine k2.mono ?_; rintro e w1 ⟨⟨rfl, h1⟩, hb1⟩; obtain ⟨d1, _⟩ := h1.cell (i := 0) rfl))
  exact ⟨rfl, rfl, ((Below.refl _ w).alloc (Nat.le_refl _) _).trans hb1⟩

set_option maxHeartbeats 1000000 in
set_option maxRecDepth 20000 in
theorem read1_ok (l : List UInt8) (ys : List Nd) (q : Nat) (w : World) (hq : w.heap[q]? = some (.cells #[.string ⟨l.toArray⟩] 9 (0, 0)))
    (k1 : ∀ w' : World, Rdr w.heap.size w.heap.size [] l 0 w' → Calls Try.prog 25 #[.pointer (some ⟨w.heap.size, 0, none⟩)] w' fun e w2 => (e = .returned (.tuple #[]) ∧ Rdr w.heap.size w.heap.size ys [] 0 w2) ∧ Below w.heap.size w' w2) :
    Calls Try.prog 24 #[.pointer (some ⟨q, 0, none⟩)] w fun e w' => (∃ v, e = .returned v ∧ IsRow w.heap.size ys v w') ∧ Below w.heap.size w w' := by
  have c0 : w.cell? ⟨q, 0, none⟩ = some (.string ⟨l.toArray⟩) := by rw [cell_of_heap hq]; rfl
  have k2 := k1 _ (fresh_rdr l w)
  have hE := list_empty
  clear hq k1
  generalize (⟨l.toArray⟩ : ByteArray) = S at c0 k2
  go_enter Try.func24, Try.ntmps24
  go_wp2_with (first
    | (go_at_call 25; refine k2.mono ?_; rintro e w1 ⟨⟨rfl, h1⟩, hb1⟩; obtain ⟨d1, _⟩ := h1.cell (i := 0) rfl; obtain ⟨v, d0, hrow⟩ := h1.first))
  exact bodyPost_ret (results_tmp rfl _ _ _) rfl ⟨⟨v, rfl, hrow⟩, ((Below.refl _ w).alloc (Nat.le_refl _) _).trans hb1⟩

theorem read1_any (l : List UInt8) (r : Res) (q : Nat) (w : World) (hl : l.length ≤ 70000000000000) (hr : Reads l r) (hq : w.heap[q]? = some (.cells #[.string ⟨l.toArray⟩] 9 (0, 0))) :
    Calls Try.prog 24 #[.pointer (some ⟨q, 0, none⟩)] w fun e w' => DeedP w.heap.size r e w' ∧ Below w.heap.size w w' := by
  have hall := all_any w.heap.size w.heap.size l.length hl
  cases hr with
  | ok h => exact read1_ok l _ q w hq fun w' hw => hall [] l 0 _ w' (Nat.le_refl _) hw h
  | bad h => exact read1_bad l q _ w hq fun w' hw => hall [] l 0 _ w' (Nat.le_refl _) hw h
  | more h => exact read1_more l _ _ _ q w hq fun w' hw => hall [] l 0 _ w' (Nat.le_refl _) hw h

set_option maxHeartbeats 1000000 in
set_option maxRecDepth 20000 in
theorem read_ok (l : List UInt8) (t : Tr) (w : World)
    (k1 : ∀ w1 : World, Below (w.alloc (.cells #[.string ⟨l.toArray⟩] 9)).heap.size (w.alloc (.cells #[.string ⟨l.toArray⟩] 9)) w1 → Calls Try.prog 24 #[.pointer (some ⟨w.heap.size, 0, none⟩)] w1 fun e w2 => (∃ v, e = .returned v ∧ IsRow w1.heap.size (t.row 0) v w2) ∧ Below w1.heap.size w1 w2) :
    Calls Try.prog 10 #[.string ⟨l.toArray⟩] w fun e w' => (∃ v, e = .returned (.tuple #[v, .int .i64 0]) ∧ IsRow w.heap.size (t.row 0) v w') ∧ Below w.heap.size w w' := by
  have hmf : ∀ (fn : Fn) (first cap : Array Value) (w : World), (Instr.makeFunc fn first cap).run Try.prog w = .ok (.func fn first cap) w := fun _ _ _ _ => rfl
  have he : ∀ args w, (callFunc 24 args).run Try.prog w = .ok (.enter 24 args) w := fun args w => enters_of Try.func24 (by kernel_rfl) rfl args w
  have k2 := kept_ok 24 #[.pointer (some ⟨w.heap.size, 0, none⟩)] (t.row 0) _ he k1
  clear k1 he
  generalize (⟨l.toArray⟩ : ByteArray) = S at k2 ⊢
  generalize t.row 0 = ys at k2 ⊢
  go_enter Try.func10, Try.ntmps10
  go_wp2_with (first
    | (go_at_call 23; refine k2.mono ?_; rintro e w1 ⟨⟨v, rfl, hrow⟩, hb1⟩))
  exact bodyPost_ret (results_tmp2 rfl _ _ _) rfl ⟨⟨v, rfl, owns_base hrow (by simp)⟩, ((Below.refl _ w).alloc (Nat.le_refl _) _).trans (hb1.mono (by simp))⟩
set_option maxHeartbeats 1000000 in
set_option maxRecDepth 20000 in
theorem read_bad (l : List UInt8) (x : Int) (w : World)
    (k1 : ∀ w1 : World, Below (w.alloc (.cells #[.string ⟨l.toArray⟩] 9)).heap.size (w.alloc (.cells #[.string ⟨l.toArray⟩] 9)) w1 → Calls Try.prog 24 #[.pointer (some ⟨w.heap.size, 0, none⟩)] w1 fun e w2 => e = errV x ∧ Below w1.heap.size w1 w2) :
    Calls Try.prog 10 #[.string ⟨l.toArray⟩] w fun e w' => e = .returned (.tuple #[.slice none 0 0, .int .i64 x]) ∧ Below w.heap.size w w' := by
  have hmf : ∀ (fn : Fn) (first cap : Array Value) (w : World), (Instr.makeFunc fn first cap).run Try.prog w = .ok (.func fn first cap) w := fun _ _ _ _ => rfl
  have he : ∀ args w, (callFunc 24 args).run Try.prog w = .ok (.enter 24 args) w := fun args w => enters_of Try.func24 (by kernel_rfl) rfl args w
  have k2 := kept_bad 24 #[.pointer (some ⟨w.heap.size, 0, none⟩)] x _ he k1
  clear k1 he
  generalize (⟨l.toArray⟩ : ByteArray) = S at k2 ⊢
  go_enter Try.func10, Try.ntmps10
  go_wp2_with (first
    | (go_at_call 23; refine k2.mono ?_; rintro e w1 ⟨rfl, hb1⟩))
  exact bodyPost_ret (results_tmp2 rfl _ _ _) rfl ⟨rfl, ((Below.refl _ w).alloc (Nat.le_refl _) _).trans (hb1.mono (by simp))⟩
/-- Reading a text: what the rules say. -/
theorem readRe_any (l : List UInt8) (r : Res) (w : World) (hl : l.length ≤ 70000000000000) (hr : Reads l r) :
    Calls Try.prog 10 #[.string ⟨l.toArray⟩] w fun e w' => ReadP w.heap.size r e w' ∧ Below w.heap.size w w' := by
  have k : ∀ w1 : World, Below (w.alloc (.cells #[.string ⟨l.toArray⟩] 9)).heap.size (w.alloc (.cells #[.string ⟨l.toArray⟩] 9)) w1 → Calls Try.prog 24 #[.pointer (some ⟨w.heap.size, 0, none⟩)] w1 fun e w2 => DeedP w1.heap.size r e w2 ∧ Below w1.heap.size w1 w2 :=
    fun w1 hb => read1_any l r w.heap.size w1 hl hr ((hb.block _ (by simp)).trans (heap_alloc_new w _))
  cases r with
  | ok t l' => exact read_ok l t w k
  | bad x => exact read_bad l x w k
end Go.Proofs.Ytgokkdalfkinnaa
