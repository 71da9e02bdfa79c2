/- The first span: package match's spans and Span. Conditions: 2000 nodes, 1000000 bytes. -/
import Derived.Test.YtolofcfegoeenaaMaSpans
namespace Go.Proofs.Ytolofcfegoeenaa
open Go.RowKit Go.Lib
attribute [local go_sem] Oper.semAt_some

set_option maxHeartbeats 1000000 in
theorem spans_make (v : Value) (s : ByteArray) (k : Int) (w : World) (hv : ∃ ao n c, v = .slice ao n c) :
    Calls Try.prog 55 #[v, .string s, .int .i64 k] w fun e w' => e = .returned (.func (.func 75) #[] #[.pointer (some ⟨w.heap.size, 0, none⟩), .pointer (some ⟨w.heap.size + 1, 0, none⟩), .pointer (some ⟨w.heap.size + 1 + 1, 0, none⟩)]) ∧
      w' = ((w.alloc (.cells #[v] 22)).alloc (.cells #[.string s] 9)).alloc (.cells #[.int .i64 k] 3) := by
  obtain ⟨ao, n, c, rfl⟩ := hv
  have hmf : ∀ (fn : Fn) (first cap : Array Value) (w : World), (Instr.makeFunc fn first cap).run Try.prog w = .ok (.func fn first cap) w := fun _ _ _ _ => rfl
  go_enter Try.func55, Try.ntmps55
  go_wp2
  go_ret
  exact ⟨rfl, rfl⟩
theorem load_int {w : World} {g : Nat} {x : Int} (hc : w.cell? ⟨g, 0, none⟩ = some (.int .i64 x)) : (loadVar 3 ⟨g, 0, none⟩).run Try.prog w = .ok (.int .i64 x) w := by
  go_simp
theorem load_bool {w : World} {g : Nat} {x : Bool} (hc : w.cell? ⟨g, 0, none⟩ = some (.bool x)) : (loadVar 4 ⟨g, 0, none⟩).run Try.prog w = .ok (.bool x) w := by
  go_simp
theorem results_three {fn : Func} {p q r : Tmp} {t1 t2 t3 : TypeId} (h : fn.results = #[.cell p t1, .cell q t2, .cell r t3]) (tmps : Array Value) (w : World) (g1 g2 g3 : Nat) (x y z : Value)
    (hp : tmps.getD p undef = .pointer (some ⟨g1, 0, none⟩)) (hq : tmps.getD q undef = .pointer (some ⟨g2, 0, none⟩)) (hr : tmps.getD r undef = .pointer (some ⟨g3, 0, none⟩))
    (h1 : (loadVar t1 ⟨g1, 0, none⟩).run Try.prog w = .ok x w) (h2 : (loadVar t2 ⟨g2, 0, none⟩).run Try.prog w = .ok y w) (h3 : (loadVar t3 ⟨g3, 0, none⟩).run Try.prog w = .ok z w) :
    (results fn tmps).run Try.prog w = .ok (.tuple #[x, y, z]) w := by
  simp only [results, h]
  simp at hp hq hr
  simp [Sem.run_bind, Result.andThen, hp, hq, hr, asAddr, h1, h2, h3]
/-- Three named results. -/
structure R3 (h : Nat) (w : World) (x y : Int) (t : Bool) (Z : World) : Prop where
  c0 : Z.heap[h]? = some (.cells #[.int .i64 x] 3 (0, 0))
  c1 : Z.heap[h + 1]? = some (.cells #[.int .i64 y] 3 (0, 0))
  c2 : Z.heap[h + 2]? = some (.cells #[.bool t] 4 (0, 0))
  low : Below h w Z
theorem R3.grown {h : Nat} {w A B : World} {x y : Int} {t : Bool} {row : Option Nat} {D : Nat} (r : R3 h w x y t A) (hD : h + 3 ≤ D) (hg : A.grownBy B row) (hr : ∀ q, row = some q → D ≤ q) : R3 h w x y t B := by
  have e : ∀ {j : Nat} {o : Obj}, A.heap[j]? = some o → j < D → B.heap[j]? = some o := fun {j o} hj hl => (hg.block j (block_lt hj) (fun e => by have := hr j e.symm; omega)).trans hj
  exact ⟨e r.c0 (by omega), e r.c1 (by omega), e r.c2 (by omega), r.low.grown hg (by have := block_lt r.c0; omega) (fun q hq => by have := hr q hq; omega)⟩
theorem R3.set {h : Nat} {w Z : World} {x y : Int} {t : Bool} (r : R3 h w x y t Z) (x' y' : Int) (t' : Bool) : R3 h w x' y' t' (((Z.setCell ⟨h, 0, none⟩ (.int .i64 x')).setCell ⟨h + 1, 0, none⟩ (.int .i64 y')).setCell ⟨h + 2, 0, none⟩ (.bool t')) := by
  refine ⟨?_, ?_, ?_, ((r.low.setCell (p := ⟨h, 0, none⟩) (Nat.le_refl _) _).setCell (p := ⟨h + 1, 0, none⟩) (by dsimp only; omega) _).setCell (p := ⟨h + 2, 0, none⟩) (by dsimp only; omega) _⟩
  · refine (Below.heap_setCell _ _ _ _ (by dsimp only; omega)).trans ((Below.heap_setCell _ _ _ _ (by dsimp only; omega)).trans ?_)
    simpa using heap_setCell_same Z h 0 _ _ (Value.int .i64 x') r.c0
  · refine (Below.heap_setCell _ _ _ _ (by dsimp only; omega)).trans ?_
    simpa using heap_setCell_same _ (h + 1) 0 _ _ (Value.int .i64 y') ((Below.heap_setCell _ _ _ _ (by dsimp only; omega)).trans r.c1)
  · simpa using heap_setCell_same _ (h + 2) 0 _ _ (Value.bool t') ((Below.heap_setCell _ _ _ _ (by dsimp only; omega)).trans ((Below.heap_setCell _ _ _ _ (by dsimp only; omega)).trans r.c2))
theorem R3.facts {h : Nat} {w Z : World} {x y : Int} {t : Bool} (r : R3 h w x y t Z) : (Z.cell? ⟨h, 0, none⟩ = some (.int .i64 x) ∧ Z.cell? ⟨h + 1, 0, none⟩ = some (.int .i64 y) ∧ Z.cell? ⟨h + 2, 0, none⟩ = some (.bool t)) ∧ Z.frozen? ⟨h, 0, none⟩ = false ∧ Z.frozen? ⟨h + 1, 0, none⟩ = false ∧ Z.frozen? ⟨h + 2, 0, none⟩ = false :=
  ⟨⟨by rw [cell_of_heap r.c0]; rfl, by rw [cell_of_heap r.c1]; rfl, by rw [cell_of_heap r.c2]; rfl⟩, frozen_of_heap r.c0 0, frozen_of_heap r.c1 0, frozen_of_heap r.c2 0⟩
def spanV : List (Nat × Nat) → Value
  | [] => .tuple #[.int .i64 0, .int .i64 0, .bool false]
  | x :: _ => .tuple #[.int .i64 (x.1 : Int), .int .i64 (x.2 : Int), .bool true]
set_option maxHeartbeats 2000000 in
set_option maxRecDepth 100000 in
theorem first_walk (b o cap k : Nat) (a : Int) (T : Tr) (ts : List Nd) (s : ByteArray) (w : World) (hk : max a 0 = (k : Int)) (hts : ts = T.row 0) (hok : T.ok) (hsz : ts.length ≤ 2000) (hs : s.size ≤ 1000000) (hL : Lies (.slice (some ⟨b, o, none⟩) ts.length cap) ts w) :
    CallsIn Fence.wide 0 Try.prog 28 #[.slice (some ⟨b, o, none⟩) ts.length cap, .string s, .int .i64 a] w fun e w' => e = .returned (spanV (spansL s.data.toList T k)) ∧ Below w.heap.size w w' := by
  have k1 := fun w => callsIn_wide (n := 0).2 (spans_make (.slice (some ⟨b, o, none⟩) ts.length cap) s (k : Int) w ⟨_, _, _, rfl⟩)
  have H := Lib.hid (And.intro hts (And.intro hok (And.intro hsz (And.intro hs hL))))
  clear hts hok hsz hs hL
  refine callsIn_of_wp_marks Try.func28 rfl trivial ?_ rfl
  simp only [Try.ntmps28, List.size_toArray, List.length_cons, List.length_nil, Nat.reduceAdd, Nat.reduceSub, Array.replicate_succ, Array.replicate_zero, List.push_toArray, List.append_toArray, List.nil_append, List.cons_append]
  gi_wp2_with (first
    | (refine ⟨trivial, rfl, ?_⟩; gi_at_call 55; refine (k1 _).mono ?_; rintro e w2 ⟨rfl, rfl⟩)
    | fail)
  obtain ⟨h, hh⟩ : ∃ h, h = w.heap.size := ⟨_, rfl⟩
  rw [← hh]
  obtain ⟨V, hV⟩ : ∃ V, V = (((((w.alloc (.cells #[.int .i64 0] 3)).alloc (.cells #[.int .i64 0] 3)).alloc (.cells #[.bool false] 4)).alloc (.cells #[.slice (some ⟨b, o, none⟩) ts.length cap] 22)).alloc (.cells #[.string s] 9)).alloc (.cells #[.int .i64 (k : Int)] 3) := ⟨_, rfl⟩
  rw [← hV]
  have z1 : (w.alloc (.cells #[.int .i64 0] 3)).heap.size = h + 1 := by rw [hh]; simp
  have z2 : ((w.alloc (.cells #[.int .i64 0] 3)).alloc (.cells #[.int .i64 0] 3)).heap.size = h + 2 := by rw [hh]; simp
  have z3 : (((w.alloc (.cells #[.int .i64 0] 3)).alloc (.cells #[.int .i64 0] 3)).alloc (.cells #[.bool false] 4)).heap.size = h + 3 := by rw [hh]; simp
  have z4 : ((((w.alloc (.cells #[.int .i64 0] 3)).alloc (.cells #[.int .i64 0] 3)).alloc (.cells #[.bool false] 4)).alloc (.cells #[.slice (some ⟨b, o, none⟩) ts.length cap] 22)).heap.size = h + 4 := by rw [hh]; simp
  have z5 : (((((w.alloc (.cells #[.int .i64 0] 3)).alloc (.cells #[.int .i64 0] 3)).alloc (.cells #[.bool false] 4)).alloc (.cells #[.slice (some ⟨b, o, none⟩) ts.length cap] 22)).alloc (.cells #[.string s] 9)).heap.size = h + 5 := by rw [hh]; simp
  have z6 : V.heap.size = h + 6 := by rw [hV, hh]; simp
  have v5 : V.heap[h + 5]? = some (.cells #[.int .i64 (k : Int)] 3 (0, 0)) := by rw [hV, ← z5]; exact heap_alloc_new _ _
  have v4 : V.heap[h + 4]? = some (.cells #[.string s] 9 (0, 0)) := by rw [hV]; refine (Below.heap_alloc _ _ _ (by rw [z5]; omega)).trans ?_; rw [← z4]; exact heap_alloc_new _ _
  have v3 : V.heap[h + 3]? = some (.cells #[.slice (some ⟨b, o, none⟩) ts.length cap] 22 (0, 0)) := by rw [hV]; refine (Below.heap_alloc _ _ _ (by rw [z5]; omega)).trans ((Below.heap_alloc _ _ _ (by rw [z4]; omega)).trans ?_); rw [← z3]; exact heap_alloc_new _ _
  have vl : ∀ j, j < h + 3 → V.heap[j]? = (((w.alloc (.cells #[.int .i64 0] 3)).alloc (.cells #[.int .i64 0] 3)).alloc (.cells #[.bool false] 4)).heap[j]? := fun j hj => by rw [hV]; exact (Below.heap_alloc _ _ _ (by rw [z5]; omega)).trans ((Below.heap_alloc _ _ _ (by rw [z4]; omega)).trans (Below.heap_alloc _ _ _ (by rw [z3]; omega)))
  have vB : Below h w V := by rw [hV, hh]; exact ((((((Below.refl _ w).alloc (Nat.le_refl _) _).alloc (by simp) _).alloc (by simp; omega) _).alloc (by simp; omega) _).alloc (by simp; omega) _).alloc (by simp; omega) _
  have hR : R3 h w 0 0 false V := by
    refine ⟨(vl _ (by omega)).trans ?_, (vl _ (by omega)).trans ?_, (vl _ (by omega)).trans ?_, vB⟩
    · exact (Below.heap_alloc _ _ _ (by rw [z2]; omega)).trans ((Below.heap_alloc _ _ _ (by rw [z1]; omega)).trans (by rw [hh]; exact heap_alloc_new _ _))
    · exact (Below.heap_alloc _ _ _ (by rw [z2]; omega)).trans (by rw [← z1]; exact heap_alloc_new _ _)
    · rw [← z2]; exact heap_alloc_new _ _
  obtain ⟨hts, hok, hsz, hs, hL⟩ := H.out
  have hLV := hL.below (w' := V) (by rw [← hh]; exact vB)
  have HV := Lib.hid (And.intro v5 (And.intro v4 (And.intro v3 hLV)))
  have HR := Lib.hid hR
  have HH := Lib.hid hh
  clear hV z1 z2 z3 z4 z5 v5 v4 v3 vl vB hR hts hok hsz hs hL hLV k1 hh
  refine wp_rangeF (gf := 75) (lb := #[.pointer (some ⟨h + 3, 0, none⟩), .pointer (some ⟨h + 4, 0, none⟩), .pointer (some ⟨h + 5, 0, none⟩)]) (encs := encP) (L := spansL s.data.toList T k) (K := fun j => j = h + 4) rfl (enters_of Try.func75 (by kernel_rfl) rfl) (fun _ => rfl)
    (fun Z hz ho => by
      obtain ⟨hts, hok, hsz, hs, _⟩ := H.out
      have hbl : Below V.heap.size V Z → True := fun _ => trivial
      exact spans1 (h + 3) (h + 4) (h + 5) b o cap k T ts s Z hts hok hsz hs (by
        obtain ⟨ao, cp, e1, e2, e3⟩ := HV.out.2.2.2
        refine ⟨ao, cp, e1, e2, fun j n hj => ?_⟩
        obtain ⟨b', o', g1, g2, g3⟩ := e3 j n hj
        refine ⟨b', o', g1, by omega, ?_⟩
        have e : ∀ i, Z.cell? ⟨b', i, none⟩ = V.cell? ⟨b', i, none⟩ := fun i => by unfold World.cell?; rw [ho b' g2]
        unfold NdAt at g3 ⊢
        rw [e, e, e, e, e, e, e]
        exact g3) ((ho _ (by omega)).trans HV.out.2.2.1) ((ho _ (by omega)).trans HV.out.2.1) ((ho _ (by omega)).trans HV.out.1)) (fun j hj => by omega)
    (fun _ pre Z => pre = [] ∧ R3 h w 0 0 false Z) (fun _ pre Z => ∃ x rest, spansL s.data.toList T k = x :: rest ∧ R3 h w (x.1 : Int) (x.2 : Int) true Z)
    (fun _ pre A B row hs hg hr => ⟨hs.1, hs.2.grown (D := V.heap.size) (by omega) hg (fun q hq => (hr q hq).1)⟩)
    (fun _ pre A B row hs hg hr => by obtain ⟨x, rest, h1, h2⟩ := hs; exact ⟨x, rest, h1, h2.grown (D := V.heap.size) (by omega) hg (fun q hq => (hr q hq).1)⟩)
    (fun _ => ⟨rfl, HR.out⟩)
    (fun x => { tmps := #[.slice (some ⟨b, o, none⟩) ts.length cap, .string s, .int .i64 a, undef, undef, undef, .pointer (some ⟨h, 0, none⟩), .pointer (some ⟨h + 1, 0, none⟩), .pointer (some ⟨h + 1 + 1, 0, none⟩), .int .i64 (x.1 : Int), .int .i64 (x.2 : Int),
      .slice (some ⟨b, o, none⟩) ts.length cap, .string s, .int .i64 a, .int .i64 (k : Int), .func (.func 75) #[] #[.pointer (some ⟨h + 1 + 1 + 1, 0, none⟩), .pointer (some ⟨h + 1 + 1 + 1 + 1, 0, none⟩), .pointer (some ⟨h + 1 + 1 + 1 + 1 + 1, 0, none⟩)], .int .i64 (x.1 : Int), .int .i64 (x.2 : Int), undef, undef], defers := [] })
    ?assign ?body ?done ?stop
  case assign =>
    intro l2 x Z kk hK
    gi_wp2
    exact hK
  case body =>
    rintro l2 c pre x Z hsz ⟨rfl, hR⟩ ⟨rest, hpre⟩
    obtain ⟨⟨c0, c1, c2⟩, f0, f1, f2⟩ := hR.facts
    have HR2 := Lib.hid (hR.set (x.1 : Int) (x.2 : Int) true)
    have HP := Lib.hid hpre
    clear hR hpre
    gi_wp2
    refine ⟨by simp [World.setCell], fun j hj => ?_, x, rest, HP.out, HR2.out⟩
    exact (Below.heap_setCell _ _ _ _ (by dsimp only; omega)).trans ((Below.heap_setCell _ _ _ _ (by dsimp only; omega)).trans (Below.heap_setCell _ _ _ _ (by dsimp only; omega)))
  case done =>
    rintro c Z ⟨hnil, hR⟩ hK
    obtain ⟨⟨c0, c1, c2⟩, f0, f1, f2⟩ := hR.facts
    have HR2 := Lib.hid (hR.set 0 0 false)
    have hK2 : (((Z.setCell ⟨h, 0, none⟩ (.int .i64 0)).setCell ⟨h + 1, 0, none⟩ (.int .i64 0)).setCell ⟨h + 2, 0, none⟩ (.bool false)).heap[V.heap.size]? = some (.deferred (some [])) :=
      (Below.heap_setCell _ _ _ _ (by dsimp only; omega)).trans ((Below.heap_setCell _ _ _ _ (by dsimp only; omega)).trans ((Below.heap_setCell _ _ _ _ (by dsimp only; omega)).trans hK))
    have HK := Lib.hid hK2
    have HN := Lib.hid hnil
    clear hR hK hK2 hnil
    gi_wp2
    refine ⟨by simp, .inl ⟨_, _, rfl, run_takeDeferred HK.out, ?_⟩⟩
    have hr3 := HR2.out.grown (D := V.heap.size) (by omega) (putObj_grown _ _ (.deferred none)) (fun q e => by cases e; exact Nat.le_refl _)
    obtain ⟨⟨d0, d1, d2⟩, _⟩ := hr3.facts
    exact ⟨_, results_three (p := 6) (q := 7) (r := 8) rfl _ _ h (h + 1) (h + 2) _ _ _ rfl rfl rfl (load_int d0) (load_int d1) (load_bool d2), by rw [HN.out]; rfl, by rw [← HH.out]; exact hr3.low⟩
  case stop =>
    rintro c pre Z ⟨x, rest, hpre, hR⟩ hK
    have HR2 := Lib.hid hR
    have HK := Lib.hid hK
    have HN := Lib.hid hpre
    clear hR hK hpre
    gi_wp2
    refine ⟨by simp, .inl ⟨_, _, rfl, run_takeDeferred HK.out, ?_⟩⟩
    have hr3 := HR2.out.grown (D := V.heap.size) (by omega) (putObj_grown _ _ (.deferred none)) (fun q e => by cases e; exact Nat.le_refl _)
    obtain ⟨⟨d0, d1, d2⟩, _⟩ := hr3.facts
    exact ⟨_, results_three (p := 6) (q := 7) (r := 8) rfl _ _ h (h + 1) (h + 2) _ _ _ rfl rfl rfl (load_int d0) (load_int d1) (load_bool d2), by rw [HN.out]; rfl, by rw [← HH.out]; exact hr3.low⟩
theorem lies_ptr {v : Value} {ts : List Nd} {w : World} {T : Tr} (hts : ts = T.row 0) (hL : Lies v ts w) : ∃ b o cap, v = .slice (some ⟨b, o, none⟩) ts.length cap := by
  obtain ⟨ao, cap, rfl, _, hq⟩ := hL
  obtain ⟨b, o, rfl, _, _⟩ := hq 0 _ (List.getElem?_eq_getElem (by rw [hts, Tr.row_length]; exact T.size_pos))
  exact ⟨b, o, cap, rfl⟩
/-- Package match's Span, of a tree's row. -/
theorem span_first (v : Value) (a : Int) (T : Tr) (ts : List Nd) (s : ByteArray) (w : World) (hts : ts = T.row 0) (hok : T.ok) (hsz : ts.length ≤ 2000) (hs : s.size ≤ 1000000) (hL : Lies v ts w) :
    Calls Try.prog 28 #[v, .string s, .int .i64 a] w fun e w' => e = .returned (spanV (spansL s.data.toList T a.toNat)) ∧ Below w.heap.size w w' := by
  obtain ⟨b, o, cap, rfl⟩ := lies_ptr hts hL
  exact callsIn_wide.1 (first_walk b o cap a.toNat a T ts s w (by omega) hts hok hsz hs hL)
end Go.Proofs.Ytolofcfegoeenaa
