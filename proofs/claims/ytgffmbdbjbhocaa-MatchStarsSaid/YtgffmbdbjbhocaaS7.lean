/- Packed texts: MaSpan, MaWhole, ClsRefHas, ClsRefWith, ClsRefSpan, ClsRefOr, ClsRefNot, MbKid, MaSpansRow, MaShown0, ReNeq. What each of them proves stands above its theorems; the conditions stand in these. -/
import Derived.BigQuiet
import Derived.Deep.LoopGhost
import Derived.Deep.QuietTactic
import Derived.Test.YtgffmbdbjbhocaaShelf
import Derived.Test.YtgffmbdbjbhocaaS0
import Derived.Test.YtgffmbdbjbhocaaS3
import Derived.Test.YtgffmbdbjbhocaaS5
import Derived.Test.YtgffmbdbjbhocaaS6
namespace Go.Proofs.Ytgffmbdbjbhocaa
open Go.RowKit Go.Lib
attribute [local go_sem] Oper.semAt_some

set_option maxHeartbeats 1000000 in
theorem spans_make (v : Value) (s : ByteArray) (k : Int) (w : World) (hv : ∃ ao n c, v = .slice ao n c) :
    Calls Try.prog 74 #[v, .string s, .int .i64 k] w fun e w' => e = .returned (.func (.func 99) #[] #[.pointer (some ⟨w.heap.size, 0, none⟩), .pointer (some ⟨w.heap.size + 1, 0, none⟩), .pointer (some ⟨w.heap.size + 1 + 1, 0, none⟩)]) ∧
      w' = ((w.alloc (.cells #[v] 22)).alloc (.cells #[.string s] 9)).alloc (.cells #[.int .i64 k] 3) := by
  obtain ⟨ao, n, c, rfl⟩ := hv
  have hmf : ∀ (fn : Fn) (first cap : Array Value) (w : World), (Instr.makeFunc fn first cap).run Try.prog w = .ok (.func fn first cap) w := fun _ _ _ _ => rfl
  go_enter Try.func74, Try.ntmps74
  go_wp2
  go_ret
  exact ⟨rfl, rfl⟩
theorem load_int {w : World} {g : Nat} {x : Int} (hc : w.cell? ⟨g, 0, none⟩ = some (.int .i64 x)) : (loadVar 3 ⟨g, 0, none⟩).run Try.prog w = .ok (.int .i64 x) w := by
  go_simp
theorem load_bool {w : World} {g : Nat} {x : Bool} (hc : w.cell? ⟨g, 0, none⟩ = some (.bool x)) : (loadVar 4 ⟨g, 0, none⟩).run Try.prog w = .ok (.bool x) w := by
  go_simp
theorem results_three {fn : Func} {p q r : Tmp} {t1 t2 t3 : TypeId} (h : fn.results = #[.cell p t1, .cell q t2, .cell r t3]) (tmps : Array Value) (w : World) (g1 g2 g3 : Nat) (x y z : Value)
    (hp : tmps.getD p undef = .pointer (some ⟨g1, 0, none⟩)) (hq : tmps.getD q undef = .pointer (some ⟨g2, 0, none⟩)) (hr : tmps.getD r undef = .pointer (some ⟨g3, 0, none⟩))
    (h1 : (loadVar t1 ⟨g1, 0, none⟩).run Try.prog w = .ok x w) (h2 : (loadVar t2 ⟨g2, 0, none⟩).run Try.prog w = .ok y w) (h3 : (loadVar t3 ⟨g3, 0, none⟩).run Try.prog w = .ok z w) :
    (results fn tmps).run Try.prog w = .ok (.tuple #[x, y, z]) w := by
  simp only [results, h]
  simp at hp hq hr
  simp [Sem.run_bind, Result.andThen, hp, hq, hr, asAddr, h1, h2, h3]
/-- Three named results. -/
structure R3 (h : Nat) (w : World) (x y : Int) (t : Bool) (Z : World) : Prop where
  c0 : Z.heap[h]? = some (.cells #[.int .i64 x] 3 (0, 0))
  c1 : Z.heap[h + 1]? = some (.cells #[.int .i64 y] 3 (0, 0))
  c2 : Z.heap[h + 2]? = some (.cells #[.bool t] 4 (0, 0))
  low : Below h w Z
theorem R3.grown {h : Nat} {w A B : World} {x y : Int} {t : Bool} {row : Option Nat} {D : Nat} (r : R3 h w x y t A) (hD : h + 3 ≤ D) (hg : A.grownBy B row) (hr : ∀ q, row = some q → D ≤ q) : R3 h w x y t B := by
  have e : ∀ {j : Nat} {o : Obj}, A.heap[j]? = some o → j < D → B.heap[j]? = some o := fun {j o} hj hl => (hg.block j (block_lt hj) (fun e => by have := hr j e.symm; omega)).trans hj
  exact ⟨e r.c0 (by omega), e r.c1 (by omega), e r.c2 (by omega), r.low.grown hg (by have := block_lt r.c0; omega) (fun q hq => by have := hr q hq; omega)⟩
theorem R3.set {h : Nat} {w Z : World} {x y : Int} {t : Bool} (r : R3 h w x y t Z) (x' y' : Int) (t' : Bool) : R3 h w x' y' t' (((Z.setCell ⟨h, 0, none⟩ (.int .i64 x')).setCell ⟨h + 1, 0, none⟩ (.int .i64 y')).setCell ⟨h + 2, 0, none⟩ (.bool t')) := by
  refine ⟨?_, ?_, ?_, ((r.low.setCell (p := ⟨h, 0, none⟩) (Nat.le_refl _) _).setCell (p := ⟨h + 1, 0, none⟩) (by dsimp only; omega) _).setCell (p := ⟨h + 2, 0, none⟩) (by dsimp only; omega) _⟩
  · refine (Below.heap_setCell _ _ _ _ (by dsimp only; omega)).trans ((Below.heap_setCell _ _ _ _ (by dsimp only; omega)).trans ?_)
    simpa using heap_setCell_same Z h 0 _ _ (Value.int .i64 x') r.c0
  · refine (Below.heap_setCell _ _ _ _ (by dsimp only; omega)).trans ?_
    simpa using heap_setCell_same _ (h + 1) 0 _ _ (Value.int .i64 y') ((Below.heap_setCell _ _ _ _ (by dsimp only; omega)).trans r.c1)
  · simpa using heap_setCell_same _ (h + 2) 0 _ _ (Value.bool t') ((Below.heap_setCell _ _ _ _ (by dsimp only; omega)).trans ((Below.heap_setCell _ _ _ _ (by dsimp only; omega)).trans r.c2))
theorem R3.facts {h : Nat} {w Z : World} {x y : Int} {t : Bool} (r : R3 h w x y t Z) : (Z.cell? ⟨h, 0, none⟩ = some (.int .i64 x) ∧ Z.cell? ⟨h + 1, 0, none⟩ = some (.int .i64 y) ∧ Z.cell? ⟨h + 2, 0, none⟩ = some (.bool t)) ∧ Z.frozen? ⟨h, 0, none⟩ = false ∧ Z.frozen? ⟨h + 1, 0, none⟩ = false ∧ Z.frozen? ⟨h + 2, 0, none⟩ = false :=
  ⟨⟨by rw [cell_of_heap r.c0]; rfl, by rw [cell_of_heap r.c1]; rfl, by rw [cell_of_heap r.c2]; rfl⟩, frozen_of_heap r.c0 0, frozen_of_heap r.c1 0, frozen_of_heap r.c2 0⟩
def spanV : List (Nat × Nat) → Value
  | [] => .tuple #[.int .i64 0, .int .i64 0, .bool false]
  | x :: _ => .tuple #[.int .i64 (x.1 : Int), .int .i64 (x.2 : Int), .bool true]
set_option maxHeartbeats 2000000 in
set_option maxRecDepth 100000 in
theorem first_walk (b o cap k : Nat) (a : Int) (T : Tr) (ts : List Nd) (s : ByteArray) (w : World) (hk : max a 0 = (k : Int)) (hts : ts = T.row 0) (hok : T.ok) (hsz : ts.length ≤ 2000) (hs : s.size ≤ 1000000) (hL : Lies (.slice (some ⟨b, o, none⟩) ts.length cap) ts w) :
    CallsIn Fence.wide 0 Try.prog 34 #[.slice (some ⟨b, o, none⟩) ts.length cap, .string s, .int .i64 a] w fun e w' => e = .returned (spanV (spansL s.data.toList T k)) ∧ Below w.heap.size w w' := by
  have k1 := fun w => callsIn_wide (n := 0).2 (spans_make (.slice (some ⟨b, o, none⟩) ts.length cap) s (k : Int) w ⟨_, _, _, rfl⟩)
  have H := Lib.hid (And.intro hts (And.intro hok (And.intro hsz (And.intro hs hL))))
  clear hts hok hsz hs hL
  refine callsIn_of_wp_marks Try.func34 rfl trivial ?_ rfl
  simp only [Try.ntmps34, List.size_toArray, List.length_cons, List.length_nil, Nat.reduceAdd, Nat.reduceSub, Array.replicate_succ, Array.replicate_zero, List.push_toArray, List.append_toArray, List.nil_append, List.cons_append]
  gi_wp2_with (first
    | (refine ⟨trivial, rfl, ?_⟩; gi_at_call 74; refine (k1 _).mono ?_; rintro e w2 ⟨rfl, rfl⟩)
    | fail)
  obtain ⟨h, hh⟩ : ∃ h, h = w.heap.size := ⟨_, rfl⟩
  rw [← hh]
  obtain ⟨V, hV⟩ : ∃ V, V = (((((w.alloc (.cells #[.int .i64 0] 3)).alloc (.cells #[.int .i64 0] 3)).alloc (.cells #[.bool false] 4)).alloc (.cells #[.slice (some ⟨b, o, none⟩) ts.length cap] 22)).alloc (.cells #[.string s] 9)).alloc (.cells #[.int .i64 (k : Int)] 3) := ⟨_, rfl⟩
  rw [← hV]
  have z1 : (w.alloc (.cells #[.int .i64 0] 3)).heap.size = h + 1 := by rw [hh]; simp
  have z2 : ((w.alloc (.cells #[.int .i64 0] 3)).alloc (.cells #[.int .i64 0] 3)).heap.size = h + 2 := by rw [hh]; simp
  have z3 : (((w.alloc (.cells #[.int .i64 0] 3)).alloc (.cells #[.int .i64 0] 3)).alloc (.cells #[.bool false] 4)).heap.size = h + 3 := by rw [hh]; simp
  have z4 : ((((w.alloc (.cells #[.int .i64 0] 3)).alloc (.cells #[.int .i64 0] 3)).alloc (.cells #[.bool false] 4)).alloc (.cells #[.slice (some ⟨b, o, none⟩) ts.length cap] 22)).heap.size = h + 4 := by rw [hh]; simp
  have z5 : (((((w.alloc (.cells #[.int .i64 0] 3)).alloc (.cells #[.int .i64 0] 3)).alloc (.cells #[.bool false] 4)).alloc (.cells #[.slice (some ⟨b, o, none⟩) ts.length cap] 22)).alloc (.cells #[.string s] 9)).heap.size = h + 5 := by rw [hh]; simp
  have z6 : V.heap.size = h + 6 := by rw [hV, hh]; simp
  have v5 : V.heap[h + 5]? = some (.cells #[.int .i64 (k : Int)] 3 (0, 0)) := by rw [hV, ← z5]; exact heap_alloc_new _ _
  have v4 : V.heap[h + 4]? = some (.cells #[.string s] 9 (0, 0)) := by rw [hV]; refine (Below.heap_alloc _ _ _ (by rw [z5]; omega)).trans ?_; rw [← z4]; exact heap_alloc_new _ _
  have v3 : V.heap[h + 3]? = some (.cells #[.slice (some ⟨b, o, none⟩) ts.length cap] 22 (0, 0)) := by rw [hV]; refine (Below.heap_alloc _ _ _ (by rw [z5]; omega)).trans ((Below.heap_alloc _ _ _ (by rw [z4]; omega)).trans ?_); rw [← z3]; exact heap_alloc_new _ _
  have vl : ∀ j, j < h + 3 → V.heap[j]? = (((w.alloc (.cells #[.int .i64 0] 3)).alloc (.cells #[.int .i64 0] 3)).alloc (.cells #[.bool false] 4)).heap[j]? := fun j hj => by rw [hV]; exact (Below.heap_alloc _ _ _ (by rw [z5]; omega)).trans ((Below.heap_alloc _ _ _ (by rw [z4]; omega)).trans (Below.heap_alloc _ _ _ (by rw [z3]; omega)))
  have vB : Below h w V := by rw [hV, hh]; exact ((((((Below.refl _ w).alloc (Nat.le_refl _) _).alloc (by simp) _).alloc (by simp; omega) _).alloc (by simp; omega) _).alloc (by simp; omega) _).alloc (by simp; omega) _
  have hR : R3 h w 0 0 false V := by
    refine ⟨(vl _ (by omega)).trans ?_, (vl _ (by omega)).trans ?_, (vl _ (by omega)).trans ?_, vB⟩
    · exact (Below.heap_alloc _ _ _ (by rw [z2]; omega)).trans ((Below.heap_alloc _ _ _ (by rw [z1]; omega)).trans (by rw [hh]; exact heap_alloc_new _ _))
    · exact (Below.heap_alloc _ _ _ (by rw [z2]; omega)).trans (by rw [← z1]; exact heap_alloc_new _ _)
    · rw [← z2]; exact heap_alloc_new _ _
  obtain ⟨hts, hok, hsz, hs, hL⟩ := H.out
  have hLV := hL.below (w' := V) (by rw [← hh]; exact vB)
  have HV := Lib.hid (And.intro v5 (And.intro v4 (And.intro v3 hLV)))
  have HR := Lib.hid hR
  have HH := Lib.hid hh
  clear hV z1 z2 z3 z4 z5 v5 v4 v3 vl vB hR hts hok hsz hs hL hLV k1 hh
  refine wp_rangeF (gf := 99) (lb := #[.pointer (some ⟨h + 3, 0, none⟩), .pointer (some ⟨h + 4, 0, none⟩), .pointer (some ⟨h + 5, 0, none⟩)]) (encs := encP) (L := spansL s.data.toList T k) (K := fun j => j = h + 4) rfl (enters_of Try.func99 (by kernel_rfl) rfl) (fun _ => rfl)
    (fun Z hz ho => by
      obtain ⟨hts, hok, hsz, hs, _⟩ := H.out
      have hbl : Below V.heap.size V Z → True := fun _ => trivial
      exact spans1 (h + 3) (h + 4) (h + 5) b o cap k T ts s Z hts hok hsz hs (by
        obtain ⟨ao, cp, e1, e2, e3⟩ := HV.out.2.2.2
        refine ⟨ao, cp, e1, e2, fun j n hj => ?_⟩
        obtain ⟨b', o', g1, g2, g3⟩ := e3 j n hj
        refine ⟨b', o', g1, by omega, ?_⟩
        have e : ∀ i, Z.cell? ⟨b', i, none⟩ = V.cell? ⟨b', i, none⟩ := fun i => by unfold World.cell?; rw [ho b' g2]
        unfold NdAt at g3 ⊢
        rw [e, e, e, e, e, e, e]
        exact g3) ((ho _ (by omega)).trans HV.out.2.2.1) ((ho _ (by omega)).trans HV.out.2.1) ((ho _ (by omega)).trans HV.out.1)) (fun j hj => by omega)
    (fun _ pre Z => pre = [] ∧ R3 h w 0 0 false Z) (fun _ pre Z => ∃ x rest, spansL s.data.toList T k = x :: rest ∧ R3 h w (x.1 : Int) (x.2 : Int) true Z)
    (fun _ pre A B row hs hg hr => ⟨hs.1, hs.2.grown (D := V.heap.size) (by omega) hg (fun q hq => (hr q hq).1)⟩)
    (fun _ pre A B row hs hg hr => by obtain ⟨x, rest, h1, h2⟩ := hs; exact ⟨x, rest, h1, h2.grown (D := V.heap.size) (by omega) hg (fun q hq => (hr q hq).1)⟩)
    (fun _ => ⟨rfl, HR.out⟩)
    (fun x => { tmps := #[.slice (some ⟨b, o, none⟩) ts.length cap, .string s, .int .i64 a, undef, undef, undef, .pointer (some ⟨h, 0, none⟩), .pointer (some ⟨h + 1, 0, none⟩), .pointer (some ⟨h + 1 + 1, 0, none⟩), .int .i64 (x.1 : Int), .int .i64 (x.2 : Int),
      .slice (some ⟨b, o, none⟩) ts.length cap, .string s, .int .i64 a, .int .i64 (k : Int), .func (.func 99) #[] #[.pointer (some ⟨h + 1 + 1 + 1, 0, none⟩), .pointer (some ⟨h + 1 + 1 + 1 + 1, 0, none⟩), .pointer (some ⟨h + 1 + 1 + 1 + 1 + 1, 0, none⟩)], .int .i64 (x.1 : Int), .int .i64 (x.2 : Int), undef, undef], defers := [] })
    ?assign ?body ?done ?stop
  case assign =>
    intro l2 x Z kk hK
    gi_wp2
    exact hK
  case body =>
    rintro l2 c pre x Z hsz ⟨rfl, hR⟩ ⟨rest, hpre⟩
    obtain ⟨⟨c0, c1, c2⟩, f0, f1, f2⟩ := hR.facts
    have HR2 := Lib.hid (hR.set (x.1 : Int) (x.2 : Int) true)
    have HP := Lib.hid hpre
    clear hR hpre
    gi_wp2
    refine ⟨by simp [World.setCell], fun j hj => ?_, x, rest, HP.out, HR2.out⟩
    exact (Below.heap_setCell _ _ _ _ (by dsimp only; omega)).trans ((Below.heap_setCell _ _ _ _ (by dsimp only; omega)).trans (Below.heap_setCell _ _ _ _ (by dsimp only; omega)))
  case done =>
    rintro c Z ⟨hnil, hR⟩ hK
    obtain ⟨⟨c0, c1, c2⟩, f0, f1, f2⟩ := hR.facts
    have HR2 := Lib.hid (hR.set 0 0 false)
    have hK2 : (((Z.setCell ⟨h, 0, none⟩ (.int .i64 0)).setCell ⟨h + 1, 0, none⟩ (.int .i64 0)).setCell ⟨h + 2, 0, none⟩ (.bool false)).heap[V.heap.size]? = some (.deferred (some [])) :=
      (Below.heap_setCell _ _ _ _ (by dsimp only; omega)).trans ((Below.heap_setCell _ _ _ _ (by dsimp only; omega)).trans ((Below.heap_setCell _ _ _ _ (by dsimp only; omega)).trans hK))
    have HK := Lib.hid hK2
    have HN := Lib.hid hnil
    clear hR hK hK2 hnil
    gi_wp2
    refine ⟨by simp, .inl ⟨_, _, rfl, run_takeDeferred HK.out, ?_⟩⟩
    have hr3 := HR2.out.grown (D := V.heap.size) (by omega) (putObj_grown _ _ (.deferred none)) (fun q e => by cases e; exact Nat.le_refl _)
    obtain ⟨⟨d0, d1, d2⟩, _⟩ := hr3.facts
    exact ⟨_, results_three (p := 6) (q := 7) (r := 8) rfl _ _ h (h + 1) (h + 2) _ _ _ rfl rfl rfl (load_int d0) (load_int d1) (load_bool d2), by rw [HN.out]; rfl, by rw [← HH.out]; exact hr3.low⟩
  case stop =>
    rintro c pre Z ⟨x, rest, hpre, hR⟩ hK
    have HR2 := Lib.hid hR
    have HK := Lib.hid hK
    have HN := Lib.hid hpre
    clear hR hK hpre
    gi_wp2
    refine ⟨by simp, .inl ⟨_, _, rfl, run_takeDeferred HK.out, ?_⟩⟩
    have hr3 := HR2.out.grown (D := V.heap.size) (by omega) (putObj_grown _ _ (.deferred none)) (fun q e => by cases e; exact Nat.le_refl _)
    obtain ⟨⟨d0, d1, d2⟩, _⟩ := hr3.facts
    exact ⟨_, results_three (p := 6) (q := 7) (r := 8) rfl _ _ h (h + 1) (h + 2) _ _ _ rfl rfl rfl (load_int d0) (load_int d1) (load_bool d2), by rw [HN.out]; rfl, by rw [← HH.out]; exact hr3.low⟩
theorem lies_ptr {v : Value} {ts : List Nd} {w : World} {T : Tr} (hts : ts = T.row 0) (hL : Lies v ts w) : ∃ b o cap, v = .slice (some ⟨b, o, none⟩) ts.length cap := by
  obtain ⟨ao, cap, rfl, _, hq⟩ := hL
  obtain ⟨b, o, rfl, _, _⟩ := hq 0 _ (List.getElem?_eq_getElem (by rw [hts, Tr.row_length]; exact T.size_pos))
  exact ⟨b, o, cap, rfl⟩
/-- Package match's Span, of a tree's row. -/
theorem span_first (v : Value) (a : Int) (T : Tr) (ts : List Nd) (s : ByteArray) (w : World) (hts : ts = T.row 0) (hok : T.ok) (hsz : ts.length ≤ 2000) (hs : s.size ≤ 1000000) (hL : Lies v ts w) :
    Calls Try.prog 34 #[v, .string s, .int .i64 a] w fun e w' => e = .returned (spanV (spansL s.data.toList T a.toNat)) ∧ Below w.heap.size w w' := by
  obtain ⟨b, o, cap, rfl⟩ := lies_ptr hts hL
  exact callsIn_wide.1 (first_walk b o cap a.toNat a T ts s w (by omega) hts hok hsz hs hL)
end Go.Proofs.Ytgffmbdbjbhocaa
namespace Go.Proofs.Ytgffmbdbjbhocaa
open Go.RowKit Go.Lib

theorem contains_nat (L : List Nat) (n : Nat) : (L.map fun k : Nat => (k : Int)).contains (n : Int) = L.contains n := by
  rw [Bool.eq_iff_iff, List.contains_iff_mem, List.contains_iff_mem, List.mem_map]
  constructor
  · rintro ⟨k, hk, e⟩
    have e : k = n := Int.ofNat_inj.1 e
    exact e ▸ hk
  · exact fun h => ⟨n, h, rfl⟩
/-- A row of places of one's own: is a place one of them? -/
theorem contains_own {L : List Nat} {B n : Nat} {v : Value} {w : World} (h : w.ownsRow B 3 1 v L.length (natsV L)) :
    Calls Try.prog 65 #[v, .int .i64 (n : Int)] w fun e w' => e = .returned (.bool (L.contains n)) ∧ w' = w := by
  rcases h.2 with ⟨rfl, h0⟩ | ⟨g, cap, cur, rfl, _⟩
  · have e : L = [] := List.eq_nil_of_length_eq_zero h0
    subst e
    exact Try.slices_Contains_int_empty none 0 (n : Int) w
  · have hcap := (owns_cap h)
    have hc := Try.slices_Contains_int g 0 L.length cap (L.map fun k : Nat => (k : Int)) (n : Int) w (by rw [List.length_map]; exact Nat.le_refl _) (Nat.le_trans hcap.1 hcap.2) (fun j hj => by
      rw [Nat.zero_add]
      rw [List.length_map] at hj
      refine owns_cell h ?_
      unfold natsV
      rw [List.getElem?_map, List.getElem?_eq_getElem hj, List.getD_eq_getElem?_getD, List.getElem?_map, List.getElem?_eq_getElem hj]
      rfl)
    rw [List.take_of_length_le (by rw [List.length_map]; exact Nat.le_refl _), contains_nat] at hc
    exact hc
set_option maxHeartbeats 1000000 in
set_option maxRecDepth 20000 in
theorem whole_any (v : Value) (T : Tr) (ts : List Nd) (s : ByteArray) (w : World) (hts : ts = T.row 0) (hok : T.ok) (hsz : ts.length ≤ 2000) (hs : s.size ≤ 1000000) (hL : Lies v ts w) :
    Calls Try.prog 35 #[v, .string s] w fun e w' => e = .returned (.bool ((endsL s.data.toList T 0).contains s.size)) ∧ Below w.heap.size w w' := by
  have k := ends_any v T ts s 0 w hts hok hsz hs hL
  obtain ⟨b, o, cap, rfl⟩ := lies_ptr hts hL
  generalize endsL s.data.toList T 0 = L at k ⊢
  have k2 := fun (v' : Value) (w' : World) (h : w'.ownsRow w.heap.size 3 1 v' L.length (natsV L)) => contains_own (n := s.size) h
  clear hL hts hok hsz hs
  go_enter Try.func35, Try.ntmps35
  go_wp2_with (first
    | (go_at_call 31; refine k.mono ?_; rintro e w1 ⟨v', rfl, ho, hb⟩; have HO := Lib.hid ho; clear ho)
    | (go_at_call 65; refine (k2 _ _ HO.out).mono ?_; rintro e w2 ⟨rfl, rfl⟩)
    | fail)
  exact bodyPost_ret (results_tmp rfl _ _ _) rfl ⟨by show Ending.returned (.bool _) = _; rw [List.contains_eq_mem], hb⟩
end Go.Proofs.Ytgffmbdbjbhocaa
namespace Go.Proofs.Ytgffmbdbjbhocaa
open Go.RowKit Go.Lib

theorem word_bit (y : BitVec 64) (n : Nat) : ((IntKind.u64.wrap ((y.toNat : Int) / ((2 ^ n : Nat) : Int))).tmod 2 == 1) = y.getLsbD n := by
  have h1 : ((y.toNat : Int) / ((2 ^ n : Nat) : Int)) = ((y.toNat / 2 ^ n : Nat) : Int) := by rw [Int.natCast_ediv]
  have h2 : y.toNat / 2 ^ n < 18446744073709551616 := Nat.lt_of_le_of_lt (Nat.div_le_self _ _) y.isLt
  have h3 : y.getLsbD n = decide (y.toNat / 2 ^ n % 2 = 1) := by rw [← BitVec.testBit_toNat, Nat.testBit_eq_decide_div_mod_eq]
  rw [h1, h3]
  generalize y.toNat / 2 ^ n = d at h2
  rw [IntKind.wrap_u64, Int.emod_eq_of_lt (by omega) (by omega), Int.tmod_eq_emod_of_nonneg (by omega), Bool.eq_iff_iff]
  simp only [beq_iff_eq, decide_eq_true_eq]
  omega
theorem bit_wrap (x : Int) (hx0 : 0 ≤ x) : IntKind.u64.wrap (2 ^ (x % 64).toNat) = ((2 ^ (x.toNat % 64) : Nat) : Int) := by
  have h : (x % 64).toNat = x.toNat % 64 := by omega
  have h2 : 2 ^ (x.toNat % 64) ≤ 2 ^ 63 := Nat.pow_le_pow_right (by omega) (by omega)
  have h3 : (2 : Nat) ^ 63 < 18446744073709551616 := by decide
  rw [h, IntKind.wrap_u64, show ((2 : Int) ^ (x.toNat % 64)) = ((2 ^ (x.toNat % 64) : Nat) : Int) by simp]
  generalize 2 ^ (x.toNat % 64) = p at h2
  exact Int.emod_eq_of_lt (by omega) (by omega)

set_option maxHeartbeats 800000 in
set_option maxRecDepth 20000 in
theorem refHas_any (k : Cl) (x : Int) (w : World) (hx0 : 0 ≤ x) (hx1 : x ≤ 255) :
    Calls Try.prog 78 #[clsV k, .int .u8 x] w fun e w' => e = .returned (.bool (has k x.toNat)) ∧ Below w.heap.size w w' := by
  obtain ⟨q, hq⟩ : ∃ q, q = x / 64 := ⟨_, rfl⟩
  have hq4 : q = 0 ∨ q = 1 ∨ q = 2 ∨ q = 3 := by omega
  obtain ⟨r, hr⟩ : ∃ r : Bool, r = has k x.toNat := ⟨_, rfl⟩
  have HR := Lib.hid hr
  rw [← hr]
  obtain ⟨P, hP⟩ : ∃ P, P = IntKind.u64.wrap (2 ^ (x % 64).toNat) := ⟨_, rfl⟩
  have HP := Lib.hid (hP.trans (bit_wrap x hx0))
  have hP0 : ¬ P = 0 := by
    have := Nat.two_pow_pos (x.toNat % 64)
    have h := HP.out
    omega
  have hP' := hP.symm
  clear hP
  unfold clsV clsA wd
  rcases hq4 with h | h | h | h
  all_goals
    rw [h] at hq
    have hq' := hq.symm
    have hn : x.toNat / 64 = q.toNat := by omega
    rw [h] at hn
    have HN := Lib.hid hn
    clear hq hn hr
    go_enter Try.func78, Try.ntmps78
    go_wp2
    go_ret
    refine ⟨?_, (Below.refl _ w).alloc (Nat.le_refl _) _⟩
    rw [HR.out]
    show Ending.returned (.bool _) = Ending.returned (.bool _)
    rw [HP.out, word_bit]
    unfold has
    rw [HN.out]
    rfl
end Go.Proofs.Ytgffmbdbjbhocaa
namespace Go.Proofs.Ytgffmbdbjbhocaa
open Go.RowKit Go.Lib

/-- A class with a byte. -/
def addK (k : Cl) (x : Nat) : Cl := fun i => if i = x / 64 then k i ||| BitVec.twoPow 64 (x % 64) else k i
theorem has_add (k : Cl) (x d : Nat) : has (addK k x) d = (has k d || decide (d = x)) := by
  unfold has addK
  split
  · rename_i h
    rw [BitVec.getLsbD_or, BitVec.getLsbD_twoPow]
    congr 1
    rw [Bool.eq_iff_iff]
    simp only [Bool.and_eq_true, decide_eq_true_eq]
    omega
  · rename_i h
    rw [show decide (d = x) = false by rw [decide_eq_false_iff_not]; intro e; exact h (by rw [e]), Bool.or_false]
theorem add_word (y : BitVec 64) (n : Nat) (hn : n < 64) (h : y.getLsbD n = false) : IntKind.u64.wrap ((y.toNat : Int) + ((2 ^ n : Nat) : Int)) = ((y ||| BitVec.twoPow 64 n).toNat : Int) := by
  have h1 : y &&& BitVec.twoPow 64 n = 0#64 := by rw [BitVec.and_twoPow, h]; rfl
  have h2 : 2 ^ n < 2 ^ 64 := Nat.pow_lt_pow_right (by omega) hn
  have h3 : (2 : Nat) ^ 64 = 18446744073709551616 := by decide
  rw [← BitVec.add_eq_or_of_and_eq_zero _ _ h1, BitVec.toNat_add, BitVec.toNat_twoPow, IntKind.wrap_u64, Nat.mod_eq_of_lt h2]
  generalize 2 ^ n = p at h2
  rw [h3]
  omega
theorem add_on (k : Cl) (x i : Nat) (hi : i = x / 64) (h : has k x = false) : IntKind.u64.wrap (((k i).toNat : Int) + ((2 ^ (x % 64) : Nat) : Int)) = ((addK k x i).toNat : Int) := by
  unfold has at h
  rw [← hi] at h
  rw [add_word _ _ (Nat.mod_lt _ (by omega)) h]
  unfold addK
  rw [if_pos hi]
theorem add_at (k : Cl) (x i : Nat) (hi : ¬ i = x / 64) : ((k i).toNat : Int) = ((addK k x i).toNat : Int) := by
  unfold addK
  rw [if_neg hi]
theorem add_same (k : Cl) (x : Nat) (h : has k x = true) : clsV (addK k x) = clsV k := clsV_ext fun d _ => by
  rw [has_add]
  by_cases hd : d = x
  · subst hd
    rw [h]
    rfl
  · rw [decide_eq_false hd, Bool.or_false]

theorem two_boxes {w w1 : World} {A B : Array Value} {t u : TypeId} (h : Below ((w.alloc (.cells A t)).alloc (.cells B u)).heap.size ((w.alloc (.cells A t)).alloc (.cells B u)) w1) :
    w1.heap[w.heap.size]? = some (.cells A t (0, 0)) ∧ w1.heap[w.heap.size + 1]? = some (.cells B u (0, 0)) ∧ Below w.heap.size w w1 := by
  refine ⟨(h.block _ (by simp; omega)).trans ((Below.heap_alloc (w.alloc (.cells A t)) _ (w.heap.size) (by simp)).trans (heap_alloc_new w _)), (h.block _ (by simp)).trans ?_, (((Below.refl _ w).alloc (Nat.le_refl _) _).alloc (by simp) _).trans (h.mono (by simp; omega))⟩
  have := heap_alloc_new (w.alloc (.cells A t)) (.cells B u)
  rwa [World.size_alloc] at this

set_option maxHeartbeats 2000000 in
set_option maxRecDepth 20000 in
theorem with_any (k : Cl) (x : Int) (w : World) (hx0 : 0 ≤ x) (hx1 : x ≤ 255) :
    Calls Try.prog 79 #[clsV k, .int .u8 x] w fun e w' => e = .returned (clsV (addK k x.toNat)) ∧ Below w.heap.size w w' := by
  have k1 : ∀ Z, Calls Try.prog 78 #[.agg #[.int .u64 ((k 0).toNat : Int), .int .u64 ((k 1).toNat : Int), .int .u64 ((k 2).toNat : Int), .int .u64 ((k 3).toNat : Int)], .int .u8 x] Z fun e w' => e = .returned (.bool (has k x.toNat)) ∧ Below Z.heap.size Z w' := fun Z => refHas_any k x Z hx0 hx1
  cases hr : has k x.toNat
  · rw [hr] at k1
    obtain ⟨q, hq⟩ : ∃ q, q = x / 64 := ⟨_, rfl⟩
    have hq4 : q = 0 ∨ q = 1 ∨ q = 2 ∨ q = 3 := by omega
    obtain ⟨P, hP⟩ : ∃ P, P = IntKind.u64.wrap (2 ^ (x % 64).toNat) := ⟨_, rfl⟩
    have HP := Lib.hid (hP.trans (bit_wrap x hx0))
    have hP' := hP.symm
    have HR := Lib.hid hr
    obtain ⟨E, hE⟩ : ∃ E : Ending, E = .returned (clsV (addK k x.toNat)) := ⟨_, rfl⟩
    have HE := Lib.hid hE
    rw [← hE]
    unfold clsV clsA wd
    clear hP hr hE
    rcases hq4 with h | h | h | h
    all_goals
      rw [h] at hq
      have hq' := hq.symm
      have hn : x.toNat / 64 = q.toNat := by omega
      rw [h] at hn
      have HN := Lib.hid hn
      clear hq hn
      go_enter Try.func79, Try.ntmps79
      go_wp2_with (first
        | (go_at_call 78; refine (k1 _).mono ?_; rintro en w1 ⟨rfl, hb1⟩; clear k1
           obtain ⟨hg0, hg1, hb1⟩ := two_boxes hb1
           obtain ⟨⟨c0, c1, c2, c3⟩, f0, f1, f2, f3⟩ := res_four hg0
           obtain ⟨⟨d0, d1, d2, d3⟩, e0, e1, e2, e3⟩ := res_four hg1
           have HG := Lib.hid hg0
           have HG1 := Lib.hid hg1
           have H1 := Lib.hid hb1
           clear hg0 hg1 hb1))
      refine bodyPost_ret (v := .agg _) (results_cell_row (p := 4) (ty := 54) Try.results79 _ _ (w.heap.size + 1) 54 _ (0, 0) _ rfl
        (set_four _ _ _ _ ((Below.heap_setCell w1 _ _ _ (by simp)).trans HG1.out)) Try.underlying54 rfl Try.infoCls) rfl ⟨?_, below_four (H1.out.setCell (Nat.le_refl _) _) (by omega) _ _ _ _⟩
      rw [HE.out, HP.out]
      refine ret_four ?_ ?_ ?_ ?_
      all_goals first | exact add_on k _ _ (by rw [HN.out]; rfl) HR.out | exact add_at k _ _ (by rw [HN.out]; decide)
  · rw [hr] at k1
    obtain ⟨E, hE⟩ : ∃ E : Ending, E = .returned (clsV (addK k x.toNat)) := ⟨_, rfl⟩
    have HE := Lib.hid (hE.trans (by rw [add_same k _ hr]))
    rw [← hE]
    unfold clsV clsA wd
    clear hE
    go_enter Try.func79, Try.ntmps79
    go_wp2_with (first
      | (go_at_call 78; refine (k1 _).mono ?_; rintro en w1 ⟨rfl, hb1⟩; clear k1
         obtain ⟨hg0, hg1, hb1⟩ := two_boxes hb1
         obtain ⟨⟨c0, c1, c2, c3⟩, f0, f1, f2, f3⟩ := res_four hg0
         obtain ⟨⟨d0, d1, d2, d3⟩, e0, e1, e2, e3⟩ := res_four hg1
         have HG := Lib.hid hg0
         have HG1 := Lib.hid hg1
         have H1 := Lib.hid hb1
         clear hg0 hg1 hb1))
    refine bodyPost_ret (v := .agg _) (results_cell_row (p := 4) (ty := 54) Try.results79 _ _ (w.heap.size + 1) 54 _ (0, 0) _ rfl
      (set_four _ _ _ _ HG1.out) Try.underlying54 rfl Try.infoCls) rfl ⟨?_, below_four H1.out (by omega) _ _ _ _⟩
    rw [HE.out]
    rfl
end Go.Proofs.Ytgffmbdbjbhocaa
namespace Go.Proofs.Ytgffmbdbjbhocaa
open Go.RowKit Go.Lib

theorem has_zero (d : Nat) : has (fun _ => 0#64) d = false := by simp [has]
theorem four_other {w : World} {g k : Nat} (p q r s : Value) (h : k ≠ g) : ((((w.setCell ⟨g, 0, none⟩ p).setCell ⟨g, 1, none⟩ q).setCell ⟨g, 2, none⟩ r).setCell ⟨g, 3, none⟩ s).heap[k]? = w.heap[k]? := by
  rw [Below.heap_setCell _ _ _ _ (by exact h), Below.heap_setCell _ _ _ _ (by exact h), Below.heap_setCell _ _ _ _ (by exact h), Below.heap_setCell _ _ _ _ (by exact h)]
theorem cells_cls {w : World} {g : Nat} {K : Cl} {t : TypeId} (h : w.heap[g]? = some (.cells (clsA K) t (0, 0))) :
    (w.cell? ⟨g, 0, none⟩ = some (.int .u64 ((K 0).toNat : Int)) ∧ w.cell? ⟨g, 1, none⟩ = some (.int .u64 ((K 1).toNat : Int)) ∧ w.cell? ⟨g, 2, none⟩ = some (.int .u64 ((K 2).toNat : Int)) ∧ w.cell? ⟨g, 3, none⟩ = some (.int .u64 ((K 3).toNat : Int))) ∧
    (w.frozen? ⟨g, 0, none⟩ = false ∧ w.frozen? ⟨g, 1, none⟩ = false ∧ w.frozen? ⟨g, 2, none⟩ = false ∧ w.frozen? ⟨g, 3, none⟩ = false) := res_four h

end Go.Proofs.Ytgffmbdbjbhocaa
namespace Go.Proofs.Ytgffmbdbjbhocaa
open Go.RowKit Go.Lib

theorem three_boxes {w w1 : World} {A B C : Array Value} {t u v : TypeId} (h : Below (((w.alloc (.cells A t)).alloc (.cells B u)).alloc (.cells C v)).heap.size (((w.alloc (.cells A t)).alloc (.cells B u)).alloc (.cells C v)) w1) :
    w1.heap[w.heap.size]? = some (.cells A t (0, 0)) ∧ w1.heap[w.heap.size + 1]? = some (.cells B u (0, 0)) ∧ w1.heap[w.heap.size + 1 + 1]? = some (.cells C v (0, 0)) ∧ Below w.heap.size w w1 := by
  obtain ⟨h1, h2, h3⟩ := two_boxes (w := w) (Below.refl ((w.alloc (.cells A t)).alloc (.cells B u)).heap.size ((w.alloc (.cells A t)).alloc (.cells B u)))
  have h4 := heap_alloc_new ((w.alloc (.cells A t)).alloc (.cells B u)) (.cells C v)
  rw [World.size_alloc, World.size_alloc] at h4
  refine ⟨(h.block _ (by simp; omega)).trans ((Below.heap_alloc ((w.alloc (.cells A t)).alloc (.cells B u)) (.cells C v) (w.heap.size) ?_).trans h1), (h.block _ (by simp)).trans ((Below.heap_alloc ((w.alloc (.cells A t)).alloc (.cells B u)) (.cells C v) (w.heap.size + 1) ?_).trans h2), (h.block _ (by simp)).trans h4, (h3.alloc ?_ _).trans (h.mono ?_)⟩
  · simp; omega
  · simp
  · simp; omega
  · simp; omega

end Go.Proofs.Ytgffmbdbjbhocaa
namespace Go.Proofs.Ytgffmbdbjbhocaa
open Go.RowKit Go.Lib

set_option maxHeartbeats 4000000 in
set_option maxRecDepth 20000 in
theorem refNot_any (l : Cl) (w : World) :
    Calls Try.prog 36 #[clsV l] w fun e w' => e = .returned (clsV (notK l)) ∧ Below w.heap.size w w' := by
  have k1 : ∀ (K : Cl) (i : Int) Z, 0 ≤ i → i ≤ 255 → Calls Try.prog 79 #[.agg #[.int .u64 ((K 0).toNat : Int), .int .u64 ((K 1).toNat : Int), .int .u64 ((K 2).toNat : Int), .int .u64 ((K 3).toNat : Int)], .int .u8 i] Z fun e w' => e = .returned (.agg #[.int .u64 ((addK K i.toNat 0).toNat : Int), .int .u64 ((addK K i.toNat 1).toNat : Int), .int .u64 ((addK K i.toNat 2).toNat : Int), .int .u64 ((addK K i.toNat 3).toNat : Int)]) ∧ Below Z.heap.size Z w' := fun K i Z h0 h1 => with_any K i Z h0 h1
  have k2 : ∀ (i : Int) Z (b : Bool), 0 ≤ i → i ≤ 255 → has l i.toNat = b → Calls Try.prog 78 #[.agg #[.int .u64 ((l 0).toNat : Int), .int .u64 ((l 1).toNat : Int), .int .u64 ((l 2).toNat : Int), .int .u64 ((l 3).toNat : Int)], .int .u8 i] Z fun e w' => e = .returned (.bool b) ∧ Below Z.heap.size Z w' := fun i Z b h0 h1 hb => by rw [← hb]; exact refHas_any l i Z h0 h1
  have h3 := three_boxes (w := w) (A := clsA l) (B := clsA fun _ => 0#64) (C := clsA fun _ => 0#64) (t := 54) (u := 54) (v := 54) (Below.refl _ _)
  have H3 := Lib.hid h3
  clear h3
  obtain ⟨E, hE⟩ : ∃ E : Ending, E = .returned (clsV (notK l)) := ⟨_, rfl⟩
  have HE := Lib.hid hE
  rw [← hE]
  clear hE
  unfold clsV clsA wd
  go_enter Try.func36, Try.ntmps36
  go_wp2
  go_loopg [4] (256 : Nat) (fun n i wr => ∃ (j : Int) (K : Cl), i = .int .i64 j ∧ Hid (0 ≤ j ∧ j ≤ 256 ∧ (n : Int) + j = 256) ∧ Hid (∃ Z : Cl, wr.heap[w.heap.size + 1]? = some (.cells (clsA Z) 54 (0, 0))) ∧ Hid (wr.heap[w.heap.size + 1 + 1]? = some (.cells (clsA K) 54 (0, 0))) ∧ Hid (wr.heap[w.heap.size]? = some (.cells (clsA l) 54 (0, 0))) ∧ Hid (∀ d : Nat, d < 256 → has K d = (decide ((d : Int) < j) && !has l d)) ∧ Hid (Below w.heap.size w wr))
  case atStart =>
    refine ⟨0, fun _ => 0#64, rfl, (by show (0 : Int) ≤ 0 ∧ (0 : Int) ≤ 256 ∧ _; omega), ⟨fun _ => 0#64, H3.out.2.1⟩, H3.out.2.2.1, H3.out.1, fun d _ => ?_, H3.out.2.2.2⟩
    rw [has_zero, show decide ((d : Int) < 0) = false by rw [decide_eq_false_iff_not]; omega, Bool.false_and]
  case round =>
    clear H3
    obtain ⟨j, K, rfl, HJ, HZ, HK, HL, HD, HB⟩ := hrel
    obtain ⟨⟨c0, c1, c2, c3⟩, e0, e1, e2, e3⟩ := cells_cls HK.out
    obtain ⟨⟨l0, l1, l2, l3⟩, m0, m1, m2, m3⟩ := cells_cls HL.out
    by_cases hlt : j < 256
    · have hj0 : 0 ≤ j := by have := HJ.out; omega
      have hj1 : j ≤ 255 := by omega
      have w8 : IntKind.u8.wrap j = j := by rw [IntKind.wrap_u8']; omega
      have w64 : IntKind.i64.wrap (j + 1) = j + 1 := by rw [IntKind.wrap_i64]; omega
      cases hb : has l j.toNat
      · have HQ := Lib.hid hb
        clear hb
        go_wp2_with (first
          | (go_at_call 78; refine (k2 j _ false hj0 hj1 HQ.out).mono ?_; clear k2; rintro en w1 ⟨rfl, hb1⟩
             have hg1 := (hb1.block _ (block_at HK.out)).trans HK.out
             have hl1 := (hb1.block _ (block_at HL.out)).trans HL.out
             have hz1 := HZ.out.imp fun Z hz => (hb1.block _ (block_at hz)).trans hz
             clear c0 c1 c2 c3 e0 e1 e2 e3
             obtain ⟨⟨c0, c1, c2, c3⟩, e0, e1, e2, e3⟩ := cells_cls hg1
             have HG := Lib.hid hg1
             have HL1 := Lib.hid hl1
             have HZ1 := Lib.hid hz1
             have H1 := Lib.hid (HB.out.trans (hb1.mono HB.out.size))
             clear hg1 hz1 hl1 hb1)
          | (go_at_call 79; refine (k1 K j _ hj0 hj1).mono ?_; clear k1; rintro en w2 ⟨rfl, hb1⟩
             have hg1 := (hb1.block _ (block_at HG.out)).trans HG.out
             have hl1 := (hb1.block _ (block_at HL1.out)).trans HL1.out
             have hz1 := HZ1.out.imp fun Z hz => (hb1.block _ (block_at hz)).trans hz
             clear c0 c1 c2 c3 e0 e1 e2 e3
             obtain ⟨⟨c0, c1, c2, c3⟩, e0, e1, e2, e3⟩ := cells_cls hg1
             have HG2 := Lib.hid hg1
             have HL2 := Lib.hid hl1
             have HZ2 := Lib.hid hz1
             have H2 := Lib.hid (H1.out.trans (hb1.mono H1.out.size))
             clear hg1 hz1 hl1 hb1))
        go_roundg (gk - 1)
        case measure => have h1 := HJ.out; omega
        case rel =>
          refine ⟨j + 1, addK K j.toNat, by go_num, (by have h1 := HJ.out; show _ ∧ _ ∧ _; omega), HZ2.out.imp fun Z hz => (four_other _ _ _ _ (by omega)).trans hz, set_four _ _ _ _ HG2.out, (four_other _ _ _ _ (by omega)).trans HL2.out, fun d hd => ?_, below_four H2.out (by omega) _ _ _ _⟩
          rw [has_add, HD.out d hd]
          by_cases hdj : (d : Int) = j
          · have : d = j.toNat := by omega
            rw [this, HQ.out, Bool.not_false, Bool.and_true, Bool.and_true]
            rw [show decide (((j.toNat : Nat) : Int) < j + 1) = true by rw [decide_eq_true_eq]; omega]
            simp
          · rw [show decide ((d : Int) < j + 1) = decide ((d : Int) < j) by rw [decide_eq_decide]; omega, show decide (d = j.toNat) = false by rw [decide_eq_false_iff_not]; omega, Bool.or_false]
      · have HQ := Lib.hid hb
        clear hb
        go_wp2_with (first
          | (go_at_call 78; refine (k2 j _ true hj0 hj1 HQ.out).mono ?_; clear k2; rintro en w1 ⟨rfl, hb1⟩))
        go_roundg (gk - 1)
        case measure => have h1 := HJ.out; omega
        case rel =>
          refine ⟨j + 1, K, by go_num, (by have h1 := HJ.out; show _ ∧ _ ∧ _; omega), HZ.out.imp fun Z hz => (hb1.block _ (block_at hz)).trans hz, (hb1.block _ (block_at HK.out)).trans HK.out, (hb1.block _ (block_at HL.out)).trans HL.out, fun d hd => ?_, HB.out.trans (hb1.mono HB.out.size)⟩
          rw [HD.out d hd]
          by_cases hdj : (d : Int) = j
          · have : d = j.toNat := by omega
            rw [this, HQ.out, Bool.not_true, Bool.and_false, Bool.and_false]
          · rw [show decide ((d : Int) < j + 1) = decide ((d : Int) < j) by rw [decide_eq_decide]; omega]
    · obtain ⟨Z, hz⟩ := HZ.out
      obtain ⟨⟨z0, z1, z2, z3⟩, g0, g1, g2, g3⟩ := cells_cls hz
      have HZ1 := Lib.hid hz
      clear hz
      go_wp2
      refine bodyPost_ret (v := .agg _) (results_cell_row (p := 2) (ty := 54) Try.results36 _ _ (w.heap.size + 1) 54 _ (0, 0) _ rfl
        (set_four _ _ _ _ HZ1.out) Try.underlying54 rfl Try.infoCls) rfl ⟨?_, below_four HB.out (by omega) _ _ _ _⟩
      rw [HE.out]
      show Ending.returned (clsV K) = _
      rw [clsV_ext (k := K) (l := notK l) fun d hd => ?_]
      rw [HD.out d hd, has_not, show decide ((d : Int) < j) = true by (rw [decide_eq_true_eq]; have := HJ.out; omega), Bool.true_and]
end Go.Proofs.Ytgffmbdbjbhocaa
namespace Go.Proofs.Ytgffmbdbjbhocaa
open Go.RowKit Go.Lib

/-- Has a node this one as a kid? -/
def isKid (n : Nd) (i : Nat) : Prop := ((n.k = 2 ∨ n.k = 3 ∨ n.k = 4 ∨ n.k = 5 ∨ n.k = 6) ∧ n.x = (i : Int)) ∨ ((n.k = 2 ∨ n.k = 3) ∧ n.y = (i : Int))
theorem up_kid {up : Nat → Nat} : ∀ (t : Tr) (n : Nat), t.ok → UpOk up t n → ∀ r, n ≤ r → r + 1 < n + t.size → ∃ nd : Nd, r < up r ∧ up r < n + t.size ∧ (t.row n)[up r - n]? = some nd ∧ isKid nd r
  | .leaf k, n, _, _, r, h1, h2 => by have ez : (Tr.leaf k).size = 1 := rfl; omega
  | .set k, n, _, _, r, h1, h2 => by have ez : (Tr.set k).size = 1 := rfl; omega
  | .rep k a, n, hok, hu, r, h1, h2 => by
    have ez : (Tr.rep k a).size = a.size + 1 := rfl
    have hl := Tr.row_length a n
    have hz := a.size_pos
    by_cases h : r + 1 < n + a.size
    · obtain ⟨nd, e1, e2, e3, e4⟩ := up_kid a n hok.2 hu.2 r h1 h
      refine ⟨nd, e1, by omega, ?_, e4⟩
      show (a.row n ++ [_])[up r - n]? = _
      rw [List.getElem?_append_left (by omega)]
      exact e3
    · have hr : r = n + a.size - 1 := by omega
      have e := hu.1
      rw [← hr] at e
      have hk := hok.1
      refine ⟨⟨(k : Int), k0, (n : Int) + a.size - 1, 0⟩, by omega, by omega, ?_, .inl ⟨by dsimp only; omega, by dsimp only; omega⟩⟩
      show (a.row n ++ [_])[up r - n]? = _
      rw [List.getElem?_append_right (by omega), hl, e]
      simp
  | .two k a b, n, hok, hu, r, h1, h2 => by
    have ez : (Tr.two k a b).size = a.size + b.size + 1 := rfl
    have hl := Tr.row_length a n
    have hl2 := Tr.row_length b (n + a.size)
    have hz := a.size_pos
    have hz2 := b.size_pos
    have hk := hok.1
    by_cases h : r + 1 < n + a.size
    · obtain ⟨nd, e1, e2, e3, e4⟩ := up_kid a n hok.2.1 hu.2.2.1 r h1 h
      refine ⟨nd, e1, by omega, ?_, e4⟩
      show (a.row n ++ _)[up r - n]? = _
      rw [List.getElem?_append_left (by omega)]
      exact e3
    · by_cases h3 : r + 1 = n + a.size
      · have hr : r = n + a.size - 1 := by omega
        have e := hu.1
        rw [← hr] at e
        refine ⟨⟨(k : Int), k0, (n : Int) + a.size - 1, (n : Int) + a.size + b.size - 1⟩, by omega, by omega, ?_, .inl ⟨by dsimp only; omega, by dsimp only; omega⟩⟩
        show (a.row n ++ (b.row (n + a.size) ++ [_]))[up r - n]? = _
        rw [List.getElem?_append_right (by omega), List.getElem?_append_right (by omega), hl, hl2, e]
        rw [show n + a.size + b.size - n - a.size - b.size = 0 by omega]
        rfl
      · by_cases h4 : r + 1 < n + a.size + b.size
        · obtain ⟨nd, e1, e2, e3, e4⟩ := up_kid b (n + a.size) hok.2.2 hu.2.2.2 r (by omega) h4
          refine ⟨nd, e1, by omega, ?_, e4⟩
          show (a.row n ++ (b.row (n + a.size) ++ [_]))[up r - n]? = _
          rw [List.getElem?_append_right (by omega), hl, List.getElem?_append_left (by omega), ← e3]
          congr 1
          omega
        · have hr : r = n + a.size + b.size - 1 := by omega
          have e := hu.2.1
          rw [← hr] at e
          refine ⟨⟨(k : Int), k0, (n : Int) + a.size - 1, (n : Int) + a.size + b.size - 1⟩, by omega, by omega, ?_, .inr ⟨by dsimp only; omega, by dsimp only; omega⟩⟩
          show (a.row n ++ (b.row (n + a.size) ++ [_]))[up r - n]? = _
          rw [List.getElem?_append_right (by omega), List.getElem?_append_right (by omega), hl, hl2, e]
          rw [show n + a.size + b.size - n - a.size - b.size = 0 by omega]
          rfl
theorem Tree.up {ts : List Nd} {up : Nat → Nat} {T : Tr} (h : Tree ts up T) {r : Nat} (hr : r + 1 < ts.length) : ∃ n, r < up r ∧ up r < ts.length ∧ ts[up r]? = some n ∧ isKid n r := by
  have hl := h.len
  obtain ⟨nd, e1, e2, e3, e4⟩ := up_kid T 0 h.ok h.occ.up r (by omega) (by omega)
  exact ⟨nd, e1, by omega, by rw [h.row]; exact e3, e4⟩
end Go.Proofs.Ytgffmbdbjbhocaa
namespace Go.Proofs.Ytgffmbdbjbhocaa
open Go.RowKit Go.Lib
attribute [local go_sem] Oper.semAt_some

theorem Try.infoTwo : (Try.prog.info? 41).map (fun i => (i.zero, i.size, i.bytes)) = some (some (.agg #[.int .i64 0, .int .i64 0]), 2, 16) := by kernel_rfl
def pairC (l : List (Nat × Nat)) : List Value := l.flatMap fun x => [.int .i64 (x.1 : Int), .int .i64 (x.2 : Int)]
theorem pairC_snoc (l : List (Nat × Nat)) (x : Nat × Nat) : pairC (l ++ [x]) = pairC l ++ [.int .i64 (x.1 : Int), .int .i64 (x.2 : Int)] := by unfold pairC; rw [List.flatMap_append]; rfl
theorem goL_length (G : Nat → Int) (n : Nat) : ∀ (f a : Nat) (e : Int), (goL G n f a e).length ≤ f
  | 0, _, _ => Nat.le_refl _
  | f + 1, a, e => by
    unfold goL
    split
    · exact Nat.zero_le _
    · split
      · exact Nat.le_succ_of_le (goL_length G n f _ _)
      · exact Nat.succ_le_succ (goL_length G n f _ _)
/-- The row of spans in the making. -/
structure RowS (h D c : Nat) (w : World) (pre : List (Nat × Nat)) (Z : World) : Prop where
  box : ∃ v, Z.heap[h]? = some (.cells #[v] 39 (0, 0)) ∧ Z.ownsRow (D + 2 + c) 41 2 v pre.length (pairC pre)
  low : Below h w Z
theorem RowS.grown {h D c : Nat} {w A B : World} {pre : List (Nat × Nat)} {row : Option Nat} (r : RowS h D c w pre A) (hD : h < D) (hg : A.grownBy B row) (hr : ∀ q, row = some q → D ≤ q ∧ ((q < D + 2 ∧ ∃ x t, A.heap[q]? = some (.cells #[x] t (0, 0))) ∨ ∃ o : Obj, A.heap[q]? = some o ∧ o.isCells = false)) : RowS h D c w pre B := by
  obtain ⟨v, h1, h2⟩ := r.box
  refine ⟨⟨v, (hg.block h (block_lt h1) (fun e => by have := (hr h e.symm).1; omega)).trans h1, owns_same h2 fun q hq => hg.block q (own_block_lt h2 hq) (fun e => ?_)⟩, r.low.grown hg (Nat.le_of_lt (block_lt h1)) (fun q hq => by have := (hr q hq).1; omega)⟩
  have hb := own_base h2 hq
  rcases (hr q e.symm).2 with ⟨hlt, _⟩ | ⟨o, ho, hc⟩
  · omega
  · rcases h2.2 with ⟨hv, _⟩ | ⟨g, cap, cur, hv, _, hgg, _⟩
    · rw [hv] at hq; cases hq
    · rw [hv] at hq
      cases hq
      rw [hgg] at ho
      cases ho
      cases hc
set_option maxHeartbeats 4000000 in
set_option maxRecDepth 100000 in
theorem spans_walk (b o cap : Nat) (T : Tr) (ts : List Nd) (s : ByteArray) (w : World) (hts : ts = T.row 0) (hok : T.ok) (hsz : ts.length ≤ 2000) (hs : s.size ≤ 1000000) (hL : Lies (.slice (some ⟨b, o, none⟩) ts.length cap) ts w) :
    CallsIn Fence.wide 0 Try.prog 29 #[.slice (some ⟨b, o, none⟩) ts.length cap, .string s] w fun e w' => ∃ v, e = .returned v ∧ w'.ownsRow w.heap.size 41 2 v (spansL s.data.toList T 0).length (pairC (spansL s.data.toList T 0)) ∧ Below w.heap.size w w' := by
  have k1 := fun w => callsIn_wide (n := 0).2 (spans_make (.slice (some ⟨b, o, none⟩) ts.length cap) s 0 w ⟨_, _, _, rfl⟩)
  have hLn : (spansL s.data.toList T 0).length ≤ 2000010 := by
    have := goL_length (farG s.data.toList T) s.data.toList.length (2 * (s.data.toList.length + 1 - 0) + 2) 0 (-1)
    have e : s.data.toList.length = s.size := Array.length_toList
    unfold spansL
    omega
  have H := Lib.hid (And.intro hts (And.intro hok (And.intro hsz (And.intro hs (And.intro hL hLn)))))
  clear hts hok hsz hs hL hLn
  obtain ⟨i0, hi, hz0, hz1, hz2⟩ := info_parts Try.infoTwo
  have HI0 := Lib.hid (And.intro hi (And.intro hz0 (And.intro hz1 hz2)))
  clear hi hz0 hz1 hz2
  refine callsIn_of_wp_marks Try.func29 rfl trivial ?_ rfl
  simp only [Try.ntmps29, List.size_toArray, List.length_cons, List.length_nil, Nat.reduceAdd, Nat.reduceSub, Array.replicate_succ, Array.replicate_zero, List.push_toArray, List.append_toArray, List.nil_append, List.cons_append]
  gi_wp2_with (first
    | (refine ⟨trivial, rfl, ?_⟩; gi_at_call 74; refine (k1 _).mono ?_; rintro e w2 ⟨rfl, rfl⟩)
    | fail)
  obtain ⟨h, hh⟩ : ∃ h, h = w.heap.size := ⟨_, rfl⟩
  rw [← hh]
  obtain ⟨V, hV⟩ : ∃ V, V = (((w.alloc (.cells #[.slice none 0 0] 39)).alloc (.cells #[.slice (some ⟨b, o, none⟩) ts.length cap] 22)).alloc (.cells #[.string s] 9)).alloc (.cells #[.int .i64 0] 3) := ⟨_, rfl⟩
  rw [← hV]
  have z1 : (w.alloc (.cells #[.slice none 0 0] 39)).heap.size = h + 1 := by rw [hh]; simp
  have z4 : ((w.alloc (.cells #[.slice none 0 0] 39)).alloc (.cells #[.slice (some ⟨b, o, none⟩) ts.length cap] 22)).heap.size = h + 2 := by rw [hh]; simp
  have z5 : (((w.alloc (.cells #[.slice none 0 0] 39)).alloc (.cells #[.slice (some ⟨b, o, none⟩) ts.length cap] 22)).alloc (.cells #[.string s] 9)).heap.size = h + 3 := by rw [hh]; simp
  have z6 : V.heap.size = h + 4 := by rw [hV, hh]; simp
  have v5 : V.heap[h + 3]? = some (.cells #[.int .i64 ((0 : Nat) : Int)] 3 (0, 0)) := by rw [hV, ← z5]; exact heap_alloc_new _ _
  have v4 : V.heap[h + 2]? = some (.cells #[.string s] 9 (0, 0)) := by rw [hV]; refine (Below.heap_alloc _ _ _ (by rw [z5]; omega)).trans ?_; rw [← z4]; exact heap_alloc_new _ _
  have v3 : V.heap[h + 1]? = some (.cells #[.slice (some ⟨b, o, none⟩) ts.length cap] 22 (0, 0)) := by rw [hV]; refine (Below.heap_alloc _ _ _ (by rw [z5]; omega)).trans ((Below.heap_alloc _ _ _ (by rw [z4]; omega)).trans ?_); rw [← z1]; exact heap_alloc_new _ _
  have v0 : V.heap[h]? = some (.cells #[.slice none 0 0] 39 (0, 0)) := by rw [hV]; refine (Below.heap_alloc _ _ _ (by rw [z5]; omega)).trans ((Below.heap_alloc _ _ _ (by rw [z4]; omega)).trans ((Below.heap_alloc _ _ _ (by rw [z1]; omega)).trans ?_)); rw [hh]; exact heap_alloc_new _ _
  have vB : Below h w V := by rw [hV, hh]; exact ((((Below.refl _ w).alloc (Nat.le_refl _) _).alloc (by simp) _).alloc (by simp; omega) _).alloc (by simp; omega) _
  have hLV := H.out.2.2.2.2.1.below (w' := V) (by rw [← hh]; exact vB)
  have HV := Lib.hid (And.intro v5 (And.intro v4 (And.intro v3 (And.intro hLV (And.intro v0 vB)))))
  have HH := Lib.hid hh
  clear hV z1 z4 z5 v5 v4 v3 v0 vB hLV k1 hh
  refine wp_rangeF (gf := 99) (lb := #[.pointer (some ⟨h + 1, 0, none⟩), .pointer (some ⟨h + 2, 0, none⟩), .pointer (some ⟨h + 3, 0, none⟩)]) (encs := encP) (L := spansL s.data.toList T 0) (K := fun j => j = h + 2) rfl (enters_of Try.func99 (by kernel_rfl) rfl) (fun _ => rfl)
    (fun Z hz ho => by
      obtain ⟨hts, hok, hsz, hs, _⟩ := H.out
      exact spans1 (h + 1) (h + 2) (h + 3) b o cap 0 T ts s Z hts hok hsz hs (by
        obtain ⟨ao, cp, e1, e2, e3⟩ := HV.out.2.2.2.1
        refine ⟨ao, cp, e1, e2, fun j n hj => ?_⟩
        obtain ⟨b', o', g1, g2, g3⟩ := e3 j n hj
        refine ⟨b', o', g1, by omega, ?_⟩
        have e : ∀ i, Z.cell? ⟨b', i, none⟩ = V.cell? ⟨b', i, none⟩ := fun i => by unfold World.cell?; rw [ho b' g2]
        unfold NdAt at g3 ⊢
        rw [e, e, e, e, e, e, e]
        exact g3) ((ho _ (by omega)).trans HV.out.2.2.1) ((ho _ (by omega)).trans HV.out.2.1) ((ho _ (by omega)).trans HV.out.1)) (fun j hj => by omega)
    (fun c pre Z => RowS h V.heap.size c w pre Z) (fun _ _ _ => False)
    (fun c pre A B row hs hg hr => hs.grown (by omega) hg hr)
    (fun _ _ _ _ _ hs _ _ => hs.elim)
    (fun c => ⟨⟨_, HV.out.2.2.2.2.1, World.ownsRow_nil _ _ _ _⟩, HV.out.2.2.2.2.2⟩)
    (fun x => { tmps := #[.slice (some ⟨b, o, none⟩) ts.length cap, .string s, undef, undef, .slice none 0 0, .pointer (some ⟨h, 0, none⟩), .int .i64 (x.1 : Int), .int .i64 (x.2 : Int),
      .slice (some ⟨b, o, none⟩) ts.length cap, .string s, .func (.func 99) #[] #[.pointer (some ⟨h + 1, 0, none⟩), .pointer (some ⟨h + 1 + 1, 0, none⟩), .pointer (some ⟨h + 1 + 1 + 1, 0, none⟩)], .int .i64 (x.1 : Int), .int .i64 (x.2 : Int), undef, undef, undef, undef, undef, undef, undef], defers := [] })
    ?assign ?body ?done ?stop
  case assign =>
    intro l2 x Z kk hK
    gi_wp2
    exact hK
  case body =>
    rintro l2 c pre x Z hsz hR ⟨rest, hpre⟩
    obtain ⟨v, hbox, hown⟩ := hR.box
    have hlow := hR.low
    have cb : Z.cell? ⟨h, 0, none⟩ = some v := by rw [cell_of_heap hbox]; rfl
    have n0 := World.new_ne Z ⟨h, 0, none⟩ cb
    have hm : pre.length + 1 ≤ 2000010 := by have := H.out.2.2.2.2.2; rw [hpre, List.length_append, List.length_cons] at this; omega
    have hZ := Lib.hid hbox
    have HOWN := Lib.hid hown
    have HLOW := Lib.hid hlow
    obtain ⟨m, hmm⟩ : ∃ m, m = pre.length := ⟨_, rfl⟩
    rw [← hmm] at HOWN hm
    have HM := Lib.hid hmm
    have hzs := block_lt hbox
    clear hR hpre hbox hown hlow hmm
    gi_wp2_with (first
      | (refine wpListIn_append_own _ rfl (.tmp 13) (.tmp 17) 39 rfl (V.heap.size + 2 + c) 41 i0 (.agg #[.int .i64 0, .int .i64 0]) 2 16 Try.underlying39 HI0.out.1 HI0.out.2.1 HI0.out.2.2.1 HI0.out.2.2.2 rfl (by decide) v m (pairC pre) rfl (owns_alloc HOWN.out) ⟨Z.heap.size, 0, none⟩ 1 1 [.int .i64 (x.1 : Int), .int .i64 (x.2 : Int)] rfl rfl (cells_twoM _ _ rfl _ _ _) (by simp [Value.oneCell']) (by unfold maxLen; omega) (by omega) (by simp; omega) ?_; intro v5 w5 hown5 hgrow5 _
         have hb5 : w5.heap[h]? = some (.cells #[v] 39 (0, 0)) := (hgrow5.block h (by simp; omega) (fun e => by have := own_base HOWN.out e.symm; omega)).trans ((Below.heap_alloc _ _ _ hzs).trans hZ.out)
         have cb5 : w5.cell? ⟨h, 0, none⟩ = some v := by rw [cell_of_heap hb5]; rfl
         have fb5 : w5.frozen? ⟨h, 0, none⟩ = false := frozen_of_heap hb5 0
         obtain ⟨g5, cap5, rfl⟩ := owned_slice hown5 (by omega)
         have H5 := Lib.hid (And.intro hown5 (And.intro hgrow5 hb5))
         clear hown5 hgrow5 hb5 cb n0)
      | fail)
    obtain ⟨hown5, hgrow5, hb5⟩ := H5.out
    have hz5 := hgrow5.size
    rw [World.size_alloc] at hz5
    refine ⟨by simp [World.setCell]; omega, fun j hj => ?_, ⟨⟨_, by simpa using heap_setCell_same w5 h 0 _ _ (Value.slice (some ⟨g5, 0, none⟩) (m + 1) cap5) hb5, ?_⟩, ?_⟩⟩
    · refine (Below.heap_setCell _ _ _ _ (by dsimp only; omega)).trans ((hgrow5.block j (by simp; omega) (fun e => by have := own_base HOWN.out e.symm; omega)).trans (Below.heap_alloc _ _ _ (by omega)))
    · have e : (pre ++ [x]).length = m + 1 := by rw [List.length_append, HM.out]; rfl
      rw [e, pairC_snoc]
      exact owns_same hown5 fun q hq => Below.heap_setCell _ _ _ _ (by have := own_base hown5 hq; dsimp only; omega)
    · exact ((HLOW.out.alloc (by omega) _).grown hgrow5 (by simp; omega) (fun q hq => by have := own_base HOWN.out hq; omega)).setCell (p := ⟨h, 0, none⟩) (Nat.le_refl _) _
  case done =>
    rintro c Z hR hK
    obtain ⟨v, hbox, hown⟩ := hR.box
    have hlow := hR.low
    have cb : Z.cell? ⟨h, 0, none⟩ = some v := by rw [cell_of_heap hbox]; rfl
    have HK := Lib.hid (And.intro hK (And.intro hown (And.intro hlow (block_lt hbox))))
    clear hR hbox hown hlow hK
    gi_wp2
    refine ⟨by simp, .inl ⟨_, _, rfl, run_takeDeferred HK.out.1, ?_⟩⟩
    obtain ⟨hK, hown, hlow, hz⟩ := HK.out
    refine ⟨_, results_tmp rfl _ _ _, _, rfl, ?_, ?_⟩
    · rw [← HH.out]
      refine owns_baseM (owns_same hown fun q hq => World.putObj_heap_other ?_) (by omega)
      rintro rfl
      rcases hown.2 with ⟨hv, _⟩ | ⟨g, cap, cur, hv, _, hgg, _⟩
      · rw [hv] at hq; cases hq
      · rw [hv] at hq
        cases hq
        have e := hgg.symm.trans hK
        cases e
    · rw [← HH.out]
      exact hlow.grown (putObj_grown _ _ _) (by omega) (fun k e => by cases e; omega)
  case stop =>
    rintro c pre Z hF hK
    exact hF.elim
/-- Package match's Spans, of a tree's row. -/
theorem spans_any (v : Value) (T : Tr) (ts : List Nd) (s : ByteArray) (w : World) (hts : ts = T.row 0) (hok : T.ok) (hsz : ts.length ≤ 2000) (hs : s.size ≤ 1000000) (hL : Lies v ts w) :
    Calls Try.prog 29 #[v, .string s] w fun e w' => ∃ v', e = .returned v' ∧ w'.ownsRow w.heap.size 41 2 v' (spansL s.data.toList T 0).length (pairC (spansL s.data.toList T 0)) ∧ Below w.heap.size w w' := by
  obtain ⟨b, o, cap, rfl⟩ := lies_ptr hts hL
  exact callsIn_wide.1 (spans_walk b o cap T ts s w hts hok hsz hs hL)
end Go.Proofs.Ytgffmbdbjbhocaa
namespace Go.Proofs.Ytgffmbdbjbhocaa
open Go.RowKit Go.Lib

theorem many_set {s : List UInt8} {k : K4} {a b : Nat} : Many (St s (.set k)) a b ↔ a ≤ b ∧ ∀ i, a ≤ i → i < b → inSet s k i = true := by
  constructor
  · intro h
    induction h with
    | refl => exact ⟨Nat.le_refl _, fun i h1 h2 => by omega⟩
    | @tail b c h1 h2 ih =>
      have h2 : c = b + 1 ∧ inSet s k b = true := h2
      refine ⟨by omega, fun i g1 g2 => ?_⟩
      by_cases hi : i < b
      · exact ih.2 i g1 hi
      · rw [show i = b by omega]; exact h2.2
  · rintro ⟨h1, h2⟩
    obtain ⟨d, rfl⟩ : ∃ d, b = a + d := ⟨b - a, by omega⟩
    induction d with
    | zero => exact .refl _
    | succ d ih => exact (ih (by omega) (fun i g1 g2 => h2 i g1 (by omega))).tail ⟨by omega, h2 _ (by omega) (by omega)⟩
theorem st_star {s : List UInt8} {k : K4} {a b : Nat} : St s (.rep 4 (.set k)) a b ↔ a ≤ b ∧ ∀ i, a ≤ i → i < b → inSet s k i = true := by
  rw [← many_set]
  exact Iff.rfl
theorem st_plus {s : List UInt8} {k : K4} {a b : Nat} : St s (.rep 5 (.set k)) a b ↔ a < b ∧ ∀ i, a ≤ i → i < b → inSet s k i = true := by
  show (∃ c, St s (.set k) a c ∧ Many (St s (.set k)) c b) ↔ _
  constructor
  · rintro ⟨c, hc, hm⟩
    have hc : c = a + 1 ∧ inSet s k a = true := hc
    obtain ⟨h1, h2⟩ := many_set.1 hm
    refine ⟨by omega, fun i g1 g2 => ?_⟩
    by_cases hi : i = a
    · rw [hi]; exact hc.2
    · exact h2 i (by omega) g2
  · rintro ⟨h1, h2⟩
    exact ⟨a + 1, ⟨rfl, h2 a (Nat.le_refl _) h1⟩, many_set.2 ⟨h1, fun i g1 g2 => h2 i (by omega) g2⟩⟩
theorem goL_end {G : Nat → Int} {n f a : Nat} {e : Int} (h : n < a) : goL G n (f + 1) a e = [] := by
  show (if n < a then [] else _) = _
  rw [if_pos h]
theorem goL_skip {G : Nat → Int} {n f a : Nat} {e : Int} (h : a ≤ n) (hc : G a = -1 ∨ (G a = a ∧ e = a)) : goL G n (f + 1) a e = goL G n f (a + 1) e := by
  show (if n < a then [] else if G a = -1 ∨ (G a = a ∧ e = a) then goL G n f (a + 1) e else _) = _
  rw [if_neg (by omega), if_pos hc]
theorem goL_take {G : Nat → Int} {n f a b : Nat} {e : Int} (h : a ≤ n) (hG : G a = (b : Int)) (hne : ¬ (b = a ∧ e = a)) : goL G n (f + 1) a e = (a, b) :: goL G n f b (b : Int) := by
  show (if n < a then [] else if G a = -1 ∨ (G a = a ∧ e = a) then _ else (a, (G a).toNat) :: goL G n f (G a).toNat (G a)) = _
  rw [if_neg (by omega), if_neg (by rw [hG]; exact fun hh => hh.elim (fun h => by omega) (fun h => hne ⟨by omega, h.2⟩)), hG, Int.toNat_natCast]
def tA : Tr := .rep 5 (.set (k4 (oneK 97)))
def tB : Tr := .rep 4 (.set (k4 (oneK 98)))
theorem inSet_one {s : List UInt8} {n p : Nat} {c : UInt8} (h : s[p]? = some c) : inSet s (k4 (oneK n)) p = (decide (c.toNat = n)) := by
  unfold inSet
  rw [h]
  dsimp only
  rw [has_k4 _ c.toNat_lt, has_one]
theorem spans_A : spansL [120, 97, 97, 121] tA 0 = [(1, 3)] := by
  have i0 : inSet [120, 97, 97, 121] (k4 (oneK 97)) 0 = false := (inSet_one rfl).trans rfl
  have i1 : inSet [120, 97, 97, 121] (k4 (oneK 97)) 1 = true := (inSet_one rfl).trans rfl
  have i2 : inSet [120, 97, 97, 121] (k4 (oneK 97)) 2 = true := (inSet_one rfl).trans rfl
  have i3 : inSet [120, 97, 97, 121] (k4 (oneK 97)) 3 = false := (inSet_one rfl).trans rfl
  have g0 : farG [120, 97, 97, 121] tA 0 = -1 := farG_none fun a _ h => by
    have := (st_plus.1 h).2 0 (Nat.le_refl _) (st_plus.1 h).1
    rw [i0] at this; cases this
  have g1 : farG [120, 97, 97, 121] tA 1 = ((3 : Nat) : Int) := farG_some (by decide) (st_plus.2 ⟨by omega, fun i h1 h2 => by
    rcases (show i = 1 ∨ i = 2 by omega) with rfl | rfl
    · exact i1
    · exact i2⟩) fun a' h1 _ h => by
      have := (st_plus.1 h).2 3 (by omega) h1
      rw [i3] at this; cases this
  have g3 : farG [120, 97, 97, 121] tA 3 = -1 := farG_none fun a _ h => by
    have := (st_plus.1 h).2 3 (Nat.le_refl _) (st_plus.1 h).1
    rw [i3] at this; cases this
  have g4 : farG [120, 97, 97, 121] tA 4 = -1 := farG_none fun a ha h => by
    have := (st_plus.1 h).1
    have ha : a ≤ 4 := ha
    omega
  show goL (farG [120, 97, 97, 121] tA) 4 12 0 (-1) = _
  rw [goL_skip (f := 11) (by omega) (.inl g0), goL_take (f := 10) (by omega) g1 (by omega), goL_skip (f := 9) (by omega) (.inl g3), goL_skip (f := 8) (by omega) (.inl g4), goL_end (f := 7) (by omega)]
theorem spans_B : spansL [97, 98, 98] tB 0 = [(0, 0), (1, 3)] := by
  have i0 : inSet [97, 98, 98] (k4 (oneK 98)) 0 = false := (inSet_one rfl).trans rfl
  have i1 : inSet [97, 98, 98] (k4 (oneK 98)) 1 = true := (inSet_one rfl).trans rfl
  have i2 : inSet [97, 98, 98] (k4 (oneK 98)) 2 = true := (inSet_one rfl).trans rfl
  have g0 : farG [97, 98, 98] tB 0 = ((0 : Nat) : Int) := farG_some (by decide) (st_star.2 ⟨Nat.le_refl _, fun i h1 h2 => by omega⟩) fun a' h1 _ h => by
    have := (st_star.1 h).2 0 (Nat.le_refl _) h1
    rw [i0] at this; cases this
  have g1 : farG [97, 98, 98] tB 1 = ((3 : Nat) : Int) := farG_some (by decide) (st_star.2 ⟨by omega, fun i h1 h2 => by
    rcases (show i = 1 ∨ i = 2 by omega) with rfl | rfl
    · exact i1
    · exact i2⟩) fun a' h1 h2 _ => by
      have h2 : a' ≤ 3 := h2
      omega
  have g3 : farG [97, 98, 98] tB 3 = ((3 : Nat) : Int) := farG_some (by decide) (st_star.2 ⟨Nat.le_refl _, fun i h1 h2 => by omega⟩) fun a' h1 h2 _ => by
    have h2 : a' ≤ 3 := h2
    omega
  show goL (farG [97, 98, 98] tB) 3 10 0 (-1) = _
  rw [goL_take (f := 9) (by omega) g0 (by omega), goL_skip (f := 8) (by omega) (.inr ⟨g0, rfl⟩), goL_take (f := 7) (by omega) g1 (by omega), goL_skip (f := 6) (by omega) (.inr ⟨g3, rfl⟩), goL_end (f := 5) (by omega)]
end Go.Proofs.Ytgffmbdbjbhocaa
namespace Go.Proofs.Ytgffmbdbjbhocaa
open Go.RowKit Go.Lib

theorem run_neq_two (a b c d : Int) (w : World) : (binOp .neq 41 (.agg #[.int .i64 a, .int .i64 b]) (.agg #[.int .i64 c, .int .i64 d])).run Try.prog w = .ok (.bool (!(a == c && b == d))) w := by
  rw [run_neq_struct, eql_two]
  rfl
theorem run_neq_cls (a b c d e f g h : Int) (w : World) :
    (binOp .neq 54 (.agg #[.int .u64 a, .int .u64 b, .int .u64 c, .int .u64 d]) (.agg #[.int .u64 e, .int .u64 f, .int .u64 g, .int .u64 h])).run Try.prog w = .ok (.bool (!(a == e && (b == f && (c == g && d == h))))) w := by
  rw [run_neq_struct, eql_cls]
  rfl
set_option maxHeartbeats 1000000 in
set_option maxRecDepth 20000 in
theorem many_any (k : Int) (w : World) : Calls Try.prog 63 #[.int .i64 k] w fun e w' => e = .returned (.int .i64 (kidsN k)) ∧ w' = w := by
  rcases kinds_cases k with rfl | rfl | rfl | rfl | rfl | rfl | rfl | rfl | rfl | ⟨h0, h1, h2, h3, h4, h5, h6, h7, h8, hk⟩
  case inr.inr.inr.inr.inr.inr.inr.inr.inr =>
    rw [hk]
    clear hk
    have hc : decide (4 ≤ k) = false ∨ (decide (4 ≤ k) = true ∧ decide (k ≤ 6) = false) := by
      have a4 := beq_eq_false_iff_ne.1 h4
      have a5 := beq_eq_false_iff_ne.1 h5
      have a6 := beq_eq_false_iff_ne.1 h6
      by_cases h : 4 ≤ k
      · exact .inr ⟨decide_eq_true h, decide_eq_false (by omega)⟩
      · exact .inl (decide_eq_false h)
    rcases hc with c1 | ⟨c1, c2⟩
    · go_enter Try.func63, Try.ntmps63
      go_wp2
      exact bodyPost_ret (results_tmp rfl _ _ _) rfl ⟨rfl, rfl⟩
    · go_enter Try.func63, Try.ntmps63
      go_wp2
      exact bodyPost_ret (results_tmp rfl _ _ _) rfl ⟨rfl, rfl⟩
  all_goals
    go_enter Try.func63, Try.ntmps63
    go_wp2
    exact bodyPost_ret (results_tmp rfl _ _ _) rfl ⟨rfl, rfl⟩

end Go.Proofs.Ytgffmbdbjbhocaa
