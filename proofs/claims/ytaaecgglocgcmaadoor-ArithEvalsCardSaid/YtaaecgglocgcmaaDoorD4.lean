/- Packed texts: ArEval, ArShown. What each of them proves stands above its theorems; the conditions stand in these. -/
import Derived.Deep.RegionLaw
import Derived.Defers
import Derived.Laws.Pointers
import Derived.Recover
import Derived.Shelf.Abstract
import Derived.Test.YtaaecgglocgcmaaDoorD3
namespace Go.Proofs.YtaaecgglocgcmaaDoor
open Go.RowKit Go.Lib

theorem whole_why {i : Bool} {V : List UInt8 → Cm} {R : Pr} {x : Int} (hG : Good i R.whole) (h : Why i V R x) : Why i V R.whole x := by
  rcases h with rfl | ⟨hi, ex, l, rfl, he⟩
  · exact .inl rfl
  · rcases hG with h | ⟨ex', l', h⟩
    · rw [hi] at h; cases h
    · have h0 : (if l = [] then Pr.ok ex [] else Pr.bad 9) = .ok ex' l' := h
      split at h0
      · cases h0
        exact .inr ⟨hi, _, _, h, he⟩
      · cases h0
theorem good_whole {i : Bool} {R : Pr} (h : Good i R.whole) : Good i R := by
  rcases h with h | ⟨ex, l, h⟩
  · exact .inl h
  · cases R with
    | bad x => cases h
    | ok e l => exact .inr ⟨e, l, rfl⟩
set_option maxHeartbeats 1000000 in
set_option maxRecDepth 20000 in
theorem whole_walk (p : Nat) (l : List UInt8) (vv : Value) (vs : List Vr) (d : Nat) (i : Bool) (V : List UInt8 → Cm) (R : Pr) (w : World) (h : Rk p l vv d i w) (hE : EnvA p vv vs w) (hG : Good i R.whole)
    (kr : ∀ w, (Rk p l vv d i w ∧ EnvA p vv vs w) → Calls Tryd.prog 31 #[.pointer (some ⟨p, 0, none⟩), .int .i64 0] w (AnsA p vv d i V w R)) :
    Calls Tryd.prog 24 #[.pointer (some ⟨p, 0, none⟩)] w (AnsA p vv d i V w R.whole) := by
  rcases split_ans kr with ⟨x, hw, k⟩ | ⟨ex, l', rfl, k⟩
  · have k2 := k _ ⟨h, hE⟩
    have W := Lib.hid (whole_why hG hw)
    clear h hE hw kr k hG
    unfold errA at k2
    go_enter Tryd.func24, Tryd.ntmps24
    go_wp2_with (go_at_call 31; (with_reducible refine k2.mono ?_); rintro e w1 ⟨rfl, hb2⟩)
    exact ⟨rfl, AnsA.why W.out hb2⟩
  · have k2 := k _ ⟨h, hE⟩
    unfold Well at k2
    clear h hE kr k hG
    have CEL := Lib.hid (fun (w1 : World) (h1 : Rk p l' vv d i w1) => h1.cells.1)
    have hc : (Pr.ok ex l').whole = if l' = [] then .ok ex [] else .bad 9 := rfl
    rw [hc]
    clear hc
    cases l' with
    | nil =>
      rw [if_pos rfl]
      have hemp := empty_listA
      have hemp2 : (⟨([] : List UInt8).toArray⟩ : ByteArray).toList = [] := by rw [ByteArray.toList_eq]
      generalize (⟨([] : List UInt8).toArray⟩ : ByteArray) = S at hemp hemp2 CEL
      go_enter Tryd.func24, Tryd.ntmps24
      go_wp2_with (go_at_call 31; (with_reducible refine k2.mono ?_); rintro e w1 ⟨⟨n, hev, rfl, h2⟩, hb2⟩; have d0 := CEL.out w1 h2; have HEV := Lib.hid hev; have H2 := Lib.hid h2; have HB2 := Lib.hid hb2; clear hev h2 hb2)
      refine bodyPost_ret (results_tmp rfl _ _ _) rfl ?_
      exact AnsA.both (fun hi => HEV.out hi) H2.out HB2.out
    | cons c r =>
      rw [if_neg (by simp)]
      have hemp := full_listA c r
      generalize (⟨(c :: r : List UInt8).toArray⟩ : ByteArray) = S at hemp CEL
      go_enter Tryd.func24, Tryd.ntmps24
      go_wp2_with (go_at_call 31; (with_reducible refine k2.mono ?_); rintro e w1 ⟨⟨n, hev, rfl, h2⟩, hb2⟩; have d0 := CEL.out w1 h2; have HEV := Lib.hid hev; have H2 := Lib.hid h2; have HB2 := Lib.hid hb2; clear hev h2 hb2)
      exact ⟨rfl, AnsA.bad HB2.out⟩
theorem wholeA_any (p : Nat) (l : List UInt8) (vv : Value) (vs : List Vr) (i : Bool) (w : World) (h : Rk p l vv 0 i w) (hE : EnvA p vv vs w) (hl : l.length ≤ 70000000000000) (hr : risesA vs = true) (hs : ∀ x ∈ vs, x.v.size ≤ 70000000000000) (hG : Good i (readA l)) :
    Calls Tryd.prog 24 #[.pointer (some ⟨p, 0, none⟩)] w (AnsA p vv 0 i (valA vs) w (readA l)) :=
  whole_walk p l vv vs 0 i (valA vs) _ w h hE hG fun w hw => (row_all p vv vs hr hs (8 * l.length + 8)).1 0 0 l i w (Nat.zero_le _) (Nat.zero_le _) hl (readA_fuel l) (good_whole hG) hw.1 hw.2

theorem eval1_idle (p q : Addr) (w : World) :
    CallsD Tryd.prog 23 #[.pointer (some p), .pointer (some q)] .returning w fun e u' w' => e = .returned (.tuple #[]) ∧ u' = .returning ∧ w' = w := by
  refine callsD_of_wpS Tryd.func23 rfl fun c₀ cs hu => ?_
  apply wpS_seq
  apply wpS_region
  simp [wpOpsS, go_sem, recoverD, hu, Tryd.ntmps23, Exit.thenS]
  apply wpS_seq
  apply wpS_region
  simp [wpOpsS, go_sem, Exit.thenS]
  refine wpS_cond (t := false) (by simp [Act.eval, Array.replicate]) ?_
  simp only [Bool.false_eq_true, if_false]
  refine wpS_of_wp (wp_skip ?_)
  cases c₀
  simp_all [bodyPostS, results, Tryd.results23]
theorem assert_errnoA (e : Int) (w : World) : (Instr.typeAssert (.iface 25 (.int .i64 e)) 20 25 false).run Tryd.prog w = .ok (.int .i64 e) w := by kernel_rfl
theorem eval1_panics (g : Nat) (a b e : Int) (t1 t2 : TypeId) (w : World)
    (ha : w.heap[g]? = some (.cells #[.int .i64 a] t1 (0, 0))) (hb : w.heap[g + 1]? = some (.cells #[.int .i64 b] t2 (0, 0))) :
    CallsD Tryd.prog 23 #[.pointer (some ⟨g, 0, none⟩), .pointer (some ⟨g + 1, 0, none⟩)] (.panicking [{ v := .iface 25 (.int .i64 e), recovered := false }]) w fun e' u' w' =>
      e' = .returned (.tuple #[]) ∧ u' = .panicking [{ v := .iface 25 (.int .i64 e), recovered := true }] ∧ w' = ((w.setCell ⟨g, 0, none⟩ (.int .i64 0)).setCell ⟨g + 1, 0, none⟩ (.int .i64 e)).drew := by
  have hca : w.cell? ⟨g, 0, none⟩ = some (.int .i64 a) := by simp [World.cell?, ha]
  have hfa : w.frozen? ⟨g, 0, none⟩ = false := by simp [World.frozen?, ha]
  have hcb : w.cell? ⟨g + 1, 0, none⟩ = some (.int .i64 b) := by simp [World.cell?, hb]
  have hfb : w.frozen? ⟨g + 1, 0, none⟩ = false := by simp [World.frozen?, hb]
  have hta := assert_errnoA e
  refine callsD_of_wpS Tryd.func23 rfl fun c₀ cs hu => ?_
  apply wpS_seq
  apply wpS_region
  simp [wpOpsS, go_sem, recoverD, hu, Tryd.ntmps23, Exit.thenS]
  apply wpS_seq
  apply wpS_region
  simp [wpOpsS, go_sem, Exit.thenS]
  refine wpS_cond (t := true) (by simp [Act.eval, Array.replicate]) ?_
  simp only [if_true]
  refine wpS_of_wp ?_
  go_region_law (fail)
  all_goals
    simp [bodyPostS, results, Tryd.results23]

theorem two_newA (w : World) (A B : Obj) : ((w.alloc A).alloc B).heap[w.heap.size]? = some A ∧ ((w.alloc A).alloc B).heap[w.heap.size + 1]? = some B ∧ ((w.alloc A).alloc B).heap.size = w.heap.size + 2 ∧ Below w.heap.size w ((w.alloc A).alloc B) := by
  refine ⟨?_, ?_, by simp, ((Below.refl _ w).alloc (Nat.le_refl _) _).alloc (by simp) _⟩
  · rw [Below.heap_alloc _ _ _ (by simp)]; exact heap_alloc_new _ _
  · rw [show w.heap.size + 1 = (w.alloc A).heap.size by simp]; exact heap_alloc_new _ _
theorem cell_oneA {w : World} {g : Nat} {v : Value} {t : TypeId} (h : w.heap[g]? = some (.cells #[v] t (0, 0))) : w.cell? ⟨g, 0, none⟩ = some v ∧ w.frozen? ⟨g, 0, none⟩ = false := by
  constructor <;> simp [World.cell?, World.frozen?, h]
theorem fresh_rk (l : List UInt8) (vv : Value) (i : Bool) (w : World) : Rk w.heap.size l vv 0 i (w.alloc (.cells #[.string ⟨l.toArray⟩, vv, .int .i64 0, .bool i] 48)) := heap_alloc_new w _

/-- The world in which Eval's first reckoner stands. -/
def evW (S : ByteArray) (w : World) : World := ((w.alloc (.cells #[.int .i64 0] 2)).alloc (.cells #[.int .i64 0] 25)).alloc (.cells #[.string S, .slice none 0 0, .int .i64 0, .bool true] 48)
theorem evW_facts (S : ByteArray) (w w1 : World) (hb : Below (w.heap.size + 1 + 1) (evW S w) w1) :
    w1.heap[w.heap.size]? = some (.cells #[.int .i64 0] 2 (0, 0)) ∧ w1.heap[w.heap.size + 1]? = some (.cells #[.int .i64 0] 25 (0, 0)) ∧ Below w.heap.size w w1 ∧ w.heap.size + 3 ≤ w1.heap.size := by
  obtain ⟨T1, T2, T3, T4⟩ := two_newA w (.cells #[.int .i64 0] 2) (.cells #[.int .i64 0] 25)
  have b1 : Below (w.heap.size + 1 + 1) ((w.alloc (.cells #[.int .i64 0] 2)).alloc (.cells #[.int .i64 0] 25)) (evW S w) := (Below.refl _ _).alloc (by rw [T3]; omega) _
  have b2 := b1.trans hb
  have hz : (evW S w).heap.size = w.heap.size + 3 := by unfold evW; simp
  refine ⟨(b2.block _ (by omega)).trans T1, (b2.block _ (by omega)).trans T2, T4.trans (b2.mono (by omega)), ?_⟩
  rw [← hz]
  exact hb.size
theorem eval_shut {w W1 : World} {a b : Nat} {u v : Value} (h : Below w.heap.size w W1) (ha : w.heap.size ≤ a) (hb : w.heap.size ≤ b) : Below w.heap.size w ((W1.setCell ⟨a, 0, none⟩ u).setCell ⟨b, 0, none⟩ v) := (h.setCell (p := ⟨a, 0, none⟩) ha _).setCell (p := ⟨b, 0, none⟩) hb _
set_option maxHeartbeats 2000000 in
set_option maxRecDepth 20000 in
theorem evalA_bad (S : ByteArray) (vv : Value) (x : Int) (w : World)
    (k1 : Calls Tryd.prog 24 #[.pointer (some ⟨w.heap.size + 1 + 1, 0, none⟩)] (evW S w) fun e w' => e = errA x ∧ Below (w.heap.size + 1 + 1) (evW S w) w') :
    Calls Tryd.prog 13 #[.string S, vv] w fun e w' => e = .returned (.tuple #[.int .i64 0, .int .i64 x]) ∧ Below w.heap.size w w' := by
  have hmf : ∀ (fn : Fn) (first cap : Array Value) (w : World), (Instr.makeFunc fn first cap).run Tryd.prog w = .ok (.func fn first cap) w := fun _ _ _ _ => rfl
  have FA := Lib.hid (evW_facts S w)
  unfold errA at k1
  unfold evW at k1 FA
  go_enter_defers Tryd.func13, Tryd.ntmps13
  go_wp2_with (go_at_call 24; (with_reducible refine k1.mono ?_); rintro e w1 ⟨rfl, hb1⟩; obtain ⟨c1, c2, c7, c8⟩ := FA.out w1 hb1; obtain ⟨c3, c4⟩ := cell_oneA c1; obtain ⟨c5, c6⟩ := cell_oneA c2)
  refine leaves_cons (f := 23) (args := #[.pointer (some ⟨w.heap.size, 0, none⟩), .pointer (some ⟨w.heap.size + 1, 0, none⟩)]) (by simp) (by simp [go_sem]) ?_
  refine (eval1_panics w.heap.size 0 0 x _ _ _ c1 c2).mono ?_
  rintro e u' w'' ⟨rfl, rfl, rfl⟩
  simp [Leaves, settle, results, Tryd.results13, go_sem, c3, c5]
  exact (eval_shut c7 (Nat.le_refl _) (by omega)).drew
set_option maxHeartbeats 2000000 in
set_option maxRecDepth 20000 in
theorem evalA_no (S : ByteArray) (ao : Option Addr) (N cap : Nat) (x : Int) (w : World)
    (k1 : Calls Tryd.prog 24 #[.pointer (some ⟨w.heap.size + 1 + 1, 0, none⟩)] (evW S w) fun e w' => (∃ n, e = .returned (.int .i64 n)) ∧ Below (w.heap.size + 1 + 1) (evW S w) w')
    (k2 : ∀ w1 : World, Below w.heap.size w w1 → w.heap.size + 3 ≤ w1.heap.size → Calls Tryd.prog 24 #[.pointer (some ⟨w1.heap.size, 0, none⟩)] (w1.alloc (.cells #[.string S, .slice ao N cap, .int .i64 0, .bool false] 48)) fun e w' => e = errA x ∧ Below w1.heap.size (w1.alloc (.cells #[.string S, .slice ao N cap, .int .i64 0, .bool false] 48)) w') :
    Calls Tryd.prog 13 #[.string S, .slice ao N cap] w fun e w' => e = .returned (.tuple #[.int .i64 0, .int .i64 x]) ∧ Below w.heap.size w w' := by
  have hmf : ∀ (fn : Fn) (first cap : Array Value) (w : World), (Instr.makeFunc fn first cap).run Tryd.prog w = .ok (.func fn first cap) w := fun _ _ _ _ => rfl
  have FA := Lib.hid (evW_facts S w)
  unfold errA at k2
  unfold evW at k1 FA
  have K2 := Lib.hid k2
  clear k2
  go_enter_defers Tryd.func13, Tryd.ntmps13
  go_wp2_with (first
    | (go_at_call 24; (with_reducible refine k1.mono ?_); rintro e w1 ⟨⟨n, rfl⟩, hb1⟩; have F := FA.out w1 hb1; have k3 := K2.out w1 F.2.2.1 F.2.2.2; have FF := Lib.hid F; clear F hb1 k1)
    | (go_at_call 24; (with_reducible refine k3.mono ?_); rintro e w2 ⟨rfl, hb2⟩))
  obtain ⟨g1, g2, g3, g4⟩ := FF.out
  have hb3 : Below w1.heap.size w1 w2 := ((Below.refl _ w1).alloc (Nat.le_refl _) _).trans hb2
  have c1 := (hb3.block _ (by omega : w.heap.size < w1.heap.size)).trans g1
  have c2 := (hb3.block _ (by omega : w.heap.size + 1 < w1.heap.size)).trans g2
  obtain ⟨c3, c4⟩ := cell_oneA c1
  obtain ⟨c5, c6⟩ := cell_oneA c2
  have c7 : Below w.heap.size w w2 := g3.trans (hb3.mono (by omega))
  refine leaves_cons (f := 23) (args := #[.pointer (some ⟨w.heap.size, 0, none⟩), .pointer (some ⟨w.heap.size + 1, 0, none⟩)]) (by simp) (by simp [go_sem]) ?_
  refine (eval1_panics w.heap.size 0 0 x _ _ _ c1 c2).mono ?_
  rintro e u' w'' ⟨rfl, rfl, rfl⟩
  simp [Leaves, settle, results, Tryd.results13, go_sem, c3, c5]
  exact (eval_shut c7 (Nat.le_refl _) (by omega)).drew
set_option maxHeartbeats 2000000 in
set_option maxRecDepth 20000 in
theorem evalA_is (S : ByteArray) (ao : Option Addr) (N cap : Nat) (m : Int) (w : World)
    (k1 : Calls Tryd.prog 24 #[.pointer (some ⟨w.heap.size + 1 + 1, 0, none⟩)] (evW S w) fun e w' => (∃ n, e = .returned (.int .i64 n)) ∧ Below (w.heap.size + 1 + 1) (evW S w) w')
    (k2 : ∀ w1 : World, Below w.heap.size w w1 → w.heap.size + 3 ≤ w1.heap.size → Calls Tryd.prog 24 #[.pointer (some ⟨w1.heap.size, 0, none⟩)] (w1.alloc (.cells #[.string S, .slice ao N cap, .int .i64 0, .bool false] 48)) fun e w' => e = .returned (.int .i64 m) ∧ Below w1.heap.size (w1.alloc (.cells #[.string S, .slice ao N cap, .int .i64 0, .bool false] 48)) w') :
    Calls Tryd.prog 13 #[.string S, .slice ao N cap] w fun e w' => e = .returned (.tuple #[.int .i64 m, .int .i64 0]) ∧ Below w.heap.size w w' := by
  have hmf : ∀ (fn : Fn) (first cap : Array Value) (w : World), (Instr.makeFunc fn first cap).run Tryd.prog w = .ok (.func fn first cap) w := fun _ _ _ _ => rfl
  have FA := Lib.hid (evW_facts S w)
  unfold evW at k1 FA
  have K2 := Lib.hid k2
  clear k2
  have THEN : Hid (∀ w1 w2 : World, (w1.heap[w.heap.size]? = some (.cells #[.int .i64 0] 2 (0, 0)) ∧ w1.heap[w.heap.size + 1]? = some (.cells #[.int .i64 0] 25 (0, 0)) ∧ Below w.heap.size w w1 ∧ w.heap.size + 3 ≤ w1.heap.size) → Below w1.heap.size (w1.alloc (.cells #[.string S, .slice ao N cap, .int .i64 0, .bool false] 48)) w2 → w2.heap[w.heap.size]? = some (.cells #[.int .i64 0] 2 (0, 0)) ∧ w2.heap[w.heap.size + 1]? = some (.cells #[.int .i64 0] 25 (0, 0)) ∧ Below w.heap.size w w2) := by
    show ∀ w1 w2 : World, (w1.heap[w.heap.size]? = some (.cells #[.int .i64 0] 2 (0, 0)) ∧ w1.heap[w.heap.size + 1]? = some (.cells #[.int .i64 0] 25 (0, 0)) ∧ Below w.heap.size w w1 ∧ w.heap.size + 3 ≤ w1.heap.size) → Below w1.heap.size (w1.alloc (.cells #[.string S, .slice ao N cap, .int .i64 0, .bool false] 48)) w2 → w2.heap[w.heap.size]? = some (.cells #[.int .i64 0] 2 (0, 0)) ∧ w2.heap[w.heap.size + 1]? = some (.cells #[.int .i64 0] 25 (0, 0)) ∧ Below w.heap.size w w2
    rintro w1 w2 ⟨g1, g2, g3, g4⟩ hb2
    have hb3 : Below w1.heap.size w1 w2 := ((Below.refl _ w1).alloc (Nat.le_refl _) _).trans hb2
    exact ⟨(hb3.block _ (by omega : w.heap.size < w1.heap.size)).trans g1, (hb3.block _ (by omega : w.heap.size + 1 < w1.heap.size)).trans g2, g3.trans (hb3.mono (by omega))⟩
  go_enter_defers Tryd.func13, Tryd.ntmps13
  go_wp2_with (first
    | (go_at_call 24; (with_reducible refine k1.mono ?_); rintro e w1 ⟨⟨n, rfl⟩, hb1⟩; have F := FA.out w1 hb1; have k3 := K2.out w1 F.2.2.1 F.2.2.2; have FF := Lib.hid F; clear F hb1 k1)
    | (go_at_call 24; (with_reducible refine k3.mono ?_); rintro e w2 ⟨rfl, hb2⟩; obtain ⟨c1, c2, c7⟩ := THEN.out w1 w2 FF.out hb2; obtain ⟨c3, c4⟩ := cell_oneA c1; obtain ⟨c5, c6⟩ := cell_oneA c2))
  refine leaves_cons (f := 23) (args := #[.pointer (some ⟨w.heap.size, 0, none⟩), .pointer (some ⟨w.heap.size + 1, 0, none⟩)]) (by simp) (by simp [go_sem]) ?_
  refine (eval1_idle ⟨w.heap.size, 0, none⟩ ⟨w.heap.size + 1, 0, none⟩ _).mono ?_
  rintro e u' w'' ⟨rfl, rfl, rfl⟩
  simp [Leaves, settle, results, Tryd.results13, go_sem, c3, c5]
  exact eval_shut c7 (Nat.le_refl _) (by omega)

/-- What Eval answers. -/
def evE (r : Int × Int) : Ending := .returned (.tuple #[.int .i64 r.1, .int .i64 r.2])
theorem evalA_any (l : List UInt8) (vv : Value) (vs : List Vr) (w : World) (hM : Marks w.heap.size w) (hV : Vars w.heap.size vv vs w) (hl : l.length ≤ 70000000000000) (hr : risesA vs = true) (hs : ∀ x ∈ vs, x.v.size ≤ 70000000000000) :
    Calls Tryd.prog 13 #[.string ⟨l.toArray⟩, vv] w fun e w' => e = evE (evalA vs l) ∧ Below w.heap.size w w' := by
  obtain ⟨ao, cap, hvv, _⟩ := id hV
  obtain ⟨N, hN⟩ : ∃ N, N = vs.length := ⟨_, rfl⟩
  rw [← hN] at hvv
  clear hN
  subst hvv
  have b0 : Below w.heap.size w (evW ⟨l.toArray⟩ w) := (((Below.refl _ w).alloc (Nat.le_refl _) _).alloc (by simp) _).alloc (by simp; omega) _
  have e1 : Rk (w.heap.size + 1 + 1) l (.slice none 0 0) 0 true (evW ⟨l.toArray⟩ w) := by
    have := fresh_rk l (.slice none 0 0) true ((w.alloc (.cells #[.int .i64 0] 2)).alloc (.cells #[.int .i64 0] 25))
    simpa [evW] using this
  have k1 := wholeA_any (w.heap.size + 1 + 1) l (.slice none 0 0) [] true (evW ⟨l.toArray⟩ w) e1 ⟨(hM.below b0).mono (by omega), Vars.nil _ _⟩ hl rfl (fun x hx => by cases hx) (.inl rfl)
  have k2 : ∀ w1 : World, Below w.heap.size w w1 → Good false (readA l) → Calls Tryd.prog 24 #[.pointer (some ⟨w1.heap.size, 0, none⟩)] (w1.alloc (.cells #[.string ⟨l.toArray⟩, .slice ao N cap, .int .i64 0, .bool false] 48)) (AnsA w1.heap.size (.slice ao N cap) 0 false (valA vs) (w1.alloc (.cells #[.string ⟨l.toArray⟩, .slice ao N cap, .int .i64 0, .bool false] 48)) (readA l)) := fun w1 hb hG => by
    have b1 : Below w.heap.size w (w1.alloc (.cells #[.string ⟨l.toArray⟩, .slice ao N cap, .int .i64 0, .bool false] 48)) := hb.alloc hb.size _
    exact wholeA_any w1.heap.size l (.slice ao N cap) vs false _ (fresh_rk l (.slice ao N cap) false w1) ⟨(hM.below b1).mono hb.size, (hV.below b1).mono hb.size⟩ hl hr hs hG
  cases hR : readA l with
  | bad x =>
    rw [hR] at k1
    rw [show evalA vs l = (0, x) by unfold evalA; rw [hR]]
    refine evalA_bad _ (.slice ao N cap) x w (k1.mono ?_)
    rintro e w' ⟨h1, hb⟩
    exact ⟨h1, hb⟩
  | ok ex r =>
    rw [hR] at k1 k2
    have k1' : Calls Tryd.prog 24 #[.pointer (some ⟨w.heap.size + 1 + 1, 0, none⟩)] (evW ⟨l.toArray⟩ w) fun e w' => (∃ n, e = .returned (.int .i64 n)) ∧ Below (w.heap.size + 1 + 1) (evW ⟨l.toArray⟩ w) w' := by
      refine k1.mono ?_
      rintro e w' ⟨h1, hb⟩
      have h1 : (if true = true then ∃ n, e = .returned (.int .i64 n) ∧ Rk (w.heap.size + 1 + 1) r (.slice none 0 0) 0 true w' else match ev (valA []) ex with | .is n => e = .returned (.int .i64 n) ∧ Rk (w.heap.size + 1 + 1) r (.slice none 0 0) 0 true w' | .no x => e = errA x) := h1
      rw [if_pos rfl] at h1
      obtain ⟨n, h1, _⟩ := h1
      exact ⟨⟨n, h1⟩, hb⟩
    cases hv : ev (valA vs) ex with
    | is n =>
      rw [show evalA vs l = (n, 0) by unfold evalA; rw [hR]; simp only []; rw [hv]]
      refine evalA_is _ ao N cap n w k1' fun w1 hb _ => (k2 w1 hb (.inr ⟨_, _, rfl⟩)).mono ?_
      rintro e w' ⟨h1, hb⟩
      have h1 : (if false = true then ∃ n, e = .returned (.int .i64 n) ∧ Rk w1.heap.size r (.slice ao N cap) 0 false w' else match ev (valA vs) ex with | .is n => e = .returned (.int .i64 n) ∧ Rk w1.heap.size r (.slice ao N cap) 0 false w' | .no x => e = errA x) := h1
      rw [if_neg (by simp), hv] at h1
      exact ⟨h1.1, hb⟩
    | no x =>
      rw [show evalA vs l = (0, x) by unfold evalA; rw [hR]; simp only []; rw [hv]]
      refine evalA_no _ ao N cap x w k1' fun w1 hb _ => (k2 w1 hb (.inr ⟨_, _, rfl⟩)).mono ?_
      rintro e w' ⟨h1, hb⟩
      have h1 : (if false = true then ∃ n, e = .returned (.int .i64 n) ∧ Rk w1.heap.size r (.slice ao N cap) 0 false w' else match ev (valA vs) ex with | .is n => e = .returned (.int .i64 n) ∧ Rk w1.heap.size r (.slice ao N cap) 0 false w' | .no x => e = errA x) := h1
      rw [if_neg (by simp), hv] at h1
      exact ⟨h1, hb⟩
end Go.Proofs.YtaaecgglocgcmaaDoor
namespace Go.Proofs.YtaaecgglocgcmaaDoor
open Go.RowKit Go.Lib

theorem Vars.row {w : World} {g : Nat} {T : TypeId} {B : Nat} {xs : List Value} {vs : List Vr} {cap : Nat} (h : w.heap[g]? = some (.cells ⟨xs⟩ T (0, 0))) (hg : g < B) (hx : ∀ j x, vs[j]? = some x → xs[j * 2]? = some (.string x.n) ∧ xs[j * 2 + 1]? = some (.string x.v)) (hl : vs.length ≤ 140737488355328) (hc : vs.length ≤ cap) : Vars B (.slice (some ⟨g, 0, none⟩) vs.length cap) vs w := by
  refine ⟨_, cap, rfl, hc, hl, fun j x hj => ⟨g, 0, rfl, hg, ?_, ?_⟩⟩
  · rw [cell_of_heap h, Nat.zero_add]
    simpa using (hx j x hj).1
  · rw [cell_of_heap h, Nat.zero_add]
    simpa using (hx j x hj).2
def vX : Vr := ⟨⟨#[120]⟩, ⟨#[52]⟩⟩
theorem ex_one : evalA [vX] [50, 32, 43, 32, 51, 32, 42, 32, 120] = (14, 0) := by decide +kernel
theorem ex_two : evalA [] [49, 32, 124, 124, 32, 49, 32, 47, 32, 48] = (1, 0) := by decide +kernel
set_option maxHeartbeats 1000000 in
set_option maxRecDepth 20000 in
theorem shownA_any (w : World) (hM : Marks w.heap.size w) :
    Calls Tryd.prog 11 #[] w fun e w' => e = .returned (.bool true) ∧ Below w.heap.size w w' := by
  have k1 : ∀ w1 : World, Below w.heap.size w w1 → w1.heap[w.heap.size]? = some (.cells #[.string ⟨#[120]⟩, .string ⟨#[52]⟩] 39 (0, 0)) → w.heap.size < w1.heap.size → Calls Tryd.prog 13 #[.string ⟨#[50, 32, 43, 32, 51, 32, 42, 32, 120]⟩, .slice (some ⟨w.heap.size, 0, none⟩) 1 1] w1 fun e w' => e = .returned (.tuple #[.int .i64 14, .int .i64 0]) ∧ Below w1.heap.size w1 w' := fun w1 hb hh hlt => by
    have := evalA_any [50, 32, 43, 32, 51, 32, 42, 32, 120] (.slice (some ⟨w.heap.size, 0, none⟩) 1 1) [vX] w1 ((hM.below hb).mono hb.size) (Vars.row (vs := [vX]) (cap := 1) hh hlt (fun j x hj => by
      cases j with
      | zero => simp at hj; subst hj; exact ⟨rfl, rfl⟩
      | succ j => simp at hj) (by decide) (Nat.le_refl _)) (by decide) rfl (fun x hx => by simp at hx; subst hx; decide)
    rw [ex_one] at this
    exact this
  have k2 : ∀ w1 : World, Below w.heap.size w w1 → Calls Tryd.prog 13 #[.string ⟨#[49, 32, 124, 124, 32, 49, 32, 47, 32, 48]⟩, .slice none 0 0] w1 fun e w' => e = .returned (.tuple #[.int .i64 1, .int .i64 0]) ∧ Below w1.heap.size w1 w' := fun w1 hb => by
    have := evalA_any [49, 32, 124, 124, 32, 49, 32, 47, 32, 48] (.slice none 0 0) [] w1 ((hM.below hb).mono hb.size) (Vars.nil _ _) (by decide) rfl (fun x hx => by cases hx)
    rw [ex_two] at this
    exact this
  have hb1 : Below w.heap.size w (w.alloc (.cells #[.string ⟨#[120]⟩, .string ⟨#[52]⟩] 39)) := (Below.refl _ w).alloc (Nat.le_refl _) _
  have k3 := k1 _ hb1 (heap_alloc_new w _) (by simp)
  have HB := Lib.hid hb1
  have K2 := Lib.hid k2
  clear k1 k2 hb1
  go_enter Tryd.func11, Tryd.ntmps11
  go_wp2_with (first
    | (go_at_call 13; (with_reducible refine k3.mono ?_); rintro e w1 ⟨rfl, hb1⟩; have HB1 := Lib.hid (HB.out.trans (hb1.mono HB.out.size)); have k4 := K2.out w1 HB1.out; clear hb1 k3)
    | (go_at_call 13; (with_reducible refine k4.mono ?_); rintro e w2 ⟨rfl, hb2⟩; have HB2 := Lib.hid (HB1.out.trans (hb2.mono HB1.out.size)); clear hb2))
  go_ret
  exact ⟨rfl, HB2.out⟩
end Go.Proofs.YtaaecgglocgcmaaDoor
