/- Packed texts: ArEval, ArShown, ArFig, ArTwo, ArFrame, HexNameRef. What each of them proves stands above its theorems; the conditions stand in these. -/
import Derived.Deep.RegionLaw
import Derived.Defers
import Derived.Laws.Pointers
import Derived.Lib.ItoaNum
import Derived.Recover
import Derived.Shelf.Abstract
import Derived.Test.YtaaecgglocgcmaaDoorA0
import Derived.Test.YtaaecgglocgcmaaDoorA1
import Derived.Test.YtaaecgglocgcmaaDoorA2
namespace Go.Proofs.YtaaecgglocgcmaaDoor
open Go.RowKit Go.Lib

theorem whole_why {i : Bool} {V : List UInt8 → Cm} {R : Pr} {x : Int} (hG : Good i R.whole) (h : Why i V R x) : Why i V R.whole x := by
  rcases h with rfl | ⟨hi, ex, l, rfl, he⟩
  · exact .inl rfl
  · rcases hG with h | ⟨ex', l', h⟩
    · rw [hi] at h; cases h
    · have h0 : (if l = [] then Pr.ok ex [] else Pr.bad 9) = .ok ex' l' := h
      split at h0
      · cases h0
        exact .inr ⟨hi, _, _, h, he⟩
      · cases h0
theorem good_whole {i : Bool} {R : Pr} (h : Good i R.whole) : Good i R := by
  rcases h with h | ⟨ex, l, h⟩
  · exact .inl h
  · cases R with
    | bad x => cases h
    | ok e l => exact .inr ⟨e, l, rfl⟩
set_option maxHeartbeats 1000000 in
set_option maxRecDepth 20000 in
theorem whole_walk (p : Nat) (l : List UInt8) (vv : Value) (vs : List Vr) (d : Nat) (i : Bool) (V : List UInt8 → Cm) (R : Pr) (w : World) (h : Rk p l vv d i w) (hE : EnvA p vv vs w) (hG : Good i R.whole)
    (kr : ∀ w, (Rk p l vv d i w ∧ EnvA p vv vs w) → Calls Tryd.prog 31 #[.pointer (some ⟨p, 0, none⟩), .int .i64 0] w (AnsA p vv d i V w R)) :
    Calls Tryd.prog 24 #[.pointer (some ⟨p, 0, none⟩)] w (AnsA p vv d i V w R.whole) := by
  rcases split_ans kr with ⟨x, hw, k⟩ | ⟨ex, l', rfl, k⟩
  · have k2 := k _ ⟨h, hE⟩
    have W := Lib.hid (whole_why hG hw)
    clear h hE hw kr k hG
    unfold errA at k2
    go_enter Tryd.func24, Tryd.ntmps24
    go_wp2_with (go_at_call 31; (with_reducible refine k2.mono ?_); rintro e w1 ⟨rfl, hb2⟩)
    exact ⟨rfl, AnsA.why W.out hb2⟩
  · have k2 := k _ ⟨h, hE⟩
    unfold Well at k2
    clear h hE kr k hG
    have CEL := Lib.hid (fun (w1 : World) (h1 : Rk p l' vv d i w1) => h1.cells.1)
    have hc : (Pr.ok ex l').whole = if l' = [] then .ok ex [] else .bad 9 := rfl
    rw [hc]
    clear hc
    cases l' with
    | nil =>
      rw [if_pos rfl]
      have hemp := empty_listA
      have hemp2 : (⟨([] : List UInt8).toArray⟩ : ByteArray).toList = [] := by rw [ByteArray.toList_eq]
      generalize (⟨([] : List UInt8).toArray⟩ : ByteArray) = S at hemp hemp2 CEL
      go_enter Tryd.func24, Tryd.ntmps24
      go_wp2_with (go_at_call 31; (with_reducible refine k2.mono ?_); rintro e w1 ⟨⟨n, hev, rfl, h2⟩, hb2⟩; have d0 := CEL.out w1 h2; have HEV := Lib.hid hev; have H2 := Lib.hid h2; have HB2 := Lib.hid hb2; clear hev h2 hb2)
      refine bodyPost_ret (results_tmp rfl _ _ _) rfl ?_
      exact AnsA.both (fun hi => HEV.out hi) H2.out HB2.out
    | cons c r =>
      rw [if_neg (by simp)]
      have hemp := full_listA c r
      generalize (⟨(c :: r : List UInt8).toArray⟩ : ByteArray) = S at hemp CEL
      go_enter Tryd.func24, Tryd.ntmps24
      go_wp2_with (go_at_call 31; (with_reducible refine k2.mono ?_); rintro e w1 ⟨⟨n, hev, rfl, h2⟩, hb2⟩; have d0 := CEL.out w1 h2; have HEV := Lib.hid hev; have H2 := Lib.hid h2; have HB2 := Lib.hid hb2; clear hev h2 hb2)
      exact ⟨rfl, AnsA.bad HB2.out⟩
theorem wholeA_any (p : Nat) (l : List UInt8) (vv : Value) (vs : List Vr) (i : Bool) (w : World) (h : Rk p l vv 0 i w) (hE : EnvA p vv vs w) (hl : l.length ≤ 70000000000000) (hr : risesA vs = true) (hs : ∀ x ∈ vs, x.v.size ≤ 70000000000000) (hG : Good i (readA l)) :
    Calls Tryd.prog 24 #[.pointer (some ⟨p, 0, none⟩)] w (AnsA p vv 0 i (valA vs) w (readA l)) :=
  whole_walk p l vv vs 0 i (valA vs) _ w h hE hG fun w hw => (row_all p vv vs hr hs (8 * l.length + 8)).1 0 0 l i w (Nat.zero_le _) (Nat.zero_le _) hl (readA_fuel l) (good_whole hG) hw.1 hw.2

theorem eval1_idle (p q : Addr) (w : World) :
    CallsD Tryd.prog 23 #[.pointer (some p), .pointer (some q)] .returning w fun e u' w' => e = .returned (.tuple #[]) ∧ u' = .returning ∧ w' = w := by
  refine callsD_of_wpS Tryd.func23 rfl fun c₀ cs hu => ?_
  apply wpS_seq
  apply wpS_region
  simp [wpOpsS, go_sem, recoverD, hu, Tryd.ntmps23, Exit.thenS]
  apply wpS_seq
  apply wpS_region
  simp [wpOpsS, go_sem, Exit.thenS]
  refine wpS_cond (t := false) (by simp [Act.eval, Array.replicate]) ?_
  simp only [Bool.false_eq_true, if_false]
  refine wpS_of_wp (wp_skip ?_)
  cases c₀
  simp_all [bodyPostS, results, Tryd.results23]
theorem assert_errnoA (e : Int) (w : World) : (Instr.typeAssert (.iface 25 (.int .i64 e)) 20 25 false).run Tryd.prog w = .ok (.int .i64 e) w := by kernel_rfl
theorem eval1_panics (g : Nat) (a b e : Int) (t1 t2 : TypeId) (w : World)
    (ha : w.heap[g]? = some (.cells #[.int .i64 a] t1 (0, 0))) (hb : w.heap[g + 1]? = some (.cells #[.int .i64 b] t2 (0, 0))) :
    CallsD Tryd.prog 23 #[.pointer (some ⟨g, 0, none⟩), .pointer (some ⟨g + 1, 0, none⟩)] (.panicking [{ v := .iface 25 (.int .i64 e), recovered := false }]) w fun e' u' w' =>
      e' = .returned (.tuple #[]) ∧ u' = .panicking [{ v := .iface 25 (.int .i64 e), recovered := true }] ∧ w' = ((w.setCell ⟨g, 0, none⟩ (.int .i64 0)).setCell ⟨g + 1, 0, none⟩ (.int .i64 e)).drew := by
  have hca : w.cell? ⟨g, 0, none⟩ = some (.int .i64 a) := by simp [World.cell?, ha]
  have hfa : w.frozen? ⟨g, 0, none⟩ = false := by simp [World.frozen?, ha]
  have hcb : w.cell? ⟨g + 1, 0, none⟩ = some (.int .i64 b) := by simp [World.cell?, hb]
  have hfb : w.frozen? ⟨g + 1, 0, none⟩ = false := by simp [World.frozen?, hb]
  have hta := assert_errnoA e
  refine callsD_of_wpS Tryd.func23 rfl fun c₀ cs hu => ?_
  apply wpS_seq
  apply wpS_region
  simp [wpOpsS, go_sem, recoverD, hu, Tryd.ntmps23, Exit.thenS]
  apply wpS_seq
  apply wpS_region
  simp [wpOpsS, go_sem, Exit.thenS]
  refine wpS_cond (t := true) (by simp [Act.eval, Array.replicate]) ?_
  simp only [if_true]
  refine wpS_of_wp ?_
  go_region_law (fail)
  all_goals
    simp [bodyPostS, results, Tryd.results23]

theorem two_newA (w : World) (A B : Obj) : ((w.alloc A).alloc B).heap[w.heap.size]? = some A ∧ ((w.alloc A).alloc B).heap[w.heap.size + 1]? = some B ∧ ((w.alloc A).alloc B).heap.size = w.heap.size + 2 ∧ Below w.heap.size w ((w.alloc A).alloc B) := by
  refine ⟨?_, ?_, by simp, ((Below.refl _ w).alloc (Nat.le_refl _) _).alloc (by simp) _⟩
  · rw [Below.heap_alloc _ _ _ (by simp)]; exact heap_alloc_new _ _
  · rw [show w.heap.size + 1 = (w.alloc A).heap.size by simp]; exact heap_alloc_new _ _
theorem cell_oneA {w : World} {g : Nat} {v : Value} {t : TypeId} (h : w.heap[g]? = some (.cells #[v] t (0, 0))) : w.cell? ⟨g, 0, none⟩ = some v ∧ w.frozen? ⟨g, 0, none⟩ = false := by
  constructor <;> simp [World.cell?, World.frozen?, h]
theorem fresh_rk (l : List UInt8) (vv : Value) (i : Bool) (w : World) : Rk w.heap.size l vv 0 i (w.alloc (.cells #[.string ⟨l.toArray⟩, vv, .int .i64 0, .bool i] 48)) := heap_alloc_new w _

/-- The world in which Eval's first reckoner stands. -/
def evW (S : ByteArray) (w : World) : World := ((w.alloc (.cells #[.int .i64 0] 2)).alloc (.cells #[.int .i64 0] 25)).alloc (.cells #[.string S, .slice none 0 0, .int .i64 0, .bool true] 48)
theorem evW_facts (S : ByteArray) (w w1 : World) (hb : Below (w.heap.size + 1 + 1) (evW S w) w1) :
    w1.heap[w.heap.size]? = some (.cells #[.int .i64 0] 2 (0, 0)) ∧ w1.heap[w.heap.size + 1]? = some (.cells #[.int .i64 0] 25 (0, 0)) ∧ Below w.heap.size w w1 ∧ w.heap.size + 3 ≤ w1.heap.size := by
  obtain ⟨T1, T2, T3, T4⟩ := two_newA w (.cells #[.int .i64 0] 2) (.cells #[.int .i64 0] 25)
  have b1 : Below (w.heap.size + 1 + 1) ((w.alloc (.cells #[.int .i64 0] 2)).alloc (.cells #[.int .i64 0] 25)) (evW S w) := (Below.refl _ _).alloc (by rw [T3]; omega) _
  have b2 := b1.trans hb
  have hz : (evW S w).heap.size = w.heap.size + 3 := by unfold evW; simp
  refine ⟨(b2.block _ (by omega)).trans T1, (b2.block _ (by omega)).trans T2, T4.trans (b2.mono (by omega)), ?_⟩
  rw [← hz]
  exact hb.size
theorem eval_shut {w W1 : World} {a b : Nat} {u v : Value} (h : Below w.heap.size w W1) (ha : w.heap.size ≤ a) (hb : w.heap.size ≤ b) : Below w.heap.size w ((W1.setCell ⟨a, 0, none⟩ u).setCell ⟨b, 0, none⟩ v) := (h.setCell (p := ⟨a, 0, none⟩) ha _).setCell (p := ⟨b, 0, none⟩) hb _
set_option maxHeartbeats 2000000 in
set_option maxRecDepth 20000 in
theorem evalA_bad (S : ByteArray) (vv : Value) (x : Int) (w : World)
    (k1 : Calls Tryd.prog 24 #[.pointer (some ⟨w.heap.size + 1 + 1, 0, none⟩)] (evW S w) fun e w' => e = errA x ∧ Below (w.heap.size + 1 + 1) (evW S w) w') :
    Calls Tryd.prog 13 #[.string S, vv] w fun e w' => e = .returned (.tuple #[.int .i64 0, .int .i64 x]) ∧ Below w.heap.size w w' := by
  have hmf : ∀ (fn : Fn) (first cap : Array Value) (w : World), (Instr.makeFunc fn first cap).run Tryd.prog w = .ok (.func fn first cap) w := fun _ _ _ _ => rfl
  have FA := Lib.hid (evW_facts S w)
  unfold errA at k1
  unfold evW at k1 FA
  go_enter_defers Tryd.func13, Tryd.ntmps13
  go_wp2_with (go_at_call 24; (with_reducible refine k1.mono ?_); rintro e w1 ⟨rfl, hb1⟩; obtain ⟨c1, c2, c7, c8⟩ := FA.out w1 hb1; obtain ⟨c3, c4⟩ := cell_oneA c1; obtain ⟨c5, c6⟩ := cell_oneA c2)
  refine leaves_cons (f := 23) (args := #[.pointer (some ⟨w.heap.size, 0, none⟩), .pointer (some ⟨w.heap.size + 1, 0, none⟩)]) (by simp) (by simp [go_sem]) ?_
  refine (eval1_panics w.heap.size 0 0 x _ _ _ c1 c2).mono ?_
  rintro e u' w'' ⟨rfl, rfl, rfl⟩
  simp [Leaves, settle, results, Tryd.results13, go_sem, c3, c5]
  exact (eval_shut c7 (Nat.le_refl _) (by omega)).drew
set_option maxHeartbeats 2000000 in
set_option maxRecDepth 20000 in
theorem evalA_no (S : ByteArray) (ao : Option Addr) (N cap : Nat) (x : Int) (w : World)
    (k1 : Calls Tryd.prog 24 #[.pointer (some ⟨w.heap.size + 1 + 1, 0, none⟩)] (evW S w) fun e w' => (∃ n, e = .returned (.int .i64 n)) ∧ Below (w.heap.size + 1 + 1) (evW S w) w')
    (k2 : ∀ w1 : World, Below w.heap.size w w1 → w.heap.size + 3 ≤ w1.heap.size → Calls Tryd.prog 24 #[.pointer (some ⟨w1.heap.size, 0, none⟩)] (w1.alloc (.cells #[.string S, .slice ao N cap, .int .i64 0, .bool false] 48)) fun e w' => e = errA x ∧ Below w1.heap.size (w1.alloc (.cells #[.string S, .slice ao N cap, .int .i64 0, .bool false] 48)) w') :
    Calls Tryd.prog 13 #[.string S, .slice ao N cap] w fun e w' => e = .returned (.tuple #[.int .i64 0, .int .i64 x]) ∧ Below w.heap.size w w' := by
  have hmf : ∀ (fn : Fn) (first cap : Array Value) (w : World), (Instr.makeFunc fn first cap).run Tryd.prog w = .ok (.func fn first cap) w := fun _ _ _ _ => rfl
  have FA := Lib.hid (evW_facts S w)
  unfold errA at k2
  unfold evW at k1 FA
  have K2 := Lib.hid k2
  clear k2
  go_enter_defers Tryd.func13, Tryd.ntmps13
  go_wp2_with (first
    | (go_at_call 24; (with_reducible refine k1.mono ?_); rintro e w1 ⟨⟨n, rfl⟩, hb1⟩; have F := FA.out w1 hb1; have k3 := K2.out w1 F.2.2.1 F.2.2.2; have FF := Lib.hid F; clear F hb1 k1)
    | (go_at_call 24; (with_reducible refine k3.mono ?_); rintro e w2 ⟨rfl, hb2⟩))
  obtain ⟨g1, g2, g3, g4⟩ := FF.out
  have hb3 : Below w1.heap.size w1 w2 := ((Below.refl _ w1).alloc (Nat.le_refl _) _).trans hb2
  have c1 := (hb3.block _ (by omega : w.heap.size < w1.heap.size)).trans g1
  have c2 := (hb3.block _ (by omega : w.heap.size + 1 < w1.heap.size)).trans g2
  obtain ⟨c3, c4⟩ := cell_oneA c1
  obtain ⟨c5, c6⟩ := cell_oneA c2
  have c7 : Below w.heap.size w w2 := g3.trans (hb3.mono (by omega))
  refine leaves_cons (f := 23) (args := #[.pointer (some ⟨w.heap.size, 0, none⟩), .pointer (some ⟨w.heap.size + 1, 0, none⟩)]) (by simp) (by simp [go_sem]) ?_
  refine (eval1_panics w.heap.size 0 0 x _ _ _ c1 c2).mono ?_
  rintro e u' w'' ⟨rfl, rfl, rfl⟩
  simp [Leaves, settle, results, Tryd.results13, go_sem, c3, c5]
  exact (eval_shut c7 (Nat.le_refl _) (by omega)).drew
set_option maxHeartbeats 2000000 in
set_option maxRecDepth 20000 in
theorem evalA_is (S : ByteArray) (ao : Option Addr) (N cap : Nat) (m : Int) (w : World)
    (k1 : Calls Tryd.prog 24 #[.pointer (some ⟨w.heap.size + 1 + 1, 0, none⟩)] (evW S w) fun e w' => (∃ n, e = .returned (.int .i64 n)) ∧ Below (w.heap.size + 1 + 1) (evW S w) w')
    (k2 : ∀ w1 : World, Below w.heap.size w w1 → w.heap.size + 3 ≤ w1.heap.size → Calls Tryd.prog 24 #[.pointer (some ⟨w1.heap.size, 0, none⟩)] (w1.alloc (.cells #[.string S, .slice ao N cap, .int .i64 0, .bool false] 48)) fun e w' => e = .returned (.int .i64 m) ∧ Below w1.heap.size (w1.alloc (.cells #[.string S, .slice ao N cap, .int .i64 0, .bool false] 48)) w') :
    Calls Tryd.prog 13 #[.string S, .slice ao N cap] w fun e w' => e = .returned (.tuple #[.int .i64 m, .int .i64 0]) ∧ Below w.heap.size w w' := by
  have hmf : ∀ (fn : Fn) (first cap : Array Value) (w : World), (Instr.makeFunc fn first cap).run Tryd.prog w = .ok (.func fn first cap) w := fun _ _ _ _ => rfl
  have FA := Lib.hid (evW_facts S w)
  unfold evW at k1 FA
  have K2 := Lib.hid k2
  clear k2
  have THEN : Hid (∀ w1 w2 : World, (w1.heap[w.heap.size]? = some (.cells #[.int .i64 0] 2 (0, 0)) ∧ w1.heap[w.heap.size + 1]? = some (.cells #[.int .i64 0] 25 (0, 0)) ∧ Below w.heap.size w w1 ∧ w.heap.size + 3 ≤ w1.heap.size) → Below w1.heap.size (w1.alloc (.cells #[.string S, .slice ao N cap, .int .i64 0, .bool false] 48)) w2 → w2.heap[w.heap.size]? = some (.cells #[.int .i64 0] 2 (0, 0)) ∧ w2.heap[w.heap.size + 1]? = some (.cells #[.int .i64 0] 25 (0, 0)) ∧ Below w.heap.size w w2) := by
    show ∀ w1 w2 : World, (w1.heap[w.heap.size]? = some (.cells #[.int .i64 0] 2 (0, 0)) ∧ w1.heap[w.heap.size + 1]? = some (.cells #[.int .i64 0] 25 (0, 0)) ∧ Below w.heap.size w w1 ∧ w.heap.size + 3 ≤ w1.heap.size) → Below w1.heap.size (w1.alloc (.cells #[.string S, .slice ao N cap, .int .i64 0, .bool false] 48)) w2 → w2.heap[w.heap.size]? = some (.cells #[.int .i64 0] 2 (0, 0)) ∧ w2.heap[w.heap.size + 1]? = some (.cells #[.int .i64 0] 25 (0, 0)) ∧ Below w.heap.size w w2
    rintro w1 w2 ⟨g1, g2, g3, g4⟩ hb2
    have hb3 : Below w1.heap.size w1 w2 := ((Below.refl _ w1).alloc (Nat.le_refl _) _).trans hb2
    exact ⟨(hb3.block _ (by omega : w.heap.size < w1.heap.size)).trans g1, (hb3.block _ (by omega : w.heap.size + 1 < w1.heap.size)).trans g2, g3.trans (hb3.mono (by omega))⟩
  go_enter_defers Tryd.func13, Tryd.ntmps13
  go_wp2_with (first
    | (go_at_call 24; (with_reducible refine k1.mono ?_); rintro e w1 ⟨⟨n, rfl⟩, hb1⟩; have F := FA.out w1 hb1; have k3 := K2.out w1 F.2.2.1 F.2.2.2; have FF := Lib.hid F; clear F hb1 k1)
    | (go_at_call 24; (with_reducible refine k3.mono ?_); rintro e w2 ⟨rfl, hb2⟩; obtain ⟨c1, c2, c7⟩ := THEN.out w1 w2 FF.out hb2; obtain ⟨c3, c4⟩ := cell_oneA c1; obtain ⟨c5, c6⟩ := cell_oneA c2))
  refine leaves_cons (f := 23) (args := #[.pointer (some ⟨w.heap.size, 0, none⟩), .pointer (some ⟨w.heap.size + 1, 0, none⟩)]) (by simp) (by simp [go_sem]) ?_
  refine (eval1_idle ⟨w.heap.size, 0, none⟩ ⟨w.heap.size + 1, 0, none⟩ _).mono ?_
  rintro e u' w'' ⟨rfl, rfl, rfl⟩
  simp [Leaves, settle, results, Tryd.results13, go_sem, c3, c5]
  exact eval_shut c7 (Nat.le_refl _) (by omega)

/-- What Eval answers. -/
def evE (r : Int × Int) : Ending := .returned (.tuple #[.int .i64 r.1, .int .i64 r.2])
theorem evalA_any (l : List UInt8) (vv : Value) (vs : List Vr) (w : World) (hM : Marks w.heap.size w) (hV : Vars w.heap.size vv vs w) (hl : l.length ≤ 70000000000000) (hr : risesA vs = true) (hs : ∀ x ∈ vs, x.v.size ≤ 70000000000000) :
    Calls Tryd.prog 13 #[.string ⟨l.toArray⟩, vv] w fun e w' => e = evE (evalA vs l) ∧ Below w.heap.size w w' := by
  obtain ⟨ao, cap, hvv, _⟩ := id hV
  obtain ⟨N, hN⟩ : ∃ N, N = vs.length := ⟨_, rfl⟩
  rw [← hN] at hvv
  clear hN
  subst hvv
  have b0 : Below w.heap.size w (evW ⟨l.toArray⟩ w) := (((Below.refl _ w).alloc (Nat.le_refl _) _).alloc (by simp) _).alloc (by simp; omega) _
  have e1 : Rk (w.heap.size + 1 + 1) l (.slice none 0 0) 0 true (evW ⟨l.toArray⟩ w) := by
    have := fresh_rk l (.slice none 0 0) true ((w.alloc (.cells #[.int .i64 0] 2)).alloc (.cells #[.int .i64 0] 25))
    simpa [evW] using this
  have k1 := wholeA_any (w.heap.size + 1 + 1) l (.slice none 0 0) [] true (evW ⟨l.toArray⟩ w) e1 ⟨(hM.below b0).mono (by omega), Vars.nil _ _⟩ hl rfl (fun x hx => by cases hx) (.inl rfl)
  have k2 : ∀ w1 : World, Below w.heap.size w w1 → Good false (readA l) → Calls Tryd.prog 24 #[.pointer (some ⟨w1.heap.size, 0, none⟩)] (w1.alloc (.cells #[.string ⟨l.toArray⟩, .slice ao N cap, .int .i64 0, .bool false] 48)) (AnsA w1.heap.size (.slice ao N cap) 0 false (valA vs) (w1.alloc (.cells #[.string ⟨l.toArray⟩, .slice ao N cap, .int .i64 0, .bool false] 48)) (readA l)) := fun w1 hb hG => by
    have b1 : Below w.heap.size w (w1.alloc (.cells #[.string ⟨l.toArray⟩, .slice ao N cap, .int .i64 0, .bool false] 48)) := hb.alloc hb.size _
    exact wholeA_any w1.heap.size l (.slice ao N cap) vs false _ (fresh_rk l (.slice ao N cap) false w1) ⟨(hM.below b1).mono hb.size, (hV.below b1).mono hb.size⟩ hl hr hs hG
  cases hR : readA l with
  | bad x =>
    rw [hR] at k1
    rw [show evalA vs l = (0, x) by unfold evalA; rw [hR]]
    refine evalA_bad _ (.slice ao N cap) x w (k1.mono ?_)
    rintro e w' ⟨h1, hb⟩
    exact ⟨h1, hb⟩
  | ok ex r =>
    rw [hR] at k1 k2
    have k1' : Calls Tryd.prog 24 #[.pointer (some ⟨w.heap.size + 1 + 1, 0, none⟩)] (evW ⟨l.toArray⟩ w) fun e w' => (∃ n, e = .returned (.int .i64 n)) ∧ Below (w.heap.size + 1 + 1) (evW ⟨l.toArray⟩ w) w' := by
      refine k1.mono ?_
      rintro e w' ⟨h1, hb⟩
      have h1 : (if true = true then ∃ n, e = .returned (.int .i64 n) ∧ Rk (w.heap.size + 1 + 1) r (.slice none 0 0) 0 true w' else match ev (valA []) ex with | .is n => e = .returned (.int .i64 n) ∧ Rk (w.heap.size + 1 + 1) r (.slice none 0 0) 0 true w' | .no x => e = errA x) := h1
      rw [if_pos rfl] at h1
      obtain ⟨n, h1, _⟩ := h1
      exact ⟨⟨n, h1⟩, hb⟩
    cases hv : ev (valA vs) ex with
    | is n =>
      rw [show evalA vs l = (n, 0) by unfold evalA; rw [hR]; simp only []; rw [hv]]
      refine evalA_is _ ao N cap n w k1' fun w1 hb _ => (k2 w1 hb (.inr ⟨_, _, rfl⟩)).mono ?_
      rintro e w' ⟨h1, hb⟩
      have h1 : (if false = true then ∃ n, e = .returned (.int .i64 n) ∧ Rk w1.heap.size r (.slice ao N cap) 0 false w' else match ev (valA vs) ex with | .is n => e = .returned (.int .i64 n) ∧ Rk w1.heap.size r (.slice ao N cap) 0 false w' | .no x => e = errA x) := h1
      rw [if_neg (by simp), hv] at h1
      exact ⟨h1.1, hb⟩
    | no x =>
      rw [show evalA vs l = (0, x) by unfold evalA; rw [hR]; simp only []; rw [hv]]
      refine evalA_no _ ao N cap x w k1' fun w1 hb _ => (k2 w1 hb (.inr ⟨_, _, rfl⟩)).mono ?_
      rintro e w' ⟨h1, hb⟩
      have h1 : (if false = true then ∃ n, e = .returned (.int .i64 n) ∧ Rk w1.heap.size r (.slice ao N cap) 0 false w' else match ev (valA vs) ex with | .is n => e = .returned (.int .i64 n) ∧ Rk w1.heap.size r (.slice ao N cap) 0 false w' | .no x => e = errA x) := h1
      rw [if_neg (by simp), hv] at h1
      exact ⟨h1, hb⟩
end Go.Proofs.YtaaecgglocgcmaaDoor
namespace Go.Proofs.YtaaecgglocgcmaaDoor
open Go.RowKit Go.Lib

theorem Vars.row {w : World} {g : Nat} {T : TypeId} {B : Nat} {xs : List Value} {vs : List Vr} {cap : Nat} (h : w.heap[g]? = some (.cells ⟨xs⟩ T (0, 0))) (hg : g < B) (hx : ∀ j x, vs[j]? = some x → xs[j * 2]? = some (.string x.n) ∧ xs[j * 2 + 1]? = some (.string x.v)) (hl : vs.length ≤ 140737488355328) (hc : vs.length ≤ cap) : Vars B (.slice (some ⟨g, 0, none⟩) vs.length cap) vs w := by
  refine ⟨_, cap, rfl, hc, hl, fun j x hj => ⟨g, 0, rfl, hg, ?_, ?_⟩⟩
  · rw [cell_of_heap h, Nat.zero_add]
    simpa using (hx j x hj).1
  · rw [cell_of_heap h, Nat.zero_add]
    simpa using (hx j x hj).2
def vX : Vr := ⟨⟨#[120]⟩, ⟨#[52]⟩⟩
theorem ex_one : evalA [vX] [50, 32, 43, 32, 51, 32, 42, 32, 120] = (14, 0) := by decide +kernel
theorem ex_two : evalA [] [49, 32, 124, 124, 32, 49, 32, 47, 32, 48] = (1, 0) := by decide +kernel
set_option maxHeartbeats 1000000 in
set_option maxRecDepth 20000 in
theorem shownA_any (w : World) (hM : Marks w.heap.size w) :
    Calls Tryd.prog 11 #[] w fun e w' => e = .returned (.bool true) ∧ Below w.heap.size w w' := by
  have k1 : ∀ w1 : World, Below w.heap.size w w1 → w1.heap[w.heap.size]? = some (.cells #[.string ⟨#[120]⟩, .string ⟨#[52]⟩] 39 (0, 0)) → w.heap.size < w1.heap.size → Calls Tryd.prog 13 #[.string ⟨#[50, 32, 43, 32, 51, 32, 42, 32, 120]⟩, .slice (some ⟨w.heap.size, 0, none⟩) 1 1] w1 fun e w' => e = .returned (.tuple #[.int .i64 14, .int .i64 0]) ∧ Below w1.heap.size w1 w' := fun w1 hb hh hlt => by
    have := evalA_any [50, 32, 43, 32, 51, 32, 42, 32, 120] (.slice (some ⟨w.heap.size, 0, none⟩) 1 1) [vX] w1 ((hM.below hb).mono hb.size) (Vars.row (vs := [vX]) (cap := 1) hh hlt (fun j x hj => by
      cases j with
      | zero => simp at hj; subst hj; exact ⟨rfl, rfl⟩
      | succ j => simp at hj) (by decide) (Nat.le_refl _)) (by decide) rfl (fun x hx => by simp at hx; subst hx; decide)
    rw [ex_one] at this
    exact this
  have k2 : ∀ w1 : World, Below w.heap.size w w1 → Calls Tryd.prog 13 #[.string ⟨#[49, 32, 124, 124, 32, 49, 32, 47, 32, 48]⟩, .slice none 0 0] w1 fun e w' => e = .returned (.tuple #[.int .i64 1, .int .i64 0]) ∧ Below w1.heap.size w1 w' := fun w1 hb => by
    have := evalA_any [49, 32, 124, 124, 32, 49, 32, 47, 32, 48] (.slice none 0 0) [] w1 ((hM.below hb).mono hb.size) (Vars.nil _ _) (by decide) rfl (fun x hx => by cases hx)
    rw [ex_two] at this
    exact this
  have hb1 : Below w.heap.size w (w.alloc (.cells #[.string ⟨#[120]⟩, .string ⟨#[52]⟩] 39)) := (Below.refl _ w).alloc (Nat.le_refl _) _
  have k3 := k1 _ hb1 (heap_alloc_new w _) (by simp)
  have HB := Lib.hid hb1
  have K2 := Lib.hid k2
  clear k1 k2 hb1
  go_enter Tryd.func11, Tryd.ntmps11
  go_wp2_with (first
    | (go_at_call 13; (with_reducible refine k3.mono ?_); rintro e w1 ⟨rfl, hb1⟩; have HB1 := Lib.hid (HB.out.trans (hb1.mono HB.out.size)); have k4 := K2.out w1 HB1.out; clear hb1 k3)
    | (go_at_call 13; (with_reducible refine k4.mono ?_); rintro e w2 ⟨rfl, hb2⟩; have HB2 := Lib.hid (HB1.out.trans (hb2.mono HB1.out.size)); clear hb2))
  go_ret
  exact ⟨rfl, HB2.out⟩
end Go.Proofs.YtaaecgglocgcmaaDoor
namespace Go.Proofs.YtaaecgglocgcmaaDoor
open Go.RowKit Go.Lib

theorem isFig_digA (d : Nat) (h : d < 10) : isFig (UInt8.ofNat (48 + d)) = true ∧ figV (UInt8.ofNat (48 + d)) = d := by
  have : ∀ m : Fin 10, isFig (UInt8.ofNat (48 + m.val)) = true ∧ figV (UInt8.ofNat (48 + m.val)) = m.val := by decide +kernel
  exact this ⟨d, h⟩
theorem digits_figsA (u : Nat) : (decDigits u).all isFig = true ∧ natOf (decDigits u) = u := by
  induction u using Nat.strongRecOn with
  | _ u ih =>
    by_cases h : u < 10
    · rw [decDigits, dif_pos h]
      have := isFig_digA u h
      refine ⟨by rw [List.all_cons, List.all_nil, this.1]; rfl, ?_⟩
      show 10 * 0 + figV (UInt8.ofNat (48 + u)) = u
      rw [this.2]; omega
    · rw [decDigits, dif_neg h]
      obtain ⟨h1, h2⟩ := ih (u / 10) (by omega)
      have := isFig_digA (u % 10) (by omega)
      refine ⟨by rw [List.all_append, h1, List.all_cons, List.all_nil, this.1]; rfl, ?_⟩
      rw [natOf_snoc, h2, this.2]; omega
theorem digits_neA (u : Nat) : decDigits u ≠ [] := by
  intro h
  have h1 := congrArg List.length h
  rw [decDigits_length, List.length_nil] at h1
  have h2 := nDigits_pos u
  omega
theorem digits_headA (u : Nat) : isNeg (decDigits u) = false := by
  cases h : decDigits u with
  | nil => exact absurd h (digits_neA u)
  | cons c r =>
    have h1 := (digits_figsA u).1
    rw [h] at h1
    simp only [List.all_cons, Bool.and_eq_true] at h1
    unfold isNeg
    simp only [List.head?_cons]
    cases hb : (some c == some (45 : UInt8)) with
    | false => rfl
    | true =>
      have : c = 45 := by simpa using hb
      rw [this] at h1
      exact absurd h1.1 (by decide)
/-- A number's text. -/
def textA (n : Int) : List UInt8 := if n < 0 then 45 :: decDigits n.natAbs else decDigits n.natAbs
theorem text_num (n : Int) (h0 : -9223372036854775808 ≤ n) (h1 : n ≤ 9223372036854775807) : numA (textA n) = .is n := by
  have hf := figs_all (decDigits n.natAbs) (digits_figsA n.natAbs).1
  unfold textA
  by_cases hn : n < 0
  · rw [if_pos hn]
    have hg : isNeg (45 :: decDigits n.natAbs) = true := rfl
    have ha : afterSign (45 :: decDigits n.natAbs) = decDigits n.natAbs := by unfold afterSign; rw [if_pos hg]; rfl
    have hw : wholeD (45 :: decDigits n.natAbs) = (n, ((45 :: decDigits n.natAbs).length : Int), 0) := by
      unfold wholeD
      rw [ha, hf, if_neg (digits_neA _), if_pos hg, (digits_figsA n.natAbs).2, if_pos (by omega)]
      simp only [List.length_cons, Prod.mk.injEq, and_true]
      constructor
      · omega
      · omega
    unfold numA
    rw [if_neg (by simp), hw, if_pos ⟨rfl, rfl⟩]
  · rw [if_neg hn]
    have hg := digits_headA n.natAbs
    have ha : afterSign (decDigits n.natAbs) = decDigits n.natAbs := by unfold afterSign; rw [if_neg (by rw [hg]; simp)]
    have hw : wholeD (decDigits n.natAbs) = (n, ((decDigits n.natAbs).length : Int), 0) := by
      unfold wholeD
      rw [ha, hf, if_neg (digits_neA _), if_neg (by rw [hg]; simp), (digits_figsA n.natAbs).2, if_pos (by omega)]
      simp only [Prod.mk.injEq, and_true]
      omega
    unfold numA
    rw [if_neg (digits_neA _), hw, if_pos ⟨rfl, rfl⟩]
theorem digits_lenA (u : Nat) (h : u ≤ 9223372036854775808) : (decDigits u).length ≤ 20 := by
  rw [decDigits_length]
  have key : ∀ (k u : Nat), u < 10 ^ k → nDigits u ≤ k + 1 := by
    intro k
    induction k with
    | zero => intro u h; rw [nDigits_small (by simp at h; omega)]; exact Nat.le_refl _
    | succ k ih =>
      intro u h
      by_cases h10 : u < 10
      · rw [nDigits_small h10]; omega
      · rw [nDigits_big h10]
        have := ih (u / 10) (by rw [Nat.pow_succ] at h; omega)
        omega
  have := key 19 u (by have : (10 : Nat) ^ 19 = 10000000000000000000 := by decide
                       omega)
  omega
/-- How far the figures have come. -/
def FigI (N : Nat) (l : List UInt8) (a : Nat) : Prop := (l = [] ∧ a = N) ∨ (l ≠ [] ∧ decDigits N = (if a = 0 then [] else decDigits a) ++ l)
theorem figI_step {N a : Nat} {l : List UInt8} (h : FigI N l a) (hgo : 0 < a ∨ l = []) : FigI N (UInt8.ofNat (48 + a % 10) :: l) (a / 10) := by
  refine .inr ⟨by simp, ?_⟩
  have hd : decDigits a = (if a / 10 = 0 then [] else decDigits (a / 10)) ++ [UInt8.ofNat (48 + a % 10)] := by
    by_cases h10 : a < 10
    · rw [decDigits, dif_pos h10, if_pos (by omega), Nat.mod_eq_of_lt h10]; rfl
    · rw [decDigits, dif_neg h10, if_neg (by omega)]
  rcases h with ⟨rfl, rfl⟩ | ⟨h1, h2⟩
  · exact hd
  · rcases hgo with h0 | h0
    · rw [h2, if_neg (by omega), hd, List.append_assoc]
      rfl
    · exact absurd h0 h1
theorem figI_end {N : Nat} {l : List UInt8} (h : FigI N l 0) (hne : l ≠ []) : l = decDigits N := by
  rcases h with ⟨h1, _⟩ | ⟨_, h2⟩
  · exact absurd h1 hne
  · rw [h2, if_pos rfl]; rfl
theorem figI_len {N a : Nat} {l : List UInt8} (h : FigI N l a) (hN : N ≤ 9223372036854775808) : l.length ≤ 20 := by
  rcases h with ⟨h1, _⟩ | ⟨_, h2⟩
  · rw [h1]; simp
  · have := digits_lenA N hN
    rw [h2, List.length_append] at this
    omega
set_option maxHeartbeats 2000000 in
set_option maxRecDepth 20000 in
theorem figuresLaw_neg (n : Int) (w : World) (h0 : -9223372036854775808 ≤ n) (hn : n < 0) :
    Calls Tryd.prog 22 #[.int .i64 n] w fun e w' => e = .returned (.string ⟨(textA n).toArray⟩) ∧ Below w.heap.size w w' := by
  obtain ⟨N, hNn⟩ : ∃ N : Nat, N = n.natAbs := ⟨_, rfl⟩
  have hN : (N : Int) ≤ 9223372036854775808 := by omega
  have HNN : Hid (N ≤ 9223372036854775808) := by show N ≤ 9223372036854775808; omega
  have hw1 : IntKind.u64.wrap (-IntKind.u64.wrap n) = (N : Int) := by
    have e1 : ∀ x : Int, IntKind.u64.wrap x = x % 18446744073709551616 := fun x => by simp [IntKind.wrap, IntKind.bits, IntKind.signed]
    rw [e1, e1]
    omega
  have HT : Hid (textA n = 45 :: decDigits N) := by show textA n = _; unfold textA; rw [if_pos hn, hNn]
  clear hNn
  go_enter Tryd.func22, Tryd.ntmps22
  go_wp2
  go_loopg [3, 4] (N + 1) (fun g s u wr => ∃ (S : ByteArray) (a : Nat), s = .string S ∧ u = .int .u64 (a : Int) ∧ (a : Int) ≤ 9223372036854775808 ∧ Hid (FigI N S.data.toList a) ∧ Hid (g = a + (if S.data.toList = [] then 1 else 0)) ∧ Hid (Below w.heap.size w wr))
  case atStart => exact ⟨ByteArray.empty, N, rfl, rfl, hN, .inl ⟨rfl, rfl⟩, rfl, Below.refl _ _⟩
  case round =>
    obtain ⟨S, a, rfl, rfl, ha, HF, HG, HW⟩ := hrel
    have hlen := figI_len HF.out HNN.out
    have hSz : S.size ≤ 20 := by rw [Array.length_toList] at hlen; exact hlen
    have hemp : S.toList.isEmpty = decide (S.data.toList = []) := by rw [ByteArray.toList_eq, Bool.eq_iff_iff]; simp
    clear hlen
    by_cases hgo : 0 < a ∨ S.data.toList = []
    · obtain ⟨c, hc⟩ : ∃ c, c = UInt8.ofNat (48 + a % 10) := ⟨_, rfl⟩
      have hcn : (c.toNat : Int) = 48 + ((a % 10 : Nat) : Int) := by rw [hc]; simp; omega
      have HST := Lib.hid (figI_step HF.out hgo)
      rw [← hc] at HST
      obtain ⟨x, hx⟩ : ∃ x : Int, x = ((a % 10 : Nat) : Int) := ⟨_, rfl⟩
      obtain ⟨a2, ha2⟩ : ∃ a2, a2 = a / 10 := ⟨_, rfl⟩
      rw [← ha2] at HST
      have ht : (a : Int).tmod 10 = x := by rw [Int.tmod_eq_emod_of_nonneg (by omega)]; omega
      have hd : (a : Int).tdiv 10 = (a2 : Int) := by rw [Int.tdiv_eq_ediv_of_nonneg (by omega)]; omega
      have ht2 : (a : Int) % 10 = x := by omega
      have hd2 : (a : Int) / 10 = (a2 : Int) := by omega
      have hx0 : 0 ≤ x := by omega
      have hx1 : x ≤ 9 := by omega
      have hA2 : (a2 : Int) ≤ 9223372036854775808 := by omega
      have kc := conv_new1 (P := Tryd.prog) 59 9 5 Tryd.underlying59 Tryd.underlying5 Tryd.underlying9 wr (48 + x) c (by omega)
      obtain ⟨L, hL⟩ : ∃ L : ByteArray, L = ⟨[c].toArray⟩ := ⟨_, rfl⟩
      rw [← hL] at kc
      have hLs : L.size = 1 := by rw [hL]; rfl
      have hsum : (9223372036854775807 < L.size + S.size) = False := by simp only [eq_iff_iff, iff_false]; omega
      have HNX : Hid (FigI N (L ++ S).data.toList a2) := by
        show FigI N (L ++ S).data.toList a2
        rw [ByteArray.data_append, Array.toList_append, hL]
        exact HST.out
      have HNG : Hid (a2 + (if (L ++ S).data.toList = [] then 1 else 0) < gk) := by
        show a2 + (if (L ++ S).data.toList = [] then 1 else 0) < gk
        rw [ByteArray.data_append, Array.toList_append, hL, if_neg (by simp), HG.out]
        rcases hgo with h | h
        · split <;> omega
        · rw [if_pos h]; omega
      have tests : (0 < (a : Int)) ∨ (¬ 0 < (a : Int) ∧ S.toList.isEmpty = true) := by
        rcases hgo with h | h
        · exact .inl (by omega)
        · by_cases h0 : 0 < (a : Int)
          · exact .inl h0
          · exact .inr ⟨h0, by rw [hemp, decide_eq_true h]⟩
      clear hc hcn hx ha2 hL hemp hgo HST
      rcases tests with t0 | ⟨t0, t1⟩
      · go_wp2
        go_roundg (a2 + (if (L ++ S).data.toList = [] then 1 else 0))
        case measure => exact HNG.out
        case rel => exact ⟨L ++ S, a2, rfl, rfl, hA2, HNX, rfl, HW.out.alloc HW.out.size _⟩
      · obtain rfl : a = 0 := by omega
        obtain rfl : x = 0 := by omega
        obtain rfl : a2 = 0 := by omega
        rw [show (48 + 0 : Int) = 48 from rfl] at kc
        clear ht hd ht2 hd2 hx0 hx1 hA2 t0 ha
        go_wp2
        go_roundg (0 + (if (L ++ S).data.toList = [] then 1 else 0))
        case measure => exact HNG.out
        case rel => exact ⟨L ++ S, 0, rfl, rfl, by decide, HNX, rfl, HW.out.alloc HW.out.size _⟩
    · have ha0 : a = 0 := by omega
      have hne : S.data.toList ≠ [] := fun e => hgo (.inr e)
      subst ha0
      have HEND := Lib.hid (figI_end HF.out hne)
      have he : S.toList.isEmpty = false := by rw [hemp, decide_eq_false hne]
      clear hgo hemp hne
      have hsum : (9223372036854775807 < (⟨#[45]⟩ : ByteArray).size + S.size) = False := by
        have : (⟨#[45]⟩ : ByteArray).size = 1 := rfl
        simp only [eq_iff_iff, iff_false]; omega
      have hsum1 : (9223372036854775807 < 1 + S.size) = False := by simp only [eq_iff_iff, iff_false]; omega
      have HE : Hid ((⟨(textA n).toArray⟩ : ByteArray) = ⟨#[45]⟩ ++ S) := by
        show (⟨(textA n).toArray⟩ : ByteArray) = ⟨#[45]⟩ ++ S
        rw [HT.out, ← HEND.out]
        apply ByteArray.ext
        rw [ByteArray.data_append]
        apply Array.ext'
        simp
      go_wp2
      refine bodyPost_ret (results_tmp rfl _ _ _) rfl ?_
      rw [HE.out]
      exact ⟨rfl, HW.out⟩
set_option maxHeartbeats 2000000 in
set_option maxRecDepth 20000 in
theorem figuresLaw_pos (N : Nat) (w : World) (hN : (N : Int) ≤ 9223372036854775807) :
    Calls Tryd.prog 22 #[.int .i64 (N : Int)] w fun e w' => e = .returned (.string ⟨(textA (N : Int)).toArray⟩) ∧ Below w.heap.size w w' := by
  have hN0 : ¬ (N : Int) < 0 := by omega
  have HNN : Hid (N ≤ 9223372036854775808) := by show N ≤ 9223372036854775808; omega
  have HT : Hid (textA (N : Int) = decDigits N) := by show textA (N : Int) = _; unfold textA; rw [if_neg hN0]; rfl
  go_enter Tryd.func22, Tryd.ntmps22
  go_wp2
  go_loopg [3, 4] (N + 1) (fun g s u wr => ∃ (S : ByteArray) (a : Nat), s = .string S ∧ u = .int .u64 (a : Int) ∧ (a : Int) ≤ 9223372036854775808 ∧ Hid (FigI N S.data.toList a) ∧ Hid (g = a + (if S.data.toList = [] then 1 else 0)) ∧ Hid (Below w.heap.size w wr))
  case atStart => exact ⟨ByteArray.empty, N, rfl, rfl, by omega, .inl ⟨rfl, rfl⟩, rfl, Below.refl _ _⟩
  case round =>
    obtain ⟨S, a, rfl, rfl, ha, HF, HG, HW⟩ := hrel
    have hlen := figI_len HF.out HNN.out
    have hSz : S.size ≤ 20 := by rw [Array.length_toList] at hlen; exact hlen
    have hemp : S.toList.isEmpty = decide (S.data.toList = []) := by rw [ByteArray.toList_eq, Bool.eq_iff_iff]; simp
    clear hlen
    by_cases hgo : 0 < a ∨ S.data.toList = []
    · obtain ⟨c, hc⟩ : ∃ c, c = UInt8.ofNat (48 + a % 10) := ⟨_, rfl⟩
      have hcn : (c.toNat : Int) = 48 + ((a % 10 : Nat) : Int) := by rw [hc]; simp; omega
      have HST := Lib.hid (figI_step HF.out hgo)
      rw [← hc] at HST
      obtain ⟨x, hx⟩ : ∃ x : Int, x = ((a % 10 : Nat) : Int) := ⟨_, rfl⟩
      obtain ⟨a2, ha2⟩ : ∃ a2, a2 = a / 10 := ⟨_, rfl⟩
      rw [← ha2] at HST
      have ht : (a : Int).tmod 10 = x := by rw [Int.tmod_eq_emod_of_nonneg (by omega)]; omega
      have hd : (a : Int).tdiv 10 = (a2 : Int) := by rw [Int.tdiv_eq_ediv_of_nonneg (by omega)]; omega
      have ht2 : (a : Int) % 10 = x := by omega
      have hd2 : (a : Int) / 10 = (a2 : Int) := by omega
      have hx0 : 0 ≤ x := by omega
      have hx1 : x ≤ 9 := by omega
      have hA2 : (a2 : Int) ≤ 9223372036854775808 := by omega
      have kc := conv_new1 (P := Tryd.prog) 59 9 5 Tryd.underlying59 Tryd.underlying5 Tryd.underlying9 wr (48 + x) c (by omega)
      obtain ⟨L, hL⟩ : ∃ L : ByteArray, L = ⟨[c].toArray⟩ := ⟨_, rfl⟩
      rw [← hL] at kc
      have hLs : L.size = 1 := by rw [hL]; rfl
      have hsum : (9223372036854775807 < L.size + S.size) = False := by simp only [eq_iff_iff, iff_false]; omega
      have HNX : Hid (FigI N (L ++ S).data.toList a2) := by
        show FigI N (L ++ S).data.toList a2
        rw [ByteArray.data_append, Array.toList_append, hL]
        exact HST.out
      have HNG : Hid (a2 + (if (L ++ S).data.toList = [] then 1 else 0) < gk) := by
        show a2 + (if (L ++ S).data.toList = [] then 1 else 0) < gk
        rw [ByteArray.data_append, Array.toList_append, hL, if_neg (by simp), HG.out]
        rcases hgo with h | h
        · split <;> omega
        · rw [if_pos h]; omega
      have tests : (0 < (a : Int)) ∨ (¬ 0 < (a : Int) ∧ S.toList.isEmpty = true) := by
        rcases hgo with h | h
        · exact .inl (by omega)
        · by_cases h0 : 0 < (a : Int)
          · exact .inl h0
          · exact .inr ⟨h0, by rw [hemp, decide_eq_true h]⟩
      clear hc hcn hx ha2 hL hemp hgo HST
      rcases tests with t0 | ⟨t0, t1⟩
      · go_wp2
        go_roundg (a2 + (if (L ++ S).data.toList = [] then 1 else 0))
        case measure => exact HNG.out
        case rel => exact ⟨L ++ S, a2, rfl, rfl, hA2, HNX, rfl, HW.out.alloc HW.out.size _⟩
      · obtain rfl : a = 0 := by omega
        obtain rfl : x = 0 := by omega
        obtain rfl : a2 = 0 := by omega
        rw [show (48 + 0 : Int) = 48 from rfl] at kc
        clear ht hd ht2 hd2 hx0 hx1 hA2 t0 ha
        go_wp2
        go_roundg (0 + (if (L ++ S).data.toList = [] then 1 else 0))
        case measure => exact HNG.out
        case rel => exact ⟨L ++ S, 0, rfl, rfl, by decide, HNX, rfl, HW.out.alloc HW.out.size _⟩
    · have ha0 : a = 0 := by omega
      have hne : S.data.toList ≠ [] := fun e => hgo (.inr e)
      subst ha0
      have HEND := Lib.hid (figI_end HF.out hne)
      have he : S.toList.isEmpty = false := by rw [hemp, decide_eq_false hne]
      clear hgo hemp hne
      have HE : Hid ((⟨(textA (N : Int)).toArray⟩ : ByteArray) = S) := by
        show (⟨(textA (N : Int)).toArray⟩ : ByteArray) = S
        rw [HT.out, ← HEND.out]
      go_wp2
      refine bodyPost_ret (results_tmp rfl _ _ _) rfl ?_
      rw [HE.out]
      exact ⟨rfl, HW.out⟩
theorem figuresLaw_any (n : Int) (w : World) (h0 : -9223372036854775808 ≤ n) (h1 : n ≤ 9223372036854775807) :
    Calls Tryd.prog 22 #[.int .i64 n] w fun e w' => e = .returned (.string ⟨(textA n).toArray⟩) ∧ Below w.heap.size w w' := by
  by_cases hn : n < 0
  · exact figuresLaw_neg n w h0 hn
  · obtain ⟨N, rfl⟩ : ∃ N : Nat, n = (N : Int) := ⟨n.toNat, by omega⟩
    exact figuresLaw_pos N w h1
theorem text_size (n : Int) (h0 : -9223372036854775808 ≤ n) (h1 : n ≤ 9223372036854775807) : (⟨(textA n).toArray⟩ : ByteArray).size ≤ 21 := by
  have := digits_lenA n.natAbs (by omega)
  unfold textA
  split <;> simp [ByteArray.size] <;> omega
end Go.Proofs.YtaaecgglocgcmaaDoor
namespace Go.Proofs.YtaaecgglocgcmaaDoor
open Go.RowKit Go.Lib

theorem eval_ok {vs : List Vr} {l r : List UInt8} {E : Ex} {n : Int} (h : readA l = .ok E r) (hv : ev (valA vs) E = .is n) : evalA vs l = (n, 0) := by unfold evalA; rw [h]; simp only []; rw [hv]
theorem eval_no {vs : List Vr} {l r : List UInt8} {E : Ex} {x : Int} (h : readA l = .ok E r) (hv : ev (valA vs) E = .no x) : evalA vs l = (0, x) := by unfold evalA; rw [h]; simp only []; rw [hv]
/-- What stands while a law over a row of its own goes on. -/
def StdA (w0 : World) (g : Nat) (xs : List Value) (wr : World) : Prop := wr.heap[g]? = some (.cells ⟨xs⟩ 39 (0, 0)) ∧ g < wr.heap.size ∧ Marks w0.heap.size wr ∧ Below w0.heap.size w0 wr
theorem StdA.next {w0 : World} {g : Nat} {xs : List Value} {w w' : World} (h : StdA w0 g xs w) (hb : Below w.heap.size w w') : StdA w0 g xs w' :=
  ⟨(hb.block g h.2.1).trans h.1, Nat.lt_of_lt_of_le h.2.1 hb.size, h.2.2.1.below (hb.mono h.2.2.2.size), h.2.2.2.trans (hb.mono h.2.2.2.size)⟩
theorem std_eval {w0 : World} {g N cap : Nat} {xs : List Value} {vs : List Vr} {w : World} (h : StdA w0 g xs w) (hx : ∀ j x, vs[j]? = some x → xs[j * 2]? = some (.string x.n) ∧ xs[j * 2 + 1]? = some (.string x.v)) (hN : vs.length = N) (hc : N ≤ cap) (hl : N ≤ 140737488355328) (hr : risesA vs = true) (hs : ∀ x ∈ vs, x.v.size ≤ 70000000000000) (l : List UInt8) (r : Int × Int) (he : evalA vs l = r) (hll : l.length ≤ 70000000000000) :
    Calls Tryd.prog 13 #[.string ⟨l.toArray⟩, .slice (some ⟨g, 0, none⟩) N cap] w fun e w' => e = .returned (.tuple #[.int .i64 r.1, .int .i64 r.2]) ∧ StdA w0 g xs w' := by
  subst hN
  have hv : Vars w.heap.size (.slice (some ⟨g, 0, none⟩) vs.length cap) vs w := Vars.row h.1 h.2.1 hx hl hc
  refine (evalA_any l _ vs w (h.2.2.1.mono h.2.2.2.size) hv hll hr hs).mono ?_
  rintro e w' ⟨rfl, hb⟩
  rw [he]
  exact ⟨rfl, h.next hb⟩
def numB (n : Int) : ByteArray := ⟨(textA n).toArray⟩
theorem numB_num (n : Int) (h0 : -9223372036854775808 ≤ n) (h1 : n ≤ 9223372036854775807) : numA (numB n).data.toList = .is n := text_num n h0 h1
def twoV (a b : Int) : List Vr := [⟨⟨#[97]⟩, numB a⟩, ⟨⟨#[98]⟩, numB b⟩]
def twoC (a b : Int) : List Value := [.string ⟨#[97]⟩, .string (numB a), .string ⟨#[98]⟩, .string (numB b)]
theorem two_a (a b : Int) (h0 : -9223372036854775808 ≤ a) (h1 : a ≤ 9223372036854775807) : valA (twoV a b) [97] = .is a := by
  show numA (numB a).data.toList = .is a
  exact numB_num a h0 h1
theorem two_b (a b : Int) (h0 : -9223372036854775808 ≤ b) (h1 : b ≤ 9223372036854775807) : valA (twoV a b) [98] = .is b := by
  show numA (numB b).data.toList = .is b
  exact numB_num b h0 h1
theorem two_eval {w0 : World} {g : Nat} {w : World} (a b : Int) (ha0 : -9223372036854775808 ≤ a) (ha1 : a ≤ 9223372036854775807) (hb0 : -9223372036854775808 ≤ b) (hb1 : b ≤ 9223372036854775807) (h : StdA w0 g (twoC a b) w) (l : List UInt8) (r : Int × Int) (he : evalA (twoV a b) l = r) (hll : l.length ≤ 70000000000000) :
    Calls Tryd.prog 13 #[.string ⟨l.toArray⟩, .slice (some ⟨g, 0, none⟩) 2 2] w fun e w' => e = .returned (.tuple #[.int .i64 r.1, .int .i64 r.2]) ∧ StdA w0 g (twoC a b) w' :=
  std_eval (vs := twoV a b) (N := 2) (cap := 2) h (fun j x hj => by
    match j, hj with
    | 0, hj => simp [twoV] at hj; subst hj; exact ⟨rfl, rfl⟩
    | 1, hj => simp [twoV] at hj; subst hj; exact ⟨rfl, rfl⟩
    | j + 2, hj => simp [twoV] at hj) rfl (Nat.le_refl _) (by decide) rfl (fun x hx => by
      simp only [twoV, List.mem_cons, List.not_mem_nil, or_false] at hx
      have h1 := text_size a ha0 ha1
      have h2 := text_size b hb0 hb1
      rcases hx with rfl | rfl
      · exact Nat.le_trans h1 (by decide)
      · exact Nat.le_trans h2 (by decide)) l r he hll
def threeV (a b c : Int) : List Vr := [⟨⟨#[97]⟩, numB a⟩, ⟨⟨#[98]⟩, numB b⟩, ⟨⟨#[99]⟩, numB c⟩]
def threeC (a b c : Int) : List Value := [.string ⟨#[97]⟩, .string (numB a), .string ⟨#[98]⟩, .string (numB b), .string ⟨#[99]⟩, .string (numB c)]
theorem three_eval {w0 : World} {g : Nat} {w : World} (a b c : Int) (ha0 : -9223372036854775808 ≤ a) (ha1 : a ≤ 9223372036854775807) (hb0 : -9223372036854775808 ≤ b) (hb1 : b ≤ 9223372036854775807) (hc0 : -9223372036854775808 ≤ c) (hc1 : c ≤ 9223372036854775807) (h : StdA w0 g (threeC a b c) w) (l : List UInt8) (r : Int × Int) (he : evalA (threeV a b c) l = r) (hll : l.length ≤ 70000000000000) :
    Calls Tryd.prog 13 #[.string ⟨l.toArray⟩, .slice (some ⟨g, 0, none⟩) 3 3] w fun e w' => e = .returned (.tuple #[.int .i64 r.1, .int .i64 r.2]) ∧ StdA w0 g (threeC a b c) w' :=
  std_eval (vs := threeV a b c) (N := 3) (cap := 3) h (fun j x hj => by
    match j, hj with
    | 0, hj => simp [threeV] at hj; subst hj; exact ⟨rfl, rfl⟩
    | 1, hj => simp [threeV] at hj; subst hj; exact ⟨rfl, rfl⟩
    | 2, hj => simp [threeV] at hj; subst hj; exact ⟨rfl, rfl⟩
    | j + 3, hj => simp [threeV] at hj) rfl (Nat.le_refl _) (by decide) rfl (fun x hx => by
      simp only [threeV, List.mem_cons, List.not_mem_nil, or_false] at hx
      have h1 := text_size a ha0 ha1
      have h2 := text_size b hb0 hb1
      have h3 := text_size c hc0 hc1
      rcases hx with rfl | rfl | rfl
      · exact Nat.le_trans h1 (by decide)
      · exact Nat.le_trans h2 (by decide)
      · exact Nat.le_trans h3 (by decide)) l r he hll
theorem std_start {w0 w1 w : World} {g : Nat} {xs : List Value} (hM : Marks w0.heap.size w0) (hb : Below w0.heap.size w0 w1) (hg : g = w1.heap.size) (hw : w = w1.alloc (.cells ⟨xs⟩ 39)) : StdA w0 g xs w := by
  subst hg hw
  have hb2 : Below w0.heap.size w0 (w1.alloc (.cells ⟨xs⟩ 39)) := hb.alloc hb.size _
  exact ⟨heap_alloc_new w1 _, by simp, hM.below hb2, hb2⟩
end Go.Proofs.YtaaecgglocgcmaaDoor
namespace Go.Proofs.YtaaecgglocgcmaaDoor
open Go.ChangeShapes Go.WideShapes Go.ChangeAt Go.RowKit Go.Deep

theorem cellsVarA : Tryd.prog.cellsOf 39 = 2 := by kernel_rfl
theorem bytesVarA : Tryd.prog.bytesOf 39 = 32 := by kernel_rfl
theorem weightsAll_memA {H : Type} {P : Program} {e : TypeId} {x : DataW H} {n : Nat} (hn : n ∈ DataW.weights P e x) : ∀ (l : List (DataW H)), x ∈ l → n ∈ DataW.weightsAll P e l
  | [], h => by cases h
  | y :: l, h => by
    simp only [DataW.weightsAll, List.mem_append]
    rcases List.mem_cons.1 h with rfl | h
    · exact .inl hn
    · exact .inr (weightsAll_memA hn l h)
set_option maxRecDepth 20000 in
/-- A variable's cells, and what they read as. -/
theorem trod_varA {H : Type} {enc : TypeId × Value → H} {W : World} {sp : Nat → Bool} {n : Nat} {cs : List Value} {y : DataW H × List MemPlace} (h : DataW.trod enc Tryd.prog W 0 sp true n 39 cs = some y) : ∃ q : Vr, cs = [.string q.n, .string q.v] ∧ y.1 = .agg [.lit (.string q.n.data.toList), .lit (.string q.v.data.toList)] := by
  obtain ⟨y0, y1, m, hx, hl, h0, h1⟩ := trod_struct2 Tryd.underlying39 h
  rw [cellsVarA] at hl
  obtain ⟨c0, c1, rfl⟩ : ∃ a b, cs = [a, b] := by
    match cs, hl with
    | [a, b], _ => exact ⟨a, b, rfl⟩
  have h0 : DataW.trod enc Tryd.prog W 0 sp true m 9 [c0] = some y0 := by simpa [cellsStrA] using h0
  have h1 : DataW.trod enc Tryd.prog W 0 sp true m 9 [c1] = some y1 := by simpa [cellsStrA] using h1
  obtain ⟨s0, e0, x0, _⟩ := DataW.trod_string Tryd.underlying9 h0
  obtain ⟨s1, e1, x1, _⟩ := DataW.trod_string Tryd.underlying9 h1
  simp at e0 e1
  subst e0 e1
  refine ⟨⟨s0, s1⟩, rfl, ?_⟩
  rw [hx, x0, x1]
instance : Inhabited Vr := ⟨⟨ByteArray.empty, ByteArray.empty⟩⟩
set_option maxRecDepth 20000 in
/-- An argument that is a row of variables. -/
theorem open_varsS {H : Type} {enc : TypeId × Value → H} {W : World} {v : Value} {d : DataW H} {p : List MemPlace} (hv : ∃ ao N cap, v = .slice ao N cap) (h : DataW.Trod enc Tryd.prog W 0 (fun _ => true) true 22 v d p)
    (hz : ∀ n ∈ DataW.weights Tryd.prog 22 d, n ≤ reachBytes) :
    ∃ (ao : Option Addr) (cap : Nat) (vs : List Vr), v = .slice ao vs.length cap ∧ Vars W.heap.size v vs W ∧ (vs.length ≤ 4398046511000 ∧ (ao = none → cap = 0)) ∧ ∀ x ∈ vs, x.n.size ≤ 140737488351232 ∧ x.v.size ≤ 140737488351232 := by
  obtain ⟨ao, N, cap, rfl⟩ := hv
  obtain ⟨fuel, hf⟩ := h
  have hf : DataW.trod enc Tryd.prog W 0 (fun _ => true) true fuel 22 [.slice ao N cap] = some (d, p) := hf
  rcases open_slice Tryd.underlying22 hf with ⟨h1, _⟩ | ⟨a, len, cap', m, n, D, Pl, h1, _, hl, hm, hmm, h2, hx⟩
  · obtain ⟨rfl, rfl, rfl⟩ : ao = none ∧ N = 0 ∧ cap = 0 := by simpa using h1
    exact ⟨none, 0, [], rfl, Vars.nil _ W, ⟨Nat.zero_le _, fun _ => rfl⟩, fun x hx => by cases hx⟩
  · obtain ⟨rfl, rfl, rfl⟩ : ao = some a ∧ N = len ∧ cap = cap' := by simpa using h1
    have hd : d = .slice ((List.range N).map D) ((List.range (m - N)).map fun j => D (N + j)) := (Prod.mk.inj h2).1
    rw [if_pos rfl] at hmm
    have hr : reachBytes = 140737488351232 := by decide
    have hN : N ≤ 4398046511000 := by
      have := hz ((((List.range N).map D).length + ((List.range (m - N)).map fun j => D (N + j)).length) * Tryd.prog.bytesOf 39) (by rw [hd]; simp [DataW.weights, Tryd.underlying22])
      rw [bytesVarA, hr, List.length_map, List.length_range, List.length_map, List.length_range] at this
      omega
    have each : ∀ i, i < m → ∃ q : Vr, W.cells? 0 (a.add (i * 2)) 2 = some [.string q.n, .string q.v] ∧ D i = .agg [.lit (.string q.n.data.toList), .lit (.string q.v.data.toList)] := fun i hi => by
      obtain ⟨cs', h3, h4⟩ := hx i hi
      obtain ⟨q, rfl, h5⟩ := trod_varA h4
      rw [cellsVarA] at h3
      exact ⟨q, h3, h5⟩
    obtain ⟨F, hF⟩ := choose_lt each
    have hS : ∀ i, i < N → (F i).n.size ≤ 140737488351232 ∧ (F i).v.size ≤ 140737488351232 := fun i hi => by
      have hDi := (hF i (by omega)).2
      have hin : ∀ n ∈ DataW.weights Tryd.prog 39 (D i), n ≤ reachBytes := fun n hn => by
        refine hz n ?_
        rw [hd]
        simp only [DataW.weights, Tryd.underlying22, List.mem_cons, List.mem_append]
        exact .inr (.inl (weightsAll_memA hn _ (List.mem_map.2 ⟨i, List.mem_range.2 hi, rfl⟩)))
      rw [hDi] at hin
      have l0 : (F i).n.data.toList.length = (F i).n.size := Array.length_toList
      have l1 : (F i).v.data.toList.length = (F i).v.size := Array.length_toList
      have g0 := hin (F i).n.data.toList.length (by simp [DataW.weights, Tryd.underlying39, DataW.weightsEach])
      have g1 := hin (F i).v.data.toList.length (by simp [DataW.weights, Tryd.underlying39, DataW.weightsEach])
      rw [hr] at g0 g1
      omega
    refine ⟨some a, cap, (List.range N).map F, by simp, ⟨some a, cap, by simp, by simpa using hl, by simp; omega, fun j q hj => ?_⟩, ⟨by simpa using hN, fun h => by cases h⟩, fun x hxm => ?_⟩
    · have hjN : j < N := by
        by_cases h : j < N
        · exact h
        · rw [List.getElem?_eq_none (by simp; omega)] at hj; cases hj
      have hq : F j = q := by simpa [hjN] using hj
      have hc := (hF j (by omega)).1
      rw [hq] at hc
      obtain ⟨_, _, hcs⟩ := World.cells?_some hc
      have c0 := hcs 0 (by decide)
      have c1 := hcs 1 (by decide)
      obtain ⟨ab, aoff, asp⟩ := a
      have hsp : asp = none := by
        have c00 := (World.cells?_some (hF 0 (by omega)).1).2.2 0 (by decide)
        have e : ((⟨ab, aoff, asp⟩ : Addr).add (0 * 2)).add 0 = ⟨ab, aoff, asp⟩ := rfl
        rw [e] at c00
        exact (cell_plainA (show W.cell? _ = some (.string (F 0).n) from c00)).1
      subst hsp
      have ea : ∀ i, ((⟨ab, aoff, none⟩ : Addr).add (j * 2)).add i = ⟨ab, aoff + j * 2 + i, none⟩ := fun i => by
        unfold Addr.add
        by_cases h1 : j * 2 = 0 <;> by_cases h2 : i = 0 <;> simp [h1, h2]
      rw [ea] at c0 c1
      exact ⟨ab, aoff, rfl, (cell_plainA (show W.cell? _ = some (.string q.n) from c0)).2, c0, c1⟩
    · obtain ⟨i, hi, rfl⟩ := List.mem_map.1 hxm
      exact hS i (List.mem_range.1 hi)
set_option maxRecDepth 20000 in
theorem open_varsA {H : Type} {enc : TypeId × Value → H} {W : World} {base : Nat} {v : Value} {d : DataW H} {p : List MemPlace} (hv : Value.okWide Tryd.prog W .any base 22 v) (h : DataW.Trod enc Tryd.prog W 0 (fun _ => true) true 22 v d p)
    (hz : ∀ n ∈ DataW.weights Tryd.prog 22 d, n ≤ reachBytes) :
    ∃ (ao : Option Addr) (cap : Nat) (vs : List Vr), v = .slice ao vs.length cap ∧ Vars W.heap.size v vs W ∧ (vs.length ≤ 4398046511000 ∧ (ao = none → cap = 0)) ∧ ∀ x ∈ vs, x.n.size ≤ 140737488351232 ∧ x.v.size ≤ 140737488351232 := by
  refine open_varsS ?_ h hz
  cases v <;> first | exact ⟨_, _, _, rfl⟩ | (exfalso; simp [Value.okWide, Cell.okWide, Cell.ok, Tryd.underlying22] at hv)
/-- It reads again behind a call that laid new memory alone. -/
theorem vars_again {H : Type} {enc : TypeId × Value → H} {W W' : World} {v : Value} {d : DataW H} {p : List MemPlace} {sp : Nat → Bool} (h : DataW.Trod enc Tryd.prog W 0 (fun _ => true) true 22 v d p)
    (hlt : ∀ q ∈ p, q.block < W.heap.size) (hb : Below W.heap.size W W') (hs : ∀ q ∈ p, sp q.block = true) : DataW.Trod enc Tryd.prog W' 0 sp true 22 v d p :=
  Go.WideElems.Trod_stays laidOutA (by kernel_rfl) (of_decide_eq_true (by kernel_rfl)) h (fun q hq => hb.same (hlt q hq)) hs
end Go.Proofs.YtaaecgglocgcmaaDoor
namespace Go.Proofs.YtaaecgglocgcmaaDoor
open Go.RowKit Go.Lib

set_option maxHeartbeats 1000000 in
theorem refIsName_any (s : ByteArray) (w : World) (hs : s.size ≤ 70000000000000) :
    Calls Tryd.prog 28 #[.string s] w fun e w' => e = .returned (.bool (isNameB s.data.toList)) ∧ w = w' := by
  go_enter Tryd.func28, Tryd.ntmps28
  go_wp2
  go_loop [3] (fun i => ∃ k : Nat, k ≤ s.size ∧ i = .int .i64 k ∧ namePre (s.data.toList.take k) = true) (fun i => s.size - (RowKit.intOf i).toNat)
  case atStart => exact ⟨0, Nat.zero_le _, rfl, rfl⟩
  case round =>
    obtain ⟨k, hk, rfl, hpre⟩ := hrel
    have HP := Lib.hid hpre
    clear hpre
    by_cases hlt : k < s.size
    · have hsn := Lib.hid (namePre_take s k hlt)
      have hno := Lib.hid (namePre_no s (k + 1))
      obtain ⟨c, hcc⟩ : ∃ c, s[k] = c := ⟨_, rfl⟩
      rw [hcc] at hsn
      have cls : ((c.toNat : Int) < 48) ∨ (48 ≤ (c.toNat : Int) ∧ (c.toNat : Int) ≤ 57) ∨ (58 ≤ (c.toNat : Int) ∧ (c.toNat : Int) ≤ 64) ∨ (65 ≤ (c.toNat : Int) ∧ (c.toNat : Int) ≤ 90) ∨ (91 ≤ (c.toNat : Int) ∧ (c.toNat : Int) ≤ 94) ∨ ((c.toNat : Int) = 95) ∨ ((c.toNat : Int) = 96) ∨ (97 ≤ (c.toNat : Int) ∧ (c.toNat : Int) ≤ 122) ∨ (123 ≤ (c.toNat : Int)) := by omega
      rcases cls with h | ⟨h, h'⟩ | ⟨h, h'⟩ | ⟨h, h'⟩ | ⟨h, h'⟩ | h | h | ⟨h, h'⟩ | h <;> by_cases h0 : 0 < k
      all_goals
        first
        | have hn := Lib.hid (show nameOk k c = true by simp [nameOk, isLet, isFig]; omega)
        | have hn := Lib.hid (show nameOk k c = false by rw [Bool.eq_false_iff]; simp [nameOk, isLet, isFig]; omega)
        first
        | have h9 : ((c.toNat : Int) == 95) = false := by simp; omega
        | have h9 : ((c.toNat : Int) == 95) = true := by simp; omega
        first
        | have h8 : ((k : Int) == 0) = false := by simp; omega
        | have h8 : ((k : Int) == 0) = true := by simp; omega
        first
        | have h7 : decide ((c.toNat : Int) ≤ 90) = false := by simp; omega
        | have h7 : decide ((c.toNat : Int) ≤ 90) = true := by simp; omega
        first
        | have h6 : decide ((c.toNat : Int) ≤ 122) = false := by simp; omega
        | have h6 : decide ((c.toNat : Int) ≤ 122) = true := by simp; omega
        go_wp2
        first
        | go_ret
          refine ⟨ret_bool ?_, rfl⟩
          rw [hno.out (by rw [hsn.out, hn.out]; simp)]
        | go_round
          case rel => exact ⟨k + 1, by omega, by go_num, by rw [hsn.out, hn.out, HP.out]; rfl⟩
          case measure => simp [RowKit.intOf]; omega
    · have hall : s.data.toList.take k = s.data.toList := List.take_of_length_le (by simp; omega)
      have HA := Lib.hid hall
      clear hall
      go_wp2
      all_goals
        go_ret
        refine ⟨ret_bool ?_, rfl⟩
        have := HP.out
        rw [HA.out] at this
        simp only [isNameB, this, isEmpty_size]
        by_cases h0 : s.size = 0 <;> simp [h0]
        try omega
end Go.Proofs.YtaaecgglocgcmaaDoor
