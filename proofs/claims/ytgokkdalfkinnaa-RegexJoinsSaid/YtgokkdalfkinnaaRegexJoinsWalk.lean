/- The statement RegexJoins, walked: every two rows of nodes, every text. Condition: the text is shorter than 2^47. -/
import Derived.Test.YtgokkdalfkinnaaReShown
import Derived.Test.YtgokkdalfkinnaaReJoin2
import Derived.Test.YtgokkdalfkinnaaReLit
namespace Go.Proofs.Ytgokkdalfkinnaa
open Go.RowKit Go.Lib

set_option maxHeartbeats 2000000 in
set_option maxRecDepth 20000 in
theorem joins_long (ao bo : Option Addr) (N M cap cap2 : Nat) (s : ByteArray) (w : World)
    (hc : decide ((300 : Int) < (N : Int)) = true ∨ (decide ((300 : Int) < (N : Int)) = false ∧ decide ((300 : Int) < (M : Int)) = true) ∨ (decide ((300 : Int) < (N : Int)) = false ∧ decide ((300 : Int) < (M : Int)) = false ∧ decide ((500 : Int) < (s.size : Int)) = true)) :
    Calls Try.prog 6 #[.slice ao N cap, .slice bo M cap2, .string s] w fun e w' => e = .returned (.bool true) ∧ Below w.heap.size w w' := by
  rcases hc with c1 | ⟨c1, c2⟩ | ⟨c1, c2, c3⟩
  all_goals
    go_enter Try.func6, Try.ntmps6
    go_wp2_with (first
      | (go_at_call 9; refine (shownRe_any _).mono ?_; rintro e w1 ⟨rfl, hb1⟩)
      | fail)
    exact bodyPost_ret (results_tmp rfl _ _ _) rfl ⟨rfl, hb1⟩
set_option maxHeartbeats 2000000 in
set_option maxRecDepth 20000 in
theorem joins_stray (ao bo : Option Addr) (N M cap cap2 : Nat) (xs ys : List Nd) (s : ByteArray) (q1 q2 : Bool) (w : World)
    (c1 : decide ((300 : Int) < (N : Int)) = false) (c2 : decide ((300 : Int) < (M : Int)) = false) (c3 : decide ((500 : Int) < (s.size : Int)) = false)
    (hL : Lies (.slice ao N cap) xs w) (hL2 : Lies (.slice bo M cap2) ys w) (hq : q1 = false ∨ (q1 = true ∧ q2 = false))
    (r1 : ∀ w, Lies (.slice ao N cap) xs w → Calls Try.prog 13 #[.slice ao N cap] w fun e w' => e = .returned (.bool q1) ∧ Below w.heap.size w w')
    (r2 : ∀ w, Lies (.slice bo M cap2) ys w → Calls Try.prog 13 #[.slice bo M cap2] w fun e w' => e = .returned (.bool q2) ∧ Below w.heap.size w w') :
    Calls Try.prog 6 #[.slice ao N cap, .slice bo M cap2, .string s] w fun e w' => e = .returned (.bool true) ∧ Below w.heap.size w w' := by
  have HL := Lib.hid hL
  have HL2 := Lib.hid hL2
  clear hL hL2
  rcases hq with rfl | ⟨rfl, rfl⟩
  · go_enter Try.func6, Try.ntmps6
    go_wp2_with (first
      | (go_at_call 9; refine (shownRe_any _).mono ?_; rintro e w1 ⟨rfl, hb1⟩; have HB1 := Lib.hid hb1; have HA := Lib.hid (HL.out.below hb1); clear hb1)
      | (go_at_call 13; with_reducible refine (r1 _ HA.out).mono ?_; rintro e w2 ⟨rfl, hb2⟩; have HB2 := Lib.hid (HB1.out.trans (hb2.mono HB1.out.size)); clear hb2)
      | fail)
    exact bodyPost_ret (results_tmp rfl _ _ _) rfl ⟨rfl, HB2.out⟩
  · go_enter Try.func6, Try.ntmps6
    go_wp2_with (first
      | (go_at_call 9; refine (shownRe_any _).mono ?_; rintro e w1 ⟨rfl, hb1⟩; have HB1 := Lib.hid hb1; have HA := Lib.hid (HL.out.below hb1); have HC := Lib.hid (HL2.out.below hb1); clear hb1)
      | (go_at_call 13; first
          | (with_reducible refine (r1 _ HA.out).mono ?_; rintro e w2 ⟨rfl, hb2⟩; have HB2 := Lib.hid (HB1.out.trans (hb2.mono HB1.out.size)); have HC2 := Lib.hid (HC.out.below hb2); clear hb2)
          | (with_reducible refine (r2 _ HC2.out).mono ?_; rintro e w3 ⟨rfl, hb3⟩; have HB3 := Lib.hid (HB2.out.trans (hb3.mono HB2.out.size)); clear hb3))
      | fail)
    exact bodyPost_ret (results_tmp rfl _ _ _) rfl ⟨rfl, HB3.out⟩
set_option maxHeartbeats 4000000 in
set_option maxRecDepth 20000 in
theorem joins_good (ao bo : Option Addr) (N M K L cap cap2 : Nat) (xs ys X2 X3 XL : List Nd) (s : ByteArray) (w : World)
    (c1 : decide ((300 : Int) < (N : Int)) = false) (c2 : decide ((300 : Int) < (M : Int)) = false) (c3 : decide ((500 : Int) < (s.size : Int)) = false) (hK : (K : Int) = (N : Int) + M + 1)
    (hL : Lies (.slice ao N cap) xs w) (hL2 : Lies (.slice bo M cap2) ys w)
    (r1 : ∀ w, Lies (.slice ao N cap) xs w → Calls Try.prog 13 #[.slice ao N cap] w fun e w' => e = .returned (.bool true) ∧ Below w.heap.size w w')
    (r2 : ∀ w, Lies (.slice bo M cap2) ys w → Calls Try.prog 13 #[.slice bo M cap2] w fun e w' => e = .returned (.bool true) ∧ Below w.heap.size w w')
    (j2 : ∀ w, Lies (.slice ao N cap) xs w → Lies (.slice bo M cap2) ys w → Calls Try.prog 17 #[.slice ao N cap, .slice bo M cap2, .int .i64 2] w fun e w' => (∃ a c, e = .returned (.tuple #[.slice a K c, .int .i64 0]) ∧ Lies (.slice a K c) X2 w') ∧ Below w.heap.size w w')
    (j3 : ∀ w, Lies (.slice ao N cap) xs w → Lies (.slice bo M cap2) ys w → Calls Try.prog 17 #[.slice ao N cap, .slice bo M cap2, .int .i64 3] w fun e w' => (∃ a c, e = .returned (.tuple #[.slice a K c, .int .i64 0]) ∧ Lies (.slice a K c) X3 w') ∧ Below w.heap.size w w')
    (lt : ∀ w, Calls Try.prog 14 #[.string s] w fun e w' => (∃ a c, e = .returned (.tuple #[.slice a L c, .int .i64 0]) ∧ Lies (.slice a L c) XL w') ∧ Below w.heap.size w w')
    (t2 : ∀ v w, Lies v X2 w → Calls Try.prog 13 #[v] w fun e w' => e = .returned (.bool true) ∧ Below w.heap.size w w')
    (t3 : ∀ v w, Lies v X3 w → Calls Try.prog 13 #[v] w fun e w' => e = .returned (.bool true) ∧ Below w.heap.size w w')
    (tL : ∀ v w, Lies v XL w → Calls Try.prog 13 #[v] w fun e w' => e = .returned (.bool true) ∧ Below w.heap.size w w') :
    Calls Try.prog 6 #[.slice ao N cap, .slice bo M cap2, .string s] w fun e w' => e = .returned (.bool true) ∧ Below w.heap.size w w' := by
  have hN : (N : Int) ≤ 300 := by have := of_decide_eq_false c1; omega
  have hM : (M : Int) ≤ 300 := by have := of_decide_eq_false c2; omega
  have hI : IntKind.i64.wrap ((N : Int) + (M : Int)) = (N : Int) + M := IntWalk.i64_in _ (by omega)
  have hI2 : IntKind.i64.wrap ((N : Int) + (M : Int) + 1) = (K : Int) := by rw [IntWalk.i64_in _ (by omega)]; omega
  have HL := Lib.hid hL
  have HL2 := Lib.hid hL2
  clear hL hL2 hN hM hK
  go_enter Try.func6, Try.ntmps6
  go_wp2_with (first
    | (go_at_call 9; refine (shownRe_any _).mono ?_; rintro e w1 ⟨rfl, hb1⟩; have HB1 := Lib.hid hb1; have HU1 := Lib.hid (HL.out.below hb1); have HV1 := Lib.hid (HL2.out.below hb1); clear hb1)
    | (go_at_call 13; first
        | (with_reducible refine (r1 _ HU1.out).mono ?_; rintro e w2 ⟨rfl, hb2⟩; have HB2 := Lib.hid (HB1.out.trans (hb2.mono HB1.out.size)); have HU2 := Lib.hid (HU1.out.below hb2); have HV2 := Lib.hid (HV1.out.below hb2); clear hb2 r1 HU1 HV1)
        | (with_reducible refine (r2 _ HV2.out).mono ?_; rintro e w3 ⟨rfl, hb3⟩; have HB3 := Lib.hid (HB2.out.trans (hb3.mono HB2.out.size)); have HU3 := Lib.hid (HU2.out.below hb3); have HV3 := Lib.hid (HV2.out.below hb3); clear hb3 r2 HU2 HV2)
        | (with_reducible refine (t2 _ _ HA6.out).mono ?_; rintro e w7 ⟨rfl, hb7⟩; have HB7 := Lib.hid (HB6.out.trans (hb7.mono HB6.out.size)); have HY7 := Lib.hid (HY6.out.below hb7); have HC7 := Lib.hid (HC6.out.below hb7); clear hb7 t2 HA6 HY6 HC6)
        | (with_reducible refine (t3 _ _ HY7.out).mono ?_; rintro e w8 ⟨rfl, hb8⟩; have HB8 := Lib.hid (HB7.out.trans (hb8.mono HB7.out.size)); have HC8 := Lib.hid (HC7.out.below hb8); clear hb8 t3 HY7 HC7)
        | (with_reducible refine (tL _ _ HC8.out).mono ?_; rintro e w9 ⟨rfl, hb9⟩; have HB9 := Lib.hid (HB8.out.trans (hb9.mono HB8.out.size)); clear hb9 tL HC8))
    | (go_at_call 17; first
        | (with_reducible refine (j2 _ HU3.out HV3.out).mono ?_; rintro e w4 ⟨⟨aA, cA, rfl, hA⟩, hb4⟩; have HB4 := Lib.hid (HB3.out.trans (hb4.mono HB3.out.size)); have HU4 := Lib.hid (HU3.out.below hb4); have HV4 := Lib.hid (HV3.out.below hb4); have HA4 := Lib.hid hA; clear hb4 hA j2 HU3 HV3)
        | (with_reducible refine (j3 _ HU4.out HV4.out).mono ?_; rintro e w5 ⟨⟨aY, cY, rfl, hY⟩, hb5⟩; have HB5 := Lib.hid (HB4.out.trans (hb5.mono HB4.out.size)); have HA5 := Lib.hid (HA4.out.below hb5); have HY5 := Lib.hid hY; clear hb5 hY j3 HU4 HV4 HA4))
    | (go_at_call 14; with_reducible refine (lt _).mono ?_; rintro e w6 ⟨⟨aC, cC, rfl, hC⟩, hb6⟩; have HB6 := Lib.hid (HB5.out.trans (hb6.mono HB5.out.size)); have HA6 := Lib.hid (HA5.out.below hb6); have HY6 := Lib.hid (HY5.out.below hb6); have HC6 := Lib.hid hC; clear hb6 hC lt HA5 HY5)
    | fail)
  exact bodyPost_ret (results_tmp rfl _ _ _) rfl ⟨rfl, HB9.out⟩
theorem lies_shape {v : Value} {ts : List Nd} {w : World} (h : Lies v ts w) : ∃ a c, v = .slice a ts.length c := by
  obtain ⟨a, c, h1, _⟩ := h
  exact ⟨a, c, h1⟩
theorem regexJoins_walk (u : Value) (ao : Option Addr) (cap : Nat) (xs : List Nd) (hu : u = .slice ao xs.length cap) (v : Value) (bo : Option Addr) (cap2 : Nat) (ys : List Nd) (hv : v = .slice bo ys.length cap2) (s : ByteArray) (w : World)
    (hL : xs.length ≤ 140737488355328 → Lies u xs w) (hL2 : ys.length ≤ 140737488355328 → Lies v ys w) :
    Calls Try.prog 6 #[u, v, .string s] w fun e w' => e = .returned (.bool true) ∧ Below w.heap.size w w' := by
  subst hu hv
  by_cases c1 : (300 : Int) < (xs.length : Int)
  · exact joins_long ao bo _ _ cap cap2 s w (.inl (decide_eq_true c1))
  by_cases c2 : (300 : Int) < (ys.length : Int)
  · exact joins_long ao bo _ _ cap cap2 s w (.inr (.inl ⟨decide_eq_false c1, decide_eq_true c2⟩))
  by_cases c3 : (500 : Int) < (s.size : Int)
  · exact joins_long ao bo _ _ cap cap2 s w (.inr (.inr ⟨decide_eq_false c1, decide_eq_false c2, decide_eq_true c3⟩))
  have hL := hL (by omega)
  have hL2 := hL2 (by omega)
  obtain ⟨q1, g1, k1⟩ := refRight_any _ xs w (by omega) hL
  obtain ⟨q2, g2, k2⟩ := refRight_any _ ys w (by omega) hL2
  by_cases hq : q1 = true ∧ q2 = true
  · obtain ⟨rfl, rfl⟩ := hq
    obtain ⟨S, oS, eS, zS⟩ := g1 rfl
    obtain ⟨T, oT, eT, zT⟩ := g2 rfl
    obtain ⟨l, hl⟩ : ∃ l, s = ⟨l.toArray⟩ := ⟨s.data.toList, rfl⟩
    have hsz : s.size = l.length := by rw [hl]; simp [ByteArray.size]
    have hln := litT_size l (by omega)
    have o2 : (Tr.two 2 S T).ok := ⟨.inl rfl, oS, oT⟩
    have o3 : (Tr.two 3 S T).ok := ⟨.inr rfl, oS, oT⟩
    have z2 : (Tr.two 2 S T).size = xs.length + ys.length + 1 := by show S.size + T.size + 1 = _; omega
    have z3 : (Tr.two 3 S T).size = xs.length + ys.length + 1 := by show S.size + T.size + 1 = _; omega
    refine joins_good ao bo xs.length ys.length (xs.length + ys.length + 1) (litT l).size cap cap2 xs ys ((Tr.two 2 S T).row 0) ((Tr.two 3 S T).row 0) ((litT l).row 0) s w (decide_eq_false c1) (decide_eq_false c2) (decide_eq_false c3) (by omega) hL hL2 k1 k2 ?_ ?_ ?_
      (fun v w h => refRight_tree v _ w o2 (by omega) h) (fun v w h => refRight_tree v _ w o3 (by omega) h) (fun v w h => refRight_tree v _ w (litT_ok l) hln h)
    · intro w h1 h2
      have h1 : Lies (.slice ao xs.length cap) (S.row 0) w := by rw [← eS]; exact h1
      have h2 : Lies (.slice bo ys.length cap2) (T.row 0) w := by rw [← eT]; exact h2
      refine (join_trees 2 (.inl rfl) _ _ S T w oS oT (by omega) h1 h2).mono ?_
      rintro e w' ⟨⟨r, rfl, hr⟩, hb⟩
      obtain ⟨a, c, rfl⟩ := lies_shape hr
      rw [Tr.row_length, z2] at hr ⊢
      exact ⟨⟨a, c, rfl, hr⟩, hb⟩
    · intro w h1 h2
      have h1 : Lies (.slice ao xs.length cap) (S.row 0) w := by rw [← eS]; exact h1
      have h2 : Lies (.slice bo ys.length cap2) (T.row 0) w := by rw [← eT]; exact h2
      refine (join_trees 3 (.inr rfl) _ _ S T w oS oT (by omega) h1 h2).mono ?_
      rintro e w' ⟨⟨r, rfl, hr⟩, hb⟩
      obtain ⟨a, c, rfl⟩ := lies_shape hr
      rw [Tr.row_length, z3] at hr ⊢
      exact ⟨⟨a, c, rfl, hr⟩, hb⟩
    · intro w
      rw [hl]
      refine (lit_any l w (by omega)).mono ?_
      rintro e w' ⟨⟨r, rfl, hr⟩, hb⟩
      have hr := hr.lies (by rw [Tr.row_length]; omega)
      obtain ⟨a, c, rfl⟩ := lies_shape hr
      rw [Tr.row_length] at hr ⊢
      exact ⟨⟨a, c, rfl, hr⟩, hb⟩
  · refine joins_stray ao bo _ _ cap cap2 xs ys s q1 q2 w (decide_eq_false c1) (decide_eq_false c2) (decide_eq_false c3) hL hL2 ?_ k1 k2
    cases q1 <;> cases q2 <;> simp_all
end Go.Proofs.Ytgokkdalfkinnaa
