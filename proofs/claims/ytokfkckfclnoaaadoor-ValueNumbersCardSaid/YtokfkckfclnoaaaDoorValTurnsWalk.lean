/- The statement ValueTurns, walked. No condition but the reach. -/
import Derived.Test.YtokfkckfclnoaaaDoorValOrderWalk
namespace Go.Proofs.YtokfkckfclnoaaaDoor
open Go.RowKit

/-- What is known of three texts, in one of its ways. -/
theorem turns_cases (P Q R : Bool) (X W Y Z : Int) (hX : (X = -1 ∧ W = 1) ∨ (X = 0 ∧ W = 0) ∨ (X = 1 ∧ W = -1)) (h : P = Q → Q = R → X ≤ 0 → Y ≤ 0 → Z ≤ 0) :
    ((P == Q) = false ∨ (P == Q) = true ∧ (Q == R) = false) ∨ ((P == Q) = true ∧ (Q == R) = true ∧ (X = 1 ∨ (X = -1 ∨ X = 0) ∧ (0 < Y ∨ ¬ 0 < Y ∧ Z ≤ 0))) := by
  cases P <;> cases Q <;> cases R <;> simp <;> simp at h <;> omega
set_option maxHeartbeats 1000000 in
theorem turns_walk0 (a b c : ByteArray) (P Q R : Bool) (pn qn rn X W Y Z : Int) (w : World) (hs : (a.size : Int) + (b.size : Int) + (c.size : Int) ≤ 2000)
    (c1 : Calls Tryd.prog 33 #[] w fun e w' => e = .returned (.bool true) ∧ Below w.heap.size w w')
    (kab : ∀ w, Calls Tryd.prog 44 #[.string a, .string b] w fun e w' => e = .returned (.int .i64 X) ∧ Below w.heap.size w w')
    (kbc : ∀ w, Calls Tryd.prog 44 #[.string b, .string c] w fun e w' => e = .returned (.int .i64 Y) ∧ Below w.heap.size w w')
    (kba : ∀ w, Calls Tryd.prog 44 #[.string b, .string a] w fun e w' => e = .returned (.int .i64 W) ∧ Below w.heap.size w w')
    (kaa : ∀ w, Calls Tryd.prog 44 #[.string a, .string a] w fun e w' => e = .returned (.int .i64 0) ∧ Below w.heap.size w w')
    (kac : ∀ w, Calls Tryd.prog 44 #[.string a, .string c] w fun e w' => e = .returned (.int .i64 Z) ∧ Below w.heap.size w w')
    (la : ∀ w, Calls Tryd.prog 34 #[.string a] w fun e w' => e = .returned (.tuple #[.int .i64 pn, .bool P]) ∧ Below w.heap.size w w')
    (lb : ∀ w, Calls Tryd.prog 34 #[.string b] w fun e w' => e = .returned (.tuple #[.int .i64 qn, .bool Q]) ∧ Below w.heap.size w w')
    (lc : ∀ w, Calls Tryd.prog 34 #[.string c] w fun e w' => e = .returned (.tuple #[.int .i64 rn, .bool R]) ∧ Below w.heap.size w w')
    (hX : (X = -1 ∧ W = 1) ∨ (X = 0 ∧ W = 0) ∨ (X = 1 ∧ W = -1)) (h : P = Q → Q = R → X ≤ 0 → Y ≤ 0 → Z ≤ 0) :
    Calls Tryd.prog 7 #[.string a, .string b, .string c] w fun e w' => e = .returned (.bool true) ∧ Below w.heap.size w w' := by
  have hc := turns_cases P Q R X W Y Z hX h
  clear h
  rcases hc with (e1 | ⟨e1, e2⟩) | ⟨e1, e2, hh⟩
  · rcases hX with ⟨rfl, rfl⟩ | ⟨rfl, rfl⟩ | ⟨rfl, rfl⟩
    all_goals
      go_enter Tryd.func7, Tryd.ntmps7
      go_wp2_with (first
        | (go_at_call 33; refine c1.mono ?_; rintro e w1 ⟨rfl, hb1⟩)
        | (go_at_call 44; (with_reducible refine (kab _).mono ?_); rintro e w2 ⟨rfl, hb2⟩; have HB2 := below_at hb1 hb2 hb1.size)
        | (go_at_call 44; (with_reducible refine (kbc _).mono ?_); rintro e w3 ⟨rfl, hb3⟩; have HB3 := below_at HB2 hb3 HB2.size)
        | (go_at_call 34; (with_reducible refine (la _).mono ?_); rintro e w4 ⟨rfl, hb4⟩; have HB4 := below_at HB3 hb4 HB3.size)
        | (go_at_call 34; (with_reducible refine (lb _).mono ?_); rintro e w5 ⟨rfl, hb5⟩; have HB5 := below_at HB4 hb5 HB4.size)
        | (go_at_call 34; (with_reducible refine (lc _).mono ?_); rintro e w6 ⟨rfl, hb6⟩; have HB6 := below_at HB5 hb6 HB5.size)
        | (go_at_call 44; (with_reducible refine (kba _).mono ?_); rintro e w7 ⟨rfl, hb7⟩; have HB7 := below_at HB6 hb7 HB6.size)
        | (go_at_call 44; (with_reducible refine (kaa _).mono ?_); rintro e w8 ⟨rfl, hb8⟩; have HB8 := below_at HB7 hb8 HB7.size)
        | (go_at_call 44; (with_reducible refine (kac _).mono ?_); rintro e w9 ⟨rfl, hb9⟩; have HB9 := below_at HB8 hb9 HB8.size))
      all_goals
        go_ret
        exact ⟨by first | rfl | simp, by first | exact HB9 | exact HB8⟩
  · rcases hX with ⟨rfl, rfl⟩ | ⟨rfl, rfl⟩ | ⟨rfl, rfl⟩
    all_goals
      go_enter Tryd.func7, Tryd.ntmps7
      go_wp2_with (first
        | (go_at_call 33; refine c1.mono ?_; rintro e w1 ⟨rfl, hb1⟩)
        | (go_at_call 44; (with_reducible refine (kab _).mono ?_); rintro e w2 ⟨rfl, hb2⟩; have HB2 := below_at hb1 hb2 hb1.size)
        | (go_at_call 44; (with_reducible refine (kbc _).mono ?_); rintro e w3 ⟨rfl, hb3⟩; have HB3 := below_at HB2 hb3 HB2.size)
        | (go_at_call 34; (with_reducible refine (la _).mono ?_); rintro e w4 ⟨rfl, hb4⟩; have HB4 := below_at HB3 hb4 HB3.size)
        | (go_at_call 34; (with_reducible refine (lb _).mono ?_); rintro e w5 ⟨rfl, hb5⟩; have HB5 := below_at HB4 hb5 HB4.size)
        | (go_at_call 34; (with_reducible refine (lc _).mono ?_); rintro e w6 ⟨rfl, hb6⟩; have HB6 := below_at HB5 hb6 HB5.size)
        | (go_at_call 44; (with_reducible refine (kba _).mono ?_); rintro e w7 ⟨rfl, hb7⟩; have HB7 := below_at HB6 hb7 HB6.size)
        | (go_at_call 44; (with_reducible refine (kaa _).mono ?_); rintro e w8 ⟨rfl, hb8⟩; have HB8 := below_at HB7 hb8 HB7.size)
        | (go_at_call 44; (with_reducible refine (kac _).mono ?_); rintro e w9 ⟨rfl, hb9⟩; have HB9 := below_at HB8 hb9 HB8.size))
      all_goals
        go_ret
        exact ⟨by first | rfl | simp, by first | exact HB9 | exact HB8⟩
  · rcases hh with h1 | ⟨_, h2⟩
    · obtain rfl : W = -1 := by omega
      clear hX
      subst h1
      go_enter Tryd.func7, Tryd.ntmps7
      go_wp2_with (first
        | (go_at_call 33; refine c1.mono ?_; rintro e w1 ⟨rfl, hb1⟩)
        | (go_at_call 44; (with_reducible refine (kab _).mono ?_); rintro e w2 ⟨rfl, hb2⟩; have HB2 := below_at hb1 hb2 hb1.size)
        | (go_at_call 44; (with_reducible refine (kbc _).mono ?_); rintro e w3 ⟨rfl, hb3⟩; have HB3 := below_at HB2 hb3 HB2.size)
        | (go_at_call 34; (with_reducible refine (la _).mono ?_); rintro e w4 ⟨rfl, hb4⟩; have HB4 := below_at HB3 hb4 HB3.size)
        | (go_at_call 34; (with_reducible refine (lb _).mono ?_); rintro e w5 ⟨rfl, hb5⟩; have HB5 := below_at HB4 hb5 HB4.size)
        | (go_at_call 34; (with_reducible refine (lc _).mono ?_); rintro e w6 ⟨rfl, hb6⟩; have HB6 := below_at HB5 hb6 HB5.size)
        | (go_at_call 44; (with_reducible refine (kba _).mono ?_); rintro e w7 ⟨rfl, hb7⟩; have HB7 := below_at HB6 hb7 HB6.size)
        | (go_at_call 44; (with_reducible refine (kaa _).mono ?_); rintro e w8 ⟨rfl, hb8⟩; have HB8 := below_at HB7 hb8 HB7.size)
        | (go_at_call 44; (with_reducible refine (kac _).mono ?_); rintro e w9 ⟨rfl, hb9⟩; have HB9 := below_at HB8 hb9 HB8.size))
      all_goals
        go_ret
        exact ⟨by first | rfl | simp, by first | exact HB9 | exact HB8⟩
    · rcases h2 with h2 | ⟨h2, h3⟩
      · have d2 : decide (0 < Y) = true := decide_eq_true h2
        rcases hX with ⟨rfl, rfl⟩ | ⟨rfl, rfl⟩ | ⟨rfl, rfl⟩
        all_goals
          go_enter Tryd.func7, Tryd.ntmps7
          go_wp2_with (first
            | (go_at_call 33; refine c1.mono ?_; rintro e w1 ⟨rfl, hb1⟩)
            | (go_at_call 44; (with_reducible refine (kab _).mono ?_); rintro e w2 ⟨rfl, hb2⟩; have HB2 := below_at hb1 hb2 hb1.size)
            | (go_at_call 44; (with_reducible refine (kbc _).mono ?_); rintro e w3 ⟨rfl, hb3⟩; have HB3 := below_at HB2 hb3 HB2.size)
            | (go_at_call 34; (with_reducible refine (la _).mono ?_); rintro e w4 ⟨rfl, hb4⟩; have HB4 := below_at HB3 hb4 HB3.size)
            | (go_at_call 34; (with_reducible refine (lb _).mono ?_); rintro e w5 ⟨rfl, hb5⟩; have HB5 := below_at HB4 hb5 HB4.size)
            | (go_at_call 34; (with_reducible refine (lc _).mono ?_); rintro e w6 ⟨rfl, hb6⟩; have HB6 := below_at HB5 hb6 HB5.size)
            | (go_at_call 44; (with_reducible refine (kba _).mono ?_); rintro e w7 ⟨rfl, hb7⟩; have HB7 := below_at HB6 hb7 HB6.size)
            | (go_at_call 44; (with_reducible refine (kaa _).mono ?_); rintro e w8 ⟨rfl, hb8⟩; have HB8 := below_at HB7 hb8 HB7.size)
            | (go_at_call 44; (with_reducible refine (kac _).mono ?_); rintro e w9 ⟨rfl, hb9⟩; have HB9 := below_at HB8 hb9 HB8.size))
          all_goals
            go_ret
            exact ⟨by first | rfl | simp, by first | exact HB9 | exact HB8⟩
      · have d2 : decide (0 < Y) = false := decide_eq_false h2
        have d3 : decide (Z ≤ 0) = true := decide_eq_true h3
        rcases hX with ⟨rfl, rfl⟩ | ⟨rfl, rfl⟩ | ⟨rfl, rfl⟩
        all_goals
          go_enter Tryd.func7, Tryd.ntmps7
          go_wp2_with (first
            | (go_at_call 33; refine c1.mono ?_; rintro e w1 ⟨rfl, hb1⟩)
            | (go_at_call 44; (with_reducible refine (kab _).mono ?_); rintro e w2 ⟨rfl, hb2⟩; have HB2 := below_at hb1 hb2 hb1.size)
            | (go_at_call 44; (with_reducible refine (kbc _).mono ?_); rintro e w3 ⟨rfl, hb3⟩; have HB3 := below_at HB2 hb3 HB2.size)
            | (go_at_call 34; (with_reducible refine (la _).mono ?_); rintro e w4 ⟨rfl, hb4⟩; have HB4 := below_at HB3 hb4 HB3.size)
            | (go_at_call 34; (with_reducible refine (lb _).mono ?_); rintro e w5 ⟨rfl, hb5⟩; have HB5 := below_at HB4 hb5 HB4.size)
            | (go_at_call 34; (with_reducible refine (lc _).mono ?_); rintro e w6 ⟨rfl, hb6⟩; have HB6 := below_at HB5 hb6 HB5.size)
            | (go_at_call 44; (with_reducible refine (kba _).mono ?_); rintro e w7 ⟨rfl, hb7⟩; have HB7 := below_at HB6 hb7 HB6.size)
            | (go_at_call 44; (with_reducible refine (kaa _).mono ?_); rintro e w8 ⟨rfl, hb8⟩; have HB8 := below_at HB7 hb8 HB7.size)
            | (go_at_call 44; (with_reducible refine (kac _).mono ?_); rintro e w9 ⟨rfl, hb9⟩; have HB9 := below_at HB8 hb9 HB8.size))
          all_goals
            go_ret
            exact ⟨by first | rfl | simp, by first | exact HB9 | exact HB8⟩
theorem valueTurns_walk (a : ByteArray) (ha : a.size ≤ 140737488351232) (b : ByteArray) (hb : b.size ≤ 140737488351232) (c : ByteArray) (hc : c.size ≤ 140737488351232) (w : World) :
    Calls Tryd.prog 7 #[.string a, .string b, .string c] w fun e w' => e = .returned (.bool true) ∧ Below w.heap.size w w' := by
  have c1 := shownV_any w
  by_cases hbig : (2000 : Int) < (a.size : Int) + (b.size : Int) + (c.size : Int)
  · go_enter Tryd.func7, Tryd.ntmps7
    go_wp2_with (go_at_call 33; refine c1.mono ?_; rintro e w1 ⟨rfl, hb1⟩)
    go_ret
    exact ⟨rfl, hb1⟩
  · have hx := compareD_range a.data.toList b.data.toList
    refine turns_walk0 a b c _ _ _ _ _ _ (compareD a.data.toList b.data.toList) (compareD b.data.toList a.data.toList) (compareD b.data.toList c.data.toList) (compareD a.data.toList c.data.toList) w (by omega) c1
      (fun w => compare_any a b w (by omega) (by omega)) (fun w => compare_any b c w (by omega) (by omega)) (fun w => compare_any b a w (by omega) (by omega))
      (fun w => by have := compare_any a a w (by omega) (by omega); rw [compareD_self] at this; exact this) (fun w => compare_any a c w (by omega) (by omega))
      (fun w => looks_any a w (by omega)) (fun w => looks_any b w (by omega)) (fun w => looks_any c w (by omega)) ?_ (fun p q x y => compareD_trans _ _ _ p q x y)
    have := compareD_turn a.data.toList b.data.toList
    omega
end Go.Proofs.YtokfkckfclnoaaaDoor
