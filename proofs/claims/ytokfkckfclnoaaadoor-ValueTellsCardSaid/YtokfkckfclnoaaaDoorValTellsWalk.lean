/- The statement ValueTells, walked. No condition but the reach. -/
import Derived.Test.YtokfkckfclnoaaaDoorValRef
import Derived.Test.YtokfkckfclnoaaaDoorValShown
namespace Go.Proofs.YtokfkckfclnoaaaDoor
open Go.RowKit

set_option maxRecDepth 20000 in
set_option maxHeartbeats 1000000 in
theorem tells_walk0 (s O : ByteArray) (is p t : Bool) (a c ce x xe : Int) (w : World) (hs : (s.size : Int) ≤ 2000)
    (c1 : Calls Tryd.prog 33 #[] w fun e w' => e = .returned (.bool true) ∧ Below w.heap.size w w')
    (k1 : ∀ w, Calls Tryd.prog 34 #[.string s] w fun e w' => e = .returned (.tuple #[.int .i64 a, .bool p]) ∧ Below w.heap.size w w')
    (q1 : ∀ w, Calls Tryd.prog 35 #[.string s] w fun e w' => e = .returned (.tuple #[.int .i64 a, .bool p]) ∧ Below w.heap.size w w')
    (k2 : ∀ w, Calls Tryd.prog 36 #[.string s] w fun e w' => e = .returned (.tuple #[.int .i64 c, .int .i64 ce]) ∧ Below w.heap.size w w')
    (q2 : ∀ w, Calls Tryd.prog 37 #[.string s] w fun e w' => e = .returned (.tuple #[.int .i64 c, .int .i64 ce]) ∧ Below w.heap.size w w')
    (k3 : ∀ w, Calls Tryd.prog 38 #[.string s] w fun e w' => e = .returned (.tuple #[.int .i64 x, .int .i64 xe]) ∧ Below w.heap.size w w')
    (q3 : ∀ w, Calls Tryd.prog 39 #[.string s] w fun e w' => e = .returned (.tuple #[.int .i64 x, .int .i64 xe]) ∧ Below w.heap.size w w')
    (k4 : ∀ w, Calls Tryd.prog 40 #[.string s] w fun e w' => e = .returned (.bool t) ∧ Below w.heap.size w w')
    (q4 : ∀ w, Calls Tryd.prog 41 #[.string s] w fun e w' => e = .returned (.bool t) ∧ Below w.heap.size w w')
    (k5 : ∀ w, Calls Tryd.prog 42 #[.bool is] w fun e w' => e = .returned (.string O) ∧ w = w')
    (q5 : ∀ w, Calls Tryd.prog 43 #[.bool is] w fun e w' => e = .returned (.string O) ∧ w = w') :
    Calls Tryd.prog 6 #[.string s, .bool is] w fun e w' => e = .returned (.bool true) ∧ Below w.heap.size w w' := by
  go_enter Tryd.func6, Tryd.ntmps6
  go_wp2_with (first
    | (go_at_call 33; refine c1.mono ?_; rintro e w1 ⟨rfl, hb1⟩)
    | (go_at_call 34; refine (k1 _).mono ?_; rintro e w2 ⟨rfl, hb2⟩; have HB2 := below_at hb1 hb2 hb1.size)
    | (go_at_call 35; refine (q1 _).mono ?_; rintro e w3 ⟨rfl, hb3⟩; have HB3 := below_at HB2 hb3 HB2.size)
    | (go_at_call 36; refine (k2 _).mono ?_; rintro e w4 ⟨rfl, hb4⟩; have HB4 := below_at HB3 hb4 HB3.size)
    | (go_at_call 37; refine (q2 _).mono ?_; rintro e w5 ⟨rfl, hb5⟩; have HB5 := below_at HB4 hb5 HB4.size)
    | (go_at_call 38; refine (k3 _).mono ?_; rintro e w6 ⟨rfl, hb6⟩; have HB6 := below_at HB5 hb6 HB5.size)
    | (go_at_call 39; refine (q3 _).mono ?_; rintro e w7 ⟨rfl, hb7⟩; have HB7 := below_at HB6 hb7 HB6.size)
    | (go_at_call 40; refine (k4 _).mono ?_; rintro e w8 ⟨rfl, hb8⟩; have HB8 := below_at HB7 hb8 HB7.size)
    | (go_at_call 41; refine (q4 _).mono ?_; rintro e w9 ⟨rfl, hb9⟩; have HB9 := below_at HB8 hb9 HB8.size)
    | (go_at_call 42; refine (k5 _).mono ?_; rintro e w' ⟨rfl, rfl⟩)
    | (go_at_call 43; refine (q5 _).mono ?_; rintro e w' ⟨rfl, rfl⟩))
  all_goals
    go_ret
    exact ⟨by first | rfl | simp, HB9⟩
theorem valueTells_walk (s : ByteArray) (hsz : s.size ≤ 140737488351232) (is : Bool) (w : World) :
    Calls Tryd.prog 6 #[.string s, .bool is] w fun e w' => e = .returned (.bool true) ∧ Below w.heap.size w w' := by
  have c1 := shownV_any w
  by_cases hbig : (2000 : Int) < (s.size : Int)
  · have hdb : decide (2000 < s.size) = true := by rw [decide_eq_true_eq]; omega
    go_enter Tryd.func6, Tryd.ntmps6
    go_wp2_with (go_at_call 33; refine c1.mono ?_; rintro e w1 ⟨rfl, hb1⟩)
    go_ret
    exact ⟨rfl, hb1⟩
  · exact tells_walk0 s _ is _ _ _ _ _ _ _ w (by omega) c1 (fun w => looks_any s w (by omega)) (fun w => refLooks_any s w (by omega)) (fun w => numberV_any s w (by omega)) (fun w => refNumber_any s w (by omega))
      (fun w => low_any s w (by omega)) (fun w => refLow_any s w (by omega)) (fun w => truth_any s w (by omega)) (fun w => refTruth_any s w (by omega)) (fun w => of_any is w) (fun w => refOf_any is w)
end Go.Proofs.YtokfkckfclnoaaaDoor
