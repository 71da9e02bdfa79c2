/- The statement DecTexts, walked. Condition: the library's table of powers of ten holds what its text lays. -/
import Derived.Test.YtokfkckfclnoaaaDoorDecRefReadAny
import Derived.Test.YtokfkckfclnoaaaDoorDecRefText
import Derived.Test.YtokfkckfclnoaaaDoorDecShown
namespace Go.Proofs.YtokfkckfclnoaaaDoor
open Go.RowKit

theorem texts_walk0 (s S : ByteArray) (n a i er : Int) (w : World) (ht : Tab w) (hs : (s.size : Int) ≤ 3000)
    (k1 : ∀ w, Calls Tryd.prog 13 #[.string s] w fun e w' => e = .returned (.tuple #[.int .i64 a, .int .i64 i, .int .i64 er]) ∧ Below w.heap.size w w')
    (k2 : ∀ w, Calls Tryd.prog 14 #[.string s] w fun e w' => e = .returned (.tuple #[.int .i64 a, .int .i64 i, .int .i64 er]) ∧ Below w.heap.size w w')
    (k3 : ∀ w, Tab w → Calls Tryd.prog 15 #[.int .i64 n] w fun e w' => e = .returned (.string S) ∧ Below w.heap.size w w')
    (k4 : ∀ w, Tab w → Calls Tryd.prog 16 #[.int .i64 n] w fun e w' => e = .returned (.string S) ∧ Below w.heap.size w w') :
    Calls Tryd.prog 3 #[.string s, .int .i64 n] w fun e w' => e = .returned (.bool true) ∧ Below w.heap.size w w' := by
  have c1 := shown_any w ht
  have HT := Lib.hid ht
  clear ht
  go_enter Tryd.func3, Tryd.ntmps3
  go_wp2_with (first
    | (go_at_call 12; with_reducible refine c1.mono ?_; rintro e w1 ⟨rfl, hb1⟩)
    | (go_at_call 13; refine (k1 _).mono ?_; rintro e w2 ⟨rfl, hb2⟩; have HB2 := below_at hb1 hb2 hb1.size)
    | (go_at_call 14; refine (k2 _).mono ?_; rintro e w3 ⟨rfl, hb3⟩; have HB3 := below_at HB2 hb3 HB2.size)
    | (go_at_call 15; refine (k3 _ (HT.out.below HB3)).mono ?_; rintro e w4 ⟨rfl, hb4⟩; have HB4 := below_at HB3 hb4 HB3.size)
    | (go_at_call 16; refine (k4 _ (HT.out.below HB4)).mono ?_; rintro e w5 ⟨rfl, hb5⟩; have HB5 := below_at HB4 hb5 HB4.size))
  all_goals
    go_ret
    exact ⟨by first | rfl | simp, HB5⟩
theorem decTexts_walk (s : ByteArray) (hsz : s.size ≤ 140737488351232) (n : Int) (hn : -9223372036854775808 ≤ n ∧ n ≤ 9223372036854775807) (w : World) (ht : Tab w) :
    Calls Tryd.prog 3 #[.string s, .int .i64 n] w fun e w' => e = .returned (.bool true) ∧ Below w.heap.size w w' := by
  by_cases hbig : (3000 : Int) < (s.size : Int)
  · have c1 := shown_any w ht
    clear ht
    have hdb : decide (3000 < s.size) = true := by rw [decide_eq_true_eq]; omega
    go_enter Tryd.func3, Tryd.ntmps3
    go_wp2_with (go_at_call 12; with_reducible refine c1.mono ?_; rintro e w1 ⟨rfl, hb1⟩)
    go_ret
    exact ⟨rfl, hb1⟩
  · exact texts_walk0 s _ n _ _ _ w ht (by omega) (fun w => read_any s w (by omega)) (fun w => refRead_any s w (by omega)) (fun w ht => text_any n w hn ht) (fun w _ => refText_any n w hn)
end Go.Proofs.YtokfkckfclnoaaaDoor
