/- The statement HexNumbers, walked: the call returns true at every number and text and writes nothing that was there. Condition: the library's table of powers of ten holds what its text lays. -/
import Derived.Test.YteggmkjpidfdgaaDoorHexNamesWalk
import Derived.Test.YteggmkjpidfdgaaDoorHexFigRef
import Derived.Test.YteggmkjpidfdgaaDoorHexWholeRef
namespace Go.Proofs.YteggmkjpidfdgaaDoor
open Go.RowKit Go.Lib

set_option maxHeartbeats 1000000 in
theorem hexNumbers_walk (n : Int) (hn : -9223372036854775808 ≤ n ∧ n ≤ 9223372036854775807) (s : ByteArray) (hs : s.size ≤ maxLen) (w : World) (ht : Tab w) :
    Calls Tryd.prog 4 #[.int .i64 n, .string s] w fun e w' => e = .returned (.bool true) ∧ Below w.heap.size w w' := by
  unfold maxLen at hs
  have c1 := shown_any w ht
  by_cases hbig : 5000 < s.size
  · clear hn
    go_enter Tryd.func4, Tryd.ntmps4
    go_wp2_with (first | (go_at_call 10; refine c1.mono ?_; rintro e w1 ⟨rfl, hb1⟩))
    go_ret
    exact ⟨rfl, hb1⟩
  · have hsz : s.size ≤ 5000 := by omega
    have k1 := fun w (ht : Tab w) => figures_any n w hn.1 hn.2 ht
    have k2 := fun w => refFigures_any n w hn.1 hn.2
    have k3 := fun w => whole_any s w (by omega)
    have k4 := fun w => refWhole_any s w (by omega)
    unfold wholeE at k3 k4
    generalize (⟨(Lib.itoa n).toArray⟩ : ByteArray) = F at k1 k2
    generalize (wholeD s.data.toList).1 = x at k3 k4
    generalize (wholeD s.data.toList).2.1 = y at k3 k4
    generalize (wholeD s.data.toList).2.2 = z at k3 k4
    clear hbig hs hn
    go_enter Tryd.func4, Tryd.ntmps4
    go_wp2_with (first
      | (go_at_call 10; refine c1.mono ?_; rintro e w1 ⟨rfl, HB⟩)
      | (go_at_call 19; refine (k3 _).mono ?_; rintro e w2 ⟨rfl, rfl⟩)
      | (go_at_call 20; refine (k4 _).mono ?_; rintro e w2 ⟨rfl, rfl⟩)
      | (go_at_call 21; refine (k1 _ (ht.below HB)).mono ?_; rintro e w2 ⟨rfl, hb⟩; replace HB : Below w.heap.size w w2 := below_step HB hb; clear hb)
      | (go_at_call 22; refine (k2 _).mono ?_; rintro e w2 ⟨rfl, hb⟩; replace HB : Below w.heap.size w w2 := below_step HB hb; clear hb))
    go_ret
    exact ⟨rfl, HB⟩
end Go.Proofs.YteggmkjpidfdgaaDoor
