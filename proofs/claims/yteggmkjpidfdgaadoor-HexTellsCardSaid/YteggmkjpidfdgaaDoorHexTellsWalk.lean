/- The statement HexTells, walked: the call returns true at every text and byte and writes nothing that was there. Condition: the library's table of powers of ten holds what its text lays. -/
import Derived.Test.YteggmkjpidfdgaaDoorHexBackWalk
import Derived.Test.YteggmkjpidfdgaaDoorHexUnRef
import Derived.Test.YteggmkjpidfdgaaDoorHexNameRef
namespace Go.Proofs.YteggmkjpidfdgaaDoor
open Go.RowKit Go.Lib

set_option maxHeartbeats 1000000 in
theorem hexTells_walk (s : ByteArray) (hs : s.size ≤ maxLen) (c : UInt8) (w : World) (ht : Tab w) :
    Calls Tryd.prog 3 #[.string s, .int .u8 (c.toNat : Int)] w fun e w' => e = .returned (.bool true) ∧ Below w.heap.size w w' := by
  unfold maxLen at hs
  have c1 := shown_any w ht
  by_cases hbig : 5000 < s.size
  · go_enter Tryd.func3, Tryd.ntmps3
    go_wp2_with (first | (go_at_call 10; refine c1.mono ?_; rintro e w1 ⟨rfl, hb1⟩))
    go_ret
    exact ⟨rfl, hb1⟩
  · have hsz : s.size ≤ 5000 := by omega
    have k1 := fun w => hex_any s w (by omega)
    have k2 := fun w => refHex_any s w (by omega)
    have k3 := fun w => isName_any s w (by omega)
    have k4 := fun w => refIsName_any s w (by omega)
    have k5 := fun w => digit_any c w
    have k6 := fun w => refDigit_any c w
    generalize (⟨(hexT s.data.toList).toArray⟩ : ByteArray) = H at k1 k2
    generalize isNameB s.data.toList = bn at k3 k4
    generalize digN c = d at k5 k6
    have ku : ∃ (B : ByteArray) (x : Int), unhexE s.data.toList = .returned (.tuple #[.string B, .int .i64 x]) := by
      cases hu : unhexO s.data.toList with
      | none => exact ⟨_, _, unhexE_none hu⟩
      | some l => exact ⟨_, _, unhexE_some hu⟩
    obtain ⟨B, x, hB⟩ := ku
    have k7 := fun w => unhex_any s w (by omega)
    have k8 := fun w => refUnhex_any s w (by omega)
    rw [hB] at k7 k8
    clear hB hbig hs
    go_enter Tryd.func3, Tryd.ntmps3
    go_wp2_with (first
      | (go_at_call 10; refine c1.mono ?_; rintro e w1 ⟨rfl, HB⟩)
      | (go_at_call 11; refine (k7 _).mono ?_; rintro e w2 ⟨rfl, hb⟩; replace HB : Below w.heap.size w w2 := below_step HB hb; clear hb)
      | (go_at_call 12; refine (k8 _).mono ?_; rintro e w2 ⟨rfl, hb⟩; replace HB : Below w.heap.size w w2 := below_step HB hb; clear hb)
      | (go_at_call 13; refine (k1 _).mono ?_; rintro e w2 ⟨rfl, hb⟩; replace HB : Below w.heap.size w w2 := below_step HB hb; clear hb)
      | (go_at_call 14; refine (k2 _).mono ?_; rintro e w2 ⟨rfl, hb⟩; replace HB : Below w.heap.size w w2 := below_step HB hb; clear hb)
      | (go_at_call 15; refine (k3 _).mono ?_; rintro e w2 ⟨rfl, hb⟩; replace HB : Below w.heap.size w w2 := below_step HB hb; clear hb)
      | (go_at_call 16; refine (k4 _).mono ?_; rintro e w2 ⟨rfl, rfl⟩)
      | (go_at_call 17; refine (k5 _).mono ?_; rintro e w2 ⟨rfl, rfl⟩)
      | (go_at_call 18; refine (k6 _).mono ?_; rintro e w2 ⟨rfl, rfl⟩))
    go_ret
    exact ⟨rfl, HB⟩
end Go.Proofs.YteggmkjpidfdgaaDoor
