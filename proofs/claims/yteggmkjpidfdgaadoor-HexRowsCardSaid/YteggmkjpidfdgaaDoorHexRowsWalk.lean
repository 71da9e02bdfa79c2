/- The statement HexRows, walked: the call returns true at every two texts within the reach and writes nothing that was there. Condition: the library's table of powers of ten holds what its text lays. -/
import Derived.Test.YteggmkjpidfdgaaDoorHexBackWalk
import Derived.Deep.RegionHeld3
namespace Go.Proofs.YteggmkjpidfdgaaDoor
open Go.RowKit Go.Lib

theorem extract_one (s : ByteArray) : (s.extract 1 s.size).data.toList = s.data.toList.tail := by
  rw [Lib.extract_data]
  have : s.size = s.data.toList.length := by rw [Array.length_toList]; rfl
  rw [this, List.drop_one, List.take_of_length_le]
  rw [List.length_tail]; exact Nat.le_refl _
theorem ext_list {a b : ByteArray} (h : a.data.toList = b.data.toList) : a = b := by
  rw [← mk_data a, h, mk_data]

set_option maxHeartbeats 1000000 in
theorem hexRows_walk (a : ByteArray) (ha : a.size ≤ 140737488351232) (b : ByteArray) (hb0 : b.size ≤ 140737488351232) (w : World) (ht : Tab w) :
    Calls Tryd.prog 8 #[.string a, .string b] w fun e w' => e = .returned (.bool true) ∧ Below w.heap.size w w' := by
  have c1 := shown_any w ht
  by_cases hbig : 3000 < a.size + b.size
  · have hbb : (3000 : Int) < (a.size : Int) + (b.size : Int) := by omega
    go_enter Tryd.func8, Tryd.ntmps8
    go_wp2_with (first | (go_at_call 10; refine c1.mono ?_; rintro e w1 ⟨rfl, hb1⟩))
    go_ret
    exact ⟨rfl, hb1⟩
  · obtain ⟨X, hX⟩ : ∃ X : ByteArray, X = ⟨(hexT a.data.toList).toArray⟩ := ⟨_, rfl⟩
    obtain ⟨Y, hY⟩ : ∃ Y : ByteArray, Y = ⟨(hexT b.data.toList).toArray⟩ := ⟨_, rfl⟩
    have hXl : X.data.toList = hexT a.data.toList := by rw [hX]
    have hYl : Y.data.toList = hexT b.data.toList := by rw [hY]
    have len : ∀ s : ByteArray, s.data.toList.length = s.size := fun s => by rw [Array.length_toList]; rfl
    have hXs : X.size = 1 + 2 * a.size := by rw [← len, hXl, hexT_length, len]
    have hYs : Y.size = 1 + 2 * b.size := by rw [← len, hYl, hexT_length, len]
    obtain ⟨Z, hZ⟩ : ∃ Z : ByteArray, Z = Y.extract 1 Y.size := ⟨_, rfl⟩
    have hZl : Z.data.toList = hexL b.data.toList := by rw [hZ, extract_one, hYl]; rfl
    have hZs : Z.size = 2 * b.size := by rw [← len, hZl, hexL_length, len]
    have hXZ : (X ++ Z).data.toList = hexT (a ++ b).data.toList := by
      rw [ByteArray.data_append, Array.toList_append, hXl, hZl, ByteArray.data_append, Array.toList_append]
      simp [hexT, hexL_append]
    have k1 : ∀ w, Calls Tryd.prog 13 #[.string a] w fun e w' => e = .returned (.string X) ∧ Below w.heap.size w w' := fun w => by
      rw [hX]; exact hex_any a w (by omega)
    have k2 : ∀ w, Calls Tryd.prog 13 #[.string b] w fun e w' => e = .returned (.string Y) ∧ Below w.heap.size w w' := fun w => by
      rw [hY]; exact hex_any b w (by omega)
    have k3 : ∀ w, Calls Tryd.prog 11 #[.string (X ++ Z)] w fun e w' => e = .returned (.tuple #[.string (a ++ b), .int .i64 0]) ∧ Below w.heap.size w w' := fun w =>
      (unhex_any (X ++ Z) w (by rw [ByteArray.size_append]; omega)).mono fun e w' h => ⟨h.1.trans (by rw [hXZ, unhexE_some (unhexO_hexT _), mk_data]), h.2⟩
    have h35 : (a ++ b).size ≤ 70000000000000 := by rw [ByteArray.size_append]; omega
    have k4 : ∀ w, Calls Tryd.prog 13 #[.string (a ++ b)] w fun e w' => e = .returned (.string (X ++ Z)) ∧ Below w.heap.size w w' := fun w =>
      (hex_any (a ++ b) w h35).mono fun e w' h => ⟨h.1.trans (by rw [← hXZ, mk_data]), h.2⟩
    have hXY : (X.toList == Y.toList) = (a.toList == b.toList) := by
      rw [ByteArray.toList_eq, ByteArray.toList_eq, ByteArray.toList_eq, ByteArray.toList_eq, hXl, hYl, Bool.eq_iff_iff]
      simp only [beq_iff_eq]
      exact ⟨fun h => hexT_inj _ _ h, fun h => by rw [h]⟩
    have hn1 : (9223372036854775807 < a.size + b.size) = False := by simp only [eq_iff_iff, iff_false]; omega
    have hn2 : (9223372036854775807 < X.size + Z.size) = False := by simp only [eq_iff_iff, iff_false]; omega
    have hY0 : ((Y.size : Int) == 0) = false := by rw [beq_eq_false_iff_ne]; omega
    have hY1 : (1 : Int) ≤ (Y.size : Int) := by omega
    have hab : (a.size : Int) + (b.size : Int) ≤ 3000 := by omega
    have ha5 : a.size ≤ 3000 := by omega
    have hext : Y.extract 1 Y.size = Z := hZ.symm
    clear hX hY hXl hYl hXs hYs hZ hZl hZs hXZ len hbig h35
    go_enter Tryd.func8, Tryd.ntmps8
    go_wp2_with (first
      | (go_at_call 10; refine c1.mono ?_; rintro e w1 ⟨rfl, HB⟩)
      | (go_at_call 13; (first | with_reducible refine (k1 _).mono ?_ | with_reducible refine (k2 _).mono ?_ | with_reducible refine (k4 _).mono ?_); rintro e w2 ⟨rfl, hb⟩; replace HB : Below w.heap.size w w2 := below_step HB hb; clear hb)
      | (go_at_call 11; with_reducible refine (k3 _).mono ?_; rintro e w2 ⟨rfl, hb⟩; replace HB : Below w.heap.size w w2 := below_step HB hb; clear hb))
    go_region_held3 (fun w' => Below w.heap.size w w') (first | assumption | exact HB.drew | exact below_step HB.drew hb)
      (first | (go_at_call 13; with_reducible refine (k4 _).mono ?_; rintro e w2 ⟨rfl, hb⟩))
    all_goals
      have HE : Below w.heap.size w w2 := by assumption
      go_wp2
      go_ret
      exact ⟨rfl, HE⟩
end Go.Proofs.YteggmkjpidfdgaaDoor
