/- The statement HexNames, walked: the call returns true at every text and byte and writes nothing that was there. Condition: the library's table of powers of ten holds what its text lays. -/
import Derived.Test.YteggmkjpidfdgaaDoorHexShown
namespace Go.Proofs.YteggmkjpidfdgaaDoor
open Go.RowKit Go.Lib

theorem below_step {w w1 w2 : World} (h : Below w.heap.size w w1) (k : Below w1.heap.size w1 w2) : Below w.heap.size w w2 := h.trans (k.mono h.size)
theorem isNameB_snoc (l : List UInt8) (c : UInt8) (h : isNameB l = true) : isNameB (l ++ [c]) = (isLet c || isFig c) := by
  unfold isNameB at h ⊢
  simp only [Bool.and_eq_true, Bool.not_eq_true'] at h
  rw [namePre_snoc, h.2]
  cases l with
  | nil => simp at h
  | cons d r => simp [nameOk]
theorem isNameB_one (c : UInt8) : isNameB [c] = isLet c := by simp [isNameB, namePre]
theorem isNameB_fig (c : UInt8) (l : List UInt8) (h : isFig c = true) : isNameB (c :: l) = false := by
  have hl : isLet c = false := by
    unfold isFig at h
    unfold isLet
    simp only [Bool.and_eq_true, decide_eq_true_eq] at h
    rw [Bool.eq_false_iff]
    simp only [ne_eq, Bool.or_eq_true, Bool.and_eq_true, decide_eq_true_eq]
    omega
  simp [isNameB, namePre, hl]

set_option maxHeartbeats 1000000 in
theorem hexNames_walk (s : ByteArray) (hs : s.size ≤ maxLen) (c : UInt8) (w : World) (ht : Tab w) :
    Calls Tryd.prog 7 #[.string s, .int .u8 (c.toNat : Int)] w fun e w' => e = .returned (.bool true) ∧ Below w.heap.size w w' := by
  unfold maxLen at hs
  have c1 := shown_any w ht
  by_cases hbig : 1000 < s.size
  · go_enter Tryd.func7, Tryd.ntmps7
    go_wp2_with (first | (go_at_call 10; refine c1.mono ?_; rintro e w1 ⟨rfl, hb1⟩))
    go_ret
    exact ⟨rfl, hb1⟩
  · obtain ⟨D, hD⟩ : ∃ D : ByteArray, D = ⟨[c].toArray⟩ := ⟨_, rfl⟩
    obtain ⟨z, hz⟩ : ∃ z : Int, z = (c.toNat : Int) := ⟨_, rfl⟩
    have hd1 : D.size = 1 := by rw [hD]; rfl
    have hdl : D.data.toList = [c] := by rw [hD]
    have kc := fun w => conv_new1 (P := Tryd.prog) 39 9 5 Tryd.underlying39 Tryd.underlying5 Tryd.underlying9 w (c.toNat : Int) c rfl
    rw [← hD, ← hz] at kc
    have k0 := fun w => isName_any s w (by omega)
    have k1 := fun w => isName_any D w (by omega)
    have k2 := fun w => isName_any (s ++ D) w (by rw [ByteArray.size_append]; omega)
    have k3 := fun w => isName_any (⟨#[]⟩ : ByteArray) w (by decide)
    have k4 := fun w => isName_any (D ++ s) w (by rw [ByteArray.size_append]; omega)
    rw [hdl, isNameB_one] at k1
    rw [ByteArray.data_append, Array.toList_append, hdl] at k2 k4
    rw [show isNameB (⟨#[]⟩ : ByteArray).data.toList = false from rfl] at k3
    have e2 : isNameB s.data.toList = true → isNameB (s.data.toList ++ [c]) = (isLet c || isFig c) := isNameB_snoc _ c
    have e4 : isFig c = true → isNameB ([c] ++ s.data.toList) = false := isNameB_fig c _
    have hfz : isFig c = (decide (48 ≤ z) && decide (z ≤ 57)) := by rw [hz]; rfl
    have hn := (show (9223372036854775807 < s.size + D.size) = False by simp only [eq_iff_iff, iff_false]; omega)
    have hn2 := (show (9223372036854775807 < D.size + s.size) = False by simp only [eq_iff_iff, iff_false]; omega)
    rw [← hz]
    clear hD hz hdl hd1
    generalize hb0 : isNameB s.data.toList = b0 at k0 e2
    generalize hb2 : isNameB (s.data.toList ++ [c]) = b2 at k2 e2
    generalize hb4 : isNameB ([c] ++ s.data.toList) = b4 at k4 e4
    generalize hbl : isLet c = bl at k1 e2
    clear hb0 hb2 hb4 hbl
    have cls : (48 ≤ z ∧ z ≤ 57) ∨ z < 48 ∨ 57 < z := by omega
    have hff : isFig c = decide (48 ≤ z ∧ z ≤ 57) := by rw [hfz, Bool.eq_iff_iff]; simp
    rw [hff] at e2 e4
    clear hfz hff
    rcases cls with ⟨h1, h2⟩ | h1 | h1 <;> cases b0 <;> cases bl
    all_goals
      first | (have h5 := e4 (decide_eq_true (by omega)); subst h5; clear e4) | clear e4
      first | (have h6 := e2 rfl; rw [show decide (48 ≤ z ∧ z ≤ 57) = true from decide_eq_true (by omega)] at h6; simp only [Bool.or_true] at h6; subst h6; clear e2) | (have h6 := e2 rfl; rw [show decide (48 ≤ z ∧ z ≤ 57) = false from decide_eq_false (by omega)] at h6; simp only [Bool.or_false] at h6; subst h6; clear e2) | clear e2
      first | have t1 : decide (z ≤ 57) = true := decide_eq_true (by omega) | have t1 : decide (z ≤ 57) = false := decide_eq_false (by omega)
      go_enter Tryd.func7, Tryd.ntmps7
      go_wp2_with (first
        | (go_at_call 10; refine c1.mono ?_; rintro e w1 ⟨rfl, HB⟩)
        | (go_at_call 15; (first | with_reducible refine (k0 _).mono ?_ | with_reducible refine (k1 _).mono ?_ | with_reducible refine (k2 _).mono ?_ | with_reducible refine (k3 _).mono ?_ | with_reducible refine (k4 _).mono ?_); rintro e w2 ⟨rfl, hb⟩; replace HB : Below w.heap.size w w2 := (by first | exact below_step HB hb | exact below_step (HB.alloc HB.size _) hb); clear hb))
      go_ret
      refine ⟨?_, HB⟩
      first | rfl | exact ret_bool (by simp; omega)
end Go.Proofs.YteggmkjpidfdgaaDoor
