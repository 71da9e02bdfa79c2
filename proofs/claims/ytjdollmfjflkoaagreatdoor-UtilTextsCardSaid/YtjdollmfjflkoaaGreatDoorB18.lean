/- Packed texts: UtFields. What each of them proves stands above its theorems; the conditions stand in these. -/
import Derived.Test.YtjdollmfjflkoaaGreatDoorShelf
import Derived.Test.YtjdollmfjflkoaaGreatDoorB15
namespace Go.Proofs.YtjdollmfjflkoaaGreatDoor
open Go.RowKit Go.Lib

theorem blankRune_any (x : Nat) (w : World) : Calls Tryz.prog 25 #[.int .i32 (x : Int)] w fun e w' => e = .returned (.bool (blankR x)) ∧ Below w.heap.size w w' := by
  have h1 : ((x : Int) == 32) = (x == 32) := by rw [Bool.eq_iff_iff, beq_iff_eq, beq_iff_eq]; omega
  have h2 : ((x : Int) == 9) = (x == 9) := by rw [Bool.eq_iff_iff, beq_iff_eq, beq_iff_eq]; omega
  unfold blankR
  rw [← h1, ← h2]
  clear h1 h2
  by_cases g1 : (x : Int) = 32
  · rw [g1]
    go_enter Tryz.func25, Tryz.ntmps25
    go_wp2
    go_ret
    exact ⟨rfl, Below.refl _ _⟩
  · have g1' : ((x : Int) == 32) = false := beq_eq_false_iff_ne.2 g1
    rw [g1']
    by_cases g2 : (x : Int) = 9
    · rw [g2]
      go_enter Tryz.func25, Tryz.ntmps25
      go_wp2
      go_ret
      exact ⟨rfl, Below.refl _ _⟩
    · have g2' : ((x : Int) == 9) = false := beq_eq_false_iff_ne.2 g2
      rw [g2']
      go_enter Tryz.func25, Tryz.ntmps25
      go_wp2
      go_ret
      exact ⟨rfl, Below.refl _ _⟩
def fldB (l : List UInt8) : List ByteArray := (fieldsU l).map ba
theorem goFields_fldB (s : ByteArray) : goFieldsP blankR s = fldB s.data.toList := by
  unfold fldB
  rw [← fields_eq, List.map_map]
  conv => lhs; rw [← List.map_id (goFieldsP blankR s)]
  exact List.map_congr_left fun x _ => (ba_ext rfl : x = ba x.data.toList)
theorem fieldsU_any (s : ByteArray) (w : World) (hs : s.size ≤ 1000000) :
    Calls Tryz.prog 11 #[.string s] w fun e w' => ∃ A, e = .returned (.slice (some ⟨A, 0, none⟩) (fldB s.data.toList).length (fldB s.data.toList).length) ∧ (∀ (j : Nat) x, (fldB s.data.toList)[j]? = some x → A < w'.heap.size ∧ w'.cell? ⟨A, j, none⟩ = some (.string x)) ∧ Below w.heap.size w w' := by
  have k1 := Tryz.strings_FieldsFunc_grows 25 #[] (enters_of Tryz.func25 (by kernel_rfl) rfl) blankR s w (by omega) (fun W x _ _ => blankRune_any x W)
  rw [goFields_fldB] at k1
  have K1 := Lib.hid k1
  clear k1
  go_enter Tryz.func11, Tryz.ntmps11
  go_wp2_with (first
    | (go_at_call 24; refine (K1.out).mono ?_; rintro e w1 ⟨A, rfl, hA, hown, hb1⟩; have HO := Lib.hid hown; have HB := Lib.hid hb1; clear hown hb1))
  go_ret
  refine ⟨A, rfl, fun j x hj => ?_, HB.out⟩
  have hlt := (List.getElem?_eq_some_iff.1 hj).1
  have hc := HO.out.cellAt j (by omega)
  rw [List.getElem?_map, hj] at hc
  exact ⟨lt_cell hc, hc⟩
theorem fldB_len (l : List UInt8) : (fldB l).length = (fieldsU l).length := by unfold fldB; rw [List.length_map]
theorem fldB_at {l : List UInt8} {j : Nat} (h : j < (fieldsU l).length) : (fldB l)[j]? = some (ba (fieldsU l)[j]) := by unfold fldB; rw [List.getElem?_map, List.getElem?_eq_getElem h]; rfl
theorem field_none (s : ByteArray) (n : Int) (w : World) (hs : s.size ≤ 1000000) (h0 : n ≠ 0) (h : n < 0 ∨ ((fieldsU s.data.toList).length : Int) < n) :
    Calls Tryz.prog 13 #[.string s, .int .i64 n] w fun e w' => e = .returned (.string ⟨#[]⟩) ∧ Below w.heap.size w w' := by
  have K := Lib.hid (fun W => fieldsU_any s W hs)
  have hl := (fieldsU_len s.data.toList).1
  rw [← size_eq] at hl
  rw [fldB_len] at K
  generalize (fieldsU s.data.toList).length = m at *
  have h0' : (n == 0) = false := beq_eq_false_iff_ne.2 h0
  by_cases h1 : n < 0
  · clear h h0
    go_enter Tryz.func13, Tryz.ntmps13
    go_wp2_with (first
      | (go_at_call 11; refine (K.out _).mono ?_; rintro e w1 ⟨A, rfl, -, hb1⟩; have HB := Lib.hid hb1; clear hb1))
    go_ret
    exact ⟨rfl, HB.out⟩
  · have h2 : (m : Int) < n := by omega
    clear h h0
    go_enter Tryz.func13, Tryz.ntmps13
    go_wp2_with (first
      | (go_at_call 11; refine (K.out _).mono ?_; rintro e w1 ⟨A, rfl, -, hb1⟩; have HB := Lib.hid hb1; clear hb1))
    go_ret
    exact ⟨rfl, HB.out⟩
theorem field_some (s : ByteArray) (j : Nat) (x : ByteArray) (w : World) (hs : s.size ≤ 1000000) (hj : (fldB s.data.toList)[j]? = some x) :
    Calls Tryz.prog 13 #[.string s, .int .i64 ((j : Int) + 1)] w fun e w' => e = .returned (.string x) ∧ Below w.heap.size w w' := by
  have K := Lib.hid (fun W => fieldsU_any s W hs)
  have hl := (fieldsU_len s.data.toList).1
  have hlt := (List.getElem?_eq_some_iff.1 hj).1
  rw [← size_eq] at hl
  rw [fldB_len] at K hlt
  generalize (fieldsU s.data.toList).length = m at *
  have HJ := Lib.hid hj
  have h0 : (((j : Int) + 1) == 0) = false := beq_eq_false_iff_ne.2 (by omega)
  have h1 : ¬ ((j : Int) + 1) < 0 := by omega
  have h2 : ¬ (m : Int) < (j : Int) + 1 := by omega
  have h3 : (j : Int) + 1 - 1 = (j : Int) := by omega
  have h4 : (j : Int) < (m : Int) := by omega
  clear hj
  go_enter Tryz.func13, Tryz.ntmps13
  go_wp2_with (first
    | (go_at_call 11; refine (K.out _).mono ?_; rintro e w1 ⟨A, rfl, hc, hb1⟩; have HB := Lib.hid hb1; have hcell := (hc j x HJ.out).2; clear hb1 hc))
  go_ret
  exact ⟨rfl, HB.out⟩
theorem field_nought (s : ByteArray) (w : World) : Calls Tryz.prog 13 #[.string s, .int .i64 0] w fun e w' => e = .returned (.string s) ∧ w' = w := by
  go_enter Tryz.func13, Tryz.ntmps13
  go_wp2
  go_ret
  exact ⟨rfl, rfl⟩
end Go.Proofs.YtjdollmfjflkoaaGreatDoor
