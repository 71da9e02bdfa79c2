/- hex.Figures and the document's examples that head each statement: under the one condition that the library's table of powers of ten holds what its text lays. -/
import Derived.Test.YteggmkjpidfdgaaDoorHexHex
import Derived.Test.YteggmkjpidfdgaaDoorHexName
import Derived.Test.YteggmkjpidfdgaaDoorShelf
import Derived.Lib.LaidTab
namespace Go.Proofs.YteggmkjpidfdgaaDoor
open Go.RowKit Go.Lib Go.Sort

/-- The library's table of powers of ten holds what its text lays. -/
def Tab (w : World) : Prop := Lib.TabIs Tryd.prog w "internal/strconv.uint64pow10" .u64 Lib.pow10Tab
theorem below_grow {B : Nat} {a w : World} (h : Below B a w) (hB : B ≤ w.heap.size) (os : Array Obj) : Below B a (Sort.grow w os) :=
  h.trans ⟨rfl, rfl, rfl, by simp [Sort.grow], fun k hk => by simp only [Sort.grow]; rw [Array.getElem?_append_left (by omega)]⟩
theorem Tab.below {w w' : World} (h : Tab w) (hb : Below w.heap.size w w') : Tab w' := by
  have hg : Tryd.prog.globalNamed "internal/strconv.uint64pow10" = some 0 := by kernel_rfl
  have hc := Lib.TabIs.cell h hg 0 (by decide)
  have hlt : 0 < w.heap.size := by
    by_cases hl : 0 < w.heap.size
    · exact hl
    · exfalso
      simp [World.cell?, Array.getElem?_eq_none (Nat.le_of_not_lt hl)] at hc
  exact var?_below hb hg hlt h

set_option maxHeartbeats 400000 in
theorem figures_any (n : Int) (w : World) (h0 : -9223372036854775808 ≤ n) (h1 : n ≤ 9223372036854775807) (ht : Tab w) :
    Calls Tryd.prog 21 #[.int .i64 n] w fun e w' => e = .returned (.string ⟨(Lib.itoa n).toArray⟩) ∧ Below w.heap.size w w' := by
  have hc := (Tryd.strconv_FormatInt_10 n h0 h1 w ht).mono (fun e w' h => (⟨h.1, by
    obtain ⟨k, os, rfl⟩ := h.2
    exact below_grow (below_draws (Below.refl _ _) k) (Nat.le_refl _) os⟩ : e = .returned (.string ⟨(Lib.itoa n).toArray⟩) ∧ Below w.heap.size w w'))
  clear h0 h1
  go_enter Tryd.func21, Tryd.ntmps21
  go_wp2_with (go_at_call 30; refine hc.mono ?_; rintro e w' ⟨rfl, hb⟩)
  go_ret
  exact ⟨rfl, hb⟩

set_option maxHeartbeats 400000 in
theorem shown_any (w : World) (ht : Tab w) :
    Calls Tryd.prog 10 #[] w fun e w' => e = .returned (.bool true) ∧ Below w.heap.size w w' := by
  have c1 : ∀ w, Calls Tryd.prog 13 #[.string ⟨#[65, 122]⟩] w fun e w' => e = .returned (.string ⟨#[120, 52, 49, 55, 97]⟩) ∧ Below w.heap.size w w' := fun w =>
    (hex_any ⟨#[65, 122]⟩ w (by decide)).mono fun e w' h => ⟨h.1.trans (by rw [show hexT (⟨#[65, 122]⟩ : ByteArray).data.toList = [120, 52, 49, 55, 97] by decide +kernel]), h.2⟩
  have c2 : ∀ w, Tab w → Calls Tryd.prog 21 #[.int .i64 (-10)] w fun e w' => e = .returned (.string ⟨#[45, 49, 48]⟩) ∧ Below w.heap.size w w' := fun w ht =>
    (figures_any (-10) w (by omega) (by omega) ht).mono fun e w' h => ⟨h.1.trans (by rw [show Lib.itoa (-10) = [45, 49, 48] by decide +kernel]), h.2⟩
  have c3 : ∀ w, Calls Tryd.prog 15 #[.string ⟨#[97, 95, 49]⟩] w fun e w' => e = .returned (.bool true) ∧ Below w.heap.size w w' := fun w =>
    (isName_any ⟨#[97, 95, 49]⟩ w (by decide)).mono fun e w' h => ⟨h.1.trans (by rw [show isNameB (⟨#[97, 95, 49]⟩ : ByteArray).data.toList = true by decide +kernel]), h.2⟩
  go_enter Tryd.func10, Tryd.ntmps10
  go_wp2_with (first
    | (go_at_call 13; refine (c1 _).mono ?_; rintro e w1 ⟨rfl, hb1⟩)
    | (go_at_call 21; refine (c2 _ (ht.below hb1)).mono ?_; rintro e w2 ⟨rfl, hb2⟩)
    | (go_at_call 15; refine (c3 _).mono ?_; rintro e w3 ⟨rfl, hb3⟩))
  go_ret
  exact ⟨rfl, (hb1.trans (hb2.mono hb1.size)).trans (hb3.mono (Nat.le_trans hb1.size hb2.size))⟩
end Go.Proofs.YteggmkjpidfdgaaDoor
