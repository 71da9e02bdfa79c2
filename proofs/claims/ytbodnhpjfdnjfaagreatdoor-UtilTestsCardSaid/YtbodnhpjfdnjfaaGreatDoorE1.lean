/- Packed texts: Tab. What each of them proves stands above its theorems; the conditions stand in these. -/
import Derived.Below
import Derived.Lib.LaidTab
import Derived.Test.YtbodnhpjfdnjfaaGreatDoorShelf
import Derived.Test.YtbodnhpjfdnjfaaGreatDoorE0
namespace Go.Proofs.YtbodnhpjfdnjfaaGreatDoor
open Go.RowKit Go.Lib Go.Sort

/-- The library's table of powers of ten holds what its text lays. -/
def Tab (w : World) : Prop := Lib.TabIs Tryz.prog w "internal/strconv.uint64pow10" .u64 Lib.pow10Tab
theorem below_grow {B : Nat} {a w : World} (h : Below B a w) (hB : B ≤ w.heap.size) (os : Array Obj) : Below B a (Sort.grow w os) :=
  h.trans ⟨rfl, rfl, rfl, by simp [Sort.grow], fun k hk => by simp only [Sort.grow]; rw [Array.getElem?_append_left (by omega)]⟩
theorem Tab.below {w w' : World} (h : Tab w) (hb : Below w.heap.size w w') : Tab w' := by
  have hg : Tryz.prog.globalNamed "internal/strconv.uint64pow10" = some 3 := by kernel_rfl
  have hc := Lib.TabIs.cell h hg 0 (by decide)
  have hlt : 3 < w.heap.size := by
    by_cases hl : 3 < w.heap.size
    · exact hl
    · exfalso
      simp [World.cell?, Array.getElem?_eq_none (Nat.le_of_not_lt hl)] at hc
  exact var?_below hb hg hlt h

set_option maxHeartbeats 400000 in
theorem figures_any (n : Int) (w : World) (h0 : -9223372036854775808 ≤ n) (h1 : n ≤ 9223372036854775807) (ht : Tab w) :
    Calls Tryz.prog 124 #[.int .i64 n] w fun e w' => e = .returned (.string ⟨(Lib.itoa n).toArray⟩) ∧ Below w.heap.size w w' := by
  have hc := (Tryz.strconv_FormatInt_10 n h0 h1 w ht).mono (fun e w' h => (⟨h.1, by
    obtain ⟨k, os, rfl⟩ := h.2
    exact below_grow (below_draws (Below.refl _ _) k) (Nat.le_refl _) os⟩ : e = .returned (.string ⟨(Lib.itoa n).toArray⟩) ∧ Below w.heap.size w w'))
  clear h0 h1
  go_enter Tryz.func124, Tryz.ntmps124
  go_wp2_with (go_at_call 174; refine hc.mono ?_; rintro e w' ⟨rfl, hb⟩)
  go_ret
  exact ⟨rfl, hb⟩

end Go.Proofs.YtbodnhpjfdnjfaaGreatDoor
