/- The document's examples that head each statement of layer 2. Condition: the library's table of powers of ten holds what its text lays. -/
import Derived.Test.YtokfkckfclnoaaaDoorDecText
import Derived.Test.YtokfkckfclnoaaaDoorDecRead
import Derived.Test.YtokfkckfclnoaaaDoorDecCalls
namespace Go.Proofs.YtokfkckfclnoaaaDoor
open Go.RowKit

theorem below_at {B : Nat} {w w1 w2 : World} (h : Below B w w1) (k : Below w1.heap.size w1 w2) (hB : B ≤ w1.heap.size) : Below B w w2 := h.trans (k.mono hB)
theorem read_shown : readE [45, 49, 46, 53, 48, 120] = .returned (.tuple #[.int .i64 (-1500000), .int .i64 5, .int .i64 0]) := by
  have : readD [45, 49, 46, 53, 48, 120] = (-1500000, 5, 0) := by decide +kernel
  unfold readE; rw [this]
theorem text_shown1 : str (textL (-1500000)) = .string ⟨#[45, 49, 46, 53]⟩ := by
  have h1 : Lib.decDigits 1 = [49] := decDigits_small (by omega)
  have h2 : textL (-1500000) = [45, 49, 46, 53] := by
    show 45 :: (Lib.decDigits 1 ++ (if stripZ (frac 6 500000) = [] then [] else 46 :: stripZ (frac 6 500000))) = _
    rw [h1]; decide +kernel
  unfold str; rw [h2]
theorem text_shown2 : str (textL 333333) = .string ⟨#[48, 46, 51, 51, 51, 51, 51, 51]⟩ := by
  have h1 : Lib.decDigits 0 = [48] := decDigits_small (by omega)
  have h2 : textL 333333 = [48, 46, 51, 51, 51, 51, 51, 51] := by
    show Lib.decDigits 0 ++ (if stripZ (frac 6 333333) = [] then [] else 46 :: stripZ (frac 6 333333)) = _
    rw [h1]; decide +kernel
  unfold str; rw [h2]
theorem div_shown : intoE ((1000000 * 1000000 : Int).tdiv 3000000) = .returned (.tuple #[.int .i64 333333, .int .i64 0]) := by
  have h : (1000000 * 1000000 : Int).tdiv 3000000 = 333333 := by decide +kernel
  rw [h]
  exact intoE_in (by omega)

theorem shown_any (w : World) (ht : Tab w) :
    Calls Tryd.prog 12 #[] w fun e w' => e = .returned (.bool true) ∧ Below w.heap.size w w' := by
  have k1 : ∀ w, Calls Tryd.prog 13 #[.string ⟨#[45, 49, 46, 53, 48, 120]⟩] w fun e w' => e = .returned (.tuple #[.int .i64 (-1500000), .int .i64 5, .int .i64 0]) ∧ Below w.heap.size w w' := by
    intro w
    have := read_any ⟨#[45, 49, 46, 53, 48, 120]⟩ w (by decide)
    rw [show (⟨#[45, 49, 46, 53, 48, 120]⟩ : ByteArray).data.toList = [45, 49, 46, 53, 48, 120] from rfl, read_shown] at this
    exact this
  have k2 : ∀ w, Calls Tryd.prog 23 #[.int .i64 1000000, .int .i64 3000000] w fun e w' => e = .returned (.tuple #[.int .i64 333333, .int .i64 0]) ∧ Below w.heap.size w w' := by
    intro w
    have := div_any 1000000 3000000 w (by omega) (by omega) (by omega)
    rw [div_shown] at this
    exact this
  have k3 : ∀ w, Tab w → Calls Tryd.prog 15 #[.int .i64 (-1500000)] w fun e w' => e = .returned (.string ⟨#[45, 49, 46, 53]⟩) ∧ Below w.heap.size w w' := by
    intro w ht
    have := text_any (-1500000) w (by omega) ht
    rw [text_shown1] at this
    exact this
  have k4 : ∀ w, Tab w → Calls Tryd.prog 15 #[.int .i64 333333] w fun e w' => e = .returned (.string ⟨#[48, 46, 51, 51, 51, 51, 51, 51]⟩) ∧ Below w.heap.size w w' := by
    intro w ht
    have := text_any 333333 w (by omega) ht
    rw [text_shown2] at this
    exact this
  have HT := Lib.hid ht
  clear ht
  go_enter Tryd.func12, Tryd.ntmps12
  go_wp2_with (first
    | (go_at_call 13; refine (k1 _).mono ?_; rintro e w1 ⟨rfl, hb1⟩)
    | (go_at_call 23; refine (k2 _).mono ?_; rintro e w2 ⟨rfl, hb2⟩; have HB := below_at hb1 hb2 hb1.size)
    | (go_at_call 15; first | (with_reducible refine (k3 _ (HT.out.below HB)).mono ?_; rintro e w3 ⟨rfl, hb3⟩; have HB3 := below_at HB hb3 HB.size) | (with_reducible refine (k4 _ (HT.out.below HB3)).mono ?_; rintro e w4 ⟨rfl, hb4⟩; have HB4 := below_at HB3 hb4 HB3.size)))
  all_goals
    go_ret
    exact ⟨rfl, HB4⟩
end Go.Proofs.YtokfkckfclnoaaaDoor
