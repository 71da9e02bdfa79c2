/- The document's examples that head each statement of layer 2. Condition: the library's table of powers of ten holds what its text lays. -/
import Derived.Test.YtokfkckfclnoaaaGreatDoorDecText
import Derived.Test.YtokfkckfclnoaaaGreatDoorDecRead
import Derived.Test.YtokfkckfclnoaaaGreatDoorDecCalls
namespace Go.Proofs.YtokfkckfclnoaaaGreatDoor
open Go.RowKit

theorem below_at {B : Nat} {w w1 w2 : World} (h : Below B w w1) (k : Below w1.heap.size w1 w2) (hB : B ≤ w1.heap.size) : Below B w w2 := h.trans (k.mono hB)
theorem read_shown : readE [45, 49, 46, 53, 48, 120] = .returned (.tuple #[.int .i64 (-1500000), .int .i64 5, .int .i64 0]) := by
  have : readD [45, 49, 46, 53, 48, 120] = (-1500000, 5, 0) := by decide +kernel
  unfold readE; rw [this]
theorem text_shown1 : str (textL (-1500000)) = .string ⟨#[45, 49, 46, 53]⟩ := by
  have h1 : Lib.decDigits 1 = [49] := decDigits_small (by omega)
  have h2 : textL (-1500000) = [45, 49, 46, 53] := by
    show 45 :: (Lib.decDigits 1 ++ (if stripZ (frac 6 500000) = [] then [] else 46 :: stripZ (frac 6 500000))) = _
    rw [h1]; decide +kernel
  unfold str; rw [h2]
theorem text_shown2 : str (textL 333333) = .string ⟨#[48, 46, 51, 51, 51, 51, 51, 51]⟩ := by
  have h1 : Lib.decDigits 0 = [48] := decDigits_small (by omega)
  have h2 : textL 333333 = [48, 46, 51, 51, 51, 51, 51, 51] := by
    show Lib.decDigits 0 ++ (if stripZ (frac 6 333333) = [] then [] else 46 :: stripZ (frac 6 333333)) = _
    rw [h1]; decide +kernel
  unfold str; rw [h2]
theorem div_shown : intoE ((1000000 * 1000000 : Int).tdiv 3000000) = .returned (.tuple #[.int .i64 333333, .int .i64 0]) := by
  have h : (1000000 * 1000000 : Int).tdiv 3000000 = 333333 := by decide +kernel
  rw [h]
  exact intoE_in (by omega)

end Go.Proofs.YtokfkckfclnoaaaGreatDoor
