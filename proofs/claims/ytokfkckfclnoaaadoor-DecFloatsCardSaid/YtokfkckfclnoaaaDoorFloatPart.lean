/- The library's Frexp, of a float that is above 0 and finite, by how many times the least one it is. -/
import Derived.Test.YtokfkckfclnoaaaDoorFloatFrexp
namespace Go.Proofs.YtokfkckfclnoaaaDoor
open Go.RowKit

theorem lst_big {y : Nat} (h : 4503599627370496 ≤ y) : mgn y = 4503599627370496 + y % 4503599627370496 ∧ plc y + 1 = y / 4503599627370496 ∧ 1 ≤ y / 4503599627370496 := by
  unfold mgn plc
  rw [if_neg (by omega), if_neg (by omega)]
  omega
theorem lst_small {y : Nat} (h : y < 4503599627370496) : lst y = y := by
  unfold lst mgn plc
  rw [if_pos h, if_pos h]
  simp
theorem word_low {r : Nat} : Ieee.double.word false r = r := by rw [word_eq]; rfl

/-- A part and a power of a float: the part's 53 bits m, and how far (k) they stand above the 52nd place under the least one. -/
def Parts (r m k : Nat) : Prop := 4503599627370496 ≤ m ∧ m < 9007199254740992 ∧ m * 2 ^ k = lst r * 2 ^ 52 ∧ k < 2098

theorem frexp_pos (r : Nat) (hr : r < infR) (h0 : 0 < r) : ∃ m k, Parts r m k ∧ ∀ w, Calls Tryd.prog 126 #[.float .f64 r] w fun e w' => e = .returned (.tuple #[.float .f64 (4602678819172646912 + (m - 4503599627370496)), .int .i64 ((k : Int) - 1073)]) ∧ w = w' := by
  have hI : infR = 9218868437227405312 := rfl
  have hrr : rung r = r := rung_self (by omega)
  by_cases hs : r < 4503599627370496
  · obtain ⟨y, hy, hl⟩ := rung_of r 52 (by omega) (by
      have : r.log2 < 52 := (Nat.log2_lt (by omega)).2 hs
      omega)
    have hy1 : 4503599627370496 ≤ y := by
      refine Nat.le_of_not_lt fun hn => ?_
      have h1 := lst_small hn
      rw [hl] at h1
      have : 1 * 2 ^ 52 ≤ r * 2 ^ 52 := Nat.mul_le_mul_right _ h0
      omega
    obtain ⟨b1, b2, b3⟩ := lst_big hy1
    have hc : rung 4841369599423283200 = 4841369599423283200 := by decide
    have hlc : lst 4841369599423283200 = 2 ^ 52 * 2 ^ 1074 := by
      unfold lst
      rw [show mgn 4841369599423283200 = 2 ^ 52 by decide, show plc 4841369599423283200 = 1074 by decide]
    have hmul : Ieee.double.mul r 4841369599423283200 = some y := by
      have := mul_fin r 4841369599423283200 y (by rw [hrr]; exact hr) (by rw [hc]; decide) hy (by
        rw [hrr, hc, hlc, lst_small hs, hl, Nat.mul_assoc])
      rw [this, sgb_low (by omega), sgb_low (by decide)]
      exact congrArg some word_low
    have hord : (FloatKind.f64.format.order (rung r) 4503599627370496 == some .lt) = true := by
      rw [hrr, order_pos r 4503599627370496 hr (by decide), Nat.compare_eq_lt.2 hs]; rfl
    refine ⟨mgn y, plc y, ⟨by omega, mgn_lt y, ?_, by omega⟩, fun w => ?_⟩
    · show lst y = _
      rw [hl, lst_small hs]
    · refine (frexp_any r y (-52) w hr h0 hy1 hy (by omega) (fun w => normalize_small r y w (by omega) hord hmul)).mono ?_
      rintro e w' ⟨rfl, rfl⟩
      refine ⟨?_, rfl⟩
      rw [b1, Nat.add_sub_cancel_left, show (-52 + (((y / 4503599627370496 : Nat) : Int) - 1023 + 1)) = (plc y : Int) - 1073 by omega]
  · have hord : (FloatKind.f64.format.order (rung r) 4503599627370496 == some .lt) = false := by
      rw [hrr, order_pos r 4503599627370496 hr (by decide)]
      rcases Nat.lt_or_eq_of_le (Nat.le_of_not_lt hs) with h | h
      · rw [Nat.compare_eq_gt.2 h]; rfl
      · rw [← h]; decide
    obtain ⟨b1, b2, b3⟩ := lst_big (Nat.le_of_not_lt hs)
    refine ⟨mgn r, plc r + 52, ⟨by omega, mgn_lt r, ?_, by omega⟩, fun w => ?_⟩
    · unfold lst
      rw [Nat.pow_add, Nat.mul_assoc]
    · refine (frexp_any r r 0 w hr h0 (by omega) hr (by omega) (fun w => normalize_not r w (by omega) hord)).mono ?_
      rintro e w' ⟨rfl, rfl⟩
      refine ⟨?_, rfl⟩
      rw [b1, Nat.add_sub_cancel_left, show (0 + (((r / 4503599627370496 : Nat) : Int) - 1023 + 1)) = ((plc r + 52 : Nat) : Int) - 1073 by omega]

theorem frexp_top (r m : Nat) (p : Int) (kf : ∀ w, Calls Tryd.prog 126 #[.float .f64 r] w fun e w' => e = .returned (.tuple #[.float .f64 m, .int .i64 p]) ∧ w = w') (w : World) :
    Calls Tryd.prog 113 #[.float .f64 r] w fun e w' => e = .returned (.tuple #[.float .f64 m, .int .i64 p]) ∧ w = w' := by
  go_enter Tryd.func113, Tryd.ntmps113
  go_wp2_with (go_at_call 126; refine (kf _).mono ?_; rintro e w' ⟨rfl, rfl⟩)
  go_ret2
  exact ⟨rfl, rfl⟩

end Go.Proofs.YtokfkckfclnoaaaDoor
