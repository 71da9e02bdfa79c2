/- Packed texts: HexFiguresWalk. What each of them proves stands above its theorems; the conditions stand in these. -/
import Derived.Lib.ItoaLen
import Derived.Test.YtgceckejchdnlaaGreatDoorB1
import Derived.Test.YtgceckejchdnlaaGreatDoorB3
import Derived.Test.YtgceckejchdnlaaGreatDoorB4
import Derived.Test.YtgceckejchdnlaaGreatDoorB5
namespace Go.Proofs.YtgceckejchdnlaaGreatDoor
open Go.RowKit Go.Lib

theorem isFig_dig (d : Nat) (h : d < 10) : isFig (UInt8.ofNat (48 + d)) = true ∧ figV (UInt8.ofNat (48 + d)) = d := by
  have : ∀ m : Fin 10, isFig (UInt8.ofNat (48 + m.val)) = true ∧ figV (UInt8.ofNat (48 + m.val)) = m.val := by decide +kernel
  exact this ⟨d, h⟩
theorem decDigits_figs (u : Nat) : (decDigits u).all isFig = true ∧ natOf (decDigits u) = u := by
  induction u using Nat.strongRecOn with
  | _ u ih =>
    by_cases h : u < 10
    · rw [decDigits, dif_pos h]
      have := isFig_dig u h
      refine ⟨by rw [List.all_cons, List.all_nil, this.1]; rfl, ?_⟩
      show 10 * 0 + figV (UInt8.ofNat (48 + u)) = u
      rw [this.2]; omega
    · rw [decDigits, dif_neg h]
      obtain ⟨h1, h2⟩ := ih (u / 10) (by omega)
      have := isFig_dig (u % 10) (by omega)
      refine ⟨by rw [List.all_append, h1, List.all_cons, List.all_nil, this.1]; rfl, ?_⟩
      rw [natOf_snoc, h2, this.2]; omega
theorem decDigits_ne (u : Nat) : decDigits u ≠ [] := by
  intro h
  have h1 := congrArg List.length h
  rw [decDigits_length, List.length_nil] at h1
  have h2 := nDigits_pos u
  omega
end Go.Proofs.YtgceckejchdnlaaGreatDoor
