/- Packed texts: ClsPlain. What each of them proves stands above its theorems; the conditions stand in these. -/
import Derived.Lib.Hide
import Derived.Test.YtgceckejchdnlaaGreatDoorB3
import Derived.Test.YtgceckejchdnlaaGreatDoorB5
namespace Go.Proofs.YtgceckejchdnlaaGreatDoor
open Go.RowKit Go.Lib

/-- How a byte is written: plainly, or by its number. -/
def plainL (c : UInt8) : List UInt8 := if c = 32 ∨ restOk c = true then [c] else 92 :: hexT [c]
theorem plain_length (c : UInt8) : 1 ≤ (plainL c).length ∧ (plainL c).length ≤ 4 := by
  unfold plainL
  split
  · simp
  · simp [hexT_length]
theorem name_one (c : UInt8) : isNameB [95, c] = restOk c := by
  show (true && (isLet 95 && ([c].all restOk))) = restOk c
  have h : isLet 95 = true := by decide
  rw [h]
  simp

set_option maxHeartbeats 400000 in
theorem plain_walk (c : UInt8) (b : Bool) (T : ByteArray) (w : World) (hT : T.size ≤ 3) (hb : ((c.toNat : Int) == 32) = b) (nb : Bool)
    (k1 : ∀ w, Calls Tryz.prog 82 #[.string ⟨#[95, c]⟩] w fun e w' => e = .returned (.bool nb) ∧ Below w.heap.size w w')
    (k2 : ∀ w, Calls Tryz.prog 87 #[.string ⟨[c].toArray⟩] w fun e w' => e = .returned (.string T) ∧ Below w.heap.size w w') :
    Calls Tryz.prog 73 #[.int .u8 (c.toNat : Int)] w fun e w' => e = .returned (.string (if b = true ∨ nb = true then ⟨[c].toArray⟩ else ⟨#[92]⟩ ++ T)) ∧ Below w.heap.size w w' := by
  obtain ⟨R, hR⟩ : ∃ R : ByteArray, R = (if b = true ∨ nb = true then ⟨[c].toArray⟩ else ⟨#[92]⟩ ++ T) := ⟨_, rfl⟩
  rw [← hR]
  have HR := Lib.hid hR
  clear hR
  have kc := fun w => conv_new1 (P := Tryz.prog) 53 9 5 Tryz.underlying53 Tryz.underlying5 Tryz.underlying9 w (c.toNat : Int) c rfl
  go_enter Tryz.func73, Tryz.ntmps73
  go_wp2_with (first
    | (go_at_call 82; refine (k1 _).mono ?_; rintro e w1 ⟨rfl, hb1⟩)
    | (go_at_call 87; refine (k2 _).mono ?_; rintro e w2 ⟨rfl, hb2⟩))
  · rename_i h
    go_ret
    exact ⟨by rw [HR.out, if_pos (.inl h)]; rfl, (Below.refl _ w).alloc (Nat.le_refl _) _⟩
  · rename_i h
    go_ret
    exact ⟨by rw [HR.out, if_pos (.inr h)]; rfl, (((Below.refl _ w).alloc (Nat.le_refl _) _).trans (hb1.mono (by simp)))⟩
  · go_ret
    refine ⟨?_, (((Below.refl _ w).alloc (Nat.le_refl _) _).trans (hb1.mono (by simp))).trans (hb2.mono (by have := hb1.size; simp at this; omega))⟩
    rw [HR.out, if_neg (by intro h; rcases h with h | h <;> simp_all)]
    rfl
theorem plain_any (c : UInt8) (w : World) : Calls Tryz.prog 73 #[.int .u8 (c.toNat : Int)] w fun e w' => e = .returned (.string ⟨(plainL c).toArray⟩) ∧ Below w.heap.size w w' := by
  have k1 : ∀ w, Calls Tryz.prog 82 #[.string ⟨#[95, c]⟩] w fun e w' => e = .returned (.bool (restOk c)) ∧ Below w.heap.size w w' := fun w => by
    have h := isName_any ⟨#[95, c]⟩ w (by show 2 ≤ _; decide)
    rwa [show isNameB (⟨#[95, c]⟩ : ByteArray).data.toList = restOk c from name_one c] at h
  have k2 := fun w => hex_any ⟨[c].toArray⟩ w (by show 1 ≤ _; decide)
  refine (plain_walk c _ _ w (by show (hexT [c]).length ≤ 3; rw [hexT_length]; simp) rfl _ k1 k2).mono fun e w' h => ⟨h.1.trans ?_, h.2⟩
  congr 2
  unfold plainL
  have e32 : (((c.toNat : Int) == 32) = true) = (c = 32) := by
    apply propext
    rw [beq_iff_eq]
    constructor
    · intro h
      apply UInt8.toNat_inj.1
      show c.toNat = 32
      omega
    · intro h; rw [h]; rfl
  by_cases h : c = 32 ∨ restOk c = true
  · rw [if_pos (h.imp_left e32.mpr), if_pos h]
  · rw [if_neg (fun h2 => h (h2.imp_left e32.mp)), if_neg h]
    rfl
end Go.Proofs.YtgceckejchdnlaaGreatDoor
