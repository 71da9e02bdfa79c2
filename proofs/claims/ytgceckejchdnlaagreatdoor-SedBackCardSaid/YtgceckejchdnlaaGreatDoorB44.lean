/- Packed texts: HexNameRef. What each of them proves stands above its theorems; the conditions stand in these. -/
import Derived.Test.YtgceckejchdnlaaGreatDoorB3
import Derived.Test.YtgceckejchdnlaaGreatDoorB4
namespace Go.Proofs.YtgceckejchdnlaaGreatDoor
open Go.RowKit Go.Lib

set_option maxHeartbeats 1000000 in
theorem refIsName_any (s : ByteArray) (w : World) (hs : s.size ≤ 70000000000000) :
    Calls Tryz.prog 16 #[.string s] w fun e w' => e = .returned (.bool (isNameB s.data.toList)) ∧ w = w' := by
  go_enter Tryz.func16, Tryz.ntmps16
  go_wp2
  go_loop [3] (fun i => ∃ k : Nat, k ≤ s.size ∧ i = .int .i64 k ∧ namePre (s.data.toList.take k) = true) (fun i => s.size - (RowKit.intOf i).toNat)
  case atStart => exact ⟨0, Nat.zero_le _, rfl, rfl⟩
  case round =>
    obtain ⟨k, hk, rfl, hpre⟩ := hrel
    have HP := Lib.hid hpre
    clear hpre
    by_cases hlt : k < s.size
    · have hsn := Lib.hid (namePre_take s k hlt)
      have hno := Lib.hid (namePre_no s (k + 1))
      obtain ⟨c, hcc⟩ : ∃ c, s[k] = c := ⟨_, rfl⟩
      rw [hcc] at hsn
      have cls : ((c.toNat : Int) < 48) ∨ (48 ≤ (c.toNat : Int) ∧ (c.toNat : Int) ≤ 57) ∨ (58 ≤ (c.toNat : Int) ∧ (c.toNat : Int) ≤ 64) ∨ (65 ≤ (c.toNat : Int) ∧ (c.toNat : Int) ≤ 90) ∨ (91 ≤ (c.toNat : Int) ∧ (c.toNat : Int) ≤ 94) ∨ ((c.toNat : Int) = 95) ∨ ((c.toNat : Int) = 96) ∨ (97 ≤ (c.toNat : Int) ∧ (c.toNat : Int) ≤ 122) ∨ (123 ≤ (c.toNat : Int)) := by omega
      rcases cls with h | ⟨h, h'⟩ | ⟨h, h'⟩ | ⟨h, h'⟩ | ⟨h, h'⟩ | h | h | ⟨h, h'⟩ | h <;> by_cases h0 : 0 < k
      all_goals
        first
        | have hn := Lib.hid (show nameOk k c = true by simp [nameOk, isLet, isFig]; omega)
        | have hn := Lib.hid (show nameOk k c = false by rw [Bool.eq_false_iff]; simp [nameOk, isLet, isFig]; omega)
        first
        | have h9 : ((c.toNat : Int) == 95) = false := by simp; omega
        | have h9 : ((c.toNat : Int) == 95) = true := by simp; omega
        first
        | have h8 : ((k : Int) == 0) = false := by simp; omega
        | have h8 : ((k : Int) == 0) = true := by simp; omega
        first
        | have h7 : decide ((c.toNat : Int) ≤ 90) = false := by simp; omega
        | have h7 : decide ((c.toNat : Int) ≤ 90) = true := by simp; omega
        first
        | have h6 : decide ((c.toNat : Int) ≤ 122) = false := by simp; omega
        | have h6 : decide ((c.toNat : Int) ≤ 122) = true := by simp; omega
        go_wp2
        first
        | go_ret
          refine ⟨ret_bool ?_, rfl⟩
          rw [hno.out (by rw [hsn.out, hn.out]; simp)]
        | go_round
          case rel => exact ⟨k + 1, by omega, by go_num, by rw [hsn.out, hn.out, HP.out]; rfl⟩
          case measure => simp [RowKit.intOf]; omega
    · have hall : s.data.toList.take k = s.data.toList := List.take_of_length_le (by simp; omega)
      have HA := Lib.hid hall
      clear hall
      go_wp2
      all_goals
        go_ret
        refine ⟨ret_bool ?_, rfl⟩
        have := HP.out
        rw [HA.out] at this
        simp only [isNameB, this, isEmpty_size]
        by_cases h0 : s.size = 0 <;> simp [h0]
        try omega
end Go.Proofs.YtgceckejchdnlaaGreatDoor
