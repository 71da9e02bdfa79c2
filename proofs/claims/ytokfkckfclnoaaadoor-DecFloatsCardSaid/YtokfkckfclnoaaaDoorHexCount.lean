/- hex.count and hex.size: how many figures a text begins with, and the number that figures tell where it is at most the given one. Conditions: the text is shorter than 2^46; of size: it is figures alone, and the given number lies between 9 and 2^63. -/
import Derived.Test.YtokfkckfclnoaaaDoorHexWholeMath
namespace Go.Proofs.YtokfkckfclnoaaaDoor
open Go.RowKit Go.Lib

set_option maxHeartbeats 400000 in
theorem count_any (s : ByteArray) (w : World) (hs : s.size ≤ 70000000000000) :
    Calls Tryd.prog 105 #[.string s] w fun e w' => e = .returned (.int .i64 ((figs s.data.toList).length : Int)) ∧ w = w' := by
  go_enter Tryd.func105, Tryd.ntmps105
  go_wp2
  go_loop [6] (fun i => ∃ k : Nat, k ≤ s.size ∧ i = .int .i64 k ∧ Hid ((s.data.toList.take k).all isFig = true)) (fun i => s.size - (intOf i).toNat)
  case atStart => exact ⟨0, Nat.zero_le _, rfl, rfl⟩
  case round =>
    obtain ⟨k, hk, rfl, HP⟩ := hrel
    by_cases hlt : k < s.size
    · have HT := Lib.hid (take_snoc s k hlt)
      have HE := Lib.hid (figs_at s k hlt HP.out)
      obtain ⟨c, hc⟩ : ∃ c, s[k] = c := ⟨_, rfl⟩
      rw [hc] at HT HE
      have cf := fun w => isFigure_any c w
      generalize hb : isFig c = b at cf HE
      have HB := Lib.hid hb
      clear hb
      cases b
      · go_wp2_with (go_at_call 117; refine (cf _).mono ?_; rintro e w' ⟨rfl, rfl⟩)
        go_ret
        exact ⟨ret_int (by rw [HE.out (by simp)]), rfl⟩
      · go_wp2_with (go_at_call 117; refine (cf _).mono ?_; rintro e w' ⟨rfl, rfl⟩)
        go_round
        case rel =>
          refine ⟨k + 1, by omega, by go_num, ?_⟩
          show (s.data.toList.take (k + 1)).all isFig = true
          rw [HT.out, List.all_append, HP.out]
          simp [HB.out]
        case measure => simp [intOf]; omega
    · have HA := Lib.hid (show s.data.toList.all isFig = true by
        have := HP.out
        rw [List.take_of_length_le (by rw [Array.length_toList]; exact Nat.le_of_not_lt hlt)] at this
        exact this)
      go_wp2
      go_ret
      exact ⟨ret_int (by rw [figs_whole s HA.out]), rfl⟩

theorem fig_bounds (c : UInt8) (h : isFig c = true) : 48 ≤ (c.toNat : Int) ∧ (c.toNat : Int) ≤ 57 := by
  unfold isFig at h
  simpa only [Bool.and_eq_true, decide_eq_true_eq] using h
theorem all_at (s : ByteArray) (k : Nat) (hk : k < s.size) (h : s.data.toList.all isFig = true) : isFig s[k] = true := by
  rw [List.all_eq_true] at h
  exact h _ (List.getElem_mem (by rw [Array.length_toList]; exact hk))

/-- What size answers. -/
def sizeE (n m : Int) : Ending := .returned (.tuple (if n ≤ m then #[.int .u64 n, .bool true] else #[.int .u64 0, .bool false]))
theorem sizeE_yes {n m : Int} (h : n ≤ m) : Ending.returned (.tuple #[.int .u64 n, .bool true]) = sizeE n m := by unfold sizeE; rw [if_pos h]
theorem sizeE_no {n m : Int} (h : m < n) : Ending.returned (.tuple #[.int .u64 0, .bool false]) = sizeE n m := by unfold sizeE; rw [if_neg (by omega)]

set_option maxHeartbeats 400000 in
theorem size_any (s : ByteArray) (m : Int) (w : World) (hs : s.size ≤ 70000000000000) (hf : s.data.toList.all isFig = true) (hm0 : 9 ≤ m) (hm1 : m ≤ 9223372036854775808) :
    Calls Tryd.prog 106 #[.string s, .int .u64 m] w fun e w' =>
      e = sizeE (natOf s.data.toList : Int) m ∧ w = w' := by
  have HF := Lib.hid hf
  clear hf
  go_enter Tryd.func106, Tryd.ntmps106
  go_wp2
  go_loop [6, 11] (fun n i => ∃ (k : Nat) (a : Int), k ≤ s.size ∧ i = .int .i64 k ∧ n = .int .u64 a ∧ Hid (a = natOf (s.data.toList.take k)) ∧ 0 ≤ a ∧ a ≤ m) (fun _ i => s.size - (intOf i).toNat)
  case atStart => exact ⟨0, 0, Nat.zero_le _, rfl, rfl, rfl, Int.le_refl _, by omega⟩
  case round =>
    obtain ⟨k, a, hk, rfl, rfl, HA, ha0, ham⟩ := hrel
    by_cases hlt : k < s.size
    · have HS := Lib.hid (natOf_snoc (s.data.toList.take k) s[k])
      have HT := Lib.hid (take_snoc s k hlt)
      have hc := fig_bounds _ (all_at s k hlt HF.out)
      have HL : Hid (natOf (s.data.toList.take (k + 1)) ≤ natOf s.data.toList) := by
        have := natOf_mono (s.data.toList.take (k + 1)) (s.data.toList.drop (k + 1))
        rw [List.take_append_drop] at this; exact this
      obtain ⟨z, hz⟩ : ∃ z : Int, (s[k].toNat : Int) = z := ⟨_, rfl⟩
      rw [hz] at hc
      have HZ : Hid ((figV s[k] : Int) = z - 48) := by
        show (figV s[k] : Int) = z - 48
        unfold figV; omega
      obtain ⟨hc0, hc1⟩ := hc
      by_cases ho : (m - (z - 48)) / 10 < a
      · have HO : Hid (m < (natOf s.data.toList : Int)) := by
          show m < (natOf s.data.toList : Int)
          have h1 := HL.out
          rw [HT.out, HS.out] at h1
          have h2 := HA.out
          have h3 := HZ.out
          omega
        go_wp2
        go_ret2
        exact ⟨sizeE_no HO.out, rfl⟩
      · have h9 : 0 ≤ 10 * a + (z - 48) := by omega
        have h10 : 10 * a + (z - 48) ≤ m := by omega
        go_wp2
        go_round
        case rel =>
          refine ⟨k + 1, 10 * a + (z - 48), by omega, by go_num, rfl, ?_, h9, h10⟩
          show _ = ((natOf (s.data.toList.take (k + 1)) : Nat) : Int)
          rw [HT.out, HS.out]
          have h2 := HA.out
          have h3 := HZ.out
          omega
        case measure => simp [intOf]; omega
    · have HX := Lib.hid (show a = natOf s.data.toList by
        have := HA.out
        rw [List.take_of_length_le (by rw [Array.length_toList]; exact Nat.le_of_not_lt hlt)] at this
        exact this)
      go_wp2
      go_ret2
      rw [← HX.out]
      exact ⟨sizeE_yes ham, rfl⟩
end Go.Proofs.YtokfkckfclnoaaaDoor
