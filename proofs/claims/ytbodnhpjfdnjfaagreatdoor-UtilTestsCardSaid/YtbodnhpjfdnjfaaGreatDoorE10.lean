/- Packed texts: UtRef2. What each of them proves stands above its theorems; the conditions stand in these. -/
import Derived.Test.YtbodnhpjfdnjfaaGreatDoorE5
import Derived.Test.YtbodnhpjfdnjfaaGreatDoorE9
namespace Go.Proofs.YtbodnhpjfdnjfaaGreatDoor
open Go.RowKit Go.Lib

theorem subU_eq (l : List UInt8) (f m : Int) (hm : 1 ≤ m) : subU l f m = (l.take (f + m - 1).toNat).drop (f - 1).toNat := by
  unfold subU
  by_cases h : (l.length : Int) < f
  · rw [if_pos (.inr h), List.drop_eq_nil_of_le (by rw [List.length_take]; omega)]
  · rw [if_neg (by omega)]
    by_cases hf : f < 1
    · rw [if_pos hf, show (f - 1).toNat = 0 by omega, List.drop_zero, show m + f - 1 = f + m - 1 by omega]
    · rw [if_neg hf, List.drop_take]
      congr 1
      omega
theorem subU_snoc (x : List UInt8) (c : UInt8) (f m : Int) : subU (x ++ [c]) f m = subU x f m ++ (if 1 ≤ m ∧ f ≤ (x.length : Int) + 1 ∧ (x.length : Int) + 1 - f < m then [c] else []) := by
  by_cases hm : 1 ≤ m
  · rw [subU_eq _ _ _ hm, subU_eq _ _ _ hm]
    generalize hb : (f + m - 1).toNat = b
    generalize ha : (f - 1).toNat = a
    by_cases hk : x.length < b
    · rw [List.take_of_length_le (l := x ++ [c]) (by rw [List.length_append, List.length_singleton]; omega), List.take_of_length_le (l := x) (by omega)]
      by_cases hka : a ≤ x.length
      · rw [if_pos ⟨hm, by omega, by omega⟩, List.drop_append_of_le_length hka]
      · rw [if_neg (fun h => by omega), List.append_nil, List.drop_eq_nil_of_le (show x.length ≤ a by omega), List.drop_eq_nil_of_le (by rw [List.length_append, List.length_singleton]; omega)]
    · rw [if_neg (fun h => by omega), List.append_nil, List.take_append_of_le_length (by omega)]
  · rw [if_neg (fun h => hm h.1), List.append_nil]
    unfold subU
    rw [if_pos (.inl (by omega)), if_pos (.inl (by omega))]
theorem subU_nil (f m : Int) : subU [] f m = [] := by
  unfold subU
  split
  · rfl
  · split <;> simp
set_option maxHeartbeats 2000000 in
set_option maxRecDepth 20000 in
theorem refSubU_any (s : ByteArray) (f m : Int) (w : World) (hs : s.size ≤ 1000000) (h1 : -9223372036854775808 ≤ f ∧ f ≤ 9223372036854775807) (h2 : -9223372036854775808 ≤ m ∧ m ≤ 9223372036854775807) :
    Calls Tryz.prog 29 #[.string s, .int .i64 f, .int .i64 m] w fun e w' => e = .returned (.string (ba (subU s.data.toList f m))) ∧ w' = w := by
  obtain ⟨R, hR⟩ : ∃ R, ba (subU s.data.toList f m) = R := ⟨_, rfl⟩
  rw [hR]
  have HR := Lib.hid hR
  clear hR
  have HL := Lib.hid (size_eq s)
  go_enter Tryz.func29, Tryz.ntmps29
  go_wp2_with fail
  go_loopw [7, 8] (fun t i wr => ∃ (k : Nat) (T : ByteArray), k ≤ s.size ∧ t = .string T ∧ i = .int .i64 k ∧ wr = w ∧ T.size ≤ k ∧ Hid (T.data.toList = subU (s.data.toList.take k) f m)) (fun _ i _ => s.size - (RowKit.intOf i).toNat)
  case atStart => exact ⟨0, ⟨#[]⟩, Nat.zero_le _, rfl, rfl, rfl, Nat.le_refl _, by rw [List.take_zero]; exact (subU_nil f m).symm⟩
  case round =>
    obtain ⟨k, T, hk, rfl, rfl, rfl, hT, HT⟩ := hrel
    by_cases hlt : k < s.size
    · have hltI : (k : Int) < (s.size : Int) := by omega
      have hwk : IntKind.i64.wrap ((k : Int) + 1) = (k : Int) + 1 := IntWalk.i64_in _ (by omega)
      have htk : s.data.toList.take (k + 1) = s.data.toList.take k ++ [s[k]] := by
        rw [List.take_add_one, data_getElem? s k hlt]
        rfl
      have hst := subU_snoc (s.data.toList.take k) s[k] f m
      rw [← htk, List.length_take, ← size_eq, Nat.min_eq_left (Nat.le_of_lt hlt)] at hst
      have hpl : (s.extract k (k + 1)).data.toList = [s[k]] := by
        rw [extract_piece]
        unfold pieceU
        rw [show k + 1 - k = 1 by omega, List.take_one, List.head?_drop, data_getElem? s k hlt]
        rfl
      have hps : (s.extract k (k + 1)).size = 1 := by rw [size_eq, hpl]; rfl
      by_cases hin : 1 ≤ m ∧ f ≤ (k : Int) + 1 ∧ (k : Int) + 1 - f < m
      · rw [if_pos hin] at hst
        obtain ⟨g1, g2, g3⟩ := hin
        have HS := Lib.hid (And.intro hst hpl)
        clear hst hpl htk
        have g4 : 0 < m := by omega
        by_cases hf : 0 < f
        · have hw1 : IntKind.i64.wrap ((k : Int) + 1 - f) = (k : Int) + 1 - f := IntWalk.i64_in _ (by omega)
          go_wp2_with fail
          go_roundw
          case rel => exact ⟨k + 1, T ++ s.extract k (k + 1), by omega, rfl, by go_num, by first | rfl | trivial, by rw [ByteArray.size_append]; omega, Lib.hid (by rw [HS.out.1, ByteArray.data_append, Array.toList_append, HS.out.2, HT.out])⟩
          case measure => simp [RowKit.intOf]; omega
        · have hw1 : IntKind.i64.wrap ((k : Int) + 1 - m) = (k : Int) + 1 - m := IntWalk.i64_in _ (by omega)
          have hf0 : f ≤ 0 := by omega
          have g5 : (k : Int) + 1 - m < f := by omega
          go_wp2_with fail
          go_roundw
          case rel => exact ⟨k + 1, T ++ s.extract k (k + 1), by omega, rfl, by go_num, by first | rfl | trivial, by rw [ByteArray.size_append]; omega, Lib.hid (by rw [HS.out.1, ByteArray.data_append, Array.toList_append, HS.out.2, HT.out])⟩
          case measure => simp [RowKit.intOf]; omega
      · rw [if_neg hin, List.append_nil] at hst
        have HS := Lib.hid hst
        clear hst hpl htk
        have hout : ¬ f ≤ (k : Int) + 1 ∨ f ≤ (k : Int) + 1 ∧ ¬ 0 < m ∨ f ≤ (k : Int) + 1 ∧ 0 < m ∧ 0 < f ∧ ¬ (k : Int) + 1 - f < m ∨ f ≤ (k : Int) + 1 ∧ 0 < m ∧ ¬ 0 < f ∧ ¬ (k : Int) + 1 - m < f := by omega
        clear hin
        rcases hout with g | ⟨g1, g2⟩ | ⟨g1, g2, g3, g4⟩ | ⟨g1, g2, g3, g4⟩
        · have g' : (k : Int) + 1 < f := by omega
          go_wp2_with fail
          go_roundw
          case rel => exact ⟨k + 1, T, by omega, rfl, by go_num, by first | rfl | trivial, by omega, Lib.hid (by rw [HS.out, HT.out])⟩
          case measure => simp [RowKit.intOf]; omega
        · go_wp2_with fail
          go_roundw
          case rel => exact ⟨k + 1, T, by omega, rfl, by go_num, by first | rfl | trivial, by omega, Lib.hid (by rw [HS.out, HT.out])⟩
          case measure => simp [RowKit.intOf]; omega
        · have hw1 : IntKind.i64.wrap ((k : Int) + 1 - f) = (k : Int) + 1 - f := IntWalk.i64_in _ (by omega)
          go_wp2_with fail
          go_roundw
          case rel => exact ⟨k + 1, T, by omega, rfl, by go_num, by first | rfl | trivial, by omega, Lib.hid (by rw [HS.out, HT.out])⟩
          case measure => simp [RowKit.intOf]; omega
        · have hw1 : IntKind.i64.wrap ((k : Int) + 1 - m) = (k : Int) + 1 - m := IntWalk.i64_in _ (by omega)
          have hf0 : f ≤ 0 := by omega
          go_wp2_with fail
          go_roundw
          case rel => exact ⟨k + 1, T, by omega, rfl, by go_num, by first | rfl | trivial, by omega, Lib.hid (by rw [HS.out, HT.out])⟩
          case measure => simp [RowKit.intOf]; omega
    · obtain rfl : k = s.size := by omega
      go_wp2_with fail
      go_ret
      refine ⟨?_, rfl⟩
      have h := HT.out
      rw [List.take_of_length_le (by rw [← HL.out]; exact Nat.le_refl _)] at h
      rw [← HR.out, ← h]
      rfl
end Go.Proofs.YtbodnhpjfdnjfaaGreatDoor
