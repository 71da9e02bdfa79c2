/- The document's own text in digits. No condition but that the text is shorter than 2^45. -/
import Derived.Test.YtgokkdalfkinnaaHexMath
import Derived.Deep.RegionWith
namespace Go.Proofs.Ytgokkdalfkinnaa
open Go.RowKit Go.Lib

set_option maxHeartbeats 400000 in
theorem refDig_any (n : Int) (w : World) (h0 : 0 ≤ n) (h1 : n < 16) :
    Calls Try.prog 65 #[.int .u8 n] w fun e w' => e = .returned (.string ⟨[hexDg n.toNat].toArray⟩) ∧ Below w.heap.size w w' := by
  have hn : n = (n.toNat : Int) := by omega
  have HN := Lib.hid hn
  clear hn
  by_cases h : n < 10
  · have hc := conv_new1 (P := Try.prog) 67 9 5 Try.underlying67 Try.underlying5 Try.underlying9 w (48 + n) (hexDg n.toNat) (by rw [hexDg_lo _ (by omega)]; have := HN.out; omega)
    go_enter Try.func65, Try.ntmps65
    go_wp2
    go_ret
    exact ⟨rfl, (Below.refl _ _).alloc (Nat.le_refl _) _⟩
  · have hc := conv_new1 (P := Try.prog) 67 9 5 Try.underlying67 Try.underlying5 Try.underlying9 w (87 + n) (hexDg n.toNat) (by rw [hexDg_hi _ (by omega) (by omega)]; have := HN.out; omega)
    go_enter Try.func65, Try.ntmps65
    go_wp2
    go_ret
    exact ⟨rfl, (Below.refl _ _).alloc (Nat.le_refl _) _⟩

set_option maxHeartbeats 400000 in
theorem refHex_any (s : ByteArray) (w : World) (hs : s.size ≤ 35000000000000) :
    Calls Try.prog 47 #[.string s] w fun e w' => e = .returned (.string ⟨(hexT s.data.toList).toArray⟩) ∧ Below w.heap.size w w' := by
  go_enter Try.func47, Try.ntmps47
  go_wp2
  go_loopw [3, 4] (fun t i wr => ∃ (k : Nat) (T : ByteArray), k ≤ s.size ∧ i = .int .i64 k ∧ t = .string T ∧ Hid (T.data.toList = hexT (s.data.toList.take k)) ∧ Below w.heap.size w wr) (fun _ i _ => s.size - (intOf i).toNat)
  case atStart => exact ⟨0, ⟨#[120]⟩, Nat.zero_le _, rfl, rfl, rfl, Below.refl _ _⟩
  case round =>
    obtain ⟨k, T, hk, rfl, rfl, HT, hbel⟩ := hrel
    have hTs : T.size = 1 + 2 * k := by
      have := congrArg List.length HT.out
      rw [hexT_length, List.length_take, Nat.min_eq_left (by rw [Array.length_toList]; exact hk), Array.length_toList] at this
      exact this
    by_cases hlt : k < s.size
    · have hsn := hexT_snoc s k hlt
      have HSN := Lib.hid hsn
      clear hsn
      obtain ⟨x, hx⟩ : ∃ x : Int, (s[k].toNat : Int) = x := ⟨_, rfl⟩
      have hx0 : 0 ≤ x := by omega
      have hx1 : x ≤ 255 := by have := u8_lt s[k]; omega
      have HX := Lib.hid hx
      have hw1 : IntKind.u8.wrap (x.tdiv 16) = x / 16 := IntWalk.u8_quo x 16 (by omega)
      have hw2 : x.tmod 16 = x % 16 := IntWalk.rem_in x 16 hx0
      obtain ⟨D1, hD1⟩ : ∃ D : ByteArray, D = ⟨[hexDg (x / 16).toNat].toArray⟩ := ⟨_, rfl⟩
      obtain ⟨D2, hD2⟩ : ∃ D : ByteArray, D = ⟨[hexDg (x % 16).toNat].toArray⟩ := ⟨_, rfl⟩
      have c1 := fun w => refDig_any (x / 16) w (by omega) (by omega)
      have c2 := fun w => refDig_any (x % 16) w (by omega) (by omega)
      rw [← hD1] at c1
      rw [← hD2] at c2
      have s1 : D1.size = 1 := by rw [hD1]; rfl
      have s2 : D2.size = 1 := by rw [hD2]; rfl
      have HD1 := Lib.hid hD1
      have HD2 := Lib.hid hD2
      have hn1 : (9223372036854775807 < T.size + D1.size) = False := by simp only [eq_iff_iff, iff_false]; omega
      have hn2 : (9223372036854775807 < T.size + D1.size + D2.size) = False := by simp only [eq_iff_iff, iff_false]; omega
      clear hD1 hD2 s1 s2 hTs
      go_wp2_with fail
      go_region_with (go_at_call 65; (first | with_reducible refine (c1 _).mono ?_ | with_reducible refine (c2 _).mono ?_); rintro e w' ⟨rfl, hb⟩)
      all_goals
        rename_i w1 hb1
        have hs1 := hbel.size
        have hs2 : wr.heap.size ≤ w1.heap.size := hb1.size
        have hbel2 : Below w.heap.size w w' := (hbel.drew.trans (hb1.mono hs1)).trans (hb.mono (by omega))
        have HR : Hid ((T ++ D1 ++ D2).data.toList = hexT (s.data.toList.take (k + 1))) := by
          show (T ++ D1 ++ D2).data.toList = _
          rw [HSN.out, HD1.out, HD2.out, ByteArray.data_append, ByteArray.data_append, Array.toList_append, Array.toList_append, HT.out]
          have e1 : (x / 16).toNat = s[k].toNat / 16 := by have := HX.out; omega
          have e2 : (x % 16).toNat = s[k].toNat % 16 := by have := HX.out; omega
          rw [e1, e2]
          simp
        clear hb hb1 hbel hw1 hw2 hn1 hn2 c1 c2 hx HT HSN HD1 HD2
        obtain ⟨R, hR⟩ : ∃ R, R = T ++ D1 ++ D2 := ⟨_, rfl⟩
        rw [← hR] at HR ⊢
        clear hR
        go_wp2
        go_roundw
        case rel => exact ⟨k + 1, R, by omega, by go_num, rfl, HR, hbel2⟩
        case measure => simp [intOf]; omega
    · have hkk : k = s.size := by omega
      have hall : s.data.toList.take k = s.data.toList := by rw [List.take_of_length_le]; rw [Array.length_toList, hkk]; exact Nat.le_refl _
      have HA := Lib.hid (show (⟨(hexT s.data.toList).toArray⟩ : ByteArray) = T by rw [← hall, ← HT.out])
      clear hkk hall hTs
      go_wp2
      go_ret
      rw [HA.out]
      exact ⟨rfl, hbel⟩
end Go.Proofs.Ytgokkdalfkinnaa
