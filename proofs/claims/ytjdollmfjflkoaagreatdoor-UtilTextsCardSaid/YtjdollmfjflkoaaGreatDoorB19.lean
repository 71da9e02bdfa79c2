/- Packed texts: UtRef1. What each of them proves stands above its theorems; the conditions stand in these. -/
import Derived.Test.YtjdollmfjflkoaaGreatDoorB17
import Derived.Test.YtjdollmfjflkoaaGreatDoorB18
namespace Go.Proofs.YtjdollmfjflkoaaGreatDoor
open Go.RowKit Go.Lib

theorem fieldU_any (s : ByteArray) (n : Int) (w : World) (hs : s.size ≤ 1000000) :
    Calls Tryz.prog 13 #[.string s, .int .i64 n] w fun e w' => e = .returned (.string (ba (fieldU s.data.toList n))) ∧ Below w.heap.size w w' := by
  unfold fieldU
  by_cases h0 : n = 0
  · subst h0
    rw [if_pos rfl]
    exact (field_nought s w).mono fun e w' ⟨h1, h2⟩ => ⟨by rw [h1]; congr 2, by rw [h2]; exact Below.refl _ _⟩
  · rw [if_neg h0]
    by_cases h1 : n < 0 ∨ ((fieldsU s.data.toList).length : Int) < n
    · rw [if_pos h1]
      exact field_none s n w hs h0 h1
    · rw [if_neg h1]
      have hj : (n - 1).toNat < (fieldsU s.data.toList).length := by omega
      have h := field_some s (n - 1).toNat _ w hs (fldB_at hj)
      rw [show (((n - 1).toNat : Nat) : Int) + 1 = n by omega] at h
      rw [List.getD_eq_getElem?_getD, List.getElem?_eq_getElem hj]
      exact h
set_option maxHeartbeats 1000000 in
set_option maxRecDepth 20000 in
theorem refFieldU_any (s : ByteArray) (n : Int) (w : World) (hs : s.size ≤ 1000000) :
    Calls Tryz.prog 14 #[.string s, .int .i64 n] w fun e w' => e = .returned (.string (ba (fieldU s.data.toList n))) ∧ Below w.heap.size w w' := by
  have hlen := (fieldsU_len s.data.toList).1
  rw [← size_eq] at hlen
  unfold fieldU
  by_cases h0 : n = 0
  · subst h0
    rw [if_pos rfl, show ba s.data.toList = s from ba_ext rfl]
    clear hlen
    go_enter Tryz.func14, Tryz.ntmps14
    go_wp2
    go_ret
    exact ⟨rfl, Below.refl _ _⟩
  · rw [if_neg h0]
    have h0' : (n == 0) = false := beq_eq_false_iff_ne.2 h0
    have K := Lib.hid (fun W => refFieldsU_any s W hs)
    obtain ⟨X, hX⟩ : ∃ X, fieldsU s.data.toList = X := ⟨_, rfl⟩
    rw [hX] at K hlen ⊢
    obtain ⟨N, hN⟩ : ∃ N, X.length = N := ⟨_, rfl⟩
    have HN := Lib.hid hN
    rw [hN] at hlen ⊢
    obtain ⟨R, hR⟩ : ∃ R, ba (if n < 0 ∨ (N : Int) < n then [] else X.getD (n - 1).toNat []) = R := ⟨_, rfl⟩
    rw [hR]
    have HR := Lib.hid hR
    clear hX hN h0 hR
    go_enter Tryz.func14, Tryz.ntmps14
    go_wp2_with (first
      | (go_at_call 12; refine (K.out _).mono ?_; rintro e w1 ⟨v, rfl, hv, hb1⟩; obtain ⟨ao, cap, rfl, hcp, _, hcell⟩ := hv; rw [List.length_map, HN.out] at hcp ⊢; have HB := Lib.hid hb1; have HC := Lib.hid hcell; clear hb1 hcell))
    go_loopw [6] (fun i wr => ∃ k : Nat, k ≤ N ∧ i = .int .i64 k ∧ wr = w1 ∧ Hid (∀ j : Nat, j < k → (j : Int) + 1 ≠ n)) (fun i _ => N - (RowKit.intOf i).toNat)
    case atStart => exact ⟨0, Nat.zero_le _, rfl, rfl, fun j hj => absurd hj (Nat.not_lt_zero _)⟩
    case round =>
      obtain ⟨k, hk, rfl, rfl, HJ⟩ := hrel
      by_cases hlt : k < N
      · have hltI : (k : Int) < (N : Int) := by omega
        by_cases hkn : (k : Int) + 1 = n
        · obtain ⟨x, hx⟩ : ∃ x, X[k]? = some x := ⟨_, List.getElem?_eq_getElem (by have := HN.out; omega)⟩
          obtain ⟨b, o, rfl, hb, hc⟩ := HC.out k (ba x) (by rw [List.getElem?_map, hx]; rfl)
          have HX := Lib.hid hx
          have HE := Lib.hid hkn
          have hkb : ((k : Int) + 1 == n) = true := beq_iff_eq.2 hkn
          subst hkn
          clear hx
          go_wp2_with fail
          go_ret
          refine ⟨?_, HB.out⟩
          rw [← HR.out, if_neg (by omega), show ((k : Int) + 1 - 1).toNat = k by omega, List.getD_eq_getElem?_getD, HX.out]
          rfl
        · have hkb : ((k : Int) + 1 == n) = false := beq_eq_false_iff_ne.2 hkn
          have HE := Lib.hid hkn
          clear hkn
          go_wp2_with fail
          go_roundw
          case rel =>
            refine ⟨k + 1, by omega, by go_num, by first | rfl | trivial, fun j hj => ?_⟩
            by_cases h : j = k
            · rw [h]; exact HE.out
            · exact HJ.out j (by omega)
          case measure => simp [RowKit.intOf]; omega
      · obtain rfl : k = N := by omega
        go_wp2_with fail
        go_ret
        refine ⟨?_, HB.out⟩
        rw [← HR.out, if_pos (by
          by_cases h : n < 0
          · exact .inl h
          · right
            have h2 := HJ.out (n - 1).toNat
            have h3 : n ≠ 0 := by intro h4; rw [h4] at h0'; cases h0'
            omega)]
        rfl
end Go.Proofs.YtjdollmfjflkoaaGreatDoor
