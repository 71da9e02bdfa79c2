/- Packed texts: HexWhole, HexFigRef. What each of them proves stands above its theorems; the conditions stand in these. -/
import Derived.Lib.ItoaNum
import Derived.Test.YtgceckejchdnlaaGreatDoorB3
namespace Go.Proofs.YtgceckejchdnlaaGreatDoor
open Go.RowKit Go.Lib

/-- What Whole answers. -/
def wholeE (l : List UInt8) : Ending := .returned (.tuple #[.int .i64 (wholeD l).1, .int .i64 (wholeD l).2.1, .int .i64 (wholeD l).2.2])
theorem wholeE_none {l : List UInt8} (h : (figs (afterSign l)).length = 0) : Ending.returned (.tuple #[.int .i64 0, .int .i64 0, .int .i64 2]) = wholeE l := by
  unfold wholeE wholeD; rw [if_pos (List.eq_nil_of_length_eq_zero h)]
theorem wholeE_neg_over {l : List UInt8} (h : (figs (afterSign l)).length ≠ 0) (hn : isNeg l = true) (ho : (9223372036854775808 : Int) < (natOf (figs (afterSign l)) : Int)) : Ending.returned (.tuple #[.int .i64 0, .int .i64 0, .int .i64 3]) = wholeE l := by
  unfold wholeE wholeD; rw [if_neg (by intro e; rw [e] at h; exact h rfl), if_pos hn, if_neg (by omega)]
theorem wholeE_neg {l : List UInt8} (h : (figs (afterSign l)).length ≠ 0) (hn : isNeg l = true) (ho : (natOf (figs (afterSign l)) : Int) ≤ 9223372036854775808) (k : Int) (hk : k = ((figs (afterSign l)).length : Int) + 1) (v : Int) (hv : v = -(natOf (figs (afterSign l)) : Int)) : Ending.returned (.tuple #[.int .i64 v, .int .i64 k, .int .i64 0]) = wholeE l := by
  unfold wholeE wholeD; rw [if_neg (by intro e; rw [e] at h; exact h rfl), if_pos hn, if_pos (by omega), hk, hv]
theorem wholeE_pos_over {l : List UInt8} (h : (figs (afterSign l)).length ≠ 0) (hn : isNeg l = false) (ho : (9223372036854775807 : Int) < (natOf (figs (afterSign l)) : Int)) : Ending.returned (.tuple #[.int .i64 0, .int .i64 0, .int .i64 3]) = wholeE l := by
  unfold wholeE wholeD; rw [if_neg (by intro e; rw [e] at h; exact h rfl), if_neg (by rw [hn]; simp), if_neg (by omega)]
theorem wholeE_pos {l : List UInt8} (h : (figs (afterSign l)).length ≠ 0) (hn : isNeg l = false) (ho : (natOf (figs (afterSign l)) : Int) ≤ 9223372036854775807) (k : Int) (hk : k = ((figs (afterSign l)).length : Int)) (v : Int) (hv : v = (natOf (figs (afterSign l)) : Int)) : Ending.returned (.tuple #[.int .i64 v, .int .i64 k, .int .i64 0]) = wholeE l := by
  unfold wholeE wholeD; rw [if_neg (by intro e; rw [e] at h; exact h rfl), if_neg (by rw [hn]; simp), if_pos (by omega), hk, hv]

theorem isEmpty_size (s : ByteArray) : s.data.toList.isEmpty = decide (s.size = 0) := by
  rw [Bool.eq_iff_iff, List.isEmpty_iff, decide_eq_true_iff, ← List.length_eq_zero_iff, Array.length_toList]
  exact Iff.rfl
/-- The two pieces that Whole cuts out of its text: behind the sign, and the figures. -/
theorem tail_of (s : ByteArray) (_h : 0 < s.size) : (s.extract 1 s.size).data.toList = s.data.toList.tail := by
  rw [Lib.extract_data]
  have : s.size = s.data.toList.length := by rw [Array.length_toList]; rfl
  rw [this, List.drop_one, List.take_of_length_le]
  rw [List.length_tail]; omega

set_option maxHeartbeats 400000 in
theorem whole_any (s : ByteArray) (w : World) (hs : s.size ≤ 70000000000000) :
    Calls Tryz.prog 80 #[.string s] w fun e w' => e = wholeE s.data.toList ∧ w = w' := by
  by_cases h0 : s.size = 0
  · have he1 : s.toList.isEmpty = true := by rw [ByteArray.toList_eq, isEmpty_size, decide_eq_true h0]
    have hl : s.data.toList = [] := List.eq_nil_of_length_eq_zero (by rw [Array.length_toList]; exact h0)
    have HW := Lib.hid (wholeE_none (l := s.data.toList) (by rw [hl]; rfl))
    have k1 : ∀ w, Calls Tryz.prog 94 #[.string ByteArray.empty] w fun e w' => e = .returned (.int .i64 0) ∧ w = w' := fun w => count_any ByteArray.empty w (by decide)
    clear hl
    go_enter Tryz.func80, Tryz.ntmps80
    go_wp2_with (go_at_call 94; refine (k1 _).mono ?_; rintro e w' ⟨rfl, rfl⟩)
    go_ret3
    exact ⟨HW.out, rfl⟩
  · have he1 : s.toList.isEmpty = false := by rw [ByteArray.toList_eq, isEmpty_size, decide_eq_false h0]
    have hpos : 0 < s.size := by omega
    have hlen : s.size = s.data.toList.length := by rw [Array.length_toList]; rfl
    have hh : s.data.toList.head? = some s[0] := by
      rw [List.head?_eq_getElem?, List.getElem?_eq_getElem (by rw [← hlen]; exact hpos)]; rfl
    by_cases hx : ((s[0].toNat : Int) == 45) = true
    · have hneg : isNeg s.data.toList = true := by
        unfold isNeg; rw [hh]
        have : s[0] = 45 := UInt8.toNat_inj.1 (by simp at hx; have : s[0].toNat = 45 := by omega
                                                  exact this)
        rw [this]; rfl
      have hT := tail_of s hpos
      have haft : afterSign s.data.toList = s.data.toList.tail := by unfold afterSign; rw [if_pos hneg]
      rw [← haft] at hT
      have hle := figs_length_le (afterSign s.data.toList)
      rw [← hT, Array.length_toList] at hle
      have hts : (s.extract 1 s.size).size = s.size - 1 := by rw [ByteArray.size_extract]; omega
      have hle2 : (figs (s.extract 1 s.size).data.toList).length ≤ s.size - 1 := by rw [← hts]; exact hle
      have k1 := fun w => count_any (s.extract 1 s.size) w (by rw [hts]; omega)
      rw [hT] at k1 hle2
      have hF : ∀ m, m = (figs (afterSign s.data.toList)).length → (s.extract 1 (1 + m)).data.toList = figs (afterSign s.data.toList) := by
        intro m hm
        rw [Lib.extract_data, List.drop_one, ← haft, hm, Nat.add_sub_cancel_left]
        exact (figs_prefix _).symm
      have w0 := wholeE_none (l := s.data.toList)
      have w1 := wholeE_neg_over (l := s.data.toList)
      have w2 := wholeE_neg (l := s.data.toList)
      have k2 : ∀ m : Nat, m = (figs (afterSign s.data.toList)).length → ∀ w, Calls Tryz.prog 95 #[.string (s.extract 1 (1 + m)), .int .u64 9223372036854775808] w fun e w' => e = sizeE (natOf (figs (afterSign s.data.toList)) : Int) 9223372036854775808 ∧ w = w' := by
        intro m hm w
        have := size_any (s.extract 1 (1 + m)) 9223372036854775808 w (by rw [ByteArray.size_extract]; omega) (by rw [hF m hm]; exact figs_isFig _) (by omega) (by omega)
        rw [hF m hm] at this
        exact this
      generalize hm : (figs (afterSign s.data.toList)).length = m at k1 k2 hle2 w0 w1 w2
      have k3 := k2 m rfl
      generalize hN : (natOf (figs (afterSign s.data.toList)) : Int) = N at k3 w1 w2
      have hN0 : 0 ≤ N := by omega
      clear k2 hF hT hts hle haft hh hm hN hlen
      have W0 := Lib.hid w0
      have W1 := Lib.hid w1
      have W2 := Lib.hid w2
      have HNEG := Lib.hid hneg
      clear w0 w1 w2 hneg
      by_cases hm0 : m = 0
      · subst hm0
        go_enter Tryz.func80, Tryz.ntmps80
        go_wp2_with (go_at_call 94; refine (k1 _).mono ?_; rintro e w' ⟨rfl, rfl⟩)
        go_ret3
        exact ⟨W0.out (by simp), rfl⟩
      · have hmb : (((m : Nat) : Int) == 0) = false := by simp; omega
        by_cases ho : N ≤ 9223372036854775808
        · rw [← sizeE_yes ho] at k3
          have hw1 : IntKind.i64.wrap (IntKind.u64.wrap (-N)) = -N := by
            rw [IntKind.wrap_i64, show IntKind.u64.wrap (-N) = (-N) % 18446744073709551616 by simp [IntKind.wrap, IntKind.bits, IntKind.signed]]
            omega
          have HO := Lib.hid ho
          clear ho
          go_enter Tryz.func80, Tryz.ntmps80
          go_wp2_with (first | (go_at_call 94; refine (k1 _).mono ?_; rintro e w' ⟨rfl, rfl⟩) | (go_at_call 95; refine (k3 _).mono ?_; rintro e w' ⟨rfl, rfl⟩))
          go_ret3
          exact ⟨W2.out hm0 HNEG.out HO.out _ (by omega) _ rfl, rfl⟩
        · rw [← sizeE_no (show (9223372036854775808 : Int) < N by omega)] at k3
          have HO := Lib.hid ho
          clear ho
          go_enter Tryz.func80, Tryz.ntmps80
          go_wp2_with (first | (go_at_call 94; refine (k1 _).mono ?_; rintro e w' ⟨rfl, rfl⟩) | (go_at_call 95; refine (k3 _).mono ?_; rintro e w' ⟨rfl, rfl⟩))
          go_ret3
          exact ⟨W1.out hm0 HNEG.out (by have := HO.out; omega), rfl⟩
    · rw [Bool.not_eq_true] at hx
      have hneg : isNeg s.data.toList = false := by
        unfold isNeg; rw [hh]
        cases hb : (some s[0] == some (45 : UInt8)) with
        | false => rfl
        | true =>
          have : s[0] = 45 := by simpa using hb
          rw [this] at hx
          exact absurd hx (by decide)
      have haft : afterSign s.data.toList = s.data.toList := by unfold afterSign; rw [if_neg (by rw [hneg]; simp)]
      have hle2 := figs_length_le (afterSign s.data.toList)
      rw [haft, ← hlen] at hle2
      have k1 := fun w => count_any s w hs
      have hF : ∀ m, m = (figs s.data.toList).length → (s.extract 0 m).data.toList = figs s.data.toList := by
        intro m hm
        rw [Lib.extract_data, List.drop_zero, hm, Nat.sub_zero]
        exact (figs_prefix _).symm
      have w0 := wholeE_none (l := s.data.toList)
      have w1 := wholeE_pos_over (l := s.data.toList)
      have w2 := wholeE_pos (l := s.data.toList)
      rw [haft] at w0 w1 w2
      have k2 : ∀ m : Nat, m = (figs s.data.toList).length → ∀ w, Calls Tryz.prog 95 #[.string (s.extract 0 m), .int .u64 9223372036854775807] w fun e w' => e = sizeE (natOf (figs s.data.toList) : Int) 9223372036854775807 ∧ w = w' := by
        intro m hm w
        have := size_any (s.extract 0 m) 9223372036854775807 w (by rw [ByteArray.size_extract]; omega) (by rw [hF m hm]; exact figs_isFig _) (by omega) (by omega)
        rw [hF m hm] at this
        exact this
      generalize hm : (figs s.data.toList).length = m at k1 k2 hle2 w0 w1 w2
      have k3 := k2 m rfl
      generalize hN : (natOf (figs s.data.toList) : Int) = N at k3 w1 w2
      have hN0 : 0 ≤ N := by omega
      clear k2 hF haft hh hm hN hlen
      have W0 := Lib.hid w0
      have W1 := Lib.hid w1
      have W2 := Lib.hid w2
      have HNEG := Lib.hid hneg
      clear w0 w1 w2 hneg
      by_cases hm0 : m = 0
      · subst hm0
        go_enter Tryz.func80, Tryz.ntmps80
        go_wp2_with (go_at_call 94; refine (k1 _).mono ?_; rintro e w' ⟨rfl, rfl⟩)
        go_ret3
        exact ⟨W0.out (by simp), rfl⟩
      · have hmb : (((m : Nat) : Int) == 0) = false := by simp; omega
        by_cases ho : N ≤ 9223372036854775807
        · rw [← sizeE_yes ho] at k3
          have hw1 : IntKind.i64.wrap N = N := by rw [IntKind.wrap_i64]; omega
          have HO := Lib.hid ho
          clear ho
          go_enter Tryz.func80, Tryz.ntmps80
          go_wp2_with (first | (go_at_call 94; refine (k1 _).mono ?_; rintro e w' ⟨rfl, rfl⟩) | (go_at_call 95; refine (k3 _).mono ?_; rintro e w' ⟨rfl, rfl⟩))
          go_ret3
          exact ⟨W2.out hm0 HNEG.out HO.out _ (by omega) _ rfl, rfl⟩
        · rw [← sizeE_no (show (9223372036854775807 : Int) < N by omega)] at k3
          have HO := Lib.hid ho
          clear ho
          go_enter Tryz.func80, Tryz.ntmps80
          go_wp2_with (first | (go_at_call 94; refine (k1 _).mono ?_; rintro e w' ⟨rfl, rfl⟩) | (go_at_call 95; refine (k3 _).mono ?_; rintro e w' ⟨rfl, rfl⟩))
          go_ret3
          exact ⟨W1.out hm0 HNEG.out (by have := HO.out; omega), rfl⟩
end Go.Proofs.YtgceckejchdnlaaGreatDoor
namespace Go.Proofs.YtgceckejchdnlaaGreatDoor
open Go.RowKit Go.Lib

theorem decDigits_len (u : Nat) (h : u ≤ 9223372036854775808) : (decDigits u).length ≤ 20 := by
  rw [decDigits_length]
  have key : ∀ (k u : Nat), u < 10 ^ k → nDigits u ≤ k + 1 := by
    intro k
    induction k with
    | zero => intro u h; rw [nDigits_small (by simp at h; omega)]; exact Nat.le_refl _
    | succ k ih =>
      intro u h
      by_cases h10 : u < 10
      · rw [nDigits_small h10]; omega
      · rw [nDigits_big h10]
        have := ih (u / 10) (by rw [Nat.pow_succ] at h; omega)
        omega
  have := key 19 u (by have : (10 : Nat) ^ 19 = 10000000000000000000 := by decide
                       omega)
  omega
end Go.Proofs.YtgceckejchdnlaaGreatDoor
