/- Packed texts: HexCount, HexWhole, DecNumber. What each of them proves stands above its theorems; the conditions stand in these. -/
import Derived.Test.YtbodnhpjfdnjfaaGreatDoorE3
import Derived.Test.YtbodnhpjfdnjfaaGreatDoorE5
import Derived.Test.YtbodnhpjfdnjfaaGreatDoorE6
namespace Go.Proofs.YtbodnhpjfdnjfaaGreatDoor
open Go.RowKit Go.Lib

set_option maxHeartbeats 400000 in
theorem count_any (s : ByteArray) (w : World) (hs : s.size ≤ 70000000000000) :
    Calls Tryz.prog 272 #[.string s] w fun e w' => e = .returned (.int .i64 ((figs s.data.toList).length : Int)) ∧ w = w' := by
  go_enter Tryz.func272, Tryz.ntmps272
  go_wp2
  go_loop [6] (fun i => ∃ k : Nat, k ≤ s.size ∧ i = .int .i64 k ∧ Hid ((s.data.toList.take k).all isFig = true)) (fun i => s.size - (RowKit.intOf i).toNat)
  case atStart => exact ⟨0, Nat.zero_le _, rfl, rfl⟩
  case round =>
    obtain ⟨k, hk, rfl, HP⟩ := hrel
    by_cases hlt : k < s.size
    · have HT := Lib.hid (take_snoc s k hlt)
      have HE := Lib.hid (figs_at s k hlt HP.out)
      obtain ⟨c, hc⟩ : ∃ c, s[k] = c := ⟨_, rfl⟩
      rw [hc] at HT HE
      have cf := fun w => isFigure_any c w
      generalize hb : isFig c = b at cf HE
      have HB := Lib.hid hb
      clear hb
      cases b
      · go_wp2_with (go_at_call 165; refine (cf _).mono ?_; rintro e w' ⟨rfl, rfl⟩)
        go_ret
        exact ⟨ret_int (by rw [HE.out (by simp)]), rfl⟩
      · go_wp2_with (go_at_call 165; refine (cf _).mono ?_; rintro e w' ⟨rfl, rfl⟩)
        go_round
        case rel =>
          refine ⟨k + 1, by omega, by go_num, ?_⟩
          show (s.data.toList.take (k + 1)).all isFig = true
          rw [HT.out, List.all_append, HP.out]
          simp [HB.out]
        case measure => simp [RowKit.intOf]; omega
    · have HA := Lib.hid (show s.data.toList.all isFig = true by
        have := HP.out
        rw [List.take_of_length_le (by rw [Array.length_toList]; exact Nat.le_of_not_lt hlt)] at this
        exact this)
      go_wp2
      go_ret
      exact ⟨ret_int (by rw [figs_whole s HA.out]), rfl⟩

theorem fig_bounds (c : UInt8) (h : isFig c = true) : 48 ≤ (c.toNat : Int) ∧ (c.toNat : Int) ≤ 57 := by
  unfold isFig at h
  simpa only [Bool.and_eq_true, decide_eq_true_eq] using h
theorem all_at (s : ByteArray) (k : Nat) (hk : k < s.size) (h : s.data.toList.all isFig = true) : isFig s[k] = true := by
  rw [List.all_eq_true] at h
  exact h _ (List.getElem_mem (by rw [Array.length_toList]; exact hk))

/-- What size answers. -/
def sizeE (n m : Int) : Ending := .returned (.tuple (if n ≤ m then #[.int .u64 n, .bool true] else #[.int .u64 0, .bool false]))
theorem sizeE_yes {n m : Int} (h : n ≤ m) : Ending.returned (.tuple #[.int .u64 n, .bool true]) = sizeE n m := by unfold sizeE; rw [if_pos h]
theorem sizeE_no {n m : Int} (h : m < n) : Ending.returned (.tuple #[.int .u64 0, .bool false]) = sizeE n m := by unfold sizeE; rw [if_neg (by omega)]

set_option maxHeartbeats 400000 in
theorem size_any (s : ByteArray) (m : Int) (w : World) (hs : s.size ≤ 70000000000000) (hf : s.data.toList.all isFig = true) (hm0 : 9 ≤ m) (hm1 : m ≤ 9223372036854775808) :
    Calls Tryz.prog 273 #[.string s, .int .u64 m] w fun e w' =>
      e = sizeE (natOf s.data.toList : Int) m ∧ w = w' := by
  have HF := Lib.hid hf
  clear hf
  go_enter Tryz.func273, Tryz.ntmps273
  go_wp2
  go_loop [6, 11] (fun n i => ∃ (k : Nat) (a : Int), k ≤ s.size ∧ i = .int .i64 k ∧ n = .int .u64 a ∧ Hid (a = natOf (s.data.toList.take k)) ∧ 0 ≤ a ∧ a ≤ m) (fun _ i => s.size - (RowKit.intOf i).toNat)
  case atStart => exact ⟨0, 0, Nat.zero_le _, rfl, rfl, rfl, Int.le_refl _, by omega⟩
  case round =>
    obtain ⟨k, a, hk, rfl, rfl, HA, ha0, ham⟩ := hrel
    by_cases hlt : k < s.size
    · have HS := Lib.hid (natOf_snoc (s.data.toList.take k) s[k])
      have HT := Lib.hid (take_snoc s k hlt)
      have hc := fig_bounds _ (all_at s k hlt HF.out)
      have HL : Hid (natOf (s.data.toList.take (k + 1)) ≤ natOf s.data.toList) := by
        have := natOf_mono (s.data.toList.take (k + 1)) (s.data.toList.drop (k + 1))
        rw [List.take_append_drop] at this; exact this
      obtain ⟨z, hz⟩ : ∃ z : Int, (s[k].toNat : Int) = z := ⟨_, rfl⟩
      rw [hz] at hc
      have HZ : Hid ((figV s[k] : Int) = z - 48) := by
        show (figV s[k] : Int) = z - 48
        unfold figV; omega
      obtain ⟨hc0, hc1⟩ := hc
      by_cases ho : (m - (z - 48)) / 10 < a
      · have HO : Hid (m < (natOf s.data.toList : Int)) := by
          show m < (natOf s.data.toList : Int)
          have h1 := HL.out
          rw [HT.out, HS.out] at h1
          have h2 := HA.out
          have h3 := HZ.out
          omega
        go_wp2
        go_ret2
        exact ⟨sizeE_no HO.out, rfl⟩
      · have h9 : 0 ≤ 10 * a + (z - 48) := by omega
        have h10 : 10 * a + (z - 48) ≤ m := by omega
        go_wp2
        go_round
        case rel =>
          refine ⟨k + 1, 10 * a + (z - 48), by omega, by go_num, rfl, ?_, h9, h10⟩
          show _ = ((natOf (s.data.toList.take (k + 1)) : Nat) : Int)
          rw [HT.out, HS.out]
          have h2 := HA.out
          have h3 := HZ.out
          omega
        case measure => simp [RowKit.intOf]; omega
    · have HX := Lib.hid (show a = natOf s.data.toList by
        have := HA.out
        rw [List.take_of_length_le (by rw [Array.length_toList]; exact Nat.le_of_not_lt hlt)] at this
        exact this)
      go_wp2
      go_ret2
      rw [← HX.out]
      exact ⟨sizeE_yes ham, rfl⟩
end Go.Proofs.YtbodnhpjfdnjfaaGreatDoor
namespace Go.Proofs.YtbodnhpjfdnjfaaGreatDoor
open Go.RowKit Go.Lib

/-- What Whole answers. -/
def wholeE (l : List UInt8) : Ending := .returned (.tuple #[.int .i64 (wholeD l).1, .int .i64 (wholeD l).2.1, .int .i64 (wholeD l).2.2])
theorem wholeE_none {l : List UInt8} (h : (figs (afterSign l)).length = 0) : Ending.returned (.tuple #[.int .i64 0, .int .i64 0, .int .i64 2]) = wholeE l := by
  unfold wholeE wholeD; rw [if_pos (List.eq_nil_of_length_eq_zero h)]
theorem wholeE_neg_over {l : List UInt8} (h : (figs (afterSign l)).length ≠ 0) (hn : isNeg l = true) (ho : (9223372036854775808 : Int) < (natOf (figs (afterSign l)) : Int)) : Ending.returned (.tuple #[.int .i64 0, .int .i64 0, .int .i64 3]) = wholeE l := by
  unfold wholeE wholeD; rw [if_neg (by intro e; rw [e] at h; exact h rfl), if_pos hn, if_neg (by omega)]
theorem wholeE_neg {l : List UInt8} (h : (figs (afterSign l)).length ≠ 0) (hn : isNeg l = true) (ho : (natOf (figs (afterSign l)) : Int) ≤ 9223372036854775808) (k : Int) (hk : k = ((figs (afterSign l)).length : Int) + 1) (v : Int) (hv : v = -(natOf (figs (afterSign l)) : Int)) : Ending.returned (.tuple #[.int .i64 v, .int .i64 k, .int .i64 0]) = wholeE l := by
  unfold wholeE wholeD; rw [if_neg (by intro e; rw [e] at h; exact h rfl), if_pos hn, if_pos (by omega), hk, hv]
theorem wholeE_pos_over {l : List UInt8} (h : (figs (afterSign l)).length ≠ 0) (hn : isNeg l = false) (ho : (9223372036854775807 : Int) < (natOf (figs (afterSign l)) : Int)) : Ending.returned (.tuple #[.int .i64 0, .int .i64 0, .int .i64 3]) = wholeE l := by
  unfold wholeE wholeD; rw [if_neg (by intro e; rw [e] at h; exact h rfl), if_neg (by rw [hn]; simp), if_neg (by omega)]
theorem wholeE_pos {l : List UInt8} (h : (figs (afterSign l)).length ≠ 0) (hn : isNeg l = false) (ho : (natOf (figs (afterSign l)) : Int) ≤ 9223372036854775807) (k : Int) (hk : k = ((figs (afterSign l)).length : Int)) (v : Int) (hv : v = (natOf (figs (afterSign l)) : Int)) : Ending.returned (.tuple #[.int .i64 v, .int .i64 k, .int .i64 0]) = wholeE l := by
  unfold wholeE wholeD; rw [if_neg (by intro e; rw [e] at h; exact h rfl), if_neg (by rw [hn]; simp), if_pos (by omega), hk, hv]

theorem isEmpty_size (s : ByteArray) : s.data.toList.isEmpty = decide (s.size = 0) := by
  rw [Bool.eq_iff_iff, List.isEmpty_iff, decide_eq_true_iff, ← List.length_eq_zero_iff, Array.length_toList]
  exact Iff.rfl
/-- The two pieces that Whole cuts out of its text: behind the sign, and the figures. -/
theorem tail_of (s : ByteArray) (_h : 0 < s.size) : (s.extract 1 s.size).data.toList = s.data.toList.tail := by
  rw [Lib.extract_data]
  have : s.size = s.data.toList.length := by rw [Array.length_toList]; rfl
  rw [this, List.drop_one, List.take_of_length_le]
  rw [List.length_tail]; omega

set_option maxHeartbeats 400000 in
theorem whole_any (s : ByteArray) (w : World) (hs : s.size ≤ 70000000000000) :
    Calls Tryz.prog 222 #[.string s] w fun e w' => e = wholeE s.data.toList ∧ w = w' := by
  by_cases h0 : s.size = 0
  · have he1 : s.toList.isEmpty = true := by rw [ByteArray.toList_eq, isEmpty_size, decide_eq_true h0]
    have hl : s.data.toList = [] := List.eq_nil_of_length_eq_zero (by rw [Array.length_toList]; exact h0)
    have HW := Lib.hid (wholeE_none (l := s.data.toList) (by rw [hl]; rfl))
    have k1 : ∀ w, Calls Tryz.prog 272 #[.string ByteArray.empty] w fun e w' => e = .returned (.int .i64 0) ∧ w = w' := fun w => count_any ByteArray.empty w (by decide)
    clear hl
    go_enter Tryz.func222, Tryz.ntmps222
    go_wp2_with (go_at_call 272; refine (k1 _).mono ?_; rintro e w' ⟨rfl, rfl⟩)
    go_ret3
    exact ⟨HW.out, rfl⟩
  · have he1 : s.toList.isEmpty = false := by rw [ByteArray.toList_eq, isEmpty_size, decide_eq_false h0]
    have hpos : 0 < s.size := by omega
    have hlen : s.size = s.data.toList.length := by rw [Array.length_toList]; rfl
    have hh : s.data.toList.head? = some s[0] := by
      rw [List.head?_eq_getElem?, List.getElem?_eq_getElem (by rw [← hlen]; exact hpos)]; rfl
    by_cases hx : ((s[0].toNat : Int) == 45) = true
    · have hneg : isNeg s.data.toList = true := by
        unfold isNeg; rw [hh]
        have : s[0] = 45 := UInt8.toNat_inj.1 (by simp at hx; have : s[0].toNat = 45 := by omega
                                                  exact this)
        rw [this]; rfl
      have hT := tail_of s hpos
      have haft : afterSign s.data.toList = s.data.toList.tail := by unfold afterSign; rw [if_pos hneg]
      rw [← haft] at hT
      have hle := figs_length_le (afterSign s.data.toList)
      rw [← hT, Array.length_toList] at hle
      have hts : (s.extract 1 s.size).size = s.size - 1 := by rw [ByteArray.size_extract]; omega
      have hle2 : (figs (s.extract 1 s.size).data.toList).length ≤ s.size - 1 := by rw [← hts]; exact hle
      have k1 := fun w => count_any (s.extract 1 s.size) w (by rw [hts]; omega)
      rw [hT] at k1 hle2
      have hF : ∀ m, m = (figs (afterSign s.data.toList)).length → (s.extract 1 (1 + m)).data.toList = figs (afterSign s.data.toList) := by
        intro m hm
        rw [Lib.extract_data, List.drop_one, ← haft, hm, Nat.add_sub_cancel_left]
        exact (figs_prefix _).symm
      have w0 := wholeE_none (l := s.data.toList)
      have w1 := wholeE_neg_over (l := s.data.toList)
      have w2 := wholeE_neg (l := s.data.toList)
      have k2 : ∀ m : Nat, m = (figs (afterSign s.data.toList)).length → ∀ w, Calls Tryz.prog 273 #[.string (s.extract 1 (1 + m)), .int .u64 9223372036854775808] w fun e w' => e = sizeE (natOf (figs (afterSign s.data.toList)) : Int) 9223372036854775808 ∧ w = w' := by
        intro m hm w
        have := size_any (s.extract 1 (1 + m)) 9223372036854775808 w (by rw [ByteArray.size_extract]; omega) (by rw [hF m hm]; exact figs_isFig _) (by omega) (by omega)
        rw [hF m hm] at this
        exact this
      generalize hm : (figs (afterSign s.data.toList)).length = m at k1 k2 hle2 w0 w1 w2
      have k3 := k2 m rfl
      generalize hN : (natOf (figs (afterSign s.data.toList)) : Int) = N at k3 w1 w2
      have hN0 : 0 ≤ N := by omega
      clear k2 hF hT hts hle haft hh hm hN hlen
      have W0 := Lib.hid w0
      have W1 := Lib.hid w1
      have W2 := Lib.hid w2
      have HNEG := Lib.hid hneg
      clear w0 w1 w2 hneg
      by_cases hm0 : m = 0
      · subst hm0
        go_enter Tryz.func222, Tryz.ntmps222
        go_wp2_with (go_at_call 272; refine (k1 _).mono ?_; rintro e w' ⟨rfl, rfl⟩)
        go_ret3
        exact ⟨W0.out (by simp), rfl⟩
      · have hmb : (((m : Nat) : Int) == 0) = false := by simp; omega
        by_cases ho : N ≤ 9223372036854775808
        · rw [← sizeE_yes ho] at k3
          have hw1 : IntKind.i64.wrap (IntKind.u64.wrap (-N)) = -N := by
            rw [IntKind.wrap_i64, show IntKind.u64.wrap (-N) = (-N) % 18446744073709551616 by simp [IntKind.wrap, IntKind.bits, IntKind.signed]]
            omega
          have HO := Lib.hid ho
          clear ho
          go_enter Tryz.func222, Tryz.ntmps222
          go_wp2_with (first | (go_at_call 272; refine (k1 _).mono ?_; rintro e w' ⟨rfl, rfl⟩) | (go_at_call 273; refine (k3 _).mono ?_; rintro e w' ⟨rfl, rfl⟩))
          go_ret3
          exact ⟨W2.out hm0 HNEG.out HO.out _ (by omega) _ rfl, rfl⟩
        · rw [← sizeE_no (show (9223372036854775808 : Int) < N by omega)] at k3
          have HO := Lib.hid ho
          clear ho
          go_enter Tryz.func222, Tryz.ntmps222
          go_wp2_with (first | (go_at_call 272; refine (k1 _).mono ?_; rintro e w' ⟨rfl, rfl⟩) | (go_at_call 273; refine (k3 _).mono ?_; rintro e w' ⟨rfl, rfl⟩))
          go_ret3
          exact ⟨W1.out hm0 HNEG.out (by have := HO.out; omega), rfl⟩
    · rw [Bool.not_eq_true] at hx
      have hneg : isNeg s.data.toList = false := by
        unfold isNeg; rw [hh]
        cases hb : (some s[0] == some (45 : UInt8)) with
        | false => rfl
        | true =>
          have : s[0] = 45 := by simpa using hb
          rw [this] at hx
          exact absurd hx (by decide)
      have haft : afterSign s.data.toList = s.data.toList := by unfold afterSign; rw [if_neg (by rw [hneg]; simp)]
      have hle2 := figs_length_le (afterSign s.data.toList)
      rw [haft, ← hlen] at hle2
      have k1 := fun w => count_any s w hs
      have hF : ∀ m, m = (figs s.data.toList).length → (s.extract 0 m).data.toList = figs s.data.toList := by
        intro m hm
        rw [Lib.extract_data, List.drop_zero, hm, Nat.sub_zero]
        exact (figs_prefix _).symm
      have w0 := wholeE_none (l := s.data.toList)
      have w1 := wholeE_pos_over (l := s.data.toList)
      have w2 := wholeE_pos (l := s.data.toList)
      rw [haft] at w0 w1 w2
      have k2 : ∀ m : Nat, m = (figs s.data.toList).length → ∀ w, Calls Tryz.prog 273 #[.string (s.extract 0 m), .int .u64 9223372036854775807] w fun e w' => e = sizeE (natOf (figs s.data.toList) : Int) 9223372036854775807 ∧ w = w' := by
        intro m hm w
        have := size_any (s.extract 0 m) 9223372036854775807 w (by rw [ByteArray.size_extract]; omega) (by rw [hF m hm]; exact figs_isFig _) (by omega) (by omega)
        rw [hF m hm] at this
        exact this
      generalize hm : (figs s.data.toList).length = m at k1 k2 hle2 w0 w1 w2
      have k3 := k2 m rfl
      generalize hN : (natOf (figs s.data.toList) : Int) = N at k3 w1 w2
      have hN0 : 0 ≤ N := by omega
      clear k2 hF haft hh hm hN hlen
      have W0 := Lib.hid w0
      have W1 := Lib.hid w1
      have W2 := Lib.hid w2
      have HNEG := Lib.hid hneg
      clear w0 w1 w2 hneg
      by_cases hm0 : m = 0
      · subst hm0
        go_enter Tryz.func222, Tryz.ntmps222
        go_wp2_with (go_at_call 272; refine (k1 _).mono ?_; rintro e w' ⟨rfl, rfl⟩)
        go_ret3
        exact ⟨W0.out (by simp), rfl⟩
      · have hmb : (((m : Nat) : Int) == 0) = false := by simp; omega
        by_cases ho : N ≤ 9223372036854775807
        · rw [← sizeE_yes ho] at k3
          have hw1 : IntKind.i64.wrap N = N := by rw [IntKind.wrap_i64]; omega
          have HO := Lib.hid ho
          clear ho
          go_enter Tryz.func222, Tryz.ntmps222
          go_wp2_with (first | (go_at_call 272; refine (k1 _).mono ?_; rintro e w' ⟨rfl, rfl⟩) | (go_at_call 273; refine (k3 _).mono ?_; rintro e w' ⟨rfl, rfl⟩))
          go_ret3
          exact ⟨W2.out hm0 HNEG.out HO.out _ (by omega) _ rfl, rfl⟩
        · rw [← sizeE_no (show (9223372036854775807 : Int) < N by omega)] at k3
          have HO := Lib.hid ho
          clear ho
          go_enter Tryz.func222, Tryz.ntmps222
          go_wp2_with (first | (go_at_call 272; refine (k1 _).mono ?_; rintro e w' ⟨rfl, rfl⟩) | (go_at_call 273; refine (k3 _).mono ?_; rintro e w' ⟨rfl, rfl⟩))
          go_ret3
          exact ⟨W1.out hm0 HNEG.out (by have := HO.out; omega), rfl⟩
end Go.Proofs.YtbodnhpjfdnjfaaGreatDoor
namespace Go.Proofs.YtbodnhpjfdnjfaaGreatDoor
open Go.RowKit

theorem number_walk (sg wh fr tp rs : ByteArray) (u a b c : Int) (R : Ending) (w : World) (h1 : fr.size + 6 ≤ 9223372036854775807) (h2 : tp.size + wh.size ≤ 9223372036854775807) (h3 : tp.size + wh.size + rs.size ≤ 9223372036854775807)
    (hrs : (fr ++ ⟨#[48, 48, 48, 48, 48, 48]⟩).extract 0 6 = rs)
    (k1 : ∀ w, Calls Tryz.prog 261 #[.string sg, .string ⟨#[43]⟩] w fun e w' => e = .returned (.string tp) ∧ w' = w)
    (k2 : ∀ w, Calls Tryz.prog 222 #[.string (tp ++ wh ++ rs)] w fun e w' => e = .returned (.tuple #[.int .i64 a, .int .i64 b, .int .i64 c]) ∧ w = w')
    (hR : Hid (R = if c = 0 then .returned (.int .i64 a) else .panicked [{ v := .iface 29 (.int .i64 c), recovered := false }])) :
    Calls Tryz.prog 211 #[.agg #[.string sg, .string wh, .string fr, .int .i64 u]] w fun e w' => e = R ∧ Below w.heap.size w w' := by
  have n1 : ¬ 9223372036854775807 < fr.size + 6 := by omega
  have n2 : ¬ 9223372036854775807 < tp.size + wh.size := by omega
  have n3 : ¬ 9223372036854775807 < tp.size + wh.size + rs.size := by omega
  have n4 : (6 : Int) ≤ (fr.size : Int) + 6 := by omega
  by_cases hc : c = 0
  · subst hc
    have HR0 : Hid (Ending.returned (.int .i64 a) = R) := (hR.out.trans (if_pos rfl)).symm
    clear hR
    go_enter Tryz.func211, Tryz.ntmps211
    go_wp2_with fail
    go_region_law (first | (go_simp; go_at_call 261; refine (k1 _).mono ?_; rintro e w2 ⟨rfl, rfl⟩) | (go_simp; go_at_call 222; refine (k2 _).mono ?_; rintro e w2 ⟨rfl, rfl⟩))
    all_goals
      go_wp2
      go_ret
      exact ⟨HR0.out, ((Below.refl _ w).alloc (Nat.le_refl _) _).drew⟩
  · have hcb : ((c : Int) == 0) = false := beq_eq_false_iff_ne.2 hc
    have HR0 : Hid (Ending.panicked [{ v := .iface 29 (.int .i64 c), recovered := false }] = R) := (hR.out.trans (if_neg hc)).symm
    clear hR
    go_enter Tryz.func211, Tryz.ntmps211
    go_wp2_with fail
    go_region_law (first | (go_simp; go_at_call 261; refine (k1 _).mono ?_; rintro e w2 ⟨rfl, rfl⟩) | (go_simp; go_at_call 222; refine (k2 _).mono ?_; rintro e w2 ⟨rfl, rfl⟩))
    all_goals
      go_wp2
      exact ⟨rfl, HR0.out, ((Below.refl _ w).alloc (Nat.le_refl _) _).drew⟩

theorem whole_figs (D : List UInt8) (h : D.all isFig = true) (hn : D ≠ []) : wholeD D = if natOf D ≤ 9223372036854775807 then ((natOf D : Int), (D.length : Int), 0) else (0, 0, 3) := by
  have hneg : isNeg D = false := by
    cases D with
    | nil => rfl
    | cons c r =>
      simp only [List.all_cons, Bool.and_eq_true] at h
      unfold isNeg
      simp only [List.head?_cons]
      cases hb : (some c == some (45 : UInt8)) with
      | false => rfl
      | true =>
        have : c = 45 := by simpa using hb
        rw [this] at h
        exact absurd h.1 (by decide)
  have ha : afterSign D = D := by unfold afterSign; rw [if_neg (by rw [hneg]; simp)]
  unfold wholeD
  rw [ha, figs_all D h, if_neg hn, if_neg (by rw [hneg]; simp)]
theorem whole_neg_figs (D : List UInt8) (h : D.all isFig = true) (hn : D ≠ []) : wholeD (45 :: D) = if natOf D ≤ 9223372036854775808 then (-(natOf D : Int), (D.length : Int) + 1, 0) else (0, 0, 3) := by
  have hneg : isNeg (45 :: D) = true := rfl
  have ha : afterSign (45 :: D) = D := by unfold afterSign; rw [if_pos hneg]; rfl
  unfold wholeD
  rw [ha, figs_all D h, if_neg hn, if_pos hneg]
theorem zeros_all : zeros6.all isFig = true := by decide
theorem take_all {l : List UInt8} (h : l.all isFig = true) (n : Nat) : (l.take n).all isFig = true := by
  rw [List.all_eq_true] at h ⊢
  exact fun x hx => h x (List.mem_of_mem_take hx)

theorem number_any (sg wh fr : List UInt8) (u : Int) (w : World) (hsg : sg = [] ∨ sg = [45] ∨ sg = [43]) (hw : wh.all isFig = true) (hf : fr.all isFig = true) (hl : wh.length ≤ 60000000000000) (hl2 : fr.length ≤ 60000000000000) :
    Calls Tryz.prog 211 #[.agg #[.string (ba sg), .string (ba wh), .string (ba fr), .int .i64 u]] w fun e w' => e = deedOf (sgn (sg == [45]) (natOf (wh ++ (fr ++ zeros6).take 6))) ∧ Below w.heap.size w w' := by
  have hD : (wh ++ (fr ++ zeros6).take 6).all isFig = true := by
    rw [List.all_append, hw, take_all (by rw [List.all_append, hf, zeros_all]; rfl)]; rfl
  have h6 : ((fr ++ zeros6).take 6).length = 6 := by rw [List.length_take, List.length_append]; show min 6 (fr.length + 6) = 6; omega
  have hne : wh ++ (fr ++ zeros6).take 6 ≠ [] := by
    intro h
    have := congrArg List.length h
    rw [List.length_append, h6, List.length_nil] at this
    omega
  obtain ⟨tp, htp⟩ : ∃ tp : List UInt8, tp = if sg = [45] then [45] else [] := ⟨_, rfl⟩
  have htl : tp.length ≤ 1 := by rw [htp]; split <;> simp
  have k1 : ∀ w, Calls Tryz.prog 261 #[.string (ba sg), .string ⟨#[43]⟩] w fun e w' => e = .returned (.string (ba tp)) ∧ w' = w := by
    intro w
    refine (Tryz.strings_TrimPrefix (ba sg) ⟨#[43]⟩ w).mono fun e w' h => ⟨h.1.trans ?_, h.2⟩
    rcases hsg with rfl | rfl | rfl
    · rw [htp]; rfl
    · rw [htp]; rfl
    · rw [htp]; rfl
  have hT : ba tp ++ ba wh ++ ba ((fr ++ zeros6).take 6) = ba (tp ++ (wh ++ (fr ++ zeros6).take 6)) := by rw [ba_append, ba_append, List.append_assoc]
  have hTs : (ba (tp ++ (wh ++ (fr ++ zeros6).take 6))).size ≤ 70000000000000 := by
    rw [ba_len, List.length_append, List.length_append, h6]; omega
  have k2 := fun w => whole_any (ba (tp ++ (wh ++ (fr ++ zeros6).take 6))) w hTs
  rw [ba_list] at k2
  unfold wholeE at k2
  refine number_walk (ba sg) (ba wh) (ba fr) (ba tp) (ba ((fr ++ zeros6).take 6)) u (wholeD (tp ++ (wh ++ (fr ++ zeros6).take 6))).1 (wholeD (tp ++ (wh ++ (fr ++ zeros6).take 6))).2.1 (wholeD (tp ++ (wh ++ (fr ++ zeros6).take 6))).2.2 _ w
    (by rw [ba_len]; omega) (by rw [ba_len, ba_len]; omega) (by rw [ba_len, ba_len, ba_len, h6]; omega) ?_ k1 (by rw [hT]; exact k2) ?_
  · refine ba_ext ?_
    rw [cut_front, ByteArray.data_append, Array.toList_append]
    rfl
  · show _ = _
    generalize wh ++ (fr ++ zeros6).take 6 = D at *
    by_cases h45 : sg = [45]
    · have ht : tp = [45] := by rw [htp, if_pos h45]
      have hs : (sg == [45]) = true := by rw [h45]; rfl
      rw [ht, hs, List.singleton_append, whole_neg_figs D hD hne]
      have hx : sgn true (natOf D) = -(natOf D : Int) := rfl
      rw [hx]
      by_cases h : natOf D ≤ 9223372036854775808
      · rw [if_pos h, deedOf_in (by omega)]; rfl
      · rw [if_neg h, deedOf_out (by omega)]; rfl
    · have ht : tp = [] := by rw [htp, if_neg h45]
      have hs : (sg == [45]) = false := by
        rcases hsg with rfl | rfl | rfl
        · rfl
        · exact absurd rfl h45
        · rfl
      rw [ht, hs, List.nil_append, whole_figs D hD hne]
      have hx : sgn false (natOf D) = (natOf D : Int) := rfl
      rw [hx]
      by_cases h : natOf D ≤ 9223372036854775807
      · rw [if_pos h, deedOf_in (by omega)]; rfl
      · rw [if_neg h, deedOf_out (by omega)]; rfl
end Go.Proofs.YtbodnhpjfdnjfaaGreatDoor
