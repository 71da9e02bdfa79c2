/- The document's own number at the beginning of a text: the same answer as 'wholeE' says. Condition: the text is shorter than 2^46. -/
import Derived.Test.YteggmkjpidfdgaaDoorHexWhole
namespace Go.Proofs.YteggmkjpidfdgaaDoor
open Go.RowKit Go.Lib

theorem take_snocL (l : List UInt8) (k : Nat) (h : k < l.length) : l.take (k + 1) = l.take k ++ [l[k]] := by
  rw [List.take_succ_eq_append_getElem h]
theorem figs_atL (l : List UInt8) (k : Nat) (hk : k < l.length) (ha : (l.take k).all isFig = true) (hc : isFig l[k] = false) : figs l = l.take k := by
  have h1 : l = l.take k ++ l[k] :: l.drop (k + 1) := by
    conv => lhs; rw [← List.take_append_drop k l]
    rw [List.drop_eq_getElem_cons hk]
  conv => lhs; rw [h1]
  rw [figs_stop _ _ _ ha hc]
/-- How far the reading has come: too great a number, or the number turned round. -/
def SoFar (b : Bool) (a : Int) (n : Nat) : Prop := (b = true ∧ (9223372036854775808 : Int) < (n : Int)) ∨ (b = false ∧ a = -(n : Int) ∧ (n : Int) ≤ 9223372036854775808)
def refQ (d : Int) : Int := -((9223372036854775808 - d) / 10)
theorem refQ_eq (d : Int) (h0 : 0 ≤ d) (h1 : d ≤ 9) : (-9223372036854775808 + d).tdiv 10 = refQ d := by
  have e : -9223372036854775808 + d = -(9223372036854775808 - d) := by omega
  rw [e, Int.neg_tdiv, Int.tdiv_eq_ediv_of_nonneg (by omega)]; rfl

set_option maxHeartbeats 1000000 in
theorem refWhole_any (s : ByteArray) (w : World) (hs : s.size ≤ 70000000000000) :
    Calls Tryd.prog 20 #[.string s] w fun e w' => e = wholeE s.data.toList ∧ w = w' := by
  have hlen : s.data.toList.length = s.size := by rw [Array.length_toList]; rfl
  by_cases h0 : s.size = 0
  · have hl : s.data.toList = [] := List.eq_nil_of_length_eq_zero (by rw [hlen]; exact h0)
    have HW := Lib.hid (wholeE_none (l := s.data.toList) (by rw [hl]; rfl))
    clear hl hlen
    go_enter Tryd.func20, Tryd.ntmps20
    go_wp2
    go_loop [5, 7, 8] (fun i n o => i = .int .i64 0 ∧ n = .int .i64 0 ∧ o = .bool false) (fun _ _ _ => 0)
    case atStart => exact ⟨rfl, rfl, rfl⟩
    case round =>
      obtain ⟨rfl, rfl, rfl⟩ := hrel
      go_wp2
      go_ret3
      exact ⟨HW.out, rfl⟩
  · have hpos : 0 < s.size := by omega
    have hpos' : (0 : Int) < (s.size : Int) := by omega
    have hh : s.data.toList.head? = some s[0] := by
      rw [List.head?_eq_getElem?, List.getElem?_eq_getElem (by rw [hlen]; exact hpos)]; rfl
    have data : ∃ p : Nat, (p = 1 ∧ isNeg s.data.toList = true ∧ ((s[0].toNat : Int) == 45) = true) ∨ (p = 0 ∧ isNeg s.data.toList = false ∧ ((s[0].toNat : Int) == 45) = false) := by
      by_cases hx : ((s[0].toNat : Int) == 45) = true
      · refine ⟨1, .inl ⟨rfl, ?_, hx⟩⟩
        unfold isNeg; rw [hh]
        have : s[0] = 45 := UInt8.toNat_inj.1 (by simp at hx; have : s[0].toNat = 45 := by omega
                                                  exact this)
        rw [this]; rfl
      · rw [Bool.not_eq_true] at hx
        refine ⟨0, .inr ⟨rfl, ?_, hx⟩⟩
        unfold isNeg; rw [hh]
        cases hb : (some s[0] == some (45 : UInt8)) with
        | false => rfl
        | true =>
          have : s[0] = 45 := by simpa using hb
          rw [this] at hx
          exact absurd hx (by decide)
    obtain ⟨p, hp⟩ := data
    obtain ⟨R, hR⟩ : ∃ R, R = s.data.toList.drop p := ⟨_, rfl⟩
    have hRl : R.length = s.size - p := by rw [hR, List.length_drop, hlen]
    have haft : afterSign s.data.toList = R := by
      rw [hR]; unfold afterSign
      rcases hp with ⟨rfl, h, _⟩ | ⟨rfl, h, _⟩
      · rw [if_pos h, List.drop_one]
      · rw [if_neg (by rw [h]; simp)]; rfl
    have hRk : ∀ k (h : p + k < s.size) (h' : k < R.length), R[k] = s[p + k] := by
      intro k h h'
      subst hR
      rw [List.getElem_drop]; rfl
    have w0 := wholeE_none (l := s.data.toList)
    have w1 := wholeE_neg_over (l := s.data.toList)
    have w2 := wholeE_neg (l := s.data.toList)
    have w3 := wholeE_pos_over (l := s.data.toList)
    have w4 := wholeE_pos (l := s.data.toList)
    rw [haft] at w0 w1 w2 w3 w4
    have W0 := Lib.hid w0
    have W1 := Lib.hid w1
    have W2 := Lib.hid w2
    have W3 := Lib.hid w3
    have W4 := Lib.hid w4
    have HRK := Lib.hid hRk
    have HRL := Lib.hid hRl
    clear w0 w1 w2 w3 w4 haft hRk hRl hh hlen hR
    rcases hp with ⟨rfl, hneg, hx⟩ | ⟨rfl, hneg, hx⟩
    · have HNEG := Lib.hid hneg
      clear hneg
      go_enter Tryd.func20, Tryd.ntmps20
      go_wp2
      go_loop [5, 7, 8] (fun i n o => ∃ (k j : Nat) (a : Int) (b : Bool), i = .int .i64 j ∧ j ≤ s.size ∧ Hid (j = 1 + k) ∧ Hid ((R.take k).all isFig = true) ∧ n = .int .i64 a ∧ o = .bool b ∧ Hid (SoFar b a (natOf (R.take k)))) (fun i _ _ => s.size - (intOf i).toNat)
      case atStart => exact ⟨0, 1, 0, false, rfl, hpos, rfl, rfl, rfl, rfl, .inr ⟨rfl, rfl, by rw [List.take_zero]; decide⟩⟩
      case round =>
        obtain ⟨k, j, a, b, rfl, hjs, HJ, HF, rfl, rfl, HS⟩ := hrel
        by_cases hlt : j < s.size
        · have hlt' : (j : Int) < (s.size : Int) := by omega
          obtain ⟨c, hc⟩ : ∃ c, s[j] = c := ⟨_, rfl⟩
          have HRC : Hid (∃ h : k < R.length, R[k] = c) := by
            have e := HJ.out
            subst e
            have h' : k < R.length := by rw [HRL.out]; omega
            exact ⟨h', (HRK.out k hlt h').trans hc⟩
          obtain ⟨z, hz⟩ : ∃ z : Int, (s[j].toNat : Int) = z := ⟨_, rfl⟩
          have HZ : Hid ((c.toNat : Int) = z) := by rw [hc] at hz; exact hz
          have hz0 : 0 ≤ z := by omega
          have hz1 : z ≤ 255 := by have := HZ.out; have := u8_lt c; omega
          clear hc
          have cls : (48 ≤ z ∧ z ≤ 57) ∨ z < 48 ∨ 57 < z := by omega
          rcases cls with ⟨hf0, hf1⟩ | hf | hf
          · have HC : Hid (isFig c = true) := by
              show isFig c = true
              unfold isFig; rw [HZ.out, decide_eq_true hf0, decide_eq_true hf1]; rfl
            have HT : Hid (R.take (k + 1) = R.take k ++ [c]) := by
              obtain ⟨h, hr⟩ := HRC.out
              show R.take (k + 1) = R.take k ++ [c]
              rw [take_snocL R k h, hr]
            have HF2 : Hid ((R.take (k + 1)).all isFig = true) := by
              show (R.take (k + 1)).all isFig = true
              rw [HT.out, List.all_append, HF.out]; simp [HC.out]
            have HNN : Hid ((natOf (R.take (k + 1)) : Int) = 10 * (natOf (R.take k) : Int) + (z - 48)) := by
              show (natOf (R.take (k + 1)) : Int) = 10 * (natOf (R.take k) : Int) + (z - 48)
              rw [HT.out, natOf_snoc]
              have := HZ.out
              unfold figV; omega
            have HJ2 : Hid (j + 1 = 1 + (k + 1)) := by
              show j + 1 = 1 + (k + 1)
              have := HJ.out; omega
            obtain ⟨q, hq⟩ : ∃ q, q = refQ (z - 48) := ⟨_, rfl⟩
            have hq1 := refQ_eq (z - 48) (by omega) (by omega)
            rw [← hq] at hq1
            have HQ := Lib.hid hq
            have hqb0 : -922337203685477580 ≤ q := by rw [hq]; unfold refQ; omega
            have hqb1 : q ≤ 0 := by rw [hq]; unfold refQ; omega
            clear hq
            cases b
            · have hfa : a = -(natOf (R.take k) : Int) ∧ (natOf (R.take k) : Int) ≤ 9223372036854775808 := by
                rcases HS.out with ⟨h, _⟩ | ⟨_, h⟩
                · cases h
                · exact h
              by_cases ho : a < q
              · have HS2 : ∀ x, Hid (SoFar true x (natOf (R.take (k + 1)))) := fun x => .inl ⟨rfl, by
                  rw [HNN.out]
                  have h1 := HQ.out
                  unfold refQ at h1
                  omega⟩
                clear hfa HS
                go_wp2
                go_round
                case rel => exact ⟨k + 1, j + 1, _, _, by go_num, by omega, HJ2, HF2, rfl, rfl, HS2 _⟩
                case measure => simp [intOf]; omega
              · have hlo : -9223372036854775808 ≤ 10 * a - (z - 48) := by
                  have h1 := HQ.out
                  unfold refQ at h1
                  omega
                have ha1 : a ≤ 0 := by omega
                have ha2 : -9223372036854775808 ≤ a := by omega
                have HS2 : Hid (SoFar false (10 * a - (z - 48)) (natOf (R.take (k + 1)))) := .inr ⟨rfl, by rw [HNN.out]; omega, by rw [HNN.out]; omega⟩
                have hnot : ¬ (a = -922337203685477580 ∧ z = 57) := by
                  have h1 := HQ.out
                  unfold refQ at h1
                  omega
                clear hfa HS
                by_cases hm : (a == -922337203685477580) = true
                · have hd : (z - 48 == 9) = false := by
                    rw [beq_iff_eq] at hm
                    rw [beq_eq_false_iff_ne]; omega
                  clear hnot
                  go_wp2
                  go_round
                  case rel => exact ⟨k + 1, j + 1, _, _, by go_num, by omega, HJ2, HF2, rfl, rfl, HS2⟩
                  case measure => simp [intOf]; omega
                · rw [Bool.not_eq_true] at hm
                  clear hnot
                  go_wp2
                  go_round
                  case rel => exact ⟨k + 1, j + 1, _, _, by go_num, by omega, HJ2, HF2, rfl, rfl, HS2⟩
                  case measure => simp [intOf]; omega
            · have HS2 : ∀ x, Hid (SoFar true x (natOf (R.take (k + 1)))) := fun x => .inl ⟨rfl, by
                rw [HNN.out]
                rcases HS.out with ⟨_, h⟩ | ⟨h, _⟩
                · omega
                · cases h⟩
              clear HS
              go_wp2
              go_round
              case rel => exact ⟨k + 1, j + 1, _, _, by go_num, by omega, HJ2, HF2, rfl, rfl, HS2 _⟩
              case measure => simp [intOf]; omega
          · have HFIG : Hid (figs R = R.take k) := by
              obtain ⟨h, hr⟩ := HRC.out
              refine figs_atL R k h HF.out ?_
              rw [hr]; unfold isFig; rw [HZ.out, Bool.and_eq_false_iff]; simp only [decide_eq_false_iff_not]; omega
            have HLEN : Hid ((figs R).length = k) := by
              show (figs R).length = k
              rw [HFIG.out, List.length_take, HRL.out]
              have := HJ.out; omega
            have HN : Hid ((natOf (figs R) : Int) = (natOf (R.take k) : Int)) := by
              show (natOf (figs R) : Int) = (natOf (R.take k) : Int)
              rw [HFIG.out]
            by_cases hk0 : k = 0
            · have hj0 : ((j : Int) == 1) = true := by
                rw [beq_iff_eq]; have := HJ.out; omega
              have HW := Lib.hid (W0.out (by rw [HLEN.out, hk0]))
              have HK := Lib.hid hk0
              clear hk0
              go_wp2
              go_ret3
              exact ⟨HW.out, rfl⟩
            · have hj0 : ((j : Int) == 1) = false := by
                rw [beq_eq_false_iff_ne]; have := HJ.out; omega
              have HNZ : Hid ((figs R).length ≠ 0) := by
                show (figs R).length ≠ 0
                rw [HLEN.out]; exact hk0
              rcases HS.out with ⟨rfl, hov⟩ | ⟨rfl, haN, hle⟩
              · have HW := Lib.hid (W1.out HNZ.out HNEG.out (by rw [HN.out]; exact hov))
                clear hov HS
                go_wp2
                go_ret3
                exact ⟨HW.out, rfl⟩
              · have HW := Lib.hid (W2.out HNZ.out HNEG.out (by rw [HN.out]; exact hle) (j : Int) (by rw [HLEN.out]; have := HJ.out; omega) a (by rw [HN.out]; exact haN))
                clear haN hle HS
                go_wp2
                go_ret3
                exact ⟨HW.out, rfl⟩
          · have HFIG : Hid (figs R = R.take k) := by
              obtain ⟨h, hr⟩ := HRC.out
              refine figs_atL R k h HF.out ?_
              rw [hr]; unfold isFig; rw [HZ.out, Bool.and_eq_false_iff]; simp only [decide_eq_false_iff_not]; omega
            have HLEN : Hid ((figs R).length = k) := by
              show (figs R).length = k
              rw [HFIG.out, List.length_take, HRL.out]
              have := HJ.out; omega
            have HN : Hid ((natOf (figs R) : Int) = (natOf (R.take k) : Int)) := by
              show (natOf (figs R) : Int) = (natOf (R.take k) : Int)
              rw [HFIG.out]
            by_cases hk0 : k = 0
            · have hj0 : ((j : Int) == 1) = true := by
                rw [beq_iff_eq]; have := HJ.out; omega
              have HW := Lib.hid (W0.out (by rw [HLEN.out, hk0]))
              have HK := Lib.hid hk0
              clear hk0
              go_wp2
              go_ret3
              exact ⟨HW.out, rfl⟩
            · have hj0 : ((j : Int) == 1) = false := by
                rw [beq_eq_false_iff_ne]; have := HJ.out; omega
              have HNZ : Hid ((figs R).length ≠ 0) := by
                show (figs R).length ≠ 0
                rw [HLEN.out]; exact hk0
              rcases HS.out with ⟨rfl, hov⟩ | ⟨rfl, haN, hle⟩
              · have HW := Lib.hid (W1.out HNZ.out HNEG.out (by rw [HN.out]; exact hov))
                clear hov HS
                go_wp2
                go_ret3
                exact ⟨HW.out, rfl⟩
              · have HW := Lib.hid (W2.out HNZ.out HNEG.out (by rw [HN.out]; exact hle) (j : Int) (by rw [HLEN.out]; have := HJ.out; omega) a (by rw [HN.out]; exact haN))
                clear haN hle HS
                go_wp2
                go_ret3
                exact ⟨HW.out, rfl⟩
        · have HFIG : Hid (figs R = R.take k) := by
            have h1 : R.length ≤ k := by rw [HRL.out]; have := HJ.out; omega
            have h2 := HF.out
            rw [List.take_of_length_le h1] at h2
            show figs R = R.take k
            rw [List.take_of_length_le h1, figs_all R h2]
          have hge : (s.size : Int) ≤ (j : Int) := by omega
          have HLEN : Hid ((figs R).length = k) := by
            show (figs R).length = k
            rw [HFIG.out, List.length_take, HRL.out]
            have := HJ.out; omega
          have HN : Hid ((natOf (figs R) : Int) = (natOf (R.take k) : Int)) := by
            show (natOf (figs R) : Int) = (natOf (R.take k) : Int)
            rw [HFIG.out]
          by_cases hk0 : k = 0
          · have hj0 : ((j : Int) == 1) = true := by
              rw [beq_iff_eq]; have := HJ.out; omega
            have HW := Lib.hid (W0.out (by rw [HLEN.out, hk0]))
            have HK := Lib.hid hk0
            clear hk0
            go_wp2
            go_ret3
            exact ⟨HW.out, rfl⟩
          · have hj0 : ((j : Int) == 1) = false := by
              rw [beq_eq_false_iff_ne]; have := HJ.out; omega
            have HNZ : Hid ((figs R).length ≠ 0) := by
              show (figs R).length ≠ 0
              rw [HLEN.out]; exact hk0
            rcases HS.out with ⟨rfl, hov⟩ | ⟨rfl, haN, hle⟩
            · have HW := Lib.hid (W1.out HNZ.out HNEG.out (by rw [HN.out]; exact hov))
              clear hov HS
              go_wp2
              go_ret3
              exact ⟨HW.out, rfl⟩
            · have HW := Lib.hid (W2.out HNZ.out HNEG.out (by rw [HN.out]; exact hle) (j : Int) (by rw [HLEN.out]; have := HJ.out; omega) a (by rw [HN.out]; exact haN))
              clear haN hle HS
              go_wp2
              go_ret3
              exact ⟨HW.out, rfl⟩
    · have HNEG := Lib.hid hneg
      clear hneg
      go_enter Tryd.func20, Tryd.ntmps20
      go_wp2
      go_loop [5, 7, 8] (fun i n o => ∃ (k j : Nat) (a : Int) (b : Bool), i = .int .i64 j ∧ j ≤ s.size ∧ Hid (j = 0 + k) ∧ Hid ((R.take k).all isFig = true) ∧ n = .int .i64 a ∧ o = .bool b ∧ Hid (SoFar b a (natOf (R.take k)))) (fun i _ _ => s.size - (intOf i).toNat)
      case atStart => exact ⟨0, 0, 0, false, rfl, Nat.zero_le _, rfl, rfl, rfl, rfl, .inr ⟨rfl, rfl, by rw [List.take_zero]; decide⟩⟩
      case round =>
        obtain ⟨k, j, a, b, rfl, hjs, HJ, HF, rfl, rfl, HS⟩ := hrel
        by_cases hlt : j < s.size
        · have hlt' : (j : Int) < (s.size : Int) := by omega
          obtain ⟨c, hc⟩ : ∃ c, s[j] = c := ⟨_, rfl⟩
          have HRC : Hid (∃ h : k < R.length, R[k] = c) := by
            have e := HJ.out
            subst e
            have h' : k < R.length := by rw [HRL.out]; omega
            exact ⟨h', (HRK.out k hlt h').trans hc⟩
          obtain ⟨z, hz⟩ : ∃ z : Int, (s[j].toNat : Int) = z := ⟨_, rfl⟩
          have HZ : Hid ((c.toNat : Int) = z) := by rw [hc] at hz; exact hz
          have hz0 : 0 ≤ z := by omega
          have hz1 : z ≤ 255 := by have := HZ.out; have := u8_lt c; omega
          clear hc
          have cls : (48 ≤ z ∧ z ≤ 57) ∨ z < 48 ∨ 57 < z := by omega
          rcases cls with ⟨hf0, hf1⟩ | hf | hf
          · have HC : Hid (isFig c = true) := by
              show isFig c = true
              unfold isFig; rw [HZ.out, decide_eq_true hf0, decide_eq_true hf1]; rfl
            have HT : Hid (R.take (k + 1) = R.take k ++ [c]) := by
              obtain ⟨h, hr⟩ := HRC.out
              show R.take (k + 1) = R.take k ++ [c]
              rw [take_snocL R k h, hr]
            have HF2 : Hid ((R.take (k + 1)).all isFig = true) := by
              show (R.take (k + 1)).all isFig = true
              rw [HT.out, List.all_append, HF.out]; simp [HC.out]
            have HNN : Hid ((natOf (R.take (k + 1)) : Int) = 10 * (natOf (R.take k) : Int) + (z - 48)) := by
              show (natOf (R.take (k + 1)) : Int) = 10 * (natOf (R.take k) : Int) + (z - 48)
              rw [HT.out, natOf_snoc]
              have := HZ.out
              unfold figV; omega
            have HJ2 : Hid (j + 1 = 0 + (k + 1)) := by
              show j + 1 = 0 + (k + 1)
              have := HJ.out; omega
            obtain ⟨q, hq⟩ : ∃ q, q = refQ (z - 48) := ⟨_, rfl⟩
            have hq1 := refQ_eq (z - 48) (by omega) (by omega)
            rw [← hq] at hq1
            have HQ := Lib.hid hq
            have hqb0 : -922337203685477580 ≤ q := by rw [hq]; unfold refQ; omega
            have hqb1 : q ≤ 0 := by rw [hq]; unfold refQ; omega
            clear hq
            cases b
            · have hfa : a = -(natOf (R.take k) : Int) ∧ (natOf (R.take k) : Int) ≤ 9223372036854775808 := by
                rcases HS.out with ⟨h, _⟩ | ⟨_, h⟩
                · cases h
                · exact h
              by_cases ho : a < q
              · have HS2 : ∀ x, Hid (SoFar true x (natOf (R.take (k + 1)))) := fun x => .inl ⟨rfl, by
                  rw [HNN.out]
                  have h1 := HQ.out
                  unfold refQ at h1
                  omega⟩
                clear hfa HS
                go_wp2
                go_round
                case rel => exact ⟨k + 1, j + 1, _, _, by go_num, by omega, HJ2, HF2, rfl, rfl, HS2 _⟩
                case measure => simp [intOf]; omega
              · have hlo : -9223372036854775808 ≤ 10 * a - (z - 48) := by
                  have h1 := HQ.out
                  unfold refQ at h1
                  omega
                have ha1 : a ≤ 0 := by omega
                have ha2 : -9223372036854775808 ≤ a := by omega
                have HS2 : Hid (SoFar false (10 * a - (z - 48)) (natOf (R.take (k + 1)))) := .inr ⟨rfl, by rw [HNN.out]; omega, by rw [HNN.out]; omega⟩
                have hnot : ¬ (a = -922337203685477580 ∧ z = 57) := by
                  have h1 := HQ.out
                  unfold refQ at h1
                  omega
                clear hfa HS
                by_cases hm : (a == -922337203685477580) = true
                · have hd : (z - 48 == 9) = false := by
                    rw [beq_iff_eq] at hm
                    rw [beq_eq_false_iff_ne]; omega
                  clear hnot
                  go_wp2
                  go_round
                  case rel => exact ⟨k + 1, j + 1, _, _, by go_num, by omega, HJ2, HF2, rfl, rfl, HS2⟩
                  case measure => simp [intOf]; omega
                · rw [Bool.not_eq_true] at hm
                  clear hnot
                  go_wp2
                  go_round
                  case rel => exact ⟨k + 1, j + 1, _, _, by go_num, by omega, HJ2, HF2, rfl, rfl, HS2⟩
                  case measure => simp [intOf]; omega
            · have HS2 : ∀ x, Hid (SoFar true x (natOf (R.take (k + 1)))) := fun x => .inl ⟨rfl, by
                rw [HNN.out]
                rcases HS.out with ⟨_, h⟩ | ⟨h, _⟩
                · omega
                · cases h⟩
              clear HS
              go_wp2
              go_round
              case rel => exact ⟨k + 1, j + 1, _, _, by go_num, by omega, HJ2, HF2, rfl, rfl, HS2 _⟩
              case measure => simp [intOf]; omega
          · have HFIG : Hid (figs R = R.take k) := by
              obtain ⟨h, hr⟩ := HRC.out
              refine figs_atL R k h HF.out ?_
              rw [hr]; unfold isFig; rw [HZ.out, Bool.and_eq_false_iff]; simp only [decide_eq_false_iff_not]; omega
            have HLEN : Hid ((figs R).length = k) := by
              show (figs R).length = k
              rw [HFIG.out, List.length_take, HRL.out]
              have := HJ.out; omega
            have HN : Hid ((natOf (figs R) : Int) = (natOf (R.take k) : Int)) := by
              show (natOf (figs R) : Int) = (natOf (R.take k) : Int)
              rw [HFIG.out]
            by_cases hk0 : k = 0
            · have hj0 : ((j : Int) == 0) = true := by
                rw [beq_iff_eq]; have := HJ.out; omega
              have HW := Lib.hid (W0.out (by rw [HLEN.out, hk0]))
              have HK := Lib.hid hk0
              clear hk0
              go_wp2
              go_ret3
              exact ⟨HW.out, rfl⟩
            · have hj0 : ((j : Int) == 0) = false := by
                rw [beq_eq_false_iff_ne]; have := HJ.out; omega
              have HNZ : Hid ((figs R).length ≠ 0) := by
                show (figs R).length ≠ 0
                rw [HLEN.out]; exact hk0
              rcases HS.out with ⟨rfl, hov⟩ | ⟨rfl, haN, hle⟩
              · have HW := Lib.hid (W3.out HNZ.out HNEG.out (by rw [HN.out]; omega))
                clear hov HS
                by_cases hmin : (a == -9223372036854775808) = true
                · go_wp2
                  go_ret3
                  exact ⟨HW.out, rfl⟩
                · rw [Bool.not_eq_true] at hmin
                  go_wp2
                  go_ret3
                  exact ⟨HW.out, rfl⟩
              · by_cases hmin : (a == -9223372036854775808) = true
                · have HW := Lib.hid (W3.out HNZ.out HNEG.out (by rw [HN.out]; rw [beq_iff_eq] at hmin; omega))
                  clear haN hle HS
                  go_wp2
                  go_ret3
                  exact ⟨HW.out, rfl⟩
                · rw [Bool.not_eq_true] at hmin
                  have hne := beq_eq_false_iff_ne.1 hmin
                  have HW := Lib.hid (W4.out HNZ.out HNEG.out (by rw [HN.out]; omega) (j : Int) (by rw [HLEN.out]; have := HJ.out; omega) (-a) (by rw [HN.out]; omega))
                  have ha0 : -9223372036854775807 ≤ a := by omega
                  have ha1 : a ≤ 0 := by omega
                  clear haN hle HS hne
                  go_wp2
                  go_ret3
                  exact ⟨HW.out, rfl⟩
          · have HFIG : Hid (figs R = R.take k) := by
              obtain ⟨h, hr⟩ := HRC.out
              refine figs_atL R k h HF.out ?_
              rw [hr]; unfold isFig; rw [HZ.out, Bool.and_eq_false_iff]; simp only [decide_eq_false_iff_not]; omega
            have HLEN : Hid ((figs R).length = k) := by
              show (figs R).length = k
              rw [HFIG.out, List.length_take, HRL.out]
              have := HJ.out; omega
            have HN : Hid ((natOf (figs R) : Int) = (natOf (R.take k) : Int)) := by
              show (natOf (figs R) : Int) = (natOf (R.take k) : Int)
              rw [HFIG.out]
            by_cases hk0 : k = 0
            · have hj0 : ((j : Int) == 0) = true := by
                rw [beq_iff_eq]; have := HJ.out; omega
              have HW := Lib.hid (W0.out (by rw [HLEN.out, hk0]))
              have HK := Lib.hid hk0
              clear hk0
              go_wp2
              go_ret3
              exact ⟨HW.out, rfl⟩
            · have hj0 : ((j : Int) == 0) = false := by
                rw [beq_eq_false_iff_ne]; have := HJ.out; omega
              have HNZ : Hid ((figs R).length ≠ 0) := by
                show (figs R).length ≠ 0
                rw [HLEN.out]; exact hk0
              rcases HS.out with ⟨rfl, hov⟩ | ⟨rfl, haN, hle⟩
              · have HW := Lib.hid (W3.out HNZ.out HNEG.out (by rw [HN.out]; omega))
                clear hov HS
                by_cases hmin : (a == -9223372036854775808) = true
                · go_wp2
                  go_ret3
                  exact ⟨HW.out, rfl⟩
                · rw [Bool.not_eq_true] at hmin
                  go_wp2
                  go_ret3
                  exact ⟨HW.out, rfl⟩
              · by_cases hmin : (a == -9223372036854775808) = true
                · have HW := Lib.hid (W3.out HNZ.out HNEG.out (by rw [HN.out]; rw [beq_iff_eq] at hmin; omega))
                  clear haN hle HS
                  go_wp2
                  go_ret3
                  exact ⟨HW.out, rfl⟩
                · rw [Bool.not_eq_true] at hmin
                  have hne := beq_eq_false_iff_ne.1 hmin
                  have HW := Lib.hid (W4.out HNZ.out HNEG.out (by rw [HN.out]; omega) (j : Int) (by rw [HLEN.out]; have := HJ.out; omega) (-a) (by rw [HN.out]; omega))
                  have ha0 : -9223372036854775807 ≤ a := by omega
                  have ha1 : a ≤ 0 := by omega
                  clear haN hle HS hne
                  go_wp2
                  go_ret3
                  exact ⟨HW.out, rfl⟩
        · have HFIG : Hid (figs R = R.take k) := by
            have h1 : R.length ≤ k := by rw [HRL.out]; have := HJ.out; omega
            have h2 := HF.out
            rw [List.take_of_length_le h1] at h2
            show figs R = R.take k
            rw [List.take_of_length_le h1, figs_all R h2]
          have hge : (s.size : Int) ≤ (j : Int) := by omega
          have HLEN : Hid ((figs R).length = k) := by
            show (figs R).length = k
            rw [HFIG.out, List.length_take, HRL.out]
            have := HJ.out; omega
          have HN : Hid ((natOf (figs R) : Int) = (natOf (R.take k) : Int)) := by
            show (natOf (figs R) : Int) = (natOf (R.take k) : Int)
            rw [HFIG.out]
          by_cases hk0 : k = 0
          · have hj0 : ((j : Int) == 0) = true := by
              rw [beq_iff_eq]; have := HJ.out; omega
            have HW := Lib.hid (W0.out (by rw [HLEN.out, hk0]))
            have HK := Lib.hid hk0
            clear hk0
            go_wp2
            go_ret3
            exact ⟨HW.out, rfl⟩
          · have hj0 : ((j : Int) == 0) = false := by
              rw [beq_eq_false_iff_ne]; have := HJ.out; omega
            have HNZ : Hid ((figs R).length ≠ 0) := by
              show (figs R).length ≠ 0
              rw [HLEN.out]; exact hk0
            rcases HS.out with ⟨rfl, hov⟩ | ⟨rfl, haN, hle⟩
            · have HW := Lib.hid (W3.out HNZ.out HNEG.out (by rw [HN.out]; omega))
              clear hov HS
              by_cases hmin : (a == -9223372036854775808) = true
              · go_wp2
                go_ret3
                exact ⟨HW.out, rfl⟩
              · rw [Bool.not_eq_true] at hmin
                go_wp2
                go_ret3
                exact ⟨HW.out, rfl⟩
            · by_cases hmin : (a == -9223372036854775808) = true
              · have HW := Lib.hid (W3.out HNZ.out HNEG.out (by rw [HN.out]; rw [beq_iff_eq] at hmin; omega))
                clear haN hle HS
                go_wp2
                go_ret3
                exact ⟨HW.out, rfl⟩
              · rw [Bool.not_eq_true] at hmin
                have hne := beq_eq_false_iff_ne.1 hmin
                have HW := Lib.hid (W4.out HNZ.out HNEG.out (by rw [HN.out]; omega) (j : Int) (by rw [HLEN.out]; have := HJ.out; omega) (-a) (by rw [HN.out]; omega))
                have ha0 : -9223372036854775807 ≤ a := by omega
                have ha1 : a ≤ 0 := by omega
                clear haN hle HS hne
                go_wp2
                go_ret3
                exact ⟨HW.out, rfl⟩
end Go.Proofs.YteggmkjpidfdgaaDoor
