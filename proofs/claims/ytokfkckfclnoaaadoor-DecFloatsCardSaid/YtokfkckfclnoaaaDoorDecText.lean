/- dec.Text. -/
import Derived.Test.YtokfkckfclnoaaaDoorDecFindAny
import Derived.Test.YtokfkckfclnoaaaDoorTab
import Derived.Test.YtokfkckfclnoaaaDoorDecParse
import Derived.Test.YtokfkckfclnoaaaDoorHexFigRef
namespace Go.Proofs.YtokfkckfclnoaaaDoor
open Go.RowKit Go.Lib

theorem cutprefix_in_no (s p : ByteArray) (w : World) (hb : Lib.hasPrefix s.data.toList p.data.toList = false) :
    Calls Tryd.prog 85 #[.string s, .string p] w fun e w' => e = .returned (.tuple #[.string s, .bool false]) ∧ w' = w := by
  have k1 := fun w => Tryd.stringslite_HasPrefix s p w
  rw [hb] at k1
  clear hb
  go_enter Tryd.func85, Tryd.ntmps85
  go_wp2_with (go_at_call 104; refine (k1 _).mono ?_; rintro e w' ⟨rfl, rfl⟩)
  go_ret2
  exact ⟨rfl, rfl⟩
theorem cutprefix_no (s p : ByteArray) (w : World) (hb : Lib.hasPrefix s.data.toList p.data.toList = false) :
    Calls Tryd.prog 52 #[.string s, .string p] w fun e w' => e = .returned (.tuple #[.string s, .bool false]) ∧ w' = w := by
  have k1 := fun w => cutprefix_in_no s p w hb
  clear hb
  go_enter Tryd.func52, Tryd.ntmps52
  go_wp2_with (go_at_call 85; refine (k1 _).mono ?_; rintro e w' ⟨rfl, rfl⟩)
  go_ret2
  exact ⟨rfl, rfl⟩
theorem cutprefix_in_yes (s p : ByteArray) (w : World) (hp : (p.size : Int) ≤ (s.size : Int)) (hb : Lib.hasPrefix s.data.toList p.data.toList = true) :
    Calls Tryd.prog 85 #[.string s, .string p] w fun e w' => e = .returned (.tuple #[.string (s.extract p.size s.size), .bool true]) ∧ w' = w := by
  have k1 := fun w => Tryd.stringslite_HasPrefix s p w
  rw [hb] at k1
  clear hb
  go_enter Tryd.func85, Tryd.ntmps85
  go_wp2_with (go_at_call 104; refine (k1 _).mono ?_; rintro e w' ⟨rfl, rfl⟩)
  go_ret2
  exact ⟨rfl, rfl⟩
theorem cutprefix_yes (s p : ByteArray) (w : World) (hp : (p.size : Int) ≤ (s.size : Int)) (hb : Lib.hasPrefix s.data.toList p.data.toList = true) :
    Calls Tryd.prog 52 #[.string s, .string p] w fun e w' => e = .returned (.tuple #[.string (s.extract p.size s.size), .bool true]) ∧ w' = w := by
  have k1 := fun w => cutprefix_in_yes s p w hp hb
  clear hb
  go_enter Tryd.func52, Tryd.ntmps52
  go_wp2_with (go_at_call 85; refine (k1 _).mono ?_; rintro e w' ⟨rfl, rfl⟩)
  go_ret2
  exact ⟨rfl, rfl⟩
theorem text_walk (S fg P out0 rs0 rest : ByteArray) (b : Bool) (n : Int) (w : World)
    (k1 : ∀ w, Below w.heap.size w w → Tab w → Calls Tryd.prog 53 #[.int .i64 n] w fun e w' => e = .returned (.string S) ∧ Below w.heap.size w w') (ht : Tab w)
    (k2 : ∀ w, Calls Tryd.prog 52 #[.string S, .string ⟨#[45]⟩] w fun e w' => e = .returned (.tuple #[.string fg, .bool b]) ∧ w' = w)
    (k3 : ∀ w, Calls Tryd.prog 54 #[.string rs0, .string ⟨#[48]⟩] w fun e w' => e = .returned (.string rest) ∧ w' = w)
    (L M : Nat) (hL : fg.size = L) (h1 : 1 ≤ L) (h2 : L ≤ 30) (hM : P.size = M) (hM1 : 7 ≤ M) (hM2 : M ≤ 30)
    (hP : L < 7 → (⟨#[48, 48, 48, 48, 48, 48]⟩ : ByteArray).extract 0 (7 - L) ++ fg = P) (hP2 : 7 ≤ L → fg = P)
    (ho : P.extract 0 (M - 6) = out0) (hr : P.extract (M - 6) M = rs0) (hz : rest.size ≤ 6) (hz2 : out0.size ≤ 30) (v : Value) (e : Bool) (hre : rest.toList.isEmpty = e)
    (HV : Hid (v = .string (if b then (if e then (⟨#[45]⟩ : ByteArray) ++ out0 else (⟨#[45]⟩ : ByteArray) ++ (out0 ++ ((⟨#[46]⟩ : ByteArray) ++ rest))) else (if e then out0 else out0 ++ ((⟨#[46]⟩ : ByteArray) ++ rest))))) :
    Calls Tryd.prog 15 #[.int .i64 n] w fun e w' => e = .returned v ∧ Below w.heap.size w w' := by
  have k1' := k1 w (Below.refl _ _) ht
  have m1 : ¬ 9223372036854775807 < 1 + rest.size := by omega
  have m2 : ¬ 9223372036854775807 < out0.size + (1 + rest.size) := by omega
  have m3 : ¬ 9223372036854775807 < 1 + (out0.size + (1 + rest.size)) := by omega
  have m4 : ¬ 9223372036854775807 < 1 + out0.size := by omega
  have m5 : (6 : Int) ≤ (M : Int) := by omega
  clear k1 ht
  cases e <;> cases b <;> by_cases h7 : L < 7
  all_goals
    first
      | (have hPP := hP h7; clear hP hP2)
      | (obtain rfl := hP2 (by omega); obtain rfl : M = L := by omega
         clear hP hP2)
    go_enter Tryd.func15, Tryd.ntmps15
    go_wp2_with (first | (go_at_call 53; refine k1'.mono ?_; rintro e w1 ⟨rfl, hb1⟩) | (go_at_call 52; refine (k2 _).mono ?_; rintro e w2 ⟨rfl, rfl⟩) | (go_at_call 54; refine (k3 _).mono ?_; rintro e w2 ⟨rfl, rfl⟩))
    go_ret
    exact ⟨by rw [HV.out]; rfl, hb1⟩

theorem text_any (n : Int) (w : World) (hn : -9223372036854775808 ≤ n ∧ n ≤ 9223372036854775807) (ht : Tab w) :
    Calls Tryd.prog 15 #[.int .i64 n] w fun e w' => e = .returned (str (textL n)) ∧ Below w.heap.size w w' := by
  have hu : n.natAbs ≤ 9223372036854775808 := by omega
  have hD := dec_figs n.natAbs
  have hlen := decDigits_len n.natAbs hu
  have hpos : 1 ≤ (decDigits n.natAbs).length := by
    have := dec_ne n.natAbs
    cases h : decDigits n.natAbs with
    | nil => exact absurd h this
    | cons _ _ => simp
  have hpad := pad_digits 6 n.natAbs
  rw [show (10 : Nat) ^ 6 = 1000000 by decide] at hpad
  have hpl : (pad 7 (decDigits n.natAbs)).length = max 7 (decDigits n.natAbs).length := by unfold pad; rw [List.length_append, List.length_replicate]; omega
  have hql : (decDigits (n.natAbs / 1000000)).length + 6 = max 7 (decDigits n.natAbs).length := by
    have := congrArg List.length hpad
    rw [hpl, List.length_append, frac_length] at this
    omega
  have hsl : (stripZ (frac 6 (n.natAbs % 1000000))).length ≤ 6 := by
    obtain ⟨k, hk, _⟩ := stripZ_fill (frac 6 (n.natAbs % 1000000))
    have := congrArg List.length hk
    rw [frac_length, List.length_append] at this
    omega
  have k3 : ∀ w, Calls Tryd.prog 54 #[.string (ba (frac 6 (n.natAbs % 1000000))), .string ⟨#[48]⟩] w fun e w' => e = .returned (.string (ba (stripZ (frac 6 (n.natAbs % 1000000))))) ∧ w' = w := by
    intro w
    refine (Tryd.strings_TrimRight_one (ba (frac 6 (n.natAbs % 1000000))) 48 (by decide) w (by rw [ba_len, frac_length]; omega)).mono fun e w' h => ⟨h.1.trans ?_, h.2⟩
    rw [← Lib.trimRightS_one]; rfl
  have hneg : Lib.hasPrefix (decDigits n.natAbs) [45] = false := by
    cases h : decDigits n.natAbs with
    | nil => rfl
    | cons c r =>
      have h1 := hD.1
      rw [h, List.all_cons, Bool.and_eq_true] at h1
      show ((45 : UInt8) == c && ([] : List UInt8).isPrefixOf r) = false
      have : ((45 : UInt8) == c) = false := by
        refine beq_eq_false_iff_ne.2 (fun e => ?_)
        rw [← e] at h1
        exact absurd h1.1 (by decide)
      rw [this]; rfl
  obtain ⟨b, hb⟩ : ∃ b, b = decide (n < 0) := ⟨_, rfl⟩
  have k2 : ∀ w, Calls Tryd.prog 52 #[.string ⟨(Lib.itoa n).toArray⟩, .string ⟨#[45]⟩] w fun e w' => e = .returned (.tuple #[.string (ba (decDigits n.natAbs)), .bool b]) ∧ w' = w := by
    intro w
    by_cases h : n < 0
    · have hi : Lib.itoa n = 45 :: decDigits n.natAbs := if_pos h
      have hb2 : b = true := by rw [hb]; simpa using h
      rw [hi, hb2]
      have := cutprefix_yes (ba (45 :: decDigits n.natAbs)) ⟨#[45]⟩ w (by rw [ba_len, List.length_cons]; show (1 : Int) ≤ _; omega) rfl
      rw [show (ba (45 :: decDigits n.natAbs)).extract (⟨#[45]⟩ : ByteArray).size (ba (45 :: decDigits n.natAbs)).size = ba (decDigits n.natAbs) from ba_ext (by rw [cut_back]; rfl)] at this
      exact this
    · have hi : Lib.itoa n = decDigits n.natAbs := by
        have h3 : n.toNat = n.natAbs := by omega
        rw [← h3]
        exact if_neg h
      have hb2 : b = false := by rw [hb]; simpa using h
      rw [hi, hb2]
      exact cutprefix_no (ba (decDigits n.natAbs)) ⟨#[45]⟩ w hneg
  refine text_walk ⟨(Lib.itoa n).toArray⟩ (ba (decDigits n.natAbs)) (ba (pad 7 (decDigits n.natAbs))) (ba (decDigits (n.natAbs / 1000000))) (ba (frac 6 (n.natAbs % 1000000))) (ba (stripZ (frac 6 (n.natAbs % 1000000)))) b n w
    (fun w _ ht => figures_any n w hn.1 hn.2 ht) ht k2 k3 (decDigits n.natAbs).length (max 7 (decDigits n.natAbs).length) (ba_len _) hpos (by omega) (by rw [ba_len, hpl]) (by omega) (by omega) ?_ ?_ ?_ ?_ (by rw [ba_len]; exact hsl) (by rw [ba_len]; omega) _ _ rfl ?_
  · intro h7
    refine ba_ext ?_
    rw [ByteArray.data_append, Array.toList_append, cut_front]
    show List.take (7 - (decDigits n.natAbs).length) (List.replicate 6 48) ++ decDigits n.natAbs = pad 7 (decDigits n.natAbs)
    unfold pad
    rw [List.take_replicate]
    congr 2
    omega
  · intro h7
    congr 1
    unfold pad
    rw [show 7 - (decDigits n.natAbs).length = 0 by omega]; rfl
  · refine ba_ext ?_
    rw [cut_front, ba_list, ba_list, hpad]
    exact List.take_left' (by omega)
  · refine ba_ext ?_
    rw [← hpl, ← ba_len, cut_back, ba_list, ba_list, ba_len, hpl]
    conv => lhs; rw [hpad]
    exact List.drop_left' (by omega)
  · show _ = _
    rw [ba_empty]
    unfold str
    show Value.string (ba (textL n)) = _
    congr 1
    unfold textL textU
    by_cases h : n < 0
    · have hb2 : b = true := by rw [hb]; simpa using h
      rw [hb2, if_pos h]
      by_cases hs : stripZ (frac 6 (n.natAbs % 1000000)) = []
      · rw [hs]
        show ba (45 :: (decDigits (n.natAbs / 1000000) ++ [])) = ba [45] ++ ba (decDigits (n.natAbs / 1000000))
        rw [ba_append, List.append_nil]; rfl
      · have he : (stripZ (frac 6 (n.natAbs % 1000000))).isEmpty = false := by
          cases hh : stripZ (frac 6 (n.natAbs % 1000000)) with
          | nil => exact absurd hh hs
          | cons _ _ => rfl
        rw [if_neg hs, he]
        show ba (45 :: (decDigits (n.natAbs / 1000000) ++ 46 :: stripZ (frac 6 (n.natAbs % 1000000)))) = ba [45] ++ (ba (decDigits (n.natAbs / 1000000)) ++ (ba [46] ++ ba (stripZ (frac 6 (n.natAbs % 1000000)))))
        rw [ba_append, ba_append, ba_append]; rfl
    · have hb2 : b = false := by rw [hb]; simpa using h
      rw [hb2, if_neg h]
      by_cases hs : stripZ (frac 6 (n.natAbs % 1000000)) = []
      · rw [hs]
        show ba (decDigits (n.natAbs / 1000000) ++ []) = ba (decDigits (n.natAbs / 1000000))
        rw [List.append_nil]
      · have he : (stripZ (frac 6 (n.natAbs % 1000000))).isEmpty = false := by
          cases hh : stripZ (frac 6 (n.natAbs % 1000000)) with
          | nil => exact absurd hh hs
          | cons _ _ => rfl
        rw [if_neg hs, he]
        show ba (decDigits (n.natAbs / 1000000) ++ 46 :: stripZ (frac 6 (n.natAbs % 1000000))) = ba (decDigits (n.natAbs / 1000000)) ++ (ba [46] ++ ba (stripZ (frac 6 (n.natAbs % 1000000))))
        rw [ba_append, ba_append]; rfl
end Go.Proofs.YtokfkckfclnoaaaDoor
