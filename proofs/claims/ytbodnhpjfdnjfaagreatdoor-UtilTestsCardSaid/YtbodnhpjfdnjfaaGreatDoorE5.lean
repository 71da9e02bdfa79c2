/- Packed texts: DecFindAny, HexFigRef, DecText, DecDivMath. What each of them proves stands above its theorems; the conditions stand in these. -/
import Derived.Lib.BitFns
import Derived.Lib.ItoaNum
import Derived.Test.YtbodnhpjfdnjfaaGreatDoorE1
import Derived.Test.YtbodnhpjfdnjfaaGreatDoorE3
import Derived.Test.YtbodnhpjfdnjfaaGreatDoorE4
namespace Go.Proofs.YtbodnhpjfdnjfaaGreatDoor
open Go.RowKit

def findV (l : List UInt8) : Value := .agg #[str (signL (atSign l)), str (wholeP l), str (pointP l).1, .int .i64 (usedP l)]
theorem ba_size (a : ByteArray) : a.size = a.data.toList.length := by rw [Array.length_toList]; rfl
/-- A text of bytes, as the machine holds it. -/
def ba (l : List UInt8) : ByteArray := ⟨l.toArray⟩
theorem ba_list (l : List UInt8) : (ba l).data.toList = l := rfl
theorem ba_len (l : List UInt8) : (ba l).size = l.length := by rw [ba_size, ba_list]
theorem ba_append (a b : List UInt8) : ba a ++ ba b = ba (a ++ b) := by
  refine ba_ext ?_
  rw [ByteArray.data_append, Array.toList_append]; rfl
theorem ba_empty (l : List UInt8) : (ba l).toList.isEmpty = l.isEmpty := by rw [ByteArray.toList_eq, ba_list]
theorem prefix46 (l : List UInt8) : Lib.hasPrefix l [46] = decide (l.head? = some 46) := by
  unfold Lib.hasPrefix
  cases l with
  | nil => rfl
  | cons c r =>
    show ((46 : UInt8) == c && ([] : List UInt8).isPrefixOf r) = _
    have : ([] : List UInt8).isPrefixOf r = true := by cases r <;> rfl
    rw [this, Bool.and_true]
    by_cases h : c = 46
    · subst h; rfl
    · have h1 : ((46 : UInt8) == c) = false := beq_eq_false_iff_ne.2 (fun e => h e.symm)
      rw [h1]
      simp [h]
theorem atSign_length (l : List UInt8) : (atSign l).length ≤ l.length := (List.dropWhile_sublist _).length_le
theorem unsign_length (l : List UInt8) : (unsign l).length ≤ l.length := by unfold unsign; rw [List.length_drop]; omega
theorem rest1_le (l : List UInt8) : (rest1 l).length ≤ l.length := by unfold rest1; rw [List.length_drop]; omega
theorem pointL_le (l : List UInt8) : (pointL l).2.length ≤ l.length := by
  unfold pointL
  split
  · have h1 := rest1_le l.tail
    rw [List.length_tail] at h1
    show (rest1 l.tail).length ≤ _
    omega
  · exact Nat.le_refl _

theorem find_any (s : ByteArray) (w : World) (hs : s.size ≤ 70000000000000) :
    Calls Tryz.prog 210 #[.string s] w fun e w' => e = .returned (findV s.data.toList) ∧ Below w.heap.size w w' := by
  obtain ⟨l, hl⟩ : ∃ l, s.data.toList = l := ⟨_, rfl⟩
  have hsz : s.size = l.length := by rw [ba_size, hl]
  have k1 := fun w => blanks_any s w
  rw [hl] at k1 ⊢
  have a1 := atSign_length l
  have a2 := unsign_length (atSign l)
  have a3 := rest1_le (unsign (atSign l))
  have a4 := pointL_le (rest1 (unsign (atSign l)))
  have k2 : ∀ w, Calls Tryz.prog 259 #[.string (ba (unsign (atSign l)))] w fun e w' => e = .returned (.tuple #[.string (ba (wholeP l)), .string (ba (rest1 (unsign (atSign l))))]) ∧ Below w.heap.size w w' :=
    fun w => figures_str _ _ _ w (by rw [ba_len]; omega) rfl rfl
  have kp : ∀ w, Calls Tryz.prog 260 #[.string (ba (rest1 (unsign (atSign l)))), .string ⟨#[46]⟩] w fun e w' => e = .returned (.bool (decide ((rest1 (unsign (atSign l))).head? = some 46))) ∧ w' = w := by
    intro w
    have := Tryz.strings_HasPrefix (ba (rest1 (unsign (atSign l)))) ⟨#[46]⟩ w
    rw [ba_list, show (⟨#[46]⟩ : ByteArray).data.toList = [46] from rfl, prefix46] at this
    exact this
  have k3 : decide ((rest1 (unsign (atSign l))).head? = some 46) = true → (1 : Int) ≤ ((ba (rest1 (unsign (atSign l)))).size : Int) ∧ (ba (rest1 (unsign (atSign l)))).extract 1 (ba (rest1 (unsign (atSign l)))).size = ba (rest1 (unsign (atSign l))).tail ∧
      ∀ w, Calls Tryz.prog 259 #[.string (ba (rest1 (unsign (atSign l))).tail)] w fun e w' => e = .returned (.tuple #[.string (ba (pointP l).1), .string (ba (pointP l).2)]) ∧ Below w.heap.size w w' := by
    intro h
    have h2 : (rest1 (unsign (atSign l))).head? = some 46 := by simpa using h
    have hP : pointP l = (figs (rest1 (unsign (atSign l))).tail, rest1 (rest1 (unsign (atSign l))).tail) := if_pos h2
    have h0 : 0 < (rest1 (unsign (atSign l))).length := by
      cases hr : rest1 (unsign (atSign l)) with
      | nil => rw [hr] at h2; cases h2
      | cons c r => simp
    refine ⟨by rw [ba_len]; omega, ba_ext ?_, fun w => ?_⟩
    · rw [cut_back, ba_list, ba_list, List.drop_one]
    · rw [hP]
      refine figures_str _ _ _ w ?_ rfl rfl
      rw [ba_len, List.length_tail]; omega
  have k4 : decide ((rest1 (unsign (atSign l))).head? = some 46) = false → ba (rest1 (unsign (atSign l))) = ba (pointP l).2 ∧ ba (pointP l).1 = ⟨#[]⟩ := by
    intro h
    have h2 : ¬ (rest1 (unsign (atSign l))).head? = some 46 := by simpa using h
    have hP : pointP l = ([], rest1 (unsign (atSign l))) := if_neg h2
    rw [hP]
    exact ⟨rfl, rfl⟩
  have hs5 : (ba (pointP l).2).size ≤ s.size := by
    rw [ba_len, hsz]
    have : (pointP l).2.length ≤ _ := a4
    omega
  have HE : ∀ sg : ByteArray, sg = ba (signL (atSign l)) → Hid (Ending.returned (.agg #[.string sg, .string (ba (wholeP l)), .string (ba (pointP l).1), .int .i64 ((s.size : Int) - ((ba (pointP l).2).size : Int))]) = .returned (findV l)) := by
    intro sg h
    show Ending.returned _ = _
    rw [h, hsz, ba_len]
    rfl
  cases hA : atSign l with
  | nil =>
    have hU : unsign (atSign l) = atSign l := by rw [hA]; rfl
    rw [hU] at k2 kp k3 k4
    refine find_empty s (ba (atSign l)) _ _ 0 w k1 k2 (by rw [ba_empty, hA]; rfl) _ _ _ _ hs5 hs kp k3 k4 _ (HE _ (by rw [hA]; rfl))
  | cons c rr =>
    have he : (ba (atSign l)).toList.isEmpty = false := by rw [ba_empty, hA]; rfl
    have hp : 0 < (ba (atSign l)).size := by rw [ba_len, hA]; simp
    have hx : ((ba (atSign l))[0].toNat : Int) = (c.toNat : Int) := by
      have : (ba (atSign l))[0] = c := by
        have h3 : ∀ (L : List UInt8) (h : 0 < (ba L).size), L = c :: rr → (ba L)[0] = c := by intro L h e; subst e; rfl
        exact h3 _ hp hA
      rw [this]
    by_cases h45 : c = 45
    · have hS : signL (atSign l) = [45] := by rw [hA, h45]; rfl
      refine find_minus s (ba (atSign l)) (ba (unsign (atSign l))) _ _ (ba (signL (atSign l))) (c.toNat : Int) w k1 k2 he hp (by omega) hx (by rw [h45]; rfl) ?_ ?_ _ _ _ _ hs5 hs kp k3 k4 _ (HE _ rfl)
      · refine ba_ext ?_
        rw [cut_front, ba_list, ba_list, hS, hA, h45]; rfl
      · refine ba_ext ?_
        rw [cut_back, ba_list, ba_list]
        unfold unsign
        rw [hS]; rfl
    · by_cases h43 : c = 43
      · have hS : signL (atSign l) = [43] := by rw [hA, h43]; rfl
        refine find_plus s (ba (atSign l)) (ba (unsign (atSign l))) _ _ (ba (signL (atSign l))) (c.toNat : Int) w k1 k2 he hp (by omega) hx (by rw [h43]; rfl) (by rw [h43]; rfl) ?_ ?_ _ _ _ _ hs5 hs kp k3 k4 _ (HE _ rfl)
        · refine ba_ext ?_
          rw [cut_front, ba_list, ba_list, hS, hA, h43]; rfl
        · refine ba_ext ?_
          rw [cut_back, ba_list, ba_list]
          unfold unsign
          rw [hS]; rfl
      · have hno : isSgn c = false := by
          unfold isSgn
          rw [show (c == 45) = false from beq_eq_false_iff_ne.2 h45, show (c == 43) = false from beq_eq_false_iff_ne.2 h43]; rfl
        have hS : signL (atSign l) = [] := by
          rw [hA]
          show (if isSgn c then [c] else []) = []
          rw [hno]; rfl
        have hU : unsign (atSign l) = atSign l := by unfold unsign; rw [hS]; rfl
        have hne : ∀ k : UInt8, c ≠ k → ((c.toNat : Int) == (k.toNat : Int)) = false := by
          intro k hk
          refine beq_eq_false_iff_ne.2 (fun e => hk (UInt8.toNat_inj.1 ?_))
          omega
        rw [hU] at k2 kp k3 k4
        refine find_none s (ba (atSign l)) _ _ (c.toNat : Int) w k1 k2 he hp hx (hne 45 h45) (hne 43 h43) _ _ _ _ hs5 hs kp k3 k4 _ (HE _ (by rw [hS]; rfl))
end Go.Proofs.YtbodnhpjfdnjfaaGreatDoor
namespace Go.Proofs.YtbodnhpjfdnjfaaGreatDoor
open Go.RowKit Go.Lib

theorem decDigits_len (u : Nat) (h : u ≤ 9223372036854775808) : (decDigits u).length ≤ 20 := by
  rw [decDigits_length]
  have key : ∀ (k u : Nat), u < 10 ^ k → nDigits u ≤ k + 1 := by
    intro k
    induction k with
    | zero => intro u h; rw [nDigits_small (by simp at h; omega)]; exact Nat.le_refl _
    | succ k ih =>
      intro u h
      by_cases h10 : u < 10
      · rw [nDigits_small h10]; omega
      · rw [nDigits_big h10]
        have := ih (u / 10) (by rw [Nat.pow_succ] at h; omega)
        omega
  have := key 19 u (by have : (10 : Nat) ^ 19 = 10000000000000000000 := by decide
                       omega)
  omega
theorem tdiv_neg (n : Int) (u : Nat) (h : n = -(u : Int)) : n.tdiv 10 = -((u / 10 : Nat) : Int) := by
  subst h; rw [Int.neg_tdiv, Int.tdiv_eq_ediv_of_nonneg (by omega)]; omega

end Go.Proofs.YtbodnhpjfdnjfaaGreatDoor
namespace Go.Proofs.YtbodnhpjfdnjfaaGreatDoor
open Go.RowKit Go.Lib

theorem cutprefix_in_no (s p : ByteArray) (w : World) (hb : Lib.hasPrefix s.data.toList p.data.toList = false) :
    Calls Tryz.prog 212 #[.string s, .string p] w fun e w' => e = .returned (.tuple #[.string s, .bool false]) ∧ w' = w := by
  have k1 := fun w => Tryz.stringslite_HasPrefix s p w
  rw [hb] at k1
  clear hb
  go_enter Tryz.func212, Tryz.ntmps212
  go_wp2_with (go_at_call 262; refine (k1 _).mono ?_; rintro e w' ⟨rfl, rfl⟩)
  go_ret2
  exact ⟨rfl, rfl⟩
theorem cutprefix_no (s p : ByteArray) (w : World) (hb : Lib.hasPrefix s.data.toList p.data.toList = false) :
    Calls Tryz.prog 172 #[.string s, .string p] w fun e w' => e = .returned (.tuple #[.string s, .bool false]) ∧ w' = w := by
  have k1 := fun w => cutprefix_in_no s p w hb
  clear hb
  go_enter Tryz.func172, Tryz.ntmps172
  go_wp2_with (go_at_call 212; refine (k1 _).mono ?_; rintro e w' ⟨rfl, rfl⟩)
  go_ret2
  exact ⟨rfl, rfl⟩
theorem cutprefix_in_yes (s p : ByteArray) (w : World) (hp : (p.size : Int) ≤ (s.size : Int)) (hb : Lib.hasPrefix s.data.toList p.data.toList = true) :
    Calls Tryz.prog 212 #[.string s, .string p] w fun e w' => e = .returned (.tuple #[.string (s.extract p.size s.size), .bool true]) ∧ w' = w := by
  have k1 := fun w => Tryz.stringslite_HasPrefix s p w
  rw [hb] at k1
  clear hb
  go_enter Tryz.func212, Tryz.ntmps212
  go_wp2_with (go_at_call 262; refine (k1 _).mono ?_; rintro e w' ⟨rfl, rfl⟩)
  go_ret2
  exact ⟨rfl, rfl⟩
theorem cutprefix_yes (s p : ByteArray) (w : World) (hp : (p.size : Int) ≤ (s.size : Int)) (hb : Lib.hasPrefix s.data.toList p.data.toList = true) :
    Calls Tryz.prog 172 #[.string s, .string p] w fun e w' => e = .returned (.tuple #[.string (s.extract p.size s.size), .bool true]) ∧ w' = w := by
  have k1 := fun w => cutprefix_in_yes s p w hp hb
  clear hb
  go_enter Tryz.func172, Tryz.ntmps172
  go_wp2_with (go_at_call 212; refine (k1 _).mono ?_; rintro e w' ⟨rfl, rfl⟩)
  go_ret2
  exact ⟨rfl, rfl⟩
theorem text_walk (S fg P out0 rs0 rest : ByteArray) (b : Bool) (n : Int) (w : World)
    (k1 : ∀ w, Below w.heap.size w w → Tab w → Calls Tryz.prog 124 #[.int .i64 n] w fun e w' => e = .returned (.string S) ∧ Below w.heap.size w w') (ht : Tab w)
    (k2 : ∀ w, Calls Tryz.prog 172 #[.string S, .string ⟨#[45]⟩] w fun e w' => e = .returned (.tuple #[.string fg, .bool b]) ∧ w' = w)
    (k3 : ∀ w, Calls Tryz.prog 173 #[.string rs0, .string ⟨#[48]⟩] w fun e w' => e = .returned (.string rest) ∧ w' = w)
    (L M : Nat) (hL : fg.size = L) (h1 : 1 ≤ L) (h2 : L ≤ 30) (hM : P.size = M) (hM1 : 7 ≤ M) (hM2 : M ≤ 30)
    (hP : L < 7 → (⟨#[48, 48, 48, 48, 48, 48]⟩ : ByteArray).extract 0 (7 - L) ++ fg = P) (hP2 : 7 ≤ L → fg = P)
    (ho : P.extract 0 (M - 6) = out0) (hr : P.extract (M - 6) M = rs0) (hz : rest.size ≤ 6) (hz2 : out0.size ≤ 30) (v : Value) (e : Bool) (hre : rest.toList.isEmpty = e)
    (HV : Hid (v = .string (if b then (if e then (⟨#[45]⟩ : ByteArray) ++ out0 else (⟨#[45]⟩ : ByteArray) ++ (out0 ++ ((⟨#[46]⟩ : ByteArray) ++ rest))) else (if e then out0 else out0 ++ ((⟨#[46]⟩ : ByteArray) ++ rest))))) :
    Calls Tryz.prog 123 #[.int .i64 n] w fun e w' => e = .returned v ∧ Below w.heap.size w w' := by
  have k1' := k1 w (Below.refl _ _) ht
  have m1 : ¬ 9223372036854775807 < 1 + rest.size := by omega
  have m2 : ¬ 9223372036854775807 < out0.size + (1 + rest.size) := by omega
  have m3 : ¬ 9223372036854775807 < 1 + (out0.size + (1 + rest.size)) := by omega
  have m4 : ¬ 9223372036854775807 < 1 + out0.size := by omega
  have m5 : (6 : Int) ≤ (M : Int) := by omega
  clear k1 ht
  cases e <;> cases b <;> by_cases h7 : L < 7
  all_goals
    first
      | (have hPP := hP h7; clear hP hP2)
      | (obtain rfl := hP2 (by omega); obtain rfl : M = L := by omega
         clear hP hP2)
    go_enter Tryz.func123, Tryz.ntmps123
    go_wp2_with (first | (go_at_call 124; refine k1'.mono ?_; rintro e w1 ⟨rfl, hb1⟩) | (go_at_call 172; refine (k2 _).mono ?_; rintro e w2 ⟨rfl, rfl⟩) | (go_at_call 173; refine (k3 _).mono ?_; rintro e w2 ⟨rfl, rfl⟩))
    go_ret
    exact ⟨by rw [HV.out]; rfl, hb1⟩

theorem text_any (n : Int) (w : World) (hn : -9223372036854775808 ≤ n ∧ n ≤ 9223372036854775807) (ht : Tab w) :
    Calls Tryz.prog 123 #[.int .i64 n] w fun e w' => e = .returned (str (textL n)) ∧ Below w.heap.size w w' := by
  have hu : n.natAbs ≤ 9223372036854775808 := by omega
  have hD := dec_figs n.natAbs
  have hlen := decDigits_len n.natAbs hu
  have hpos : 1 ≤ (decDigits n.natAbs).length := by
    have := dec_ne n.natAbs
    cases h : decDigits n.natAbs with
    | nil => exact absurd h this
    | cons _ _ => simp
  have hpad := pad_digits 6 n.natAbs
  rw [show (10 : Nat) ^ 6 = 1000000 by decide] at hpad
  have hpl : (pad 7 (decDigits n.natAbs)).length = max 7 (decDigits n.natAbs).length := by unfold pad; rw [List.length_append, List.length_replicate]; omega
  have hql : (decDigits (n.natAbs / 1000000)).length + 6 = max 7 (decDigits n.natAbs).length := by
    have := congrArg List.length hpad
    rw [hpl, List.length_append, frac_length] at this
    omega
  have hsl : (stripZ (frac 6 (n.natAbs % 1000000))).length ≤ 6 := by
    obtain ⟨k, hk, _⟩ := stripZ_fill (frac 6 (n.natAbs % 1000000))
    have := congrArg List.length hk
    rw [frac_length, List.length_append] at this
    omega
  have k3 : ∀ w, Calls Tryz.prog 173 #[.string (ba (frac 6 (n.natAbs % 1000000))), .string ⟨#[48]⟩] w fun e w' => e = .returned (.string (ba (stripZ (frac 6 (n.natAbs % 1000000))))) ∧ w' = w := by
    intro w
    refine (Tryz.strings_TrimRight_one (ba (frac 6 (n.natAbs % 1000000))) 48 (by decide) w (by rw [ba_len, frac_length]; omega)).mono fun e w' h => ⟨h.1.trans ?_, h.2⟩
    rw [← Lib.trimRightS_one]; rfl
  have hneg : Lib.hasPrefix (decDigits n.natAbs) [45] = false := by
    cases h : decDigits n.natAbs with
    | nil => rfl
    | cons c r =>
      have h1 := hD.1
      rw [h, List.all_cons, Bool.and_eq_true] at h1
      show ((45 : UInt8) == c && ([] : List UInt8).isPrefixOf r) = false
      have : ((45 : UInt8) == c) = false := by
        refine beq_eq_false_iff_ne.2 (fun e => ?_)
        rw [← e] at h1
        exact absurd h1.1 (by decide)
      rw [this]; rfl
  obtain ⟨b, hb⟩ : ∃ b, b = decide (n < 0) := ⟨_, rfl⟩
  have k2 : ∀ w, Calls Tryz.prog 172 #[.string ⟨(Lib.itoa n).toArray⟩, .string ⟨#[45]⟩] w fun e w' => e = .returned (.tuple #[.string (ba (decDigits n.natAbs)), .bool b]) ∧ w' = w := by
    intro w
    by_cases h : n < 0
    · have hi : Lib.itoa n = 45 :: decDigits n.natAbs := if_pos h
      have hb2 : b = true := by rw [hb]; simpa using h
      rw [hi, hb2]
      have := cutprefix_yes (ba (45 :: decDigits n.natAbs)) ⟨#[45]⟩ w (by rw [ba_len, List.length_cons]; show (1 : Int) ≤ _; omega) rfl
      rw [show (ba (45 :: decDigits n.natAbs)).extract (⟨#[45]⟩ : ByteArray).size (ba (45 :: decDigits n.natAbs)).size = ba (decDigits n.natAbs) from ba_ext (by rw [cut_back]; rfl)] at this
      exact this
    · have hi : Lib.itoa n = decDigits n.natAbs := by
        have h3 : n.toNat = n.natAbs := by omega
        rw [← h3]
        exact if_neg h
      have hb2 : b = false := by rw [hb]; simpa using h
      rw [hi, hb2]
      exact cutprefix_no (ba (decDigits n.natAbs)) ⟨#[45]⟩ w hneg
  refine text_walk ⟨(Lib.itoa n).toArray⟩ (ba (decDigits n.natAbs)) (ba (pad 7 (decDigits n.natAbs))) (ba (decDigits (n.natAbs / 1000000))) (ba (frac 6 (n.natAbs % 1000000))) (ba (stripZ (frac 6 (n.natAbs % 1000000)))) b n w
    (fun w _ ht => figures_any n w hn.1 hn.2 ht) ht k2 k3 (decDigits n.natAbs).length (max 7 (decDigits n.natAbs).length) (ba_len _) hpos (by omega) (by rw [ba_len, hpl]) (by omega) (by omega) ?_ ?_ ?_ ?_ (by rw [ba_len]; exact hsl) (by rw [ba_len]; omega) _ _ rfl ?_
  · intro h7
    refine ba_ext ?_
    rw [ByteArray.data_append, Array.toList_append, cut_front]
    show List.take (7 - (decDigits n.natAbs).length) (List.replicate 6 48) ++ decDigits n.natAbs = pad 7 (decDigits n.natAbs)
    unfold pad
    rw [List.take_replicate]
    congr 2
    omega
  · intro h7
    congr 1
    unfold pad
    rw [show 7 - (decDigits n.natAbs).length = 0 by omega]; rfl
  · refine ba_ext ?_
    rw [cut_front, ba_list, ba_list, hpad]
    exact List.take_left' (by omega)
  · refine ba_ext ?_
    rw [← hpl, ← ba_len, cut_back, ba_list, ba_list, ba_len, hpl]
    conv => lhs; rw [hpad]
    exact List.drop_left' (by omega)
  · show _ = _
    rw [ba_empty]
    unfold str
    show Value.string (ba (textL n)) = _
    congr 1
    unfold textL textU
    by_cases h : n < 0
    · have hb2 : b = true := by rw [hb]; simpa using h
      rw [hb2, if_pos h]
      by_cases hs : stripZ (frac 6 (n.natAbs % 1000000)) = []
      · rw [hs]
        show ba (45 :: (decDigits (n.natAbs / 1000000) ++ [])) = ba [45] ++ ba (decDigits (n.natAbs / 1000000))
        rw [ba_append, List.append_nil]; rfl
      · have he : (stripZ (frac 6 (n.natAbs % 1000000))).isEmpty = false := by
          cases hh : stripZ (frac 6 (n.natAbs % 1000000)) with
          | nil => exact absurd hh hs
          | cons _ _ => rfl
        rw [if_neg hs, he]
        show ba (45 :: (decDigits (n.natAbs / 1000000) ++ 46 :: stripZ (frac 6 (n.natAbs % 1000000)))) = ba [45] ++ (ba (decDigits (n.natAbs / 1000000)) ++ (ba [46] ++ ba (stripZ (frac 6 (n.natAbs % 1000000)))))
        rw [ba_append, ba_append, ba_append]; rfl
    · have hb2 : b = false := by rw [hb]; simpa using h
      rw [hb2, if_neg h]
      by_cases hs : stripZ (frac 6 (n.natAbs % 1000000)) = []
      · rw [hs]
        show ba (decDigits (n.natAbs / 1000000) ++ []) = ba (decDigits (n.natAbs / 1000000))
        rw [List.append_nil]
      · have he : (stripZ (frac 6 (n.natAbs % 1000000))).isEmpty = false := by
          cases hh : stripZ (frac 6 (n.natAbs % 1000000)) with
          | nil => exact absurd hh hs
          | cons _ _ => rfl
        rw [if_neg hs, he]
        show ba (decDigits (n.natAbs / 1000000) ++ 46 :: stripZ (frac 6 (n.natAbs % 1000000))) = ba (decDigits (n.natAbs / 1000000)) ++ (ba [46] ++ ba (stripZ (frac 6 (n.natAbs % 1000000))))
        rw [ba_append, ba_append]; rfl
end Go.Proofs.YtbodnhpjfdnjfaaGreatDoor
namespace Go.Proofs.YtbodnhpjfdnjfaaGreatDoor
open Go.Lib

/-- What a guess keeps: with its rest it makes the upper part, and it is no smaller than the quotient's figure. -/
def Guess (u n y1 y0 q r : Nat) : Prop := q * y1 + r = u ∧ u * 4294967296 + n < (q + 1) * (y1 * 4294967296 + y0)

theorem guess_first (u n y1 y0 : Nat) (hn : n < 4294967296) (h1 : 2147483648 ≤ y1) : Guess u n y1 y0 (u / y1) (u % y1) := by
  refine ⟨Nat.div_add_mod' u y1, ?_⟩
  have h2 : u < (u / y1 + 1) * y1 := by
    have := Nat.div_add_mod' u y1
    have h3 := Nat.mod_lt u (show 0 < y1 by omega)
    rw [Nat.add_mul, Nat.one_mul]; omega
  have h4 : (u + 1) * 4294967296 ≤ (u / y1 + 1) * y1 * 4294967296 := Nat.mul_le_mul_right _ h2
  have h5 : (u / y1 + 1) * (y1 * 4294967296 + y0) = (u / y1 + 1) * y1 * 4294967296 + (u / y1 + 1) * y0 := by rw [Nat.mul_add, Nat.mul_assoc]
  rw [h5]
  omega

theorem guess_le (u n y1 y0 q r : Nat) (h : Guess u n y1 y0 q r) (h1 : 2147483648 ≤ y1) (h0 : y0 < 4294967296) (hu : u < y1 * 4294967296 + y0) : q ≤ 4294967297 := by
  rcases Nat.lt_or_ge 4294967297 q with hq | hq
  · have : 4294967298 * y1 ≤ q * y1 := Nat.mul_le_mul_right _ hq
    have := h.1
    omega
  · exact hq

/-- A guess that the check refuses is too great: one less is a guess. -/
theorem guess_next (u n y1 y0 q r : Nat) (h : Guess u n y1 y0 q r) (hn : n < 4294967296) (hu : u < y1 * 4294967296 + y0)
    (hc : 4294967296 ≤ q ∨ 4294967296 * r + n < q * y0) : 0 < q ∧ Guess u n y1 y0 (q - 1) (r + y1) := by
  obtain ⟨e, _⟩ := h
  have hq : 0 < q := by
    rcases Nat.eq_zero_or_pos q with h | h
    · subst h; omega
    · exact h
  obtain ⟨k, rfl⟩ : ∃ k, q = k + 1 := ⟨q - 1, by omega⟩
  refine ⟨hq, by rw [Nat.add_sub_cancel]; rw [Nat.add_mul, Nat.one_mul] at e; omega, ?_⟩
  rw [Nat.add_sub_cancel]
  rcases hc with hc | hc
  · have h1 : 4294967296 * (y1 * 4294967296 + y0) ≤ (k + 1) * (y1 * 4294967296 + y0) := Nat.mul_le_mul_right _ hc
    omega
  · have h5 : (k + 1) * (y1 * 4294967296 + y0) = (k + 1) * y1 * 4294967296 + (k + 1) * y0 := by rw [Nat.mul_add, Nat.mul_assoc]
    omega

/-- A guess that the check lets be is the figure. -/
theorem guess_end (u n y1 y0 q r : Nat) (h : Guess u n y1 y0 q r) (hc : q * y0 ≤ 4294967296 * r + n) :
    (u * 4294967296 + n) / (y1 * 4294967296 + y0) = q := by
  obtain ⟨e, h2⟩ := h
  have h5 : q * (y1 * 4294967296 + y0) = q * y1 * 4294967296 + q * y0 := by rw [Nat.mul_add, Nat.mul_assoc]
  have h6 : q * (y1 * 4294967296 + y0) ≤ u * 4294967296 + n := by omega
  exact Nat.div_eq_of_lt_le h6 h2

theorem guess_end_far (u n y1 y0 q r : Nat) (h : Guess u n y1 y0 q r) (hr : 4294967296 ≤ r) (hq : q ≤ 4294967296) (h0 : y0 < 4294967296) :
    (u * 4294967296 + n) / (y1 * 4294967296 + y0) = q := by
  have h3 : q * y0 ≤ 4294967296 * y0 := Nat.mul_le_mul_right _ hq
  have h4 : q * y0 ≤ 4294967296 * r + n := by omega
  exact guess_end u n y1 y0 q r h h4

/-- A quotient's two figures. -/
theorem two_figures (v n0 y : Nat) :
    (v * 4294967296 + n0) / y = v / y * 4294967296 + (v % y * 4294967296 + n0) / y := by
  rcases Nat.eq_zero_or_pos y with h | h
  · subst h; simp
  · have := Nat.div_add_mod v y
    have e : v * 4294967296 + n0 = (v % y * 4294967296 + n0) + y * (v / y * 4294967296) := by
      rw [← Nat.mul_assoc]
      omega
    rw [e, Nat.add_mul_div_left _ _ h, Nat.add_comm]

theorem figure_lt (u n y : Nat) (hu : u < y) (hn : n < 4294967296) : (u * 4294967296 + n) / y < 4294967296 := by
  rw [Nat.div_lt_iff_lt_mul (by omega)]
  have : (u + 1) * 4294967296 ≤ y * 4294967296 := Nat.mul_le_mul_right _ hu
  omega

/-- A bit more: a number moved up so that its highest bit is the 64th. -/
theorem high_bit : ∀ (f y : Nat), 0 < y → y < 2 ^ f → bitLenAux f y ≤ f ∧ 2 ^ f ≤ 2 * (y * 2 ^ (f - bitLenAux f y)) ∧ y * 2 ^ (f - bitLenAux f y) < 2 ^ f := by
  intro f
  induction f with
  | zero => intro y h0 h; simp at h; omega
  | succ f ih =>
    intro y h0 h
    have e : bitLenAux (f + 1) y = 1 + bitLenAux f (y / 2) := by
      rw [bitLenAux]; simp; omega
    rcases Nat.eq_zero_or_pos (y / 2) with hz | hz
    · have : y = 1 := by omega
      subst this
      rw [e]
      have : bitLenAux f (1 / 2) = 0 := by
        show bitLenAux f 0 = 0
        cases f <;> simp [bitLenAux]
      rw [this]
      refine ⟨by omega, ?_, ?_⟩
      · rw [Nat.one_mul, show f + 1 - (1 + 0) = f by omega, Nat.pow_succ]; omega
      · rw [Nat.one_mul, show f + 1 - (1 + 0) = f by omega, Nat.pow_succ]
        have : 0 < 2 ^ f := Nat.two_pow_pos f
        omega
    · obtain ⟨h1, h2, h3⟩ := ih (y / 2) hz (by rw [Nat.pow_succ] at h; omega)
      rw [e, show f + 1 - (1 + bitLenAux f (y / 2)) = f - bitLenAux f (y / 2) by omega, Nat.pow_succ]
      refine ⟨by omega, ?_, ?_⟩
      · have : y / 2 * 2 * 2 ^ (f - bitLenAux f (y / 2)) ≤ y * 2 ^ (f - bitLenAux f (y / 2)) := Nat.mul_le_mul_right _ (by omega)
        rw [Nat.mul_right_comm] at this
        omega
      · have h4 : (y / 2 + 1) * 2 ^ (f - bitLenAux f (y / 2)) ≤ 2 ^ f := by
          have hp : 2 ^ f = 2 ^ bitLenAux f (y / 2) * 2 ^ (f - bitLenAux f (y / 2)) := by rw [← Nat.pow_add]; congr 1; omega
          rw [hp] at h3 ⊢
          exact Nat.mul_le_mul_right _ (Nat.lt_of_mul_lt_mul_right h3)
        have h5 : y * 2 ^ (f - bitLenAux f (y / 2)) ≤ (2 * (y / 2) + 1) * 2 ^ (f - bitLenAux f (y / 2)) := Nat.mul_le_mul_right _ (by omega)
        have hp := Nat.two_pow_pos (f - bitLenAux f (y / 2))
        rw [Nat.add_mul, Nat.one_mul] at h4 h5
        rw [Nat.mul_assoc] at h5
        omega

theorem or_add (a b s : Nat) (hb : b < 2 ^ s) : (a * 2 ^ s) ||| b = a * 2 ^ s + b := by
  rw [Nat.mul_comm, ← Nat.two_pow_add_eq_or_of_lt hb]

/-- A number of 128 bits moved up. -/
theorem moved (hi lo y s : Nat) (hs : s ≤ 63) (hh : hi < y) (hlo : lo < 18446744073709551616) (hy : y * 2 ^ s < 18446744073709551616) :
    hi * 2 ^ s < 18446744073709551616 ∧ lo / 2 ^ (64 - s) < 2 ^ s ∧ hi * 2 ^ s + lo / 2 ^ (64 - s) < y * 2 ^ s ∧
    (hi * 2 ^ s + lo / 2 ^ (64 - s)) * 18446744073709551616 + lo * 2 ^ s % 18446744073709551616 = (hi * 18446744073709551616 + lo) * 2 ^ s := by
  have hp : 0 < 2 ^ s := Nat.two_pow_pos s
  have hpp : 2 ^ (64 - s) * 2 ^ s = 18446744073709551616 := by rw [← Nat.pow_add, show 64 - s + s = 64 by omega]
  have h1 : (hi + 1) * 2 ^ s ≤ y * 2 ^ s := Nat.mul_le_mul_right _ hh
  rw [Nat.add_mul, Nat.one_mul] at h1
  have h2 : lo / 2 ^ (64 - s) < 2 ^ s := by
    rw [Nat.div_lt_iff_lt_mul (Nat.two_pow_pos _), Nat.mul_comm, hpp]; exact hlo
  have h3 : lo * 2 ^ s / 18446744073709551616 = lo / 2 ^ (64 - s) := by rw [← hpp, Nat.mul_div_mul_right _ _ hp]
  have h4 := Nat.div_add_mod' (lo * 2 ^ s) 18446744073709551616
  rw [h3] at h4
  refine ⟨by omega, h2, by omega, ?_⟩
  rw [Nat.add_mul, Nat.add_assoc, h4, Nat.add_mul, Nat.mul_right_comm]

theorem join_figures (u m : Nat) : (u * 4294967296 + m / 4294967296) * 4294967296 + m % 4294967296 = u * 18446744073709551616 + m := by
  have h2 : (4294967296 : Nat) * 4294967296 = 18446744073709551616 := by decide
  rw [Nat.add_mul, Nat.mul_assoc, Nat.add_assoc, Nat.div_add_mod' m 4294967296, h2]
/-- The whole division: the parts that the library's text makes. -/
theorem div_parts (hi lo y s u m : Nat) (hp : 0 < 2 ^ s) (e : u * 18446744073709551616 + m = (hi * 18446744073709551616 + lo) * 2 ^ s) :
    (u * 4294967296 + m / 4294967296) / (y * 2 ^ s) * 4294967296 + ((u * 4294967296 + m / 4294967296) % (y * 2 ^ s) * 4294967296 + m % 4294967296) / (y * 2 ^ s) = (hi * 18446744073709551616 + lo) / y := by
  rw [← two_figures]
  have h1 := (join_figures u m).trans e
  rw [h1, Nat.mul_div_mul_right _ _ hp]

end Go.Proofs.YtbodnhpjfdnjfaaGreatDoor
