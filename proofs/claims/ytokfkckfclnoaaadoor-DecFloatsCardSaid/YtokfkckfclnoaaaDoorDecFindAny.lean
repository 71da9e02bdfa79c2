/- dec.find at every text: the parts that the plain functions on bytes say. Condition: the text is shorter than 2^46. -/
import Derived.Test.YtokfkckfclnoaaaDoorDecFind
namespace Go.Proofs.YtokfkckfclnoaaaDoor
open Go.RowKit

def findV (l : List UInt8) : Value := .agg #[str (signL (atSign l)), str (wholeP l), str (pointP l).1, .int .i64 (usedP l)]
theorem ba_ext {a b : ByteArray} (h : a.data.toList = b.data.toList) : a = b := by
  have h4 := Array.toList_inj.1 h
  cases a; cases b
  exact congrArg ByteArray.mk h4
theorem ba_size (a : ByteArray) : a.size = a.data.toList.length := by rw [Array.length_toList]; rfl
/-- A text of bytes, as the machine holds it. -/
def ba (l : List UInt8) : ByteArray := ⟨l.toArray⟩
theorem ba_list (l : List UInt8) : (ba l).data.toList = l := rfl
theorem ba_len (l : List UInt8) : (ba l).size = l.length := by rw [ba_size, ba_list]
theorem ba_append (a b : List UInt8) : ba a ++ ba b = ba (a ++ b) := by
  refine ba_ext ?_
  rw [ByteArray.data_append, Array.toList_append]; rfl
theorem ba_empty (l : List UInt8) : (ba l).toList.isEmpty = l.isEmpty := by rw [ByteArray.toList_eq, ba_list]
theorem ba_get (c : UInt8) (r : List UInt8) (h : 0 < (ba (c :: r)).size) : (ba (c :: r))[0] = c := rfl
theorem prefix46 (l : List UInt8) : Lib.hasPrefix l [46] = decide (l.head? = some 46) := by
  unfold Lib.hasPrefix
  cases l with
  | nil => rfl
  | cons c r =>
    show ((46 : UInt8) == c && ([] : List UInt8).isPrefixOf r) = _
    have : ([] : List UInt8).isPrefixOf r = true := by cases r <;> rfl
    rw [this, Bool.and_true]
    by_cases h : c = 46
    · subst h; rfl
    · have h1 : ((46 : UInt8) == c) = false := beq_eq_false_iff_ne.2 (fun e => h e.symm)
      rw [h1]
      simp [h]
theorem atSign_length (l : List UInt8) : (atSign l).length ≤ l.length := (List.dropWhile_sublist _).length_le
theorem unsign_length (l : List UInt8) : (unsign l).length ≤ l.length := by unfold unsign; rw [List.length_drop]; omega
theorem rest1_le (l : List UInt8) : (rest1 l).length ≤ l.length := by unfold rest1; rw [List.length_drop]; omega
theorem pointL_le (l : List UInt8) : (pointL l).2.length ≤ l.length := by
  unfold pointL
  split
  · have h1 := rest1_le l.tail
    rw [List.length_tail] at h1
    show (rest1 l.tail).length ≤ _
    omega
  · exact Nat.le_refl _

theorem find_any (s : ByteArray) (w : World) (hs : s.size ≤ 70000000000000) :
    Calls Tryd.prog 46 #[.string s] w fun e w' => e = .returned (findV s.data.toList) ∧ Below w.heap.size w w' := by
  obtain ⟨l, hl⟩ : ∃ l, s.data.toList = l := ⟨_, rfl⟩
  have hsz : s.size = l.length := by rw [ba_size, hl]
  have k1 := fun w => blanks_any s w
  rw [hl] at k1 ⊢
  have a1 := atSign_length l
  have a2 := unsign_length (atSign l)
  have a3 := rest1_le (unsign (atSign l))
  have a4 := pointL_le (rest1 (unsign (atSign l)))
  have k2 : ∀ w, Calls Tryd.prog 80 #[.string (ba (unsign (atSign l)))] w fun e w' => e = .returned (.tuple #[.string (ba (wholeP l)), .string (ba (rest1 (unsign (atSign l))))]) ∧ Below w.heap.size w w' :=
    fun w => figures_str _ _ _ w (by rw [ba_len]; omega) rfl rfl
  have kp : ∀ w, Calls Tryd.prog 81 #[.string (ba (rest1 (unsign (atSign l)))), .string ⟨#[46]⟩] w fun e w' => e = .returned (.bool (decide ((rest1 (unsign (atSign l))).head? = some 46))) ∧ w' = w := by
    intro w
    have := Tryd.strings_HasPrefix (ba (rest1 (unsign (atSign l)))) ⟨#[46]⟩ w
    rw [ba_list, show (⟨#[46]⟩ : ByteArray).data.toList = [46] from rfl, prefix46] at this
    exact this
  have k3 : decide ((rest1 (unsign (atSign l))).head? = some 46) = true → (1 : Int) ≤ ((ba (rest1 (unsign (atSign l)))).size : Int) ∧ (ba (rest1 (unsign (atSign l)))).extract 1 (ba (rest1 (unsign (atSign l)))).size = ba (rest1 (unsign (atSign l))).tail ∧
      ∀ w, Calls Tryd.prog 80 #[.string (ba (rest1 (unsign (atSign l))).tail)] w fun e w' => e = .returned (.tuple #[.string (ba (pointP l).1), .string (ba (pointP l).2)]) ∧ Below w.heap.size w w' := by
    intro h
    have h2 : (rest1 (unsign (atSign l))).head? = some 46 := by simpa using h
    have hP : pointP l = (figs (rest1 (unsign (atSign l))).tail, rest1 (rest1 (unsign (atSign l))).tail) := if_pos h2
    have h0 : 0 < (rest1 (unsign (atSign l))).length := by
      cases hr : rest1 (unsign (atSign l)) with
      | nil => rw [hr] at h2; cases h2
      | cons c r => simp
    refine ⟨by rw [ba_len]; omega, ba_ext ?_, fun w => ?_⟩
    · rw [cut_back, ba_list, ba_list, List.drop_one]
    · rw [hP]
      refine figures_str _ _ _ w ?_ rfl rfl
      rw [ba_len, List.length_tail]; omega
  have k4 : decide ((rest1 (unsign (atSign l))).head? = some 46) = false → ba (rest1 (unsign (atSign l))) = ba (pointP l).2 ∧ ba (pointP l).1 = ⟨#[]⟩ := by
    intro h
    have h2 : ¬ (rest1 (unsign (atSign l))).head? = some 46 := by simpa using h
    have hP : pointP l = ([], rest1 (unsign (atSign l))) := if_neg h2
    rw [hP]
    exact ⟨rfl, rfl⟩
  have hs5 : (ba (pointP l).2).size ≤ s.size := by
    rw [ba_len, hsz]
    have : (pointP l).2.length ≤ _ := a4
    omega
  have HE : ∀ sg : ByteArray, sg = ba (signL (atSign l)) → Hid (Ending.returned (.agg #[.string sg, .string (ba (wholeP l)), .string (ba (pointP l).1), .int .i64 ((s.size : Int) - ((ba (pointP l).2).size : Int))]) = .returned (findV l)) := by
    intro sg h
    show Ending.returned _ = _
    rw [h, hsz, ba_len]
    rfl
  cases hA : atSign l with
  | nil =>
    have hU : unsign (atSign l) = atSign l := by rw [hA]; rfl
    rw [hU] at k2 kp k3 k4
    refine find_empty s (ba (atSign l)) _ _ 0 w k1 k2 (by rw [ba_empty, hA]; rfl) _ _ _ _ hs5 hs kp k3 k4 _ (HE _ (by rw [hA]; rfl))
  | cons c rr =>
    have he : (ba (atSign l)).toList.isEmpty = false := by rw [ba_empty, hA]; rfl
    have hp : 0 < (ba (atSign l)).size := by rw [ba_len, hA]; simp
    have hx : ((ba (atSign l))[0].toNat : Int) = (c.toNat : Int) := by
      have : (ba (atSign l))[0] = c := by
        have h3 : ∀ (L : List UInt8) (h : 0 < (ba L).size), L = c :: rr → (ba L)[0] = c := by intro L h e; subst e; rfl
        exact h3 _ hp hA
      rw [this]
    by_cases h45 : c = 45
    · have hS : signL (atSign l) = [45] := by rw [hA, h45]; rfl
      refine find_minus s (ba (atSign l)) (ba (unsign (atSign l))) _ _ (ba (signL (atSign l))) (c.toNat : Int) w k1 k2 he hp (by omega) hx (by rw [h45]; rfl) ?_ ?_ _ _ _ _ hs5 hs kp k3 k4 _ (HE _ rfl)
      · refine ba_ext ?_
        rw [cut_front, ba_list, ba_list, hS, hA, h45]; rfl
      · refine ba_ext ?_
        rw [cut_back, ba_list, ba_list]
        unfold unsign
        rw [hS]; rfl
    · by_cases h43 : c = 43
      · have hS : signL (atSign l) = [43] := by rw [hA, h43]; rfl
        refine find_plus s (ba (atSign l)) (ba (unsign (atSign l))) _ _ (ba (signL (atSign l))) (c.toNat : Int) w k1 k2 he hp (by omega) hx (by rw [h43]; rfl) (by rw [h43]; rfl) ?_ ?_ _ _ _ _ hs5 hs kp k3 k4 _ (HE _ rfl)
        · refine ba_ext ?_
          rw [cut_front, ba_list, ba_list, hS, hA, h43]; rfl
        · refine ba_ext ?_
          rw [cut_back, ba_list, ba_list]
          unfold unsign
          rw [hS]; rfl
      · have hno : isSgn c = false := by
          unfold isSgn
          rw [show (c == 45) = false from beq_eq_false_iff_ne.2 h45, show (c == 43) = false from beq_eq_false_iff_ne.2 h43]; rfl
        have hS : signL (atSign l) = [] := by
          rw [hA]
          show (if isSgn c then [c] else []) = []
          rw [hno]; rfl
        have hU : unsign (atSign l) = atSign l := by unfold unsign; rw [hS]; rfl
        have hne : ∀ k : UInt8, c ≠ k → ((c.toNat : Int) == (k.toNat : Int)) = false := by
          intro k hk
          refine beq_eq_false_iff_ne.2 (fun e => hk (UInt8.toNat_inj.1 ?_))
          omega
        rw [hU] at k2 kp k3 k4
        refine find_none s (ba (atSign l)) _ _ (c.toNat : Int) w k1 k2 he hp hx (hne 45 h45) (hne 43 h43) _ _ _ _ hs5 hs kp k3 k4 _ (HE _ (by rw [hS]; rfl))
end Go.Proofs.YtokfkckfclnoaaaDoor
