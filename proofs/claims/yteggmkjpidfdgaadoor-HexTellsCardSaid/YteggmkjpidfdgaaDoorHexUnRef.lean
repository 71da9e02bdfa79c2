/- The document's own text of digits: the same answer as 'unhexE' says. Condition: the text is shorter than 2^45. -/
import Derived.Test.YteggmkjpidfdgaaDoorHexUn
import Derived.Test.YteggmkjpidfdgaaDoorHexHexRef
import Derived.Deep.RegionHeld3
namespace Go.Proofs.YteggmkjpidfdgaaDoor
open Go.RowKit Go.Lib

def decB (x y : Int) : UInt8 := UInt8.ofNat ((16 * x + y) % 256).toNat
def decU : List UInt8 → List UInt8
  | a :: b :: r => decB (digN a) (digN b) :: decU r
  | _ => []
theorem decU_append : ∀ (a b : List UInt8), a.length % 2 = 0 → decU (a ++ b) = decU a ++ decU b
  | [], _, _ => rfl
  | [_], _, h => by simp at h
  | x :: y :: r, b, h => by
    have hr : r.length % 2 = 0 := by simp at h; omega
    simp only [List.cons_append, decU, decU_append r b hr]
theorem decU_short (b : List UInt8) (h : b.length ≤ 1) : decU b = [] := by
  match b, h with
  | [], _ => rfl
  | [_], _ => rfl
theorem decU_take (r : List UInt8) (k : Nat) (h : r.length ≤ 2 * k + 1) (h2 : 2 * k ≤ r.length) : decU (r.take (2 * k)) = decU r := by
  conv => rhs; rw [← List.take_append_drop (2 * k) r]
  rw [decU_append _ _ (by rw [List.length_take]; omega), decU_short (r.drop (2 * k)) (by rw [List.length_drop]; omega), List.append_nil]
theorem decU_length : ∀ l : List UInt8, 2 * (decU l).length ≤ l.length
  | [] => by simp [decU]
  | [_] => by simp [decU]
  | _ :: _ :: r => by have := decU_length r; simp [decU]; omega
theorem decB_pairB (x y : Int) (hx : 0 ≤ x) (hx' : x ≤ 15) (hy : 0 ≤ y) (hy' : y ≤ 15) : decB x y = pairB x y := by
  unfold decB pairB
  rw [Int.emod_eq_of_lt (by omega) (by omega)]
theorem toldN_digN (c : UInt8) (h : 0 ≤ toldN c) : digN c = toldN c := by
  unfold toldN at h ⊢
  split
  · rename_i hc; rw [if_pos hc] at h; omega
  · rfl
theorem decU_pairs : ∀ (l r : List UInt8), pairs l = some r → decU l = r
  | [], r, h => by simp [pairs] at h; subst h; rfl
  | [_], r, h => by simp [pairs] at h
  | a :: b :: l, r, h => by
    simp only [pairs] at h
    split at h
    · cases h
    · obtain ⟨r', hr', rfl⟩ := Option.map_eq_some_iff.1 h
      have ha := toldN_bounds a
      have hb := toldN_bounds b
      simp only [decU, decU_pairs l r' hr']
      rw [toldN_digN a (by omega), toldN_digN b (by omega), decB_pairB _ _ (by omega) (by omega) (by omega) (by omega)]
/-- What the document's Unhex answers is what ours does. -/
theorem unhexE_dec (l : List UInt8) (h : hexT (decU l.tail) = l) : unhexE l = .returned (.tuple #[.string ⟨(decU l.tail).toArray⟩, .int .i64 0]) := by
  unfold unhexE
  have := unhexO_hexT (decU l.tail)
  rw [h] at this
  rw [this]
theorem unhexE_dec_no (l : List UInt8) (h : ¬ hexT (decU l.tail) = l) : unhexE l = .returned (.tuple #[.string ⟨#[]⟩, .int .i64 2]) := by
  unfold unhexE
  cases hu : unhexO l with
  | none => rfl
  | some r =>
    exfalso
    apply h
    have h1 := hexT_unhexO l r hu
    cases l with
    | nil => cases hu
    | cons c t =>
      simp only [unhexO] at hu
      split at hu
      · rw [List.tail_cons, decU_pairs t r hu]; exact h1
      · cases hu

theorem ownsRow_below {w w' : World} {base n size : Nat} {e : TypeId} {v : Value} {xs : List Value} (h : w.ownsRow base e size v n xs) (hb : Below w.heap.size w w') : w'.ownsRow base e size v n xs := by
  obtain ⟨h1, h2⟩ := h
  refine ⟨h1, ?_⟩
  rcases h2 with h2 | ⟨g, cap, cur, hv, hg, hh, r⟩
  · exact .inl h2
  · refine .inr ⟨g, cap, cur, hv, hg, ?_, r⟩
    rw [hb.block g (by
      by_cases hl : g < w.heap.size
      · exact hl
      · rw [Array.getElem?_eq_none (Nat.le_of_not_lt hl)] at hh; cases hh)]
    exact hh

set_option maxHeartbeats 1000000 in
theorem refUnhex_any (s : ByteArray) (w : World) (hs : s.size ≤ 35000000000000) :
    Calls Tryd.prog 12 #[.string s] w fun e w' => e = unhexE s.data.toList ∧ Below w.heap.size w w' := by
  obtain ⟨i0, hi, hz0, hz1, hz2⟩ := info_parts Tryd.info5
  obtain ⟨r, hr⟩ : ∃ r, r = s.data.toList.tail := ⟨_, rfl⟩
  have hrl : r.length = s.size - 1 := by rw [hr, List.length_tail, Array.length_toList]; rfl
  have HR := Lib.hid hr
  have HRL := Lib.hid hrl
  clear hr hrl
  go_enter Tryd.func12, Tryd.ntmps12
  go_wp2
  go_loopw [4, 5] (fun v i wr => ∃ (k j : Nat) (out : List UInt8), i = .int .i64 j ∧ j ≤ s.size + 1 ∧ Hid (j = 2 * k + 1) ∧ k ≤ s.size ∧ wr.ownsRow w.heap.size 5 1 v k (byteCells out) ∧ Hid (out = decU (r.take (2 * k))) ∧ Hid (2 * k ≤ r.length) ∧ Below w.heap.size w wr)
    (fun _ i _ => s.size + 1 - (intOf i).toNat)
  case atStart => exact ⟨0, 1, [], rfl, by omega, rfl, Nat.zero_le _, World.ownsRow_nil _ _ _ _, rfl, Nat.zero_le _, Below.refl _ _⟩
  case round =>
    obtain ⟨k, j, out, rfl, hjs, HJ, hks, hown, HOUT, HK, hbel⟩ := hrel
    by_cases hlt : j + 1 < s.size
    · obtain ⟨j2, hj2⟩ : ∃ j2, j2 = j + 1 := ⟨_, rfl⟩
      have hI : IntKind.i64.wrap ((j : Int) + 1) = (j2 : Int) := by rw [IntWalk.i64_in _ (by omega)]; omega
      have hj2s : j2 < s.size := by omega
      have hj1s : j < s.size := by omega
      have hI0 : (0 : Int) ≤ (j : Int) ∧ (j : Int) < (s.size : Int) := by omega
      have hI2 : (0 : Int) ≤ (j2 : Int) ∧ (j2 : Int) < (s.size : Int) := by omega
      have HJ2 := Lib.hid hj2
      clear hj2
      obtain ⟨a, ha⟩ : ∃ a, s[j] = a := ⟨_, rfl⟩
      obtain ⟨b, hb⟩ : ∃ b, s[j2] = b := ⟨_, rfl⟩
      have HA := Lib.hid ha
      have HB := Lib.hid hb
      have c1 := fun w => refDigit_any a w
      have c2 := fun w => refDigit_any b w
      obtain ⟨x, hxx⟩ : ∃ x, digN a = x := ⟨_, rfl⟩
      obtain ⟨y, hyy⟩ : ∃ y, digN b = y := ⟨_, rfl⟩
      have hxb := digN_bounds a
      have hyb := digN_bounds b
      rw [hxx] at c1 hxb
      rw [hyy] at c2 hyb
      have HXX := Lib.hid hxx
      have HYY := Lib.hid hyy
      clear hxx hyy
      have hW1 : IntKind.i64.wrap (16 * x) = 16 * x := IntWalk.i64_in _ (by omega)
      have hW2 : IntKind.i64.wrap (16 * x + y) = 16 * x + y := IntWalk.i64_in _ (by omega)
      obtain ⟨c, hc⟩ : ∃ c, c = decB x y := ⟨_, rfl⟩
      have hW3 : IntKind.u8.wrap (16 * x + y) = (c.toNat : Int) := by
        rw [IntKind.wrap_u8, hc]; unfold decB; simp; omega
      have HC := Lib.hid hc
      clear hc
      obtain ⟨xa, xb⟩ := hxb
      obtain ⟨ya, yb⟩ := hyb
      have hkb : k + 1 ≤ 140737488355328 := by omega
      go_wp2_with fail
      go_region_held3 (fun w' => Below w.heap.size w w') (first | assumption | exact hbel.drew | exact (hbel.drew.alloc hbel.size _) | exact ((hbel.alloc hbel.size _).drew))
        (first
          | (go_at_call 18; (first | with_reducible refine (c1 _).mono ?_ | with_reducible refine (c2 _).mono ?_); rintro e w' ⟨rfl, rfl⟩)
          | (refine step_append_own rfl (.tmp 13) (.tmp 26) 39 rfl w.heap.size 5 i0 (.int .u8 0) 1 1 Tryd.underlying39 hi hz0 hz1 hz2 rfl (by decide) _ k (byteCells out) (by simp [Act.eval]) (hown.drew.alloc _) ⟨wr.heap.size, 0, none⟩ 1 1 (byteCells [c]) (by simp [Act.eval]) rfl (cells_one _ _ _) (bc_one _) (by unfold maxLen; omega) (by omega) (by have := hbel.size; simp; omega) ?_; intro v2 w2 hown2 hgrow2; have hb2 : Below w.heap.size w w2 := (hbel.drew.alloc hbel.size _).grown hgrow2 (by have := hbel.size; simp; omega) (fun g hg => own_base hown hg)))
      all_goals
        have hown3 : w2.ownsRow w.heap.size 5 1 v2 (k + 1) (byteCells (out ++ [c])) := by
          rw [bc_append]; exact hown2
        have HO : Hid (out ++ [c] = decU (r.take (2 * (k + 1)))) := by
          show out ++ [c] = _
          have e1 := HJ.out
          have e2 := HJ2.out
          have e3 := HR.out
          obtain ⟨d, hne⟩ : ∃ d, s.data.toList = d :: r := by
            rw [e3]
            cases hl : s.data.toList with
            | nil => have h9 := congrArg List.length hl; rw [Array.length_toList] at h9; have : s.size = 0 := h9; omega
            | cons d t => exact ⟨d, rfl⟩
          have h3 : r.take (2 * (k + 1)) = r.take (2 * k) ++ [a, b] := by
            have h1 := take_snoc s j hj1s
            have h2 := take_snoc s j2 hj2s
            rw [HA.out] at h1
            rw [HB.out] at h2
            have e4 : j2 = j + 1 := e2
            rw [e4, h1] at h2
            rw [hne, e1, List.take_succ_cons, List.take_succ_cons] at h2
            simp only [List.cons_append, List.cons.injEq, true_and, List.append_assoc, List.nil_append] at h2
            exact h2
          rw [h3, decU_append _ _ (by rw [List.length_take]; have := HK.out; have := HRL.out; omega), ← HOUT.out, HC.out, ← HXX.out, ← HYY.out]
          rfl
        have HK2 : Hid (2 * (k + 1) ≤ r.length) := by
          show 2 * (k + 1) ≤ r.length
          have := HRL.out; have := HJ.out; have := HJ2.out; omega
        have HJ3 : Hid (j + 2 = 2 * (k + 1) + 1) := by
          show j + 2 = 2 * (k + 1) + 1
          have := HJ.out; omega
        have hks2 : k + 1 ≤ s.size := by have := HJ.out; omega
        clear hown2 hgrow2 hown hW1 hW2 hW3 hI ha hb c1 c2
        go_wp2
        go_roundw
        case rel => exact ⟨k + 1, j + 2, out ++ [c], by go_num, by omega, HJ3, hks2, hown3, HO, HK2, hb2⟩
        case measure => simp [intOf]; omega
    · have hjl : (s.size : Int) ≤ (j : Int) + 1 := by omega
      have hex : Hid (r.length ≤ 2 * k + 1) := by
        show r.length ≤ 2 * k + 1
        have := HRL.out; have := HJ.out; omega
      have hU : out = decU s.data.toList.tail := by rw [HOUT.out, decU_take r k hex.out HK.out, HR.out]
      have hol : out.length = k := by have := hown.1; simpa [byteCells] using this
      obtain ⟨B, hB⟩ : ∃ B : ByteArray, B = ⟨out.toArray⟩ := ⟨_, rfl⟩
      have hBl : B.data.toList = out := by rw [hB]
      have hBs : B.size ≤ 35000000000000 := by
        have h1 : B.data.toList.length = B.size := by rw [Array.length_toList]; rfl
        rw [← h1, hBl, hol]; omega
      have hcv := fun (wx : World) (v : Value) (h : wx.ownsRow w.heap.size 5 1 v k (byteCells out)) => conv_owned (P := Tryd.prog) (src := 39) (dst := 9) Tryd.underlying39 Tryd.underlying5 Tryd.underlying9 h
      rw [← hB] at hcv
      have hv1 := hcv wr _ hown
      have kH := refHex_any B wr hBs
      rw [hBl, hU] at kH
      have HBL := Lib.hid (hB.trans (by rw [hU]))
      by_cases hsame : hexT (decU s.data.toList.tail) = s.data.toList
      · have he : (⟨(hexT (decU s.data.toList.tail)).toArray⟩ : ByteArray) = s := by rw [hsame]
        rw [he] at kH
        have HE := Lib.hid (unhexE_dec _ hsame)
        clear hsame he hU hB hBl hol hex HOUT HK HJ HR
        go_wp2_with (go_at_call 14; refine kH.mono ?_; rintro e w2 ⟨rfl, hb⟩; have hv2 := hcv w2 _ (ownsRow_below hown hb))
        go_ret2
        rw [HE.out, ← HBL.out]
        exact ⟨rfl, hbel.trans (hb.mono hbel.size)⟩
      · obtain ⟨X, hX⟩ : ∃ X : ByteArray, X = ⟨(hexT (decU s.data.toList.tail)).toArray⟩ := ⟨_, rfl⟩
        rw [← hX] at kH
        have hXs : (X.toList == s.toList) = false := by
          rw [beq_eq_false_iff_ne, ByteArray.toList_eq, ByteArray.toList_eq, hX]; exact hsame
        have HE := Lib.hid (unhexE_dec_no _ hsame)
        clear hsame hX hU hB hBl hol hex HOUT HK HJ HR
        go_wp2_with (go_at_call 14; refine kH.mono ?_; rintro e w2 ⟨rfl, hb⟩; have hv2 := hcv w2 _ (ownsRow_below hown hb))
        go_ret2
        exact ⟨HE.out.symm, hbel.trans (hb.mono hbel.size)⟩
end Go.Proofs.YteggmkjpidfdgaaDoor
