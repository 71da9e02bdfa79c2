/- hex.IsName and the document's own answer to the same: both tell whether a text is a name. No condition but that the text is shorter than 2^62. -/
import Derived.Test.YtgokkdalfkinnaaHexMath
namespace Go.Proofs.Ytgokkdalfkinnaa
open Go.RowKit Go.Lib

def nameOk (k : Nat) (c : UInt8) : Bool := isLet c || decide (0 < k) && isFig c
def restOk (c : UInt8) : Bool := isLet c || isFig c
def namePre : List UInt8 → Bool
  | [] => true
  | c :: r => isLet c && r.all restOk
def isNameB (l : List UInt8) : Bool := !l.isEmpty && namePre l

theorem namePre_snoc (l : List UInt8) (c : UInt8) : namePre (l ++ [c]) = (namePre l && nameOk l.length c) := by
  cases l with
  | nil => simp [namePre, nameOk]
  | cons d r => simp [namePre, nameOk, restOk, Bool.and_assoc]
theorem namePre_append (a b : List UInt8) (h : namePre a = false) : namePre (a ++ b) = false := by
  cases a with
  | nil => simp [namePre] at h
  | cons d r =>
    simp only [namePre, List.cons_append, List.all_append] at h ⊢
    cases h1 : isLet d <;> cases h2 : r.all restOk <;> simp_all
theorem namePre_take (s : ByteArray) (k : Nat) (h : k < s.size) : namePre (s.data.toList.take (k + 1)) = (namePre (s.data.toList.take k) && nameOk k s[k]) := by
  rw [take_snoc s k h, namePre_snoc]
  rw [List.length_take, Nat.min_eq_left (by simp; omega)]
theorem namePre_no (s : ByteArray) (k : Nat) (h : namePre (s.data.toList.take k) = false) : isNameB s.data.toList = false := by
  have := namePre_append _ (s.data.toList.drop k) h
  rw [List.take_append_drop] at this
  simp [isNameB, this]

set_option maxHeartbeats 400000 in
theorem isNameFits_any (s : ByteArray) (k : Nat) (b : Nat) (w : World) (hk : k < s.size) (_hs : s.size ≤ maxLen) (hc : w.cell? ⟨b, 0, none⟩ = some (.string s)) :
    Calls Try.prog 100 #[.int .i64 (k : Int), .pointer (some ⟨b, 0, none⟩)] w fun e w' => e = .returned (.bool (nameOk k s[k])) ∧ w = w' := by
  unfold maxLen at _hs
  obtain ⟨c, hcc⟩ : ∃ c, s[k] = c := ⟨_, rfl⟩
  rw [hcc]
  cases hl : isLet c <;> cases hf : isFig c <;> by_cases h0 : 0 < k
  all_goals
    have HL := Lib.hid hl
    have HF := Lib.hid hf
    go_enter Try.func100, Try.ntmps100
    go_wp2_with (first | (go_at_call 101; refine (isLetter_any _ _).mono ?_; rintro e w' ⟨rfl, rfl⟩) | (go_at_call 102; refine (isFigure_any _ _).mono ?_; rintro e w' ⟨rfl, rfl⟩))
    go_ret
    refine ⟨ret_bool ?_, rfl⟩
    simp [nameOk, HL.out, HF.out, h0]

set_option maxHeartbeats 400000 in
theorem isName_any (s : ByteArray) (w : World) (hs : s.size ≤ 70000000000000) :
    Calls Try.prog 91 #[.string s] w fun e w' => e = .returned (.bool (isNameB s.data.toList)) ∧ Below w.heap.size w w' := by
  have hcl : (w.alloc (.cells #[.string s] 9)).cell? ⟨w.heap.size, 0, none⟩ = some (.string s) := by simp
  go_enter Try.func91, Try.ntmps91
  go_wp2
  go_loop [8] (fun i => ∃ k : Nat, k ≤ s.size ∧ i = .int .i64 k ∧ namePre (s.data.toList.take k) = true) (fun i => s.size - (intOf i).toNat)
  case atStart => exact ⟨0, Nat.zero_le _, rfl, rfl⟩
  case round =>
    obtain ⟨k, hk, rfl, hpre⟩ := hrel
    have HP := Lib.hid hpre
    clear hpre
    by_cases hlt : k < s.size
    · have hsn := Lib.hid (namePre_take s k hlt)
      have hfit := isNameFits_any s k w.heap.size (w.alloc (.cells #[.string s] 9)) hlt (by unfold maxLen; omega) hcl
      cases hn : nameOk k s[k]
      · rw [hn] at hfit
        have HN := Lib.hid hn
        clear hn
        go_wp2_with (go_at_call 100; refine hfit.mono ?_; rintro e w' ⟨rfl, rfl⟩)
        go_ret
        refine ⟨ret_bool ?_, (Below.refl _ _).alloc (Nat.le_refl _) _⟩
        rw [namePre_no s (k + 1) (by rw [hsn.out, HN.out]; simp)]
      · rw [hn] at hfit
        have HN := Lib.hid hn
        clear hn
        go_wp2_with (go_at_call 100; refine hfit.mono ?_; rintro e w' ⟨rfl, rfl⟩)
        go_round
        case rel => exact ⟨k + 1, by omega, by go_num, by rw [hsn.out, HN.out, HP.out]; rfl⟩
        case measure => simp [intOf]; omega
    · have hall : s.data.toList.take k = s.data.toList := List.take_of_length_le (by simp; omega)
      have HA := Lib.hid hall
      clear hall
      go_wp2
      all_goals
        go_ret
        refine ⟨ret_bool ?_, (Below.refl _ _).alloc (Nat.le_refl _) _⟩
        have := HP.out
        rw [HA.out] at this
        simp [isNameB, this, ByteArray.toList_eq]
end Go.Proofs.Ytgokkdalfkinnaa
