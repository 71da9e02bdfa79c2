/- Packed texts: ReRefPlain, SuRefText. What each of them proves stands above its theorems; the conditions stand in these. -/
import Derived.Deep.Cut
import Derived.Deep.LoopGhost
import Derived.Deep.RegionWith
import Derived.Laws.ResultCell
import Derived.Test.YtgffmbdbjbhocaaShelf
import Derived.Test.YtgffmbdbjbhocaaQ0
import Derived.Test.YtgffmbdbjbhocaaQ8
import Derived.Test.YtgffmbdbjbhocaaQ9
namespace Go.Proofs.Ytgffmbdbjbhocaa
open Go.RowKit Go.Lib

theorem plain_bools (c : UInt8) : (c = 32 ∨ restOk c = true) ↔ (((c.toNat : Int) = 32 ∨ (c.toNat : Int) = 95) ∨ (48 ≤ (c.toNat : Int) ∧ (c.toNat : Int) ≤ 57) ∨ (65 ≤ (c.toNat : Int) ∧ (c.toNat : Int) ≤ 90) ∨ (97 ≤ (c.toNat : Int) ∧ (c.toNat : Int) ≤ 122)) := by
  have e : c = 32 ↔ (c.toNat : Int) = 32 := by
    constructor
    · intro h; rw [h]; rfl
    · intro h; apply UInt8.toNat_inj.1; show c.toNat = 32; omega
  rw [e]
  unfold restOk isLet isFig
  simp only [Bool.or_eq_true, Bool.and_eq_true, decide_eq_true_eq]
  omega
set_option maxHeartbeats 1000000 in
set_option maxRecDepth 20000 in
theorem refPlain_any (c : UInt8) (w : World) : Calls Try.prog 84 #[.int .u8 (c.toNat : Int)] w fun e w' => e = .returned (.string ⟨(plainL c).toArray⟩) ∧ Below w.heap.size w w' := by
  have k2 : ∀ w, Calls Try.prog 115 #[.string ⟨[c].toArray⟩] w fun e w' => e = .returned (.string ⟨(hexT (⟨[c].toArray⟩ : ByteArray).data.toList).toArray⟩) ∧ Below w.heap.size w w' := fun w => refHex_any ⟨[c].toArray⟩ w (by show 1 ≤ _; decide)
  have kc := fun w => conv_new1 (P := Try.prog) 88 9 5 Try.underlying88 Try.underlying5 Try.underlying9 w (c.toNat : Int) c rfl
  obtain ⟨X, hX⟩ : ∃ X : ByteArray, X = ⟨(plainL c).toArray⟩ := ⟨_, rfl⟩
  rw [← hX]
  have hs : (⟨(hexT [c]).toArray⟩ : ByteArray).size = 3 := by simp [ByteArray.size, hexT_length]
  have hb := plain_bools c
  have hlt := c.toNat_lt
  have e1 : (⟨[c].toArray⟩ : ByteArray).data.toList = [c] := rfl
  rw [e1] at k2
  have pos : (c = 32 ∨ restOk c = true) → X = ⟨[c].toArray⟩ := fun h => by rw [hX]; unfold plainL; rw [if_pos h]
  have neg : ¬ (c = 32 ∨ restOk c = true) → X = ⟨#[92]⟩ ++ ⟨(hexT [c]).toArray⟩ := fun h => by rw [hX]; unfold plainL; rw [if_neg h]; rfl
  obtain ⟨T, hT⟩ : ∃ T : ByteArray, T = ⟨(hexT [c]).toArray⟩ := ⟨_, rfl⟩
  rw [← hT] at k2 hs neg
  rw [hb] at pos neg
  clear hX hb e1 hT
  obtain ⟨x, hx⟩ : ∃ x : Int, x = (c.toNat : Int) := ⟨_, rfl⟩
  have h0 : 0 ≤ x := by omega
  have h255 : x ≤ 255 := by omega
  rw [← hx] at kc pos neg ⊢
  clear hx hlt
  obtain ⟨C, hC⟩ : ∃ C : ByteArray, C = ⟨[c].toArray⟩ := ⟨_, rfl⟩
  rw [← hC] at k2 pos
  have hC2 : (⟨#[c]⟩ : ByteArray) = C := hC.symm
  have HC := Lib.hid hC
  clear hC
  have HP := Lib.hid pos
  have HN := Lib.hid neg
  clear pos neg
  have hR : (0 ≤ x ∧ x ≤ 31) ∨ (32 ≤ x ∧ x ≤ 32) ∨ (33 ≤ x ∧ x ≤ 47) ∨ (48 ≤ x ∧ x ≤ 57) ∨ (58 ≤ x ∧ x ≤ 64) ∨ (65 ≤ x ∧ x ≤ 90) ∨ (91 ≤ x ∧ x ≤ 94) ∨ (95 ≤ x ∧ x ≤ 95) ∨ (96 ≤ x ∧ x ≤ 96) ∨ (97 ≤ x ∧ x ≤ 122) ∨ (123 ≤ x ∧ x ≤ 255) := by omega
  rcases hR with ⟨hl, hh⟩ | ⟨hl, hh⟩ | ⟨hl, hh⟩ | ⟨hl, hh⟩ | ⟨hl, hh⟩ | ⟨hl, hh⟩ | ⟨hl, hh⟩ | ⟨hl, hh⟩ | ⟨hl, hh⟩ | ⟨hl, hh⟩ | ⟨hl, hh⟩
  · have b1 : (x == 32) = false := by rw [beq_eq_false_iff_ne]; omega
    have b2 : (x == 95) = false := by rw [beq_eq_false_iff_ne]; omega
    have b3 : decide (48 ≤ x) = false := by rw [decide_eq_false_iff_not]; omega
    have b4 : decide (x ≤ 57) = true := by rw [decide_eq_true_eq]; omega
    have b5 : decide (65 ≤ x) = false := by rw [decide_eq_false_iff_not]; omega
    have b6 : decide (x ≤ 90) = true := by rw [decide_eq_true_eq]; omega
    have b7 : decide (97 ≤ x) = false := by rw [decide_eq_false_iff_not]; omega
    have b8 : decide (x ≤ 122) = true := by rw [decide_eq_true_eq]; omega
    have HX := Lib.hid (HN.out (by omega))
    clear hl hh HP HN
    go_enter Try.func84, Try.ntmps84
    go_wp2_with (first
      | (go_at_call 115; refine (k2 _).mono ?_; rintro e w1 ⟨rfl, hb1⟩)
      | fail)
    exact bodyPost_ret (results_tmp rfl _ _ _) rfl ⟨by rw [HX.out]; rfl, ((Below.refl _ w).alloc (Nat.le_refl _) _).trans (hb1.mono (by simp))⟩
  · have b1 : (x == 32) = true := by rw [beq_iff_eq]; omega
    have b2 : (x == 95) = false := by rw [beq_eq_false_iff_ne]; omega
    have b3 : decide (48 ≤ x) = false := by rw [decide_eq_false_iff_not]; omega
    have b4 : decide (x ≤ 57) = true := by rw [decide_eq_true_eq]; omega
    have b5 : decide (65 ≤ x) = false := by rw [decide_eq_false_iff_not]; omega
    have b6 : decide (x ≤ 90) = true := by rw [decide_eq_true_eq]; omega
    have b7 : decide (97 ≤ x) = false := by rw [decide_eq_false_iff_not]; omega
    have b8 : decide (x ≤ 122) = true := by rw [decide_eq_true_eq]; omega
    have HX := Lib.hid (HP.out (by omega))
    clear hl hh HP HN
    go_enter Try.func84, Try.ntmps84
    go_wp2_with (first
      | (go_at_call 115; refine (k2 _).mono ?_; rintro e w1 ⟨rfl, hb1⟩)
      | fail)
    exact bodyPost_ret (results_tmp rfl _ _ _) rfl ⟨by rw [HX.out]; rfl, (Below.refl _ w).alloc (Nat.le_refl _) _⟩
  · have b1 : (x == 32) = false := by rw [beq_eq_false_iff_ne]; omega
    have b2 : (x == 95) = false := by rw [beq_eq_false_iff_ne]; omega
    have b3 : decide (48 ≤ x) = false := by rw [decide_eq_false_iff_not]; omega
    have b4 : decide (x ≤ 57) = true := by rw [decide_eq_true_eq]; omega
    have b5 : decide (65 ≤ x) = false := by rw [decide_eq_false_iff_not]; omega
    have b6 : decide (x ≤ 90) = true := by rw [decide_eq_true_eq]; omega
    have b7 : decide (97 ≤ x) = false := by rw [decide_eq_false_iff_not]; omega
    have b8 : decide (x ≤ 122) = true := by rw [decide_eq_true_eq]; omega
    have HX := Lib.hid (HN.out (by omega))
    clear hl hh HP HN
    go_enter Try.func84, Try.ntmps84
    go_wp2_with (first
      | (go_at_call 115; refine (k2 _).mono ?_; rintro e w1 ⟨rfl, hb1⟩)
      | fail)
    exact bodyPost_ret (results_tmp rfl _ _ _) rfl ⟨by rw [HX.out]; rfl, ((Below.refl _ w).alloc (Nat.le_refl _) _).trans (hb1.mono (by simp))⟩
  · have b1 : (x == 32) = false := by rw [beq_eq_false_iff_ne]; omega
    have b2 : (x == 95) = false := by rw [beq_eq_false_iff_ne]; omega
    have b3 : decide (48 ≤ x) = true := by rw [decide_eq_true_eq]; omega
    have b4 : decide (x ≤ 57) = true := by rw [decide_eq_true_eq]; omega
    have b5 : decide (65 ≤ x) = false := by rw [decide_eq_false_iff_not]; omega
    have b6 : decide (x ≤ 90) = true := by rw [decide_eq_true_eq]; omega
    have b7 : decide (97 ≤ x) = false := by rw [decide_eq_false_iff_not]; omega
    have b8 : decide (x ≤ 122) = true := by rw [decide_eq_true_eq]; omega
    have HX := Lib.hid (HP.out (by omega))
    clear hl hh HP HN
    go_enter Try.func84, Try.ntmps84
    go_wp2_with (first
      | (go_at_call 115; refine (k2 _).mono ?_; rintro e w1 ⟨rfl, hb1⟩)
      | fail)
    exact bodyPost_ret (results_tmp rfl _ _ _) rfl ⟨by rw [HX.out]; rfl, (Below.refl _ w).alloc (Nat.le_refl _) _⟩
  · have b1 : (x == 32) = false := by rw [beq_eq_false_iff_ne]; omega
    have b2 : (x == 95) = false := by rw [beq_eq_false_iff_ne]; omega
    have b3 : decide (48 ≤ x) = true := by rw [decide_eq_true_eq]; omega
    have b4 : decide (x ≤ 57) = false := by rw [decide_eq_false_iff_not]; omega
    have b5 : decide (65 ≤ x) = false := by rw [decide_eq_false_iff_not]; omega
    have b6 : decide (x ≤ 90) = true := by rw [decide_eq_true_eq]; omega
    have b7 : decide (97 ≤ x) = false := by rw [decide_eq_false_iff_not]; omega
    have b8 : decide (x ≤ 122) = true := by rw [decide_eq_true_eq]; omega
    have HX := Lib.hid (HN.out (by omega))
    clear hl hh HP HN
    go_enter Try.func84, Try.ntmps84
    go_wp2_with (first
      | (go_at_call 115; refine (k2 _).mono ?_; rintro e w1 ⟨rfl, hb1⟩)
      | fail)
    exact bodyPost_ret (results_tmp rfl _ _ _) rfl ⟨by rw [HX.out]; rfl, ((Below.refl _ w).alloc (Nat.le_refl _) _).trans (hb1.mono (by simp))⟩
  · have b1 : (x == 32) = false := by rw [beq_eq_false_iff_ne]; omega
    have b2 : (x == 95) = false := by rw [beq_eq_false_iff_ne]; omega
    have b3 : decide (48 ≤ x) = true := by rw [decide_eq_true_eq]; omega
    have b4 : decide (x ≤ 57) = false := by rw [decide_eq_false_iff_not]; omega
    have b5 : decide (65 ≤ x) = true := by rw [decide_eq_true_eq]; omega
    have b6 : decide (x ≤ 90) = true := by rw [decide_eq_true_eq]; omega
    have b7 : decide (97 ≤ x) = false := by rw [decide_eq_false_iff_not]; omega
    have b8 : decide (x ≤ 122) = true := by rw [decide_eq_true_eq]; omega
    have HX := Lib.hid (HP.out (by omega))
    clear hl hh HP HN
    go_enter Try.func84, Try.ntmps84
    go_wp2_with (first
      | (go_at_call 115; refine (k2 _).mono ?_; rintro e w1 ⟨rfl, hb1⟩)
      | fail)
    exact bodyPost_ret (results_tmp rfl _ _ _) rfl ⟨by rw [HX.out]; rfl, (Below.refl _ w).alloc (Nat.le_refl _) _⟩
  · have b1 : (x == 32) = false := by rw [beq_eq_false_iff_ne]; omega
    have b2 : (x == 95) = false := by rw [beq_eq_false_iff_ne]; omega
    have b3 : decide (48 ≤ x) = true := by rw [decide_eq_true_eq]; omega
    have b4 : decide (x ≤ 57) = false := by rw [decide_eq_false_iff_not]; omega
    have b5 : decide (65 ≤ x) = true := by rw [decide_eq_true_eq]; omega
    have b6 : decide (x ≤ 90) = false := by rw [decide_eq_false_iff_not]; omega
    have b7 : decide (97 ≤ x) = false := by rw [decide_eq_false_iff_not]; omega
    have b8 : decide (x ≤ 122) = true := by rw [decide_eq_true_eq]; omega
    have HX := Lib.hid (HN.out (by omega))
    clear hl hh HP HN
    go_enter Try.func84, Try.ntmps84
    go_wp2_with (first
      | (go_at_call 115; refine (k2 _).mono ?_; rintro e w1 ⟨rfl, hb1⟩)
      | fail)
    exact bodyPost_ret (results_tmp rfl _ _ _) rfl ⟨by rw [HX.out]; rfl, ((Below.refl _ w).alloc (Nat.le_refl _) _).trans (hb1.mono (by simp))⟩
  · have b1 : (x == 32) = false := by rw [beq_eq_false_iff_ne]; omega
    have b2 : (x == 95) = true := by rw [beq_iff_eq]; omega
    have b3 : decide (48 ≤ x) = true := by rw [decide_eq_true_eq]; omega
    have b4 : decide (x ≤ 57) = false := by rw [decide_eq_false_iff_not]; omega
    have b5 : decide (65 ≤ x) = true := by rw [decide_eq_true_eq]; omega
    have b6 : decide (x ≤ 90) = false := by rw [decide_eq_false_iff_not]; omega
    have b7 : decide (97 ≤ x) = false := by rw [decide_eq_false_iff_not]; omega
    have b8 : decide (x ≤ 122) = true := by rw [decide_eq_true_eq]; omega
    have HX := Lib.hid (HP.out (by omega))
    clear hl hh HP HN
    go_enter Try.func84, Try.ntmps84
    go_wp2_with (first
      | (go_at_call 115; refine (k2 _).mono ?_; rintro e w1 ⟨rfl, hb1⟩)
      | fail)
    exact bodyPost_ret (results_tmp rfl _ _ _) rfl ⟨by rw [HX.out]; rfl, (Below.refl _ w).alloc (Nat.le_refl _) _⟩
  · have b1 : (x == 32) = false := by rw [beq_eq_false_iff_ne]; omega
    have b2 : (x == 95) = false := by rw [beq_eq_false_iff_ne]; omega
    have b3 : decide (48 ≤ x) = true := by rw [decide_eq_true_eq]; omega
    have b4 : decide (x ≤ 57) = false := by rw [decide_eq_false_iff_not]; omega
    have b5 : decide (65 ≤ x) = true := by rw [decide_eq_true_eq]; omega
    have b6 : decide (x ≤ 90) = false := by rw [decide_eq_false_iff_not]; omega
    have b7 : decide (97 ≤ x) = false := by rw [decide_eq_false_iff_not]; omega
    have b8 : decide (x ≤ 122) = true := by rw [decide_eq_true_eq]; omega
    have HX := Lib.hid (HN.out (by omega))
    clear hl hh HP HN
    go_enter Try.func84, Try.ntmps84
    go_wp2_with (first
      | (go_at_call 115; refine (k2 _).mono ?_; rintro e w1 ⟨rfl, hb1⟩)
      | fail)
    exact bodyPost_ret (results_tmp rfl _ _ _) rfl ⟨by rw [HX.out]; rfl, ((Below.refl _ w).alloc (Nat.le_refl _) _).trans (hb1.mono (by simp))⟩
  · have b1 : (x == 32) = false := by rw [beq_eq_false_iff_ne]; omega
    have b2 : (x == 95) = false := by rw [beq_eq_false_iff_ne]; omega
    have b3 : decide (48 ≤ x) = true := by rw [decide_eq_true_eq]; omega
    have b4 : decide (x ≤ 57) = false := by rw [decide_eq_false_iff_not]; omega
    have b5 : decide (65 ≤ x) = true := by rw [decide_eq_true_eq]; omega
    have b6 : decide (x ≤ 90) = false := by rw [decide_eq_false_iff_not]; omega
    have b7 : decide (97 ≤ x) = true := by rw [decide_eq_true_eq]; omega
    have b8 : decide (x ≤ 122) = true := by rw [decide_eq_true_eq]; omega
    have HX := Lib.hid (HP.out (by omega))
    clear hl hh HP HN
    go_enter Try.func84, Try.ntmps84
    go_wp2_with (first
      | (go_at_call 115; refine (k2 _).mono ?_; rintro e w1 ⟨rfl, hb1⟩)
      | fail)
    exact bodyPost_ret (results_tmp rfl _ _ _) rfl ⟨by rw [HX.out]; rfl, (Below.refl _ w).alloc (Nat.le_refl _) _⟩
  · have b1 : (x == 32) = false := by rw [beq_eq_false_iff_ne]; omega
    have b2 : (x == 95) = false := by rw [beq_eq_false_iff_ne]; omega
    have b3 : decide (48 ≤ x) = true := by rw [decide_eq_true_eq]; omega
    have b4 : decide (x ≤ 57) = false := by rw [decide_eq_false_iff_not]; omega
    have b5 : decide (65 ≤ x) = true := by rw [decide_eq_true_eq]; omega
    have b6 : decide (x ≤ 90) = false := by rw [decide_eq_false_iff_not]; omega
    have b7 : decide (97 ≤ x) = true := by rw [decide_eq_true_eq]; omega
    have b8 : decide (x ≤ 122) = false := by rw [decide_eq_false_iff_not]; omega
    have HX := Lib.hid (HN.out (by omega))
    clear hl hh HP HN
    go_enter Try.func84, Try.ntmps84
    go_wp2_with (first
      | (go_at_call 115; refine (k2 _).mono ?_; rintro e w1 ⟨rfl, hb1⟩)
      | fail)
    exact bodyPost_ret (results_tmp rfl _ _ _) rfl ⟨by rw [HX.out]; rfl, ((Below.refl _ w).alloc (Nat.le_refl _) _).trans (hb1.mono (by simp))⟩
end Go.Proofs.Ytgffmbdbjbhocaa
namespace Go.Proofs.Ytgffmbdbjbhocaa
open Go.RowKit Go.Lib

def flatK (x : ByteArray) (k : Nat) : ByteArray := ⟨(flatP (x.data.toList.take k)).toArray⟩
theorem flatK_zero (x : ByteArray) : flatK x 0 = ⟨#[]⟩ := rfl
theorem flatK_all (x : ByteArray) : flatK x x.size = flatB x := by
  unfold flatK flatB
  rw [List.take_of_length_le (by show x.data.toList.length ≤ x.data.size; rw [Array.length_toList]; exact Nat.le_refl _)]
theorem flatK_next (x : ByteArray) {k : Nat} (h : k < x.size) : flatK x k ++ ⟨(plainL x[k]).toArray⟩ = flatK x (k + 1) := by
  apply ba_ext
  rw [ByteArray.data_append, Array.toList_append]
  show flatP (x.data.toList.take k) ++ plainL x[k] = flatP (x.data.toList.take (k + 1))
  rw [flatP_next x h]
theorem flatK_le (x : ByteArray) (k : Nat) : (flatK x k).size ≤ (flatB x).size := by
  show (flatP (x.data.toList.take k)).toArray.size ≤ (flatP x.data.toList).toArray.size
  rw [List.size_toArray, List.size_toArray]
  conv => rhs; rw [← List.take_append_drop k x.data.toList]
  unfold flatP
  rw [List.flatMap_append, List.length_append]
  omega

set_option maxHeartbeats 2000000 in
set_option maxRecDepth 20000 in
theorem refText7_walk (ao : Option Addr) (N cap M : Nat) (xs : List ByteArray) (A Bs : Nat → ByteArray) (w : World) (h : Strs (.slice ao N cap) xs w) (hM : M ≤ 140737488355328) (hA : ∀ k, (A k).size ≤ M) (h0 : A 0 = ⟨#[]⟩)
    (hB0 : Bs 0 = ⟨#[]⟩) (hB : ∀ k, 0 < k → Bs k = A k ++ ⟨#[38]⟩) (h2 : ∀ k x, xs[k]? = some x → Bs k ++ flatB x = A (k + 1)) :
    Calls Try.prog 43 #[.slice ao N cap] w fun e w' => e = .returned (.string (A N)) ∧ Below w.heap.size w w' := by
  obtain ⟨hN, _, hN2⟩ := h.len
  have H := Lib.hid (And.intro h (And.intro hA (And.intro h0 (And.intro hB0 (And.intro hB (And.intro h2 hN))))))
  clear h hA h0 hB0 hB h2 hN
  go_enter Try.func43, Try.ntmps43
  go_wp2
  go_loopg [3, 4] (N + 1) (fun g v3 v4 wr => ∃ k : Nat, v3 = .string (A k) ∧ v4 = .int .i64 k ∧ k ≤ N ∧ Hid (g = N + 1 - k) ∧ Hid (Below w.heap.size w wr))
  case atStart => exact ⟨0, by rw [H.out.2.2.1], rfl, by omega, rfl, Below.refl _ _⟩
  case round =>
    obtain ⟨k, rfl, rfl, hk, HK, HW⟩ := hrel
    by_cases hlt : k < N
    · have hltI : (k : Int) < (N : Int) := by omega
      obtain ⟨x, hx⟩ : ∃ x, xs[k]? = some x := ⟨xs[k]'(by have := H.out.2.2.2.2.2.2; omega), List.getElem?_eq_getElem _⟩
      obtain ⟨b, o, rfl, hbl, cx⟩ := (H.out.1.below HW.out).at hx
      have e := H.out.2.2.2.2.2.1 k x hx
      have hz := congrArg ByteArray.size e
      rw [ByteArray.size_append] at hz
      have hA1 := H.out.2.1 (k + 1)
      have hI : IntKind.i64.wrap ((k : Int) + 1) = ((k + 1 : Nat) : Int) := by rw [IntWalk.i64_in _ (by omega)]; omega
      have hxs : x.size ≤ (flatB x).size := by
        have h1 := (flatP_len x.data.toList).1
        have h2 : x.data.toList.length = x.size := Array.length_toList
        show _ ≤ (flatP x.data.toList).toArray.size
        rw [List.size_toArray]
        omega
      have HX := Lib.hid (And.intro hx (And.intro e cx))
      have hB2 : (k = 0 ∧ Bs k = ⟨#[]⟩) ∨ (0 < k ∧ Bs k = A k ++ ⟨#[38]⟩) := by
        by_cases h : k = 0
        · exact .inl ⟨h, by rw [h]; exact H.out.2.2.2.1⟩
        · exact .inr ⟨by omega, H.out.2.2.2.2.1 k (by omega)⟩
      have hA0 : k = 0 → A k = ⟨#[]⟩ := fun h => by rw [h]; exact H.out.2.2.1
      obtain ⟨a, ha⟩ : ∃ a, a = A k := ⟨_, rfl⟩
      rw [← ha] at hB2 hA0 ⊢
      obtain ⟨B, hBd⟩ : ∃ B, B = Bs k := ⟨_, rfl⟩
      rw [← hBd] at hB2 hz
      have HB := Lib.hid hBd
      clear hx e ha hBd
      rcases hB2 with ⟨h0, hb⟩ | ⟨h0, hb⟩
      · have ha0 := hA0 h0
        have HB2 := Lib.hid (And.intro hb ha0)
        subst ha0
        subst h0
        clear hA0 hb
        go_wp2
        go_loopg [3, 5] (x.size + 1) (fun g v3 v5 wr => ∃ (j : Nat) (C : ByteArray), v3 = .string C ∧ v5 = .int .i64 j ∧ j ≤ x.size ∧ C.size ≤ M ∧ Hid (g = x.size + 1 - j) ∧ Hid (C = B ++ flatK x j) ∧ Hid (Below w.heap.size w wr))
        case atStart => exact ⟨0, ⟨#[]⟩, rfl, rfl, by omega, Nat.zero_le _, rfl, by rw [flatK_zero, HB2.out.1]; rfl, HW.out⟩
        case round =>
          obtain ⟨j, C, rfl, rfl, hj, hC, HJ, HC, HV⟩ := hrel
          obtain ⟨b2, o2, he, _, cx2⟩ := (H.out.1.below HV.out).at HX.out.1
          cases he
          rw [Nat.add_zero] at cx2
          by_cases hjl : j < x.size
          · have hjI : (j : Int) < (x.size : Int) := by omega
            obtain ⟨c, hc⟩ : ∃ c, x[j] = c := ⟨_, rfl⟩
            have kp := fun w => refPlain_any c w
            obtain ⟨P, hP⟩ : ∃ P : ByteArray, P = ⟨(plainL c).toArray⟩ := ⟨_, rfl⟩
            rw [← hP] at kp
            have hCP : C ++ P = B ++ flatK x (j + 1) := by rw [HC.out, hP, ← hc, ByteArray.append_assoc, flatK_next x hjl]
            have hsz := congrArg ByteArray.size hCP
            rw [ByteArray.size_append, ByteArray.size_append] at hsz
            have hfl := flatK_le x (j + 1)
            have n1 : ¬ 9223372036854775807 < C.size + P.size := by omega
            have hsz2 : (C ++ P).size ≤ M := by rw [ByteArray.size_append]; omega
            have hJ : IntKind.i64.wrap ((j : Int) + 1) = ((j + 1 : Nat) : Int) := by rw [IntWalk.i64_in _ (by omega)]; omega
            have HCP := Lib.hid (And.intro hCP hsz2)
            clear hCP hsz2 hP hsz hfl
            go_wp2_with (first
              | (go_at_call 84; refine (kp _).mono ?_; rintro e w1 ⟨rfl, hb1⟩; have H1 := Lib.hid (HV.out.trans (hb1.mono HV.out.size)); clear hb1))
            go_roundg (x.size - j)
            case rel => exact ⟨j + 1, C ++ P, rfl, by go_num, by omega, HCP.out.2, by show _ = _; omega, HCP.out.1, H1.out⟩
            case measure => have := HJ.out; omega
          · obtain rfl : j = x.size := by omega
            have hdec : decide ((x.size : Int) < (x.size : Int)) = false := decide_eq_false (by omega)
            have hfin : C = A 1 := by rw [HC.out, flatK_all, HB.out]; exact HX.out.2.1
            have HFI := Lib.hid hfin
            clear hfin
            go_wp2
            go_roundg (N - 0)
            case rel => exact ⟨1, by rw [HFI.out], by go_num, by omega, by show _ = _; omega, HV.out⟩
            case measure => have := HK.out; omega
      · have hk0 : (0 : Int) < (k : Int) := by omega
        have hsa : a.size + 1 ≤ M := by
          have := congrArg ByteArray.size hb
          rw [ByteArray.size_append] at this
          have h1 : (⟨#[38]⟩ : ByteArray).size = 1 := rfl
          omega
        have n0 : ¬ 9223372036854775807 < a.size + 1 := by omega
        have n2 : ¬ 9223372036854775807 < a.size + (⟨#[38]⟩ : ByteArray).size := by show ¬ _ < a.size + 1; omega
        have HB2 := Lib.hid hb
        clear hA0 hb
        go_wp2
        go_loopg [3, 5] (x.size + 1) (fun g v3 v5 wr => ∃ (j : Nat) (C : ByteArray), v3 = .string C ∧ v5 = .int .i64 j ∧ j ≤ x.size ∧ C.size ≤ M ∧ Hid (g = x.size + 1 - j) ∧ Hid (C = B ++ flatK x j) ∧ Hid (Below w.heap.size w wr))
        case atStart => exact ⟨0, a ++ ⟨#[38]⟩, rfl, rfl, by omega, by rw [ByteArray.size_append]; exact hsa, rfl, by rw [flatK_zero, HB2.out]; apply ba_ext; simp, HW.out⟩
        case round =>
          obtain ⟨j, C, rfl, rfl, hj, hC, HJ, HC, HV⟩ := hrel
          obtain ⟨b2, o2, he, _, cx2⟩ := (H.out.1.below HV.out).at HX.out.1
          cases he
          by_cases hjl : j < x.size
          · have hjI : (j : Int) < (x.size : Int) := by omega
            obtain ⟨c, hc⟩ : ∃ c, x[j] = c := ⟨_, rfl⟩
            have kp := fun w => refPlain_any c w
            obtain ⟨P, hP⟩ : ∃ P : ByteArray, P = ⟨(plainL c).toArray⟩ := ⟨_, rfl⟩
            rw [← hP] at kp
            have hCP : C ++ P = B ++ flatK x (j + 1) := by rw [HC.out, hP, ← hc, ByteArray.append_assoc, flatK_next x hjl]
            have hsz := congrArg ByteArray.size hCP
            rw [ByteArray.size_append, ByteArray.size_append] at hsz
            have hfl := flatK_le x (j + 1)
            have n1 : ¬ 9223372036854775807 < C.size + P.size := by omega
            have hsz2 : (C ++ P).size ≤ M := by rw [ByteArray.size_append]; omega
            have hJ : IntKind.i64.wrap ((j : Int) + 1) = ((j + 1 : Nat) : Int) := by rw [IntWalk.i64_in _ (by omega)]; omega
            have HCP := Lib.hid (And.intro hCP hsz2)
            clear hCP hsz2 hP hsz hfl
            go_wp2_with (first
              | (go_at_call 84; refine (kp _).mono ?_; rintro e w1 ⟨rfl, hb1⟩; have H1 := Lib.hid (HV.out.trans (hb1.mono HV.out.size)); clear hb1))
            go_roundg (x.size - j)
            case rel => exact ⟨j + 1, C ++ P, rfl, by go_num, by omega, HCP.out.2, by show _ = _; omega, HCP.out.1, H1.out⟩
            case measure => have := HJ.out; omega
          · obtain rfl : j = x.size := by omega
            have hdec : decide ((x.size : Int) < (x.size : Int)) = false := decide_eq_false (by omega)
            have hfin : C = A (k + 1) := by rw [HC.out, flatK_all, HB.out]; exact HX.out.2.1
            have HFI := Lib.hid hfin
            clear hfin
            go_wp2
            go_roundg (N - k)
            case rel => exact ⟨k + 1, by rw [HFI.out], by go_num, by omega, by show _ = _; omega, HV.out⟩
            case measure => have := HK.out; omega
    · obtain rfl : k = N := by omega
      have hdec : decide ((k : Int) < (k : Int)) = false := decide_eq_false (by omega)
      go_wp2
      go_ret
      exact ⟨rfl, HW.out⟩
theorem joinB_base (ys : List ByteArray) (sep : ByteArray) {k : Nat} {y : ByteArray} (h : ys[k]? = some y) : (if k = 0 then ⟨#[]⟩ else joinB (ys.take k) sep ++ sep) ++ y = joinB (ys.take (k + 1)) sep := by
  by_cases h0 : k = 0
  · subst h0
    rw [if_pos rfl, joinB_first sep h]
    apply ba_ext
    rw [ByteArray.data_append, Array.toList_append]; rfl
  · rw [if_neg h0, ← joinB_next sep (by omega) h]
theorem refText7_any (v : Value) (xs : List ByteArray) (w : World) (h : Strs v xs w) (hl : (textB xs).size ≤ 140737488355328) :
    Calls Try.prog 43 #[v] w fun e w' => e = .returned (.string (textB xs)) ∧ Below w.heap.size w w' := by
  have h' := h
  obtain ⟨ao, cap, rfl, _⟩ := h
  have := refText7_walk ao xs.length cap (textB xs).size xs (fun k => joinB ((xs.map flatB).take k) ⟨#[38]⟩) (fun k => if k = 0 then ⟨#[]⟩ else joinB ((xs.map flatB).take k) ⟨#[38]⟩ ++ ⟨#[38]⟩) w h' hl
    (fun k => joinB_take_le _ _ k) rfl rfl (fun k hk => if_neg (by omega)) (fun k x hx => joinB_base _ _ (by rw [List.getElem?_map, hx]; rfl))
  rwa [List.take_of_length_le (by rw [List.length_map]; exact Nat.le_refl _)] at this
end Go.Proofs.Ytgffmbdbjbhocaa
