/- Packed texts: UtFieldsW, UtTexts. What each of them proves stands above its theorems; the conditions stand in these. -/
import Derived.Test.YtjdollmfjflkoaaGreatDoorB10
import Derived.Test.YtjdollmfjflkoaaGreatDoorB15
import Derived.Test.YtjdollmfjflkoaaGreatDoorB17
import Derived.Test.YtjdollmfjflkoaaGreatDoorB18
import Derived.Test.YtjdollmfjflkoaaGreatDoorB19
import Derived.Test.YtjdollmfjflkoaaGreatDoorB20
namespace Go.Proofs.YtjdollmfjflkoaaGreatDoor
open Go.RowKit Go.Lib

theorem strs_row {w : World} {A : Nat} {xs : List ByteArray} (h : RowW w A xs) (hl : xs.length ≤ 140737488355328) : Strs (.slice (some ⟨A, 0, none⟩) xs.length xs.length) xs w :=
  ⟨_, _, rfl, Nat.le_refl _, hl, fun j x hj => ⟨A, 0, rfl, lt_cell (h j x hj), by rw [Nat.zero_add]; exact h j x hj⟩⟩
end Go.Proofs.YtjdollmfjflkoaaGreatDoor
namespace Go.Proofs.YtjdollmfjflkoaaGreatDoor
open Go.RowKit Go.Lib

set_option maxHeartbeats 4000000 in
set_option maxRecDepth 20000 in
theorem utilTexts_walk (s : ByteArray) (hs : s.size ≤ 140737488351232) (t : ByteArray) (ht0 : t.size ≤ 140737488351232) (n : Int) (hn : -9223372036854775808 ≤ n ∧ n ≤ 9223372036854775807) (m : Int) (hm0 : -9223372036854775808 ≤ m ∧ m ≤ 9223372036854775807) (up : Bool) (w : World) (ht : Tab w) (hm : Mx13 w) :
    Calls Tryz.prog 3 #[.agg #[.string s, .string t, .int .i64 n, .int .i64 m, .bool up]] w fun e w' => e = .returned (.bool true) ∧ Below w.heap.size w w' := by
  have n0 : Below w.heap.size w (w.alloc (.cells #[.string s, .string t, .int .i64 n, .int .i64 m, .bool up] 23)) := (Below.refl _ w).alloc (Nat.le_refl _) _
  have HB0 := Lib.hid n0
  have HT := Lib.hid (ht.below n0)
  have HM0 := Lib.hid (hm.below n0)
  clear ht hm n0
  by_cases hl : (500 : Int) < (s.size : Int) + (t.size : Int)
  · go_enter Tryz.func3, Tryz.ntmps3
    go_wp2_with (first
      | (go_at_call 9; refine (shown13_any _ HT.out).mono ?_; rintro e w1 ⟨rfl, hb1⟩; have HB1 := Lib.hid (below_at HB0.out hb1 HB0.out.size); clear hb1))
    go_ret
    exact ⟨rfl, HB1.out⟩
  · obtain ⟨F, hF⟩ : ∃ F, fldB s.data.toList = F := ⟨_, rfl⟩
    obtain ⟨N, hN⟩ : ∃ N, F.length = N := ⟨_, rfl⟩
    have hlenF := (fieldsU_len s.data.toList).1
    rw [← size_eq, ← fldB_len, hF, hN] at hlenF
    have KF : Hid (∀ W : World, Calls Tryz.prog 11 #[.string s] W fun e w' => ∃ v, e = .returned v ∧ Strs v F w' ∧ Below W.heap.size W w') := Lib.hid (fun W => by
      have h := fieldsU_any s W (by omega)
      rw [hF] at h
      exact h.mono fun _ _ ⟨A, h1, h2, h3⟩ => ⟨_, h1, strs_row (fun j x hj => (h2 j x hj).2) (by omega), h3⟩)
    have KR : Hid (∀ W : World, Calls Tryz.prog 12 #[.string s] W fun e w' => ∃ v, e = .returned v ∧ Strs v F w' ∧ Below W.heap.size W w') := Lib.hid (fun W => hF ▸ refFieldsU_any s W (by omega))
    have KS : Hid (∀ (W : World) (u v : Value), Strs u F W → Strs v F W → Calls Tryz.prog 10 #[u, v] W fun e w' => e = .returned (.bool true) ∧ Below W.heap.size W w') := Lib.hid (fun W u v hu hv => by
      have h := refSameS_any u v F F W hu hv
      rw [show decide (F = F) = true by simp] at h
      exact h)
    obtain ⟨A, hA⟩ : ∃ A, ba (fieldU s.data.toList n) = A := ⟨_, rfl⟩
    obtain ⟨B, hB⟩ : ∃ B, ba (subU s.data.toList n m) = B := ⟨_, rfl⟩
    obtain ⟨C, hC⟩ : ∃ C, ba (caseU up s.data.toList) = C := ⟨_, rfl⟩
    obtain ⟨I, hI⟩ : ∃ I, indexU s.data.toList t.data.toList = I := ⟨_, rfl⟩
    obtain ⟨K, hK⟩ : ∃ K, knownU s.data.toList = K := ⟨_, rfl⟩
    have k1 : Hid (∀ W : World, Calls Tryz.prog 13 #[.string s, .int .i64 n] W fun e w' => e = .returned (.string A) ∧ Below W.heap.size W w') := Lib.hid (fun W => hA ▸ fieldU_any s n W (by omega))
    have k2 : Hid (∀ W : World, Calls Tryz.prog 14 #[.string s, .int .i64 n] W fun e w' => e = .returned (.string A) ∧ Below W.heap.size W w') := Lib.hid (fun W => hA ▸ refFieldU_any s n W (by omega))
    have k3 : Hid (∀ W : World, Calls Tryz.prog 15 #[.string s, .int .i64 n, .int .i64 m] W fun e w' => e = .returned (.string B) ∧ w' = W) := Lib.hid (fun W => hB ▸ subU_any s n m W (by omega) hn.1 hm0.2)
    have k4 : Hid (∀ W : World, Calls Tryz.prog 16 #[.string s, .int .i64 n, .int .i64 m] W fun e w' => e = .returned (.string B) ∧ w' = W) := Lib.hid (fun W => hB ▸ refSubU_any s n m W (by omega) hn hm0)
    have k5 : Hid (∀ W : World, Mx13 W → Calls Tryz.prog 17 #[.string s, .string t] W fun e w' => e = .returned (.int .i64 I) ∧ w' = W) := Lib.hid (fun W h => hI ▸ indexU_any s t W (by omega) h)
    have k6 : Hid (∀ W : World, Calls Tryz.prog 18 #[.string s, .string t] W fun e w' => e = .returned (.int .i64 I) ∧ w' = W) := Lib.hid (fun W => hI ▸ refIndexU_any s t W (by omega) (by omega))
    have k7 : Hid (∀ W : World, Calls Tryz.prog 19 #[.string s, .bool up] W fun e w' => e = .returned (.string C) ∧ Below W.heap.size W w') := Lib.hid (fun W => hC ▸ caseU_any up s W (by omega))
    have k8 : Hid (∀ W : World, Calls Tryz.prog 20 #[.string s, .bool up] W fun e w' => e = .returned (.string C) ∧ Below W.heap.size W w') := Lib.hid (fun W => hC ▸ refCaseU_any up s W (by omega))
    have k9 : Hid (∀ W : World, Calls Tryz.prog 21 #[.string s] W fun e w' => e = .returned (.bool K) ∧ Below W.heap.size W w') := Lib.hid (fun W => hK ▸ knownU_any s W (by unfold maxLen; omega))
    have k10 : Hid (∀ W : World, Calls Tryz.prog 22 #[.string s] W fun e w' => e = .returned (.bool K) ∧ w' = W) := Lib.hid (fun W => hK ▸ refKnownU_any s W)
    clear hF hN hlenF hA hB hC hI hK hn hm0
    go_enter Tryz.func3, Tryz.ntmps3
    go_wp2_with (first
      | (go_at_call 9; refine (shown13_any _ HT.out).mono ?_; rintro e w1 ⟨rfl, hb1⟩; have HB1 := Lib.hid (below_at HB0.out hb1 HB0.out.size); have HM := Lib.hid (HM0.out.below hb1); clear hb1)
      | (go_at_call 11; refine (KF.out _).mono ?_; rintro e w2 ⟨v, rfl, hv, hb1⟩; have HV := Lib.hid hv; have HB1 := Lib.hid (below_at HB1.out hb1 HB1.out.size); have HM := Lib.hid (HM.out.below hb1); clear hb1 hv)
      | (go_at_call 12; refine (KR.out _).mono ?_; rintro e w2 ⟨v2, rfl, hv, hb1⟩; have HV2 := Lib.hid hv; have HV := Lib.hid (HV.out.below hb1); have HB1 := Lib.hid (below_at HB1.out hb1 HB1.out.size); have HM := Lib.hid (HM.out.below hb1); clear hb1 hv)
      | (go_at_call 10; refine (KS.out _ _ _ HV.out HV2.out).mono ?_; rintro e w2 ⟨rfl, hb1⟩; have HB1 := Lib.hid (below_at HB1.out hb1 HB1.out.size); have HM := Lib.hid (HM.out.below hb1); clear hb1)
      | (go_at_call 13; refine (k1.out _).mono ?_; rintro e w2 ⟨rfl, hb1⟩; have HB1 := Lib.hid (below_at HB1.out hb1 HB1.out.size); have HM := Lib.hid (HM.out.below hb1); clear hb1)
      | (go_at_call 14; refine (k2.out _).mono ?_; rintro e w2 ⟨rfl, hb1⟩; have HB1 := Lib.hid (below_at HB1.out hb1 HB1.out.size); have HM := Lib.hid (HM.out.below hb1); clear hb1)
      | (go_at_call 15; refine (k3.out _).mono ?_; rintro e w2 ⟨rfl, rfl⟩)
      | (go_at_call 16; refine (k4.out _).mono ?_; rintro e w2 ⟨rfl, rfl⟩)
      | (go_at_call 17; refine (k5.out _ HM.out).mono ?_; rintro e w2 ⟨rfl, rfl⟩)
      | (go_at_call 18; refine (k6.out _).mono ?_; rintro e w2 ⟨rfl, rfl⟩)
      | (go_at_call 19; refine (k7.out _).mono ?_; rintro e w2 ⟨rfl, hb1⟩; have HB1 := Lib.hid (below_at HB1.out hb1 HB1.out.size); have HM := Lib.hid (HM.out.below hb1); clear hb1)
      | (go_at_call 20; refine (k8.out _).mono ?_; rintro e w2 ⟨rfl, hb1⟩; have HB1 := Lib.hid (below_at HB1.out hb1 HB1.out.size); have HM := Lib.hid (HM.out.below hb1); clear hb1)
      | (go_at_call 21; refine (k9.out _).mono ?_; rintro e w2 ⟨rfl, hb1⟩; have HB1 := Lib.hid (below_at HB1.out hb1 HB1.out.size); have HM := Lib.hid (HM.out.below hb1); clear hb1)
      | (go_at_call 22; refine (k10.out _).mono ?_; rintro e w2 ⟨rfl, rfl⟩))
    go_ret
    exact ⟨rfl, HB1.out⟩
end Go.Proofs.YtjdollmfjflkoaaGreatDoor
