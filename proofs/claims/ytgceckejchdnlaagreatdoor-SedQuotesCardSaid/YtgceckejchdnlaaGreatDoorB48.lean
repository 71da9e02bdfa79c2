/- Packed texts: SedQuotesWalk. What each of them proves stands above its theorems; the conditions stand in these. -/
import Derived.Test.YtgceckejchdnlaaGreatDoorB43
namespace Go.Proofs.YtgceckejchdnlaaGreatDoor
open Go.RowKit Go.Lib

theorem count_next (T : ByteArray) (k : Nat) (h : k < T.size) : (T.data.toList.take (k + 1)).countP (· == 10) = (T.data.toList.take k).countP (· == 10) + (if T[k] = 10 then 1 else 0) := by
  rw [take_snoc T k h, List.countP_append]
  congr 1
  by_cases h10 : T[k] = 10
  · rw [if_pos h10, h10]; rfl
  · rw [if_neg h10]
    simp [h10]
set_option maxHeartbeats 2000000 in
set_option maxRecDepth 20000 in
theorem quotes_out (s : ByteArray) (w : World) (hs : s.size ≤ 140737488351232) (h : 1500 < s.size) :
    Calls Tryz.prog 4 #[.string s] w fun e w' => e = .returned (.bool true) ∧ Below w.heap.size w w' := by
  have kS := shown8_any w
  have hd : decide ((1500 : Int) < (s.size : Int)) = true := by simp; omega
  go_enter Tryz.func4, Tryz.ntmps4
  go_wp2_with (go_at_call 5; refine kS.mono ?_; rintro e w1 ⟨rfl, hb1⟩)
  exact bodyPost_ret (results_tmp rfl _ _ _) rfl ⟨rfl, hb1⟩
set_option maxHeartbeats 2000000 in
set_option maxRecDepth 20000 in
theorem quotes_bad (s : ByteArray) (x : Int) (w : World) (h : s.size ≤ 1500) (hx : (x == 0) = false)
    (k1 : ∀ w, Calls Tryz.prog 6 #[.string s] w fun e w' => e = .returned (.tuple #[.slice none 0 0, .int .i64 x]) ∧ Below w.heap.size w w') :
    Calls Tryz.prog 4 #[.string s] w fun e w' => e = .returned (.bool true) ∧ Below w.heap.size w w' := by
  have kS := shown8_any w
  have hd : decide ((1500 : Int) < (s.size : Int)) = false := by simp; omega
  have hx2 : (x != 0) = true := by rw [bne_iff_ne]; intro h; rw [h] at hx; cases hx
  clear hx
  go_enter Tryz.func4, Tryz.ntmps4
  go_wp2_with fail
  refine kS.mono ?_
  rintro e w1 ⟨rfl, hb1⟩
  go_wp2_with fail
  refine (k1 w1).mono ?_
  rintro e w2 ⟨rfl, hb2⟩
  have HB := Lib.hid (hb1.trans (hb2.mono hb1.size))
  go_wp2_with fail
  exact bodyPost_ret (results_tmp rfl _ _ _) rfl ⟨rfl, HB.out⟩
set_option maxHeartbeats 2000000 in
set_option maxRecDepth 20000 in
theorem quotes_none (s : ByteArray) (w : World) (h : s.size ≤ 1500)
    (k1 : ∀ w, Calls Tryz.prog 6 #[.string s] w fun e w' => (∃ v, e = .returned (.tuple #[v, .int .i64 0]) ∧ ScrS w.heap.size [] v w') ∧ Below w.heap.size w w') :
    Calls Tryz.prog 4 #[.string s] w fun e w' => e = .returned (.bool true) ∧ Below w.heap.size w w' := by
  have kS := shown8_any w
  have hd : decide ((1500 : Int) < (s.size : Int)) = false := by simp; omega
  go_enter Tryz.func4, Tryz.ntmps4
  go_wp2_with fail
  refine kS.mono ?_
  rintro e w1 ⟨rfl, hb1⟩
  go_wp2_with fail
  refine (k1 w1).mono ?_
  rintro e w2 ⟨⟨v, rfl, hs2⟩, hb2⟩
  obtain ⟨ao, cap, rfl⟩ := hs2.shape
  have HB := Lib.hid (hb1.trans (hb2.mono hb1.size))
  clear k1 hs2 hb1 hb2
  go_wp2_with fail
  exact bodyPost_ret (results_tmp rfl _ _ _) rfl ⟨rfl, HB.out⟩
set_option maxHeartbeats 8000000 in
set_option maxRecDepth 20000 in
theorem quotes_in (s : ByteArray) (cs : List Cm) (w : World) (ht : Tab w) (h : s.size ≤ 1500) (hr : Rdy s.data.toList cs) (hne : cs ≠ [])
    (k1 : ∀ w, Calls Tryz.prog 6 #[.string s] w fun e w' => (∃ v, e = .returned (.tuple #[v, .int .i64 0]) ∧ ScrS w.heap.size cs v w') ∧ Below w.heap.size w w') :
    Calls Tryz.prog 4 #[.string s] w fun e w' => e = .returned (.bool true) ∧ Below w.heap.size w w' := by
  have kS := shown8_any w
  have hd : decide ((1500 : Int) < (s.size : Int)) = false := by simp; omega
  have hz : s.data.toList.length = s.size := Array.length_toList
  have hlen := hr.len
  have kT := fun B v w (ht : Tab w) (h1 : ScrS B cs v w) => text8_any B _ cs v w ht h1 hr
  have hbare := text_bare hr.good hne
  have hsz := sc_len cs hr.cms
  obtain ⟨T, hT⟩ : ∃ T : ByteArray, T = ⟨(scT cs).toArray⟩ := ⟨_, rfl⟩
  have hTl : T.data.toList = scT cs := by rw [hT]
  have hTz : T.size = (scT cs).length := by rw [hT]; show (scT cs).toArray.size = _; rw [List.size_toArray]
  rw [← hTl] at hbare
  rw [← hTz] at hsz
  rw [← hT] at kT
  have hno : ∀ (k : Nat) (h : k < T.size), T[k] ≠ 39 := fun k hk => hbare.1 _ (by show T.data[k] ∈ _; exact Array.getElem_mem_toList _)
  have hall : T.data.toList.take T.size = T.data.toList := List.take_of_length_le (by rw [Array.length_toList]; exact Nat.le_refl _)
  obtain ⟨n, hn⟩ : ∃ n, n = cs.length := ⟨_, rfl⟩
  have hn0 : 1 ≤ n := by have := List.length_pos_iff.2 hne; omega
  have hcn : (T.data.toList.take T.size).countP (· == 10) = n - 1 := by rw [hall, hbare.2, hn]
  have HK := Lib.hid (And.intro kT (And.intro hno hcn))
  have HN := Lib.hid hn
  have HT := Lib.hid ht
  have hTm : T.size ≤ 140737488355328 := by omega
  have hn9 : n ≤ 1000000 := by omega
  have hq0 : ((n : Int) == 0) = false := by rw [beq_eq_false_iff_ne]; omega
  clear hr hz hlen kT hbare hsz hT hTl hTz hno hall hn hcn ht h hne
  go_enter Tryz.func4, Tryz.ntmps4
  go_wp2_with fail
  refine kS.mono ?_
  rintro e w1 ⟨rfl, hb1⟩
  go_wp2_with fail
  refine (k1 w1).mono ?_
  rintro e w2 ⟨⟨v, rfl, hs2⟩, hb2⟩
  obtain ⟨ao, cap, rfl⟩ := hs2.shape
  rw [← HN.out] at hs2 ⊢
  have HW := Lib.hid (hb1.trans (hb2.mono hb1.size))
  have kt := HK.out.1 _ _ w2 (HT.out.below HW.out) hs2
  clear k1 hs2 hb1 hb2
  go_wp2_with (go_at_call 7; refine kt.mono ?_; rintro e w3 ⟨rfl, hb3⟩; have HW3 := Lib.hid (HW.out.trans (hb3.mono HW.out.size)); clear hb3)
  clear kt
  go_loopw [7, 8] (fun c i wr => ∃ k : Nat, k ≤ T.size ∧ i = .int .i64 k ∧ c = .int .i64 ((T.data.toList.take k).countP (· == 10) : Nat) ∧ wr = w3) (fun _ i _ => T.size - (RowKit.intOf i).toNat)
  case atStart => exact ⟨0, Nat.zero_le _, rfl, rfl, rfl⟩
  case round =>
    obtain ⟨k, hk, rfl, rfl, rfl⟩ := hrel
    by_cases hlt : k < T.size
    · have hltI : (k : Int) < (T.size : Int) := by omega
      have hcx := count_next T k hlt
      have h39 := HK.out.2.1 k hlt
      have hle : (T.data.toList.take k).countP (· == 10) ≤ k := Nat.le_trans List.countP_le_length (List.length_take_le _ _)
      obtain ⟨m, hm⟩ : ∃ m, m = (T.data.toList.take k).countP (· == 10) := ⟨_, rfl⟩
      rw [← hm] at hcx hle ⊢
      have e39 : ((T[k].toNat : Int) == 39) = false := ne_byte (d := 39) h39
      by_cases h10 : T[k] = 10
      · have e10 : ((T[k].toNat : Int) == 10) = true := by rw [h10]; rfl
        rw [if_pos h10] at hcx
        have HC := Lib.hid hcx
        clear hcx h39 hm h10
        go_wp2_with fail
        go_roundw
        case rel => exact ⟨k + 1, by omega, by go_num, by rw [HC.out]; go_num, trivial⟩
        case measure => simp [RowKit.intOf]; omega
      · have e10 : ((T[k].toNat : Int) == 10) = false := ne_byte (d := 10) h10
        rw [if_neg h10] at hcx
        have HC := Lib.hid hcx
        clear hcx h39 hm h10
        go_wp2_with fail
        go_roundw
        case rel => exact ⟨k + 1, by omega, by go_num, by rw [HC.out]; rfl, trivial⟩
        case measure => simp [RowKit.intOf]; omega
    · obtain rfl : k = T.size := by omega
      rw [HK.out.2.2]
      have hsub : ((n - 1 : Nat) : Int) = (n : Int) - 1 := by omega
      rw [hsub]
      have hI : IntKind.i64.wrap ((n : Int) - 1) = (n : Int) - 1 := IntWalk.i64_in _ (by omega)
      clear hsub
      go_wp2_with fail
      exact bodyPost_ret (results_tmp rfl _ _ _) rfl ⟨by simp, HW3.out⟩
/-- The law's walk. -/
theorem sedQuotes_walk (s : ByteArray) (hs : s.size ≤ 140737488351232) (w : World) (ht : Tab w) :
    Calls Tryz.prog 4 #[.string s] w fun e w' => e = .returned (.bool true) ∧ Below w.heap.size w w' := by
  by_cases h : 1500 < s.size
  · exact quotes_out s w hs h
  · have hz : s.data.toList.length = s.size := Array.length_toList
    have k1 := fun w => read8_any s w (by omega)
    cases hr : sedR s.data.toList with
    | bad x =>
      rw [hr] at k1
      exact quotes_bad s x w (by omega) (sedR_bad0 hr) k1
    | ok cs =>
      rw [hr] at k1
      by_cases hne : cs = []
      · subst hne
        exact quotes_none s w (by omega) k1
      · exact quotes_in s cs w ht (by omega) (sedR_ok hr) hne k1
end Go.Proofs.YtgceckejchdnlaaGreatDoor
