/- The statement ValueNumbers, walked. Condition: the library's table of powers of ten holds what its text lays. -/
import Derived.Test.YtokfkckfclnoaaaDoorValReckonsWalk
namespace Go.Proofs.YtokfkckfclnoaaaDoor
open Go.RowKit

theorem numbers_walk0 (n x _y : Int) (m : Nat) (z : Bool) (T : Nat → ByteArray) (X : ByteArray) (w : World) (ht : Tab w) (hz : ((n : Int) != 0) = z) (hm : m < 4) (hy : x % 4 = (m : Int)) (hy2 : x.tmod 4 = (m : Int)) (_hx : 0 ≤ x ∧ x ≤ 255)
    (HP : Hid (∀ k, k ≤ 3 → (T k).size ≤ 100 ∧ ((⟨#[32]⟩ : ByteArray) ++ T k) ++ ⟨#[9]⟩ = T (k + 1))) (hX : T m ++ ⟨#[120]⟩ = X)
    (c1 : Calls Tryd.prog 33 #[] w fun e w' => e = .returned (.bool true) ∧ Below w.heap.size w w')
    (k1 : ∀ w, Tab w → Calls Tryd.prog 15 #[.int .i64 n] w fun e w' => e = .returned (.string (T 0)) ∧ Below w.heap.size w w')
    (k2 : ∀ w, Calls Tryd.prog 34 #[.string (T m)] w fun e w' => e = .returned (.tuple #[.int .i64 n, .bool true]) ∧ Below w.heap.size w w')
    (k3 : ∀ w, Calls Tryd.prog 34 #[.string X] w fun e w' => e = .returned (.tuple #[.int .i64 0, .bool false]) ∧ Below w.heap.size w w')
    (k4 : ∀ w, Calls Tryd.prog 36 #[.string X] w fun e w' => e = .returned (.tuple #[.int .i64 n, .int .i64 0]) ∧ Below w.heap.size w w')
    (k5 : ∀ w, Calls Tryd.prog 40 #[.string (T m)] w fun e w' => e = .returned (.bool z) ∧ Below w.heap.size w w')
    (k6 : ∀ w, Calls Tryd.prog 44 #[.string (T 0), .string (T m)] w fun e w' => e = .returned (.int .i64 0) ∧ Below w.heap.size w w') :
    Calls Tryd.prog 9 #[.int .i64 n, .int .u8 x] w fun e w' => e = .returned (.bool true) ∧ Below w.heap.size w w' := by
  have HT := Lib.hid ht
  have HX := Lib.hid hX
  have HZ := Lib.hid hz
  have HM := Lib.hid (And.intro hm (And.intro hy hy2))
  clear ht hX hz hm hy hy2
  go_enter Tryd.func9, Tryd.ntmps9
  go_wp2_with (first
    | (go_at_call 33; refine c1.mono ?_; rintro e w1 ⟨rfl, hb1⟩)
    | (go_at_call 15; refine (k1 _ (HT.out.below hb1)).mono ?_; rintro e w2 ⟨rfl, hb2⟩; have HB2 := below_at hb1 hb2 hb1.size))
  go_loop [7, 8] (fun t i => ∃ k : Nat, k ≤ m ∧ t = .string (T k) ∧ i = .int .i64 (k : Int)) (fun _ i => 5 - (intOf i).toNat)
  case atStart => exact ⟨0, Nat.zero_le _, rfl, rfl⟩
  case round =>
    obtain ⟨k, hk, rfl, rfl⟩ := hrel
    obtain ⟨hm, hy, hy2⟩ := HM.out
    have hwk : wrap64 ((k : Int) + 1) = (k : Int) + 1 := by rw [wrap64_eq]; omega
    by_cases hlt : k < m
    · obtain ⟨p1, p2⟩ := HP.out k (by omega)
      have z1 : ¬ 9223372036854775807 < 1 + (T k).size := by omega
      have z2 : ¬ 9223372036854775807 < 1 + (T k).size + 1 := by omega
      have HL := Lib.hid (And.intro hlt hm)
      go_wp2
      go_round
      case rel => exact ⟨k + 1, HL.out.1, rfl, by go_num⟩
      case measure => simp only [intOf]; have := HL.out; omega
    · obtain rfl : k = m := by omega
      obtain ⟨p1, _⟩ := HP.out k (by omega)
      have hX := HX.out
      have hz := HZ.out
      have z1 : ¬ 9223372036854775807 < (T k).size + 1 := by omega
      clear hm hlt
      go_wp2_with (first
        | (go_at_call 34; (with_reducible refine (k2 _).mono ?_); rintro e w3 ⟨rfl, hb3⟩; have HB3 := below_at HB2 hb3 HB2.size)
        | (go_at_call 34; (with_reducible refine (k3 _).mono ?_); rintro e w4 ⟨rfl, hb4⟩; have HB4 := below_at HB3 hb4 HB3.size)
        | (go_at_call 36; (with_reducible refine (k4 _).mono ?_); rintro e w5 ⟨rfl, hb5⟩; have HB5 := below_at HB4 hb5 HB4.size)
        | (go_at_call 40; (with_reducible refine (k5 _).mono ?_); rintro e w6 ⟨rfl, hb6⟩; have HB6 := below_at HB5 hb6 HB5.size)
        | (go_at_call 44; (with_reducible refine (k6 _).mono ?_); rintro e w7 ⟨rfl, hb7⟩; have HB7 := below_at HB6 hb7 HB6.size))
      all_goals
        go_ret
        exact ⟨by first | rfl | (cases z <;> simp_all), HB7⟩
theorem valueNumbers_walk (n : Int) (hn : -9223372036854775808 ≤ n ∧ n ≤ 9223372036854775807) (c : UInt8) (w : World) (ht : Tab w) :
    Calls Tryd.prog 9 #[.int .i64 n, .int .u8 (c.toNat : Int)] w fun e w' => e = .returned (.bool true) ∧ Below w.heap.size w w' := by
  have hcl := c.toNat_lt
  have htl := text_len n hn
  have hL : ∀ k, (List.replicate k (32 : UInt8) ++ textL n ++ List.replicate k 9).length = k + (textL n).length + k := by intro k; simp only [List.length_append, List.length_replicate]
  have hT0 : (ba (List.replicate 0 (32 : UInt8) ++ textL n ++ List.replicate 0 9)) = ba (textL n) := by simp
  refine numbers_walk0 n (c.toNat : Int) 0 (c.toNat % 4) (!(n == 0)) (fun k => ba (List.replicate k 32 ++ textL n ++ List.replicate k 9)) (ba (List.replicate (c.toNat % 4) 32 ++ textL n ++ List.replicate (c.toNat % 4) 9 ++ [120])) w ht rfl (Nat.mod_lt _ (by decide))
    (by omega) (by rw [Int.tmod_eq_emod_of_nonneg (by omega)]; omega) (by omega) ?_ (ba_append _ _) (shownV_any w) ?_ ?_ ?_ ?_ ?_ ?_
  · intro k hk
    refine ⟨by show (ba _).size ≤ 100; rw [ba_len, hL]; omega, ?_⟩
    show (ba [32] ++ ba _) ++ ba [9] = ba _
    rw [ba_append, ba_append]
    congr 1
    rw [List.replicate_succ, List.replicate_succ']
    simp
  · intro w ht
    rw [hT0]
    exact text_ba n w hn ht
  · intro w
    have := looks_any (ba (List.replicate (c.toNat % 4) 32 ++ textL n ++ List.replicate (c.toNat % 4) 9)) w (by rw [ba_len, hL]; omega)
    unfold looksE at this
    rw [ba_list, looks_text n _ _ hn] at this
    exact this
  · intro w
    have := looks_any (ba (List.replicate (c.toNat % 4) 32 ++ textL n ++ List.replicate (c.toNat % 4) 9 ++ [120])) w (by rw [ba_len, List.length_append, hL]; show _ + 1 ≤ _; omega)
    unfold looksE at this
    rw [ba_list, (looks_x n _ _ hn).1] at this
    exact this
  · intro w
    have := numberV_any (ba (List.replicate (c.toNat % 4) 32 ++ textL n ++ List.replicate (c.toNat % 4) 9 ++ [120])) w (by rw [ba_len, List.length_append, hL]; show _ + 1 ≤ _; omega)
    unfold numberE at this
    rw [ba_list, (looks_x n _ _ hn).2] at this
    exact this
  · intro w
    have := truth_any (ba (List.replicate (c.toNat % 4) 32 ++ textL n ++ List.replicate (c.toNat % 4) 9)) w (by rw [ba_len, hL]; omega)
    rw [ba_list] at this
    unfold truthD at this
    rw [looks_text n _ _ hn] at this
    exact this
  · intro w
    rw [hT0]
    have := compare_any (ba (textL n)) (ba (List.replicate (c.toNat % 4) 32 ++ textL n ++ List.replicate (c.toNat % 4) 9)) w (by have := ba_small n hn; omega) (by rw [ba_len, hL]; omega)
    rw [ba_list, ba_list] at this
    unfold compareD at this
    rw [looks_text n _ _ hn, looks_text0 n hn] at this
    simp only [Bool.and_self, if_true] at this
    rw [cmpI_self] at this
    exact this
end Go.Proofs.YtokfkckfclnoaaaDoor
