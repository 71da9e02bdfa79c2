/- The statement DecSigns, walked. Condition: the library's table of powers of ten holds what its text lays. -/
import Derived.Test.YtbogojecnonepaaDoorDecShown
namespace Go.Proofs.YtbogojecnonepaaDoor
open Go.RowKit

/-- What the walk needs of the two texts. -/
def TextsTurn (a : Int) (S T : ByteArray) : Prop :=
  (0 < a ∧ (⟨#[45]⟩ : ByteArray) ++ S = T) ∨ (a < 0 ∧ (⟨#[45]⟩ : ByteArray) ++ T = S) ∨ (a = 0 ∧ S = T)
theorem texts_turn (a : Int) : TextsTurn a (ba (textL a)) (ba (textL (-a))) := by
  have h45 : ∀ l, (⟨#[45]⟩ : ByteArray) ++ ba l = ba (45 :: l) := fun l => ba_append [45] l
  unfold TextsTurn
  rw [h45, h45]
  have hn : (-a).natAbs = a.natAbs := Int.natAbs_neg a
  rcases Int.lt_trichotomy a 0 with h | h | h
  · refine .inr (.inl ⟨h, ?_⟩)
    unfold textL
    rw [hn, if_neg (by omega), if_pos h]
  · subst h; exact .inr (.inr ⟨rfl, rfl⟩)
  · refine .inl ⟨h, ?_⟩
    unfold textL
    rw [hn, if_neg (by omega), if_pos (by omega)]
theorem frac_le_text (n : Int) (hn : -9223372036854775808 ≤ n ∧ n ≤ 9223372036854775807) : (textL n).length ≤ 40 := by
  have h1 := decDigits_len (n.natAbs / 1000000) (by omega)
  have h2 : (stripZ (frac 6 (n.natAbs % 1000000))).length ≤ 6 := by
    obtain ⟨k, hk, _⟩ := stripZ_fill (frac 6 (n.natAbs % 1000000))
    have := congrArg List.length hk
    rw [frac_length, List.length_append] at this
    omega
  have h3 : (textU n.natAbs).length ≤ 30 := by
    unfold textU
    split
    · rw [List.append_nil]; omega
    · rw [List.length_append, List.length_cons]; omega
  unfold textL
  split
  · rw [List.length_cons]; omega
  · omega

set_option maxHeartbeats 4000000 in
theorem decSigns_walk (a : Int) (ha : -9223372036854775808 ≤ a ∧ a ≤ 9223372036854775807) (b : Int) (hb : -9223372036854775808 ≤ b ∧ b ≤ 9223372036854775807) (w : World) (ht : Tab w) :
    Calls Tryd.prog 9 #[.int .i64 a, .int .i64 b] w fun e w' => e = .returned (.bool true) ∧ Below w.heap.size w w' := by
  have c1 := shown_any w ht
  by_cases hbad : a = -9223372036854775808 ∨ b = -9223372036854775808
  · have hq : (((a : Int) == -9223372036854775808) || ((b : Int) == -9223372036854775808)) = true := by
      rcases hbad with h | h
      · rw [h]; rfl
      · rw [h, Bool.or_eq_true]; exact .inr rfl
    have hq2 : ((a : Int) == -9223372036854775808) = true ∨ (((a : Int) == -9223372036854775808) = false ∧ ((b : Int) == -9223372036854775808) = true) := by
      cases h : ((a : Int) == -9223372036854775808)
      · rw [h, Bool.false_or] at hq; exact .inr ⟨rfl, hq⟩
      · exact .inl rfl
    clear ha hb hbad hq
    rcases hq2 with hq | ⟨hq, hq3⟩
    all_goals
      go_enter Tryd.func9, Tryd.ntmps9
      go_wp2_with (first | (go_at_call 12; with_reducible refine c1.mono ?_; rintro e w1 ⟨rfl, hb1⟩))
      all_goals
        go_ret
        exact ⟨rfl, hb1⟩
  · have hna : ((a : Int) == -9223372036854775808) = false := beq_eq_false_iff_ne.2 (fun h => hbad (.inl h))
    have hnb : ((b : Int) == -9223372036854775808) = false := beq_eq_false_iff_ne.2 (fun h => hbad (.inr h))
    have ha2 : a ≠ -9223372036854775808 := fun h => hbad (.inl h)
    have hb2 : b ≠ -9223372036854775808 := fun h => hbad (.inr h)
    have hwa : wrap64 (-a) = -a := by rw [wrap64_eq]; omega
    have hwb : wrap64 (-b) = -b := by rw [wrap64_eq]; omega
    have hma : -9223372036854775808 ≤ -a ∧ -a ≤ 9223372036854775807 := by omega
    have hmb : -9223372036854775808 ≤ -b ∧ -b ≤ 9223372036854775807 := by omega
    have t1 := fun w ht => text_any a w ha ht
    have t2 := fun w ht => text_any (-a) w hma ht
    have hst := texts_turn a
    have s1 : (ba (textL a)).size ≤ 40 := by rw [ba_len]; exact frac_le_text a ha
    have s2 : (ba (textL (-a))).size ≤ 40 := by rw [ba_len]; exact frac_le_text (-a) hma
    have m1 := fun w => mul_any a b w ha hb
    have m2 := fun w => mul_any (-a) b w hma hb
    have hneg : (-a * b).tdiv 1000000 = -((a * b).tdiv 1000000) := by rw [Int.neg_mul, Int.neg_tdiv]
    rw [hneg] at m2
    have d1 : ∀ h0 : b ≠ 0, ∀ w, _ := fun h0 w => div_any a b w ha hb h0
    have d2 : ∀ h0 : b ≠ 0, ∀ w, _ := fun h0 w => div_any (-a) (-b) w hma hmb (by omega)
    have hdd : (-a * 1000000).tdiv (-b) = (a * 1000000).tdiv b := by rw [Int.neg_mul, Int.neg_tdiv, Int.tdiv_neg, Int.neg_neg]
    rw [hdd] at d2
    clear hbad hneg hdd ha2 hb2 hma hmb
    have hS : str (textL a) = .string (ba (textL a)) := rfl
    have hT : str (textL (-a)) = .string (ba (textL (-a))) := rfl
    rw [hS] at t1
    rw [hT] at t2
    clear hS hT
    generalize ba (textL a) = S at *
    generalize ba (textL (-a)) = T at *
    have z1 : ¬ 9223372036854775807 < 1 + S.size := by omega
    have z2 : ¬ 9223372036854775807 < 1 + T.size := by omega
    clear s1 s2
    have HT := Lib.hid ht
    have hX : ∃ x : Int, ((-9223372036854775808 ≤ x ∧ x ≤ 9223372036854775807) ∧ (-9223372036854775808 ≤ -x ∧ -x ≤ 9223372036854775807) ∨ (-9223372036854775808 ≤ x ∧ x ≤ 9223372036854775807) ∧ ¬ (-9223372036854775808 ≤ -x ∧ -x ≤ 9223372036854775807) ∨ ¬ (-9223372036854775808 ≤ x ∧ x ≤ 9223372036854775807)) ∧ (a * b).tdiv 1000000 = x := ⟨_, by omega, rfl⟩
    obtain ⟨x, hX, hxe⟩ := hX
    rw [hxe] at m1 m2
    by_cases h0 : b = 0
    · subst h0
      have hx0 : x = 0 := by rw [← hxe]; simp
      rw [hx0, intoE_in (by omega)] at m1
      rw [hx0, Int.neg_zero, intoE_in (by omega)] at m2
      have d1 := fun w => div_zero a w
      have d2 := fun w => div_zero (-a) w
      clear hX hxe hx0 ht ha hb hwb hnb
      unfold TextsTurn at hst
      rcases hst with ⟨p1, p2⟩ | ⟨p1, p2⟩ | ⟨p1, p2⟩
      · skip
        go_enter Tryd.func9, Tryd.ntmps9
        go_wp2_with (first
          | (go_at_call 12; with_reducible refine c1.mono ?_; rintro e w1 ⟨rfl, hb1⟩)
          | (go_at_call 15; first | (with_reducible refine (t1 _ (HT.out.below hb1)).mono ?_; rintro e w2 ⟨rfl, hb2⟩; have HB2 := below_at hb1 hb2 hb1.size) | (with_reducible refine (t2 _ (HT.out.below HB2)).mono ?_; rintro e w3 ⟨rfl, hb3⟩; have HB3 := below_at HB2 hb3 HB2.size))
          | (go_at_call 21; first | (with_reducible refine (m1 _).mono ?_; rintro e w4 ⟨rfl, hb4⟩; have HB4 := below_at HB3 hb4 HB3.size) | (with_reducible refine (m2 _).mono ?_; rintro e w5 ⟨rfl, hb5⟩; have HB5 := below_at HB4 hb5 HB4.size))
          | (go_at_call 23; first | (with_reducible refine (d1 _).mono ?_; rintro e w6 ⟨rfl, hb6⟩; have HB6 := below_at HB5 hb6 HB5.size) | (with_reducible refine (d2 _).mono ?_; rintro e w7 ⟨rfl, hb7⟩; have HB7 := below_at HB6 hb7 HB6.size)))
        all_goals
          go_ret
          exact ⟨rfl, HB7⟩
      · have p3 : ¬ 0 < a := by omega
        go_enter Tryd.func9, Tryd.ntmps9
        go_wp2_with (first
          | (go_at_call 12; with_reducible refine c1.mono ?_; rintro e w1 ⟨rfl, hb1⟩)
          | (go_at_call 15; first | (with_reducible refine (t1 _ (HT.out.below hb1)).mono ?_; rintro e w2 ⟨rfl, hb2⟩; have HB2 := below_at hb1 hb2 hb1.size) | (with_reducible refine (t2 _ (HT.out.below HB2)).mono ?_; rintro e w3 ⟨rfl, hb3⟩; have HB3 := below_at HB2 hb3 HB2.size))
          | (go_at_call 21; first | (with_reducible refine (m1 _).mono ?_; rintro e w4 ⟨rfl, hb4⟩; have HB4 := below_at HB3 hb4 HB3.size) | (with_reducible refine (m2 _).mono ?_; rintro e w5 ⟨rfl, hb5⟩; have HB5 := below_at HB4 hb5 HB4.size))
          | (go_at_call 23; first | (with_reducible refine (d1 _).mono ?_; rintro e w6 ⟨rfl, hb6⟩; have HB6 := below_at HB5 hb6 HB5.size) | (with_reducible refine (d2 _).mono ?_; rintro e w7 ⟨rfl, hb7⟩; have HB7 := below_at HB6 hb7 HB6.size)))
        all_goals
          go_ret
          exact ⟨rfl, HB7⟩
      · subst p1; subst p2
        rw [Int.neg_zero] at t2 m2 d2
        go_enter Tryd.func9, Tryd.ntmps9
        go_wp2_with (first
          | (go_at_call 12; with_reducible refine c1.mono ?_; rintro e w1 ⟨rfl, hb1⟩)
          | (go_at_call 15; first | (with_reducible refine (t2 _ (HT.out.below HB2)).mono ?_; rintro e w3 ⟨rfl, hb3⟩; have HB3 := below_at HB2 hb3 HB2.size) | (with_reducible refine (t1 _ (HT.out.below hb1)).mono ?_; rintro e w2 ⟨rfl, hb2⟩; have HB2 := below_at hb1 hb2 hb1.size))
          | (go_at_call 21; first | (have HBQ := HB4; with_reducible refine (m2 _).mono ?_; rintro e w5 ⟨rfl, hb5⟩; have HB5 := below_at HB4 hb5 HB4.size) | (with_reducible refine (m1 _).mono ?_; rintro e w4 ⟨rfl, hb4⟩; have HB4 := below_at HB3 hb4 HB3.size))
          | (go_at_call 23; first | (have HBQ := HB6; with_reducible refine (d2 _).mono ?_; rintro e w7 ⟨rfl, hb7⟩; have HB7 := below_at HB6 hb7 HB6.size) | (with_reducible refine (d1 _).mono ?_; rintro e w6 ⟨rfl, hb6⟩; have HB6 := below_at HB5 hb6 HB5.size)))
        all_goals
          go_ret
          exact ⟨rfl, HB7⟩
    · have h00 : ((b : Int) == 0) = false := beq_eq_false_iff_ne.2 h0
      have d1 := d1 h0
      have d2 := d2 h0
      obtain ⟨g, e, hg, he⟩ : ∃ g e : Int, intoE ((a * 1000000).tdiv b) = .returned (.tuple #[.int .i64 g, .int .i64 e]) ∧ (e = 0 ∨ e = 3) := by
        by_cases h : -9223372036854775808 ≤ (a * 1000000).tdiv b ∧ (a * 1000000).tdiv b ≤ 9223372036854775807
        · exact ⟨_, _, intoE_in h, .inl rfl⟩
        · exact ⟨_, _, intoE_out h, .inr rfl⟩
      rw [hg] at d1 d2
      clear hg hxe ht ha hb h0
      unfold TextsTurn at hst
      rcases hX with ⟨x1, x2⟩ | ⟨x1, x2⟩ | x1 <;> rcases he with rfl | rfl
      · rw [intoE_in x1] at m1
        rw [intoE_in x2] at m2
        have hwx : wrap64 (-x) = -x := by rw [wrap64_eq]; omega
        clear x1 x2
        rcases hst with ⟨p1, p2⟩ | ⟨p1, p2⟩ | ⟨p1, p2⟩
        · skip
          go_enter Tryd.func9, Tryd.ntmps9
          go_wp2_with (first
            | (go_at_call 12; with_reducible refine c1.mono ?_; rintro e w1 ⟨rfl, hb1⟩)
            | (go_at_call 15; first | (with_reducible refine (t1 _ (HT.out.below hb1)).mono ?_; rintro e w2 ⟨rfl, hb2⟩; have HB2 := below_at hb1 hb2 hb1.size) | (with_reducible refine (t2 _ (HT.out.below HB2)).mono ?_; rintro e w3 ⟨rfl, hb3⟩; have HB3 := below_at HB2 hb3 HB2.size))
            | (go_at_call 21; first | (with_reducible refine (m1 _).mono ?_; rintro e w4 ⟨rfl, hb4⟩; have HB4 := below_at HB3 hb4 HB3.size) | (with_reducible refine (m2 _).mono ?_; rintro e w5 ⟨rfl, hb5⟩; have HB5 := below_at HB4 hb5 HB4.size))
            | (go_at_call 23; first | (with_reducible refine (d1 _).mono ?_; rintro e w6 ⟨rfl, hb6⟩; have HB6 := below_at HB5 hb6 HB5.size) | (with_reducible refine (d2 _).mono ?_; rintro e w7 ⟨rfl, hb7⟩; have HB7 := below_at HB6 hb7 HB6.size)))
          all_goals
            go_ret
            exact ⟨rfl, HB7⟩
        · have p3 : ¬ 0 < a := by omega
          go_enter Tryd.func9, Tryd.ntmps9
          go_wp2_with (first
            | (go_at_call 12; with_reducible refine c1.mono ?_; rintro e w1 ⟨rfl, hb1⟩)
            | (go_at_call 15; first | (with_reducible refine (t1 _ (HT.out.below hb1)).mono ?_; rintro e w2 ⟨rfl, hb2⟩; have HB2 := below_at hb1 hb2 hb1.size) | (with_reducible refine (t2 _ (HT.out.below HB2)).mono ?_; rintro e w3 ⟨rfl, hb3⟩; have HB3 := below_at HB2 hb3 HB2.size))
            | (go_at_call 21; first | (with_reducible refine (m1 _).mono ?_; rintro e w4 ⟨rfl, hb4⟩; have HB4 := below_at HB3 hb4 HB3.size) | (with_reducible refine (m2 _).mono ?_; rintro e w5 ⟨rfl, hb5⟩; have HB5 := below_at HB4 hb5 HB4.size))
            | (go_at_call 23; first | (with_reducible refine (d1 _).mono ?_; rintro e w6 ⟨rfl, hb6⟩; have HB6 := below_at HB5 hb6 HB5.size) | (with_reducible refine (d2 _).mono ?_; rintro e w7 ⟨rfl, hb7⟩; have HB7 := below_at HB6 hb7 HB6.size)))
          all_goals
            go_ret
            exact ⟨rfl, HB7⟩
        · subst p1; subst p2
          rw [Int.neg_zero] at t2 m2 d2
          go_enter Tryd.func9, Tryd.ntmps9
          go_wp2_with (first
            | (go_at_call 12; with_reducible refine c1.mono ?_; rintro e w1 ⟨rfl, hb1⟩)
            | (go_at_call 15; first | (with_reducible refine (t2 _ (HT.out.below HB2)).mono ?_; rintro e w3 ⟨rfl, hb3⟩; have HB3 := below_at HB2 hb3 HB2.size) | (with_reducible refine (t1 _ (HT.out.below hb1)).mono ?_; rintro e w2 ⟨rfl, hb2⟩; have HB2 := below_at hb1 hb2 hb1.size))
            | (go_at_call 21; first | (have HBQ := HB4; with_reducible refine (m2 _).mono ?_; rintro e w5 ⟨rfl, hb5⟩; have HB5 := below_at HB4 hb5 HB4.size) | (with_reducible refine (m1 _).mono ?_; rintro e w4 ⟨rfl, hb4⟩; have HB4 := below_at HB3 hb4 HB3.size))
            | (go_at_call 23; first | (have HBQ := HB6; with_reducible refine (d2 _).mono ?_; rintro e w7 ⟨rfl, hb7⟩; have HB7 := below_at HB6 hb7 HB6.size) | (with_reducible refine (d1 _).mono ?_; rintro e w6 ⟨rfl, hb6⟩; have HB6 := below_at HB5 hb6 HB5.size)))
          all_goals
            go_ret
            exact ⟨rfl, HB7⟩
      · rw [intoE_in x1] at m1
        rw [intoE_in x2] at m2
        have hwx : wrap64 (-x) = -x := by rw [wrap64_eq]; omega
        clear x1 x2
        rcases hst with ⟨p1, p2⟩ | ⟨p1, p2⟩ | ⟨p1, p2⟩
        · skip
          go_enter Tryd.func9, Tryd.ntmps9
          go_wp2_with (first
            | (go_at_call 12; with_reducible refine c1.mono ?_; rintro e w1 ⟨rfl, hb1⟩)
            | (go_at_call 15; first | (with_reducible refine (t1 _ (HT.out.below hb1)).mono ?_; rintro e w2 ⟨rfl, hb2⟩; have HB2 := below_at hb1 hb2 hb1.size) | (with_reducible refine (t2 _ (HT.out.below HB2)).mono ?_; rintro e w3 ⟨rfl, hb3⟩; have HB3 := below_at HB2 hb3 HB2.size))
            | (go_at_call 21; first | (with_reducible refine (m1 _).mono ?_; rintro e w4 ⟨rfl, hb4⟩; have HB4 := below_at HB3 hb4 HB3.size) | (with_reducible refine (m2 _).mono ?_; rintro e w5 ⟨rfl, hb5⟩; have HB5 := below_at HB4 hb5 HB4.size))
            | (go_at_call 23; first | (with_reducible refine (d1 _).mono ?_; rintro e w6 ⟨rfl, hb6⟩; have HB6 := below_at HB5 hb6 HB5.size) | (with_reducible refine (d2 _).mono ?_; rintro e w7 ⟨rfl, hb7⟩; have HB7 := below_at HB6 hb7 HB6.size)))
          all_goals
            go_ret
            exact ⟨rfl, HB7⟩
        · have p3 : ¬ 0 < a := by omega
          go_enter Tryd.func9, Tryd.ntmps9
          go_wp2_with (first
            | (go_at_call 12; with_reducible refine c1.mono ?_; rintro e w1 ⟨rfl, hb1⟩)
            | (go_at_call 15; first | (with_reducible refine (t1 _ (HT.out.below hb1)).mono ?_; rintro e w2 ⟨rfl, hb2⟩; have HB2 := below_at hb1 hb2 hb1.size) | (with_reducible refine (t2 _ (HT.out.below HB2)).mono ?_; rintro e w3 ⟨rfl, hb3⟩; have HB3 := below_at HB2 hb3 HB2.size))
            | (go_at_call 21; first | (with_reducible refine (m1 _).mono ?_; rintro e w4 ⟨rfl, hb4⟩; have HB4 := below_at HB3 hb4 HB3.size) | (with_reducible refine (m2 _).mono ?_; rintro e w5 ⟨rfl, hb5⟩; have HB5 := below_at HB4 hb5 HB4.size))
            | (go_at_call 23; first | (with_reducible refine (d1 _).mono ?_; rintro e w6 ⟨rfl, hb6⟩; have HB6 := below_at HB5 hb6 HB5.size) | (with_reducible refine (d2 _).mono ?_; rintro e w7 ⟨rfl, hb7⟩; have HB7 := below_at HB6 hb7 HB6.size)))
          all_goals
            go_ret
            exact ⟨rfl, HB7⟩
        · subst p1; subst p2
          rw [Int.neg_zero] at t2 m2 d2
          go_enter Tryd.func9, Tryd.ntmps9
          go_wp2_with (first
            | (go_at_call 12; with_reducible refine c1.mono ?_; rintro e w1 ⟨rfl, hb1⟩)
            | (go_at_call 15; first | (with_reducible refine (t2 _ (HT.out.below HB2)).mono ?_; rintro e w3 ⟨rfl, hb3⟩; have HB3 := below_at HB2 hb3 HB2.size) | (with_reducible refine (t1 _ (HT.out.below hb1)).mono ?_; rintro e w2 ⟨rfl, hb2⟩; have HB2 := below_at hb1 hb2 hb1.size))
            | (go_at_call 21; first | (have HBQ := HB4; with_reducible refine (m2 _).mono ?_; rintro e w5 ⟨rfl, hb5⟩; have HB5 := below_at HB4 hb5 HB4.size) | (with_reducible refine (m1 _).mono ?_; rintro e w4 ⟨rfl, hb4⟩; have HB4 := below_at HB3 hb4 HB3.size))
            | (go_at_call 23; first | (have HBQ := HB6; with_reducible refine (d2 _).mono ?_; rintro e w7 ⟨rfl, hb7⟩; have HB7 := below_at HB6 hb7 HB6.size) | (with_reducible refine (d1 _).mono ?_; rintro e w6 ⟨rfl, hb6⟩; have HB6 := below_at HB5 hb6 HB5.size)))
          all_goals
            go_ret
            exact ⟨rfl, HB7⟩
      · rw [intoE_in x1] at m1
        rw [intoE_out x2] at m2
        clear x1 x2
        rcases hst with ⟨p1, p2⟩ | ⟨p1, p2⟩ | ⟨p1, p2⟩
        · skip
          go_enter Tryd.func9, Tryd.ntmps9
          go_wp2_with (first
            | (go_at_call 12; with_reducible refine c1.mono ?_; rintro e w1 ⟨rfl, hb1⟩)
            | (go_at_call 15; first | (with_reducible refine (t1 _ (HT.out.below hb1)).mono ?_; rintro e w2 ⟨rfl, hb2⟩; have HB2 := below_at hb1 hb2 hb1.size) | (with_reducible refine (t2 _ (HT.out.below HB2)).mono ?_; rintro e w3 ⟨rfl, hb3⟩; have HB3 := below_at HB2 hb3 HB2.size))
            | (go_at_call 21; first | (with_reducible refine (m1 _).mono ?_; rintro e w4 ⟨rfl, hb4⟩; have HB4 := below_at HB3 hb4 HB3.size) | (with_reducible refine (m2 _).mono ?_; rintro e w5 ⟨rfl, hb5⟩; have HB5 := below_at HB4 hb5 HB4.size))
            | (go_at_call 23; first | (with_reducible refine (d1 _).mono ?_; rintro e w6 ⟨rfl, hb6⟩; have HB6 := below_at HB5 hb6 HB5.size) | (with_reducible refine (d2 _).mono ?_; rintro e w7 ⟨rfl, hb7⟩; have HB7 := below_at HB6 hb7 HB6.size)))
          all_goals
            go_ret
            exact ⟨rfl, HB7⟩
        · have p3 : ¬ 0 < a := by omega
          go_enter Tryd.func9, Tryd.ntmps9
          go_wp2_with (first
            | (go_at_call 12; with_reducible refine c1.mono ?_; rintro e w1 ⟨rfl, hb1⟩)
            | (go_at_call 15; first | (with_reducible refine (t1 _ (HT.out.below hb1)).mono ?_; rintro e w2 ⟨rfl, hb2⟩; have HB2 := below_at hb1 hb2 hb1.size) | (with_reducible refine (t2 _ (HT.out.below HB2)).mono ?_; rintro e w3 ⟨rfl, hb3⟩; have HB3 := below_at HB2 hb3 HB2.size))
            | (go_at_call 21; first | (with_reducible refine (m1 _).mono ?_; rintro e w4 ⟨rfl, hb4⟩; have HB4 := below_at HB3 hb4 HB3.size) | (with_reducible refine (m2 _).mono ?_; rintro e w5 ⟨rfl, hb5⟩; have HB5 := below_at HB4 hb5 HB4.size))
            | (go_at_call 23; first | (with_reducible refine (d1 _).mono ?_; rintro e w6 ⟨rfl, hb6⟩; have HB6 := below_at HB5 hb6 HB5.size) | (with_reducible refine (d2 _).mono ?_; rintro e w7 ⟨rfl, hb7⟩; have HB7 := below_at HB6 hb7 HB6.size)))
          all_goals
            go_ret
            exact ⟨rfl, HB7⟩
        · subst p1; subst p2
          rw [Int.neg_zero] at t2 m2 d2
          go_enter Tryd.func9, Tryd.ntmps9
          go_wp2_with (first
            | (go_at_call 12; with_reducible refine c1.mono ?_; rintro e w1 ⟨rfl, hb1⟩)
            | (go_at_call 15; first | (with_reducible refine (t2 _ (HT.out.below HB2)).mono ?_; rintro e w3 ⟨rfl, hb3⟩; have HB3 := below_at HB2 hb3 HB2.size) | (with_reducible refine (t1 _ (HT.out.below hb1)).mono ?_; rintro e w2 ⟨rfl, hb2⟩; have HB2 := below_at hb1 hb2 hb1.size))
            | (go_at_call 21; first | (have HBQ := HB4; with_reducible refine (m2 _).mono ?_; rintro e w5 ⟨rfl, hb5⟩; have HB5 := below_at HB4 hb5 HB4.size) | (with_reducible refine (m1 _).mono ?_; rintro e w4 ⟨rfl, hb4⟩; have HB4 := below_at HB3 hb4 HB3.size))
            | (go_at_call 23; first | (have HBQ := HB6; with_reducible refine (d2 _).mono ?_; rintro e w7 ⟨rfl, hb7⟩; have HB7 := below_at HB6 hb7 HB6.size) | (with_reducible refine (d1 _).mono ?_; rintro e w6 ⟨rfl, hb6⟩; have HB6 := below_at HB5 hb6 HB5.size)))
          all_goals
            go_ret
            exact ⟨rfl, HB7⟩
      · rw [intoE_in x1] at m1
        rw [intoE_out x2] at m2
        clear x1 x2
        rcases hst with ⟨p1, p2⟩ | ⟨p1, p2⟩ | ⟨p1, p2⟩
        · skip
          go_enter Tryd.func9, Tryd.ntmps9
          go_wp2_with (first
            | (go_at_call 12; with_reducible refine c1.mono ?_; rintro e w1 ⟨rfl, hb1⟩)
            | (go_at_call 15; first | (with_reducible refine (t1 _ (HT.out.below hb1)).mono ?_; rintro e w2 ⟨rfl, hb2⟩; have HB2 := below_at hb1 hb2 hb1.size) | (with_reducible refine (t2 _ (HT.out.below HB2)).mono ?_; rintro e w3 ⟨rfl, hb3⟩; have HB3 := below_at HB2 hb3 HB2.size))
            | (go_at_call 21; first | (with_reducible refine (m1 _).mono ?_; rintro e w4 ⟨rfl, hb4⟩; have HB4 := below_at HB3 hb4 HB3.size) | (with_reducible refine (m2 _).mono ?_; rintro e w5 ⟨rfl, hb5⟩; have HB5 := below_at HB4 hb5 HB4.size))
            | (go_at_call 23; first | (with_reducible refine (d1 _).mono ?_; rintro e w6 ⟨rfl, hb6⟩; have HB6 := below_at HB5 hb6 HB5.size) | (with_reducible refine (d2 _).mono ?_; rintro e w7 ⟨rfl, hb7⟩; have HB7 := below_at HB6 hb7 HB6.size)))
          all_goals
            go_ret
            exact ⟨rfl, HB7⟩
        · have p3 : ¬ 0 < a := by omega
          go_enter Tryd.func9, Tryd.ntmps9
          go_wp2_with (first
            | (go_at_call 12; with_reducible refine c1.mono ?_; rintro e w1 ⟨rfl, hb1⟩)
            | (go_at_call 15; first | (with_reducible refine (t1 _ (HT.out.below hb1)).mono ?_; rintro e w2 ⟨rfl, hb2⟩; have HB2 := below_at hb1 hb2 hb1.size) | (with_reducible refine (t2 _ (HT.out.below HB2)).mono ?_; rintro e w3 ⟨rfl, hb3⟩; have HB3 := below_at HB2 hb3 HB2.size))
            | (go_at_call 21; first | (with_reducible refine (m1 _).mono ?_; rintro e w4 ⟨rfl, hb4⟩; have HB4 := below_at HB3 hb4 HB3.size) | (with_reducible refine (m2 _).mono ?_; rintro e w5 ⟨rfl, hb5⟩; have HB5 := below_at HB4 hb5 HB4.size))
            | (go_at_call 23; first | (with_reducible refine (d1 _).mono ?_; rintro e w6 ⟨rfl, hb6⟩; have HB6 := below_at HB5 hb6 HB5.size) | (with_reducible refine (d2 _).mono ?_; rintro e w7 ⟨rfl, hb7⟩; have HB7 := below_at HB6 hb7 HB6.size)))
          all_goals
            go_ret
            exact ⟨rfl, HB7⟩
        · subst p1; subst p2
          rw [Int.neg_zero] at t2 m2 d2
          go_enter Tryd.func9, Tryd.ntmps9
          go_wp2_with (first
            | (go_at_call 12; with_reducible refine c1.mono ?_; rintro e w1 ⟨rfl, hb1⟩)
            | (go_at_call 15; first | (with_reducible refine (t2 _ (HT.out.below HB2)).mono ?_; rintro e w3 ⟨rfl, hb3⟩; have HB3 := below_at HB2 hb3 HB2.size) | (with_reducible refine (t1 _ (HT.out.below hb1)).mono ?_; rintro e w2 ⟨rfl, hb2⟩; have HB2 := below_at hb1 hb2 hb1.size))
            | (go_at_call 21; first | (have HBQ := HB4; with_reducible refine (m2 _).mono ?_; rintro e w5 ⟨rfl, hb5⟩; have HB5 := below_at HB4 hb5 HB4.size) | (with_reducible refine (m1 _).mono ?_; rintro e w4 ⟨rfl, hb4⟩; have HB4 := below_at HB3 hb4 HB3.size))
            | (go_at_call 23; first | (have HBQ := HB6; with_reducible refine (d2 _).mono ?_; rintro e w7 ⟨rfl, hb7⟩; have HB7 := below_at HB6 hb7 HB6.size) | (with_reducible refine (d1 _).mono ?_; rintro e w6 ⟨rfl, hb6⟩; have HB6 := below_at HB5 hb6 HB5.size)))
          all_goals
            go_ret
            exact ⟨rfl, HB7⟩
      all_goals
        rw [intoE_out x1] at m1
        unfold intoE at m2
        generalize into (-x) = y at m2
        clear x1
        rcases hst with ⟨p1, p2⟩ | ⟨p1, p2⟩ | ⟨p1, p2⟩
        · skip
          go_enter Tryd.func9, Tryd.ntmps9
          go_wp2_with (first
            | (go_at_call 12; with_reducible refine c1.mono ?_; rintro e w1 ⟨rfl, hb1⟩)
            | (go_at_call 15; first | (with_reducible refine (t1 _ (HT.out.below hb1)).mono ?_; rintro e w2 ⟨rfl, hb2⟩; have HB2 := below_at hb1 hb2 hb1.size) | (with_reducible refine (t2 _ (HT.out.below HB2)).mono ?_; rintro e w3 ⟨rfl, hb3⟩; have HB3 := below_at HB2 hb3 HB2.size))
            | (go_at_call 21; first | (with_reducible refine (m1 _).mono ?_; rintro e w4 ⟨rfl, hb4⟩; have HB4 := below_at HB3 hb4 HB3.size) | (with_reducible refine (m2 _).mono ?_; rintro e w5 ⟨rfl, hb5⟩; have HB5 := below_at HB4 hb5 HB4.size))
            | (go_at_call 23; first | (with_reducible refine (d1 _).mono ?_; rintro e w6 ⟨rfl, hb6⟩; have HB6 := below_at HB5 hb6 HB5.size) | (with_reducible refine (d2 _).mono ?_; rintro e w7 ⟨rfl, hb7⟩; have HB7 := below_at HB6 hb7 HB6.size)))
          all_goals
            go_ret
            exact ⟨rfl, HB7⟩
        · have p3 : ¬ 0 < a := by omega
          go_enter Tryd.func9, Tryd.ntmps9
          go_wp2_with (first
            | (go_at_call 12; with_reducible refine c1.mono ?_; rintro e w1 ⟨rfl, hb1⟩)
            | (go_at_call 15; first | (with_reducible refine (t1 _ (HT.out.below hb1)).mono ?_; rintro e w2 ⟨rfl, hb2⟩; have HB2 := below_at hb1 hb2 hb1.size) | (with_reducible refine (t2 _ (HT.out.below HB2)).mono ?_; rintro e w3 ⟨rfl, hb3⟩; have HB3 := below_at HB2 hb3 HB2.size))
            | (go_at_call 21; first | (with_reducible refine (m1 _).mono ?_; rintro e w4 ⟨rfl, hb4⟩; have HB4 := below_at HB3 hb4 HB3.size) | (with_reducible refine (m2 _).mono ?_; rintro e w5 ⟨rfl, hb5⟩; have HB5 := below_at HB4 hb5 HB4.size))
            | (go_at_call 23; first | (with_reducible refine (d1 _).mono ?_; rintro e w6 ⟨rfl, hb6⟩; have HB6 := below_at HB5 hb6 HB5.size) | (with_reducible refine (d2 _).mono ?_; rintro e w7 ⟨rfl, hb7⟩; have HB7 := below_at HB6 hb7 HB6.size)))
          all_goals
            go_ret
            exact ⟨rfl, HB7⟩
        · subst p1; subst p2
          rw [Int.neg_zero] at t2 m2 d2
          go_enter Tryd.func9, Tryd.ntmps9
          go_wp2_with (first
            | (go_at_call 12; with_reducible refine c1.mono ?_; rintro e w1 ⟨rfl, hb1⟩)
            | (go_at_call 15; first | (with_reducible refine (t2 _ (HT.out.below HB2)).mono ?_; rintro e w3 ⟨rfl, hb3⟩; have HB3 := below_at HB2 hb3 HB2.size) | (with_reducible refine (t1 _ (HT.out.below hb1)).mono ?_; rintro e w2 ⟨rfl, hb2⟩; have HB2 := below_at hb1 hb2 hb1.size))
            | (go_at_call 21; first | (have HBQ := HB4; with_reducible refine (m2 _).mono ?_; rintro e w5 ⟨rfl, hb5⟩; have HB5 := below_at HB4 hb5 HB4.size) | (with_reducible refine (m1 _).mono ?_; rintro e w4 ⟨rfl, hb4⟩; have HB4 := below_at HB3 hb4 HB3.size))
            | (go_at_call 23; first | (have HBQ := HB6; with_reducible refine (d2 _).mono ?_; rintro e w7 ⟨rfl, hb7⟩; have HB7 := below_at HB6 hb7 HB6.size) | (with_reducible refine (d1 _).mono ?_; rintro e w6 ⟨rfl, hb6⟩; have HB6 := below_at HB5 hb6 HB5.size)))
          all_goals
            go_ret
            exact ⟨rfl, HB7⟩
end Go.Proofs.YtbogojecnonepaaDoor
