/- The statement DecReads, walked. Condition: the library's table of powers of ten holds what its text lays. -/
import Derived.Test.YtbogojecnonepaaDoorDecBackWalk
import Derived.Test.YtbogojecnonepaaDoorDecReadsMath
namespace Go.Proofs.YtbogojecnonepaaDoor
open Go.RowKit

theorem seen_le (l : List UInt8) : (seenL l).2 ≤ l.length := by
  have h : ∀ (l : List UInt8) (x : Bool × Nat), (l.foldl seen x).2 ≤ x.2 + l.length := by
    intro l
    induction l with
    | nil => intro x; exact Nat.le_refl _
    | cons c r ih =>
      intro x
      rw [List.foldl_cons]
      have h1 := ih (seen x c)
      have h2 : (seen x c).2 ≤ x.2 + 1 := by unfold seen; split <;> omega
      rw [List.length_cons]; omega
  have := h l (false, 0)
  unfold seenL
  omega

set_option maxHeartbeats 4000000 in
theorem decReads_walk0 (n x y : Int) (S : ByteArray) (pt : Bool) (FL : Nat) (P : Nat → ByteArray) (d : UInt8) (M N : ByteArray) (w : World) (ht : Tab w)
    (k1 : ∀ w, Tab w → Calls Tryd.prog 15 #[.int .i64 n] w fun e w' => e = .returned (.string S) ∧ Below w.heap.size w w')
    (HS : Hid (seenL S.data.toList = (pt, FL))) (hsz : S.size ≤ 50) (hFL : FL ≤ 6)
    (hP1 : pt = true → S = P FL) (hP2 : pt = false → S ++ ⟨#[46]⟩ = P FL)
    (HP : Hid (∀ m, FL ≤ m → m ≤ 6 → (P m).size ≤ 90 ∧ P m ++ ⟨#[48]⟩ = P (m + 1)))
    (hM : P 6 ++ ⟨[d].toArray⟩ = M) (hN : ⟨#[43, 48, 48]⟩ ++ S = N) (hy1 : x % 10 = y) (hy2 : x.tmod 10 = y) (hy3 : 0 ≤ y ∧ y ≤ 9) (hd : 48 + y = (d.toNat : Int))
    (k2 : ∀ w, Calls Tryd.prog 13 #[.string M] w fun e w' => e = .returned (.tuple #[.int .i64 n, .int .i64 (M.size : Int), .int .i64 0]) ∧ Below w.heap.size w w')
    (k3 : 0 ≤ n → ∀ w, Calls Tryd.prog 13 #[.string N] w fun e w' => e = .returned (.tuple #[.int .i64 n, .int .i64 ((S.size : Int) + 3), .int .i64 0]) ∧ Below w.heap.size w w') :
    Calls Tryd.prog 11 #[.int .i64 n, .int .u8 x] w fun e w' => e = .returned (.bool true) ∧ Below w.heap.size w w' := by
  have c1 := shown_any w ht
  have HT := Lib.hid ht
  have HK := Lib.hid k3
  have HM := Lib.hid (And.intro hM (And.intro hP1 hP2))
  have HD := Lib.hid (And.intro hd (And.intro hN (And.intro hy1 (And.intro hy2 hy3))))
  clear ht k3 hM hP1 hP2 hd hN hy1 hy2 hy3
  go_enter Tryd.func11, Tryd.ntmps11
  go_wp2_with (first
    | (go_at_call 12; with_reducible refine c1.mono ?_; rintro e w1 ⟨rfl, hb1⟩)
    | (go_at_call 15; with_reducible refine (k1 _ (HT.out.below hb1)).mono ?_; rintro e w2 ⟨rfl, hb2⟩; have HB2 := below_at hb1 hb2 hb1.size))
  go_loop [7, 8, 9] (fun a b i => ∃ (k bh : Nat) (p : Bool), k ≤ S.size ∧ a = .bool p ∧ b = .int .i64 (bh : Int) ∧ i = .int .i64 (k : Int) ∧ Hid (seenL (S.data.toList.take k) = (p, bh)) ∧ bh ≤ k) (fun _ _ i => S.size - (intOf i).toNat)
  case atStart => exact ⟨0, 0, false, Nat.zero_le _, rfl, rfl, rfl, rfl, Nat.le_refl _⟩
  case round =>
    obtain ⟨k, bh, p, hk, rfl, rfl, rfl, HQ, hbh⟩ := hrel
    have hwb : wrap64 ((bh : Int) + 1) = (bh : Int) + 1 := by rw [wrap64_eq]; omega
    have hwk : wrap64 ((k : Int) + 1) = (k : Int) + 1 := by rw [wrap64_eq]; omega
    by_cases hlt : k < S.size
    · have HSn : Hid (seenL (S.data.toList.take (k + 1)) = seen (p, bh) S[k]) := by
        show _ = _
        rw [take_snoc S k hlt, seenL_snoc, HQ.out]
      obtain ⟨cc, hcc⟩ : ∃ cc, S[k] = cc := ⟨_, rfl⟩
      rw [hcc] at HSn
      have HLT := Lib.hid hlt
      cases p with
      | true =>
        go_wp2
        go_round
        case rel => exact ⟨k + 1, bh + 1, true, HLT.out, rfl, by go_num, by go_num, HSn.out, by omega⟩
        case measure => simp only [intOf]; have := HLT.out; omega
      | false =>
        obtain ⟨z, hz⟩ : ∃ z : Int, (cc.toNat : Int) = z := ⟨_, rfl⟩
        by_cases h46 : cc = 46
        · have hz2 : (z == 46) = true := by rw [← hz, h46]; rfl
          have HSn2 : Hid (seenL (S.data.toList.take (k + 1)) = (true, bh)) := by show _ = _; rw [HSn.out, h46]; rfl
          clear h46
          go_wp2
          go_round
          case rel => exact ⟨k + 1, bh, true, HLT.out, by first | rfl | (congr 1), rfl, by go_num, HSn2, by omega⟩
          case measure => simp only [intOf]; have := HLT.out; omega
        · have hz2 : (z == 46) = false := by
            rw [← hz]
            refine beq_eq_false_iff_ne.2 (fun e => h46 (UInt8.toNat_inj.1 ?_))
            show cc.toNat = 46
            omega
          have HSn2 : Hid (seenL (S.data.toList.take (k + 1)) = (false, bh)) := by
            show _ = _
            have h1 : (cc == 46) = false := beq_eq_false_iff_ne.2 h46
            rw [HSn.out]; unfold seen; rw [h1]; rfl
          clear h46
          go_wp2
          go_round
          case rel => exact ⟨k + 1, bh, false, HLT.out, by first | rfl | (congr 1), rfl, by go_num, HSn2, by omega⟩
          case measure => simp only [intOf]; have := HLT.out; omega
    · have hall : S.data.toList.take k = S.data.toList := List.take_of_length_le (by rw [← ba_size]; omega)
      have hq := HQ.out
      rw [hall, HS.out] at hq
      obtain ⟨rfl, rfl⟩ := Prod.mk.inj hq
      clear hq hall HQ HS
      have z1 : ¬ 9223372036854775807 < S.size + 1 := by omega
      cases pt with
      | true =>
        have HP1 := Lib.hid (HM.out.2.1 rfl)
        go_wp2
        go_loop [8, 10] (fun a b => ∃ m : Nat, FL ≤ m ∧ m ≤ 6 ∧ a = .int .i64 (m : Int) ∧ b = .string (P m)) (fun a _ => 10 - (intOf a).toNat)
        case atStart => exact ⟨FL, Nat.le_refl _, hFL, rfl, congrArg Value.string HP1.out⟩
        case round =>
          obtain ⟨m, hm1, hm2, rfl, rfl⟩ := hrel
          by_cases h6 : m < 6
          · obtain ⟨q1, q2⟩ := HP.out m hm1 hm2
            have hwm : wrap64 ((m : Int) + 1) = (m : Int) + 1 := by rw [wrap64_eq]; omega
            have z2 : ¬ 9223372036854775807 < (P m).size + 1 := by omega
            have HL := Lib.hid (And.intro hm1 h6)
            go_wp2
            go_round
            case rel => exact ⟨m + 1, by have := HL.out.1; omega, by have := HL.out.2; omega, by go_num, rfl⟩
            case measure => simp only [intOf]; have := HL.out.2; omega
          · obtain rfl : m = 6 := by omega
            obtain ⟨q1, _⟩ := HP.out 6 hm1 hm2
            have hM := HM.out.1
            obtain ⟨hd, hN, hy1, hy2, hy3⟩ := HD.out
            have hwu : IntKind.u8.wrap (48 + y) = 48 + y := by simp [IntKind.wrap, IntKind.bits, IntKind.signed]; omega
            have kc := fun w => conv_new1 (P := Tryd.prog) 43 9 5 Tryd.underlying43 Tryd.underlying5 Tryd.underlying9 w (48 + y) d hd
            clear hd hy3
            have z3 : ¬ 9223372036854775807 < (P 6).size + 1 := by omega
            have z4 : ¬ 9223372036854775807 < 3 + S.size := by omega
            clear hm1 hm2 h6
            by_cases hn0 : n < 0
            · go_wp2_with (go_at_call 13; with_reducible refine (k2 _).mono ?_; rintro e w3 ⟨rfl, hb3⟩)
              all_goals
                go_ret
                exact ⟨rfl, below_at (HB2.alloc HB2.size _) hb3 (HB2.alloc HB2.size _).size⟩
            · have k3 := HK.out (by omega)
              go_wp2_with (go_at_call 13; first | (with_reducible refine (k2 _).mono ?_; rintro e w3 ⟨rfl, hb3⟩; have HB3 := below_at (HB2.alloc HB2.size _) hb3 (HB2.alloc HB2.size _).size) | (with_reducible refine (k3 _).mono ?_; rintro e w4 ⟨rfl, hb4⟩; have HB4 := below_at HB3 hb4 HB3.size))
              all_goals
                go_ret
                exact ⟨rfl, HB4⟩
      | false =>
        have HP1 := Lib.hid (HM.out.2.2 rfl)
        go_wp2
        go_loop [8, 10] (fun a b => ∃ m : Nat, FL ≤ m ∧ m ≤ 6 ∧ a = .int .i64 (m : Int) ∧ b = .string (P m)) (fun a _ => 10 - (intOf a).toNat)
        case atStart => exact ⟨FL, Nat.le_refl _, hFL, rfl, congrArg Value.string HP1.out⟩
        case round =>
          obtain ⟨m, hm1, hm2, rfl, rfl⟩ := hrel
          by_cases h6 : m < 6
          · obtain ⟨q1, q2⟩ := HP.out m hm1 hm2
            have hwm : wrap64 ((m : Int) + 1) = (m : Int) + 1 := by rw [wrap64_eq]; omega
            have z2 : ¬ 9223372036854775807 < (P m).size + 1 := by omega
            have HL := Lib.hid (And.intro hm1 h6)
            go_wp2
            go_round
            case rel => exact ⟨m + 1, by have := HL.out.1; omega, by have := HL.out.2; omega, by go_num, rfl⟩
            case measure => simp only [intOf]; have := HL.out.2; omega
          · obtain rfl : m = 6 := by omega
            obtain ⟨q1, _⟩ := HP.out 6 hm1 hm2
            have hM := HM.out.1
            obtain ⟨hd, hN, hy1, hy2, hy3⟩ := HD.out
            have hwu : IntKind.u8.wrap (48 + y) = 48 + y := by simp [IntKind.wrap, IntKind.bits, IntKind.signed]; omega
            have kc := fun w => conv_new1 (P := Tryd.prog) 43 9 5 Tryd.underlying43 Tryd.underlying5 Tryd.underlying9 w (48 + y) d hd
            clear hd hy3
            have z3 : ¬ 9223372036854775807 < (P 6).size + 1 := by omega
            have z4 : ¬ 9223372036854775807 < 3 + S.size := by omega
            clear hm1 hm2 h6
            by_cases hn0 : n < 0
            · go_wp2_with (go_at_call 13; with_reducible refine (k2 _).mono ?_; rintro e w3 ⟨rfl, hb3⟩)
              all_goals
                go_ret
                exact ⟨rfl, below_at (HB2.alloc HB2.size _) hb3 (HB2.alloc HB2.size _).size⟩
            · have k3 := HK.out (by omega)
              go_wp2_with (go_at_call 13; first | (with_reducible refine (k2 _).mono ?_; rintro e w3 ⟨rfl, hb3⟩; have HB3 := below_at (HB2.alloc HB2.size _) hb3 (HB2.alloc HB2.size _).size) | (with_reducible refine (k3 _).mono ?_; rintro e w4 ⟨rfl, hb4⟩; have HB4 := below_at HB3 hb4 HB3.size))
              all_goals
                go_ret
                exact ⟨rfl, HB4⟩

theorem decReads_walk (n : Int) (hn : -9223372036854775808 ≤ n ∧ n ≤ 9223372036854775807) (c : UInt8) (w : World) (ht : Tab w) :
    Calls Tryd.prog 11 #[.int .i64 n, .int .u8 (c.toNat : Int)] w fun e w' => e = .returned (.bool true) ∧ Below w.heap.size w w' := by
  obtain ⟨sg, fr, point, hsg, hT, hff, hfr, hp, hst, hpp⟩ := text_parts n
  have hfl : fr.length ≤ 6 := by
    obtain ⟨k, hk, _⟩ := stripZ_fill (frac 6 (n.natAbs % 1000000))
    have := congrArg List.length hk
    rw [frac_length, List.length_append, ← hst] at this
    omega
  have hde := dec_figs (n.natAbs / 1000000)
  have hdl := decDigits_len (n.natAbs / 1000000) (by omega)
  have hsl : sg.length ≤ 1 := by rcases hsg with ⟨_, h⟩ | ⟨_, h⟩ <;> simp [h]
  have hsg2 : sg = [] ∨ sg = [45] := by rcases hsg with ⟨_, h⟩ | ⟨_, h⟩; exact .inr h; exact .inl h
  obtain ⟨d, hd⟩ : ∃ d : UInt8, d = UInt8.ofNat (48 + c.toNat % 10) := ⟨_, rfl⟩
  have hd1 : isFig d = true := by rw [hd]; exact dig_isFig _ (Nat.mod_lt _ (by decide))
  have hd2 : 48 + (((c.toNat : Int)) % 10) = (d.toNat : Int) := by
    have h1 : d.toNat = 48 + c.toNat % 10 := by
      rw [hd, UInt8.toNat_ofNat']
      omega
    omega
  have hs7 := reads_seventh n hn sg fr d hd1 hsg hff hfr hfl
  have hPl : ∀ m, (ba (sg ++ (Lib.decDigits (n.natAbs / 1000000) ++ (46 :: (fr ++ List.replicate (m - fr.length) 48))))).size = sg.length + ((Lib.decDigits (n.natAbs / 1000000)).length + (fr.length + (m - fr.length) + 1)) := by
    intro m
    rw [ba_len]; simp only [List.length_append, List.length_cons, List.length_replicate]
  refine decReads_walk0 n (c.toNat : Int) ((c.toNat : Int) % 10) (ba (textL n)) point fr.length (fun m => ba (sg ++ (Lib.decDigits (n.natAbs / 1000000) ++ (46 :: (fr ++ List.replicate (m - fr.length) 48)))))
    d (ba (sg ++ (Lib.decDigits (n.natAbs / 1000000) ++ (46 :: (fr ++ List.replicate (6 - fr.length) 48 ++ [d]))))) (ba (43 :: 48 :: 48 :: textL n)) w ht
    (fun w ht => text_any n w hn ht) ?_ (by rw [ba_len]; have := text_len n hn; omega) hfl ?_ ?_ ?_ ?_ (ba_append [43, 48, 48] (textL n)) rfl (Int.tmod_eq_emod_of_nonneg (by omega)) (by omega) hd2 ?_ ?_
  · show _ = _
    rw [ba_list, hT]
    exact seen_text sg _ fr point hsg2 hde.1 hp
  · intro h
    rw [hT, h, Nat.sub_self]
    show ba (sg ++ (Lib.decDigits (n.natAbs / 1000000) ++ 46 :: fr)) = ba (sg ++ (Lib.decDigits (n.natAbs / 1000000) ++ (46 :: (fr ++ []))))
    rw [List.append_nil]
  · intro h
    rw [hT, h, hp h]
    show ba (sg ++ (Lib.decDigits (n.natAbs / 1000000) ++ [])) ++ ba [46] = ba (sg ++ (Lib.decDigits (n.natAbs / 1000000) ++ (46 :: ([] ++ []))))
    rw [ba_append]
    congr 1
    simp
  · intro m h1 h2
    refine ⟨by show (ba _).size ≤ 90; rw [hPl]; omega, ?_⟩
    show ba _ ++ ba [48] = ba _
    rw [ba_append]
    congr 1
    rw [show m + 1 - fr.length = (m - fr.length) + 1 by omega, List.replicate_succ']
    simp
  · show ba _ ++ ba [d] = ba _
    rw [ba_append]
    congr 1
    simp
  · intro w
    have hsz : (ba (sg ++ (Lib.decDigits (n.natAbs / 1000000) ++ (46 :: (fr ++ List.replicate (6 - fr.length) 48 ++ [d]))))).size ≤ 30000000000000 := by
      rw [ba_len]; simp only [List.length_append, List.length_cons, List.length_replicate, List.length_nil]; omega
    have h := read_any _ w hsz
    rw [ba_list] at h
    unfold readE at h
    rw [hs7, ← ba_len] at h
    exact h
  · intro h0 w
    have hsz : (ba (43 :: 48 :: 48 :: textL n)).size ≤ 30000000000000 := by
      rw [ba_len]; have := text_len n hn; simp only [List.length_cons]; omega
    have h := read_any _ w hsz
    rw [ba_list] at h
    unfold readE at h
    rw [reads_noughts n hn h0, ← ba_len] at h
    exact h
end Go.Proofs.YtbogojecnonepaaDoor
