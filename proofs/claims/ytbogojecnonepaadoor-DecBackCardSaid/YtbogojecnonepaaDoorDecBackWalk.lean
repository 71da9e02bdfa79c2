/- The statement DecBack, walked. Condition: the library's table of powers of ten holds what its text lays. -/
import Derived.Test.YtbogojecnonepaaDoorDecShown
namespace Go.Proofs.YtbogojecnonepaaDoor
open Go.RowKit

theorem text_len (n : Int) (hn : -9223372036854775808 ≤ n ∧ n ≤ 9223372036854775807) : (textL n).length ≤ 40 := by
  have h1 := decDigits_len (n.natAbs / 1000000) (by omega)
  have h2 : (stripZ (frac 6 (n.natAbs % 1000000))).length ≤ 6 := by
    obtain ⟨k, hk, _⟩ := stripZ_fill (frac 6 (n.natAbs % 1000000))
    have := congrArg List.length hk
    rw [frac_length, List.length_append] at this
    omega
  have h3 : (textU n.natAbs).length ≤ 30 := by
    unfold textU
    split
    · rw [List.append_nil]; omega
    · rw [List.length_append, List.length_cons]; omega
  unfold textL
  split
  · rw [List.length_cons]; omega
  · omega
/-- A number's text behind blanks, and something behind it: read as it. -/
theorem read_back (n : Int) (k : Nat) (t : ByteArray) (w : World) (hn : -9223372036854775808 ≤ n ∧ n ≤ 9223372036854775807) (hk : k ≤ 10) (ht : t.size ≤ 1000) (hm : noFg t.data.toList) (hmp : t.data.toList.head? ≠ some 46) :
    Calls Tryd.prog 13 #[.string (ba (List.replicate k 32 ++ textL n) ++ t)] w fun e w' => e = .returned (.tuple #[.int .i64 n, .int .i64 ((ba (List.replicate k 32 ++ textL n)).size : Int), .int .i64 0]) ∧ Below w.heap.size w w' := by
  have hl := text_len n hn
  have hsz : (ba (List.replicate k 32 ++ textL n) ++ t).size ≤ 30000000000000 := by
    rw [ByteArray.size_append, ba_len, List.length_append, List.length_replicate]; omega
  have h := read_any (ba (List.replicate k 32 ++ textL n) ++ t) w hsz
  have hd : (ba (List.replicate k 32 ++ textL n) ++ t).data.toList = List.replicate k 32 ++ textL n ++ t.data.toList := by
    rw [ByteArray.data_append, Array.toList_append]; rfl
  rw [hd] at h
  unfold readE at h
  rw [read_text n k t.data.toList hn hm hmp, ← ba_len] at h
  exact h

set_option maxHeartbeats 4000000 in
theorem decBack_walk (n : Int) (hn : -9223372036854775808 ≤ n ∧ n ≤ 9223372036854775807) (c : UInt8) (t : ByteArray) (hs : t.size ≤ maxLen) (w : World) (ht : Tab w) :
    Calls Tryd.prog 6 #[.int .i64 n, .int .u8 (c.toNat : Int), .string t] w fun e w' => e = .returned (.bool true) ∧ Below w.heap.size w w' := by
  unfold maxLen at hs
  have c1 := shown_any w ht
  have len : ∀ s : ByteArray, s.data.toList.length = s.size := fun s => (ba_size s).symm
  obtain ⟨x, hx⟩ : ∃ x : Int, (c.toNat : Int) = x := ⟨_, rfl⟩
  have hx1 : 0 ≤ x ∧ x ≤ 255 := by have := c.toNat_lt; omega
  rw [hx]
  clear hx
  by_cases hbig : 100 < t.size
  · clear hn len
    go_enter Tryd.func6, Tryd.ntmps6
    go_wp2_with (first | (go_at_call 12; with_reducible refine c1.mono ?_; rintro e w1 ⟨rfl, hb1⟩))
    all_goals
      go_ret
      exact ⟨rfl, hb1⟩
  · have hb0 : (t.size : Int) ≤ 100 := by omega
    by_cases hfig : ∃ h : 0 < t.size, isFig t[0] = true ∨ t[0] = 46
    · obtain ⟨hp, hf⟩ := hfig
      have hf2 : (48 ≤ (t[0].toNat : Int) ∧ (t[0].toNat : Int) ≤ 57) ∨ ((t[0].toNat : Int) = 46) := by
        rcases hf with h | h
        · left
          unfold isFig at h
          rw [Bool.and_eq_true, decide_eq_true_eq, decide_eq_true_eq] at h
          exact h
        · right; rw [h]; rfl
      obtain ⟨z, hz⟩ : ∃ z : Int, (t[0].toNat : Int) = z := ⟨_, rfl⟩
      rw [hz] at hf2
      have hp2 : (0 : Int) < (t.size : Int) := by omega
      clear hn hf len
      rcases hf2 with ⟨f1, f2⟩ | f1
      · go_enter Tryd.func6, Tryd.ntmps6
        go_wp2_with (first | (go_at_call 12; with_reducible refine c1.mono ?_; rintro e w1 ⟨rfl, hb1⟩))
        all_goals
          go_ret
          exact ⟨rfl, hb1⟩
      · subst f1
        go_enter Tryd.func6, Tryd.ntmps6
        go_wp2_with (first | (go_at_call 12; with_reducible refine c1.mono ?_; rintro e w1 ⟨rfl, hb1⟩))
        all_goals
          go_ret
          exact ⟨rfl, hb1⟩
    · have h0 : ∀ cc r, t.data.toList = cc :: r → isFig cc = false ∧ cc ≠ 46 := by
        intro cc r hcr
        have hp : 0 < t.size := by rw [← len, hcr]; simp
        have h0 : t[0] = cc := by
          have : t.data.toList[0]? = some t[0] := by rw [List.getElem?_eq_getElem (by rw [len]; exact hp)]; rfl
          rw [hcr] at this
          exact (Option.some.inj this).symm
        rw [← h0, ← Bool.not_eq_true]
        exact ⟨fun h => hfig ⟨hp, .inl h⟩, fun h => hfig ⟨hp, .inr h⟩⟩
      have hno : noFg t.data.toList := fun cc r h => (h0 cc r h).1
      have hnp : t.data.toList.head? ≠ some 46 := by
        cases h : t.data.toList with
        | nil => simp
        | cons cc r => simpa using (h0 cc r h).2
      have hcond : t.size = 0 ∨ ∃ h : 0 < t.size, ¬ ((48 : Int) ≤ (t[0].toNat : Int) ∧ (t[0].toNat : Int) ≤ 57) ∧ ((t[0].toNat : Int) == 46) = false := by
        by_cases hp : 0 < t.size
        · refine .inr ⟨hp, fun h => hfig ⟨hp, .inl ?_⟩, beq_eq_false_iff_ne.2 (fun h => hfig ⟨hp, .inr ?_⟩)⟩
          · unfold isFig
            rw [Bool.and_eq_true, decide_eq_true_eq, decide_eq_true_eq]
            exact h
          · refine UInt8.toNat_inj.1 ?_
            show t[0].toNat = 46
            omega
        · exact .inl (by omega)
      have k1 := fun w ht => text_any n w hn ht
      have k2 := fun k hk w => read_back n k t w hn hk (by omega) hno hnp
      have hl := text_len n hn
      clear hno hnp h0 hfig len hn hbig
      have HT := Lib.hid ht
      have K2 := Lib.hid k2
      clear ht k2
      rw [show str (textL n) = .string (ba (textL n)) from rfl] at k1
      obtain ⟨P, hP⟩ : ∃ P : Nat → ByteArray, P = fun k => ba (List.replicate k 32 ++ textL n) := ⟨_, rfl⟩
      have HP : Hid (∀ k : Nat, k ≤ 10 → (P k).size ≤ 60 ∧ (⟨#[32]⟩ : ByteArray) ++ P k = P (k + 1) ∧ ∀ w, Calls Tryd.prog 13 #[.string (P k ++ t)] w fun e w' => e = .returned (.tuple #[.int .i64 n, .int .i64 ((P k).size : Int), .int .i64 0]) ∧ Below w.heap.size w w') := by
        intro k hk
        rw [hP]
        refine ⟨?_, ?_, K2.out k hk⟩
        · show (ba (List.replicate k 32 ++ textL n)).size ≤ 60
          rw [ba_len, List.length_append, List.length_replicate]; omega
        · show (ba [32]) ++ ba (List.replicate k 32 ++ textL n) = ba (List.replicate (k + 1) 32 ++ textL n)
          rw [ba_append, List.replicate_succ]; rfl
      have hP0 : ba (textL n) = P 0 := by rw [hP]; rfl
      rw [hP0] at k1
      clear hP hP0 K2 hl
      obtain ⟨y, hy1, hy2⟩ : ∃ y, x % 5 = y ∧ x.tmod 5 = y := ⟨_, rfl, Int.tmod_eq_emod_of_nonneg hx1.1⟩
      have hy3 : 0 ≤ y ∧ y ≤ 4 := by omega
      clear hx1
      rcases hcond with hp | ⟨hp, hz1, hz2⟩
      · have hp2 : ¬ (0 : Int) < (t.size : Int) := by omega
        clear hp
        go_enter Tryd.func6, Tryd.ntmps6
        go_wp2_with (first
          | (go_at_call 12; with_reducible refine c1.mono ?_; rintro e w1 ⟨rfl, hb1⟩)
          | (go_at_call 15; with_reducible refine (k1 _ (HT.out.below hb1)).mono ?_; rintro e w2 ⟨rfl, hb2⟩; have HB2 := below_at hb1 hb2 hb1.size))
        go_loop [8, 9] (fun a b => ∃ k : Nat, a = .string (P k) ∧ b = .int .i64 (k : Int) ∧ (k : Int) ≤ y) (fun _ b => 10 - (intOf b).toNat)
        case atStart => exact ⟨0, rfl, rfl, hy3.1⟩
        case round =>
          obtain ⟨k, rfl, rfl, hk⟩ := hrel
          have hsz := (HP.out k (by omega)).1
          have hst := (HP.out k (by omega)).2.1
          have hrd := (HP.out k (by omega)).2.2
          have hwk : wrap64 ((k : Int) + 1) = (k : Int) + 1 := by rw [wrap64_eq]; omega
          have n1 : ¬ 9223372036854775807 < 1 + (P k).size := by omega
          have n2 : ¬ 9223372036854775807 < (P k).size + t.size := by omega
          by_cases hlt : (k : Int) < y
          · have HL := Lib.hid hlt
            clear hrd
            go_wp2
            go_round
            case rel => exact ⟨k + 1, rfl, by go_num, by have := HL.out; omega⟩
            case measure => simp only [intOf]; have := HL.out; omega
          · clear hst
            go_wp2_with (go_at_call 13; with_reducible refine (hrd _).mono ?_; rintro e w3 ⟨rfl, hb3⟩; have HB3 := below_at HB2 hb3 HB2.size)
            all_goals
              go_ret
              exact ⟨rfl, HB3⟩
      · have hp2 : (0 : Int) < (t.size : Int) := by omega
        obtain ⟨z, hz⟩ : ∃ z : Int, (t[0].toNat : Int) = z := ⟨_, rfl⟩
        rw [hz] at hz1 hz2
        have hzz : z < 48 ∨ (¬ z < 48 ∧ 57 < z) := by omega
        clear hz1
        rcases hzz with g1 | ⟨g1, g2⟩
        all_goals
          go_enter Tryd.func6, Tryd.ntmps6
          go_wp2_with (first
            | (go_at_call 12; with_reducible refine c1.mono ?_; rintro e w1 ⟨rfl, hb1⟩)
            | (go_at_call 15; with_reducible refine (k1 _ (HT.out.below hb1)).mono ?_; rintro e w2 ⟨rfl, hb2⟩; have HB2 := below_at hb1 hb2 hb1.size))
          go_loop [8, 9] (fun a b => ∃ k : Nat, a = .string (P k) ∧ b = .int .i64 (k : Int) ∧ (k : Int) ≤ y) (fun _ b => 10 - (intOf b).toNat)
          case atStart => exact ⟨0, rfl, rfl, hy3.1⟩
          case round =>
            obtain ⟨k, rfl, rfl, hk⟩ := hrel
            have hsz := (HP.out k (by omega)).1
            have hst := (HP.out k (by omega)).2.1
            have hrd := (HP.out k (by omega)).2.2
            have hwk : wrap64 ((k : Int) + 1) = (k : Int) + 1 := by rw [wrap64_eq]; omega
            have n1 : ¬ 9223372036854775807 < 1 + (P k).size := by omega
            have n2 : ¬ 9223372036854775807 < (P k).size + t.size := by omega
            by_cases hlt : (k : Int) < y
            · have HL := Lib.hid hlt
              clear hrd
              go_wp2
              go_round
              case rel => exact ⟨k + 1, rfl, by go_num, by have := HL.out; omega⟩
              case measure => simp only [intOf]; have := HL.out; omega
            · clear hst
              go_wp2_with (go_at_call 13; with_reducible refine (hrd _).mono ?_; rintro e w3 ⟨rfl, hb3⟩; have HB3 := below_at HB2 hb3 HB2.size)
              all_goals
                go_ret
                exact ⟨rfl, HB3⟩
end Go.Proofs.YtbogojecnonepaaDoor
