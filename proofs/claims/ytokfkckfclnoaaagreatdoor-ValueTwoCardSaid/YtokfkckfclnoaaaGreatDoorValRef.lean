/- The document's own answers for layer 3: what looks like a number, a number, yes or no, a number below 256. Condition: the text is shorter than 2^44. -/
import Derived.Test.YtokfkckfclnoaaaGreatDoorValLooks
import Derived.Test.YtokfkckfclnoaaaGreatDoorDecRefCalls
namespace Go.Proofs.YtokfkckfclnoaaaGreatDoor
open Go.RowKit

theorem byte_cases (c : UInt8) : (isBlk c = true ∧ (c.toNat : Int) = 32) ∨ (isBlk c = true ∧ (c.toNat : Int) = 9) ∨ (isBlk c = false ∧ (((c.toNat : Int)) != 32) = true ∧ (((c.toNat : Int)) != 9) = true) := by
  by_cases h1 : c = 32
  · left; rw [h1]; exact ⟨rfl, rfl⟩
  · by_cases h2 : c = 9
    · right; left; rw [h2]; exact ⟨rfl, rfl⟩
    · right; right
      refine ⟨by unfold isBlk; rw [show (c == 32) = false from beq_eq_false_iff_ne.2 h1, show (c == 9) = false from beq_eq_false_iff_ne.2 h2]; rfl, ?_, ?_⟩
      · exact bne_iff_ne.2 (fun e => h1 (UInt8.toNat_inj.1 (by show c.toNat = 32; omega)))
      · exact bne_iff_ne.2 (fun e => h2 (UInt8.toNat_inj.1 (by show c.toNat = 9; omega)))
theorem refLooks_walk (s : ByteArray) (n er R : Int) (b : Bool) (u : Nat) (w : World) (hs : s.size ≤ 30000000000000) (hu : u ≤ s.size)
    (k1 : ∀ w, Calls Tryz.prog 34 #[.string s] w fun e w' => e = .returned (.tuple #[.int .i64 n, .int .i64 (u : Int), .int .i64 er]) ∧ Below w.heap.size w w')
    (H : Hid (((er : Int) != 0) = true ∧ R = 0 ∧ b = false ∨ ((er : Int) != 0) = false ∧ ((s.data.toList.drop u).all isBlk = true → R = n ∧ b = true) ∧ ((s.data.toList.drop u).all isBlk = false → R = 0 ∧ b = false))) :
    Calls Tryz.prog 24 #[.string s] w fun e w' => e = .returned (.tuple #[.int .i64 R, .bool b]) ∧ Below w.heap.size w w' := by
  rcases H.out with ⟨h1, rfl, rfl⟩ | ⟨h1, h2⟩
  · clear H
    go_enter Tryz.func24, Tryz.ntmps24
    go_wp2_with (go_at_call 34; refine (k1 _).mono ?_; rintro e w1 ⟨rfl, hb1⟩)
    go_ret2
    exact ⟨rfl, hb1⟩
  · have H2 := Lib.hid h2
    clear H h2
    go_enter Tryz.func24, Tryz.ntmps24
    go_wp2_with (go_at_call 34; refine (k1 _).mono ?_; rintro e w1 ⟨rfl, hb1⟩)
    go_loop [7] (fun i => ∃ k : Nat, k ≤ s.size ∧ i = .int .i64 (k : Int) ∧ Hid ((s.data.toList.drop u).all isBlk = (s.data.toList.drop k).all isBlk)) (fun i => s.size - (intOf i).toNat)
    case atStart => exact ⟨u, hu, rfl, rfl⟩
    case round =>
      obtain ⟨k, hk, rfl, HA⟩ := hrel
      have hwk : wrap64 ((k : Int) + 1) = (k : Int) + 1 := by rw [wrap64_eq]; omega
      by_cases hlt : k < s.size
      · have HL := Lib.hid hlt
        have HD : Hid ((s.data.toList.drop k).all isBlk = (isBlk s[k] && (s.data.toList.drop (k + 1)).all isBlk)) := by
          show _ = _
          rw [drop_at s k hlt, List.all_cons]
          rfl
        rcases byte_cases s[k] with ⟨h3, h4⟩ | ⟨h3, h4⟩ | ⟨h3, h4, h5⟩
        · have HN : Hid ((s.data.toList.drop u).all isBlk = (s.data.toList.drop (k + 1)).all isBlk) := by show _ = _; rw [HA.out, HD.out, h3]; rfl
          clear h3
          go_wp2
          all_goals (try (exfalso; have hh : ((s[k].toNat : Int) != 32) = true ∧ ((s[k].toNat : Int) != 9) = true := by assumption
                          rw [h4] at hh; exact absurd hh.1 (by decide)))
          go_round
          case rel => exact ⟨k + 1, HL.out, by go_num, HN⟩
          case measure => simp only [intOf]; have := HL.out; omega
        · have HN : Hid ((s.data.toList.drop u).all isBlk = (s.data.toList.drop (k + 1)).all isBlk) := by show _ = _; rw [HA.out, HD.out, h3]; rfl
          clear h3
          go_wp2
          all_goals (try (exfalso; have hh : ((s[k].toNat : Int) != 32) = true ∧ ((s[k].toNat : Int) != 9) = true := by assumption
                          rw [h4] at hh; exact absurd hh.2 (by decide)))
          go_round
          case rel => exact ⟨k + 1, HL.out, by go_num, HN⟩
          case measure => simp only [intOf]; have := HL.out; omega
        · have hall : (s.data.toList.drop u).all isBlk = false := by rw [HA.out, HD.out, h3]; rfl
          obtain ⟨rfl, rfl⟩ := H2.out.2 hall
          clear hall HA HD h3
          go_wp2
          all_goals (try (exfalso; have hh : (s[k].toNat : Int) = 32 := by assumption
                          rw [hh] at h4; exact absurd h4 (by decide)))
          all_goals (try (exfalso; have hh : (s[k].toNat : Int) = 9 := by assumption
                          rw [hh] at h5; exact absurd h5 (by decide)))
          all_goals (try (exfalso; have hh : ((s[k].toNat : Int) != 32) = false ∨ ((s[k].toNat : Int) != 9) = false := by assumption
                          rw [h4, h5] at hh; exact absurd hh (by decide)))
          go_ret2
          exact ⟨rfl, hb1⟩
      · have hall : (s.data.toList.drop u).all isBlk = true := by
          rw [HA.out, List.drop_of_length_le (by rw [ba_len2]; omega)]; rfl
        obtain ⟨rfl, rfl⟩ := H2.out.1 hall
        clear hall HA
        go_wp2
        go_ret2
        exact ⟨rfl, hb1⟩
theorem refLooks_any (s : ByteArray) (w : World) (hs : s.size ≤ 30000000000000) :
    Calls Tryz.prog 24 #[.string s] w fun e w' => e = looksE s.data.toList ∧ Below w.heap.size w w' := by
  have hlen := ba_len2 s
  have hcs := readD_cases s.data.toList
  obtain ⟨u, hu, hu2⟩ : ∃ u : Nat, (readD s.data.toList).2.1 = (u : Int) ∧ u ≤ s.size := by
    rcases hcs with ⟨_, _, h3, h4⟩ | ⟨_, _, h3⟩
    · exact ⟨(readD s.data.toList).2.1.toNat, by omega, by omega⟩
    · exact ⟨0, h3, Nat.zero_le _⟩
  refine refLooks_walk s (readD s.data.toList).1 (readD s.data.toList).2.2 _ _ u w hs hu2 (fun w => ?_) ?_
  · have := refRead_any s w hs
    rw [readE_tuple, hu] at this
    exact this
  · show _ ∨ _
    unfold looksD
    rw [hu, Int.toNat_natCast]
    by_cases h0 : (readD s.data.toList).2.2 = 0
    · right
      rw [h0]
      refine ⟨rfl, fun h => ?_, fun h => ?_⟩
      · rw [if_pos ⟨rfl, h⟩]; exact ⟨rfl, rfl⟩
      · rw [if_neg (by rw [h]; simp)]; exact ⟨rfl, rfl⟩
    · left
      rw [if_neg (fun h => h0 h.1)]
      exact ⟨bne_iff_ne.2 h0, rfl, rfl⟩
theorem refNumber_walk (s : ByteArray) (n u er m f : Int) (w : World) (k1 : ∀ w, Calls Tryz.prog 34 #[.string s] w fun e w' => e = .returned (.tuple #[.int .i64 n, .int .i64 u, .int .i64 er]) ∧ Below w.heap.size w w')
    (h : er = 2 ∧ m = 0 ∧ f = 0 ∨ ((er : Int) == 2) = false ∧ m = n ∧ f = er) :
    Calls Tryz.prog 14 #[.string s] w fun e w' => e = .returned (.tuple #[.int .i64 m, .int .i64 f]) ∧ Below w.heap.size w w' := by
  rcases h with ⟨rfl, rfl, rfl⟩ | ⟨h1, rfl, rfl⟩
  all_goals
    go_enter Tryz.func14, Tryz.ntmps14
    go_wp2_with (go_at_call 34; refine (k1 _).mono ?_; rintro e w1 ⟨rfl, hb1⟩)
    go_ret2
    exact ⟨rfl, hb1⟩
theorem refNumber_any (s : ByteArray) (w : World) (hs : s.size ≤ 30000000000000) :
    Calls Tryz.prog 14 #[.string s] w fun e w' => e = numberE s.data.toList ∧ Below w.heap.size w w' := by
  refine refNumber_walk s _ _ _ _ _ w (fun w => refRead_any s w hs) ?_
  unfold numberD
  by_cases h : (readD s.data.toList).2.2 = 2
  · left; rw [if_pos h]; exact ⟨h, rfl, rfl⟩
  · right; rw [if_neg h]; exact ⟨beq_eq_false_iff_ne.2 h, rfl, rfl⟩
end Go.Proofs.YtokfkckfclnoaaaGreatDoor
