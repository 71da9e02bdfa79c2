/- ClassSigns: at every byte and text the call returns true. No condition. -/
import Derived.Test.YtojjjkicgbdknaaClsShown
namespace Go.Proofs.Ytojjjkicgbdknaa
open Go.RowKit Go.Lib

set_option maxHeartbeats 4000000 in
set_option maxRecDepth 100000 in
theorem signs_one (c : UInt8) (T s : ByteArray) (w : World) (hT : T.size = 1) (hs : ¬ 100 < s.size)
    (k1 : ∀ Z, Calls Try.prog 16 #[.int .u8 (c.toNat : Int)] Z fun e w' => e = .returned (.string T) ∧ Below Z.heap.size Z w')
    (k2 : ∀ Z, Calls Try.prog 8 #[.string (T ++ s)] Z fun e w' => e = .returned (.tuple #[.int .u8 (c.toNat : Int), .int .i64 1, .int .i64 0]) ∧ Below Z.heap.size Z w') :
    Calls Try.prog 5 #[.int .u8 (c.toNat : Int), .string s] w fun e w' => e = .returned (.bool true) ∧ Below w.heap.size w w' := by
  have ks := shown_any
  have hn : ¬ 9223372036854775807 < T.size + s.size := by omega
  have hn1 : ¬ 9223372036854775807 < 1 + s.size := by omega
  go_enter Try.func5, Try.ntmps5
  go_wp2_with (first
      | (go_at_call 7; refine (ks _).mono ?_; clear ks; rintro e w1 ⟨rfl, hb1⟩)
      | (go_at_call 16; with_reducible refine (k1 _).mono ?_; clear k1; rintro e w2 ⟨rfl, hb2⟩)
      | (go_at_call 8; with_reducible refine (k2 _).mono ?_; clear k2; rintro e w3 ⟨rfl, hb3⟩))
  refine wp_loop_rounds 5 ?_
  rw [rounds_succ]
  go_wp2
  go_ret
  exact ⟨rfl, below_up (below_up hb1 hb2 hb1.size) hb3 (below_up hb1 hb2 hb1.size).size⟩

set_option maxHeartbeats 8000000 in
set_option maxRecDepth 100000 in
theorem signs_four (c : UInt8) (T s : ByteArray) (d2 d3 : Int) (w : World) (hT : T.size = 4) (h0 : 0 < T.size) (h1 : 1 < T.size) (h2 : 2 < T.size) (h3 : 3 < T.size)
    (x0 : (T[0].toNat : Int) = 92) (x1 : (T[1].toNat : Int) = 120) (x2 : (T[2].toNat : Int) = d2) (x3 : (T[3].toNat : Int) = d3)
    (f2 : 48 ≤ d2 ∧ d2 ≤ 57 ∨ 97 ≤ d2 ∧ d2 ≤ 102) (f3 : 48 ≤ d3 ∧ d3 ≤ 57 ∨ 97 ≤ d3 ∧ d3 ≤ 102) (hs : ¬ 100 < s.size)
    (k1 : ∀ Z, Calls Try.prog 16 #[.int .u8 (c.toNat : Int)] Z fun e w' => e = .returned (.string T) ∧ Below Z.heap.size Z w')
    (k2 : ∀ Z, Calls Try.prog 8 #[.string (T ++ s)] Z fun e w' => e = .returned (.tuple #[.int .u8 (c.toNat : Int), .int .i64 4, .int .i64 0]) ∧ Below Z.heap.size Z w') :
    Calls Try.prog 5 #[.int .u8 (c.toNat : Int), .string s] w fun e w' => e = .returned (.bool true) ∧ Below w.heap.size w w' := by
  have ks := shown_any
  have hn : ¬ 9223372036854775807 < T.size + s.size := by omega
  have hn1 : ¬ 9223372036854775807 < 4 + s.size := by omega
  have p2 : 48 ≤ d2 := by omega
  have p3 : 48 ≤ d3 := by omega
  go_enter Try.func5, Try.ntmps5
  go_wp2_with (first
      | (go_at_call 7; refine (ks _).mono ?_; clear ks; rintro e w1 ⟨rfl, hb1⟩)
      | (go_at_call 16; with_reducible refine (k1 _).mono ?_; clear k1; rintro e w2 ⟨rfl, hb2⟩)
      | (go_at_call 8; with_reducible refine (k2 _).mono ?_; clear k2; rintro e w3 ⟨rfl, hb3⟩))
  have HB := Lib.hid (below_up (below_up hb1 hb2 hb1.size) hb3 (below_up hb1 hb2 hb1.size).size)
  clear hb1 hb2 hb3 hn hn1
  rcases f2 with ⟨_, q2⟩ | ⟨q2, r2⟩ <;> rcases f3 with ⟨_, q3⟩ | ⟨q3, r3⟩
  all_goals
    first | have n2 : ¬ d2 ≤ 57 := (by omega) | skip
    first | have n3 : ¬ d3 ≤ 57 := (by omega) | skip
    refine wp_loop_rounds 5 ?_
    rw [rounds_succ]
    go_wp2
    rw [rounds_succ]
    go_wp2
    rw [rounds_succ]
    go_wp2
    rw [rounds_succ]
    go_wp2
    go_ret
    exact ⟨rfl, HB.out⟩

theorem told_dig : ∀ n : Fin 256, restOk n.val.toUInt8 = false → (n.val.toUInt8 == 32) = false → (toldD (hexL [n.val.toUInt8]) = some ((n.val : Int), 4) ∧ (hexL [n.val.toUInt8]).all (fun d => (48 ≤ d.toNat && d.toNat ≤ 57) || (97 ≤ d.toNat && d.toNat ≤ 102)) = true) := by decide +kernel
theorem rest_plain : ∀ n : Fin 256, restOk n.val.toUInt8 = true ∨ n.val.toUInt8 = 32 → (n.val.toUInt8 ≠ 92 ∧ ¬ (n.val.toUInt8 = 10 ∨ heldL.contains n.val.toUInt8 = true)) := by decide +kernel
theorem back256 (c : UInt8) : c.toNat.toUInt8 = c := by simp

theorem signs_walk (c : UInt8) (s : ByteArray) (_hs : s.size ≤ 140737488351232) (w : World) : Calls Try.prog 5 #[.int .u8 (c.toNat : Int), .string s] w fun e w' => e = .returned (.bool true) ∧ Below w.heap.size w w' := by
  by_cases hb : 100 < s.size
  · have ks := shown_any
    go_enter Try.func5, Try.ntmps5
    go_wp2_with (first | (go_at_call 7; refine (ks _).mono ?_; clear ks; rintro e w1 ⟨rfl, hb1⟩))
    go_ret
    exact ⟨rfl, hb1⟩
  · have hc := c.toNat_lt
    by_cases hp : c = 32 ∨ restOk c = true
    · have hpl : plainL c = [c] := by unfold plainL; rw [if_pos hp]
      have hr := rest_plain ⟨c.toNat, hc⟩
      simp only [back256] at hr
      obtain ⟨r1, r2⟩ := hr hp.symm
      have k1 := plain_any c
      rw [hpl] at k1
      refine signs_one c _ s w rfl hb k1 fun Z => ?_
      have k2 := sign_any (⟨[c].toArray⟩ ++ s) Z
      rw [ByteArray.data_append, Array.toList_append] at k2
      have e2 : signD ([c] ++ s.data.toList) = some ((c.toNat : Int), 1) := by
        show (if c = 92 then _ else _) = _
        rw [if_neg r1, if_neg r2]
      exact k2.mono fun e w' h => ⟨h.1.trans (by rw [show (⟨[c].toArray⟩ : ByteArray).data.toList = [c] from rfl, e2]; rfl), h.2⟩
    · have hpl : plainL c = 92 :: hexT [c] := by unfold plainL; rw [if_neg hp]
      have hr := told_dig ⟨c.toNat, hc⟩
      simp only [back256] at hr
      obtain ⟨r1, r2⟩ := hr (by cases h : restOk c <;> simp_all) (by cases h : c == 32 <;> simp_all)
      obtain ⟨x, y, hxy⟩ : ∃ x y, hexL [c] = [x, y] := ⟨_, _, rfl⟩
      rw [hxy] at r1 r2
      have k1 := plain_any c
      rw [hpl, show hexT [c] = 120 :: hexL [c] from rfl, hxy] at k1
      simp only [List.all_cons, List.all_nil, Bool.and_true, Bool.and_eq_true, Bool.or_eq_true, decide_eq_true_eq] at r2
      refine signs_four c ⟨[92, 120, x, y].toArray⟩ s (x.toNat : Int) (y.toNat : Int) w rfl (show 0 < 4 by decide) (show 1 < 4 by decide) (show 2 < 4 by decide) (show 3 < 4 by decide) rfl rfl rfl rfl (by omega) (by omega) hb k1 fun Z => ?_
      have k2 := sign_any (⟨[92, 120, x, y].toArray⟩ ++ s) Z
      rw [ByteArray.data_append, Array.toList_append] at k2
      have e2 : signD ([92, 120, x, y] ++ s.data.toList) = some ((c.toNat : Int), 4) := r1
      exact k2.mono fun e w' h => ⟨h.1.trans (by rw [show (⟨[92, 120, x, y].toArray⟩ : ByteArray).data.toList = [92, 120, x, y] from rfl, e2]; rfl), h.2⟩
end Go.Proofs.Ytojjjkicgbdknaa
