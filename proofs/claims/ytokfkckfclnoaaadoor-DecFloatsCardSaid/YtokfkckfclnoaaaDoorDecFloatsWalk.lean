/- The statement DecFloats, walked: whatever the float is that its reckoning comes to (an operation without an answer draws the bits of a no number), dec's Float and the document's answer alike. -/
import Derived.Test.YtokfkckfclnoaaaDoorFloatRefAny
import Derived.Test.YtokfkckfclnoaaaDoorDecShown
namespace Go.Proofs.YtokfkckfclnoaaaDoor
open Go.RowKit

/-- An operation on floats ends with some float's bits; it draws at most once. -/
theorem arith_any (op : BinOp) (hop : op = .mul ∨ op = .quo ∨ op = .sub) (t : TypeId) (x y : Nat) (w : World) :
    ∃ r w', (binOp op t (.float .f64 x) (.float .f64 y)).run Tryd.prog w = .ok (.float .f64 r) w' ∧ r < 18446744073709551616 ∧ Below w.heap.size w w' := by
  cases hr : floatBits op .f64 x y with
  | some r =>
    refine ⟨r, w, run_float_arith w op t .f64 x y r hr, ?_, Below.refl _ _⟩
    have := floatBits_wf hr
    simpa [Lit.wf] using this
  | none =>
    refine ⟨(Question.nanBits .f64 x y).cut (w.tape w.drawn (.nanBits .f64 x y)), w.drew, ?_, ?_, (Below.refl _ w).drew⟩
    · unfold floatBits at hr
      rcases hop with rfl | rfl | rfl <;> simp [binOp, Op.floatArith, hr, Question.forced]
    · simp only [Question.cut]
      omega

theorem nan_rung (s k : Nat) (hs : s < 2) (hk : k < 4503599627370495) : 9218868437227405312 < rung (s * 9223372036854775808 + 9218868437227405312 + 1 + k) := by
  unfold rung
  have h : s = 0 ∨ s = 1 := by omega
  rcases h with rfl | rfl <;> omega
/-- What 0 less a float is, as both Floats answer it. -/
def negN (f : Nat) : Int × Int := match floatBits .sub .f64 0 f with | some r => floatN r | none => (0, 5)
theorem neg_any (t : TypeId) (f : Nat) (w : World) :
    ∃ r w', (binOp .sub t (.float .f64 0) (.float .f64 f)).run Tryd.prog w = .ok (.float .f64 r) w' ∧ r < 18446744073709551616 ∧ Below w.heap.size w w' ∧ floatN r = negN f := by
  cases hr : floatBits .sub .f64 0 f with
  | some r =>
    refine ⟨r, w, run_float_arith w .sub t .f64 0 f r hr, ?_, Below.refl _ _, ?_⟩
    · have := floatBits_wf hr
      simpa [Lit.wf] using this
    · unfold negN; rw [hr]
  | none =>
    refine ⟨(Question.nanBits .f64 0 f).cut (w.tape w.drawn (.nanBits .f64 0 f)), w.drew, ?_, ?_, (Below.refl _ w).drew, ?_⟩
    · unfold floatBits at hr
      simp [binOp, Op.floatArith, hr, Question.forced]
    · simp only [Question.cut]
      omega
    · unfold negN
      rw [hr]
      have hn : infR < rung ((Question.nanBits .f64 0 f).cut (w.tape w.drawn (.nanBits .f64 0 f))) := by
        have hI : infR = 9218868437227405312 := rfl
        simp only [Question.cut]
        rw [hI]
        exact nan_rung _ _ (Nat.mod_lt _ (by decide)) (Nat.mod_lt _ (by decide))
      unfold floatN
      rw [if_pos hn]

set_option maxHeartbeats 4000000 in
set_option maxRecDepth 100000 in
theorem floats_walk (a b pw : Int) (w : World) (hp1 : -1100 ≤ pw) (hp2 : pw ≤ 1100) (c1 : Calls Tryd.prog 12 #[] w fun e w' => e = .returned (.bool true) ∧ Below w.heap.size w w') :
    Calls Tryd.prog 5 #[.int .i64 a, .int .i64 b, .int .i64 pw] w fun e w' => e = .returned (.bool true) ∧ Below w.heap.size w w' := by
  go_enter Tryd.func5, Tryd.ntmps5
  go_upto_region 4 with (go_at_call 12; with_reducible refine c1.mono ?_; rintro e w1 ⟨rfl, hb1⟩)
  obtain ⟨f0, w2, hrun0, hf0, hb2⟩ := arith_any .quo (.inr (.inl rfl)) 38 (floatOfInt .f64 a) (floatOfInt .f64 b) w1
  have HB2 := Lib.hid (hb1.trans (hb2.mono hb1.size))
  clear c1
  go_upto_block 0 with fail
  go_cut [8] (fun s8 wx => ∃ f : Nat, s8 = .float .f64 f ∧ Hid (f < 18446744073709551616) ∧ Hid (Below w.heap.size w wx))
  case first =>
    clear hrun0 hb1 hb2
    go_wp2
    go_loopg [9, 8] pw.toNat (fun n s9 s8 wr => ∃ i f : Nat, Hid (n + i = pw.toNat) ∧ i ≤ 1100 ∧ s9 = .int .i64 (i : Int) ∧ s8 = .float .f64 f ∧ Hid (f < 18446744073709551616) ∧ Hid (Below w.heap.size w wr))
    case atStart => exact ⟨0, f0, by show _ = _; omega, by omega, rfl, rfl, hf0, HB2.out⟩
    case round =>
      obtain ⟨i, f, HN, hi, rfl, rfl, HF, HB⟩ := hrel
      by_cases hlt : (i : Int) < pw
      · have HL := Lib.hid hlt
        obtain ⟨r, w3, hrun, hr, hb3⟩ := arith_any .mul (.inl rfl) 38 f 4611686018427387904 wr
        have HB3 := Lib.hid (HB.out.trans (hb3.mono HB.out.size))
        clear hb3
        go_wp2
        go_roundg (gk - 1)
        case measure => have h1 := HN.out; have h2 := HL.out; omega
        case rel => exact ⟨i + 1, r, by have h1 := HN.out; have h2 := HL.out; show _ = _; omega, by have h2 := HL.out; omega, by go_num, rfl, hr, HB3.out⟩
      · go_wp2
        go_meet
        case rel => exact ⟨f, rfl, HF.out, HB.out⟩
  case rest =>
    obtain ⟨f1, rfl, HF1, HB3⟩ := hcut
    clear hrun0 hb1 hb2 hf0 HB2
    go_upto_block 2 with fail
    go_cut [8] (fun s8 wx => ∃ f : Nat, s8 = .float .f64 f ∧ Hid (f < 18446744073709551616) ∧ Hid (Below w.heap.size w wx))
    case first =>
      go_wp2
      go_loopg [10, 8] (-pw).toNat (fun n s10 s8 wr => ∃ (j : Int) (f : Nat), Hid ((n : Int) - j = (-pw).toNat) ∧ (-1100 ≤ j ∧ j ≤ 0) ∧ s10 = .int .i64 j ∧ s8 = .float .f64 f ∧ Hid (f < 18446744073709551616) ∧ Hid (Below w.heap.size w wr))
      case atStart => exact ⟨0, f1, by show _ = _; omega, by omega, rfl, rfl, HF1.out, HB3.out⟩
      case round =>
        obtain ⟨j, f, HN, hj, rfl, rfl, HF, HB⟩ := hrel
        by_cases hlt : pw < j
        · have HL := Lib.hid hlt
          obtain ⟨r, w3, hrun, hr, hb3⟩ := arith_any .quo (.inr (.inl rfl)) 38 f 4611686018427387904 wr
          have HB4 := Lib.hid (HB.out.trans (hb3.mono HB.out.size))
          have hw1 : wrap64 (j - 1) = j - 1 := by unfold wrap64; omega
          have HJ := Lib.hid hj
          clear hb3 hj
          go_wp2
          go_roundg (gk - 1)
          case measure => have h1 := HN.out; have h2 := HL.out; have h3 := HJ.out; omega
          case rel => exact ⟨j - 1, r, by have h1 := HN.out; have h2 := HL.out; have h3 := HJ.out; show _ = _; omega, by have h2 := HL.out; have h3 := HJ.out; omega, by go_num, rfl, hr, HB4.out⟩
        · go_wp2
          go_meet
          case rel => exact ⟨f, rfl, HF.out, HB.out⟩
    case rest =>
      obtain ⟨f, rfl, HF, HBw⟩ := hcut
      have k1 := fun w => float_any f w HF.out
      have k2 := fun w => refFloat_any f w HF.out
      unfold floatE at k1 k2
      generalize floatN f = rf at k1 k2
      go_upto_region 15 with (first
        | (go_at_call 31; (with_reducible refine (k1 _).mono ?_); rintro e w4 ⟨rfl, hb4⟩; have HB4 := Lib.hid (HBw.out.trans (hb4.mono HBw.out.size)))
        | (go_at_call 32; (with_reducible refine (k2 _).mono ?_); rintro e w5 ⟨rfl, hb5⟩; have HB5 := Lib.hid (HB4.out.trans (hb5.mono HB4.out.size))))
      obtain ⟨r1, w6, hrun1, hr1, hb6, hn1⟩ := neg_any 38 f w5
      have HB6 := Lib.hid (HB5.out.trans (hb6.mono HB5.out.size))
      have k3 := fun w => float_any r1 w hr1
      unfold floatE at k3
      rw [hn1] at k3
      generalize hN : negN f = rn at k3
      clear hb4 hb5 hb6 hn1 k1 k2 HBw
      go_upto_region 16 with (go_at_call 31; (with_reducible refine (k3 _).mono ?_); rintro e w7 ⟨rfl, hb7⟩; have HB7 := Lib.hid (HB6.out.trans (hb7.mono HB6.out.size)))
      obtain ⟨r2, w8, hrun2, hr2, hb8, hn2⟩ := neg_any 38 f w7
      have HB8 := Lib.hid (HB7.out.trans (hb8.mono HB7.out.size))
      have k4 := fun w => refFloat_any r2 w hr2
      unfold floatE at k4
      rw [hn2, hN] at k4
      clear hb7 hb8 hn2 hN k3 hrun1
      go_wp2_with (go_at_call 32; (with_reducible refine (k4 _).mono ?_); rintro e w9 ⟨rfl, hb9⟩; have HB9 := Lib.hid (HB8.out.trans (hb9.mono HB8.out.size)))
      all_goals
        go_ret
        exact ⟨by first | rfl | simp, HB9.out⟩

theorem decFloats_walk (a : Int) (_ha : -9223372036854775808 ≤ a ∧ a ≤ 9223372036854775807) (b : Int) (_hb : -9223372036854775808 ≤ b ∧ b ≤ 9223372036854775807) (pw : Int) (_hp : -9223372036854775808 ≤ pw ∧ pw ≤ 9223372036854775807) (w : World) (ht : Tab w) :
    Calls Tryd.prog 5 #[.int .i64 a, .int .i64 b, .int .i64 pw] w fun e w' => e = .returned (.bool true) ∧ Below w.heap.size w w' := by
  have c1 := shown_any w ht
  by_cases h1 : pw < -1100
  · clear ht
    go_enter Tryd.func5, Tryd.ntmps5
    go_wp2_with (go_at_call 12; with_reducible refine c1.mono ?_; rintro e w1 ⟨rfl, hb1⟩)
    go_ret
    exact ⟨rfl, hb1⟩
  · by_cases h2 : 1100 < pw
    · clear ht
      go_enter Tryd.func5, Tryd.ntmps5
      go_wp2_with (go_at_call 12; with_reducible refine c1.mono ?_; rintro e w1 ⟨rfl, hb1⟩)
      go_ret
      exact ⟨rfl, hb1⟩
    · exact floats_walk a b pw w (by omega) (by omega) c1

end Go.Proofs.YtokfkckfclnoaaaDoor
