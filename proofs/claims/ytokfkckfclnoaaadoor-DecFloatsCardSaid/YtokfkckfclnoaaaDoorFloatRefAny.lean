/- The document's Float answers as dec.Float does. Condition: the bits are 64. -/
import Derived.Test.YtokfkckfclnoaaaDoorFloatRefWalk
namespace Go.Proofs.YtokfkckfclnoaaaDoor
open Go.RowKit

theorem mill_over (U r : Nat) (hU : U = 2 ^ 1074) (h : w15 ≤ r) : 9223372036854775808 < mill r := by
  have hUp : 0 < U := by rw [hU]; exact Nat.two_pow_pos 1074
  have hl : 1000000000000000 * U ≤ lst r := by
    rw [← w15_of 1074 U rfl hU]
    rcases Nat.lt_or_eq_of_le h with h1 | h1
    · exact Nat.le_of_lt (lst_mono h1)
    · rw [h1]; exact Nat.le_refl _
  have := mill_over_of (lst r) U hUp hl
  unfold mill
  rw [← hU]
  exact this
theorem floatN_over (b : Nat) (h : rung b < infR) (hm : 9223372036854775808 < mill (rung b)) : floatE b = .returned (.tuple #[.int .i64 0, .int .i64 3]) := by
  have : floatN b = (0, 3) := by
    unfold floatN
    rw [if_neg (by omega), if_neg (by omega)]
    unfold into
    rw [if_neg (by unfold sgn; split <;> omega)]
  unfold floatE
  rw [this]
theorem back_into (s : Bool) (n : Nat) : backP s (n : Int) = into (sgn s n) := by
  unfold backP into sgn
  cases s
  · simp only [Bool.false_eq_true, if_false]
    by_cases h : (n : Int) ≤ 9223372036854775807
    · rw [if_pos h, if_pos (by omega)]
    · rw [if_neg h, if_neg (by omega)]
  · simp only [if_true]
    by_cases h : (n : Int) ≤ 9223372036854775808
    · rw [if_pos h, if_pos (by omega)]
    · rw [if_neg h, if_neg (by omega)]
theorem sgb_bits (b : Nat) (hb : b < 18446744073709551616) : b = (if sgb b then 9223372036854775808 + rung b else rung b) := by
  by_cases h : b < 9223372036854775808
  · rw [sgb_low h, rung_self h, if_neg (by simp)]
  · have h1 : b / 9223372036854775808 = 1 := by omega
    have hs : sgb b = true := by unfold sgb; rw [h1]; rfl
    rw [hs, if_pos rfl]
    unfold rung
    omega

theorem refFloat_any (b : Nat) (w : World) (hb : b < 18446744073709551616) :
    Calls Tryd.prog 32 #[.float .f64 b] w fun e w' => e = floatE b ∧ Below w.heap.size w w' := by
  have hI : infR = 9218868437227405312 := rfl
  have hw15 : w15 = 4831355200913801216 := rfl
  by_cases h1 : infR < rung b
  · have he : floatE b = .returned (.tuple #[.int .i64 0, .int .i64 5]) := by unfold floatE floatN; rw [if_pos h1]
    rw [he]
    exact refFloat_nan b w (isNaN_nan b h1)
  by_cases h2 : rung b = infR
  · have he : floatE b = .returned (.tuple #[.int .i64 0, .int .i64 3]) := by unfold floatE floatN; rw [if_neg h1, if_pos h2]
    rw [he]
    refine refFloat_far b w (isNaN_inf b h2) ?_
    have hbb := sgb_bits b hb
    rw [h2] at hbb
    cases hs : sgb b
    · rw [hs] at hbb
      left
      rw [hbb]
      kernel_rfl
    · rw [hs] at hbb
      right
      rw [hbb]
      exact ⟨by kernel_rfl, by kernel_rfl⟩
  have hf : rung b < infR := by omega
  obtain ⟨U, hU⟩ : ∃ U : Nat, U = 2 ^ 1074 := ⟨_, rfl⟩
  have g1 := gt_at b 9094988921128908188 hf (by decide)
  have g2 := lt_at b 9094988921128908188 hf (by decide)
  by_cases h3 : 9094988921128908188 < rung b
  · rw [floatN_over b hf (mill_over U (rung b) hU (by omega))]
    rw [decide_eq_true h3] at g1 g2
    refine refFloat_far b w (isNaN_fin b hf) ?_
    cases hs : sgb b
    · rw [hs] at g1; exact .inl g1
    · rw [hs] at g1 g2; exact .inr ⟨g1, g2⟩
  rw [decide_eq_false h3, Bool.and_false] at g1 g2
  have hbb := sgb_bits b hb
  by_cases h4 : w15 ≤ rung b
  · rw [floatN_over b hf (mill_over U (rung b) hU h4)]
    have h0 : rung b ≠ 0 := by omega
    have hg := geq_at (rung b) (by rw [rung_rung]; exact hf) (fun hx => by rw [sgb_low (by omega)] at hx; cases hx)
    rw [rung_rung, decide_eq_true h4] at hg
    refine refFloat_over b (rung b) (sgb b) w (isNaN_fin b hf) g1 g2 (lt_none b hf h0) ?_ hg
    cases hs : sgb b
    · rw [hs] at hbb; exact .inr ⟨rfl, hbb⟩
    · exact .inl ⟨rfl, neg_off b hf h0 hs⟩
  · have hc : ∃ c neg, rung c = rung b ∧ (sgb c = true → rung c = 0) ∧ (FloatKind.f64.format.order b 0 == some .lt) = neg ∧ ((neg = true ∧ FloatKind.f64.format.sub 0 b = some c) ∨ (neg = false ∧ b = c)) ∧ backP neg (mill (rung b) : Int) = into (sgn (sgb b) (mill (rung b))) := by
      by_cases h0 : rung b = 0
      · refine ⟨b, _, rfl, fun _ => h0, rfl, .inr ⟨?_, rfl⟩, ?_⟩
        · show (Ieee.double.order b 0 == some .lt) = false
          rw [order_fin b 0 hf (by decide), (sv_none b).2 h0]; decide
        · rw [back_into, h0, mill_none]
          cases sgb b <;> cases (FloatKind.f64.format.order b 0 == some .lt) <;> rfl
      · cases hs : sgb b
        · have hl := lt_none b hf h0
          rw [hs] at hl
          exact ⟨b, false, rfl, (fun hx => by rw [hs] at hx; cases hx), hl, .inr ⟨rfl, rfl⟩, back_into _ _⟩
        · have hl := lt_none b hf h0
          rw [hs] at hl
          exact ⟨rung b, true, rung_rung b, (fun hx => by rw [sgb_low (by omega)] at hx; cases hx), hl, .inl ⟨rfl, neg_off b hf h0 hs⟩, back_into _ _⟩
    obtain ⟨c, neg, c1, c2, c3, c4, c5⟩ := hc
    obtain ⟨W, R, q, p0, s1, s2, s3, s4, s5, s6⟩ := start_main U c hU (by omega) c2
    have hg := geq_at c (by omega) c2
    rw [decide_eq_false (by omega)] at hg
    have hUp : 0 < U := by rw [hU]; exact Nat.two_pow_pos 1074
    rw [c1] at s1
    have hL : lst (rung b) < 1000000000000000 * U := by
      rw [← w15_of 1074 U rfl hU]; exact lst_mono (by omega)
    refine refFloat_walk b c q p0 (lst (rung b)) U W R neg (floatE b) w (isNaN_fin b hf) g1 g2 c3 (Lib.hid c4) hg s3 s4 s5 (Lib.hid s6) (Lib.hid hU) (Lib.hid s1) s2 ?_ (Lib.hid hL) (Lib.hid hUp)
    intro X R' hX hR
    have hm := end_main U (rung b) X R' hU hX hR
    rw [hm, c5]
    unfold floatE floatN
    rw [if_neg h1, if_neg h2]

end Go.Proofs.YtokfkckfclnoaaaDoor
