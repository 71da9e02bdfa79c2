/- The document's way with what is left of a float below 1: doubled, and a one taken off where there is one. All of it is exact. -/
import Derived.Test.YtokfkckfclnoaaaDoorFloatMono
namespace Go.Proofs.YtokfkckfclnoaaaDoor
open Ieee

/-- What is left: the float's bits, how many times the least one it is; U is how many times the least one 1 is. -/
def Rest (U p R : Nat) : Prop := rung p < infR ∧ lst (rung p) = R ∧ (sgb p = true → R = 0) ∧ R < U ∧ ∃ c e, c < 9007199254740992 ∧ e ≤ 1074 ∧ R = c * 2 ^ e

theorem lst_of_one : lst 4607182418800017408 = 2 ^ 52 * 2 ^ 1022 := by
  unfold lst
  rw [show mgn 4607182418800017408 = 2 ^ 52 by decide, show plc 4607182418800017408 = 1022 by decide]
theorem lst_of_two : lst 4611686018427387904 = 2 ^ 52 * 2 ^ 1023 := by
  unfold lst
  rw [show mgn 4611686018427387904 = 2 ^ 52 by decide, show plc 4611686018427387904 = 1023 by decide]
theorem pow_join (a b c : Nat) (h : a + b = c) : (2 : Nat) ^ a * 2 ^ b = 2 ^ c := by rw [← Nat.pow_add, h]
theorem pow_twice (a b c : Nat) (h : a + b = c + 1) : (2 : Nat) ^ a * 2 ^ b = 2 * 2 ^ c := by rw [← Nat.pow_add, h, Nat.pow_succ, Nat.mul_comm]
theorem mul_swap (R U V : Nat) (h : U = V) : R * (2 * U) = 2 * R * V := by subst h; ac_rfl
theorem off_one (U c e K : Nat) (hU : U = 2 ^ K) (h : e + 1 ≤ K) : 2 * (c * 2 ^ e) - U = (c - 2 ^ (K - (e + 1))) * 2 ^ (e + 1) := by
  rw [Nat.mul_sub_right_distrib, ← Nat.pow_add, Nat.sub_add_cancel h, ← hU, Nat.pow_succ]
  congr 1
  ac_rfl
theorem two_one_of (K U : Nat) (hK : K = 1074) (hU : U = 2 ^ K) : lst 4607182418800017408 = U ∧ lst 4611686018427387904 = 2 * U := by
  refine ⟨?_, ?_⟩
  · rw [hU]; exact lst_of_one.trans (pow_join 52 1022 K (by rw [hK]))
  · rw [hU]; exact lst_of_two.trans (pow_twice 52 1023 K (by rw [hK]))
theorem two_one (U : Nat) (hU : U = 2 ^ 1074) : lst 4607182418800017408 = U ∧ lst 4611686018427387904 = 2 * U := two_one_of 1074 U rfl hU
theorem mul_fin_of (x y r U : Nat) (hU : U = 2 ^ 1074) (hx : rung x < infR) (hy : rung y < infR) (hr : r < infR) (h : lst (rung x) * lst (rung y) = lst r * U) : double.mul x y = some (double.word (sgb x ^^ sgb y) r) := by
  rw [hU] at h
  exact mul_fin x y r hx hy hr h
theorem word_sv {p R : Nat} (h : lst (rung p) = R) (hs : sgb p = true → R = 0) : sv p = (R : Int) := by
  unfold sv
  cases e : sgb p
  · simp [h]
  · have := hs e; simp [h, this]
theorem log_of {c n : Nat} (h : c < 2 ^ n) (hn : 0 < n) : c.log2 < n := by
  by_cases h0 : c = 0
  · subst h0; exact hn
  · exact (Nat.log2_lt h0).2 h
theorem pow_lt_of (U c e : Nat) (K : Nat) (hU : U = 2 ^ K) (h : c * 2 ^ e < U) (he : K ≤ e) : c = 0 := by
  subst hU
  have hp : 2 ^ K ≤ 2 ^ e := Nat.pow_le_pow_right (by decide) he
  by_cases h0 : c = 0
  · exact h0
  · have : 1 * 2 ^ e ≤ c * 2 ^ e := Nat.mul_le_mul_right _ (by omega)
    omega

theorem rest_step (U p R : Nat) (hU : U = 2 ^ 1074) (h : Rest U p R) : ∃ p2, FloatKind.f64.format.mul p 4611686018427387904 = some p2 ∧
    ((2 * R < U ∧ (FloatKind.f64.format.order p2 4607182418800017408 == some .gt || FloatKind.f64.format.order p2 4607182418800017408 == some .eq) = false ∧ Rest U p2 (2 * R)) ∨
     (U ≤ 2 * R ∧ (FloatKind.f64.format.order p2 4607182418800017408 == some .gt || FloatKind.f64.format.order p2 4607182418800017408 == some .eq) = true ∧
      ∃ p3, FloatKind.f64.format.sub p2 4607182418800017408 = some p3 ∧ Rest U p3 (2 * R - U))) := by
  obtain ⟨h1, h2, h3, h4, c, e, hc, he, hR⟩ := h
  obtain ⟨o1, o2⟩ := two_one U hU
  have hI : infR = 9218868437227405312 := rfl
  have r1 : rung 4607182418800017408 = 4607182418800017408 := by decide
  have r2 : rung 4611686018427387904 = 4611686018427387904 := by decide
  have s1 : sgb 4607182418800017408 = false := by decide
  have s2 : sgb 4611686018427387904 = false := by decide
  have hUp : 0 < U := by rw [hU]; exact Nat.two_pow_pos 1074
  -- the double
  obtain ⟨q, hq, hql⟩ := rung_of c (e + 1) hc (by have := log_of (n := 53) hc (by decide); omega)
  have hq2 : lst q = 2 * R := by rw [hql, Nat.pow_succ, hR]; ac_rfl
  have hmul : FloatKind.f64.format.mul p 4611686018427387904 = some (double.word (sgb p) q) := by
    show double.mul _ _ = _
    have hx : lst (rung p) * lst (rung 4611686018427387904) = lst q * U := by rw [h2, r2, o2, hq2]; exact mul_swap R U U rfl
    have := mul_fin_of p 4611686018427387904 q U hU h1 (by rw [r2]; decide) hq hx
    rw [this, s2, Bool.xor_false]
  obtain ⟨w1, w2⟩ := rung_word (sgb p) q (by omega)
  have hsv : sv (double.word (sgb p) q) = ((2 * R : Nat) : Int) := word_sv (by rw [w1, hq2]) (by rw [w2]; intro hx; rw [h3 hx])
  have hord : FloatKind.f64.format.order (double.word (sgb p) q) 4607182418800017408 = some (compare ((2 * R : Nat) : Int) (U : Int)) := by
    show double.order _ _ = _
    rw [order_fin _ _ (by rw [w1]; exact hq) (by rw [r1]; decide), hsv, word_sv (p := 4607182418800017408) (R := U) (by rw [r1, o1]) (by rw [s1]; intro hx; cases hx)]
  refine ⟨double.word (sgb p) q, hmul, ?_⟩
  by_cases hlt : 2 * R < U
  · refine .inl ⟨hlt, ?_, by rw [w1]; exact hq, by rw [w1, hq2], by rw [w2]; intro hx; rw [h3 hx], hlt, ?_⟩
    · rw [hord, Std.compare_eq_lt.2 (by omega)]; rfl
    · by_cases he2 : e + 1 ≤ 1074
      · exact ⟨c, e + 1, hc, he2, by rw [hR, Nat.pow_succ]; ac_rfl⟩
      · have : c = 0 := pow_lt_of U c e 1074 hU (by omega) (by omega)
        exact ⟨0, 0, by decide, by decide, by rw [hR, this]; simp⟩
  · have hge : U ≤ 2 * R := by omega
    -- the one taken off
    have hcc : ∃ c2, c2 < 9007199254740992 ∧ 2 * R - U = c2 * 2 ^ (e + 1) ∧ e + 1 ≤ 1074 := by
      have he2 : e + 1 ≤ 1074 := by
        refine Nat.le_of_not_lt fun hn => ?_
        have : c = 0 := pow_lt_of U c e 1074 hU (by omega) (by omega)
        rw [this, Nat.zero_mul] at hR
        omega
      exact ⟨c - 2 ^ (1074 - (e + 1)), Nat.lt_of_le_of_lt (Nat.sub_le _ _) hc, by rw [hR]; exact off_one U c e 1074 hU he2, he2⟩
    obtain ⟨c2, d1, d2, d3⟩ := hcc
    obtain ⟨q3, hq3, hql3⟩ := rung_of c2 (e + 1) d1 (by have := log_of (n := 53) d1 (by decide); omega)
    rw [← d2] at hql3
    obtain ⟨v1, v2⟩ := rung_word false q3 (by omega)
    have hsub : FloatKind.f64.format.sub (double.word (sgb p) q) 4607182418800017408 = some (double.word false q3) := by
      show double.sub _ _ = _
      have hone : sv 4607182418800017408 = (U : Int) := word_sv (by rw [r1, o1]) (by rw [s1]; intro hx; cases hx)
      have hd : sv (double.word (sgb p) q) - sv 4607182418800017408 = ((2 * R - U : Nat) : Int) := by rw [hsv, hone]; omega
      have := sub_fin (double.word (sgb p) q) 4607182418800017408 q3 (by rw [w1]; exact hq) (by rw [r1]; decide) hq3 (by rw [hd, hql3]; rfl)
      rw [this, hd]
      have hsp : sgb p = false := by
        cases hs : sgb p
        · rfl
        · have := h3 hs; omega
      have hif : (if ((2 * R - U : Nat) : Int) = 0 then sgb (double.word (sgb p) q) && !sgb 4607182418800017408 else decide (((2 * R - U : Nat) : Int) < 0)) = false := by
        rw [w2, hsp]
        split
        · rfl
        · exact decide_eq_false (by omega)
      exact congrArg (fun z => some (double.word z q3)) hif
    refine .inr ⟨hge, ?_, double.word false q3, hsub, by rw [v1]; exact hq3, by rw [v1, hql3], (by rw [v2]; intro hx; cases hx), by omega, c2, e + 1, d1, d3, d2⟩
    rw [hord]
    rcases Nat.lt_or_eq_of_le hge with hx | hx
    · rw [Std.compare_eq_gt.2 (by omega)]; rfl
    · rw [← hx, Std.compare_self]; rfl

end Go.Proofs.YtokfkckfclnoaaaDoor
