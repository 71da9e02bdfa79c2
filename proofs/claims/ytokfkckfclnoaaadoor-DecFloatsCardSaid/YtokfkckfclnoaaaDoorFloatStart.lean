/- How the document's way with a float begins: its tests, its whole part, and what is left. -/
import Derived.Test.YtokfkckfclnoaaaDoorFloatRest
import Derived.Test.YtokfkckfclnoaaaDoorFloatDec
import Derived.Test.YtokfkckfclnoaaaDoorDecRefRead3
namespace Go.Proofs.YtokfkckfclnoaaaDoor
open Ieee

/-- 10^15 and 10^300, as words. -/
def w15 : Nat := 4831355200913801216
def w300 : Nat := 9094988921128908188

theorem gt_at (b c : Nat) (hb : rung b < infR) (hc : c < infR) : (FloatKind.f64.format.order b c == some .gt) = (!sgb b && decide (c < rung b)) := by
  have hI : infR = 9218868437227405312 := rfl
  show (double.order b c == some .gt) = _
  have hcc : rung c = c := rung_self (by omega)
  rw [order_fin b c hb (by rw [hcc]; exact hc), sv_low (r := c) (by omega)]
  have h0 : lst 0 = 0 := by decide
  have hlc : 0 ≤ lst c := Nat.zero_le _
  unfold sv
  cases hs : sgb b
  · simp only [Bool.false_eq_true, if_false, Bool.not_false, Bool.true_and]
    rcases Nat.lt_trichotomy (rung b) c with h | h | h
    · rw [Std.compare_eq_lt.2 (by have := lst_mono h; omega), decide_eq_false (by omega)]; rfl
    · rw [h, Std.compare_self, decide_eq_false (by omega)]; rfl
    · rw [Std.compare_eq_gt.2 (by have := lst_mono h; omega), decide_eq_true h]; rfl
  · simp only [if_true, Bool.not_true, Bool.false_and]
    have : ¬ compare (-(lst (rung b) : Int)) (lst c : Int) = .gt := by
      intro hx; have := Std.compare_eq_gt.1 hx; omega
    cases hcm : compare (-(lst (rung b) : Int)) (lst c : Int)
    · rfl
    · rfl
    · exact absurd hcm this
theorem lt_at (b c : Nat) (hb : rung b < infR) (hc : c < infR) : (FloatKind.f64.format.order b (9223372036854775808 + c) == some .lt) = (sgb b && decide (c < rung b)) := by
  have hI : infR = 9218868437227405312 := rfl
  show (double.order b (9223372036854775808 + c) == some .lt) = _
  have hcc : rung (9223372036854775808 + c) = c := by unfold rung; omega
  have hcs : sgb (9223372036854775808 + c) = true := by
    unfold sgb
    rw [show (9223372036854775808 + c) / 9223372036854775808 = 1 by omega]; rfl
  rw [order_fin b _ hb (by rw [hcc]; exact hc)]
  unfold sv
  rw [hcs, hcc]
  cases hs : sgb b
  · simp only [if_true, Bool.false_and, Bool.false_eq_true, if_false]
    have : ¬ compare (lst (rung b) : Int) (-(lst c : Int)) = .lt := by
      intro hx; have := Std.compare_eq_lt.1 hx; omega
    cases hcm : compare (lst (rung b) : Int) (-(lst c : Int))
    · exact absurd hcm this
    · rfl
    · rfl
  · simp only [if_true, Bool.true_and]
    rcases Nat.lt_trichotomy (rung b) c with h | h | h
    · rw [Std.compare_eq_gt.2 (by have := lst_mono h; omega), decide_eq_false (by omega)]; rfl
    · rw [h, Std.compare_self, decide_eq_false (by omega)]; rfl
    · rw [Std.compare_eq_lt.2 (by have := lst_mono h; omega), decide_eq_true h]; rfl
theorem eq_at (b c : Nat) (hb : rung b < infR) (hc : c < infR) (hc0 : 0 < c) : (FloatKind.f64.format.order b c == some .eq) = (!sgb b && decide (c = rung b)) := by
  have hI : infR = 9218868437227405312 := rfl
  show (double.order b c == some .eq) = _
  have hcc : rung c = c := rung_self (by omega)
  rw [order_fin b c hb (by rw [hcc]; exact hc), sv_low (r := c) (by omega)]
  have h0 : lst 0 = 0 := by decide
  have hlc : lst 0 < lst c := lst_mono hc0
  unfold sv
  cases hs : sgb b
  · simp only [Bool.false_eq_true, if_false, Bool.not_false, Bool.true_and]
    rcases Nat.lt_trichotomy (rung b) c with h | h | h
    · rw [Std.compare_eq_lt.2 (by have := lst_mono h; omega), decide_eq_false (by omega)]; rfl
    · rw [h, Std.compare_self, decide_eq_true rfl]; rfl
    · rw [Std.compare_eq_gt.2 (by have := lst_mono h; omega), decide_eq_false (by omega)]; rfl
  · simp only [if_true, Bool.not_true, Bool.false_and]
    rw [Std.compare_eq_lt.2 (by omega)]; rfl

/-- 'f >= 1e15', where the float's sign is off, or it is a nought. -/
theorem geq_at (c : Nat) (hc : rung c < infR) (hs : sgb c = true → rung c = 0) :
    (FloatKind.f64.format.order c w15 == some .gt || FloatKind.f64.format.order c w15 == some .eq) = decide (w15 ≤ rung c) := by
  rw [gt_at c w15 hc (by decide), eq_at c w15 hc (by decide) (by decide)]
  have hw : w15 = 4831355200913801216 := rfl
  cases e : sgb c
  · by_cases h : w15 ≤ rung c
    · rcases Nat.lt_or_eq_of_le h with h1 | h1
      · rw [decide_eq_true h, decide_eq_true h1]; rfl
      · rw [← h1]; simp
    · rw [decide_eq_false h, decide_eq_false (by omega), decide_eq_false (by omega)]; rfl
  · rw [hs e]; decide

theorem neg_off (b : Nat) (hb : rung b < infR) (h0 : rung b ≠ 0) (hs : sgb b = true) : FloatKind.f64.format.sub 0 b = some (rung b) := by
  have hI : infR = 9218868437227405312 := rfl
  have hl : lst 0 < lst (rung b) := lst_mono (by omega)
  have hz : sv 0 = 0 := by decide
  have hv : sv b = -(lst (rung b) : Int) := by unfold sv; rw [hs]; rfl
  show double.sub 0 b = _
  have := sub_fin 0 b (rung b) (by decide) hb hb (by rw [hz, hv]; omega)
  rw [this, hz, hv]
  rw [if_neg (by omega), decide_eq_false (by omega)]
  exact congrArg some word_low

theorem lst_w15 (a : Nat) (ha : a = 1071) : lst w15 = 1000000000000000 * 2 ^ 3 * 2 ^ a := by
  unfold lst
  rw [show mgn w15 = 1000000000000000 * 2 ^ 3 by decide, show plc w15 = a by rw [ha]; decide]
theorem mul_of (a b c d : Nat) (h : b * c = d) : a * b * c = a * d := by rw [Nat.mul_assoc, h]
theorem w15_of (K U : Nat) (hK : K = 1074) (hU : U = 2 ^ K) : lst w15 = 1000000000000000 * U := by
  rw [hU]
  obtain ⟨a, ha⟩ : ∃ a : Nat, a = 1071 := ⟨_, rfl⟩
  exact (lst_w15 a ha).trans (mul_of 1000000000000000 (2 ^ 3) (2 ^ a) (2 ^ K) (pow_join 3 a K (by rw [hK, ha])))

theorem mill_over_of (l U : Nat) (hU : 0 < U) (h : 1000000000000000 * U ≤ l) : 9223372036854775808 < l * 1000000 / U := by
  refine Nat.lt_of_lt_of_le (by decide : 9223372036854775808 < 1000000000000000000000) ((Nat.le_div_iff_mul_le hU).2 ?_)
  have : 1000000000000000 * U * 1000000 ≤ l * 1000000 := Nat.mul_le_mul_right _ h
  omega

theorem rem_of (K U m p : Nat) (hU : U = 2 ^ K) (hp : p ≤ K) : m * 2 ^ p % U = m % 2 ^ (K - p) * 2 ^ p := by
  rw [hU, pow_split K p hp, Nat.mul_mod_mul_right]
theorem toInt_of (c U : Nat) (hU : U = 2 ^ 1074) (h : rung c < infR) : (double.read c).toInt .zero = some (if sgb c then -((lst (rung c) / U : Nat) : Int) else ((lst (rung c) / U : Nat) : Int)) := by
  have := toInt_fin c h
  rw [← hU] at this
  exact this
theorem ofInt_of (n r U : Nat) (hU : U = 2 ^ 1074) (hr : r < infR) (h : n * U = lst r) : floatOfInt .f64 (n : Int) = r := by
  have := ofInt_fin (n : Int) r hr (by rw [Int.natAbs_natCast, ← hU]; exact h)
  rw [show decide ((n : Int) < 0) = false from decide_eq_false (by omega), word_low] at this
  exact this
theorem pow_k (K U : Nat) (hU : U = 2 ^ K) (n : Nat) : n * U = n * 2 ^ K := by rw [hU]

theorem start_main (U c : Nat) (hU : U = 2 ^ 1074) (hc : rung c < w15) (hs : sgb c = true → rung c = 0) : ∃ W R q p0, lst (rung c) = W * U + R ∧ W < 1000000000000000 ∧ floatToIntVal .f64 c .u64 = some (W : Int) ∧
    floatOfInt .f64 (W : Int) = q ∧ FloatKind.f64.format.sub c q = some p0 ∧ Rest U p0 R := by
  have hI : infR = 9218868437227405312 := rfl
  have hw : w15 = 4831355200913801216 := rfl
  have hci : rung c < infR := by omega
  have hUp : 0 < U := by rw [hU]; exact Nat.two_pow_pos 1074
  have hl : lst (rung c) < 1000000000000000 * U := by rw [← w15_of 1074 U rfl hU]; exact lst_mono hc
  have hW : lst (rung c) / U < 1000000000000000 := (Nat.div_lt_iff_lt_mul hUp).2 hl
  have h00 : lst 0 = 0 := by decide
  obtain ⟨q, hq, hql⟩ := rung_of (lst (rung c) / U) 1074 (by omega) (by have := log_of (n := 53) (c := lst (rung c) / U) (by omega) (by decide); omega)
  rw [← pow_k 1074 U hU] at hql
  have hsq : sv q = ((lst (rung c) / U * U : Nat) : Int) := by rw [sv_low (by omega), hql]
  have hsc : sv c = (lst (rung c) : Int) := word_sv rfl (fun hx => by rw [hs hx, h00])
  have hdm := Nat.div_add_mod' (lst (rung c)) U
  have hmod : lst (rung c) % U < U := Nat.mod_lt _ hUp
  have hpl : plc (rung c) ≤ 1074 := by unfold plc; split <;> omega
  have hrem : lst (rung c) % U = mgn (rung c) % 2 ^ (1074 - plc (rung c)) * 2 ^ plc (rung c) := rem_of 1074 U _ _ hU hpl
  have hmm : mgn (rung c) % 2 ^ (1074 - plc (rung c)) < 9007199254740992 := Nat.lt_of_le_of_lt (Nat.mod_le _ _) (mgn_lt _)
  obtain ⟨r, hr, hrl⟩ := rung_of _ (plc (rung c)) hmm (by have := log_of (n := 53) hmm (by decide); omega)
  rw [← hrem] at hrl
  have hd : sv c - sv q = ((lst (rung c) % U : Nat) : Int) := by rw [hsc, hsq]; omega
  have hsub := sub_fin c q r hci (by rw [rung_self (by omega)]; exact hq) hr (by rw [hd, hrl]; rfl)
  rw [hd] at hsub
  have hneg : decide (((lst (rung c) % U : Nat) : Int) < 0) = false := decide_eq_false (by omega)
  rw [hneg] at hsub
  obtain ⟨v1, v2⟩ := rung_word (if ((lst (rung c) % U : Nat) : Int) = 0 then sgb c && !sgb q else false) r (by omega)
  refine ⟨lst (rung c) / U, lst (rung c) % U, q, _, hdm.symm, hW, ?_, ofInt_of _ q U hU hq hql.symm, hsub, ?_⟩
  · have ht := toInt_of c U hU hci
    have hz : (if sgb c = true then -((lst (rung c) / U : Nat) : Int) else ((lst (rung c) / U : Nat) : Int)) = ((lst (rung c) / U : Nat) : Int) := by
      split
      · rename_i hx
        rw [hs hx, h00, Nat.zero_div]; rfl
      · rfl
    rw [hz] at ht
    unfold floatToIntVal
    have hdec : (FloatKind.f64.decode c).toInt .zero = some ((lst (rung c) / U : Nat) : Int) := ht
    rw [hdec]
    show (if IntKind.u64.min ≤ ((lst (rung c) / U : Nat) : Int) ∧ ((lst (rung c) / U : Nat) : Int) ≤ IntKind.u64.max then some ((lst (rung c) / U : Nat) : Int) else none) = _
    have e1 : IntKind.u64.min = 0 := by decide
    have e2 : IntKind.u64.max = 18446744073709551615 := by decide
    have hWi : ((lst (rung c) / U : Nat) : Int) ≤ 18446744073709551615 := by
      generalize lst (rung c) / U = Wd at hW
      omega
    rw [e1, e2, if_pos ⟨Int.natCast_nonneg _, hWi⟩]
  · refine ⟨by rw [v1]; exact hr, by rw [v1, hrl], ?_, hmod, _, _, hmm, hpl, hrem⟩
    rw [v2]
    intro hx
    split at hx
    · omega
    · cases hx

end Go.Proofs.YtokfkckfclnoaaaDoor
