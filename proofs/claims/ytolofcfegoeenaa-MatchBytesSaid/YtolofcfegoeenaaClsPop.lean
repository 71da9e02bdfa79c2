/- How many bits of a word are set, reckoned by sums within bytes (the library's OnesCount64). No condition. -/
import Derived.Test.YtolofcfegoeenaaClsMath
namespace Go.Proofs.Ytolofcfegoeenaa
open Go.RowKit

/-- The number of a row of bytes, the lowest first. -/
def bval : List Nat → Nat
  | [] => 0
  | b :: l => b + 256 * bval l
theorem bval_add (g h : Nat → Nat) : ∀ l : List Nat, bval (l.map g) + bval (l.map h) = bval (l.map fun b => g b + h b)
  | [] => rfl
  | b :: l => by
    have := bval_add g h l
    simp only [List.map_cons, bval]
    omega
theorem bval_lt : ∀ l : List Nat, (∀ b ∈ l, b < 256) → bval l < 256 ^ l.length
  | [], _ => by simp [bval]
  | b :: l, h => by
    have h1 := bval_lt l fun x hx => h x (by simp [hx])
    have h2 := h b (by simp)
    simp only [bval, List.length_cons, Nat.pow_succ]
    omega
theorem bval_le (m : Nat) : ∀ l : List Nat, (∀ b ∈ l, b ≤ m) → bval l ≤ bval (l.map fun _ => m)
  | [], _ => Nat.le_refl _
  | b :: l, h => by
    have h1 := bval_le m l fun x hx => h x (by simp [hx])
    have h2 := h b (by simp)
    simp only [bval, List.map_cons]
    omega
theorem and_byte (s m b y M : Nat) (hs : s ≤ 8) (hb : b < 256) (hm : m < 2 ^ (8 - s)) :
    ((b + 256 * y) / 2 ^ s) &&& (m + 256 * M) = (b / 2 ^ s &&& m) + 256 * ((y / 2 ^ s) &&& M) := by
  have hm8 : m < 2 ^ 8 := Nat.lt_of_lt_of_le hm (Nat.pow_le_pow_right (by decide) (by omega))
  have hb8 : b < 2 ^ 8 := hb
  have hc : b / 2 ^ s &&& m < 2 ^ 8 := Nat.and_lt_two_pow _ hm8
  have e1 : b + 256 * y = 2 ^ 8 * y + b := by omega
  have e2 : m + 256 * M = 2 ^ 8 * M + m := by omega
  have e3 : (b / 2 ^ s &&& m) + 256 * ((y / 2 ^ s) &&& M) = 2 ^ 8 * ((y / 2 ^ s) &&& M) + (b / 2 ^ s &&& m) := by omega
  rw [e1, e2, e3]
  apply Nat.eq_of_testBit_eq
  intro i
  rw [Nat.testBit_and, Nat.testBit_div_two_pow, Nat.testBit_two_pow_mul_add _ hb8, Nat.testBit_two_pow_mul_add _ hm8, Nat.testBit_two_pow_mul_add _ hc]
  by_cases h8 : i < 8
  · rw [if_pos h8, if_pos h8, Nat.testBit_and, Nat.testBit_div_two_pow]
    by_cases hs8 : i + s < 8
    · rw [if_pos hs8]
    · have : m.testBit i = false := Nat.testBit_lt_two_pow (Nat.lt_of_lt_of_le hm (Nat.pow_le_pow_right (by decide) (by omega)))
      rw [this, Bool.and_false, Bool.and_false]
  · rw [if_neg h8, if_neg h8, if_neg (by omega), Nat.testBit_and, Nat.testBit_div_two_pow, show i + s - 8 = i - 8 + s by omega]
theorem and_bval (s m : Nat) (hs : s ≤ 8) (hm : m < 2 ^ (8 - s)) : ∀ l : List Nat, (∀ b ∈ l, b < 256) → (bval l / 2 ^ s) &&& bval (l.map fun _ => m) = bval (l.map fun b => b / 2 ^ s &&& m)
  | [], _ => by simp [bval]
  | b :: l, h => by
    have h1 := and_bval s m hs hm l fun x hx => h x (by simp [hx])
    simp only [List.map_cons, bval]
    rw [and_byte s m b _ _ hs (h b (by simp)) hm, h1]

/-- How many bits of a byte are set; the sums on the way. -/
def pop8 (b : Nat) : Nat := (List.range 8).countP fun j => b.testBit j
def st1 (b : Nat) : Nat := (b / 2 &&& 85) + (b &&& 85)
def st2 (b : Nat) : Nat := (b / 4 &&& 51) + (b &&& 51)
theorem st_fin : ∀ b : Fin 256, st1 b.val < 256 ∧ st2 (st1 b.val) / 16 ≤ 4 ∧ st2 (st1 b.val) % 16 ≤ 4 ∧ st2 (st1 b.val) / 16 + st2 (st1 b.val) % 16 = pop8 b.val := by decide +kernel
theorem st_all (b : Nat) (h : b < 256) : st1 b < 256 ∧ st2 (st1 b) / 16 ≤ 4 ∧ st2 (st1 b) % 16 ≤ 4 ∧ st2 (st1 b) / 16 + st2 (st1 b) % 16 = pop8 b := st_fin ⟨b, h⟩

theorem step1 (l : List Nat) (hl : l.length = 8) (h : ∀ b ∈ l, b < 256) : (bval l / 2 &&& 6148914691236517205) + (bval l &&& 6148914691236517205) = bval (l.map st1) := by
  have em : bval (l.map fun _ => 85) = 6148914691236517205 := by
    rw [List.map_const', hl]; decide
  have h1 := and_bval 1 85 (by omega) (by decide) l h
  have h2 := and_bval 0 85 (by omega) (by decide) l h
  rw [em] at h1 h2
  simp only [Nat.pow_one, Nat.pow_zero, Nat.div_one] at h1 h2
  rw [h1, h2, bval_add]
  rfl
theorem step2 (l : List Nat) (hl : l.length = 8) (h : ∀ b ∈ l, b < 256) : (bval l / 4 &&& 3689348814741910323) + (bval l &&& 3689348814741910323) = bval (l.map st2) := by
  have em : bval (l.map fun _ => 51) = 3689348814741910323 := by
    rw [List.map_const', hl]; decide
  have h1 := and_bval 2 51 (by omega) (by decide) l h
  have h2 := and_bval 0 51 (by omega) (by decide) l h
  rw [em] at h1 h2
  simp only [Nat.pow_zero, Nat.div_one, show 2 ^ 2 = 4 from rfl] at h1 h2
  rw [h1, h2, bval_add]
  rfl
theorem and15_nat : ∀ n : Fin 256, n.val &&& 15 = n.val % 16 := by decide +kernel
theorem step3 (c0 c1 c2 c3 c4 c5 c6 c7 : Nat) (h0 : c0 / 16 ≤ 4 ∧ c0 % 16 ≤ 4) (h1 : c1 / 16 ≤ 4 ∧ c1 % 16 ≤ 4) (h2 : c2 / 16 ≤ 4 ∧ c2 % 16 ≤ 4) (h3 : c3 / 16 ≤ 4 ∧ c3 % 16 ≤ 4)
    (h4 : c4 / 16 ≤ 4 ∧ c4 % 16 ≤ 4) (h5 : c5 / 16 ≤ 4 ∧ c5 % 16 ≤ 4) (h6 : c6 / 16 ≤ 4 ∧ c6 % 16 ≤ 4) (h7 : c7 / 16 ≤ 4 ∧ c7 % 16 ≤ 4) :
    ((bval [c0, c1, c2, c3, c4, c5, c6, c7] / 16 + bval [c0, c1, c2, c3, c4, c5, c6, c7]) &&& 1085102592571150095) =
      bval [c0 / 16 + c0 % 16, c1 / 16 + c1 % 16, c2 / 16 + c2 % 16, c3 / 16 + c3 % 16, c4 / 16 + c4 % 16, c5 / 16 + c5 % 16, c6 / 16 + c6 % 16, c7 / 16 + c7 % 16] := by
  have e : bval [c0, c1, c2, c3, c4, c5, c6, c7] / 16 + bval [c0, c1, c2, c3, c4, c5, c6, c7] =
      bval [(c0 / 16 + c0 % 16) + 16 * (c0 / 16 + c1 % 16), (c1 / 16 + c1 % 16) + 16 * (c1 / 16 + c2 % 16), (c2 / 16 + c2 % 16) + 16 * (c2 / 16 + c3 % 16), (c3 / 16 + c3 % 16) + 16 * (c3 / 16 + c4 % 16),
        (c4 / 16 + c4 % 16) + 16 * (c4 / 16 + c5 % 16), (c5 / 16 + c5 % 16) + 16 * (c5 / 16 + c6 % 16), (c6 / 16 + c6 % 16) + 16 * (c6 / 16 + c7 % 16), (c7 / 16 + c7 % 16) + 16 * (c7 / 16)] := by
    simp only [bval]
    omega
  rw [e]
  have h := and_bval 0 15 (by omega) (by decide) [(c0 / 16 + c0 % 16) + 16 * (c0 / 16 + c1 % 16), (c1 / 16 + c1 % 16) + 16 * (c1 / 16 + c2 % 16), (c2 / 16 + c2 % 16) + 16 * (c2 / 16 + c3 % 16), (c3 / 16 + c3 % 16) + 16 * (c3 / 16 + c4 % 16),
        (c4 / 16 + c4 % 16) + 16 * (c4 / 16 + c5 % 16), (c5 / 16 + c5 % 16) + 16 * (c5 / 16 + c6 % 16), (c6 / 16 + c6 % 16) + 16 * (c6 / 16 + c7 % 16), (c7 / 16 + c7 % 16) + 16 * (c7 / 16)] (by
    intro b hb
    simp only [List.mem_cons, List.not_mem_nil, or_false] at hb
    omega)
  rw [Nat.pow_zero, Nat.div_one] at h
  have em : bval (([0, 0, 0, 0, 0, 0, 0, 0] : List Nat).map fun _ => 15) = 1085102592571150095 := by decide
  have low : ∀ p q r : Nat, p ≤ 4 → q ≤ 4 → r ≤ 4 → (p + q + 16 * (p + r)) / 2 ^ 0 &&& 15 = p + q := fun p q r hp hq hr => by
    rw [Nat.pow_zero, Nat.div_one, and15_nat ⟨p + q + 16 * (p + r), by omega⟩]
    show (p + q + 16 * (p + r)) % 16 = p + q
    omega
  have low7 : ∀ p q : Nat, p ≤ 4 → q ≤ 4 → (p + q + 16 * p) / 2 ^ 0 &&& 15 = p + q := fun p q hp hq => by
    rw [Nat.pow_zero, Nat.div_one, and15_nat ⟨p + q + 16 * p, by omega⟩]
    show (p + q + 16 * p) % 16 = p + q
    omega
  refine Eq.trans ?_ (h.trans ?_)
  · rw [← em]; rfl
  · simp only [List.map_cons, List.map_nil]
    rw [low _ _ _ h0.1 h0.2 h1.2, low _ _ _ h1.1 h1.2 h2.2, low _ _ _ h2.1 h2.2 h3.2, low _ _ _ h3.1 h3.2 h4.2, low _ _ _ h4.1 h4.2 h5.2, low _ _ _ h5.1 h5.2 h6.2, low _ _ _ h6.1 h6.2 h7.2, low7 _ _ h7.1 h7.2]
theorem step456 (d0 d1 d2 d3 d4 d5 d6 d7 x4 x5 : Nat) (h0 : d0 ≤ 8) (h1 : d1 ≤ 8) (h2 : d2 ≤ 8) (h3 : d3 ≤ 8) (h4 : d4 ≤ 8) (h5 : d5 ≤ 8) (h6 : d6 ≤ 8) (h7 : d7 ≤ 8)
    (e4 : x4 = bval [d0, d1, d2, d3, d4, d5, d6, d7] + bval [d0, d1, d2, d3, d4, d5, d6, d7] / 256) (e5 : x5 = x4 + x4 / 65536) :
    x4 < 18446744073709551616 ∧ x5 < 18446744073709551616 ∧ x5 + x5 / 4294967296 < 9223372036854775808 ∧ (x5 + x5 / 4294967296) % 128 = d0 + d1 + d2 + d3 + d4 + d5 + d6 + d7 := by
  have e4' : x4 = bval [d0 + d1, d1 + d2, d2 + d3, d3 + d4, d4 + d5, d5 + d6, d6 + d7, d7] := by
    rw [e4]; simp only [bval]; omega
  have e5' : x5 = bval [d0 + d1 + d2 + d3, d1 + d2 + d3 + d4, d2 + d3 + d4 + d5, d3 + d4 + d5 + d6, d4 + d5 + d6 + d7, d5 + d6 + d7, d6 + d7, d7] := by
    rw [e5, e4']; simp only [bval]; omega
  clear e4 e5
  have e6 : x5 + x5 / 4294967296 = bval [d0 + d1 + d2 + d3 + d4 + d5 + d6 + d7, d1 + d2 + d3 + d4 + d5 + d6 + d7, d2 + d3 + d4 + d5 + d6 + d7, d3 + d4 + d5 + d6 + d7, d4 + d5 + d6 + d7, d5 + d6 + d7, d6 + d7, d7] := by
    rw [e5']; simp only [bval]; omega
  rw [e6, e5', e4']
  simp only [bval]
  omega

theorem pop8_part (n j : Nat) : ((List.range 8).map (fun i => 8 * j + i)).countP (fun i => n.testBit i) = pop8 (n / 2 ^ (8 * j) % 256) := by
  rw [List.countP_map]
  unfold pop8
  apply countP_cong
  intro i hi
  have hi : i < 8 := List.mem_range.1 hi
  show n.testBit (8 * j + i) = _
  rw [show (256 : Nat) = 2 ^ 8 from rfl, Nat.testBit_mod_two_pow, Nat.testBit_div_two_pow]
  simp [hi, Nat.add_comm]
theorem range64 : List.range 64 = (List.range 8).map (fun i => 8 * 0 + i) ++ (List.range 8).map (fun i => 8 * 1 + i) ++ (List.range 8).map (fun i => 8 * 2 + i) ++ (List.range 8).map (fun i => 8 * 3 + i)
    ++ (List.range 8).map (fun i => 8 * 4 + i) ++ (List.range 8).map (fun i => 8 * 5 + i) ++ (List.range 8).map (fun i => 8 * 6 + i) ++ (List.range 8).map (fun i => 8 * 7 + i) := by decide +kernel
theorem pop_bytes (x : BitVec 64) : ∃ b0 b1 b2 b3 b4 b5 b6 b7 : Nat, b0 < 256 ∧ b1 < 256 ∧ b2 < 256 ∧ b3 < 256 ∧ b4 < 256 ∧ b5 < 256 ∧ b6 < 256 ∧ b7 < 256 ∧ x.toNat = bval [b0, b1, b2, b3, b4, b5, b6, b7] ∧
    pop x = pop8 b0 + pop8 b1 + pop8 b2 + pop8 b3 + pop8 b4 + pop8 b5 + pop8 b6 + pop8 b7 := by
  refine ⟨x.toNat / 2 ^ (8 * 0) % 256, x.toNat / 2 ^ (8 * 1) % 256, x.toNat / 2 ^ (8 * 2) % 256, x.toNat / 2 ^ (8 * 3) % 256, x.toNat / 2 ^ (8 * 4) % 256, x.toNat / 2 ^ (8 * 5) % 256, x.toNat / 2 ^ (8 * 6) % 256, x.toNat / 2 ^ (8 * 7) % 256,
    Nat.mod_lt _ (by decide), Nat.mod_lt _ (by decide), Nat.mod_lt _ (by decide), Nat.mod_lt _ (by decide), Nat.mod_lt _ (by decide), Nat.mod_lt _ (by decide), Nat.mod_lt _ (by decide), Nat.mod_lt _ (by decide), ?_, ?_⟩
  · have := x.isLt
    simp only [bval]
    omega
  · unfold pop
    rw [countP_cong (q := fun i => x.toNat.testBit i) (fun i _ => (BitVec.testBit_toNat x).symm)]
    rw [range64]
    simp only [List.countP_append, pop8_part]

/-- The sums of OnesCount64, one behind the other. -/
theorem ones_sums (x : BitVec 64) : ∃ x1 x2 x3 x4 x5 x6 : Nat,
    x1 = (x.toNat / 2 &&& 6148914691236517205) + (x.toNat &&& 6148914691236517205) ∧ x1 < 18446744073709551616 ∧
    x2 = (x1 / 4 &&& 3689348814741910323) + (x1 &&& 3689348814741910323) ∧ x2 < 18446744073709551616 ∧ x2 / 16 + x2 < 18446744073709551616 ∧
    x3 = ((x2 / 16 + x2) &&& 1085102592571150095) ∧ x4 = x3 + x3 / 256 ∧ x4 < 18446744073709551616 ∧ x5 = x4 + x4 / 65536 ∧ x5 < 18446744073709551616 ∧
    x6 = x5 + x5 / 4294967296 ∧ x6 < 9223372036854775808 ∧ x6 % 128 = pop x := by
  obtain ⟨b0, b1, b2, b3, b4, b5, b6, b7, h0, h1, h2, h3, h4, h5, h6, h7, hx, hp⟩ := pop_bytes x
  obtain ⟨p0, q0, r0, s0⟩ := st_all b0 h0
  obtain ⟨p1, q1, r1, s1⟩ := st_all b1 h1
  obtain ⟨p2, q2, r2, s2⟩ := st_all b2 h2
  obtain ⟨p3, q3, r3, s3⟩ := st_all b3 h3
  obtain ⟨p4, q4, r4, s4⟩ := st_all b4 h4
  obtain ⟨p5, q5, r5, s5⟩ := st_all b5 h5
  obtain ⟨p6, q6, r6, s6⟩ := st_all b6 h6
  obtain ⟨p7, q7, r7, s7⟩ := st_all b7 h7
  have e1 := step1 [b0, b1, b2, b3, b4, b5, b6, b7] rfl (by intro b hb; simp only [List.mem_cons, List.not_mem_nil, or_false] at hb; omega)
  have e2 := step2 [st1 b0, st1 b1, st1 b2, st1 b3, st1 b4, st1 b5, st1 b6, st1 b7] rfl (by intro b hb; simp only [List.mem_cons, List.not_mem_nil, or_false] at hb; omega)
  simp only [List.map_cons, List.map_nil] at e1 e2
  have e3 := step3 (st2 (st1 b0)) (st2 (st1 b1)) (st2 (st1 b2)) (st2 (st1 b3)) (st2 (st1 b4)) (st2 (st1 b5)) (st2 (st1 b6)) (st2 (st1 b7)) ⟨q0, r0⟩ ⟨q1, r1⟩ ⟨q2, r2⟩ ⟨q3, r3⟩ ⟨q4, r4⟩ ⟨q5, r5⟩ ⟨q6, r6⟩ ⟨q7, r7⟩
  have e4 := step456 (st2 (st1 b0) / 16 + st2 (st1 b0) % 16) (st2 (st1 b1) / 16 + st2 (st1 b1) % 16) (st2 (st1 b2) / 16 + st2 (st1 b2) % 16) (st2 (st1 b3) / 16 + st2 (st1 b3) % 16)
    (st2 (st1 b4) / 16 + st2 (st1 b4) % 16) (st2 (st1 b5) / 16 + st2 (st1 b5) % 16) (st2 (st1 b6) / 16 + st2 (st1 b6) % 16) (st2 (st1 b7) / 16 + st2 (st1 b7) % 16) _ _
    (by omega) (by omega) (by omega) (by omega) (by omega) (by omega) (by omega) (by omega) rfl rfl
  have l2 : ∀ c : Nat, c / 16 ≤ 4 → c % 16 ≤ 4 → c ≤ 68 := fun c _ _ => by omega
  have l1 := bval_lt [st1 b0, st1 b1, st1 b2, st1 b3, st1 b4, st1 b5, st1 b6, st1 b7] (by intro b hb; simp only [List.mem_cons, List.not_mem_nil, or_false] at hb; omega)
  have k0 := l2 _ q0 r0
  have k1 := l2 _ q1 r1
  have k2 := l2 _ q2 r2
  have k3 := l2 _ q3 r3
  have k4 := l2 _ q4 r4
  have k5 := l2 _ q5 r5
  have k6 := l2 _ q6 r6
  have k7 := l2 _ q7 r7
  have lx2 : bval [st2 (st1 b0), st2 (st1 b1), st2 (st1 b2), st2 (st1 b3), st2 (st1 b4), st2 (st1 b5), st2 (st1 b6), st2 (st1 b7)] ≤ 4919131752989213764 := by
    refine Nat.le_trans (bval_le 68 _ ?_) (by simp only [List.map_cons, List.map_nil, bval]; decide)
    intro b hb
    simp only [List.mem_cons, List.not_mem_nil, or_false] at hb
    rcases hb with h | h | h | h | h | h | h | h <;> rw [h] <;> assumption
  clear k0 k1 k2 k3 k4 k5 k6 k7 l2
  refine ⟨_, _, _, _, _, _, rfl, ?_, rfl, ?_, ?_, rfl, rfl, ?_, rfl, ?_, rfl, ?_, ?_⟩
  all_goals rw [hx, e1]
  · simpa using l1
  · rw [e2]; omega
  · rw [e2]; omega
  all_goals rw [e2, e3]
  · exact e4.1
  · exact e4.2.1
  · exact e4.2.2.1
  · rw [e4.2.2.2, hp, s0, s1, s2, s3, s4, s5, s6, s7]
end Go.Proofs.Ytolofcfegoeenaa
