/- Whole numbers alone: the library's division of 128 bits by 64, its guess of a figure of 32 bits and the corrections. -/
import Derived.Lib.BitFns
namespace Go.Proofs.YtokfkckfclnoaaaDoor
open Go.Lib

/-- What a guess keeps: with its rest it makes the upper part, and it is no smaller than the quotient's figure. -/
def Guess (u n y1 y0 q r : Nat) : Prop := q * y1 + r = u ∧ u * 4294967296 + n < (q + 1) * (y1 * 4294967296 + y0)

theorem guess_first (u n y1 y0 : Nat) (hn : n < 4294967296) (h1 : 2147483648 ≤ y1) : Guess u n y1 y0 (u / y1) (u % y1) := by
  refine ⟨Nat.div_add_mod' u y1, ?_⟩
  have h2 : u < (u / y1 + 1) * y1 := by
    have := Nat.div_add_mod' u y1
    have h3 := Nat.mod_lt u (show 0 < y1 by omega)
    rw [Nat.add_mul, Nat.one_mul]; omega
  have h4 : (u + 1) * 4294967296 ≤ (u / y1 + 1) * y1 * 4294967296 := Nat.mul_le_mul_right _ h2
  have h5 : (u / y1 + 1) * (y1 * 4294967296 + y0) = (u / y1 + 1) * y1 * 4294967296 + (u / y1 + 1) * y0 := by rw [Nat.mul_add, Nat.mul_assoc]
  rw [h5]
  omega

theorem guess_le (u n y1 y0 q r : Nat) (h : Guess u n y1 y0 q r) (h1 : 2147483648 ≤ y1) (h0 : y0 < 4294967296) (hu : u < y1 * 4294967296 + y0) : q ≤ 4294967297 := by
  rcases Nat.lt_or_ge 4294967297 q with hq | hq
  · have : 4294967298 * y1 ≤ q * y1 := Nat.mul_le_mul_right _ hq
    have := h.1
    omega
  · exact hq

/-- A guess that the check refuses is too great: one less is a guess. -/
theorem guess_next (u n y1 y0 q r : Nat) (h : Guess u n y1 y0 q r) (hn : n < 4294967296) (hu : u < y1 * 4294967296 + y0)
    (hc : 4294967296 ≤ q ∨ 4294967296 * r + n < q * y0) : 0 < q ∧ Guess u n y1 y0 (q - 1) (r + y1) := by
  obtain ⟨e, _⟩ := h
  have hq : 0 < q := by
    rcases Nat.eq_zero_or_pos q with h | h
    · subst h; omega
    · exact h
  obtain ⟨k, rfl⟩ : ∃ k, q = k + 1 := ⟨q - 1, by omega⟩
  refine ⟨hq, by rw [Nat.add_sub_cancel]; rw [Nat.add_mul, Nat.one_mul] at e; omega, ?_⟩
  rw [Nat.add_sub_cancel]
  rcases hc with hc | hc
  · have h1 : 4294967296 * (y1 * 4294967296 + y0) ≤ (k + 1) * (y1 * 4294967296 + y0) := Nat.mul_le_mul_right _ hc
    omega
  · have h5 : (k + 1) * (y1 * 4294967296 + y0) = (k + 1) * y1 * 4294967296 + (k + 1) * y0 := by rw [Nat.mul_add, Nat.mul_assoc]
    omega

/-- A guess that the check lets be is the figure. -/
theorem guess_end (u n y1 y0 q r : Nat) (h : Guess u n y1 y0 q r) (hc : q * y0 ≤ 4294967296 * r + n) :
    (u * 4294967296 + n) / (y1 * 4294967296 + y0) = q := by
  obtain ⟨e, h2⟩ := h
  have h5 : q * (y1 * 4294967296 + y0) = q * y1 * 4294967296 + q * y0 := by rw [Nat.mul_add, Nat.mul_assoc]
  have h6 : q * (y1 * 4294967296 + y0) ≤ u * 4294967296 + n := by omega
  exact Nat.div_eq_of_lt_le h6 h2

theorem guess_end_far (u n y1 y0 q r : Nat) (h : Guess u n y1 y0 q r) (hr : 4294967296 ≤ r) (hq : q ≤ 4294967296) (h0 : y0 < 4294967296) :
    (u * 4294967296 + n) / (y1 * 4294967296 + y0) = q := by
  have h3 : q * y0 ≤ 4294967296 * y0 := Nat.mul_le_mul_right _ hq
  have h4 : q * y0 ≤ 4294967296 * r + n := by omega
  exact guess_end u n y1 y0 q r h h4

/-- A quotient's two figures. -/
theorem two_figures (v n0 y : Nat) :
    (v * 4294967296 + n0) / y = v / y * 4294967296 + (v % y * 4294967296 + n0) / y := by
  rcases Nat.eq_zero_or_pos y with h | h
  · subst h; simp
  · have := Nat.div_add_mod v y
    have e : v * 4294967296 + n0 = (v % y * 4294967296 + n0) + y * (v / y * 4294967296) := by
      rw [← Nat.mul_assoc]
      omega
    rw [e, Nat.add_mul_div_left _ _ h, Nat.add_comm]

theorem figure_lt (u n y : Nat) (hu : u < y) (hn : n < 4294967296) : (u * 4294967296 + n) / y < 4294967296 := by
  rw [Nat.div_lt_iff_lt_mul (by omega)]
  have : (u + 1) * 4294967296 ≤ y * 4294967296 := Nat.mul_le_mul_right _ hu
  omega

/-- A bit more: a number moved up so that its highest bit is the 64th. -/
theorem high_bit : ∀ (f y : Nat), 0 < y → y < 2 ^ f → bitLenAux f y ≤ f ∧ 2 ^ f ≤ 2 * (y * 2 ^ (f - bitLenAux f y)) ∧ y * 2 ^ (f - bitLenAux f y) < 2 ^ f := by
  intro f
  induction f with
  | zero => intro y h0 h; simp at h; omega
  | succ f ih =>
    intro y h0 h
    have e : bitLenAux (f + 1) y = 1 + bitLenAux f (y / 2) := by
      rw [bitLenAux]; simp; omega
    rcases Nat.eq_zero_or_pos (y / 2) with hz | hz
    · have : y = 1 := by omega
      subst this
      rw [e]
      have : bitLenAux f (1 / 2) = 0 := by
        show bitLenAux f 0 = 0
        cases f <;> simp [bitLenAux]
      rw [this]
      refine ⟨by omega, ?_, ?_⟩
      · rw [Nat.one_mul, show f + 1 - (1 + 0) = f by omega, Nat.pow_succ]; omega
      · rw [Nat.one_mul, show f + 1 - (1 + 0) = f by omega, Nat.pow_succ]
        have : 0 < 2 ^ f := Nat.two_pow_pos f
        omega
    · obtain ⟨h1, h2, h3⟩ := ih (y / 2) hz (by rw [Nat.pow_succ] at h; omega)
      rw [e, show f + 1 - (1 + bitLenAux f (y / 2)) = f - bitLenAux f (y / 2) by omega, Nat.pow_succ]
      refine ⟨by omega, ?_, ?_⟩
      · have : y / 2 * 2 * 2 ^ (f - bitLenAux f (y / 2)) ≤ y * 2 ^ (f - bitLenAux f (y / 2)) := Nat.mul_le_mul_right _ (by omega)
        rw [Nat.mul_right_comm] at this
        omega
      · have h4 : (y / 2 + 1) * 2 ^ (f - bitLenAux f (y / 2)) ≤ 2 ^ f := by
          have hp : 2 ^ f = 2 ^ bitLenAux f (y / 2) * 2 ^ (f - bitLenAux f (y / 2)) := by rw [← Nat.pow_add]; congr 1; omega
          rw [hp] at h3 ⊢
          exact Nat.mul_le_mul_right _ (Nat.lt_of_mul_lt_mul_right h3)
        have h5 : y * 2 ^ (f - bitLenAux f (y / 2)) ≤ (2 * (y / 2) + 1) * 2 ^ (f - bitLenAux f (y / 2)) := Nat.mul_le_mul_right _ (by omega)
        have hp := Nat.two_pow_pos (f - bitLenAux f (y / 2))
        rw [Nat.add_mul, Nat.one_mul] at h4 h5
        rw [Nat.mul_assoc] at h5
        omega

theorem or_add (a b s : Nat) (hb : b < 2 ^ s) : (a * 2 ^ s) ||| b = a * 2 ^ s + b := by
  rw [Nat.mul_comm, ← Nat.two_pow_add_eq_or_of_lt hb]

/-- A number of 128 bits moved up. -/
theorem moved (hi lo y s : Nat) (hs : s ≤ 63) (hh : hi < y) (hlo : lo < 18446744073709551616) (hy : y * 2 ^ s < 18446744073709551616) :
    hi * 2 ^ s < 18446744073709551616 ∧ lo / 2 ^ (64 - s) < 2 ^ s ∧ hi * 2 ^ s + lo / 2 ^ (64 - s) < y * 2 ^ s ∧
    (hi * 2 ^ s + lo / 2 ^ (64 - s)) * 18446744073709551616 + lo * 2 ^ s % 18446744073709551616 = (hi * 18446744073709551616 + lo) * 2 ^ s := by
  have hp : 0 < 2 ^ s := Nat.two_pow_pos s
  have hpp : 2 ^ (64 - s) * 2 ^ s = 18446744073709551616 := by rw [← Nat.pow_add, show 64 - s + s = 64 by omega]
  have h1 : (hi + 1) * 2 ^ s ≤ y * 2 ^ s := Nat.mul_le_mul_right _ hh
  rw [Nat.add_mul, Nat.one_mul] at h1
  have h2 : lo / 2 ^ (64 - s) < 2 ^ s := by
    rw [Nat.div_lt_iff_lt_mul (Nat.two_pow_pos _), Nat.mul_comm, hpp]; exact hlo
  have h3 : lo * 2 ^ s / 18446744073709551616 = lo / 2 ^ (64 - s) := by rw [← hpp, Nat.mul_div_mul_right _ _ hp]
  have h4 := Nat.div_add_mod' (lo * 2 ^ s) 18446744073709551616
  rw [h3] at h4
  refine ⟨by omega, h2, by omega, ?_⟩
  rw [Nat.add_mul, Nat.add_assoc, h4, Nat.add_mul, Nat.mul_right_comm]

theorem join_figures (u m : Nat) : (u * 4294967296 + m / 4294967296) * 4294967296 + m % 4294967296 = u * 18446744073709551616 + m := by
  have h2 : (4294967296 : Nat) * 4294967296 = 18446744073709551616 := by decide
  rw [Nat.add_mul, Nat.mul_assoc, Nat.add_assoc, Nat.div_add_mod' m 4294967296, h2]
/-- The whole division: the parts that the library's text makes. -/
theorem div_parts (hi lo y s u m : Nat) (hp : 0 < 2 ^ s) (e : u * 18446744073709551616 + m = (hi * 18446744073709551616 + lo) * 2 ^ s) :
    (u * 4294967296 + m / 4294967296) / (y * 2 ^ s) * 4294967296 + ((u * 4294967296 + m / 4294967296) % (y * 2 ^ s) * 4294967296 + m % 4294967296) / (y * 2 ^ s) = (hi * 18446744073709551616 + lo) / y := by
  rw [← two_figures]
  have h1 := (join_figures u m).trans e
  rw [h1, Nat.mul_div_mul_right _ _ hp]

end Go.Proofs.YtokfkckfclnoaaaDoor
