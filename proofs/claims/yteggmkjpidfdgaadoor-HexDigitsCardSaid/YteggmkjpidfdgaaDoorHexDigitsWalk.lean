/- The statement HexDigits, walked: the call returns true at every byte and writes nothing that was there. Condition: the library's table of powers of ten holds what its text lays. -/
import Derived.Test.YteggmkjpidfdgaaDoorHexShown
import Derived.Test.YteggmkjpidfdgaaDoorHexUnMath
namespace Go.Proofs.YteggmkjpidfdgaaDoor
open Go.RowKit Go.Lib

theorem digN_hexDg (n : Nat) (h : n < 16) : digN (hexDg n) = n := by
  have : ∀ m : Fin 16, digN (hexDg m.val) = (m.val : Int) := by decide +kernel
  exact this ⟨n, h⟩

set_option maxHeartbeats 1000000 in
theorem hexDigits_walk (c : UInt8) (w : World) (ht : Tab w) :
    Calls Tryd.prog 9 #[.int .u8 (c.toNat : Int)] w fun e w' => e = .returned (.bool true) ∧ Below w.heap.size w w' := by
  have c1 := shown_any w ht
  obtain ⟨x, hx⟩ : ∃ x, x = hexDg (c.toNat / 16) := ⟨_, rfl⟩
  obtain ⟨y, hy⟩ : ∃ y, y = hexDg (c.toNat % 16) := ⟨_, rfl⟩
  have c2 : ∀ w, Calls Tryd.prog 13 #[.string ⟨[c].toArray⟩] w fun e w' => e = .returned (.string ⟨#[120, x, y]⟩) ∧ Below w.heap.size w w' := fun w =>
    (hex_any ⟨[c].toArray⟩ w (by show 1 ≤ _; omega)).mono fun e w' h => ⟨h.1.trans (by rw [hx, hy]; rfl), h.2⟩
  obtain ⟨S, hS⟩ : ∃ S : ByteArray, S = ⟨#[120, x, y]⟩ := ⟨_, rfl⟩
  rw [← hS] at c2
  have hs3 : S.size = 3 := by rw [hS]; rfl
  have hs1 : ∀ h : 1 < S.size, S[1] = x := by subst hS; intro h; rfl
  have hs2 : ∀ h : 2 < S.size, S[2] = y := by subst hS; intro h; rfl
  have HS := Lib.hid hS
  clear hS
  have hcl := u8_lt c
  obtain ⟨p, hp⟩ : ∃ p : Int, p = (c.toNat : Int) / 16 := ⟨_, rfl⟩
  obtain ⟨q, hq⟩ : ∃ q : Int, q = (c.toNat : Int) % 16 := ⟨_, rfl⟩
  obtain ⟨z, hz⟩ : ∃ z : Int, z = (c.toNat : Int) := ⟨_, rfl⟩
  have c3 : ∀ w, Calls Tryd.prog 17 #[.int .u8 (x.toNat : Int)] w fun e w' => e = .returned (.int .i64 p) ∧ w = w' := fun w =>
    (digit_any x w).mono fun e w' h => ⟨h.1.trans (by rw [hx, digN_hexDg _ (by omega), hp]; rfl), h.2⟩
  have c4 : ∀ w, Calls Tryd.prog 17 #[.int .u8 (y.toNat : Int)] w fun e w' => e = .returned (.int .i64 q) ∧ w = w' := fun w =>
    (digit_any y w).mono fun e w' h => ⟨h.1.trans (by rw [hy, digN_hexDg _ (by omega), hq]; rfl), h.2⟩
  obtain ⟨d, hd⟩ : ∃ d : Int, d = digN c := ⟨_, rfl⟩
  have c5 := fun w => digit_any c w
  rw [← hd] at c5
  have c6 := fun w => conv_new1 (P := Tryd.prog) 39 9 5 Tryd.underlying39 Tryd.underlying5 Tryd.underlying9 w (c.toNat : Int) c rfl
  have hdd : (d < 0 ∧ ¬ (48 ≤ z ∧ z ≤ 57) ∧ ¬ (97 ≤ z ∧ z ≤ 102) ∧ ¬ (65 ≤ z ∧ z ≤ 70)) ∨ (0 ≤ d ∧ d < 16 ∧ ((48 ≤ z ∧ z ≤ 57) ∨ (97 ≤ z ∧ z ≤ 102) ∨ (65 ≤ z ∧ z ≤ 70))) := by
    rw [hd, hz]; unfold digN
    split
    · omega
    · split
      · omega
      · split <;> omega
  rw [← hz] at c5 c6 hp hq ⊢
  have hp0 : 0 ≤ p := by omega
  have hp1 : p < 16 := by omega
  have hq0 : 0 ≤ q := by omega
  have hq1 : q < 16 := by omega
  have hpq : (16 * p + q == z) = true := by simp; omega
  have hz0 : 0 ≤ z := by omega
  have hz1 : z ≤ 255 := by omega
  clear hp hq hx hy hcl hd hz
  have cls : (d < 0 ∧ z < 48) ∨ (0 ≤ d ∧ d < 16 ∧ 48 ≤ z ∧ z ≤ 57) ∨ (d < 0 ∧ 58 ≤ z ∧ z < 65) ∨ (0 ≤ d ∧ d < 16 ∧ 65 ≤ z ∧ z ≤ 70) ∨ (d < 0 ∧ 71 ≤ z ∧ z < 97) ∨ (0 ≤ d ∧ d < 16 ∧ 97 ≤ z ∧ z ≤ 102) ∨ (d < 0 ∧ 103 ≤ z) := by omega
  clear hdd
  rcases cls with ⟨h1, h2⟩ | ⟨h1, h2, h3, h4⟩ | ⟨h1, h2, h3⟩ | ⟨h1, h2, h3, h4⟩ | ⟨h1, h2, h3⟩ | ⟨h1, h2, h3, h4⟩ | ⟨h1, h2⟩
  all_goals
    first | have t1 : decide (z ≤ 57) = true := decide_eq_true (by omega) | have t1 : decide (z ≤ 57) = false := decide_eq_false (by omega)
    first | have t2 : decide (z ≤ 70) = true := decide_eq_true (by omega) | have t2 : decide (z ≤ 70) = false := decide_eq_false (by omega)
    first | have t3 : decide (z ≤ 102) = true := decide_eq_true (by omega) | have t3 : decide (z ≤ 102) = false := decide_eq_false (by omega)
    first | have t4 : decide (0 ≤ d) = true := decide_eq_true (by omega) | have t4 : decide (0 ≤ d) = false := decide_eq_false (by omega)
    have t5 : decide (d < 16) = true := decide_eq_true (by omega)
    go_enter Tryd.func9, Tryd.ntmps9
    go_wp2_with (first
      | (go_at_call 10; refine c1.mono ?_; rintro e w1 ⟨rfl, hb1⟩)
      | (go_at_call 13; refine (c2 _).mono ?_; rintro e w2 ⟨rfl, hb2⟩)
      | (go_at_call 17; (first | with_reducible refine (c3 _).mono ?_ | with_reducible refine (c4 _).mono ?_ | with_reducible refine (c5 _).mono ?_); rintro e w3 ⟨rfl, rfl⟩))
    go_ret
    have hs := hb1.size
    refine ⟨?_, (hb1.alloc hs _).trans (hb2.mono (by simp; omega))⟩
    first | rfl | exact ret_bool (by simp; omega)
end Go.Proofs.YteggmkjpidfdgaaDoor
