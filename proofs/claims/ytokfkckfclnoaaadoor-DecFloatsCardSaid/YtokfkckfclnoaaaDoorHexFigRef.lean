/- The document's own figures of a number: the library's numeral. Condition: the number is an int64. -/
import Derived.Test.YtokfkckfclnoaaaDoorHexMath
import Derived.Lib.ItoaNum
namespace Go.Proofs.YtokfkckfclnoaaaDoor
open Go.RowKit Go.Lib

theorem decDigits_len (u : Nat) (h : u ≤ 9223372036854775808) : (decDigits u).length ≤ 20 := by
  rw [decDigits_length]
  have key : ∀ (k u : Nat), u < 10 ^ k → nDigits u ≤ k + 1 := by
    intro k
    induction k with
    | zero => intro u h; rw [nDigits_small (by simp at h; omega)]; exact Nat.le_refl _
    | succ k ih =>
      intro u h
      by_cases h10 : u < 10
      · rw [nDigits_small h10]; omega
      · rw [nDigits_big h10]
        have := ih (u / 10) (by rw [Nat.pow_succ] at h; omega)
        omega
  have := key 19 u (by have : (10 : Nat) ^ 19 = 10000000000000000000 := by decide
                       omega)
  omega
theorem tmod_neg (n : Int) (u : Nat) (h : n = -(u : Int)) : n.tmod 10 = -((u % 10 : Nat) : Int) := by
  subst h; rw [Int.neg_tmod, Int.tmod_eq_emod_of_nonneg (by omega)]; omega
theorem tdiv_neg (n : Int) (u : Nat) (h : n = -(u : Int)) : n.tdiv 10 = -((u / 10 : Nat) : Int) := by
  subst h; rw [Int.neg_tdiv, Int.tdiv_eq_ediv_of_nonneg (by omega)]; omega

set_option maxHeartbeats 400000 in
set_option maxRecDepth 20000 in
theorem down_any (u : Nat) : ∀ (n : Int) (w : World), n = -(u : Int) → u ≤ 9223372036854775808 →
    Calls Tryd.prog 91 #[.int .i64 n] w fun e w' => e = .returned (.string ⟨(decDigits u).toArray⟩) ∧ Below w.heap.size w w' := by
  induction u using Nat.strongRecOn with
  | _ u ih =>
    intro n w hn hu
    obtain ⟨c, hc⟩ : ∃ c, c = UInt8.ofNat (48 + u % 10) := ⟨_, rfl⟩
    have hcn : (c.toNat : Int) = 48 + ((u % 10 : Nat) : Int) := by rw [hc]; simp; omega
    have ht := tmod_neg n u hn
    have hd := tdiv_neg n u hn
    obtain ⟨x, hx⟩ : ∃ x : Int, x = -((u % 10 : Nat) : Int) := ⟨_, rfl⟩
    obtain ⟨n2, hn2⟩ : ∃ x : Int, x = -((u / 10 : Nat) : Int) := ⟨_, rfl⟩
    rw [← hx] at ht
    rw [← hn2] at hd
    have hx0 : -9 ≤ x := by omega
    have hx1 : x ≤ 0 := by omega
    have hn0 : n ≤ 0 := by omega
    have hn1 : -9223372036854775808 ≤ n := by omega
    have hm0 : n2 ≤ 0 := by omega
    have hm1 : -922337203685477580 ≤ n2 := by omega
    have kc := conv_new1 (P := Tryd.prog) 118 9 5 Tryd.underlying118 Tryd.underlying5 Tryd.underlying9 w (48 - x) c (by omega)
    obtain ⟨L, hL⟩ : ∃ L : ByteArray, L = ⟨[c].toArray⟩ := ⟨_, rfl⟩
    rw [← hL] at kc
    by_cases hs : u < 10
    · have hgt : -10 < n := by omega
      have HE : Hid ((⟨(decDigits u).toArray⟩ : ByteArray) = L) := by
        show (⟨(decDigits u).toArray⟩ : ByteArray) = L
        rw [hL, hc, decDigits_one hs, Nat.mod_eq_of_lt hs]
      clear hn hu hc hcn hx hn2 hL ih hs
      go_enter Tryd.func91, Tryd.ntmps91
      go_wp2_with fail
      go_ret
      rw [HE.out]
      exact ⟨rfl, (Below.refl _ _).alloc (Nat.le_refl _) _⟩
    · have hgt : n ≤ -10 := by omega
      have k2 := fun w => ih (u / 10) (by omega) n2 w hn2 (by omega)
      obtain ⟨D, hD⟩ : ∃ D : ByteArray, D = ⟨(decDigits (u / 10)).toArray⟩ := ⟨_, rfl⟩
      have hDl := decDigits_len (u / 10) (by omega)
      have hDs : D.size ≤ 20 := by
        have h1 : D.data.toList.length = D.size := by rw [Array.length_toList]; rfl
        rw [← h1, hD]; exact hDl
      have hLs : L.size = 1 := by rw [hL]; rfl
      have hsum : (9223372036854775807 < D.size + L.size) = False := by simp only [eq_iff_iff, iff_false]; omega
      have HE : Hid ((⟨(decDigits u).toArray⟩ : ByteArray) = D ++ L) := by
        show (⟨(decDigits u).toArray⟩ : ByteArray) = D ++ L
        have e : decDigits u = decDigits (u / 10) ++ [c] := by rw [decDigits, dif_neg hs, hc]
        rw [e, hD, hL, ByteArray.mk_append_mk]
      rw [← hD] at k2
      clear hn hu hc hcn hx hn2 hL ih hs hD hDl hDs hLs
      go_enter Tryd.func91, Tryd.ntmps91
      go_wp2_with (go_at_call 91; refine (k2 _).mono ?_; rintro e w' ⟨rfl, hb⟩)
      go_ret
      rw [HE.out]
      exact ⟨rfl, ((Below.refl _ _).alloc (Nat.le_refl _) _).trans (hb.mono (by simp))⟩

set_option maxHeartbeats 400000 in
theorem refFigures_any (n : Int) (w : World) (h0 : -9223372036854775808 ≤ n) (h1 : n ≤ 9223372036854775807) :
    Calls Tryd.prog 55 #[.int .i64 n] w fun e w' => e = .returned (.string ⟨(Lib.itoa n).toArray⟩) ∧ Below w.heap.size w w' := by
  by_cases hn : n < 0
  · have k1 := fun w => down_any n.natAbs n w (by omega) (by omega)
    obtain ⟨D, hD⟩ : ∃ D : ByteArray, D = ⟨(decDigits n.natAbs).toArray⟩ := ⟨_, rfl⟩
    have hDl := decDigits_len n.natAbs (by omega)
    have hDs : D.size ≤ 20 := by
      have h1 : D.data.toList.length = D.size := by rw [Array.length_toList]; rfl
      rw [← h1, hD]; exact hDl
    have hsum : (9223372036854775807 < (⟨#[45]⟩ : ByteArray).size + D.size) = False := by
      have : (⟨#[45]⟩ : ByteArray).size = 1 := rfl
      simp only [eq_iff_iff, iff_false]; omega
    have hsum1 : (9223372036854775807 < 1 + D.size) = False := by simp only [eq_iff_iff, iff_false]; omega
    have HE : Hid ((⟨(Lib.itoa n).toArray⟩ : ByteArray) = ⟨#[45]⟩ ++ D) := by
      show (⟨(Lib.itoa n).toArray⟩ : ByteArray) = ⟨#[45]⟩ ++ D
      unfold Lib.itoa
      rw [if_pos hn, hD]
      show _ = (⟨[45].toArray⟩ : ByteArray) ++ _
      rw [ByteArray.mk_append_mk]; rfl
    rw [← hD] at k1
    clear hD hDl hDs
    go_enter Tryd.func55, Tryd.ntmps55
    go_wp2_with (go_at_call 91; refine (k1 _).mono ?_; rintro e w' ⟨rfl, hb⟩)
    go_ret
    rw [HE.out]
    exact ⟨rfl, hb⟩
  · have k1 := fun w => down_any n.toNat (-n) w (by omega) (by omega)
    have HE : Hid ((⟨(Lib.itoa n).toArray⟩ : ByteArray) = ⟨(decDigits n.toNat).toArray⟩) := by
      show (⟨(Lib.itoa n).toArray⟩ : ByteArray) = ⟨(decDigits n.toNat).toArray⟩
      unfold Lib.itoa
      rw [if_neg hn]
    generalize (⟨(decDigits n.toNat).toArray⟩ : ByteArray) = D at k1 HE
    go_enter Tryd.func55, Tryd.ntmps55
    go_wp2_with (go_at_call 91; refine (k1 _).mono ?_; rintro e w' ⟨rfl, hb⟩)
    go_ret
    rw [HE.out]
    exact ⟨rfl, hb⟩
end Go.Proofs.YtokfkckfclnoaaaDoor
