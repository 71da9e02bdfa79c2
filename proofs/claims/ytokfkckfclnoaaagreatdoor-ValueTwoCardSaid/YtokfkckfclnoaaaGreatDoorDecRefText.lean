/- The document's own text of a number: as the plain function 'textL' says it. -/
import Derived.Test.YtokfkckfclnoaaaGreatDoorDecText
import Derived.Test.YtokfkckfclnoaaaGreatDoorDecShown
namespace Go.Proofs.YtokfkckfclnoaaaGreatDoor
open Go.RowKit

/-- A figure that is no nought, or something behind it that is none, stays. -/
theorem strip_cons (d : UInt8) (F : List UInt8) (h : d ≠ 48 ∨ stripZ F ≠ []) : stripZ (d :: F) = d :: stripZ F := by
  obtain ⟨k, hk, _⟩ := stripZ_fill F
  unfold stripZ Lib.trimRightS at *
  rw [List.reverse_cons, List.dropWhile_append]
  by_cases he : (F.reverse.dropWhile ([(48 : UInt8)].contains ·)).isEmpty = true
  · rw [if_pos he]
    have h2 : F.reverse.dropWhile ([(48 : UInt8)].contains ·) = [] := List.isEmpty_iff.1 he
    rw [h2] at h ⊢
    have hd : d ≠ 48 := by rcases h with h | h; exact h; exact absurd rfl h
    rw [List.dropWhile_cons_of_neg (by rw [Lib.contains_one]; simpa using hd)]
    rfl
  · rw [if_neg he, List.reverse_append]
    rfl
theorem frac_head : ∀ (k R : Nat), R < 10 ^ (k + 1) → frac (k + 1) R = UInt8.ofNat (48 + R / 10 ^ k) :: frac k (R % 10 ^ k) := by
  intro k
  induction k with
  | zero =>
    intro R h
    have : R < 10 := by simpa using h
    show [] ++ [UInt8.ofNat (48 + R % 10)] = _
    rw [Nat.mod_eq_of_lt this, Nat.pow_zero, Nat.div_one]; rfl
  | succ k ih =>
    intro R h
    have h1 : R / 10 < 10 ^ (k + 1) := by rw [Nat.div_lt_iff_lt_mul (by omega)]; rw [Nat.pow_succ] at h; exact h
    have e1 : R % 10 ^ (k + 1) / 10 = R / 10 % 10 ^ k := by rw [Nat.pow_succ, Nat.mul_comm]; exact Nat.mod_mul_right_div_self R 10 (10 ^ k)
    have e2 : R % 10 ^ (k + 1) % 10 = R % 10 := by rw [Nat.pow_succ]; exact Nat.mod_mul_left_mod R (10 ^ k) 10
    have e3 : R / 10 / 10 ^ k = R / 10 ^ (k + 1) := by rw [Nat.div_div_eq_div_mul, Nat.pow_succ, Nat.mul_comm]
    rw [frac, ih (R / 10) h1, e3]
    show _ = _ :: (frac k (R % 10 ^ (k + 1) / 10) ++ [UInt8.ofNat (48 + R % 10 ^ (k + 1) % 10)])
    rw [e1, e2]; rfl
theorem frac_zero : ∀ k, stripZ (frac k 0) = []
  | 0 => rfl
  | k + 1 => by
    have h : frac (k + 1) 0 = UInt8.ofNat 48 :: frac k 0 := by
      have := frac_head k 0 (Nat.pow_pos (by omega))
      rw [Nat.zero_div, Nat.zero_mod] at this
      exact this
    have hz : ∀ k, frac k 0 = List.replicate k 48 := by
      intro k
      induction k with
      | zero => rfl
      | succ k ih => show frac k 0 ++ [UInt8.ofNat 48] = _; rw [ih, List.replicate_succ']; rfl
    rw [hz]
    unfold stripZ Lib.trimRightS
    rw [List.reverse_replicate]
    have : ∀ m, (List.replicate m (48 : UInt8)).dropWhile ([(48 : UInt8)].contains ·) = [] := by
      intro m
      induction m with
      | zero => rfl
      | succ m ih => rw [List.replicate_succ, List.dropWhile_cons_of_pos (by decide), ih]
    rw [this]; rfl
theorem frac_some {k R : Nat} (h : R < 10 ^ k) (h0 : 0 < R) : stripZ (frac k R) ≠ [] := by
  intro he
  obtain ⟨m, hm, _⟩ := stripZ_fill (frac k R)
  rw [he, List.nil_append] at hm
  have h1 := natOf_frac k [] R h
  rw [List.nil_append, hm] at h1
  have h2 : natOf (List.replicate m 48) = 0 := by
    have : ∀ m, natOf (List.replicate m (48 : UInt8)) = 0 := by
      intro m
      induction m with
      | zero => rfl
      | succ m ih => rw [List.replicate_succ', natOf_snoc, ih]; rfl
    exact this m
  rw [h2] at h1
  have h3 : natOf ([] : List UInt8) = 0 := rfl
  rw [h3] at h1
  omega
/-- A step: one figure more is told. -/
theorem strip_step {k R : Nat} (h : R < 10 ^ (k + 1)) (h0 : 0 < R) : stripZ (frac (k + 1) R) = UInt8.ofNat (48 + R / 10 ^ k) :: stripZ (frac k (R % 10 ^ k)) := by
  rw [frac_head k R h]
  refine strip_cons _ _ ?_
  by_cases hz : R % 10 ^ k = 0
  · left
    have hp : 0 < 10 ^ k := Nat.pow_pos (by omega)
    have h1 : R / 10 ^ k < 10 := by rw [Nat.div_lt_iff_lt_mul hp, Nat.mul_comm, ← Nat.pow_succ]; exact h
    have h2 : 0 < R / 10 ^ k := by
      have := Nat.div_add_mod' R (10 ^ k)
      rw [hz] at this
      rcases Nat.eq_zero_or_pos (R / 10 ^ k) with h3 | h3
      · rw [h3] at this; omega
      · exact h3
    have : ∀ m : Fin 10, 0 < m.val → UInt8.ofNat (48 + m.val) ≠ 48 := by decide +kernel
    exact this ⟨R / 10 ^ k, h1⟩ h2
  · right
    exact frac_some (Nat.mod_lt _ (Nat.pow_pos (by omega))) (by omega)

theorem ref_figs (n : Nat) (w : World) (h : n ≤ 9223372036854775807) :
    Calls Tryz.prog 42 #[.int .i64 (n : Int)] w fun e w' => e = .returned (.string (ba (Lib.decDigits n))) ∧ Below w.heap.size w w' := by
  have := refFigures_any (n : Int) w (by omega) (by omega)
  have hi : Lib.itoa (n : Int) = Lib.decDigits n := by unfold Lib.itoa; rw [if_neg (by omega)]; rfl
  rw [hi] at this
  exact this
theorem u64_nat (a : Nat) (h : a < 18446744073709551616) : IntKind.u64.wrap (a : Int) = (a : Int) := by
  rw [show IntKind.u64.wrap (a : Int) = (a : Int) % 18446744073709551616 by simp [IntKind.wrap, IntKind.bits, IntKind.signed]]; omega

set_option maxHeartbeats 2000000 in
theorem refText_neg (n : Int) (u q r : Nat) (S1 : ByteArray) (V : Value) (w : World) (hneg : n < 0) (hu : IntKind.u64.wrap (-IntKind.u64.wrap n) = (u : Int))
    (_hq : IntKind.u64.wrap ((u : Int) / 1000000) = (q : Int)) (hq2 : (u : Int) / 1000000 = (q : Int)) (hr : (u : Int) % 1000000 = (r : Int)) (hr' : (u : Int).tmod 1000000 = (r : Int)) (hq63 : q ≤ 9223372036854775807) (hl : S1.size ≤ 40) (hl2 : (ba (Lib.decDigits q)).size ≤ 30)
    (hcat : (⟨#[45]⟩ : ByteArray) ++ ba (Lib.decDigits q) = S1) (hr0 : r = 0 ∨ 0 < r) (hr6 : r < 1000000)
    (HV0 : Hid ((r = 0 → V = .string S1) ∧ (0 < r → V = .string ((S1 ++ ⟨#[46]⟩) ++ ba (stripZ (frac 6 r)))))) :
    Calls Tryz.prog 20 #[.int .i64 n] w fun e w' => e = .returned V ∧ Below w.heap.size w w' := by
  have k1 := fun w => ref_figs q w hq63
  have z1 : ¬ 9223372036854775807 < 1 + (ba (Lib.decDigits q)).size := by omega
  have z2 : ¬ 9223372036854775807 < S1.size + 1 := by omega
  have z5 : ¬ 9223372036854775807 < 1 + S1.size := by omega
  clear hl2
  rcases hr0 with hr0 | hr0
  · have hr1 : ((r : Int) == 0) = true := by rw [hr0]; rfl
    have HV := Lib.hid (HV0.out.1 hr0)
    clear hr0 HV0
    go_enter Tryz.func20, Tryz.ntmps20
    go_wp2_with (go_at_call 42; with_reducible refine (k1 _).mono ?_; rintro e w1 ⟨rfl, hb1⟩)
    all_goals
      go_ret
      exact ⟨by rw [HV.out]; first | rfl | (rw [← hcat]; rfl), hb1⟩
  · have hr1 : ((r : Int) == 0) = false := beq_eq_false_iff_ne.2 (by omega)
    have HV := Lib.hid (HV0.out.2 hr0)
    have HR0 := Lib.hid (And.intro hr0 hr6)
    clear hr0 hr6 HV0
    go_enter Tryz.func20, Tryz.ntmps20
    go_wp2_with (go_at_call 42; with_reducible refine (k1 _).mono ?_; rintro e w1 ⟨rfl, hb1⟩)
    go_loopw [3, 5, 6] (fun a b c wr => ∃ (k R Bn : Nat) (T : ByteArray), a = .string T ∧ b = .int .u64 (R : Int) ∧ c = .int .u64 (Bn : Int) ∧ Hid (Bn = 10 ^ k / 10) ∧ R < 10 ^ k ∧ k ≤ 6 ∧ Hid (V = .string (T ++ ba (stripZ (frac k R)))) ∧ T.size ≤ 66 - k ∧ Below w.heap.size w wr) (fun _ _ c _ => (intOf c).toNat)
    case atStart =>
      exact ⟨6, r, 100000, S1 ++ (⟨#[46]⟩ : ByteArray), by first | rfl | (rw [hcat]) | (rw [← hcat]), by first | rfl | (rw [hr]), rfl, by show 100000 = 10 ^ 6 / 10; decide, by have := HR0.out.2; omega, Nat.le_refl _, HV.out, by rw [ByteArray.size_append]; show S1.size + 1 ≤ 60; omega, hb1⟩
    case round =>
      obtain ⟨k, R, B, T, rfl, rfl, rfl, HBn, hRk, hk6, HI, hT, hbel⟩ := hrel
      by_cases hR : 0 < R
      · cases k with
        | zero => simp at hRk; omega
        | succ k =>
          have hp : 0 < 10 ^ k := Nat.pow_pos (by omega)
          have hB : 10 ^ (k + 1) / 10 = 10 ^ k := by rw [Nat.pow_succ, Nat.mul_div_cancel _ (by omega)]
          have hstep := strip_step hRk hR
          have hd : R / 10 ^ k < 10 := by rw [Nat.div_lt_iff_lt_mul hp, Nat.mul_comm, ← Nat.pow_succ]; exact hRk
          have hm : R % 10 ^ k < 10 ^ k := Nat.mod_lt _ hp
          have hp6 : 10 ^ k ≤ 100000 := Nat.pow_le_pow_right (by omega) (show k ≤ 5 by omega)
          have hm2 : R % 10 ^ k < R ∨ R % 10 ^ k = R := by
            have := Nat.mod_le R (10 ^ k); omega
          have hBe : B = 10 ^ k := HBn.out.trans hB
          obtain ⟨B2, hB2⟩ : ∃ B2, B2 = B / 10 := ⟨_, rfl⟩
          rw [← hBe] at hstep hd hm hp hp6 hm2
          obtain ⟨d, hde⟩ : ∃ d, d = R / B := ⟨_, rfl⟩
          obtain ⟨R2, hR2⟩ : ∃ R2, R2 = R % B := ⟨_, rfl⟩
          rw [← hde, ← hR2] at hstep
          rw [← hde] at hd
          rw [← hR2] at hm hm2
          have q1 : (R : Int) / (B : Int) = (d : Int) := by rw [hde]; rfl
          have q3 : (R : Int) % (B : Int) = (R2 : Int) := by rw [hR2]; rfl
          have q4 : (R : Int).tmod (B : Int) = (R2 : Int) := (Int.tmod_eq_emod_of_nonneg (by omega)).trans q3
          obtain ⟨ch, hch⟩ : ∃ ch, ch = UInt8.ofNat (48 + d) := ⟨_, rfl⟩
          rw [← hch] at hstep
          have q5 : (B : Int) / 10 = (B2 : Int) := by rw [hB2]; rfl
          have q6 : B2 ≤ 100000 := by omega
          have q9 : R2 ≤ 100000 := by omega
          have q7 : ¬ (B : Int) = 0 := by omega
          have q8 : (0 : Int) < (R : Int) := by omega
          have k2 := fun w => ref_figs d w (by omega)
          have hdd : Lib.decDigits d = [UInt8.ofNat (48 + d)] := decDigits_small hd
          rw [hdd, ← hch] at k2
          have z3 : ¬ 9223372036854775807 < T.size + (ba [ch]).size := by rw [ba_len]; show ¬ 9223372036854775807 < T.size + 1; omega
          have hlt : B2 < B := by omega
          have HL := Lib.hid hlt
          have HST := Lib.hid hstep
          have HH := Lib.hid (And.intro hBe (And.intro hm (And.intro hk6 (And.intro hT hB2))))
          clear hch hdd hstep hm hp hp6 hm2 hRk hB hBe hde hR2 hlt hB2 hk6 hT
          go_wp2_with (go_at_call 42; with_reducible refine (k2 _).mono ?_; rintro e w2 ⟨rfl, hb2⟩)
          go_round
          case rel =>
            obtain ⟨e1, e2, e3, e4, e5⟩ := HH.out
            refine ⟨k, R2, B2, T ++ ba [ch], rfl, rfl, rfl, by show B2 = _; rw [← e1]; exact e5, by rw [← e1]; exact e2, by omega, ?_, ?_, below_at hbel hb2 hbel.size⟩
            · show V = _
              rw [HI.out, HST.out]
              congr 1
              rw [show ba (ch :: stripZ (frac k R2)) = ba [ch] ++ ba (stripZ (frac k R2)) from by rw [ba_append]; rfl]
              exact (ByteArray.append_assoc).symm
            · rw [ByteArray.size_append]; show T.size + 1 ≤ 66 - k; omega
          case measure => simp only [intOf]; have := HL.out; omega
      · have q8 : ¬ (0 : Int) < (R : Int) := by omega
        have hR0 : R = 0 := by omega
        subst hR0
        have HF0 := Lib.hid (frac_zero k)
        go_wp2
        go_ret
        refine ⟨?_, hbel⟩
        show Ending.returned (.string T) = _
        have h2 : V = .string (T ++ ba []) := HI.out.trans (by rw [HF0.out])
        rw [h2]
        congr 2
        refine ba_ext ?_
        rw [ByteArray.data_append, Array.toList_append]; simp [ba]
set_option maxHeartbeats 2000000 in
theorem refText_pos (n : Int) (u q r : Nat) (S1 : ByteArray) (V : Value) (w : World) (hneg : ¬ n < 0) (hu : IntKind.u64.wrap n = (u : Int))
    (_hq : IntKind.u64.wrap ((u : Int) / 1000000) = (q : Int)) (hq2 : (u : Int) / 1000000 = (q : Int)) (hr : (u : Int) % 1000000 = (r : Int)) (hr' : (u : Int).tmod 1000000 = (r : Int)) (hq63 : q ≤ 9223372036854775807) (hl : S1.size ≤ 40) (hl2 : (ba (Lib.decDigits q)).size ≤ 30)
    (hcat : (⟨#[]⟩ : ByteArray) ++ ba (Lib.decDigits q) = S1) (hr0 : r = 0 ∨ 0 < r) (hr6 : r < 1000000)
    (HV0 : Hid ((r = 0 → V = .string S1) ∧ (0 < r → V = .string ((S1 ++ ⟨#[46]⟩) ++ ba (stripZ (frac 6 r)))))) :
    Calls Tryz.prog 20 #[.int .i64 n] w fun e w' => e = .returned V ∧ Below w.heap.size w w' := by
  have k1 := fun w => ref_figs q w hq63
  have z1 : ¬ 9223372036854775807 < 0 + (ba (Lib.decDigits q)).size := by omega
  have z2 : ¬ 9223372036854775807 < S1.size + 1 := by omega
  have z5 : ¬ 9223372036854775807 < 1 + S1.size := by omega
  clear hl2
  rcases hr0 with hr0 | hr0
  · have hr1 : ((r : Int) == 0) = true := by rw [hr0]; rfl
    have HV := Lib.hid (HV0.out.1 hr0)
    clear hr0 HV0
    go_enter Tryz.func20, Tryz.ntmps20
    go_wp2_with (go_at_call 42; with_reducible refine (k1 _).mono ?_; rintro e w1 ⟨rfl, hb1⟩)
    all_goals
      go_ret
      exact ⟨by rw [HV.out]; first | rfl | (rw [← hcat]; rfl), hb1⟩
  · have hr1 : ((r : Int) == 0) = false := beq_eq_false_iff_ne.2 (by omega)
    have HV := Lib.hid (HV0.out.2 hr0)
    have HR0 := Lib.hid (And.intro hr0 hr6)
    clear hr0 hr6 HV0
    go_enter Tryz.func20, Tryz.ntmps20
    go_wp2_with (go_at_call 42; with_reducible refine (k1 _).mono ?_; rintro e w1 ⟨rfl, hb1⟩)
    go_loopw [3, 5, 6] (fun a b c wr => ∃ (k R Bn : Nat) (T : ByteArray), a = .string T ∧ b = .int .u64 (R : Int) ∧ c = .int .u64 (Bn : Int) ∧ Hid (Bn = 10 ^ k / 10) ∧ R < 10 ^ k ∧ k ≤ 6 ∧ Hid (V = .string (T ++ ba (stripZ (frac k R)))) ∧ T.size ≤ 66 - k ∧ Below w.heap.size w wr) (fun _ _ c _ => (intOf c).toNat)
    case atStart =>
      exact ⟨6, r, 100000, S1 ++ (⟨#[46]⟩ : ByteArray), by first | rfl | (rw [hcat]) | (rw [← hcat]), by first | rfl | (rw [hr]), rfl, by show 100000 = 10 ^ 6 / 10; decide, by have := HR0.out.2; omega, Nat.le_refl _, HV.out, by rw [ByteArray.size_append]; show S1.size + 1 ≤ 60; omega, hb1⟩
    case round =>
      obtain ⟨k, R, B, T, rfl, rfl, rfl, HBn, hRk, hk6, HI, hT, hbel⟩ := hrel
      by_cases hR : 0 < R
      · cases k with
        | zero => simp at hRk; omega
        | succ k =>
          have hp : 0 < 10 ^ k := Nat.pow_pos (by omega)
          have hB : 10 ^ (k + 1) / 10 = 10 ^ k := by rw [Nat.pow_succ, Nat.mul_div_cancel _ (by omega)]
          have hstep := strip_step hRk hR
          have hd : R / 10 ^ k < 10 := by rw [Nat.div_lt_iff_lt_mul hp, Nat.mul_comm, ← Nat.pow_succ]; exact hRk
          have hm : R % 10 ^ k < 10 ^ k := Nat.mod_lt _ hp
          have hp6 : 10 ^ k ≤ 100000 := Nat.pow_le_pow_right (by omega) (show k ≤ 5 by omega)
          have hm2 : R % 10 ^ k < R ∨ R % 10 ^ k = R := by
            have := Nat.mod_le R (10 ^ k); omega
          have hBe : B = 10 ^ k := HBn.out.trans hB
          obtain ⟨B2, hB2⟩ : ∃ B2, B2 = B / 10 := ⟨_, rfl⟩
          rw [← hBe] at hstep hd hm hp hp6 hm2
          obtain ⟨d, hde⟩ : ∃ d, d = R / B := ⟨_, rfl⟩
          obtain ⟨R2, hR2⟩ : ∃ R2, R2 = R % B := ⟨_, rfl⟩
          rw [← hde, ← hR2] at hstep
          rw [← hde] at hd
          rw [← hR2] at hm hm2
          have q1 : (R : Int) / (B : Int) = (d : Int) := by rw [hde]; rfl
          have q3 : (R : Int) % (B : Int) = (R2 : Int) := by rw [hR2]; rfl
          have q4 : (R : Int).tmod (B : Int) = (R2 : Int) := (Int.tmod_eq_emod_of_nonneg (by omega)).trans q3
          obtain ⟨ch, hch⟩ : ∃ ch, ch = UInt8.ofNat (48 + d) := ⟨_, rfl⟩
          rw [← hch] at hstep
          have q5 : (B : Int) / 10 = (B2 : Int) := by rw [hB2]; rfl
          have q6 : B2 ≤ 100000 := by omega
          have q9 : R2 ≤ 100000 := by omega
          have q7 : ¬ (B : Int) = 0 := by omega
          have q8 : (0 : Int) < (R : Int) := by omega
          have k2 := fun w => ref_figs d w (by omega)
          have hdd : Lib.decDigits d = [UInt8.ofNat (48 + d)] := decDigits_small hd
          rw [hdd, ← hch] at k2
          have z3 : ¬ 9223372036854775807 < T.size + (ba [ch]).size := by rw [ba_len]; show ¬ 9223372036854775807 < T.size + 1; omega
          have hlt : B2 < B := by omega
          have HL := Lib.hid hlt
          have HST := Lib.hid hstep
          have HH := Lib.hid (And.intro hBe (And.intro hm (And.intro hk6 (And.intro hT hB2))))
          clear hch hdd hstep hm hp hp6 hm2 hRk hB hBe hde hR2 hlt hB2 hk6 hT
          go_wp2_with (go_at_call 42; with_reducible refine (k2 _).mono ?_; rintro e w2 ⟨rfl, hb2⟩)
          go_round
          case rel =>
            obtain ⟨e1, e2, e3, e4, e5⟩ := HH.out
            refine ⟨k, R2, B2, T ++ ba [ch], rfl, rfl, rfl, by show B2 = _; rw [← e1]; exact e5, by rw [← e1]; exact e2, by omega, ?_, ?_, below_at hbel hb2 hbel.size⟩
            · show V = _
              rw [HI.out, HST.out]
              congr 1
              rw [show ba (ch :: stripZ (frac k R2)) = ba [ch] ++ ba (stripZ (frac k R2)) from by rw [ba_append]; rfl]
              exact (ByteArray.append_assoc).symm
            · rw [ByteArray.size_append]; show T.size + 1 ≤ 66 - k; omega
          case measure => simp only [intOf]; have := HL.out; omega
      · have q8 : ¬ (0 : Int) < (R : Int) := by omega
        have hR0 : R = 0 := by omega
        subst hR0
        have HF0 := Lib.hid (frac_zero k)
        go_wp2
        go_ret
        refine ⟨?_, hbel⟩
        show Ending.returned (.string T) = _
        have h2 : V = .string (T ++ ba []) := HI.out.trans (by rw [HF0.out])
        rw [h2]
        congr 2
        refine ba_ext ?_
        rw [ByteArray.data_append, Array.toList_append]; simp [ba]

theorem refText_any (n : Int) (w : World) (hn : -9223372036854775808 ≤ n ∧ n ≤ 9223372036854775807) :
    Calls Tryz.prog 20 #[.int .i64 n] w fun e w' => e = .returned (str (textL n)) ∧ Below w.heap.size w w' := by
  obtain ⟨u, hu⟩ : ∃ u, u = n.natAbs := ⟨_, rfl⟩
  have hu2 : u ≤ 9223372036854775808 := by omega
  have hq : ((u : Int) / 1000000) = ((u / 1000000 : Nat) : Int) := rfl
  have hr : ((u : Int) % 1000000) = ((u % 1000000 : Nat) : Int) := rfl
  have hqw : IntKind.u64.wrap ((u : Int) / 1000000) = ((u / 1000000 : Nat) : Int) := by rw [hq, u64_nat _ (by omega)]
  have hdl := decDigits_len (u / 1000000) (by omega)
  have hr' : (u : Int).tmod 1000000 = ((u % 1000000 : Nat) : Int) := (Int.tmod_eq_emod_of_nonneg (by omega)).trans hr
  have hU : ∀ S : List UInt8, Hid ((u % 1000000 = 0 → Value.string (ba (S ++ textU u)) = .string (ba (S ++ Lib.decDigits (u / 1000000)))) ∧ (0 < u % 1000000 → Value.string (ba (S ++ textU u)) = .string ((ba (S ++ Lib.decDigits (u / 1000000)) ++ ⟨#[46]⟩) ++ ba (stripZ (frac 6 (u % 1000000)))))) := by
    intro S
    refine ⟨fun h => ?_, fun h => ?_⟩
    · unfold textU
      rw [h, frac_zero, if_pos rfl, List.append_nil]
    · unfold textU
      rw [if_neg (frac_some (Nat.mod_lt _ (by omega)) h)]
      rw [show (⟨#[46]⟩ : ByteArray) = ba [46] from rfl, ba_append, ba_append]
      congr 2
      simp
  have hw : ∀ x : Int, IntKind.u64.wrap x = x % 18446744073709551616 := fun x => by simp [IntKind.wrap, IntKind.bits, IntKind.signed]
  by_cases h : n < 0
  · have ht : str (textL n) = .string (ba ([45] ++ textU u)) := by unfold str textL; rw [if_pos h, hu]; rfl
    rw [ht]
    exact refText_neg n u (u / 1000000) (u % 1000000) (ba ([45] ++ Lib.decDigits (u / 1000000))) _ w h (by rw [hw, hw]; omega) hqw hq hr hr' (by omega) (by rw [ba_len, List.length_append]; show 1 + _ ≤ 40; omega) (by rw [ba_len]; omega) (ba_append [45] _) (by omega) (by omega) (hU [45])
  · have ht : str (textL n) = .string (ba ([] ++ textU u)) := by unfold str textL; rw [if_neg h, hu]; rfl
    rw [ht]
    exact refText_pos n u (u / 1000000) (u % 1000000) (ba ([] ++ Lib.decDigits (u / 1000000))) _ w h (by rw [hw]; omega) hqw hq hr hr' (by omega) (by rw [ba_len, List.length_append]; show 0 + _ ≤ 40; omega) (by rw [ba_len]; omega) (ba_append [] _) (by omega) (by omega) (hU [])
end Go.Proofs.YtokfkckfclnoaaaGreatDoor
