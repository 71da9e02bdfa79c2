/- Packed texts: DecDiv64, DecArith. What each of them proves stands above its theorems; the conditions stand in these. -/
import Derived.Laws.Bits64b
import Derived.Test.YtbodnhpjfdnjfaaGreatDoorShelf
import Derived.Test.YtbodnhpjfdnjfaaGreatDoorE0
import Derived.Test.YtbodnhpjfdnjfaaGreatDoorE3
import Derived.Test.YtbodnhpjfdnjfaaGreatDoorE5
namespace Go.Proofs.YtbodnhpjfdnjfaaGreatDoor
open Go.RowKit

theorem lead_any (y : Nat) (w : World) (h1 : y < 18446744073709551616) :
    Calls Tryz.prog 291 #[.int .u64 (y : Int)] w fun e w' => e = .returned (.int .i64 ((64 - Lib.bitLen y : Nat) : Int)) ∧ w = w' := by
  have k := fun w => Tryz.bits_Len64 (y : Int) w (by omega) (by omega)
  have hl := Lib.bitLen_le y 64 (by omega) h1
  rw [Int.toNat_natCast] at k
  generalize Lib.bitLen y = m at k hl ⊢
  have h2 : (64 : Int) - (m : Int) = ((64 - m : Nat) : Int) := by omega
  go_enter Tryz.func291, Tryz.ntmps291
  go_wp2_with (go_at_call 296; refine (k _).mono ?_; rintro e w' ⟨rfl, rfl⟩)
  go_ret
  exact ⟨ret_int (by rw [← h2]), rfl⟩
theorem wrap_nat (a : Nat) (h : a < 18446744073709551616) : IntKind.u64.wrap (a : Int) = (a : Int) := by rw [IntKind.wrap_u64]; omega
theorem div64_small (lo y : Nat) (w : World) (hlo : lo < 18446744073709551616) (hy : y < 18446744073709551616) (h : 0 < y) :
    Calls Tryz.prog 258 #[.int .u64 0, .int .u64 (lo : Int), .int .u64 (y : Int)] w fun e w' => (∃ r : Int, e = .returned (.tuple #[.int .u64 ((lo / y : Nat) : Int), .int .u64 r])) ∧ Below w.heap.size w w' := by
  have hy0 : ((y : Int) == 0) = false := beq_eq_false_iff_ne.2 (by omega)
  have hyn : ¬ ((y : Int) = 0) := by omega
  have hy1 : ¬ ((y : Int) ≤ 0) := by omega
  have hq : (lo : Int) / (y : Int) = ((lo / y : Nat) : Int) := rfl
  have h2 := wrap_nat (lo / y) (Nat.lt_of_le_of_lt (Nat.div_le_self lo y) hlo)
  rw [← hq] at h2
  rw [← hq]
  clear hq
  go_enter Tryz.func258, Tryz.ntmps258
  go_wp2_with fail
  go_region_law (fail)
  all_goals
    go_wp2
    go_ret2
    refine ⟨?_, (Below.refl _ w).drew⟩
    simp [Act.put]
set_option maxHeartbeats 1000000 in
theorem div64_great (hi lo y s Y y1 y0 H L u m n1 n0 q r : Nat) (w : World) (_hlo : lo < 18446744073709551616) (_hy : y < 18446744073709551616) (h : hi < y) (h0 : 0 < hi)
    (k1 : ∀ w, Calls Tryz.prog 291 #[.int .u64 (y : Int)] w fun e w' => e = .returned (.int .i64 (s : Int)) ∧ w = w') (hs : s ≤ 63)
    (hY : IntKind.u64.wrap ((y : Int) * 2 ^ s) = (Y : Int)) (hy1 : (Y : Int) / 4294967296 = (y1 : Int)) (hy0 : bits .and .u64 (Y : Int) 4294967295 = (y0 : Int)) (hy1n : ¬ (y1 : Int) = 0)
    (hH : IntKind.u64.wrap ((hi : Int) * 2 ^ s) = (H : Int)) (hL : (lo : Int) / 2 ^ (64 - s) = (L : Int)) (hu : bits .or .u64 (H : Int) (L : Int) = (u : Int))
    (hm : IntKind.u64.wrap ((lo : Int) * 2 ^ s) = (m : Int)) (hn1 : (m : Int) / 4294967296 = (n1 : Int)) (hn0 : bits .and .u64 (m : Int) 4294967295 = (n0 : Int))
    (hq : IntKind.u64.wrap ((u : Int) / (y1 : Int)) = (q : Int)) (hr : IntKind.u64.wrap ((u : Int) - IntKind.u64.wrap ((q : Int) * (y1 : Int))) = (r : Int))
    (hyY : Hid (Y = y1 * 4294967296 + y0 ∧ Y = y * 2 ^ s ∧ (2147483648 ≤ y1 ∧ y1 < 4294967296) ∧ y0 < 4294967296 ∧ u < y1 * 4294967296 + y0 ∧ n1 < 4294967296)) (hg0 : Guess u n1 y1 y0 q r) (hr0 : r < 4294967296)
    (Q R Q0 q0 r0 Z : Nat) (HQ : Hid (Q = (u * 4294967296 + n1) / Y)) (HQ0 : Hid (Q0 = (R * 4294967296 + n0) / Y)) (hRw : IntKind.u64.wrap (IntKind.u64.wrap (IntKind.u64.wrap ((u : Int) * 4294967296) + (n1 : Int)) - IntKind.u64.wrap ((Q : Int) * (Y : Int))) = (R : Int))
    (hq0 : IntKind.u64.wrap ((R : Int) / (y1 : Int)) = (q0 : Int)) (hr00 : IntKind.u64.wrap ((R : Int) - IntKind.u64.wrap ((q0 : Int) * (y1 : Int))) = (r0 : Int))
    (HG0 : Hid (Guess R n0 y1 y0 q0 r0 ∧ r0 < 4294967296 ∧ n0 < 4294967296 ∧ R < y1 * 4294967296 + y0))
    (hZ : IntKind.u64.wrap (IntKind.u64.wrap ((Q : Int) * 4294967296) + (Q0 : Int)) = (Z : Int)) (hZ2 : IntKind.u64.wrap ((Q : Int) * 4294967296 + (Q0 : Int)) = (Z : Int)) (_HZ : Hid (Z = (hi * 18446744073709551616 + lo) / y)) :
    Calls Tryz.prog 258 #[.int .u64 (hi : Int), .int .u64 (lo : Int), .int .u64 (y : Int)] w fun e w' => (∃ r : Int, e = .returned (.tuple #[.int .u64 (Z : Int), .int .u64 r])) ∧ Below w.heap.size w w' := by
  have hyn : ((y : Int) == 0) = false := beq_eq_false_iff_ne.2 (by omega)
  have hh0 : ((hi : Int) == 0) = false := beq_eq_false_iff_ne.2 (by omega)
  have hyh : ¬ ((y : Int) ≤ (hi : Int)) := by omega
  go_enter Tryz.func258, Tryz.ntmps258
  go_wp2_with (go_at_call 291; refine (k1 _).mono ?_; rintro e w' ⟨rfl, rfl⟩)
  have T1 := hyY
  clear hyY hY hy1 hy0 hH hL hu hm hn1 hn0
  go_loop [15, 16] (fun a b => ∃ q r : Nat, a = .int .u64 (q : Int) ∧ b = .int .u64 (r : Int) ∧ Guess u n1 y1 y0 q r ∧ r < 4294967296 ∧ q ≤ 4294967297) (fun a b => (RowKit.intOf a).toNat)
  case atStart => exact ⟨q, r, rfl, rfl, hg0, hr0, guess_le _ _ _ _ _ _ hg0 T1.out.2.2.1.1 T1.out.2.2.2.1 T1.out.2.2.2.2.1⟩
  case round =>
    obtain ⟨q', r', rfl, rfl, hG, hr', hq'⟩ := hrel
    clear hq hr hg0 hr0
    obtain ⟨b1, b7, ⟨b3, b8⟩, b4, b5, b6⟩ := T1.out
    have hr'2 := wrap_nat (4294967296 * r') (by omega)
    obtain ⟨T, hT⟩ : ∃ T, T = 4294967296 * r' + n1 := ⟨_, rfl⟩
    have hT2 : IntKind.u64.wrap (4294967296 * (r' : Int) + (n1 : Int)) = (T : Int) := by rw [show 4294967296 * (r' : Int) + (n1 : Int) = ((4294967296 * r' + n1 : Nat) : Int) by omega, wrap_nat _ (by omega), hT]
    obtain ⟨q2, hq2⟩ : ∃ q2, q2 = q' - 1 := ⟨_, rfl⟩
    obtain ⟨r2, hr2⟩ : ∃ r2, r2 = r' + y1 := ⟨_, rfl⟩
    have hr2w : IntKind.u64.wrap ((r' : Int) + (y1 : Int)) = (r2 : Int) := by rw [show (r' : Int) + (y1 : Int) = ((r' + y1 : Nat) : Int) by omega, wrap_nat _ (by omega), hr2]
    obtain ⟨P, hP⟩ : ∃ P, P = q' * y0 := ⟨_, rfl⟩
    have hP2 : q' < 4294967296 → IntKind.u64.wrap ((q' : Int) * (y0 : Int)) = (P : Int) := by
      intro hlt
      have h3 : q' * y0 ≤ 4294967295 * 4294967295 := Nat.mul_le_mul (by omega) (by omega)
      rw [← Int.natCast_mul, wrap_nat _ (by omega), hP]
    have hq2w : 0 < q' → IntKind.u64.wrap ((q' : Int) - 1) = (q2 : Int) := by
      intro h1
      rw [show (q' : Int) - 1 = ((q' - 1 : Nat) : Int) by omega, wrap_nat _ (by omega), hq2]
    have hstep : (4294967296 ≤ q' ∨ T < P) → 0 < q' ∧ Guess u n1 y1 y0 q2 r2 := by
      rw [hT, hP, hq2, hr2]; exact guess_next _ _ _ _ _ _ hG b6 b5
    have hQ1 : (4294967296 ≤ q' ∨ T < P) → 4294967296 ≤ r2 → q2 = Q := fun h1 h2 => by
      rw [HQ.out, b1]; exact (guess_end_far _ _ _ _ _ _ (hstep h1).2 h2 (by omega) b4).symm
    have hQ2 : P ≤ T → q' = Q := fun h1 => by
      rw [hT, hP] at h1
      rw [HQ.out, b1]; exact (guess_end _ _ _ _ _ _ hG h1).symm
    have hall : (4294967296 ≤ q' ∧ r2 < 4294967296) ∨ (q' < 4294967296 ∧ T < P ∧ r2 < 4294967296) ∨ (4294967296 ≤ q' ∧ 4294967296 ≤ r2) ∨ (q' < 4294967296 ∧ T < P ∧ 4294967296 ≤ r2) ∨ (q' < 4294967296 ∧ P ≤ T) := by omega
    have T2 := Lib.hid (And.intro hT (And.intro hP (And.intro hq2 hr2)))
    clear hT hP hq2 hr2 hG b1 b3 b4 b5 b6 b7 b8
    rcases hall with ⟨a1, a2⟩ | ⟨a1, a2, a3⟩ | ⟨a1, a2⟩ | ⟨a1, a2, a3⟩ | ⟨a1, a2⟩
    · have i1 : (4294967296 : Int) ≤ (q' : Int) := by omega
      have i2 : ¬ ((4294967296 : Int) ≤ (r2 : Int)) := by omega
      have hst := hstep (.inl a1)
      have hw := hq2w hst.1
      have HS := Lib.hid hst
      clear hstep hQ1 hQ2 hq2w hP2 hst
      go_wp2
      go_round
      case rel => exact ⟨q2, r2, rfl, rfl, HS.out.2, a2, by have := T2.out.2.2.1; omega⟩
      case measure => simp only [RowKit.intOf]; have := T2.out.2.2.1; have := HS.out.1; omega
    · have i1 : ¬ (4294967296 : Int) ≤ (q' : Int) := by omega
      have i3 : (T : Int) < (P : Int) := by omega
      have i2 : ¬ ((4294967296 : Int) ≤ (r2 : Int)) := by omega
      have hst := hstep (.inr a2)
      have hw := hq2w hst.1
      have hp := hP2 a1
      have HS := Lib.hid hst
      clear hstep hQ1 hQ2 hq2w hP2 hst
      go_wp2
      go_round
      case rel => exact ⟨q2, r2, rfl, rfl, HS.out.2, a3, by have := T2.out.2.2.1; omega⟩
      case measure => simp only [RowKit.intOf]; have := T2.out.2.2.1; have := HS.out.1; omega
    all_goals
      first
        | (have i1 : (4294967296 : Int) ≤ (q' : Int) := by omega
           have i2 : ((4294967296 : Int) ≤ (r2 : Int)) := by omega
           have hst := hstep (.inl a1)
           have hw := hq2w hst.1
           obtain rfl := hQ1 (.inl a1) a2
           clear hst)
        | (have i1 : ¬ (4294967296 : Int) ≤ (q' : Int) := by omega
           have i3 : (T : Int) < (P : Int) := by omega
           have i2 : ((4294967296 : Int) ≤ (r2 : Int)) := by omega
           have hst := hstep (.inr a2)
           have hw := hq2w hst.1
           have hp := hP2 a1
           obtain rfl := hQ1 (.inr a2) a3
           clear hst)
        | (have i1 : ¬ (4294967296 : Int) ≤ (q' : Int) := by omega
           have i3 : ¬ (T : Int) < (P : Int) := by omega
           have hp := hP2 a1
           obtain rfl := hQ2 a2)
      clear hstep hQ1 hQ2 hq2w hP2 T2
      go_wp2
      go_loop [16, 18] (fun b a => ∃ q r : Nat, a = .int .u64 (q : Int) ∧ b = .int .u64 (r : Int) ∧ Guess R n0 y1 y0 q r ∧ r < 4294967296 ∧ q ≤ 4294967297) (fun _ a => (RowKit.intOf a).toNat)
      case atStart => exact ⟨q0, r0, rfl, rfl, HG0.out.1, HG0.out.2.1, guess_le _ _ _ _ _ _ HG0.out.1 T1.out.2.2.1.1 T1.out.2.2.2.1 HG0.out.2.2.2⟩
      case round =>
        obtain ⟨q5, r5, rfl, rfl, hG, hr5, hq5⟩ := hrel
        obtain ⟨b1, b7, ⟨b3, b8⟩, b4, _, _⟩ := T1.out
        obtain ⟨_, _, b6, b5⟩ := HG0.out
        obtain ⟨T, hT⟩ : ∃ T, T = 4294967296 * r5 + n0 := ⟨_, rfl⟩
        obtain ⟨q6, hq6⟩ : ∃ q6, q6 = q5 - 1 := ⟨_, rfl⟩
        obtain ⟨r6, hr6⟩ : ∃ r6, r6 = r5 + y1 := ⟨_, rfl⟩
        obtain ⟨P, hP⟩ : ∃ P, P = q5 * y0 := ⟨_, rfl⟩
        have hr5w := wrap_nat (4294967296 * r5) (by omega)
        have hTw : IntKind.u64.wrap (4294967296 * (r5 : Int) + (n0 : Int)) = (T : Int) := by rw [show 4294967296 * (r5 : Int) + (n0 : Int) = ((4294967296 * r5 + n0 : Nat) : Int) by omega, wrap_nat _ (by omega), hT]
        have hr6w : IntKind.u64.wrap ((r5 : Int) + (y1 : Int)) = (r6 : Int) := by rw [show (r5 : Int) + (y1 : Int) = ((r5 + y1 : Nat) : Int) by omega, wrap_nat _ (by omega), hr6]
        have hPw : q5 < 4294967296 → IntKind.u64.wrap ((q5 : Int) * (y0 : Int)) = (P : Int) := by
          intro hlt
          have h3 : q5 * y0 ≤ 4294967295 * 4294967295 := Nat.mul_le_mul (by omega) (by omega)
          rw [← Int.natCast_mul, wrap_nat _ (by omega), hP]
        have hq6w : 0 < q5 → IntKind.u64.wrap ((q5 : Int) - 1) = (q6 : Int) := by
          intro h1
          rw [show (q5 : Int) - 1 = ((q5 - 1 : Nat) : Int) by omega, wrap_nat _ (by omega), hq6]
        have hstep : (4294967296 ≤ q5 ∨ T < P) → 0 < q5 ∧ Guess R n0 y1 y0 q6 r6 := by
          rw [hT, hP, hq6, hr6]; exact guess_next _ _ _ _ _ _ hG b6 b5
        have hQ1 : (4294967296 ≤ q5 ∨ T < P) → 4294967296 ≤ r6 → q6 = Q0 := fun h1 h2 => by
          rw [HQ0.out, b1]; exact (guess_end_far _ _ _ _ _ _ (hstep h1).2 h2 (by omega) b4).symm
        have hQ2 : P ≤ T → q5 = Q0 := fun h1 => by
          rw [hT, hP] at h1
          rw [HQ0.out, b1]; exact (guess_end _ _ _ _ _ _ hG h1).symm
        have hall : (4294967296 ≤ q5 ∧ r6 < 4294967296) ∨ (q5 < 4294967296 ∧ T < P ∧ r6 < 4294967296) ∨ (4294967296 ≤ q5 ∧ 4294967296 ≤ r6) ∨ (q5 < 4294967296 ∧ T < P ∧ 4294967296 ≤ r6) ∨ (q5 < 4294967296 ∧ P ≤ T) := by omega
        have T2 := Lib.hid (And.intro hT (And.intro hP (And.intro hq6 hr6)))
        clear hT hP hq6 hr6 hG b1 b3 b4 b5 b6 b7 b8 hq0 hr00
        rcases hall with ⟨a1, a2⟩ | ⟨a1, a2, a3⟩ | ⟨a1, a2⟩ | ⟨a1, a2, a3⟩ | ⟨a1, a2⟩
        · have j1 : (4294967296 : Int) ≤ (q5 : Int) := by omega
          have j2 : ¬ ((4294967296 : Int) ≤ (r6 : Int)) := by omega
          have hst := hstep (.inl a1)
          have hw := hq6w hst.1
          have HS := Lib.hid hst
          clear hstep hQ1 hQ2 hq6w hPw hst
          go_wp2
          go_round
          case rel => exact ⟨q6, r6, rfl, rfl, HS.out.2, a2, by have := T2.out.2.2.1; omega⟩
          case measure => simp only [RowKit.intOf]; have := T2.out.2.2.1; have := HS.out.1; omega
        · have j1 : ¬ (4294967296 : Int) ≤ (q5 : Int) := by omega
          have j3 : (T : Int) < (P : Int) := by omega
          have j2 : ¬ ((4294967296 : Int) ≤ (r6 : Int)) := by omega
          have hst := hstep (.inr a2)
          have hw := hq6w hst.1
          have hp := hPw a1
          have HS := Lib.hid hst
          clear hstep hQ1 hQ2 hq6w hPw hst
          go_wp2
          go_round
          case rel => exact ⟨q6, r6, rfl, rfl, HS.out.2, a3, by have := T2.out.2.2.1; omega⟩
          case measure => simp only [RowKit.intOf]; have := T2.out.2.2.1; have := HS.out.1; omega
        all_goals
          first
            | (have j1 : (4294967296 : Int) ≤ (q5 : Int) := by omega
               have j2 : ((4294967296 : Int) ≤ (r6 : Int)) := by omega
               have hst := hstep (.inl a1)
               have hw := hq6w hst.1
               obtain rfl := hQ1 (.inl a1) a2
               clear hst)
            | (have j1 : ¬ (4294967296 : Int) ≤ (q5 : Int) := by omega
               have j3 : (T : Int) < (P : Int) := by omega
               have j2 : ((4294967296 : Int) ≤ (r6 : Int)) := by omega
               have hst := hstep (.inr a2)
               have hw := hq6w hst.1
               have hp := hPw a1
               obtain rfl := hQ1 (.inr a2) a3
               clear hst)
            | (have j1 : ¬ (4294967296 : Int) ≤ (q5 : Int) := by omega
               have j3 : ¬ (T : Int) < (P : Int) := by omega
               have hp := hPw a1
               obtain rfl := hQ2 a2)
          clear hstep hQ1 hQ2 hq6w hPw T2
          go_wp2
          go_ret2
          exact ⟨⟨_, rfl⟩, Below.refl _ w⟩
/-- THE LIBRARY's DIVISION: the quotient of hi * 2^64 + lo by y, where it is below 2^64. -/
theorem div64_any (hi lo y : Nat) (w : World) (hlo : lo < 18446744073709551616) (hy : y < 18446744073709551616) (h : hi < y) :
    Calls Tryz.prog 258 #[.int .u64 (hi : Int), .int .u64 (lo : Int), .int .u64 (y : Int)] w fun e w' => (∃ r : Int, e = .returned (.tuple #[.int .u64 (((hi * 18446744073709551616 + lo) / y : Nat) : Int), .int .u64 r])) ∧ Below w.heap.size w w' := by
  rcases Nat.eq_zero_or_pos hi with h0 | h0
  · subst h0
    have := div64_small lo y w hlo hy h
    rw [Nat.zero_mul, Nat.zero_add]
    exact this
  · obtain ⟨s, hs⟩ : ∃ s, s = 64 - Lib.bitLen y := ⟨_, rfl⟩
    have k1 := fun w => lead_any y w hy
    rw [← hs] at k1
    obtain ⟨g1, g2, g3⟩ := high_bit 64 y (by omega) hy
    have g0 : 0 < Lib.bitLen y := by
      have := Lib.bitLen_half y (by omega) hy
      omega
    have hbl : Lib.bitLenAux 64 y = Lib.bitLen y := rfl
    rw [hbl, ← hs] at g2 g3
    have hs63 : s ≤ 63 := by omega
    have c64 : (2 : Nat) ^ 64 = 18446744073709551616 := by decide
    rw [c64] at g2 g3
    obtain ⟨m1, m2, m3, m4⟩ := moved hi lo y s hs63 h hlo g3
    have ha : ∀ a : Nat, (a : Int) * 2 ^ s = ((a * 2 ^ s : Nat) : Int) := fun a => by rw [Int.natCast_mul, Int.natCast_pow]; rfl
    have hwm : IntKind.u64.wrap ((lo : Int) * 2 ^ s) = ((lo * 2 ^ s % 18446744073709551616 : Nat) : Int) := by rw [ha, IntKind.wrap_u64]; rfl
    have hLL : (lo : Int) / 2 ^ (64 - s) = ((lo / 2 ^ (64 - s) : Nat) : Int) := by rw [Int.natCast_ediv, Int.natCast_pow]; rfl
    have hmask : ∀ a : Nat, a < 18446744073709551616 → bits .and .u64 (a : Int) 4294967295 = ((a % 4294967296 : Nat) : Int) := fun a ha => Mul64.maskN a ha
    have hdv : ∀ a : Nat, (a : Int) / 4294967296 = ((a / 4294967296 : Nat) : Int) := fun a => rfl
    have hor : bits .or .u64 ((hi * 2 ^ s : Nat) : Int) ((lo / 2 ^ (64 - s) : Nat) : Int) = ((hi * 2 ^ s + lo / 2 ^ (64 - s) : Nat) : Int) := by
      rw [bits_or_u64_nat _ _ m1 (by omega), or_add _ _ _ m2]
    have hml : lo * 2 ^ s % 18446744073709551616 < 18446744073709551616 := Nat.mod_lt _ (by decide)
    have hparts := div_parts hi lo y s (hi * 2 ^ s + lo / 2 ^ (64 - s)) (lo * 2 ^ s % 18446744073709551616) (Nat.two_pow_pos s) m4
    obtain ⟨u, hu⟩ : ∃ u, u = hi * 2 ^ s + lo / 2 ^ (64 - s) := ⟨_, rfl⟩
    obtain ⟨m, hm⟩ : ∃ m, m = lo * 2 ^ s % 18446744073709551616 := ⟨_, rfl⟩
    obtain ⟨Y, hY⟩ : ∃ Y, Y = y * 2 ^ s := ⟨_, rfl⟩
    obtain ⟨Z, hZ⟩ : ∃ Z, Z = (hi * 18446744073709551616 + lo) / y := ⟨_, rfl⟩
    rw [← hu] at m3 hparts hor
    rw [← hm] at hparts hwm hml
    rw [← hY] at m3 hparts g2 g3
    rw [← hZ] at hparts ⊢
    have hYw : IntKind.u64.wrap ((y : Int) * 2 ^ s) = (Y : Int) := by rw [ha, ← hY, wrap_nat _ g3]
    have hHw : IntKind.u64.wrap ((hi : Int) * 2 ^ s) = ((hi * 2 ^ s : Nat) : Int) := by rw [ha, wrap_nat _ m1]
    obtain ⟨y1, hy1⟩ : ∃ y1, y1 = Y / 4294967296 := ⟨_, rfl⟩
    obtain ⟨y0, hy0⟩ : ∃ y0, y0 = Y % 4294967296 := ⟨_, rfl⟩
    obtain ⟨n1, hn1⟩ : ∃ n1, n1 = m / 4294967296 := ⟨_, rfl⟩
    obtain ⟨n0, hn0⟩ : ∃ n0, n0 = m % 4294967296 := ⟨_, rfl⟩
    have e1 : Y = y1 * 4294967296 + y0 := by rw [hy1, hy0]; omega
    have e2 : 2147483648 ≤ y1 := by omega
    have e3 : y1 < 4294967296 := by omega
    have e4 : y0 < 4294967296 := by omega
    have e5 : u < y1 * 4294967296 + y0 := by rw [← e1]; exact m3
    have e6 : n1 < 4294967296 := by omega
    have e7 : n0 < 4294967296 := by omega
    rw [← hn1, ← hn0] at hparts
    have hguess : ∀ v k : Nat, v < y1 * 4294967296 + y0 → k < 4294967296 → Guess v k y1 y0 (v / y1) (v % y1) ∧ v % y1 < 4294967296 ∧ IntKind.u64.wrap ((v : Int) / (y1 : Int)) = ((v / y1 : Nat) : Int) ∧ IntKind.u64.wrap ((v : Int) - IntKind.u64.wrap (((v / y1 : Nat) : Int) * (y1 : Int))) = ((v % y1 : Nat) : Int) := by
      intro v k hv hk
      have f1 := Nat.mod_lt v (show 0 < y1 by omega)
      have f2 := Nat.div_add_mod' v y1
      have f3 : v / y1 * y1 ≤ v := Nat.div_mul_le_self v y1
      refine ⟨guess_first v k y1 y0 hk e2, by omega, ?_, ?_⟩
      · rw [show (v : Int) / (y1 : Int) = ((v / y1 : Nat) : Int) from rfl, wrap_nat _ (Nat.lt_of_le_of_lt (Nat.div_le_self _ _) (by omega))]
      · rw [← Int.natCast_mul, wrap_nat _ (by omega), show (v : Int) - ((v / y1 * y1 : Nat) : Int) = ((v % y1 : Nat) : Int) by omega, wrap_nat _ (by omega)]
    obtain ⟨G1, G2, G3, G4⟩ := hguess u n1 e5 e6
    obtain ⟨R, hR⟩ : ∃ R, R = (u * 4294967296 + n1) % Y := ⟨_, rfl⟩
    obtain ⟨Q, hQ⟩ : ∃ Q, Q = (u * 4294967296 + n1) / Y := ⟨_, rfl⟩
    have r1 : R < y1 * 4294967296 + y0 := by rw [hR, ← e1]; exact Nat.mod_lt _ (by omega)
    obtain ⟨K1, K2, K3, K4⟩ := hguess R n0 r1 e7
    obtain ⟨Q0, hQ0⟩ : ∃ Q0, Q0 = (R * 4294967296 + n0) / Y := ⟨_, rfl⟩
    have q1 : Q < 4294967296 := by rw [hQ]; exact figure_lt u n1 Y m3 e6
    have q2 : Q0 < 4294967296 := by rw [hQ0]; exact figure_lt R n0 Y (by rw [e1]; exact r1) e7
    rw [← hQ, ← hR, ← hQ0] at hparts
    have hZ1 : IntKind.u64.wrap ((Q : Int) * 4294967296 + (Q0 : Int)) = (Z : Int) := by
      rw [show (Q : Int) * 4294967296 + (Q0 : Int) = ((Q * 4294967296 + Q0 : Nat) : Int) by omega, wrap_nat _ (by omega), hparts]
    have hRw : IntKind.u64.wrap (IntKind.u64.wrap (IntKind.u64.wrap ((u : Int) * 4294967296) + (n1 : Int)) - IntKind.u64.wrap ((Q : Int) * (Y : Int))) = (R : Int) := by
      have f := Nat.div_add_mod' (u * 4294967296 + n1) Y
      rw [← hQ, ← hR] at f
      rw [← Int.natCast_mul]
      simp only [IntKind.wrap_u64]
      omega
    exact div64_great hi lo y s Y y1 y0 (hi * 2 ^ s) (lo / 2 ^ (64 - s)) u m n1 n0 (u / y1) (u % y1) w hlo hy h h0 k1 hs63
      hYw (by rw [hdv, hy1]) (by rw [hmask _ g3, hy0]) (by omega) hHw hLL hor hwm (by rw [hdv, hn1]) (by rw [hmask _ hml, hn0]) G3 G4
      ⟨e1, hY, ⟨e2, e3⟩, e4, e5, e6⟩ G1 G2 Q R Q0 (R / y1) (R % y1) Z hQ hQ0 hRw K3 K4 ⟨K1, K2, e7, r1⟩ (by rw [show (Q : Int) * 4294967296 = ((Q * 4294967296 : Nat) : Int) by omega, wrap_nat _ (by omega), show ((Q * 4294967296 : Nat) : Int) = (Q : Int) * 4294967296 by omega]; exact hZ1) hZ1 hZ
end Go.Proofs.YtbodnhpjfdnjfaaGreatDoor
namespace Go.Proofs.YtbodnhpjfdnjfaaGreatDoor
open Go.RowKit

/-- A number that may be too far: as it is, or that it goes too far. -/
def into (x : Int) : Int × Int := if -9223372036854775808 ≤ x ∧ x ≤ 9223372036854775807 then (x, 0) else (0, 3)
def intoE (x : Int) : Ending := .returned (.tuple #[.int .i64 (into x).1, .int .i64 (into x).2])
def overE : Ending := .panicked [{ v := .iface 29 (.int .i64 3), recovered := false }]
def deedOf (x : Int) : Ending := if -9223372036854775808 ≤ x ∧ x ≤ 9223372036854775807 then .returned (.int .i64 x) else overE
theorem deedOf_in {x : Int} (h : -9223372036854775808 ≤ x ∧ x ≤ 9223372036854775807) : deedOf x = .returned (.int .i64 x) := if_pos h
theorem deedOf_out {x : Int} (h : ¬ (-9223372036854775808 ≤ x ∧ x ≤ 9223372036854775807)) : deedOf x = overE := if_neg h
theorem intoE_in {x : Int} (h : -9223372036854775808 ≤ x ∧ x ≤ 9223372036854775807) : intoE x = .returned (.tuple #[.int .i64 x, .int .i64 0]) := by unfold intoE into; rw [if_pos h]
theorem intoE_out {x : Int} (h : ¬ (-9223372036854775808 ≤ x ∧ x ≤ 9223372036854775807)) : intoE x = .returned (.tuple #[.int .i64 0, .int .i64 3]) := by unfold intoE into; rw [if_neg h]

theorem kept_any (k : FuncId) (caps : Array Value) (x : Int) (w : World) (he : ∀ args w, (callFunc k args).run Tryz.prog w = .ok (.enter k args) w)
    (h : ∀ w1, Below w.heap.size w w1 → Calls Tryz.prog k caps w1 fun e w2 => e = deedOf x ∧ Below w1.heap.size w1 w2) :
    Calls Tryz.prog 200 #[.func (.func k) #[] caps] w fun e w' => e = intoE x ∧ Below w.heap.size w w' := by
  by_cases hin : -9223372036854775808 ≤ x ∧ x ≤ 9223372036854775807
  · rw [intoE_in hin]
    rw [deedOf_in hin] at h
    exact kept_ok k caps x w he h
  · rw [intoE_out hin]
    rw [deedOf_out hin] at h
    exact kept_bad k caps 3 w he h

theorem kept_any1 (k : FuncId) (v : Value) (x : Int) (w : World) (he : ∀ args w, (callFunc k args).run Tryz.prog w = .ok (.enter k args) w)
    (h : ∀ w1, Below w.heap.size w w1 → Calls Tryz.prog k #[v] w1 fun e w2 => e = deedOf x ∧ Below w1.heap.size w1 w2) :
    Calls Tryz.prog 200 #[.func (.func k) #[v] #[]] w fun e w' => e = intoE x ∧ Below w.heap.size w w' := by
  by_cases hin : -9223372036854775808 ≤ x ∧ x ≤ 9223372036854775807
  · rw [intoE_in hin]
    rw [deedOf_in hin] at h
    exact kept_ok1 k v x w he h
  · rw [intoE_out hin]
    rw [deedOf_out hin] at h
    exact kept_bad1 k v 3 w he h

theorem wrap64_eq (x : Int) : wrap64 x = (x + 9223372036854775808) % 18446744073709551616 - 9223372036854775808 := by unfold wrap64; rfl
theorem sum_any (a b : Int) (w : World) (ha : -9223372036854775808 ≤ a ∧ a ≤ 9223372036854775807) (hb : -9223372036854775808 ≤ b ∧ b ≤ 9223372036854775807) :
    Calls Tryz.prog 202 #[.int .i64 a, .int .i64 b] w fun e w' => e = deedOf (a + b) ∧ w = w' := by
  by_cases hin : -9223372036854775808 ≤ a + b ∧ a + b ≤ 9223372036854775807
  · rw [deedOf_in hin]
    have hw : wrap64 (a + b) = a + b := by rw [wrap64_eq]; omega
    have d : decide (a + b < a) = decide (b < 0) := by congr 1; exact propext (by omega)
    go_enter Tryz.func202, Tryz.ntmps202
    go_wp2
    all_goals first | (go_ret; exact ⟨rfl, rfl⟩) | (exfalso; simp_all; done)
  · rw [deedOf_out hin]
    have d : (!decide (wrap64 (a + b) < a) == decide (b < 0)) = true := by
      rw [wrap64_eq]
      by_cases h1 : b < 0
      · rw [show decide (b < 0) = true by simp [h1], show decide ((a + b + 9223372036854775808) % 18446744073709551616 - 9223372036854775808 < a) = false by simp; omega]; rfl
      · rw [show decide (b < 0) = false by simp; omega, show decide ((a + b + 9223372036854775808) % 18446744073709551616 - 9223372036854775808 < a) = true by simp; omega]; rfl
    go_enter Tryz.func202, Tryz.ntmps202
    go_wp2
    all_goals first | exact ⟨rfl, rfl, rfl⟩ | (exfalso; simp_all; done)
theorem difference_any (a b : Int) (w : World) (ha : -9223372036854775808 ≤ a ∧ a ≤ 9223372036854775807) (hb : -9223372036854775808 ≤ b ∧ b ≤ 9223372036854775807) :
    Calls Tryz.prog 204 #[.int .i64 a, .int .i64 b] w fun e w' => e = deedOf (a - b) ∧ w = w' := by
  by_cases hin : -9223372036854775808 ≤ a - b ∧ a - b ≤ 9223372036854775807
  · rw [deedOf_in hin]
    have hw : wrap64 (a - b) = a - b := by rw [wrap64_eq]; omega
    have d : decide (a < a - b) = decide (b < 0) := by congr 1; exact propext (by omega)
    go_enter Tryz.func204, Tryz.ntmps204
    go_wp2
    all_goals first | (go_ret; exact ⟨rfl, rfl⟩) | (exfalso; simp_all; done)
  · rw [deedOf_out hin]
    have d : (!decide (a < wrap64 (a - b)) == decide (b < 0)) = true := by
      rw [wrap64_eq]
      by_cases h1 : b < 0
      · rw [show decide (b < 0) = true by simp [h1], show decide (a < (a - b + 9223372036854775808) % 18446744073709551616 - 9223372036854775808) = false by simp; omega]; rfl
      · rw [show decide (b < 0) = false by simp; omega, show decide (a < (a - b + 9223372036854775808) % 18446744073709551616 - 9223372036854775808) = true by simp; omega]; rfl
    go_enter Tryz.func204, Tryz.ntmps204
    go_wp2
    all_goals first | exact ⟨rfl, rfl, rfl⟩ | (exfalso; simp_all; done)

theorem magn_any (a : Int) (w : World) (h : -9223372036854775808 ≤ a ∧ a ≤ 9223372036854775807) :
    Calls Tryz.prog 208 #[.int .i64 a] w fun e w' => e = .returned (.int .u64 (a.natAbs : Int)) ∧ w = w' := by
  by_cases hn : a < 0
  · have hw : IntKind.u64.wrap (-IntKind.u64.wrap a) = (a.natAbs : Int) := by simp only [IntKind.wrap_u64]; omega
    go_enter Tryz.func208, Tryz.ntmps208
    go_wp2
    go_ret
    exact ⟨rfl, rfl⟩
  · have hw : (a.natAbs : Int) = a := by omega
    rw [hw]
    go_enter Tryz.func208, Tryz.ntmps208
    go_wp2
    go_ret
    exact ⟨rfl, rfl⟩

/-- A size with its sign. -/
def sgn (b : Bool) (s : Nat) : Int := if b then -(s : Int) else (s : Int)
theorem signed_any (s : Nat) (b : Bool) (w : World) (h1 : s < 18446744073709551616) :
    Calls Tryz.prog 206 #[.int .u64 (s : Int), .bool b] w fun e w' => e = deedOf (sgn b s) ∧ w = w' := by
  cases b
  · have hs : sgn false s = (s : Int) := rfl
    rw [hs]
    by_cases h : (s : Int) ≤ 9223372036854775807
    · rw [deedOf_in (by omega)]
      go_enter Tryz.func206, Tryz.ntmps206
      go_wp2
      all_goals go_ret
      all_goals exact ⟨rfl, rfl⟩
    · rw [deedOf_out (by omega)]
      go_enter Tryz.func206, Tryz.ntmps206
      go_wp2
      all_goals exact ⟨rfl, rfl, rfl⟩
  · have hs : sgn true s = -(s : Int) := rfl
    rw [hs]
    by_cases h : (s : Int) ≤ 9223372036854775808
    · rw [deedOf_in (by omega)]
      have hw : wrap64 (-wrap64 (s : Int)) = -(s : Int) := by simp only [wrap64_eq]; omega
      go_enter Tryz.func206, Tryz.ntmps206
      go_wp2
      all_goals go_ret
      all_goals exact ⟨ret_int hw, rfl⟩
    · rw [deedOf_out (by omega)]
      go_enter Tryz.func206, Tryz.ntmps206
      go_wp2
      all_goals exact ⟨rfl, rfl, rfl⟩

/-- A product, divided; it goes too far where the quotient has more than 64 bits. -/
def scaledE (a b c : Nat) : Ending := if a * b / 18446744073709551616 < c then .returned (.int .u64 ((a * b / c : Nat) : Int)) else overE
theorem scaled_any (a b c : Nat) (w : World) (ha : a < 18446744073709551616) (hb : b < 18446744073709551616) (hc : c < 18446744073709551616) :
    Calls Tryz.prog 207 #[.int .u64 (a : Int), .int .u64 (b : Int), .int .u64 (c : Int)] w fun e w' => e = scaledE a b c ∧ Below w.heap.size w w' := by
  have k1 := fun w => Tryz.bits_Mul64 a b ha hb w
  by_cases h : a * b / 18446744073709551616 < c
  · have hE : scaledE a b c = .returned (.int .u64 ((a * b / c : Nat) : Int)) := if_pos h
    rw [hE]
    have k2 := fun w => div64_any (a * b / 18446744073709551616) (a * b % 18446744073709551616) c w (Nat.mod_lt _ (by decide)) hc h
    rw [Nat.div_add_mod'] at k2
    clear hE
    generalize a * b / 18446744073709551616 = H at k1 k2 h
    generalize a * b % 18446744073709551616 = L at k1 k2
    generalize a * b / c = Z at k2 ⊢
    have hd : ¬ ((c : Int) ≤ (H : Int)) := by omega
    go_enter Tryz.func207, Tryz.ntmps207
    go_wp2_with (first | (go_at_call 257; refine (k1 _).mono ?_; rintro e w' ⟨rfl, rfl⟩) | (go_at_call 258; refine (k2 _).mono ?_; rintro e w' ⟨⟨r, rfl⟩, hb1⟩))
    all_goals go_ret
    all_goals exact ⟨rfl, hb1⟩
  · have hE : scaledE a b c = overE := if_neg h
    rw [hE]
    clear hE
    generalize a * b / 18446744073709551616 = H at k1 h
    generalize a * b % 18446744073709551616 = L at k1
    have hd : ((c : Int) ≤ (H : Int)) := by omega
    go_enter Tryz.func207, Tryz.ntmps207
    go_wp2_with (first | (go_at_call 257; refine (k1 _).mono ?_; rintro e w' ⟨rfl, rfl⟩))
    all_goals exact ⟨rfl, rfl, Below.refl _ _⟩
end Go.Proofs.YtbodnhpjfdnjfaaGreatDoor
