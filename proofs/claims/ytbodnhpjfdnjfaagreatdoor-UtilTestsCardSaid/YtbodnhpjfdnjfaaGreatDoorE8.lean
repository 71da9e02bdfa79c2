/- Packed texts: DecRead, DecReckon. What each of them proves stands above its theorems; the conditions stand in these. -/
import Derived.Deep.RegionHeld3
import Derived.Test.YtbodnhpjfdnjfaaGreatDoorE6
import Derived.Test.YtbodnhpjfdnjfaaGreatDoorE7
namespace Go.Proofs.YtbodnhpjfdnjfaaGreatDoor
open Go.RowKit

def readE (l : List UInt8) : Ending := .returned (.tuple #[.int .i64 (readD l).1, .int .i64 (readD l).2.1, .int .i64 (readD l).2.2])
theorem read_walk_none (s sg wh fr : ByteArray) (u : Int) (w : World) (h1 : wh.size + fr.size ≤ 9223372036854775807) (he : (wh ++ fr).toList.isEmpty = true)
    (k1 : ∀ w, Calls Tryz.prog 210 #[.string s] w fun e w' => e = .returned (.agg #[.string sg, .string wh, .string fr, .int .i64 u]) ∧ Below w.heap.size w w') :
    Calls Tryz.prog 171 #[.string s] w fun e w' => e = .returned (.tuple #[.int .i64 0, .int .i64 0, .int .i64 2]) ∧ Below w.heap.size w w' := by
  have hmf : ∀ (fn : Fn) (first cap : Array Value) (w : World), (Instr.makeFunc fn first cap).run Tryz.prog w = .ok (.func fn first cap) w := fun _ _ _ _ => rfl
  have n1 : ¬ 9223372036854775807 < wh.size + fr.size := by omega
  go_enter Tryz.func171, Tryz.ntmps171
  go_wp2_with (go_at_call 210; refine (k1 _).mono ?_; rintro e w1 ⟨rfl, hb1⟩)
  go_ret3
  exact ⟨rfl, hb1.alloc hb1.size _⟩
theorem form_new (w1 w2 : World) (a b c d : Value) (hb : Below (w1.alloc (.cells #[a, b, c, d] 207)).heap.size (w1.alloc (.cells #[a, b, c, d] 207)) w2) :
    w2.cell? ⟨w1.heap.size, 3, none⟩ = some d :=
  (stands4_cells (stands4_old (heap_alloc_new _ _) hb)).2.2.2.2.2.2.1
theorem read_walk_ok (s sg wh fr : ByteArray) (u n : Int) (w : World) (h1 : wh.size + fr.size ≤ 9223372036854775807) (he : (wh ++ fr).toList.isEmpty = false)
    (k1 : ∀ w, Calls Tryz.prog 210 #[.string s] w fun e w' => e = .returned (.agg #[.string sg, .string wh, .string fr, .int .i64 u]) ∧ Below w.heap.size w w')
    (k2 : ∀ w, Calls Tryz.prog 200 #[.func (.func 211) #[.agg #[.string sg, .string wh, .string fr, .int .i64 u]] #[]] w fun e w' => e = .returned (.tuple #[.int .i64 n, .int .i64 0]) ∧ Below w.heap.size w w') :
    Calls Tryz.prog 171 #[.string s] w fun e w' => e = .returned (.tuple #[.int .i64 n, .int .i64 u, .int .i64 0]) ∧ Below w.heap.size w w' := by
  have hmf : ∀ (fn : Fn) (first cap : Array Value) (w : World), (Instr.makeFunc fn first cap).run Tryz.prog w = .ok (.func fn first cap) w := fun _ _ _ _ => rfl
  have n1 : ¬ 9223372036854775807 < wh.size + fr.size := by omega
  go_enter Tryz.func171, Tryz.ntmps171
  go_wp2_with (first | (go_at_call 210; refine (k1 _).mono ?_; rintro e w1 ⟨rfl, hb1⟩) | (go_at_call 200; refine (k2 _).mono ?_; rintro e w2 ⟨rfl, hb2⟩; have hc := form_new _ _ _ _ _ _ hb2))
  go_region_held3 (fun w' => w'.cell? ⟨w1.heap.size, 3, none⟩ = some (.int .i64 u)) (first | assumption | exact hc) (fail)
  all_goals
    go_wp2
    go_ret3
    exact ⟨rfl, ((hb1.alloc hb1.size _).trans (hb2.mono (hb1.alloc hb1.size _).size)).drew⟩
theorem read_walk_bad (s sg wh fr : ByteArray) (u er : Int) (w : World) (h1 : wh.size + fr.size ≤ 9223372036854775807) (he : (wh ++ fr).toList.isEmpty = false) (her : er ≠ 0)
    (k1 : ∀ w, Calls Tryz.prog 210 #[.string s] w fun e w' => e = .returned (.agg #[.string sg, .string wh, .string fr, .int .i64 u]) ∧ Below w.heap.size w w')
    (k2 : ∀ w, Calls Tryz.prog 200 #[.func (.func 211) #[.agg #[.string sg, .string wh, .string fr, .int .i64 u]] #[]] w fun e w' => e = .returned (.tuple #[.int .i64 0, .int .i64 er]) ∧ Below w.heap.size w w') :
    Calls Tryz.prog 171 #[.string s] w fun e w' => e = .returned (.tuple #[.int .i64 0, .int .i64 0, .int .i64 er]) ∧ Below w.heap.size w w' := by
  have hmf : ∀ (fn : Fn) (first cap : Array Value) (w : World), (Instr.makeFunc fn first cap).run Tryz.prog w = .ok (.func fn first cap) w := fun _ _ _ _ => rfl
  have n1 : ¬ 9223372036854775807 < wh.size + fr.size := by omega
  have n2 : ((er : Int) == 0) = false := beq_eq_false_iff_ne.2 her
  go_enter Tryz.func171, Tryz.ntmps171
  go_wp2_with (first | (go_at_call 210; refine (k1 _).mono ?_; rintro e w1 ⟨rfl, hb1⟩) | (go_at_call 200; refine (k2 _).mono ?_; rintro e w2 ⟨rfl, hb2⟩; have hc := form_new _ _ _ _ _ _ hb2))
  go_ret3
  exact ⟨rfl, (hb1.alloc hb1.size _).trans (hb2.mono (hb1.alloc hb1.size _).size)⟩

theorem numD_into (b : Bool) (v : Nat) : numD b v = into (sgn b v) := by
  unfold numD into
  cases b
  · show (if v ≤ 9223372036854775807 then ((v : Int), 0) else (0, 3)) = if -9223372036854775808 ≤ (v : Int) ∧ (v : Int) ≤ 9223372036854775807 then ((v : Int), 0) else (0, 3)
    by_cases h : v ≤ 9223372036854775807
    · rw [if_pos h, if_pos (by omega)]
    · rw [if_neg h, if_neg (by omega)]
  · show (if v ≤ 9223372036854775808 then (-(v : Int), 0) else (0, 3)) = if -9223372036854775808 ≤ -(v : Int) ∧ -(v : Int) ≤ 9223372036854775807 then (-(v : Int), 0) else (0, 3)
    by_cases h : v ≤ 9223372036854775808
    · rw [if_pos h, if_pos (by omega)]
    · rw [if_neg h, if_neg (by omega)]
theorem signL_cases (l : List UInt8) : signL l = [] ∨ signL l = [45] ∨ signL l = [43] := by
  cases l with
  | nil => exact .inl rfl
  | cons c r =>
    show (if isSgn c then [c] else []) = [] ∨ (if isSgn c then [c] else []) = [45] ∨ (if isSgn c then [c] else []) = [43]
    by_cases h : isSgn c = true
    · rw [if_pos h]
      unfold isSgn at h
      rw [Bool.or_eq_true, beq_iff_eq, beq_iff_eq] at h
      rcases h with rfl | rfl
      · exact .inr (.inl rfl)
      · exact .inr (.inr rfl)
    · rw [if_neg h]; exact .inl rfl
theorem pointP_figs (l : List UInt8) : (pointP l).1.all isFig = true := by
  unfold pointP pointL
  split
  · exact figs_isFig _
  · rfl
theorem wholeP_le (l : List UInt8) : (wholeP l).length ≤ l.length := by
  have a1 := atSign_length l
  have a2 := unsign_length (atSign l)
  have a3 := figs_length_le (unsign (atSign l))
  show (figs (unsign (atSign l))).length ≤ _
  omega
theorem pointP_le (l : List UInt8) : (pointP l).1.length ≤ l.length := by
  have a1 := atSign_length l
  have a2 := unsign_length (atSign l)
  have a3 := rest1_le (unsign (atSign l))
  unfold pointP pointL
  split
  · have h1 := figs_length_le (rest1 (unsign (atSign l))).tail
    rw [List.length_tail] at h1
    show (figs (rest1 (unsign (atSign l))).tail).length ≤ _
    omega
  · exact Nat.zero_le _

theorem read_any (s : ByteArray) (w : World) (hs : s.size ≤ 30000000000000) :
    Calls Tryz.prog 171 #[.string s] w fun e w' => e = readE s.data.toList ∧ Below w.heap.size w w' := by
  have k1 := fun w => find_any s w (by omega)
  have hsz : s.size = s.data.toList.length := ba_size s
  generalize s.data.toList = l at k1 hsz ⊢
  have b1 := wholeP_le l
  have b2 := pointP_le l
  have hsum : (ba (wholeP l)).size + (ba (pointP l).1).size ≤ 9223372036854775807 := by rw [ba_len, ba_len]; omega
  have hemp : (ba (wholeP l) ++ ba (pointP l).1).toList.isEmpty = (wholeP l ++ (pointP l).1).isEmpty := by rw [ba_append, ba_empty]
  by_cases h0 : wholeP l ++ (pointP l).1 = []
  · have hE : readE l = .returned (.tuple #[.int .i64 0, .int .i64 0, .int .i64 2]) := by unfold readE readD; rw [if_pos h0]
    rw [hE]
    exact read_walk_none s (ba (signL (atSign l))) (ba (wholeP l)) (ba (pointP l).1) (usedP l) w hsum (by rw [hemp, h0]; rfl) k1
  · have hne : (ba (wholeP l) ++ ba (pointP l).1).toList.isEmpty = false := by
      rw [hemp]
      cases h : wholeP l ++ (pointP l).1 with
      | nil => exact absurd h h0
      | cons _ _ => rfl
    have k2 : ∀ w, Calls Tryz.prog 200 #[.func (.func 211) #[.agg #[.string (ba (signL (atSign l))), .string (ba (wholeP l)), .string (ba (pointP l).1), .int .i64 (usedP l)]] #[]] w fun e w' => e = intoE (sgn (signL (atSign l) == [45]) (natOf (wholeP l ++ ((pointP l).1 ++ zeros6).take 6))) ∧ Below w.heap.size w w' :=
      fun w => kept_any1 211 _ _ w (enters_of Tryz.func211 (by kernel_rfl) rfl) (fun w1 _ => number_any (signL (atSign l)) (wholeP l) (pointP l).1 (usedP l) w1 (signL_cases _) (figs_isFig _) (pointP_figs l) (by omega) (by omega))
    have hN : numP l = into (sgn (signL (atSign l) == [45]) (natOf (wholeP l ++ ((pointP l).1 ++ zeros6).take 6))) := numD_into _ _
    generalize sgn (signL (atSign l) == [45]) (natOf (wholeP l ++ ((pointP l).1 ++ zeros6).take 6)) = x at k2 hN
    by_cases hin : -9223372036854775808 ≤ x ∧ x ≤ 9223372036854775807
    · rw [intoE_in hin] at k2
      have hN2 : numP l = (x, 0) := by rw [hN]; unfold into; rw [if_pos hin]
      have hE : readE l = .returned (.tuple #[.int .i64 x, .int .i64 (usedP l), .int .i64 0]) := by unfold readE readD; rw [if_neg h0, hN2, if_pos rfl]
      rw [hE]
      exact read_walk_ok s _ _ _ _ _ w hsum hne k1 k2
    · rw [intoE_out hin] at k2
      have hN2 : numP l = (0, 3) := by rw [hN]; unfold into; rw [if_neg hin]
      have hE : readE l = .returned (.tuple #[.int .i64 0, .int .i64 0, .int .i64 3]) := by unfold readE readD; rw [if_neg h0, hN2, if_neg (by simp)]
      rw [hE]
      exact read_walk_bad s _ _ _ _ _ w hsum hne (by omega) k1 k2
end Go.Proofs.YtbodnhpjfdnjfaaGreatDoor
namespace Go.Proofs.YtbodnhpjfdnjfaaGreatDoor
open Go.RowKit

theorem add1_any (p q : Nat) (a b : Int) (w : World) (ha : -9223372036854775808 ≤ a ∧ a ≤ 9223372036854775807) (hb : -9223372036854775808 ≤ b ∧ b ≤ 9223372036854775807)
    (hp : w.cell? ⟨p, 0, none⟩ = some (.int .i64 a)) (hq : w.cell? ⟨q, 0, none⟩ = some (.int .i64 b)) :
    Calls Tryz.prog 201 #[.pointer (some ⟨p, 0, none⟩), .pointer (some ⟨q, 0, none⟩)] w fun e w' => e = deedOf (a + b) ∧ Below w.heap.size w w' := by
  have k1 := fun w => sum_any a b w ha hb
  clear ha hb
  by_cases hin : -9223372036854775808 ≤ a + b ∧ a + b ≤ 9223372036854775807
  · rw [deedOf_in hin] at *
    clear hin
    go_enter Tryz.func201, Tryz.ntmps201
    go_wp2_with (go_at_call 202; refine (k1 _).mono ?_; rintro e w' ⟨rfl, rfl⟩)
    go_ret
    exact ⟨rfl, Below.refl _ _⟩
  · rw [deedOf_out hin] at *
    clear hin
    unfold overE at *
    go_enter Tryz.func201, Tryz.ntmps201
    go_wp2_with (go_at_call 202; refine (k1 _).mono ?_; rintro e w' ⟨rfl, rfl⟩)
    exact ⟨rfl, rfl, Below.refl _ _⟩
/-- Two variables that a reckoning captured stand as they were. -/
structure Two (p q : Nat) (a b : Int) (w0 w : World) : Prop where
  one : w.cell? ⟨p, 0, none⟩ = some (.int .i64 a)
  two : w.cell? ⟨q, 0, none⟩ = some (.int .i64 b)
  bel : Below w0.heap.size w0 w
theorem Two.drew {p q : Nat} {a b : Int} {w0 w : World} (h : Two p q a b w0 w) : Two p q a b w0 w.drew := ⟨h.one, h.two, h.bel.drew⟩
theorem cell_in {w : World} {p : Nat} {v : Value} (h : w.cell? ⟨p, 0, none⟩ = some v) : p < w.heap.size := by
  by_cases hl : p < w.heap.size
  · exact hl
  · exfalso
    simp [World.cell?, Array.getElem?_eq_none (Nat.le_of_not_lt hl)] at h
theorem Two.step {p q : Nat} {a b : Int} {w0 w w1 : World} (h : Two p q a b w0 w) (hb : Below w.heap.size w w1) : Two p q a b w0 w1 :=
  ⟨(hb.cell (cell_in h.one)).trans h.one, (hb.cell (cell_in h.two)).trans h.two, h.bel.trans (hb.mono h.bel.size)⟩

theorem Two.conj {p q : Nat} {a b : Int} {w0 w : World} (h : Two p q a b w0 w) : w.cell? ⟨p, 0, none⟩ = some (.int .i64 a) ∧ w.cell? ⟨q, 0, none⟩ = some (.int .i64 b) ∧ Below w0.heap.size w0 w := ⟨h.one, h.two, h.bel⟩
theorem tdiv_abs (x c : Int) (s : Bool) (hs : x ≠ 0 → s = (decide (x < 0) != decide (c < 0))) : sgn s (x.natAbs / c.natAbs) = x.tdiv c := by
  by_cases h0 : x = 0
  · subst h0
    simp [sgn]
  · rw [hs h0]
    by_cases h1 : x < 0 <;> by_cases h2 : c < 0
    · obtain ⟨m, rfl⟩ : ∃ m : Nat, x = -(m : Int) := ⟨x.natAbs, by omega⟩
      obtain ⟨n, rfl⟩ : ∃ n : Nat, c = -(n : Int) := ⟨c.natAbs, by omega⟩
      rw [Int.neg_tdiv, Int.tdiv_neg, Int.neg_neg, Int.tdiv_eq_ediv_of_nonneg (by omega)]
      simp [sgn]
      intro h; exfalso; omega
    · obtain ⟨m, rfl⟩ : ∃ m : Nat, x = -(m : Int) := ⟨x.natAbs, by omega⟩
      obtain ⟨n, rfl⟩ : ∃ n : Nat, c = (n : Int) := ⟨c.natAbs, by omega⟩
      rw [Int.neg_tdiv, Int.tdiv_eq_ediv_of_nonneg (by omega)]
      simp [sgn, h2]
      intro h; exfalso; omega
    · obtain ⟨m, rfl⟩ : ∃ m : Nat, x = (m : Int) := ⟨x.natAbs, by omega⟩
      obtain ⟨n, rfl⟩ : ∃ n : Nat, c = -(n : Int) := ⟨c.natAbs, by omega⟩
      rw [Int.tdiv_neg, Int.tdiv_eq_ediv_of_nonneg (by omega)]
      simp [sgn, h1]
      intro h; exfalso; omega
    · obtain ⟨m, rfl⟩ : ∃ m : Nat, x = (m : Int) := ⟨x.natAbs, by omega⟩
      obtain ⟨n, rfl⟩ : ∃ n : Nat, c = (n : Int) := ⟨c.natAbs, by omega⟩
      rw [Int.tdiv_eq_ediv_of_nonneg (by omega)]
      simp [sgn, h1, h2]
theorem mul_neg_sign (a b : Int) (h : a * b ≠ 0) : decide (a * b < 0) = (decide (a < 0) != decide (b < 0)) := by
  have ha : a ≠ 0 := fun e => h (by rw [e, Int.zero_mul])
  have hb : b ≠ 0 := fun e => h (by rw [e, Int.mul_zero])
  by_cases h1 : a < 0 <;> by_cases h2 : b < 0
  · have := Int.mul_pos_of_neg_of_neg h1 h2
    simp [h1, h2]; omega
  · have := Int.mul_neg_of_neg_of_pos h1 (show 0 < b by omega)
    simp [h1, h2, this]
  · have := Int.mul_neg_of_pos_of_neg (show 0 < a by omega) h2
    simp [h1, h2, this]
  · have := Int.mul_pos (show 0 < a by omega) (show 0 < b by omega)
    simp [h1, h2]; omega
theorem mul_value (a b : Int) : sgn (decide (a < 0) != decide (b < 0)) (a.natAbs * b.natAbs / 1000000) = (a * b).tdiv 1000000 := by
  have := tdiv_abs (a * b) 1000000 (decide (a < 0) != decide (b < 0)) (fun h => by rw [mul_neg_sign a b h]; simp)
  rw [Int.natAbs_mul] at this
  exact this
theorem div_value (a b : Int) : sgn (decide (a < 0) != decide (b < 0)) (a.natAbs * 1000000 / b.natAbs) = (a * 1000000).tdiv b := by
  have := tdiv_abs (a * 1000000) b (decide (a < 0) != decide (b < 0)) (fun h => by
    congr 2
    exact propext (by omega))
  rw [Int.natAbs_mul] at this
  exact this
theorem far_out (s : Bool) (p c : Nat) (hc : 0 < c) (h : ¬ p / 18446744073709551616 < c) : ¬ (-9223372036854775808 ≤ sgn s (p / c) ∧ sgn s (p / c) ≤ 9223372036854775807) := by
  have h1 : c ≤ p / 18446744073709551616 := by omega
  rw [Nat.le_div_iff_mul_le (by decide)] at h1
  have h2 : 18446744073709551616 ≤ p / c := by rw [Nat.le_div_iff_mul_le hc, Nat.mul_comm]; exact h1
  cases s
  · have : sgn false (p / c) = ((p / c : Nat) : Int) := rfl
    omega
  · have : sgn true (p / c) = -((p / c : Nat) : Int) := rfl
    omega

set_option maxHeartbeats 1000000 in
theorem mul1_any (p q : Nat) (a b : Int) (w : World) (ha : -9223372036854775808 ≤ a ∧ a ≤ 9223372036854775807) (hb : -9223372036854775808 ≤ b ∧ b ≤ 9223372036854775807)
    (hp : w.cell? ⟨p, 0, none⟩ = some (.int .i64 a)) (hq : w.cell? ⟨q, 0, none⟩ = some (.int .i64 b)) :
    Calls Tryz.prog 205 #[.pointer (some ⟨p, 0, none⟩), .pointer (some ⟨q, 0, none⟩)] w fun e w' => e = deedOf ((a * b).tdiv 1000000) ∧ Below w.heap.size w w' := by
  have k1 := fun w => magn_any a w ha
  have k2 := fun w => magn_any b w hb
  have k3 := fun w => magn_any 1000000 w (by omega)
  have k4 := fun w => scaled_any (a.natAbs) (b.natAbs) (1000000) w (by omega) (by omega) (by omega)
  have HS : Two p q a b w w := ⟨hp, hq, Below.refl _ _⟩
  rw [show (((1000000 : Int).natAbs : Nat) : Int) = 1000000 from rfl] at k3
  rw [← mul_value]
  have hfar := far_out (decide (a < 0) != decide (b < 0)) ((a.natAbs) * (b.natAbs)) (1000000) (by omega)
  by_cases hin : (a.natAbs) * (b.natAbs) / 18446744073709551616 < (1000000)
  · have hE : scaledE (a.natAbs) (b.natAbs) (1000000) = .returned (.int .u64 ((((a.natAbs) * (b.natAbs)) / (1000000) : Nat) : Int)) := if_pos hin
    rw [hE] at k4
    clear hE hfar
    have hz : (a.natAbs) * (b.natAbs) / (1000000) < 18446744073709551616 := by
      rcases Nat.eq_zero_or_pos (1000000) with hc | hc
      · rw [hc, Nat.div_zero]; decide
      · rw [Nat.div_lt_iff_lt_mul hc]
        rw [Nat.div_lt_iff_lt_mul (by decide)] at hin
        rw [Nat.mul_comm] at hin ⊢
        omega
    generalize (a.natAbs) * (b.natAbs) / (1000000) = z at k4 hz ⊢
    rw [show ((1000000 : Nat) : Int) = 1000000 from rfl] at k4
    generalize a.natAbs = a' at k1 k4
    generalize b.natAbs = b' at k2 k4
    obtain ⟨s, hs⟩ : ∃ s, s = (decide (a < 0) != decide (b < 0)) := ⟨_, rfl⟩
    rw [← hs]
    have hs2 := hs.symm
    have hs3 : (!decide (a < 0) == decide (b < 0)) = s := hs.symm
    have HSS := Lib.hid hs
    clear hs
    have k5 := fun w => signed_any z s w hz
    clear ha hb hin
    by_cases hin : -9223372036854775808 ≤ sgn s z ∧ sgn s z ≤ 9223372036854775807
    · rw [deedOf_in hin] at *
      generalize sgn s z = r at *
      go_enter Tryz.func205, Tryz.ntmps205
      go_wp2_with fail
      refine wp_region_held_drew (S := (fun w' => w'.cell? ⟨p, 0, none⟩ = some (.int .i64 a) ∧ w'.cell? ⟨q, 0, none⟩ = some (.int .i64 b) ∧ Below w.heap.size w w')) (by kernel_rfl) HS.drew.conj (fun hHeld => ?_)
      refine wpAnyH_take (i := 0) (v := .int .i64 a) rfl (by kernel_rfl) (by kernel_rfl) (by kernel_rfl) (fun _ _ _ h => h) (Or.inl ⟨by rfl, by intro w hSw; obtain ⟨c1, c2, c3⟩ := hSw; first | (go_simp; done) | (go_simp; with_reducible rfl)⟩) hHeld ?_
      try simp only [Act.put, List.setIfInBounds_toArray]
      refine wpAnyH_take (i := 2) (v := .int .i64 b) rfl (by kernel_rfl) (by kernel_rfl) (by kernel_rfl) (fun _ _ _ h => h) (Or.inl ⟨by rfl, by intro w hSw; obtain ⟨c1, c2, c3⟩ := hSw; first | (go_simp; done) | (go_simp; with_reducible rfl)⟩) hHeld ?_
      try simp only [Act.put]
      refine wpAnyH_take (i := 6) (v := .int .i64 a) rfl (by kernel_rfl) (by kernel_rfl) (by kernel_rfl) (fun _ _ _ h => h) (Or.inl ⟨by rfl, by intro w hSw; obtain ⟨c1, c2, c3⟩ := hSw; first | (go_simp; done) | (go_simp; with_reducible rfl)⟩) hHeld ?_
      try simp only [Act.put]
      refine wpAnyH_take (i := 8) (v := .int .i64 b) rfl (by kernel_rfl) (by kernel_rfl) (by kernel_rfl) (fun _ _ _ h => h) (Or.inl ⟨by rfl, by intro w hSw; obtain ⟨c1, c2, c3⟩ := hSw; first | (go_simp; done) | (go_simp; with_reducible rfl)⟩) hHeld ?_
      try simp only [Act.put]
      refine wpAnyH_take (i := 7) (v := .bool (decide (a < 0))) rfl (by kernel_rfl) (by kernel_rfl) (by kernel_rfl) (fun _ _ _ h => h) (Or.inl ⟨by rfl, by intro w hSw; obtain ⟨c1, c2, c3⟩ := hSw; first | (go_simp; done) | (go_simp; with_reducible rfl)⟩) hHeld ?_
      try simp only [Act.put]
      refine wpAnyH_take (i := 9) (v := .bool (decide (b < 0))) rfl (by kernel_rfl) (by kernel_rfl) (by kernel_rfl) (fun _ _ _ h => h) (Or.inl ⟨by rfl, by intro w hSw; obtain ⟨c1, c2, c3⟩ := hSw; first | (go_simp; done) | (go_simp; with_reducible rfl)⟩) hHeld ?_
      try simp only [Act.put]
      refine wpAnyH_take (i := 10) (v := .bool s) rfl (by kernel_rfl) (by kernel_rfl) (by kernel_rfl) (fun _ _ _ h => h) (Or.inl ⟨by rfl, by intro w hSw; obtain ⟨c1, c2, c3⟩ := hSw; first | (go_simp; done) | (go_simp; with_reducible rfl)⟩) hHeld ?_
      try simp only [Act.put]
      refine wpAnyH_ready (rs := [1]) (by kernel_rfl) (by simp) ?_
      refine AllReadyH.cons rfl (fun K hK => ?_) AllReadyH.nil
      go_simp
      refine (k1 _).mono ?_
      rintro e w1 ⟨rfl, rfl⟩
      refine hK.out _ _ HS.drew.conj (fun hHeld => ?_)
      clear hK K
      try simp only [Act.put, List.setIfInBounds_toArray, List.set_cons_zero, List.set_cons_succ]
      refine wpAnyH_ready (rs := [3]) (by kernel_rfl) (by simp) ?_
      refine AllReadyH.cons rfl (fun K hK => ?_) AllReadyH.nil
      go_simp
      refine (k2 _).mono ?_
      rintro e w1 ⟨rfl, rfl⟩
      refine hK.out _ _ HS.drew.conj (fun hHeld => ?_)
      clear hK K
      try simp only [Act.put, List.setIfInBounds_toArray, List.set_cons_zero, List.set_cons_succ]
      refine wpAnyH_ready (rs := [4]) (by kernel_rfl) (by simp) ?_
      refine AllReadyH.cons rfl (fun K hK => ?_) AllReadyH.nil
      go_simp
      refine (k3 _).mono ?_
      rintro e w1 ⟨rfl, rfl⟩
      refine hK.out _ _ HS.drew.conj (fun hHeld => ?_)
      clear hK K
      try simp only [Act.put, List.setIfInBounds_toArray, List.set_cons_zero, List.set_cons_succ]
      refine wpAnyH_ready (rs := [5]) (by kernel_rfl) (by simp) ?_
      refine AllReadyH.cons rfl (fun K hK => ?_) AllReadyH.nil
      go_simp
      refine (k4 _).mono ?_
      rintro e w1 ⟨rfl, hb1⟩
      refine hK.out _ _ (HS.drew.step hb1).conj (fun hHeld => ?_)
      clear hK K
      try simp only [Act.put, List.setIfInBounds_toArray, List.set_cons_zero, List.set_cons_succ]
      refine wpAnyH_ready (rs := [11]) (by kernel_rfl) (by simp) ?_
      refine AllReadyH.cons rfl (fun K hK => ?_) AllReadyH.nil
      go_simp
      refine (k5 _).mono ?_
      rintro e w1 ⟨rfl, rfl⟩
      refine hK.out _ _ (HS.drew.step hb1).conj (fun hHeld => ?_)
      clear hK K
      try simp only [Act.put, List.setIfInBounds_toArray, List.set_cons_zero, List.set_cons_succ]
      refine wpAnyH_ready (rs := [12]) (by kernel_rfl) (by simp) ?_
      refine AllReadyH.cons rfl (fun K hK => ?_) AllReadyH.nil
      go_simp
      refine hK.out _ _ (HS.drew.step hb1).conj (fun hHeld => ?_)
      clear hK K
      refine wpAnyH_done (by kernel_rfl) ?_ _
      all_goals
        go_wp2
        go_ret
        exact ⟨rfl, (HS.drew.step hb1).bel⟩
    · rw [deedOf_out hin] at *
      unfold overE at *
      clear hin
      go_enter Tryz.func205, Tryz.ntmps205
      go_wp2_with fail
      refine wp_region_held_drew (S := (fun w' => w'.cell? ⟨p, 0, none⟩ = some (.int .i64 a) ∧ w'.cell? ⟨q, 0, none⟩ = some (.int .i64 b) ∧ Below w.heap.size w w')) (by kernel_rfl) HS.drew.conj (fun hHeld => ?_)
      refine wpAnyH_take (i := 0) (v := .int .i64 a) rfl (by kernel_rfl) (by kernel_rfl) (by kernel_rfl) (fun _ _ _ h => h) (Or.inl ⟨by rfl, by intro w hSw; obtain ⟨c1, c2, c3⟩ := hSw; first | (go_simp; done) | (go_simp; with_reducible rfl)⟩) hHeld ?_
      try simp only [Act.put, List.setIfInBounds_toArray]
      refine wpAnyH_take (i := 2) (v := .int .i64 b) rfl (by kernel_rfl) (by kernel_rfl) (by kernel_rfl) (fun _ _ _ h => h) (Or.inl ⟨by rfl, by intro w hSw; obtain ⟨c1, c2, c3⟩ := hSw; first | (go_simp; done) | (go_simp; with_reducible rfl)⟩) hHeld ?_
      try simp only [Act.put]
      refine wpAnyH_take (i := 6) (v := .int .i64 a) rfl (by kernel_rfl) (by kernel_rfl) (by kernel_rfl) (fun _ _ _ h => h) (Or.inl ⟨by rfl, by intro w hSw; obtain ⟨c1, c2, c3⟩ := hSw; first | (go_simp; done) | (go_simp; with_reducible rfl)⟩) hHeld ?_
      try simp only [Act.put]
      refine wpAnyH_take (i := 8) (v := .int .i64 b) rfl (by kernel_rfl) (by kernel_rfl) (by kernel_rfl) (fun _ _ _ h => h) (Or.inl ⟨by rfl, by intro w hSw; obtain ⟨c1, c2, c3⟩ := hSw; first | (go_simp; done) | (go_simp; with_reducible rfl)⟩) hHeld ?_
      try simp only [Act.put]
      refine wpAnyH_take (i := 7) (v := .bool (decide (a < 0))) rfl (by kernel_rfl) (by kernel_rfl) (by kernel_rfl) (fun _ _ _ h => h) (Or.inl ⟨by rfl, by intro w hSw; obtain ⟨c1, c2, c3⟩ := hSw; first | (go_simp; done) | (go_simp; with_reducible rfl)⟩) hHeld ?_
      try simp only [Act.put]
      refine wpAnyH_take (i := 9) (v := .bool (decide (b < 0))) rfl (by kernel_rfl) (by kernel_rfl) (by kernel_rfl) (fun _ _ _ h => h) (Or.inl ⟨by rfl, by intro w hSw; obtain ⟨c1, c2, c3⟩ := hSw; first | (go_simp; done) | (go_simp; with_reducible rfl)⟩) hHeld ?_
      try simp only [Act.put]
      refine wpAnyH_take (i := 10) (v := .bool s) rfl (by kernel_rfl) (by kernel_rfl) (by kernel_rfl) (fun _ _ _ h => h) (Or.inl ⟨by rfl, by intro w hSw; obtain ⟨c1, c2, c3⟩ := hSw; first | (go_simp; done) | (go_simp; with_reducible rfl)⟩) hHeld ?_
      try simp only [Act.put]
      refine wpAnyH_ready (rs := [1]) (by kernel_rfl) (by simp) ?_
      refine AllReadyH.cons rfl (fun K hK => ?_) AllReadyH.nil
      go_simp
      refine (k1 _).mono ?_
      rintro e w1 ⟨rfl, rfl⟩
      refine hK.out _ _ HS.drew.conj (fun hHeld => ?_)
      clear hK K
      try simp only [Act.put, List.setIfInBounds_toArray, List.set_cons_zero, List.set_cons_succ]
      refine wpAnyH_ready (rs := [3]) (by kernel_rfl) (by simp) ?_
      refine AllReadyH.cons rfl (fun K hK => ?_) AllReadyH.nil
      go_simp
      refine (k2 _).mono ?_
      rintro e w1 ⟨rfl, rfl⟩
      refine hK.out _ _ HS.drew.conj (fun hHeld => ?_)
      clear hK K
      try simp only [Act.put, List.setIfInBounds_toArray, List.set_cons_zero, List.set_cons_succ]
      refine wpAnyH_ready (rs := [4]) (by kernel_rfl) (by simp) ?_
      refine AllReadyH.cons rfl (fun K hK => ?_) AllReadyH.nil
      go_simp
      refine (k3 _).mono ?_
      rintro e w1 ⟨rfl, rfl⟩
      refine hK.out _ _ HS.drew.conj (fun hHeld => ?_)
      clear hK K
      try simp only [Act.put, List.setIfInBounds_toArray, List.set_cons_zero, List.set_cons_succ]
      refine wpAnyH_ready (rs := [5]) (by kernel_rfl) (by simp) ?_
      refine AllReadyH.cons rfl (fun K hK => ?_) AllReadyH.nil
      go_simp
      refine (k4 _).mono ?_
      rintro e w1 ⟨rfl, hb1⟩
      refine hK.out _ _ (HS.drew.step hb1).conj (fun hHeld => ?_)
      clear hK K
      try simp only [Act.put, List.setIfInBounds_toArray, List.set_cons_zero, List.set_cons_succ]
      refine wpAnyH_ready (rs := [11]) (by kernel_rfl) (by simp) ?_
      refine AllReadyH.cons rfl (fun K hK => ?_) AllReadyH.nil
      go_simp
      refine (k5 _).mono ?_
      rintro e w1 ⟨rfl, rfl⟩
      exact ⟨rfl, rfl, (HS.drew.step hb1).bel⟩
  · rw [deedOf_out (hfar hin)]
    have hE : scaledE (a.natAbs) (b.natAbs) (1000000) = overE := if_neg hin
    rw [hE, show ((1000000 : Nat) : Int) = 1000000 from rfl] at k4
    unfold overE at *
    clear hE hfar hin ha hb
    obtain ⟨s, hs⟩ : ∃ s, s = (decide (a < 0) != decide (b < 0)) := ⟨_, rfl⟩
    have hs2 := hs.symm
    have hs3 : (!decide (a < 0) == decide (b < 0)) = s := hs.symm
    clear hs
    generalize a.natAbs = a' at k1 k4
    generalize b.natAbs = b' at k2 k4
    go_enter Tryz.func205, Tryz.ntmps205
    go_wp2_with fail
    refine wp_region_held_drew (S := (fun w' => w'.cell? ⟨p, 0, none⟩ = some (.int .i64 a) ∧ w'.cell? ⟨q, 0, none⟩ = some (.int .i64 b) ∧ Below w.heap.size w w')) (by kernel_rfl) HS.drew.conj (fun hHeld => ?_)
    refine wpAnyH_take (i := 0) (v := .int .i64 a) rfl (by kernel_rfl) (by kernel_rfl) (by kernel_rfl) (fun _ _ _ h => h) (Or.inl ⟨by rfl, by intro w hSw; obtain ⟨c1, c2, c3⟩ := hSw; first | (go_simp; done) | (go_simp; with_reducible rfl)⟩) hHeld ?_
    try simp only [Act.put, List.setIfInBounds_toArray]
    refine wpAnyH_take (i := 2) (v := .int .i64 b) rfl (by kernel_rfl) (by kernel_rfl) (by kernel_rfl) (fun _ _ _ h => h) (Or.inl ⟨by rfl, by intro w hSw; obtain ⟨c1, c2, c3⟩ := hSw; first | (go_simp; done) | (go_simp; with_reducible rfl)⟩) hHeld ?_
    try simp only [Act.put]
    refine wpAnyH_take (i := 6) (v := .int .i64 a) rfl (by kernel_rfl) (by kernel_rfl) (by kernel_rfl) (fun _ _ _ h => h) (Or.inl ⟨by rfl, by intro w hSw; obtain ⟨c1, c2, c3⟩ := hSw; first | (go_simp; done) | (go_simp; with_reducible rfl)⟩) hHeld ?_
    try simp only [Act.put]
    refine wpAnyH_take (i := 8) (v := .int .i64 b) rfl (by kernel_rfl) (by kernel_rfl) (by kernel_rfl) (fun _ _ _ h => h) (Or.inl ⟨by rfl, by intro w hSw; obtain ⟨c1, c2, c3⟩ := hSw; first | (go_simp; done) | (go_simp; with_reducible rfl)⟩) hHeld ?_
    try simp only [Act.put]
    refine wpAnyH_take (i := 7) (v := .bool (decide (a < 0))) rfl (by kernel_rfl) (by kernel_rfl) (by kernel_rfl) (fun _ _ _ h => h) (Or.inl ⟨by rfl, by intro w hSw; obtain ⟨c1, c2, c3⟩ := hSw; first | (go_simp; done) | (go_simp; with_reducible rfl)⟩) hHeld ?_
    try simp only [Act.put]
    refine wpAnyH_take (i := 9) (v := .bool (decide (b < 0))) rfl (by kernel_rfl) (by kernel_rfl) (by kernel_rfl) (fun _ _ _ h => h) (Or.inl ⟨by rfl, by intro w hSw; obtain ⟨c1, c2, c3⟩ := hSw; first | (go_simp; done) | (go_simp; with_reducible rfl)⟩) hHeld ?_
    try simp only [Act.put]
    refine wpAnyH_take (i := 10) (v := .bool s) rfl (by kernel_rfl) (by kernel_rfl) (by kernel_rfl) (fun _ _ _ h => h) (Or.inl ⟨by rfl, by intro w hSw; obtain ⟨c1, c2, c3⟩ := hSw; first | (go_simp; done) | (go_simp; with_reducible rfl)⟩) hHeld ?_
    try simp only [Act.put]
    refine wpAnyH_ready (rs := [1]) (by kernel_rfl) (by simp) ?_
    refine AllReadyH.cons rfl (fun K hK => ?_) AllReadyH.nil
    go_simp
    refine (k1 _).mono ?_
    rintro e w1 ⟨rfl, rfl⟩
    refine hK.out _ _ HS.drew.conj (fun hHeld => ?_)
    clear hK K
    try simp only [Act.put, List.setIfInBounds_toArray, List.set_cons_zero, List.set_cons_succ]
    refine wpAnyH_ready (rs := [3]) (by kernel_rfl) (by simp) ?_
    refine AllReadyH.cons rfl (fun K hK => ?_) AllReadyH.nil
    go_simp
    refine (k2 _).mono ?_
    rintro e w1 ⟨rfl, rfl⟩
    refine hK.out _ _ HS.drew.conj (fun hHeld => ?_)
    clear hK K
    try simp only [Act.put, List.setIfInBounds_toArray, List.set_cons_zero, List.set_cons_succ]
    refine wpAnyH_ready (rs := [4]) (by kernel_rfl) (by simp) ?_
    refine AllReadyH.cons rfl (fun K hK => ?_) AllReadyH.nil
    go_simp
    refine (k3 _).mono ?_
    rintro e w1 ⟨rfl, rfl⟩
    refine hK.out _ _ HS.drew.conj (fun hHeld => ?_)
    clear hK K
    try simp only [Act.put, List.setIfInBounds_toArray, List.set_cons_zero, List.set_cons_succ]
    refine wpAnyH_ready (rs := [5]) (by kernel_rfl) (by simp) ?_
    refine AllReadyH.cons rfl (fun K hK => ?_) AllReadyH.nil
    go_simp
    refine (k4 _).mono ?_
    rintro e w1 ⟨rfl, hb1⟩
    exact ⟨rfl, rfl, (HS.drew.step hb1).bel⟩
end Go.Proofs.YtbodnhpjfdnjfaaGreatDoor
