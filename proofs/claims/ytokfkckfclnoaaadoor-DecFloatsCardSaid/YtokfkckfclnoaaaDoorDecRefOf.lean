/- The document's whole numbers of twelve figures of 32 bits: made of a number, and turned back. -/
import Derived.Test.YtokfkckfclnoaaaDoorDecRefLess
namespace Go.Proofs.YtokfkckfclnoaaaDoor
open Go.RowKit

theorem digs_small (u : Int) (h0 : 0 ≤ u) (h1 : u < 18446744073709551616) : digs 12 u = [u % 4294967296, u / 4294967296, 0, 0, 0, 0, 0, 0, 0, 0, 0, 0] := by
  have e1 : u / 4294967296 / 4294967296 = 0 := by omega
  have e2 : u / 4294967296 % 4294967296 = u / 4294967296 := by omega
  simp only [digs, e1, e2]
  simp
theorem bigs (b : Bool) (u : Int) (h0 : 0 ≤ u) (h1 : u < 18446744073709551616) :
    big b u = .agg #[.bool b, .int .u64 (u % 4294967296), .int .u64 (u / 4294967296), .int .u64 0, .int .u64 0, .int .u64 0, .int .u64 0, .int .u64 0, .int .u64 0, .int .u64 0, .int .u64 0, .int .u64 0, .int .u64 0] := by
  unfold big intC; rw [digs_small u h0 h1]; rfl

set_option maxHeartbeats 400000 in
theorem ofB (n : Int) (w : World) (h0 : -9223372036854775808 ≤ n) (h1 : n ≤ 9223372036854775807) :
    Calls Tryd.prog 58 #[.int .i64 n] w fun e w' => e = .returned (big (decide (n < 0)) (n.natAbs : Int)) ∧ Below w.heap.size w w' := by
  by_cases hn : n < 0
  · obtain ⟨u, hu⟩ : ∃ u : Int, u = (n.natAbs : Int) := ⟨_, rfl⟩
    rw [← hu, decide_eq_true hn]
    have HE := Lib.hid (bigs true u (by omega) (by omega))
    obtain ⟨t, ht⟩ : ∃ t : Int, IntKind.u64.wrap n = t := ⟨_, rfl⟩
    have ht2 : t = n + 18446744073709551616 := by rw [← ht]; simp [IntKind.wrap, IntKind.bits, IntKind.signed]; omega
    have hw1 : IntKind.u64.wrap (0 - t) = u := by simp [IntKind.wrap, IntKind.bits, IntKind.signed]; omega
    have hw2 : IntKind.u64.wrap (-t) = u := by simp [IntKind.wrap, IntKind.bits, IntKind.signed]; omega
    have hu0 : 0 ≤ u := by omega
    have hu1 : u ≤ 9223372036854775808 := by omega
    have hd : decide (n < 0) = true := decide_eq_true hn
    clear ht2 hu h0 h1
    go_enter Tryd.func58, Tryd.ntmps58
    go_wp2
    rw [HE.out]
    exact bodyPost_ret (v := .agg #[.bool true, .int .u64 (u % 4294967296), .int .u64 (u / 4294967296), .int .u64 0, .int .u64 0, .int .u64 0, .int .u64 0, .int .u64 0, .int .u64 0, .int .u64 0, .int .u64 0, .int .u64 0, .int .u64 0]) (by simp [results, Tryd.results58, go_sem]) rfl ⟨rfl, ((Below.refl _ _).alloc (Nat.le_refl _) _).alloc (by simp) _⟩
  · obtain ⟨u, hu⟩ : ∃ u : Int, u = (n.natAbs : Int) := ⟨_, rfl⟩
    obtain rfl : n = u := by omega
    rw [← hu, decide_eq_false hn]
    have HE := Lib.hid (bigs false n (by omega) (by omega))
    have hn0 : 0 ≤ n := by omega
    have hd : decide (n < 0) = false := decide_eq_false hn
    clear hu h0
    go_enter Tryd.func58, Tryd.ntmps58
    go_wp2
    rw [HE.out]
    exact bodyPost_ret (v := .agg #[.bool false, .int .u64 (n % 4294967296), .int .u64 (n / 4294967296), .int .u64 0, .int .u64 0, .int .u64 0, .int .u64 0, .int .u64 0, .int .u64 0, .int .u64 0, .int .u64 0, .int .u64 0, .int .u64 0]) (by simp [results, Tryd.results58, go_sem]) rfl ⟨rfl, ((Below.refl _ _).alloc (Nat.le_refl _) _).alloc (by simp) _⟩

theorem zero13 : (#[.bool false, .int .u64 0, .int .u64 0, .int .u64 0, .int .u64 0, .int .u64 0, .int .u64 0, .int .u64 0, .int .u64 0, .int .u64 0, .int .u64 0, .int .u64 0, .int .u64 0] : Array Value) = intC false (digs 12 0) := by
  rw [digs_small 0 (by omega) (by omega)]; rfl
theorem big_size (b : Bool) (n : Int) : (intC b (digs 12 n)).size = 13 := by rw [intC_size, digs_length]

set_option maxHeartbeats 400000 in
theorem millionB (w : World) :
    Calls Tryd.prog 69 #[] w fun e w' => e = .returned (big false 1000000) ∧ Below w.heap.size w w' := by
  have k1 : ∀ w, Calls Tryd.prog 58 #[.int .i64 1000000] w fun e w' => e = .returned (.agg (intC false (digs 12 1000000))) ∧ Below w.heap.size w w' := fun w => ofB 1000000 w (by omega) (by omega)
  have hz : ∀ (w w' : World), Below (w.alloc (.cells #[.bool false, .int .u64 0, .int .u64 0, .int .u64 0, .int .u64 0, .int .u64 0, .int .u64 0, .int .u64 0, .int .u64 0, .int .u64 0, .int .u64 0, .int .u64 0, .int .u64 0] 69)).heap.size (w.alloc (.cells #[.bool false, .int .u64 0, .int .u64 0, .int .u64 0, .int .u64 0, .int .u64 0, .int .u64 0, .int .u64 0, .int .u64 0, .int .u64 0, .int .u64 0, .int .u64 0, .int .u64 0] 69)) w' → w'.heap[w.heap.size]? = some (.cells (intC false (digs 12 0)) 69 (0, 0)) := by
    intro w w' hb
    rw [hb.block _ (by simp), ← zero13]; exact heap_alloc_new _ _
  generalize hN : intC false (digs 12 1000000) = N at k1
  have HN : Hid (big false 1000000 = .agg N) := by show big false 1000000 = .agg N; rw [← hN]; rfl
  have HS : Hid (N.size = 13) := by show N.size = 13; rw [← hN]; exact big_size _ _
  have H1 : Hid (N.all (·.oneCell') = true) := by show N.all (·.oneCell') = true; rw [← hN]; exact intC_one _ _
  clear hN
  go_enter Tryd.func69, Tryd.ntmps69
  go_wp2_with (first
    | (go_at_call 58; refine (k1 _).mono ?_; rintro e w' ⟨rfl, hb⟩; have hres := hz _ _ hb)
    | (with_reducible refine wpList_store_mid rfl 69 _ _ rfl w.heap.size 0 N rfl rfl (by rw [HS.out, ← big_size false 0]; exact there_whole hres) (by rw [HS.out]; exact Tryd.info48) H1.out ?_))
  rw [HN.out]
  refine bodyPost_ret (v := .agg N) (results_cell_row (p := 0) (ty := 69) Tryd.results69 _ _ w.heap.size 69 _ (0, 0) _ rfl (setCells_whole hres (by rw [HS.out, big_size])) Tryd.underlying69 rfl (by rw [HS.out]; exact Tryd.info48)) rfl ⟨rfl, ?_⟩
  exact below_setCells (Nat.le_refl _) _ _ (((Below.refl _ _).alloc (Nat.le_refl _) _).trans (hb.mono (by simp)))

/-- What 'back' answers. -/
def backE (b : Bool) (n : Int) : Ending :=
  .returned (.tuple (if b then (if n ≤ 9223372036854775808 then #[.int .i64 (-n), .int .i64 0] else #[.int .i64 0, .int .i64 3]) else (if n ≤ 9223372036854775807 then #[.int .i64 n, .int .i64 0] else #[.int .i64 0, .int .i64 3])))
theorem backE_over {b : Bool} {n : Int} (h : 9223372036854775808 < n) : backE b n = .returned (.tuple #[.int .i64 0, .int .i64 3]) := by
  unfold backE; cases b
  · rw [if_neg (by simp), if_neg (by omega)]
  · rw [if_pos rfl, if_neg (by omega)]
theorem backE_edge {n : Int} (h : 9223372036854775807 < n) : backE false n = .returned (.tuple #[.int .i64 0, .int .i64 3]) := by
  unfold backE; rw [if_neg (by simp), if_neg (by omega)]
theorem backE_neg {n : Int} (h : n ≤ 9223372036854775808) : backE true n = .returned (.tuple #[.int .i64 (-n), .int .i64 0]) := by
  unfold backE; rw [if_pos rfl, if_pos h]
theorem backE_pos {n : Int} (h : n ≤ 9223372036854775807) : backE false n = .returned (.tuple #[.int .i64 n, .int .i64 0]) := by
  unfold backE; rw [if_neg (by simp), if_pos h]
theorem valL_zero (z r : List Int) (h : ∀ d ∈ z, d = 0) : valL (z ++ r) = wide z.length * valL r := by
  rw [valL_append]
  have : valL z = 0 := by
    induction z with
    | nil => rfl
    | cons d s ih => simp only [valL, h d (by simp), ih (fun e he => h e (by simp [he]))]; rfl
  omega

set_option maxHeartbeats 400000 in
theorem back_any (b : Bool) (x0 x1 : Int) (l : List Int) (w : World) (hl : l.length = 10) (hf : fig32 (x0 :: x1 :: l)) :
    Calls Tryd.prog 51 #[.agg (intC b (x0 :: x1 :: l))] w fun e w' => e = backE b (valL (x0 :: x1 :: l)) ∧ Below w.heap.size w w' := by
  obtain ⟨a0, a1⟩ := hf x0 (by simp)
  obtain ⟨b0, b1⟩ := hf x1 (by simp)
  have HF : Hid (fig32 l) := fun d hd => hf d (by simp [hd])
  have HL := Lib.hid hl
  clear hf hl
  go_enter Tryd.func51, Tryd.ntmps51
  go_wp2
  go_loopw [4] (fun i wr => ∃ (z rest : List Int), i = .int .i64 ((2 + z.length : Nat) : Int) ∧ Hid (l = z ++ rest) ∧ Hid (∀ d ∈ z, d = 0) ∧ z.length ≤ 10 ∧ wr.heap[w.heap.size]? = some (.cells (intC b (x0 :: x1 :: l)) 69 (0, 0)) ∧ Below w.heap.size w wr) (fun i _ => 12 - (intOf i).toNat)
  case atStart => exact ⟨[], l, rfl, rfl, (fun d h => by cases h), Nat.zero_le _, heap_alloc_new _ _, (Below.refl _ _).alloc (Nat.le_refl _) _⟩
  case round =>
    obtain ⟨z, rest, rfl, HT, HZ, hzl, hblk, hbel⟩ := hrel
    by_cases hlt : z.length < 10
    · obtain ⟨d, rest', rfl⟩ : ∃ d r, rest = d :: r := by
        cases rest with
        | nil => have := HL.out; rw [HT.out] at this; simp at this; omega
        | cons d r => exact ⟨d, r, rfl⟩
      obtain ⟨d0, d1⟩ := HF.out d (by rw [HT.out]; simp)
      obtain ⟨j, hj⟩ : ∃ j, j = 2 + z.length := ⟨_, rfl⟩
      rw [← hj]
      have hj12 : j < 12 := by omega
      have hc : wr.cell? ⟨w.heap.size, 1 + j, none⟩ = some (.int .u64 d) := by
        rw [cell_of_row wr _ _ _ _ _ hblk, HT.out, hj, show 1 + (2 + z.length) = 1 + (x0 :: x1 :: z).length by simp; omega]
        exact intC_at b (x0 :: x1 :: z) rest' d
      have HJ := Lib.hid hj
      clear hj
      by_cases hd : d = 0
      · have hd2 : (d != 0) = false := by simp [hd]
        have HD := Lib.hid hd
        clear hd
        go_wp2
        go_roundw
        case rel =>
          refine ⟨z ++ [d], rest', ?_, ?_, ?_, ?_, hblk, hbel⟩
          · rw [List.length_append]; have := HJ.out; go_num
          · show l = (z ++ [d]) ++ rest'
            rw [HT.out]; simp
          · intro e he
            simp only [List.mem_append, List.mem_singleton] at he
            rcases he with he | rfl
            · exact HZ.out e he
            · exact HD.out
          · rw [List.length_append]; simp; omega
        case measure => simp only [intOf]; omega
      · have hd2 : (d != 0) = true := by simpa using hd
        have HE : Hid (9223372036854775808 < valL (x0 :: x1 :: l)) := by
          show 9223372036854775808 < valL (x0 :: x1 :: l)
          have h1 : valL l = wide z.length * valL (d :: rest') := by rw [HT.out]; exact valL_zero z _ HZ.out
          have h2 := wide_pos z.length
          have h3 : 0 ≤ valL rest' := (valL_bounds rest' (fun e he => HF.out e (by rw [HT.out]; simp [he]))).1
          have h4 : 1 ≤ valL (d :: rest') := by simp only [valL]; omega
          have h5 : 1 ≤ valL l := by
            rw [h1]
            have := Int.mul_le_mul_of_nonneg_left h4 (Int.le_of_lt h2)
            omega
          simp only [valL]
          omega
        clear hd
        go_wp2
        go_ret2
        exact ⟨(backE_over HE.out).symm, hbel⟩
    · have hz10 : z.length = 10 := by omega
      have hr0 : rest = [] := by
        cases rest with
        | nil => rfl
        | cons d r => have := HL.out; rw [HT.out] at this; simp at this; omega
      have HV : Hid (valL (x0 :: x1 :: l) = x0 + x1 * 4294967296) := by
        show valL (x0 :: x1 :: l) = x0 + x1 * 4294967296
        have h1 : valL l = 0 := by rw [HT.out, valL_zero z _ HZ.out, hr0]; simp [valL]
        simp only [valL, h1]; omega
      obtain ⟨u, hu⟩ : ∃ u, u = x0 + x1 * 4294967296 := ⟨_, rfl⟩
      have HU : Hid (valL (x0 :: x1 :: l) = u) := HV.out.trans hu.symm
      have hq : x1 * 4294967296 ≤ 18446744069414584320 := by omega
      have hq0 : 0 ≤ x1 * 4294967296 := by omega
      have hu0 : 0 ≤ u := by omega
      have hu1 : u ≤ 18446744073709551615 := by omega
      have hsum : x0 + x1 * 4294967296 = u := hu.symm
      have c0 : wr.cell? ⟨w.heap.size, 0, none⟩ = some (.bool b) := by rw [cell_of_row wr _ _ _ _ _ hblk]; rfl
      have c1 : wr.cell? ⟨w.heap.size, 1, none⟩ = some (.int .u64 x0) := by rw [cell_of_row wr _ _ _ _ _ hblk]; rfl
      have c2 : wr.cell? ⟨w.heap.size, 2, none⟩ = some (.int .u64 x1) := by rw [cell_of_row wr _ _ _ _ _ hblk]; rfl
      rw [hz10]
      clear hu hblk hr0
      cases b
      · by_cases ho : u ≤ 9223372036854775807
        · have HW : Hid (backE false (valL (x0 :: x1 :: l)) = .returned (.tuple #[.int .i64 u, .int .i64 0])) := by
            show backE false (valL (x0 :: x1 :: l)) = _
            rw [HU.out, backE_pos ho]
          go_wp2
          go_ret2
          exact ⟨HW.out.symm, hbel⟩
        · have HW : Hid (backE false (valL (x0 :: x1 :: l)) = .returned (.tuple #[.int .i64 0, .int .i64 3])) := by
            show backE false (valL (x0 :: x1 :: l)) = _
            rw [HU.out, backE_edge (by omega)]
          go_wp2
          go_ret2
          exact ⟨HW.out.symm, hbel⟩
      · by_cases ho : u ≤ 9223372036854775808
        · have HW : Hid (backE true (valL (x0 :: x1 :: l)) = .returned (.tuple #[.int .i64 (-u), .int .i64 0])) := by
            show backE true (valL (x0 :: x1 :: l)) = _
            rw [HU.out, backE_neg ho]
          obtain ⟨t, ht⟩ : ∃ t : Int, IntKind.u64.wrap (0 - u) = t := ⟨_, rfl⟩
          have ht2 : IntKind.u64.wrap (-u) = t := by rw [← ht, Int.zero_sub]
          have hw2 : IntKind.i64.wrap t = -u := by
            rw [← ht, IntKind.wrap_i64, show IntKind.u64.wrap (0 - u) = (0 - u) % 18446744073709551616 by simp [IntKind.wrap, IntKind.bits, IntKind.signed]]
            omega
          go_wp2
          go_ret2
          exact ⟨HW.out.symm, hbel⟩
        · have HW : Hid (backE true (valL (x0 :: x1 :: l)) = .returned (.tuple #[.int .i64 0, .int .i64 3])) := by
            show backE true (valL (x0 :: x1 :: l)) = _
            rw [HU.out, backE_over (by omega)]
          go_wp2
          go_ret2
          exact ⟨HW.out.symm, hbel⟩
theorem backB (b : Bool) (n : Int) (w : World) (h0 : 0 ≤ n) (h1 : n < wide 12) :
    Calls Tryd.prog 51 #[big b n] w fun e w' => e = backE b n ∧ Below w.heap.size w w' :=
  (back_any b (n % 4294967296) (n / 4294967296 % 4294967296) (digs 10 (n / 4294967296 / 4294967296)) w (digs_length 10 _) (digs_fig 12 n)).mono fun e w' h => ⟨h.1.trans (by
    show backE b (valL (digs 12 n)) = _
    rw [valL_digs, Int.emod_eq_of_lt h0 h1]), h.2⟩
theorem lessB (b b2 : Bool) (n m : Int) (w : World) (h0 : 0 ≤ n) (h1 : n < wide 12) (h2 : 0 ≤ m) (h3 : m < wide 12) :
    Calls Tryd.prog 59 #[big b n, big b2 m] w fun e w' => e = .returned (.bool (decide (n < m))) ∧ Below w.heap.size w w' :=
  (less_any b b2 (digs 12 n) (digs 12 m) w (digs_length 12 n) (digs_length 12 m) (digs_fig 12 n) (digs_fig 12 m)).mono fun e w' h => ⟨h.1.trans (by
    rw [valL_digs, valL_digs, Int.emod_eq_of_lt h0 h1, Int.emod_eq_of_lt h2 h3]), h.2⟩
end Go.Proofs.YtokfkckfclnoaaaDoor
