/- Packed texts: DecRefOf, DecRefTimes2, DecRefDivMath. What each of them proves stands above its theorems; the conditions stand in these. -/
import Derived.Deep.RegionHeld3
import Derived.Deep.RegionLaw
import Derived.Test.YtbodnhpjfdnjfaaGreatDoorE16
namespace Go.Proofs.YtbodnhpjfdnjfaaGreatDoor
open Go.RowKit

theorem digs_small (u : Int) (h0 : 0 ≤ u) (h1 : u < 18446744073709551616) : digs 12 u = [u % 4294967296, u / 4294967296, 0, 0, 0, 0, 0, 0, 0, 0, 0, 0] := by
  have e1 : u / 4294967296 / 4294967296 = 0 := by omega
  have e2 : u / 4294967296 % 4294967296 = u / 4294967296 := by omega
  simp only [digs, e1, e2]
  simp
theorem bigs (b : Bool) (u : Int) (h0 : 0 ≤ u) (h1 : u < 18446744073709551616) :
    big b u = .agg #[.bool b, .int .u64 (u % 4294967296), .int .u64 (u / 4294967296), .int .u64 0, .int .u64 0, .int .u64 0, .int .u64 0, .int .u64 0, .int .u64 0, .int .u64 0, .int .u64 0, .int .u64 0, .int .u64 0] := by
  unfold big intC; rw [digs_small u h0 h1]; rfl

set_option maxHeartbeats 400000 in
theorem ofB (n : Int) (w : World) (h0 : -9223372036854775808 ≤ n) (h1 : n ≤ 9223372036854775807) :
    Calls Tryz.prog 103 #[.int .i64 n] w fun e w' => e = .returned (big (decide (n < 0)) (n.natAbs : Int)) ∧ Below w.heap.size w w' := by
  by_cases hn : n < 0
  · obtain ⟨u, hu⟩ : ∃ u : Int, u = (n.natAbs : Int) := ⟨_, rfl⟩
    rw [← hu, decide_eq_true hn]
    have HE := Lib.hid (bigs true u (by omega) (by omega))
    obtain ⟨t, ht⟩ : ∃ t : Int, IntKind.u64.wrap n = t := ⟨_, rfl⟩
    have ht2 : t = n + 18446744073709551616 := by rw [← ht]; simp [IntKind.wrap, IntKind.bits, IntKind.signed]; omega
    have hw1 : IntKind.u64.wrap (0 - t) = u := by simp [IntKind.wrap, IntKind.bits, IntKind.signed]; omega
    have hw2 : IntKind.u64.wrap (-t) = u := by simp [IntKind.wrap, IntKind.bits, IntKind.signed]; omega
    have hu0 : 0 ≤ u := by omega
    have hu1 : u ≤ 9223372036854775808 := by omega
    have hd : decide (n < 0) = true := decide_eq_true hn
    clear ht2 hu h0 h1
    go_enter Tryz.func103, Tryz.ntmps103
    go_wp2
    rw [HE.out]
    exact bodyPost_ret (v := .agg #[.bool true, .int .u64 (u % 4294967296), .int .u64 (u / 4294967296), .int .u64 0, .int .u64 0, .int .u64 0, .int .u64 0, .int .u64 0, .int .u64 0, .int .u64 0, .int .u64 0, .int .u64 0, .int .u64 0]) (by simp [results, Tryz.results103, go_sem]) rfl ⟨rfl, ((Below.refl _ _).alloc (Nat.le_refl _) _).alloc (by simp) _⟩
  · obtain ⟨u, hu⟩ : ∃ u : Int, u = (n.natAbs : Int) := ⟨_, rfl⟩
    obtain rfl : n = u := by omega
    rw [← hu, decide_eq_false hn]
    have HE := Lib.hid (bigs false n (by omega) (by omega))
    have hn0 : 0 ≤ n := by omega
    have hd : decide (n < 0) = false := decide_eq_false hn
    clear hu h0
    go_enter Tryz.func103, Tryz.ntmps103
    go_wp2
    rw [HE.out]
    exact bodyPost_ret (v := .agg #[.bool false, .int .u64 (n % 4294967296), .int .u64 (n / 4294967296), .int .u64 0, .int .u64 0, .int .u64 0, .int .u64 0, .int .u64 0, .int .u64 0, .int .u64 0, .int .u64 0, .int .u64 0, .int .u64 0]) (by simp [results, Tryz.results103, go_sem]) rfl ⟨rfl, ((Below.refl _ _).alloc (Nat.le_refl _) _).alloc (by simp) _⟩

theorem zero13 : (#[.bool false, .int .u64 0, .int .u64 0, .int .u64 0, .int .u64 0, .int .u64 0, .int .u64 0, .int .u64 0, .int .u64 0, .int .u64 0, .int .u64 0, .int .u64 0, .int .u64 0] : Array Value) = intC false (digs 12 0) := by
  rw [digs_small 0 (by omega) (by omega)]; rfl
theorem big_size (b : Bool) (n : Int) : (intC b (digs 12 n)).size = 13 := by rw [intC_size, digs_length]

set_option maxHeartbeats 400000 in
theorem millionB (w : World) :
    Calls Tryz.prog 104 #[] w fun e w' => e = .returned (big false 1000000) ∧ Below w.heap.size w w' := by
  have k1 : ∀ w, Calls Tryz.prog 103 #[.int .i64 1000000] w fun e w' => e = .returned (.agg (intC false (digs 12 1000000))) ∧ Below w.heap.size w w' := fun w => ofB 1000000 w (by omega) (by omega)
  have hz : ∀ (w w' : World), Below (w.alloc (.cells #[.bool false, .int .u64 0, .int .u64 0, .int .u64 0, .int .u64 0, .int .u64 0, .int .u64 0, .int .u64 0, .int .u64 0, .int .u64 0, .int .u64 0, .int .u64 0, .int .u64 0] 119)).heap.size (w.alloc (.cells #[.bool false, .int .u64 0, .int .u64 0, .int .u64 0, .int .u64 0, .int .u64 0, .int .u64 0, .int .u64 0, .int .u64 0, .int .u64 0, .int .u64 0, .int .u64 0, .int .u64 0] 119)) w' → w'.heap[w.heap.size]? = some (.cells (intC false (digs 12 0)) 119 (0, 0)) := by
    intro w w' hb
    rw [hb.block _ (by simp), ← zero13]; exact heap_alloc_new _ _
  generalize hN : intC false (digs 12 1000000) = N at k1
  have HN : Hid (big false 1000000 = .agg N) := by show big false 1000000 = .agg N; rw [← hN]; rfl
  have HS : Hid (N.size = 13) := by show N.size = 13; rw [← hN]; exact big_size _ _
  have H1 : Hid (N.all (·.oneCell') = true) := by show N.all (·.oneCell') = true; rw [← hN]; exact intC_one _ _
  clear hN
  go_enter Tryz.func104, Tryz.ntmps104
  go_wp2_with (first
    | (go_at_call 103; refine (k1 _).mono ?_; rintro e w' ⟨rfl, hb⟩; have hres := hz _ _ hb)
    | (with_reducible refine wpList_store_mid rfl 119 _ _ rfl w.heap.size 0 N rfl rfl (by rw [HS.out, ← big_size false 0]; exact there_whole hres) (by rw [HS.out]; exact Tryz.info48) H1.out ?_))
  rw [HN.out]
  refine bodyPost_ret (v := .agg N) (results_cell_row (p := 0) (ty := 119) Tryz.results104 _ _ w.heap.size 119 _ (0, 0) _ rfl (setCells_whole hres (by rw [HS.out, big_size])) Tryz.underlying119 rfl (by rw [HS.out]; exact Tryz.info48)) rfl ⟨rfl, ?_⟩
  exact below_setCells (Nat.le_refl _) _ _ (((Below.refl _ _).alloc (Nat.le_refl _) _).trans (hb.mono (by simp)))

/-- What 'back' answers. -/
def backE (b : Bool) (n : Int) : Ending :=
  .returned (.tuple (if b then (if n ≤ 9223372036854775808 then #[.int .i64 (-n), .int .i64 0] else #[.int .i64 0, .int .i64 3]) else (if n ≤ 9223372036854775807 then #[.int .i64 n, .int .i64 0] else #[.int .i64 0, .int .i64 3])))
theorem backE_over {b : Bool} {n : Int} (h : 9223372036854775808 < n) : backE b n = .returned (.tuple #[.int .i64 0, .int .i64 3]) := by
  unfold backE; cases b
  · rw [if_neg (by simp), if_neg (by omega)]
  · rw [if_pos rfl, if_neg (by omega)]
theorem backE_edge {n : Int} (h : 9223372036854775807 < n) : backE false n = .returned (.tuple #[.int .i64 0, .int .i64 3]) := by
  unfold backE; rw [if_neg (by simp), if_neg (by omega)]
theorem backE_neg {n : Int} (h : n ≤ 9223372036854775808) : backE true n = .returned (.tuple #[.int .i64 (-n), .int .i64 0]) := by
  unfold backE; rw [if_pos rfl, if_pos h]
theorem backE_pos {n : Int} (h : n ≤ 9223372036854775807) : backE false n = .returned (.tuple #[.int .i64 n, .int .i64 0]) := by
  unfold backE; rw [if_neg (by simp), if_pos h]
theorem valL_zero (z r : List Int) (h : ∀ d ∈ z, d = 0) : valL (z ++ r) = wide z.length * valL r := by
  rw [valL_append]
  have : valL z = 0 := by
    induction z with
    | nil => rfl
    | cons d s ih => simp only [valL, h d (by simp), ih (fun e he => h e (by simp [he]))]; rfl
  omega

set_option maxHeartbeats 400000 in
theorem back_any (b : Bool) (x0 x1 : Int) (l : List Int) (w : World) (hl : l.length = 10) (hf : fig32 (x0 :: x1 :: l)) :
    Calls Tryz.prog 101 #[.agg (intC b (x0 :: x1 :: l))] w fun e w' => e = backE b (valL (x0 :: x1 :: l)) ∧ Below w.heap.size w w' := by
  obtain ⟨a0, a1⟩ := hf x0 (by simp)
  obtain ⟨b0, b1⟩ := hf x1 (by simp)
  have HF : Hid (fig32 l) := fun d hd => hf d (by simp [hd])
  have HL := Lib.hid hl
  clear hf hl
  go_enter Tryz.func101, Tryz.ntmps101
  go_wp2
  go_loopw [4] (fun i wr => ∃ (z rest : List Int), i = .int .i64 ((2 + z.length : Nat) : Int) ∧ Hid (l = z ++ rest) ∧ Hid (∀ d ∈ z, d = 0) ∧ z.length ≤ 10 ∧ wr.heap[w.heap.size]? = some (.cells (intC b (x0 :: x1 :: l)) 119 (0, 0)) ∧ Below w.heap.size w wr) (fun i _ => 12 - (RowKit.intOf i).toNat)
  case atStart => exact ⟨[], l, rfl, rfl, (fun d h => by cases h), Nat.zero_le _, heap_alloc_new _ _, (Below.refl _ _).alloc (Nat.le_refl _) _⟩
  case round =>
    obtain ⟨z, rest, rfl, HT, HZ, hzl, hblk, hbel⟩ := hrel
    by_cases hlt : z.length < 10
    · obtain ⟨d, rest', rfl⟩ : ∃ d r, rest = d :: r := by
        cases rest with
        | nil => have := HL.out; rw [HT.out] at this; simp at this; omega
        | cons d r => exact ⟨d, r, rfl⟩
      obtain ⟨d0, d1⟩ := HF.out d (by rw [HT.out]; simp)
      obtain ⟨j, hj⟩ : ∃ j, j = 2 + z.length := ⟨_, rfl⟩
      rw [← hj]
      have hj12 : j < 12 := by omega
      have hc : wr.cell? ⟨w.heap.size, 1 + j, none⟩ = some (.int .u64 d) := by
        rw [cell_of_row wr _ _ _ _ _ hblk, HT.out, hj, show 1 + (2 + z.length) = 1 + (x0 :: x1 :: z).length by simp; omega]
        exact intC_at b (x0 :: x1 :: z) rest' d
      have HJ := Lib.hid hj
      clear hj
      by_cases hd : d = 0
      · have hd2 : (d != 0) = false := by simp [hd]
        have HD := Lib.hid hd
        clear hd
        go_wp2
        go_roundw
        case rel =>
          refine ⟨z ++ [d], rest', ?_, ?_, ?_, ?_, hblk, hbel⟩
          · rw [List.length_append]; have := HJ.out; go_num
          · show l = (z ++ [d]) ++ rest'
            rw [HT.out]; simp
          · intro e he
            simp only [List.mem_append, List.mem_singleton] at he
            rcases he with he | rfl
            · exact HZ.out e he
            · exact HD.out
          · rw [List.length_append]; simp; omega
        case measure => simp only [RowKit.intOf]; omega
      · have hd2 : (d != 0) = true := by simpa using hd
        have HE : Hid (9223372036854775808 < valL (x0 :: x1 :: l)) := by
          show 9223372036854775808 < valL (x0 :: x1 :: l)
          have h1 : valL l = wide z.length * valL (d :: rest') := by rw [HT.out]; exact valL_zero z _ HZ.out
          have h2 := wide_pos z.length
          have h3 : 0 ≤ valL rest' := (valL_bounds rest' (fun e he => HF.out e (by rw [HT.out]; simp [he]))).1
          have h4 : 1 ≤ valL (d :: rest') := by simp only [valL]; omega
          have h5 : 1 ≤ valL l := by
            rw [h1]
            have := Int.mul_le_mul_of_nonneg_left h4 (Int.le_of_lt h2)
            omega
          simp only [valL]
          omega
        clear hd
        go_wp2
        go_ret2
        exact ⟨(backE_over HE.out).symm, hbel⟩
    · have hz10 : z.length = 10 := by omega
      have hr0 : rest = [] := by
        cases rest with
        | nil => rfl
        | cons d r => have := HL.out; rw [HT.out] at this; simp at this; omega
      have HV : Hid (valL (x0 :: x1 :: l) = x0 + x1 * 4294967296) := by
        show valL (x0 :: x1 :: l) = x0 + x1 * 4294967296
        have h1 : valL l = 0 := by rw [HT.out, valL_zero z _ HZ.out, hr0]; simp [valL]
        simp only [valL, h1]; omega
      obtain ⟨u, hu⟩ : ∃ u, u = x0 + x1 * 4294967296 := ⟨_, rfl⟩
      have HU : Hid (valL (x0 :: x1 :: l) = u) := HV.out.trans hu.symm
      have hq : x1 * 4294967296 ≤ 18446744069414584320 := by omega
      have hq0 : 0 ≤ x1 * 4294967296 := by omega
      have hu0 : 0 ≤ u := by omega
      have hu1 : u ≤ 18446744073709551615 := by omega
      have hsum : x0 + x1 * 4294967296 = u := hu.symm
      have c0 : wr.cell? ⟨w.heap.size, 0, none⟩ = some (.bool b) := by rw [cell_of_row wr _ _ _ _ _ hblk]; rfl
      have c1 : wr.cell? ⟨w.heap.size, 1, none⟩ = some (.int .u64 x0) := by rw [cell_of_row wr _ _ _ _ _ hblk]; rfl
      have c2 : wr.cell? ⟨w.heap.size, 2, none⟩ = some (.int .u64 x1) := by rw [cell_of_row wr _ _ _ _ _ hblk]; rfl
      rw [hz10]
      clear hu hblk hr0
      cases b
      · by_cases ho : u ≤ 9223372036854775807
        · have HW : Hid (backE false (valL (x0 :: x1 :: l)) = .returned (.tuple #[.int .i64 u, .int .i64 0])) := by
            show backE false (valL (x0 :: x1 :: l)) = _
            rw [HU.out, backE_pos ho]
          go_wp2
          go_ret2
          exact ⟨HW.out.symm, hbel⟩
        · have HW : Hid (backE false (valL (x0 :: x1 :: l)) = .returned (.tuple #[.int .i64 0, .int .i64 3])) := by
            show backE false (valL (x0 :: x1 :: l)) = _
            rw [HU.out, backE_edge (by omega)]
          go_wp2
          go_ret2
          exact ⟨HW.out.symm, hbel⟩
      · by_cases ho : u ≤ 9223372036854775808
        · have HW : Hid (backE true (valL (x0 :: x1 :: l)) = .returned (.tuple #[.int .i64 (-u), .int .i64 0])) := by
            show backE true (valL (x0 :: x1 :: l)) = _
            rw [HU.out, backE_neg ho]
          obtain ⟨t, ht⟩ : ∃ t : Int, IntKind.u64.wrap (0 - u) = t := ⟨_, rfl⟩
          have ht2 : IntKind.u64.wrap (-u) = t := by rw [← ht, Int.zero_sub]
          have hw2 : IntKind.i64.wrap t = -u := by
            rw [← ht, IntKind.wrap_i64, show IntKind.u64.wrap (0 - u) = (0 - u) % 18446744073709551616 by simp [IntKind.wrap, IntKind.bits, IntKind.signed]]
            omega
          go_wp2
          go_ret2
          exact ⟨HW.out.symm, hbel⟩
        · have HW : Hid (backE true (valL (x0 :: x1 :: l)) = .returned (.tuple #[.int .i64 0, .int .i64 3])) := by
            show backE true (valL (x0 :: x1 :: l)) = _
            rw [HU.out, backE_over (by omega)]
          go_wp2
          go_ret2
          exact ⟨HW.out.symm, hbel⟩
theorem backB (b : Bool) (n : Int) (w : World) (h0 : 0 ≤ n) (h1 : n < wide 12) :
    Calls Tryz.prog 101 #[big b n] w fun e w' => e = backE b n ∧ Below w.heap.size w w' :=
  (back_any b (n % 4294967296) (n / 4294967296 % 4294967296) (digs 10 (n / 4294967296 / 4294967296)) w (digs_length 10 _) (digs_fig 12 n)).mono fun e w' h => ⟨h.1.trans (by
    show backE b (valL (digs 12 n)) = _
    rw [valL_digs, Int.emod_eq_of_lt h0 h1]), h.2⟩
theorem lessB (b b2 : Bool) (n m : Int) (w : World) (h0 : 0 ≤ n) (h1 : n < wide 12) (h2 : 0 ≤ m) (h3 : m < wide 12) :
    Calls Tryz.prog 106 #[big b n, big b2 m] w fun e w' => e = .returned (.bool (decide (n < m))) ∧ Below w.heap.size w w' :=
  (less_any b b2 (digs 12 n) (digs 12 m) w (digs_length 12 n) (digs_length 12 m) (digs_fig 12 n) (digs_fig 12 m)).mono fun e w' h => ⟨h.1.trans (by
    rw [valL_digs, valL_digs, Int.emod_eq_of_lt h0 h1, Int.emod_eq_of_lt h2 h3]), h.2⟩
end Go.Proofs.YtbodnhpjfdnjfaaGreatDoor
namespace Go.Proofs.YtbodnhpjfdnjfaaGreatDoor
open Go.RowKit

theorem explicit12 (l : List Int) (h : l.length = 12) : ∃ y0 y1 y2 y3 y4 y5 y6 y7 y8 y9 y10 y11, l = [y0, y1, y2, y3, y4, y5, y6, y7, y8, y9, y10, y11] := by
  match l, h with
  | [a0, a1, a2, a3, a4, a5, a6, a7, a8, a9, a10, a11], _ => exact ⟨a0, a1, a2, a3, a4, a5, a6, a7, a8, a9, a10, a11, rfl⟩

/-- A block that was made ahead of a call stands behind it. -/
def Stands (g : Nat) (cs : Array Value) (t : TypeId) (w : World) : Prop := w.heap[g]? = some (.cells cs t (0, 0))
theorem stands_in {g : Nat} {cs : Array Value} {t : TypeId} {w : World} (h : Stands g cs t w) : g < w.heap.size := by
  by_cases hl : g < w.heap.size
  · exact hl
  · have h1 : w.heap[g]? = some (.cells cs t (0, 0)) := h
    rw [Array.getElem?_eq_none (Nat.le_of_not_lt hl)] at h1; cases h1
theorem stands_old {w1 w2 : World} {g : Nat} {cs : Array Value} {t : TypeId} (h : Stands g cs t w1) (hb : Below w1.heap.size w1 w2) : Stands g cs t w2 :=
  (hb.block _ (stands_in h)).trans h
theorem stands_cells {g : Nat} {w : World} {t : TypeId} {v0 v1 v2 v3 v4 v5 v6 v7 v8 v9 v10 v11 v12 : Value} (h : Stands g #[v0, v1, v2, v3, v4, v5, v6, v7, v8, v9, v10, v11, v12] t w) : w.cell? ⟨g, 0, none⟩ = some v0 ∧ w.frozen? ⟨g, 0, none⟩ = false ∧ w.cell? ⟨g, 1, none⟩ = some v1 ∧ w.frozen? ⟨g, 1, none⟩ = false ∧ w.cell? ⟨g, 2, none⟩ = some v2 ∧ w.frozen? ⟨g, 2, none⟩ = false ∧ w.cell? ⟨g, 3, none⟩ = some v3 ∧ w.frozen? ⟨g, 3, none⟩ = false ∧ w.cell? ⟨g, 4, none⟩ = some v4 ∧ w.frozen? ⟨g, 4, none⟩ = false ∧ w.cell? ⟨g, 5, none⟩ = some v5 ∧ w.frozen? ⟨g, 5, none⟩ = false ∧ w.cell? ⟨g, 6, none⟩ = some v6 ∧ w.frozen? ⟨g, 6, none⟩ = false ∧ w.cell? ⟨g, 7, none⟩ = some v7 ∧ w.frozen? ⟨g, 7, none⟩ = false ∧ w.cell? ⟨g, 8, none⟩ = some v8 ∧ w.frozen? ⟨g, 8, none⟩ = false ∧ w.cell? ⟨g, 9, none⟩ = some v9 ∧ w.frozen? ⟨g, 9, none⟩ = false ∧ w.cell? ⟨g, 10, none⟩ = some v10 ∧ w.frozen? ⟨g, 10, none⟩ = false ∧ w.cell? ⟨g, 11, none⟩ = some v11 ∧ w.frozen? ⟨g, 11, none⟩ = false ∧ w.cell? ⟨g, 12, none⟩ = some v12 ∧ w.frozen? ⟨g, 12, none⟩ = false := by
  have hc := fun j => cell_of_row w g j _ t (0, 0) h
  have hf := fun j => frozen_of_row w g j _ t h
  exact ⟨hc 0, hf 0, hc 1, hf 1, hc 2, hf 2, hc 3, hf 3, hc 4, hf 4, hc 5, hf 5, hc 6, hf 6, hc 7, hf 7, hc 8, hf 8, hc 9, hf 9, hc 10, hf 10, hc 11, hf 11, hc 12, hf 12⟩
theorem set13_row {g : Nat} {w : World} {t : TypeId} {u0 u1 u2 u3 u4 u5 u6 u7 u8 u9 u10 u11 u12 v0 v1 v2 v3 v4 v5 v6 v7 v8 v9 v10 v11 v12 : Value} (h : Stands g #[u0, u1, u2, u3, u4, u5, u6, u7, u8, u9, u10, u11, u12] t w) : Stands g #[v0, v1, v2, v3, v4, v5, v6, v7, v8, v9, v10, v11, v12] t (((((((((((((w.setCell ⟨g, 0, none⟩ v0).setCell ⟨g, 1, none⟩ v1).setCell ⟨g, 2, none⟩ v2).setCell ⟨g, 3, none⟩ v3).setCell ⟨g, 4, none⟩ v4).setCell ⟨g, 5, none⟩ v5).setCell ⟨g, 6, none⟩ v6).setCell ⟨g, 7, none⟩ v7).setCell ⟨g, 8, none⟩ v8).setCell ⟨g, 9, none⟩ v9).setCell ⟨g, 10, none⟩ v10).setCell ⟨g, 11, none⟩ v11).setCell ⟨g, 12, none⟩ v12) := by
  have h2 := setCells_whole (vs := #[v0, v1, v2, v3, v4, v5, v6, v7, v8, v9, v10, v11, v12]) h rfl
  exact h2
theorem below_set13 {B g : Nat} {a w : World} {v0 v1 v2 v3 v4 v5 v6 v7 v8 v9 v10 v11 v12 : Value} (h : Below B a w) (hg : B ≤ g) : Below B a (((((((((((((w.setCell ⟨g, 0, none⟩ v0).setCell ⟨g, 1, none⟩ v1).setCell ⟨g, 2, none⟩ v2).setCell ⟨g, 3, none⟩ v3).setCell ⟨g, 4, none⟩ v4).setCell ⟨g, 5, none⟩ v5).setCell ⟨g, 6, none⟩ v6).setCell ⟨g, 7, none⟩ v7).setCell ⟨g, 8, none⟩ v8).setCell ⟨g, 9, none⟩ v9).setCell ⟨g, 10, none⟩ v10).setCell ⟨g, 11, none⟩ v11).setCell ⟨g, 12, none⟩ v12) :=
  (((((((((((((h.setCell (p := ⟨g, 0, none⟩) hg _).setCell (p := ⟨g, 1, none⟩) hg _).setCell (p := ⟨g, 2, none⟩) hg _).setCell (p := ⟨g, 3, none⟩) hg _).setCell (p := ⟨g, 4, none⟩) hg _).setCell (p := ⟨g, 5, none⟩) hg _).setCell (p := ⟨g, 6, none⟩) hg _).setCell (p := ⟨g, 7, none⟩) hg _).setCell (p := ⟨g, 8, none⟩) hg _).setCell (p := ⟨g, 9, none⟩) hg _).setCell (p := ⟨g, 10, none⟩) hg _).setCell (p := ⟨g, 11, none⟩) hg _).setCell (p := ⟨g, 12, none⟩) hg _)
theorem stands_at2 (w : World) (A B X : Obj) : (((w.alloc A).alloc B).alloc X).heap[w.heap.size + 2]? = some X := by
  rw [show w.heap.size + 2 = ((w.alloc A).alloc B).heap.size by simp]
  exact heap_alloc_new _ _
theorem intC_sign (b c : Bool) (l : List Int) : (intC b l).setIfInBounds 0 (.bool c) = intC c l := by
  apply Array.toList_inj.1; simp [intC]
end Go.Proofs.YtbodnhpjfdnjfaaGreatDoor
namespace Go.Proofs.YtbodnhpjfdnjfaaGreatDoor
open Go.RowKit

/-- The figure k of the quotient q when n bits are left. -/
def word (q : Int) (n k : Nat) : Int := q / 2 ^ (max n (32 * k)) % 2 ^ (32 * (k + 1) - max n (32 * k))
def xL (q : Int) (n : Nat) : List Int := (List.range 12).map (word q n)
theorem xL_length (q : Int) (n : Nat) : (xL q n).length = 12 := by simp [xL]
theorem xL_get (q : Int) (n k : Nat) (h : k < 12) : (xL q n)[k]? = some (word q n k) := by
  unfold xL
  rw [List.getElem?_map, List.getElem?_range h]; rfl
theorem pow2_pos (k : Nat) : (0 : Int) < 2 ^ k := Int.pow_pos (by omega)
theorem word_start (q : Int) (k : Nat) (h : k < 12) : word q 384 k = 0 := by
  unfold word
  rw [show 32 * (k + 1) - max 384 (32 * k) = 0 by omega, Int.pow_zero, Int.emod_one]
theorem xL_start (q : Int) : xL q 384 = List.replicate 12 0 := by
  unfold xL
  have : ∀ k ∈ List.range 12, word q 384 k = 0 := fun k hk => word_start q k (by simpa using hk)
  rw [List.map_congr_left this]; rfl
theorem wide_pow (k : Nat) : wide k = 2 ^ (32 * k) := by
  induction k with
  | zero => rfl
  | succ k ih => rw [wide, ih, show 32 * (k + 1) = 32 * k + 32 by omega, Int.pow_add, Int.mul_comm]; rfl
theorem digs_get (k : Nat) : ∀ (n : Int) (j : Nat), j < k → (digs k n)[j]? = some (n / 2 ^ (32 * j) % 4294967296) := by
  induction k with
  | zero => intro n j h; omega
  | succ k ih =>
    intro n j h
    cases j with
    | zero => simp [digs]
    | succ j =>
      show (digs k (n / 4294967296))[j]? = _
      rw [ih _ j (by omega), Int.ediv_ediv_of_nonneg (by omega), show 32 * (j + 1) = 32 + 32 * j by omega, Int.pow_add]
      rfl
theorem xL_end (q : Int) : xL q 0 = digs 12 q := by
  refine List.ext_getElem? (fun j => ?_)
  by_cases h : j < 12
  · rw [xL_get q 0 j h, digs_get 12 q j h]
    unfold word
    rw [show max 0 (32 * j) = 32 * j by omega, show 32 * (j + 1) - 32 * j = 32 by omega]
    rfl
  · rw [List.getElem?_eq_none (by rw [xL_length]; omega), List.getElem?_eq_none (by rw [digs_length]; omega)]
theorem half_pow (q : Int) (i : Nat) : q / 2 ^ (i + 1) = q / 2 ^ i / 2 := by
  rw [Int.pow_succ, Int.ediv_ediv_of_nonneg (Int.le_of_lt (pow2_pos i))]
theorem word_other (q : Int) (i k : Nat) (h : k ≠ i / 32) : word q i k = word q (i + 1) k := by
  unfold word
  by_cases hk : k < i / 32
  · rw [show 32 * (k + 1) - max i (32 * k) = 0 by omega, show 32 * (k + 1) - max (i + 1) (32 * k) = 0 by omega, Int.pow_zero, Int.emod_one, Int.emod_one]
  · rw [show max i (32 * k) = 32 * k by omega, show max (i + 1) (32 * k) = 32 * k by omega]
theorem emod_twice (x t : Int) (ht : 0 < t) : x % (t * 2) = 2 * (x / 2 % t) + x % 2 := by
  have h1 : x = 2 * (x / 2) + x % 2 := by omega
  have h2 := Int.mul_ediv_add_emod (x / 2) t
  have h3 := Int.emod_nonneg (x / 2) (Int.ne_of_gt ht)
  have h4 := Int.emod_lt_of_pos (x / 2) ht
  have e : x = (2 * (x / 2 % t) + x % 2) + (x / 2 / t) * (t * 2) := by
    rw [Int.mul_comm t 2, ← Int.mul_assoc, Int.mul_comm (x / 2 / t) 2, Int.mul_assoc, Int.mul_comm (x / 2 / t) t]
    omega
  conv => lhs; rw [e]
  rw [Int.add_mul_emod_self_right, Int.emod_eq_of_lt (by omega) (by omega)]
theorem word_same (q : Int) (i : Nat) : word q i (i / 32) = 2 * word q (i + 1) (i / 32) + q / 2 ^ i % 2 := by
  unfold word
  rw [show max i (32 * (i / 32)) = i by omega, show max (i + 1) (32 * (i / 32)) = i + 1 by omega]
  obtain ⟨e, he⟩ : ∃ e, 32 * (i / 32 + 1) - (i + 1) = e := ⟨_, rfl⟩
  rw [show 32 * (i / 32 + 1) - i = e + 1 by omega, he, Int.pow_succ, half_pow]
  exact emod_twice _ _ (pow2_pos e)
theorem word_bounds (q : Int) (i : Nat) : 0 ≤ word q (i + 1) (i / 32) ∧ word q (i + 1) (i / 32) ≤ 2147483647 := by
  unfold word
  rw [show max (i + 1) (32 * (i / 32)) = i + 1 by omega]
  obtain ⟨e, he⟩ : ∃ e, 32 * (i / 32 + 1) - (i + 1) = e := ⟨_, rfl⟩
  rw [he]
  have h1 := Int.emod_nonneg (q / 2 ^ (i + 1)) (Int.ne_of_gt (pow2_pos e))
  have h2 := Int.emod_lt_of_pos (q / 2 ^ (i + 1)) (pow2_pos e)
  have h3 : (2 : Int) ^ e ≤ 2 ^ 31 := by
    have h := Int.ofNat_le.2 (Nat.pow_le_pow_right (n := 2) (by omega) (show e ≤ 31 by omega))
    rwa [Int.natCast_pow, Int.natCast_pow] at h
  have h4 : (2 : Int) ^ 31 = 2147483648 := rfl
  omega
theorem xL_step (q v : Int) (i : Nat) (_hi : i < 384) (hv : v = 2 * word q (i + 1) (i / 32) + q / 2 ^ i % 2) : (xL q (i + 1)).set (i / 32) v = xL q i := by
  refine List.ext_getElem? (fun k => ?_)
  by_cases h : k < 12
  · rw [xL_get q i k h]
    by_cases hk : k = i / 32
    · subst hk
      rw [List.getElem?_set_self (by rw [xL_length]; omega), word_same, hv]
    · rw [List.getElem?_set_ne (by omega), xL_get q (i + 1) k h, word_other q i k hk]
  · rw [List.getElem?_eq_none (by rw [List.length_set, xL_length]; omega), List.getElem?_eq_none (by rw [xL_length]; omega)]

/-- The rest when n bits are left. -/
def restL (n m : Int) (k : Nat) : Int := n / 2 ^ k % m
theorem div_step (n m : Int) (i : Nat) (hm : 0 < m) :
    (restL n m (i + 1) * 2 + n / 2 ^ i % 2 < m → restL n m i = restL n m (i + 1) * 2 + n / 2 ^ i % 2 ∧ n / m / 2 ^ i % 2 = 0) ∧
    (¬ restL n m (i + 1) * 2 + n / 2 ^ i % 2 < m → restL n m i = restL n m (i + 1) * 2 + n / 2 ^ i % 2 - m ∧ n / m / 2 ^ i % 2 = 1) := by
  unfold restL
  rw [half_pow]
  have hq : n / m / 2 ^ i = n / 2 ^ i / m := by
    rw [Int.ediv_ediv_of_nonneg (Int.le_of_lt hm), Int.ediv_ediv_of_nonneg (Int.le_of_lt (pow2_pos i)), Int.mul_comm]
  rw [hq]
  generalize n / 2 ^ i = X
  have h2 := Int.mul_ediv_add_emod (X / 2) m
  have h3 := Int.emod_nonneg (X / 2) (Int.ne_of_gt hm)
  have h4 := Int.emod_lt_of_pos (X / 2) hm
  generalize X / 2 % m = r at *
  generalize hy : X / 2 / m = y at *
  have hX : X = (r * 2 + X % 2) + (2 * y) * m := by
    have : X = 2 * (X / 2) + X % 2 := by omega
    rw [Int.mul_assoc, Int.mul_comm y m]; omega
  obtain ⟨b, hb⟩ : ∃ b, b = X % 2 := ⟨_, rfl⟩
  have hb2 : 0 ≤ b ∧ b ≤ 1 := by omega
  rw [← hb] at hX ⊢
  clear hb
  constructor
  · intro h
    rw [hX, Int.add_mul_emod_self_right, Int.add_mul_ediv_right _ _ (Int.ne_of_gt hm), Int.emod_eq_of_lt (by omega) h, Int.ediv_eq_zero_of_lt (by omega) h]
    exact ⟨rfl, by omega⟩
  · intro h
    have e : (r * 2 + b) + (2 * y) * m = (r * 2 + b - m) + (2 * y + 1) * m := by rw [Int.add_mul, Int.one_mul]; omega
    rw [hX, e, Int.add_mul_emod_self_right, Int.add_mul_ediv_right _ _ (Int.ne_of_gt hm), Int.emod_eq_of_lt (by omega) (by omega), Int.ediv_eq_zero_of_lt (by omega) (by omega)]
    exact ⟨rfl, by omega⟩
theorem rest_bounds (n m : Int) (k : Nat) (hm : 0 < m) : 0 ≤ restL n m k ∧ restL n m k < m := ⟨Int.emod_nonneg _ (Int.ne_of_gt hm), Int.emod_lt_of_pos _ hm⟩
theorem rest_start (n m : Int) (_hm : 0 < m) (h0 : 0 ≤ n) (h1 : n < wide 12) : restL n m 384 = 0 := by
  unfold restL
  have hw : wide 12 = 2 ^ 384 := wide_pow 12
  rw [Int.ediv_eq_zero_of_lt h0 (by rw [← hw]; exact h1), Int.zero_emod]
/-- A bit of a figure is a bit of the number. -/
theorem bit_of (n d : Int) (i : Nat) (hd : d = n / 2 ^ (32 * (i / 32)) % 4294967296) : (d / 2 ^ (i % 32)).tmod 2 = n / 2 ^ i % 2 := by
  have h0 : 0 ≤ d := by omega
  rw [Int.tmod_eq_emod_of_nonneg (Int.ediv_nonneg h0 (Int.le_of_lt (pow2_pos _)))]
  have e : (2 : Int) ^ i = 2 ^ (32 * (i / 32)) * 2 ^ (i % 32) := by rw [← Int.pow_add]; congr 1; omega
  rw [e, ← Int.ediv_ediv_of_nonneg (Int.le_of_lt (pow2_pos _))]
  generalize n / 2 ^ (32 * (i / 32)) = X at *
  rw [hd]
  have hs : i % 32 < 32 := Nat.mod_lt _ (by decide)
  generalize i % 32 = s at *
  have hc : s = 0 ∨ s = 1 ∨ s = 2 ∨ s = 3 ∨ s = 4 ∨ s = 5 ∨ s = 6 ∨ s = 7 ∨ s = 8 ∨ s = 9 ∨ s = 10 ∨ s = 11 ∨ s = 12 ∨ s = 13 ∨ s = 14 ∨ s = 15 ∨ s = 16 ∨ s = 17 ∨ s = 18 ∨ s = 19 ∨ s = 20 ∨ s = 21 ∨ s = 22 ∨ s = 23 ∨ s = 24 ∨ s = 25 ∨ s = 26 ∨ s = 27 ∨ s = 28 ∨ s = 29 ∨ s = 30 ∨ s = 31 := by omega
  rcases hc with rfl | rfl | rfl | rfl | rfl | rfl | rfl | rfl | rfl | rfl | rfl | rfl | rfl | rfl | rfl | rfl | rfl | rfl | rfl | rfl | rfl | rfl | rfl | rfl | rfl | rfl | rfl | rfl | rfl | rfl | rfl | rfl <;> omega
end Go.Proofs.YtbodnhpjfdnjfaaGreatDoor
