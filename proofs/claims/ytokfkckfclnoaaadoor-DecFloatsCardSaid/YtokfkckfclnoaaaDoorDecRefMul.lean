/- The document's whole numbers of twelve figures of 32 bits: moved by figures, multiplied. -/
import Derived.Test.YtokfkckfclnoaaaDoorDecRefOf
namespace Go.Proofs.YtokfkckfclnoaaaDoor
open Go.RowKit

set_option maxHeartbeats 400000 in
theorem shift0_any (b : Bool) (l : List Int) (w : World) (hl : l.length = 12) :
    Calls Tryd.prog 94 #[.agg (intC b l), .int .i64 0] w fun e w' => e = .returned (.agg (intC b (([] : List Int) ++ l.take 12))) ∧ Below w.heap.size w w' := by
  have HL := Lib.hid hl
  clear hl
  have c0 : (intC b l)[0]? = some (.bool b) := by simp [intC]
  go_enter Tryd.func94, Tryd.ntmps94
  go_wp2
  go_loopw [6] (fun i wr => ∃ (j k : Nat) (done rest : List Int), i = .int .i64 (j : Int) ∧ Hid (j = k + 0) ∧ Hid (k = done.length) ∧ j ≤ 12 ∧ Hid (l = done ++ rest) ∧ wr.heap[w.heap.size]? = some (.cells (intC b l) 69 (0, 0)) ∧ (∃ cs0 : Array Value, wr.heap[w.heap.size + 1]? = some (.cells cs0 69 (0, 0)) ∧ cs0.size = 13) ∧ wr.heap[w.heap.size + 2]? = some (.cells (intC b ((([] : List Int) ++ done) ++ List.replicate (12 - j) 0)) 69 (0, 0)) ∧ Below w.heap.size w wr) (fun i _ => 12 - (intOf i).toNat)
  case atStart =>
    refine ⟨0, 0, [], l, rfl, rfl, rfl, by omega, rfl, ?_, ⟨intC false (digs 12 0), ?_, big_size _ _⟩, ?_, ?_⟩
    · rw [heap_alloc_old _ _ (by simp; omega), heap_alloc2_old]
    · rw [heap_alloc_old _ _ (by simp), heap_alloc2_new, zero13]
    · rw [show w.heap.size + 2 = ((w.alloc (.cells (intC b l) 69)).alloc (.cells #[.bool false, .int .u64 0, .int .u64 0, .int .u64 0, .int .u64 0, .int .u64 0, .int .u64 0, .int .u64 0, .int .u64 0, .int .u64 0, .int .u64 0, .int .u64 0, .int .u64 0] 69)).heap.size by simp]
      exact heap_alloc_new _ _
    · exact (((Below.refl _ _).alloc (Nat.le_refl _) _).alloc (by simp) _).alloc (by simp; omega) _
  case round =>
    obtain ⟨j, k, done, rest, rfl, HJ, HK, hj12, HT, hblk, ⟨cs0, hres, hcs0⟩, hX, hbel⟩ := hrel
    by_cases hlt : j < 12
    · obtain ⟨d, rest', rfl⟩ : ∃ d r, rest = d :: r := by
        cases rest with
        | nil => have h1 := HL.out; have h2 := HJ.out; have h3 := HK.out; rw [HT.out] at h1; simp at h1; omega
        | cons d r => exact ⟨d, r, rfl⟩
      have hc : wr.cell? ⟨w.heap.size, 1 + k, none⟩ = some (.int .u64 d) := by
        rw [cell_of_row wr _ _ _ _ _ hblk, HT.out, HK.out]; exact intC_at b done rest' d
      obtain ⟨z, hz⟩ : ∃ z, 12 - j = z + 1 := ⟨12 - j - 1, by omega⟩
      have HX : Hid (wr.heap[w.heap.size + 2]? = some (.cells (intC b ((([] : List Int) ++ done) ++ 0 :: List.replicate z 0)) 69 (0, 0))) := by
        rw [hz] at hX; exact hX
      have hlen : Hid (1 + j = 1 + (([] : List Int) ++ done).length) := by
        show 1 + j = 1 + (([] : List Int) ++ done).length
        have h2 := HJ.out; have h3 := HK.out; simp; omega
      have hx : wr.cell? ⟨w.heap.size + 2, 1 + j, none⟩ = some (.int .u64 0) := by
        rw [cell_of_row wr _ _ _ _ _ HX.out, hlen.out]; exact intC_at b _ _ _
      have hfr : wr.frozen? ⟨w.heap.size + 2, 1 + j, none⟩ = false := frozen_of_row wr _ _ _ _ HX.out
      have HB := Lib.hid hblk
      have HZ := Lib.hid hz
      have hc2 : wr.cell? ⟨w.heap.size, 1 + j, none⟩ = some (.int .u64 d) := by
        have hkj := HJ.out
        rw [show j = k by omega]; exact hc
      clear hblk hX hz
      go_wp2
      go_roundw
      case rel =>
        refine ⟨j + 1, k + 1, done ++ [d], rest', by go_num, ?_, ?_, by omega, ?_, ?_, ⟨cs0, ?_, hcs0⟩, ?_, ?_⟩
        · show j + 1 = (k + 1) + 0
          have := HJ.out; omega
        · show k + 1 = (done ++ [d]).length
          rw [List.length_append, HK.out]; rfl
        · show l = (done ++ [d]) ++ rest'
          rw [HT.out]; simp
        · rw [heap_setCell_other _ _ _ _ (by simp; omega)]; exact HB.out
        · rw [heap_setCell_other _ _ _ _ (by simp)]; exact hres
        · have h1 := heap_setCell_same wr (w.heap.size + 2) (1 + j) _ _ (.int .u64 d) HX.out
          rw [hlen.out, intC_set] at h1
          rw [hlen.out, show 12 - (j + 1) = z by have := HZ.out; omega]
          simpa using h1
        · exact hbel.setCell (by simp; omega) _
      case measure => simp only [intOf]; omega
    · have hdl : done.length = 12 := by have h2 := HJ.out; have h3 := HK.out; omega
      have hE : intC b ((([] : List Int) ++ done) ++ List.replicate (12 - j) 0) = intC b (([] : List Int) ++ l.take 12) := by
        rw [show 12 - j = 0 by omega, List.replicate_zero, List.append_nil, HT.out, ← hdl, List.take_left']
        rfl
      rw [hE] at hX
      have hsz : (intC b (([] : List Int) ++ l.take 12)).size = 13 := by rw [intC_size]; simp [HL.out]
      have HSZ := Lib.hid hsz
      have HC := Lib.hid hcs0
      clear hsz hcs0 hE hdl hblk
      go_wp2_with (first
        | (with_reducible refine wpList_load_row rfl 69 _ rfl (w.heap.size + 2) rfl 69 _ (0, 0) _ hX Tryd.underlying69 rfl (by rw [HSZ.out]; exact Tryd.info48) ?_)
        | (with_reducible refine wpList_store_mid rfl 69 _ _ rfl (w.heap.size + 1) 0 (intC b (([] : List Int) ++ l.take 12)) rfl rfl (by rw [HSZ.out, ← HC.out]; exact there_whole hres) (by rw [HSZ.out]; exact Tryd.info48) (intC_one _ _) ?_))
      refine bodyPost_ret (v := .agg (intC b (([] : List Int) ++ l.take 12))) (results_cell_row (p := 4) (ty := 69) Tryd.results94 _ _ (w.heap.size + 1) 69 _ (0, 0) _ rfl (setCells_whole hres (by rw [HSZ.out, HC.out])) Tryd.underlying69 rfl (by rw [HSZ.out]; exact Tryd.info48)) rfl ⟨rfl, ?_⟩
      exact below_setCells (by omega) _ _ hbel
set_option maxHeartbeats 400000 in
theorem shift1_any (b : Bool) (l : List Int) (w : World) (hl : l.length = 12) :
    Calls Tryd.prog 94 #[.agg (intC b l), .int .i64 1] w fun e w' => e = .returned (.agg (intC b ([(0 : Int)] ++ l.take 11))) ∧ Below w.heap.size w w' := by
  have HL := Lib.hid hl
  clear hl
  have c0 : (intC b l)[0]? = some (.bool b) := by simp [intC]
  go_enter Tryd.func94, Tryd.ntmps94
  go_wp2
  go_loopw [6] (fun i wr => ∃ (j k : Nat) (done rest : List Int), i = .int .i64 (j : Int) ∧ Hid (j = k + 1) ∧ Hid (k = done.length) ∧ j ≤ 12 ∧ Hid (l = done ++ rest) ∧ wr.heap[w.heap.size]? = some (.cells (intC b l) 69 (0, 0)) ∧ (∃ cs0 : Array Value, wr.heap[w.heap.size + 1]? = some (.cells cs0 69 (0, 0)) ∧ cs0.size = 13) ∧ wr.heap[w.heap.size + 2]? = some (.cells (intC b (([(0 : Int)] ++ done) ++ List.replicate (12 - j) 0)) 69 (0, 0)) ∧ Below w.heap.size w wr) (fun i _ => 12 - (intOf i).toNat)
  case atStart =>
    refine ⟨1, 0, [], l, rfl, rfl, rfl, by omega, rfl, ?_, ⟨intC false (digs 12 0), ?_, big_size _ _⟩, ?_, ?_⟩
    · rw [heap_alloc_old _ _ (by simp; omega), heap_alloc2_old]
    · rw [heap_alloc_old _ _ (by simp), heap_alloc2_new, zero13]
    · rw [show w.heap.size + 2 = ((w.alloc (.cells (intC b l) 69)).alloc (.cells #[.bool false, .int .u64 0, .int .u64 0, .int .u64 0, .int .u64 0, .int .u64 0, .int .u64 0, .int .u64 0, .int .u64 0, .int .u64 0, .int .u64 0, .int .u64 0, .int .u64 0] 69)).heap.size by simp]
      exact heap_alloc_new _ _
    · exact (((Below.refl _ _).alloc (Nat.le_refl _) _).alloc (by simp) _).alloc (by simp; omega) _
  case round =>
    obtain ⟨j, k, done, rest, rfl, HJ, HK, hj12, HT, hblk, ⟨cs0, hres, hcs0⟩, hX, hbel⟩ := hrel
    by_cases hlt : j < 12
    · obtain ⟨d, rest', rfl⟩ : ∃ d r, rest = d :: r := by
        cases rest with
        | nil => have h1 := HL.out; have h2 := HJ.out; have h3 := HK.out; rw [HT.out] at h1; simp at h1; omega
        | cons d r => exact ⟨d, r, rfl⟩
      have hc : wr.cell? ⟨w.heap.size, 1 + k, none⟩ = some (.int .u64 d) := by
        rw [cell_of_row wr _ _ _ _ _ hblk, HT.out, HK.out]; exact intC_at b done rest' d
      obtain ⟨z, hz⟩ : ∃ z, 12 - j = z + 1 := ⟨12 - j - 1, by omega⟩
      have HX : Hid (wr.heap[w.heap.size + 2]? = some (.cells (intC b (([(0 : Int)] ++ done) ++ 0 :: List.replicate z 0)) 69 (0, 0))) := by
        rw [hz] at hX; exact hX
      have hlen : Hid (1 + j = 1 + ([(0 : Int)] ++ done).length) := by
        show 1 + j = 1 + ([(0 : Int)] ++ done).length
        have h2 := HJ.out; have h3 := HK.out; simp; omega
      have hx : wr.cell? ⟨w.heap.size + 2, 1 + j, none⟩ = some (.int .u64 0) := by
        rw [cell_of_row wr _ _ _ _ _ HX.out, hlen.out]; exact intC_at b _ _ _
      have hfr : wr.frozen? ⟨w.heap.size + 2, 1 + j, none⟩ = false := frozen_of_row wr _ _ _ _ HX.out
      have HB := Lib.hid hblk
      have HZ := Lib.hid hz
      have hsub : (j : Int) - 1 = (k : Int) := by have := HJ.out; omega
      clear hblk hX hz
      go_wp2
      go_roundw
      case rel =>
        refine ⟨j + 1, k + 1, done ++ [d], rest', by go_num, ?_, ?_, by omega, ?_, ?_, ⟨cs0, ?_, hcs0⟩, ?_, ?_⟩
        · show j + 1 = (k + 1) + 1
          have := HJ.out; omega
        · show k + 1 = (done ++ [d]).length
          rw [List.length_append, HK.out]; rfl
        · show l = (done ++ [d]) ++ rest'
          rw [HT.out]; simp
        · rw [heap_setCell_other _ _ _ _ (by simp; omega)]; exact HB.out
        · rw [heap_setCell_other _ _ _ _ (by simp)]; exact hres
        · have h1 := heap_setCell_same wr (w.heap.size + 2) (1 + j) _ _ (.int .u64 d) HX.out
          rw [hlen.out, intC_set] at h1
          rw [hlen.out, show 12 - (j + 1) = z by have := HZ.out; omega]
          simpa using h1
        · exact hbel.setCell (by simp; omega) _
      case measure => simp only [intOf]; omega
    · have hdl : done.length = 11 := by have h2 := HJ.out; have h3 := HK.out; omega
      have hE : intC b (([(0 : Int)] ++ done) ++ List.replicate (12 - j) 0) = intC b ([(0 : Int)] ++ l.take 11) := by
        rw [show 12 - j = 0 by omega, List.replicate_zero, List.append_nil, HT.out, ← hdl, List.take_left']
        rfl
      rw [hE] at hX
      have hsz : (intC b ([(0 : Int)] ++ l.take 11)).size = 13 := by rw [intC_size]; simp [HL.out]
      have HSZ := Lib.hid hsz
      have HC := Lib.hid hcs0
      clear hsz hcs0 hE hdl hblk
      go_wp2_with (first
        | (with_reducible refine wpList_load_row rfl 69 _ rfl (w.heap.size + 2) rfl 69 _ (0, 0) _ hX Tryd.underlying69 rfl (by rw [HSZ.out]; exact Tryd.info48) ?_)
        | (with_reducible refine wpList_store_mid rfl 69 _ _ rfl (w.heap.size + 1) 0 (intC b ([(0 : Int)] ++ l.take 11)) rfl rfl (by rw [HSZ.out, ← HC.out]; exact there_whole hres) (by rw [HSZ.out]; exact Tryd.info48) (intC_one _ _) ?_))
      refine bodyPost_ret (v := .agg (intC b ([(0 : Int)] ++ l.take 11))) (results_cell_row (p := 4) (ty := 69) Tryd.results94 _ _ (w.heap.size + 1) 69 _ (0, 0) _ rfl (setCells_whole hres (by rw [HSZ.out, HC.out])) Tryd.underlying69 rfl (by rw [HSZ.out]; exact Tryd.info48)) rfl ⟨rfl, ?_⟩
      exact below_setCells (by omega) _ _ hbel
end Go.Proofs.YtokfkckfclnoaaaDoor
