/- The document's whole numbers of twelve figures of 32 bits: multiplied. -/
import Derived.Test.YtokfkckfclnoaaaDoorDecRefMul
import Derived.Deep.RegionHeld3
import Derived.Deep.RegionLaw
namespace Go.Proofs.YtokfkckfclnoaaaDoor
open Go.RowKit

theorem digs_take (j k : Nat) (n : Int) (h : j ≤ k) : (digs k n).take j = digs j n := by
  induction j generalizing k n with
  | zero => simp [digs]
  | succ j ih =>
    obtain ⟨k', rfl⟩ : ∃ k', k = k' + 1 := ⟨k - 1, by omega⟩
    simp only [digs, List.take_succ_cons]
    rw [ih k' _ (by omega)]
theorem shift0B (b : Bool) (n : Int) (w : World) :
    Calls Tryd.prog 94 #[big b n, .int .i64 0] w fun e w' => e = .returned (big b n) ∧ Below w.heap.size w w' :=
  (shift0_any b (digs 12 n) w (digs_length 12 n)).mono fun e w' h => ⟨h.1.trans (by rw [List.nil_append, digs_take 12 12 n (Nat.le_refl _)]; rfl), h.2⟩
theorem shift1B (b : Bool) (n : Int) (w : World) :
    Calls Tryd.prog 94 #[big b n, .int .i64 1] w fun e w' => e = .returned (big b (n * 4294967296)) ∧ Below w.heap.size w w' :=
  (shift1_any b (digs 12 n) w (digs_length 12 n)).mono fun e w' h => ⟨h.1.trans (by
    rw [digs_take 11 12 n (by omega)]
    have : digs 12 (n * 4294967296) = 0 :: digs 11 n := by
      show n * 4294967296 % 4294967296 :: digs 11 (n * 4294967296 / 4294967296) = _
      rw [Int.mul_emod_left, Int.mul_ediv_cancel _ (by omega)]
    unfold big; rw [this]; rfl), h.2⟩

/-- What adding makes of two rows of figures. -/
def addL : List Int → List Int → Int → List Int
  | a :: r, b :: s, c => (c + a + b) % 4294967296 :: addL r s ((c + a + b) / 4294967296)
  | _, _, _ => []
theorem addL_digs (k : Nat) (n m c : Int) : addL (digs k n) (digs k m) c = digs k (n + m + c) := by
  induction k generalizing n m c with
  | zero => rfl
  | succ k ih =>
    simp only [digs, addL]
    rw [ih]
    congr 1
    · omega
    · congr 1; omega
theorem addL_length (l r : List Int) (c : Int) (h : l.length = r.length) : (addL l r c).length = l.length := by
  induction l generalizing r c with
  | nil => cases r <;> rfl
  | cons a l ih =>
    cases r with
    | nil => simp at h
    | cons b r => simp [addL]; exact ih r _ (by simpa using h)

theorem explicit12 (l : List Int) (h : l.length = 12) : ∃ y0 y1 y2 y3 y4 y5 y6 y7 y8 y9 y10 y11, l = [y0, y1, y2, y3, y4, y5, y6, y7, y8, y9, y10, y11] := by
  match l, h with
  | [a0, a1, a2, a3, a4, a5, a6, a7, a8, a9, a10, a11], _ => exact ⟨a0, a1, a2, a3, a4, a5, a6, a7, a8, a9, a10, a11, rfl⟩

theorem below_on {B : Nat} {w w1 w2 : World} (h : Below B w w1) (k : Below w1.heap.size w1 w2) (hB : B ≤ w1.heap.size := by first | exact Below.size (by assumption) | (simp; done) | (simp; omega)) : Below B w w2 := h.trans (k.mono hB)
/-- A block that was made ahead of a call stands behind it. -/
def Stands (g : Nat) (cs : Array Value) (t : TypeId) (w : World) : Prop := w.heap[g]? = some (.cells cs t (0, 0))
theorem stands_in {g : Nat} {cs : Array Value} {t : TypeId} {w : World} (h : Stands g cs t w) : g < w.heap.size := by
  by_cases hl : g < w.heap.size
  · exact hl
  · have h1 : w.heap[g]? = some (.cells cs t (0, 0)) := h
    rw [Array.getElem?_eq_none (Nat.le_of_not_lt hl)] at h1; cases h1
theorem stands_new {V w2 : World} {cs : Array Value} {t : TypeId} (hb : Below (V.alloc (.cells cs t)).heap.size (V.alloc (.cells cs t)) w2) : Stands V.heap.size cs t w2 := by
  show w2.heap[V.heap.size]? = _
  rw [hb.block _ (by simp)]; exact heap_alloc_new _ _
theorem stands_newD {V w2 : World} {cs : Array Value} {t : TypeId} (hb : Below (V.alloc (.cells cs t)).drew.heap.size (V.alloc (.cells cs t)).drew w2) : Stands V.heap.size cs t w2 :=
  stands_new (V := V) (t := t) ⟨hb.os, hb.tape, hb.output, hb.size, hb.block⟩
theorem stands_old {w1 w2 : World} {g : Nat} {cs : Array Value} {t : TypeId} (h : Stands g cs t w1) (hb : Below w1.heap.size w1 w2) : Stands g cs t w2 :=
  (hb.block _ (stands_in h)).trans h
theorem stands_cells {g : Nat} {w : World} {t : TypeId} {v0 v1 v2 v3 v4 v5 v6 v7 v8 v9 v10 v11 v12 : Value} (h : Stands g #[v0, v1, v2, v3, v4, v5, v6, v7, v8, v9, v10, v11, v12] t w) : w.cell? ⟨g, 0, none⟩ = some v0 ∧ w.frozen? ⟨g, 0, none⟩ = false ∧ w.cell? ⟨g, 1, none⟩ = some v1 ∧ w.frozen? ⟨g, 1, none⟩ = false ∧ w.cell? ⟨g, 2, none⟩ = some v2 ∧ w.frozen? ⟨g, 2, none⟩ = false ∧ w.cell? ⟨g, 3, none⟩ = some v3 ∧ w.frozen? ⟨g, 3, none⟩ = false ∧ w.cell? ⟨g, 4, none⟩ = some v4 ∧ w.frozen? ⟨g, 4, none⟩ = false ∧ w.cell? ⟨g, 5, none⟩ = some v5 ∧ w.frozen? ⟨g, 5, none⟩ = false ∧ w.cell? ⟨g, 6, none⟩ = some v6 ∧ w.frozen? ⟨g, 6, none⟩ = false ∧ w.cell? ⟨g, 7, none⟩ = some v7 ∧ w.frozen? ⟨g, 7, none⟩ = false ∧ w.cell? ⟨g, 8, none⟩ = some v8 ∧ w.frozen? ⟨g, 8, none⟩ = false ∧ w.cell? ⟨g, 9, none⟩ = some v9 ∧ w.frozen? ⟨g, 9, none⟩ = false ∧ w.cell? ⟨g, 10, none⟩ = some v10 ∧ w.frozen? ⟨g, 10, none⟩ = false ∧ w.cell? ⟨g, 11, none⟩ = some v11 ∧ w.frozen? ⟨g, 11, none⟩ = false ∧ w.cell? ⟨g, 12, none⟩ = some v12 ∧ w.frozen? ⟨g, 12, none⟩ = false := by
  have hc := fun j => cell_of_row w g j _ t (0, 0) h
  have hf := fun j => frozen_of_row w g j _ t h
  exact ⟨hc 0, hf 0, hc 1, hf 1, hc 2, hf 2, hc 3, hf 3, hc 4, hf 4, hc 5, hf 5, hc 6, hf 6, hc 7, hf 7, hc 8, hf 8, hc 9, hf 9, hc 10, hf 10, hc 11, hf 11, hc 12, hf 12⟩
theorem set13_row {g : Nat} {w : World} {t : TypeId} {u0 u1 u2 u3 u4 u5 u6 u7 u8 u9 u10 u11 u12 v0 v1 v2 v3 v4 v5 v6 v7 v8 v9 v10 v11 v12 : Value} (h : Stands g #[u0, u1, u2, u3, u4, u5, u6, u7, u8, u9, u10, u11, u12] t w) : Stands g #[v0, v1, v2, v3, v4, v5, v6, v7, v8, v9, v10, v11, v12] t (((((((((((((w.setCell ⟨g, 0, none⟩ v0).setCell ⟨g, 1, none⟩ v1).setCell ⟨g, 2, none⟩ v2).setCell ⟨g, 3, none⟩ v3).setCell ⟨g, 4, none⟩ v4).setCell ⟨g, 5, none⟩ v5).setCell ⟨g, 6, none⟩ v6).setCell ⟨g, 7, none⟩ v7).setCell ⟨g, 8, none⟩ v8).setCell ⟨g, 9, none⟩ v9).setCell ⟨g, 10, none⟩ v10).setCell ⟨g, 11, none⟩ v11).setCell ⟨g, 12, none⟩ v12) := by
  have h2 := setCells_whole (vs := #[v0, v1, v2, v3, v4, v5, v6, v7, v8, v9, v10, v11, v12]) h rfl
  exact h2
theorem below_set13 {B g : Nat} {a w : World} {v0 v1 v2 v3 v4 v5 v6 v7 v8 v9 v10 v11 v12 : Value} (h : Below B a w) (hg : B ≤ g) : Below B a (((((((((((((w.setCell ⟨g, 0, none⟩ v0).setCell ⟨g, 1, none⟩ v1).setCell ⟨g, 2, none⟩ v2).setCell ⟨g, 3, none⟩ v3).setCell ⟨g, 4, none⟩ v4).setCell ⟨g, 5, none⟩ v5).setCell ⟨g, 6, none⟩ v6).setCell ⟨g, 7, none⟩ v7).setCell ⟨g, 8, none⟩ v8).setCell ⟨g, 9, none⟩ v9).setCell ⟨g, 10, none⟩ v10).setCell ⟨g, 11, none⟩ v11).setCell ⟨g, 12, none⟩ v12) :=
  (((((((((((((h.setCell (p := ⟨g, 0, none⟩) hg _).setCell (p := ⟨g, 1, none⟩) hg _).setCell (p := ⟨g, 2, none⟩) hg _).setCell (p := ⟨g, 3, none⟩) hg _).setCell (p := ⟨g, 4, none⟩) hg _).setCell (p := ⟨g, 5, none⟩) hg _).setCell (p := ⟨g, 6, none⟩) hg _).setCell (p := ⟨g, 7, none⟩) hg _).setCell (p := ⟨g, 8, none⟩) hg _).setCell (p := ⟨g, 9, none⟩) hg _).setCell (p := ⟨g, 10, none⟩) hg _).setCell (p := ⟨g, 11, none⟩) hg _).setCell (p := ⟨g, 12, none⟩) hg _)
theorem stands_at2 (w : World) (A B X : Obj) : (((w.alloc A).alloc B).alloc X).heap[w.heap.size + 2]? = some X := by
  rw [show w.heap.size + 2 = ((w.alloc A).alloc B).heap.size by simp]
  exact heap_alloc_new _ _
theorem stands_at3 (w : World) (A B X Y : Obj) : ((((w.alloc A).alloc B).alloc X).alloc Y).heap[w.heap.size + 3]? = some Y := by
  rw [show w.heap.size + 3 = (((w.alloc A).alloc B).alloc X).heap.size by simp]
  exact heap_alloc_new _ _
theorem intC_sign (b c : Bool) (l : List Int) : (intC b l).setIfInBounds 0 (.bool c) = intC c l := by
  apply Array.toList_inj.1; simp [intC]
set_option maxHeartbeats 1000000 in
theorem mulB (b b2 : Bool) (n m : Int) (w : World) :
    Calls Tryd.prog 68 #[big b n, big b2 m] w fun e w' => e = .returned (big (b != b2) (n * (m % 4294967296) + n * (m / 4294967296 % 4294967296) * 4294967296)) ∧ Below w.heap.size w w' := by
  obtain ⟨x0, x1, x2, x3, x4, x5, x6, x7, x8, x9, x10, x11, hXS⟩ := explicit12 (digs 12 n) (digs_length 12 n)
  obtain ⟨C, hC⟩ : ∃ A, A = intC b2 (digs 12 m) := ⟨_, rfl⟩
  have hbA : big b n = .agg #[.bool b, .int .u64 x0, .int .u64 x1, .int .u64 x2, .int .u64 x3, .int .u64 x4, .int .u64 x5, .int .u64 x6, .int .u64 x7, .int .u64 x8, .int .u64 x9, .int .u64 x10, .int .u64 x11] := by unfold big intC; rw [hXS]; rfl
  have hbC : big b2 m = .agg C := by rw [hC]; rfl
  rw [hbA, hbC]
  have HC := Lib.hid hC
  have hbA2 := Lib.hid hbA
  clear hXS hC hbA hbC
  go_enter Tryd.func68, Tryd.ntmps68
  go_wp2
  go_loopw [6] (fun i wr => ∃ (k : Nat), i = .int .i64 (k : Int) ∧ k ≤ 2 ∧ wr.heap[w.heap.size]? = some (.cells #[.bool b, .int .u64 x0, .int .u64 x1, .int .u64 x2, .int .u64 x3, .int .u64 x4, .int .u64 x5, .int .u64 x6, .int .u64 x7, .int .u64 x8, .int .u64 x9, .int .u64 x10, .int .u64 x11] 69 (0, 0)) ∧ wr.heap[w.heap.size + 1]? = some (.cells C 69 (0, 0)) ∧ (∃ cs0 : Array Value, wr.heap[w.heap.size + 2]? = some (.cells cs0 69 (0, 0)) ∧ cs0.size = 13) ∧ wr.heap[w.heap.size + 3]? = some (.cells (intC false (digs 12 ((if 0 < k then n * (m % 4294967296) else 0) + (if 1 < k then n * (m / 4294967296 % 4294967296) * 4294967296 else 0)))) 69 (0, 0)) ∧ Below w.heap.size w wr) (fun i _ => 2 - (intOf i).toNat)
  case atStart =>
    refine ⟨0, rfl, by omega, ?_, ?_, ⟨intC false (digs 12 0), ?_, big_size _ _⟩, ?_, ?_⟩
    · rw [heap_alloc_old _ _ (by simp; omega), heap_alloc_old _ _ (by simp; omega), heap_alloc2_old]
    · rw [heap_alloc_old _ _ (by first | (simp; done) | (simp; omega)), heap_alloc_old _ _ (by first | (simp; done) | (simp; omega)), heap_alloc2_new]
    · rw [heap_alloc_old _ _ (by simp), zero13]
      exact stands_at2 w _ _ _
    · rw [zero13]
      exact stands_at3 w _ _ _ _
    · exact ((((Below.refl _ _).alloc (Nat.le_refl _) _).alloc (by simp) _).alloc (by simp; omega) _).alloc (by simp; omega) _
  case round =>
    obtain ⟨k, rfl, hk, hblk, hblk2, ⟨cs0, hres, hcs0⟩, hX, hbel⟩ := hrel
    by_cases hlt : k < 2
    · obtain ⟨d, hd⟩ : ∃ d, d = (if k = 0 then m % 4294967296 else m / 4294967296 % 4294967296) := ⟨_, rfl⟩
      have hd0 : 0 ≤ d := by rw [hd]; split <;> omega
      have hd1 : d ≤ 4294967295 := by rw [hd]; split <;> omega
      have hc : wr.cell? ⟨w.heap.size + 1, 1 + k, none⟩ = some (.int .u64 d) := by
        rw [cell_of_row wr _ _ _ _ _ hblk2, HC.out, hd]
        obtain rfl | rfl : k = 0 ∨ k = 1 := by omega
        · simp [intC, digs]
        · simp [intC, digs]
      have k1 := fun w => timesB b n d 0 w hd0 hd1 (by omega) (by omega)
      rw [hbA2.out] at k1
      obtain ⟨N, hN⟩ : ∃ N, N = n * d + 0 := ⟨_, rfl⟩
      rw [← hN] at k1
      obtain ⟨M, hM⟩ : ∃ M, M = (if k = 0 then N else N * 4294967296) := ⟨_, rfl⟩
      have k2 : ∀ w, Calls Tryd.prog 94 #[big b N, .int .i64 (k : Int)] w fun e w' => e = .returned (big b M) ∧ Below w.heap.size w w' := by
        intro w
        rw [hM]
        by_cases h0 : k = 0
        · subst h0; exact shift0B b N w
        · obtain rfl : k = 1 := by omega
          exact shift1B b N w
      obtain ⟨y0, y1, y2, y3, y4, y5, y6, y7, y8, y9, y10, y11, hY⟩ := explicit12 (digs 12 M) (digs_length 12 M)
      have hbM : big b M = .agg #[.bool b, .int .u64 y0, .int .u64 y1, .int .u64 y2, .int .u64 y3, .int .u64 y4, .int .u64 y5, .int .u64 y6, .int .u64 y7, .int .u64 y8, .int .u64 y9, .int .u64 y10, .int .u64 y11] := by unfold big intC; rw [hY]; rfl
      rw [hbM] at k2
      obtain ⟨NV, hNV⟩ : ∃ NV, NV = big b N := ⟨_, rfl⟩
      rw [← hNV] at k1 k2
      have KS : ∀ w', Below wr.heap.size wr w' → (w'.cell? ⟨w.heap.size, 0, none⟩ = some (.bool b) ∧ w'.cell? ⟨w.heap.size, 1, none⟩ = some (.int .u64 x0) ∧ w'.cell? ⟨w.heap.size, 2, none⟩ = some (.int .u64 x1) ∧ w'.cell? ⟨w.heap.size, 3, none⟩ = some (.int .u64 x2) ∧ w'.cell? ⟨w.heap.size, 4, none⟩ = some (.int .u64 x3) ∧ w'.cell? ⟨w.heap.size, 5, none⟩ = some (.int .u64 x4) ∧ w'.cell? ⟨w.heap.size, 6, none⟩ = some (.int .u64 x5) ∧ w'.cell? ⟨w.heap.size, 7, none⟩ = some (.int .u64 x6) ∧ w'.cell? ⟨w.heap.size, 8, none⟩ = some (.int .u64 x7) ∧ w'.cell? ⟨w.heap.size, 9, none⟩ = some (.int .u64 x8) ∧ w'.cell? ⟨w.heap.size, 10, none⟩ = some (.int .u64 x9) ∧ w'.cell? ⟨w.heap.size, 11, none⟩ = some (.int .u64 x10) ∧ w'.cell? ⟨w.heap.size, 12, none⟩ = some (.int .u64 x11) ∧ w'.cell? ⟨w.heap.size + 1, 1 + k, none⟩ = some (.int .u64 d) ∧ Below wr.heap.size wr w') := by
        intro w' h
        have hs : w.heap.size + 1 < wr.heap.size := by
          by_cases hl : w.heap.size + 1 < wr.heap.size
          · exact hl
          · rw [Array.getElem?_eq_none (Nat.le_of_not_lt hl)] at hblk2; cases hblk2
        have hcA : ∀ j, w'.cell? ⟨w.heap.size, j, none⟩ = (#[.bool b, .int .u64 x0, .int .u64 x1, .int .u64 x2, .int .u64 x3, .int .u64 x4, .int .u64 x5, .int .u64 x6, .int .u64 x7, .int .u64 x8, .int .u64 x9, .int .u64 x10, .int .u64 x11] : Array Value)[j]? := fun j => by
          rw [h.cell (p := ⟨w.heap.size, j, none⟩) (by show w.heap.size < _; omega), cell_of_row wr _ _ _ _ _ hblk]
        refine ⟨hcA 0, hcA 1, hcA 2, hcA 3, hcA 4, hcA 5, hcA 6, hcA 7, hcA 8, hcA 9, hcA 10, hcA 11, hcA 12, ?_, h⟩
        rw [h.cell (p := ⟨w.heap.size + 1, 1 + k, none⟩) hs]; exact hc
      obtain ⟨S, hS⟩ : ∃ S, S = (if 0 < k then n * (m % 4294967296) else 0) + (if 1 < k then n * (m / 4294967296 % 4294967296) * 4294967296 else 0) := ⟨_, rfl⟩
      rw [← hS] at hX
      have HS := Lib.hid hS
      clear hS
      have HB : Below wr.heap.size wr wr.drew := (Below.refl _ _).drew
      have HY := Lib.hid hY
      have HM := Lib.hid hM
      have HN := Lib.hid hN
      have HNV := Lib.hid hNV
      have hk0 : (0 : Int) ≤ (k : Int) ∧ (k : Int) < 12 := by omega
      have HD := Lib.hid hd
      clear hY hbM hM hN hNV hd
      have hwr : w.heap.size + 1 < wr.heap.size := by
        by_cases hl : w.heap.size + 1 < wr.heap.size
        · exact hl
        · rw [Array.getElem?_eq_none (Nat.le_of_not_lt hl)] at hblk2; cases hblk2
      go_wp2_with fail
      go_region_held3 (fun w' => (w'.cell? ⟨w.heap.size, 0, none⟩ = some (.bool b) ∧ w'.cell? ⟨w.heap.size, 1, none⟩ = some (.int .u64 x0) ∧ w'.cell? ⟨w.heap.size, 2, none⟩ = some (.int .u64 x1) ∧ w'.cell? ⟨w.heap.size, 3, none⟩ = some (.int .u64 x2) ∧ w'.cell? ⟨w.heap.size, 4, none⟩ = some (.int .u64 x3) ∧ w'.cell? ⟨w.heap.size, 5, none⟩ = some (.int .u64 x4) ∧ w'.cell? ⟨w.heap.size, 6, none⟩ = some (.int .u64 x5) ∧ w'.cell? ⟨w.heap.size, 7, none⟩ = some (.int .u64 x6) ∧ w'.cell? ⟨w.heap.size, 8, none⟩ = some (.int .u64 x7) ∧ w'.cell? ⟨w.heap.size, 9, none⟩ = some (.int .u64 x8) ∧ w'.cell? ⟨w.heap.size, 10, none⟩ = some (.int .u64 x9) ∧ w'.cell? ⟨w.heap.size, 11, none⟩ = some (.int .u64 x10) ∧ w'.cell? ⟨w.heap.size, 12, none⟩ = some (.int .u64 x11) ∧ w'.cell? ⟨w.heap.size + 1, 1 + k, none⟩ = some (.int .u64 d) ∧ Below wr.heap.size wr w'))
        (first
          | with_reducible exact KS _ HB
          | with_reducible exact KS _ (HB.alloc (by simp) _)
          | with_reducible exact KS _ ((Below.refl _ wr).alloc (Nat.le_refl _) _).drew
          | with_reducible exact KS _ SB2
          | with_reducible exact KS _ (SB2.alloc SB2.size _)
          | with_reducible exact KS _ SB1
          | with_reducible exact KS _ (SB1.alloc SB1.size _)
          | with_reducible exact KS _ (below_set13 SB2 (by first | exact SB1.size | exact SB2.size | simp))
          | with_reducible exact KS _ (below_set13 (SB2.alloc SB2.size _) SB2.size)
          | (trace_state; fail))
        (first
          | (go_simp; go_at_call 50; with_reducible refine (k1 _).mono ?_; rintro e w1 ⟨rfl, hb1⟩; (first | have SB1 := below_on HB hb1 (by simp) | have SB1 := below_on ((Below.refl _ wr).alloc (Nat.le_refl _) _).drew hb1 (by simp)); (first | have hst := stands_newD hb1 | skip))
          | (go_simp; go_at_call 94; with_reducible refine (k2 _).mono ?_; rintro e w2 ⟨rfl, hb2⟩; (first | have SB2 := below_on SB1 hb2 SB1.size | have SB2 := below_on (SB1.alloc SB1.size _) hb2 (SB1.alloc SB1.size _).size); (first | (have hst2 := stands_new hb2; have hh := stands_cells hst2; obtain ⟨ha0, hf0, ha1, hf1, ha2, hf2, ha3, hf3, ha4, hf4, ha5, hf5, ha6, hf6, ha7, hf7, ha8, hf8, ha9, hf9, ha10, hf10, ha11, hf11, ha12, hf12⟩ := hh) | (have hst2 := stands_old hst hb2; have hh := stands_cells hst2; obtain ⟨ha0, hf0, ha1, hf1, ha2, hf2, ha3, hf3, ha4, hf4, ha5, hf5, ha6, hf6, ha7, hf7, ha8, hf8, ha9, hf9, ha10, hf10, ha11, hf11, ha12, hf12⟩ := hh) | skip)))
      have hr3 : Stands w2.heap.size #[.bool b, .int .u64 y0, .int .u64 y1, .int .u64 y2, .int .u64 y3, .int .u64 y4, .int .u64 y5, .int .u64 y6, .int .u64 y7, .int .u64 y8, .int .u64 y9, .int .u64 y10, .int .u64 y11] 69 (w2.alloc (.cells #[.bool b, .int .u64 y0, .int .u64 y1, .int .u64 y2, .int .u64 y3, .int .u64 y4, .int .u64 y5, .int .u64 y6, .int .u64 y7, .int .u64 y8, .int .u64 y9, .int .u64 y10, .int .u64 y11] 69)) := heap_alloc_new _ _
      have hb3 : Below wr.heap.size wr (w2.alloc (.cells #[.bool b, .int .u64 y0, .int .u64 y1, .int .u64 y2, .int .u64 y3, .int .u64 y4, .int .u64 y5, .int .u64 y6, .int .u64 y7, .int .u64 y8, .int .u64 y9, .int .u64 y10, .int .u64 y11] 69)) := SB2.alloc SB2.size _
      have hg3 : wr.heap.size ≤ w2.heap.size := SB2.size
      generalize (w2.alloc (.cells #[.bool b, .int .u64 y0, .int .u64 y1, .int .u64 y2, .int .u64 y3, .int .u64 y4, .int .u64 y5, .int .u64 y6, .int .u64 y7, .int .u64 y8, .int .u64 y9, .int .u64 y10, .int .u64 y11] 69)) = W3 at hr3 hb3 ⊢
      generalize w2.heap.size = g at hr3 hg3 ⊢
      rotate_left
      have hr3 := set13_row (v0 := .bool b) (v1 := .int .u64 y0) (v2 := .int .u64 y1) (v3 := .int .u64 y2) (v4 := .int .u64 y3) (v5 := .int .u64 y4) (v6 := .int .u64 y5) (v7 := .int .u64 y6) (v8 := .int .u64 y7) (v9 := .int .u64 y8) (v10 := .int .u64 y9) (v11 := .int .u64 y10) (v12 := .int .u64 y11) hst2
      have hb3 : Below wr.heap.size wr (((((((((((((w2.setCell ⟨w1.heap.size, 0, none⟩ (.bool b)).setCell ⟨w1.heap.size, 1, none⟩ (.int .u64 y0)).setCell ⟨w1.heap.size, 2, none⟩ (.int .u64 y1)).setCell ⟨w1.heap.size, 3, none⟩ (.int .u64 y2)).setCell ⟨w1.heap.size, 4, none⟩ (.int .u64 y3)).setCell ⟨w1.heap.size, 5, none⟩ (.int .u64 y4)).setCell ⟨w1.heap.size, 6, none⟩ (.int .u64 y5)).setCell ⟨w1.heap.size, 7, none⟩ (.int .u64 y6)).setCell ⟨w1.heap.size, 8, none⟩ (.int .u64 y7)).setCell ⟨w1.heap.size, 9, none⟩ (.int .u64 y8)).setCell ⟨w1.heap.size, 10, none⟩ (.int .u64 y9)).setCell ⟨w1.heap.size, 11, none⟩ (.int .u64 y10)).setCell ⟨w1.heap.size, 12, none⟩ (.int .u64 y11)) := below_set13 SB2 (SB1.size)
      have hg3 : wr.heap.size ≤ w1.heap.size := SB1.size
      generalize (((((((((((((w2.setCell ⟨w1.heap.size, 0, none⟩ (.bool b)).setCell ⟨w1.heap.size, 1, none⟩ (.int .u64 y0)).setCell ⟨w1.heap.size, 2, none⟩ (.int .u64 y1)).setCell ⟨w1.heap.size, 3, none⟩ (.int .u64 y2)).setCell ⟨w1.heap.size, 4, none⟩ (.int .u64 y3)).setCell ⟨w1.heap.size, 5, none⟩ (.int .u64 y4)).setCell ⟨w1.heap.size, 6, none⟩ (.int .u64 y5)).setCell ⟨w1.heap.size, 7, none⟩ (.int .u64 y6)).setCell ⟨w1.heap.size, 8, none⟩ (.int .u64 y7)).setCell ⟨w1.heap.size, 9, none⟩ (.int .u64 y8)).setCell ⟨w1.heap.size, 10, none⟩ (.int .u64 y9)).setCell ⟨w1.heap.size, 11, none⟩ (.int .u64 y10)).setCell ⟨w1.heap.size, 12, none⟩ (.int .u64 y11)) = W3 at hr3 hb3 ⊢
      generalize w1.heap.size = g at hr3 hg3 ⊢
      rotate_left
      have hr3 := set13_row (v0 := .bool b) (v1 := .int .u64 y0) (v2 := .int .u64 y1) (v3 := .int .u64 y2) (v4 := .int .u64 y3) (v5 := .int .u64 y4) (v6 := .int .u64 y5) (v7 := .int .u64 y6) (v8 := .int .u64 y7) (v9 := .int .u64 y8) (v10 := .int .u64 y9) (v11 := .int .u64 y10) (v12 := .int .u64 y11) hst2
      have hb3 : Below wr.heap.size wr (((((((((((((w2.setCell ⟨wr.heap.size, 0, none⟩ (.bool b)).setCell ⟨wr.heap.size, 1, none⟩ (.int .u64 y0)).setCell ⟨wr.heap.size, 2, none⟩ (.int .u64 y1)).setCell ⟨wr.heap.size, 3, none⟩ (.int .u64 y2)).setCell ⟨wr.heap.size, 4, none⟩ (.int .u64 y3)).setCell ⟨wr.heap.size, 5, none⟩ (.int .u64 y4)).setCell ⟨wr.heap.size, 6, none⟩ (.int .u64 y5)).setCell ⟨wr.heap.size, 7, none⟩ (.int .u64 y6)).setCell ⟨wr.heap.size, 8, none⟩ (.int .u64 y7)).setCell ⟨wr.heap.size, 9, none⟩ (.int .u64 y8)).setCell ⟨wr.heap.size, 10, none⟩ (.int .u64 y9)).setCell ⟨wr.heap.size, 11, none⟩ (.int .u64 y10)).setCell ⟨wr.heap.size, 12, none⟩ (.int .u64 y11)) := below_set13 SB2 (Nat.le_refl _)
      generalize (((((((((((((w2.setCell ⟨wr.heap.size, 0, none⟩ (.bool b)).setCell ⟨wr.heap.size, 1, none⟩ (.int .u64 y0)).setCell ⟨wr.heap.size, 2, none⟩ (.int .u64 y1)).setCell ⟨wr.heap.size, 3, none⟩ (.int .u64 y2)).setCell ⟨wr.heap.size, 4, none⟩ (.int .u64 y3)).setCell ⟨wr.heap.size, 5, none⟩ (.int .u64 y4)).setCell ⟨wr.heap.size, 6, none⟩ (.int .u64 y5)).setCell ⟨wr.heap.size, 7, none⟩ (.int .u64 y6)).setCell ⟨wr.heap.size, 8, none⟩ (.int .u64 y7)).setCell ⟨wr.heap.size, 9, none⟩ (.int .u64 y8)).setCell ⟨wr.heap.size, 10, none⟩ (.int .u64 y9)).setCell ⟨wr.heap.size, 11, none⟩ (.int .u64 y10)).setCell ⟨wr.heap.size, 12, none⟩ (.int .u64 y11)) = W3 at hr3 hb3 ⊢
      obtain ⟨g, hgg⟩ : ∃ g, wr.heap.size = g := ⟨_, rfl⟩
      rw [hgg] at hr3 ⊢
      have hg3 : wr.heap.size ≤ g := Nat.le_of_eq hgg
      rotate_left
      clear KS
      all_goals
        have hs3 : w.heap.size + 3 < wr.heap.size := by
          by_cases hl : w.heap.size + 3 < wr.heap.size
          · exact hl
          · rw [Array.getElem?_eq_none (Nat.le_of_not_lt hl)] at hX; cases hX
        have hX3 : W3.heap[w.heap.size + 3]? = some (.cells (intC false (digs 12 S)) 69 (0, 0)) := (hb3.block _ hs3).trans hX
        have hA3 : W3.heap[w.heap.size]? = _ := (hb3.block _ (by omega)).trans hblk
        have hC3 : W3.heap[w.heap.size + 1]? = _ := (hb3.block _ (by omega)).trans hblk2
        have hR3 : W3.heap[w.heap.size + 2]? = _ := (hb3.block _ (by omega)).trans hres
        have hbW : Below w.heap.size w W3 := hbel.trans (hb3.mono hbel.size)
        have hY3 : W3.heap[g]? = some (.cells (intC b (digs 12 M)) 69 (0, 0)) := by
          have h1 : W3.heap[g]? = _ := hr3
          rw [h1]; unfold intC; rw [HY.out]; rfl
        have HX3 := Lib.hid hX3
        have HA3 := Lib.hid hA3
        have HC3 := Lib.hid hC3
        have HR3 := Lib.hid hR3
        have HY3 := Lib.hid hY3
        clear hX3 hA3 hC3 hR3 hY3 hr3 hblk hblk2 hres hX
        go_wp2
        go_loopw [8, 9] (fun c i wi => ∃ (done done2 rest rest2 : List Int) (x : Int), i = .int .i64 done.length ∧ c = .int .u64 x ∧ Hid (done.length + rest.length = 12) ∧ Hid (done2.length = done.length ∧ rest2.length = rest.length) ∧ Hid (addL (digs 12 S) (digs 12 M) 0 = done ++ addL rest rest2 x) ∧ Hid (fig32 rest) ∧ Hid (fig32 rest2) ∧ 0 ≤ x ∧ x ≤ 1 ∧ wi.heap[w.heap.size + 3]? = some (.cells (intC false (done ++ rest)) 69 (0, 0)) ∧ wi.heap[g]? = some (.cells (intC b (done2 ++ rest2)) 69 (0, 0)) ∧ Hid (wi.heap[w.heap.size]? = some (.cells #[.bool b, .int .u64 x0, .int .u64 x1, .int .u64 x2, .int .u64 x3, .int .u64 x4, .int .u64 x5, .int .u64 x6, .int .u64 x7, .int .u64 x8, .int .u64 x9, .int .u64 x10, .int .u64 x11] 69 (0, 0))) ∧ Hid (wi.heap[w.heap.size + 1]? = some (.cells C 69 (0, 0))) ∧ Hid (wi.heap[w.heap.size + 2]? = some (.cells cs0 69 (0, 0))) ∧ Below w.heap.size w wi) (fun _ i _ => 12 - (intOf i).toNat)
        case atStart =>
          exact ⟨[], [], digs 12 S, digs 12 M, 0, rfl, rfl, by show 0 + _ = 12; rw [digs_length], ⟨rfl, by rw [digs_length, digs_length]⟩, rfl, digs_fig 12 S, digs_fig 12 M, by omega, by omega, HX3.out, HY3.out, HA3, HC3, HR3, hbW⟩
        case round =>
          clear HX3 HA3 HC3 HR3 HY3 hbW hb3
          obtain ⟨done, done2, rest, rest2, x, rfl, rfl, HSS, HS2, HT, HR, HR2, hx0, hx1, hXi, hYi, HAi, HCi, HRi, hbi⟩ := hrel
          by_cases hlt : done.length < 12
          · obtain ⟨p, rest', rfl⟩ : ∃ d r, rest = d :: r := by
              cases rest with
              | nil => have := HSS.out; simp at this; omega
              | cons d r => exact ⟨d, r, rfl⟩
            obtain ⟨e, rest2', rfl⟩ : ∃ d r, rest2 = d :: r := by
              cases rest2 with
              | nil => have := HS2.out.2; simp at this
              | cons d r => exact ⟨d, r, rfl⟩
            obtain ⟨hp0, hp1⟩ := HR.out p (by simp)
            obtain ⟨he0, he1⟩ := HR2.out e (by simp)
            have HR3 : Hid (fig32 rest') := fun e he => HR.out e (by simp [he])
            have HR4 : Hid (fig32 rest2') := fun e he => HR2.out e (by simp [he])
            have hc : wr.cell? ⟨w.heap.size + 3, 1 + done.length, none⟩ = some (.int .u64 p) := by
              rw [cell_of_row wr _ _ _ _ _ hXi]; exact intC_at false done rest' p
            have hc2 : wr.cell? ⟨g, 1 + done.length, none⟩ = some (.int .u64 e) := by
              rw [cell_of_row wr _ _ _ _ _ hYi, ← HS2.out.1]; exact intC_at b done2 rest2' e
            have hk1 : (0 : Int) ≤ (done.length : Int) ∧ (done.length : Int) < 12 := by omega
            have hW1 : IntKind.u64.wrap (x + p) = x + p := IntWalk.u64_in _ (by omega)
            have hW2 : IntKind.u64.wrap (x + p + e) = x + p + e := IntWalk.u64_in _ (by omega)
            have HXi := Lib.hid hXi
            have HYi := Lib.hid hYi
            clear hXi hYi
            go_wp2_with fail
            go_quiet (fail)
            clear hW1 hW2 hc hc2
            obtain ⟨v, hv⟩ : ∃ v, v = x + p + e := ⟨_, rfl⟩
            have hv0 : 0 ≤ v := by omega
            have hv1 : v < 8589934592 := by omega
            rw [← hv]
            have HV := Lib.hid hv
            clear hv
            have hfr2 : (wr.drewN nq).frozen? ⟨w.heap.size + 3, 1 + done.length, none⟩ = false := frozen_of_row (wr.drewN nq) _ _ _ _ HXi.out
            obtain ⟨cv, hcv⟩ : ∃ cv, (wr.drewN nq).cell? ⟨w.heap.size + 3, 1 + done.length, none⟩ = some cv := ⟨.int .u64 p, by
              show wr.cell? ⟨w.heap.size + 3, 1 + done.length, none⟩ = _
              rw [cell_of_row wr _ _ _ _ _ HXi.out]; exact intC_at false done rest' p⟩
            go_wp2
            go_roundw
            case rel =>
              refine ⟨done ++ [v % 4294967296], done2 ++ [e], rest', rest2', v / 4294967296, ?_, rfl, ?_, ?_, ?_, HR3, HR4, by omega, by omega, ?_, ?_, ?_, ?_, ?_, ?_⟩
              · rw [List.length_append]; go_num
              · show (done ++ [v % 4294967296]).length + rest'.length = 12
                have := HSS.out
                rw [List.length_append]; simp at this ⊢; omega
              · have := HS2.out
                exact ⟨by simp [this.1], by simpa using this.2⟩
              · show addL (digs 12 S) (digs 12 M) 0 = (done ++ [v % 4294967296]) ++ addL rest' rest2' (v / 4294967296)
                rw [HT.out, addL, HV.out]; simp
              · have h1 : (wr.drewN nq).heap[w.heap.size + 3]? = _ := HXi.out
                have := heap_setCell_same (wr.drewN nq) (w.heap.size + 3) (1 + done.length) _ _ (.int .u64 (v % 4294967296)) h1
                rw [intC_set] at this
                exact this
              · rw [heap_setCell_other _ _ _ _ (by first | (simp; done) | (simp; omega))]
                have := HYi.out
                rw [List.append_assoc]
                exact this
              · show ((wr.drewN nq).setCell _ _).heap[w.heap.size]? = _
                rw [heap_setCell_other _ _ _ _ (by first | (simp; done) | (simp; omega))]; exact HAi.out
              · show ((wr.drewN nq).setCell _ _).heap[w.heap.size + 1]? = _
                rw [heap_setCell_other _ _ _ _ (by first | (simp; done) | (simp; omega))]; exact HCi.out
              · show ((wr.drewN nq).setCell _ _).heap[w.heap.size + 2]? = _
                rw [heap_setCell_other _ _ _ _ (by simp)]; exact HRi.out
              · exact (hbi.trans (⟨rfl, rfl, rfl, Nat.le_refl _, fun _ _ => rfl⟩ : Below w.heap.size wr (wr.drewN nq))).setCell (by simp; omega) _
            case measure => simp [intOf]; omega
          · have hr0 : rest = [] := by
              cases rest with
              | nil => rfl
              | cons d r => have := HSS.out; simp at this; omega
            subst hr0
            have hr1 : rest2 = [] := List.eq_nil_of_length_eq_zero HS2.out.2
            subst hr1
            have hdone : done = digs 12 (S + M) := by
              have := HT.out
              rw [addL_digs, Int.add_zero] at this
              simpa [addL] using this.symm
            rw [List.append_nil, hdone] at hXi
            have HDN := Lib.hid hdone
            clear hdone
            go_wp2
            go_roundw
            case rel =>
              refine ⟨k + 1, by go_num, by omega, HAi.out, HCi.out, ⟨cs0, HRi.out, hcs0⟩, ?_, hbi⟩
              have e : S + M = (if 0 < k + 1 then n * (m % 4294967296) else 0) + (if 1 < k + 1 then n * (m / 4294967296 % 4294967296) * 4294967296 else 0) := by
                rw [HS.out, HM.out, HN.out, HD.out]
                obtain rfl | rfl : k = 0 ∨ k = 1 := by omega
                · simp
                · simp
              rw [← e]; exact hXi
            case measure => simp [intOf]; omega
    · obtain rfl : k = 2 := by omega
      have hS : (if 0 < 2 then n * (m % 4294967296) else 0) + (if 1 < 2 then n * (m / 4294967296 % 4294967296) * 4294967296 else 0) = n * (m % 4294967296) + n * (m / 4294967296 % 4294967296) * 4294967296 := by simp
      rw [hS] at hX
      clear hS
      obtain ⟨R, hR⟩ : ∃ R, R = n * (m % 4294967296) + n * (m / 4294967296 % 4294967296) * 4294967296 := ⟨_, rfl⟩
      rw [← hR] at hX
      have HRR := Lib.hid hR
      clear hR
      have hcA : wr.cell? ⟨w.heap.size, 0, none⟩ = some (.bool b) := by rw [cell_of_row wr _ _ _ _ _ hblk]; rfl
      have hcC : wr.cell? ⟨w.heap.size + 1, 0, none⟩ = some (.bool b2) := by rw [cell_of_row wr _ _ _ _ _ hblk2, HC.out]; simp [intC]
      have hcX : wr.cell? ⟨w.heap.size + 3, 0, none⟩ = some (.bool false) := by rw [cell_of_row wr _ _ _ _ _ hX]; simp [intC]
      have hfX : wr.frozen? ⟨w.heap.size + 3, 0, none⟩ = false := frozen_of_row wr _ _ _ _ hX
      have HX := Lib.hid hX
      have HRes := Lib.hid hres
      have HCS := Lib.hid hcs0
      clear hblk hblk2 hX hres hcs0
      obtain ⟨sg, hsg⟩ : ∃ sg, sg = !(b == b2) := ⟨_, rfl⟩
      have h1 : (wr.setCell ⟨w.heap.size + 3, 0, none⟩ (.bool !(b == b2))).heap[w.heap.size + 3]? = some (.cells (intC sg (digs 12 R)) 69 (0, 0)) := by
        have := heap_setCell_same wr (w.heap.size + 3) 0 _ _ (.bool !(b == b2)) HX.out
        rw [intC_sign] at this
        rw [hsg]; exact this
      have h2 : (wr.setCell ⟨w.heap.size + 3, 0, none⟩ (.bool !(b == b2))).heap[w.heap.size + 2]? = some (.cells cs0 69 (0, 0)) := by
        rw [heap_setCell_other _ _ _ _ (by simp)]; exact HRes.out
      have hsz : (intC sg (digs 12 R)).size = 13 := big_size _ _
      have HSZ := Lib.hid hsz
      have HSG := Lib.hid hsg
      have hbel2 : Below w.heap.size w (wr.setCell ⟨w.heap.size + 3, 0, none⟩ (.bool !(b == b2))) := hbel.setCell (by simp) _
      clear hsz hsg
      go_wp2_with (first
        | (with_reducible refine wpList_load_row rfl 69 _ rfl (w.heap.size + 3) rfl 69 _ (0, 0) _ h1 Tryd.underlying69 rfl (by rw [HSZ.out]; exact Tryd.info48) ?_)
        | (with_reducible refine wpList_store_mid rfl 69 _ _ rfl (w.heap.size + 2) 0 (intC sg (digs 12 R)) rfl rfl (by rw [HSZ.out, ← HCS.out]; exact there_whole h2) (by rw [HSZ.out]; exact Tryd.info48) (intC_one _ _) ?_))
      refine bodyPost_ret (v := .agg (intC sg (digs 12 R))) (results_cell_row (p := 4) (ty := 69) Tryd.results68 _ _ (w.heap.size + 2) 69 _ (0, 0) _ rfl (setCells_whole h2 (by rw [HSZ.out, HCS.out])) Tryd.underlying69 rfl (by rw [HSZ.out]; exact Tryd.info48)) rfl ⟨?_, ?_⟩
      · rw [HSG.out, HRR.out]; cases b <;> cases b2 <;> rfl
      · exact below_setCells (by omega) _ _ hbel2
end Go.Proofs.YtokfkckfclnoaaaDoor
