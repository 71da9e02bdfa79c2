/- The document's whole numbers of twelve figures of 32 bits: which is the smaller size. -/
import Derived.Test.YtokfkckfclnoaaaDoorDecRefInt
namespace Go.Proofs.YtokfkckfclnoaaaDoor
open Go.RowKit

/-- What figures tell, the lowest first. -/
def valL : List Int → Int
  | [] => 0
  | d :: r => d + 4294967296 * valL r
def wide : Nat → Int
  | 0 => 1
  | k + 1 => 4294967296 * wide k
theorem wide_pos (k : Nat) : 0 < wide k := by
  induction k with
  | zero => decide
  | succ k ih => simp only [wide]; omega
theorem valL_bounds (l : List Int) (h : fig32 l) : 0 ≤ valL l ∧ valL l < wide l.length := by
  induction l with
  | nil => exact ⟨Int.le_refl _, by decide⟩
  | cons d r ih =>
    obtain ⟨h0, h1⟩ := h d (by simp)
    obtain ⟨i0, i1⟩ := ih (fun e he => h e (by simp [he]))
    simp only [valL, List.length_cons, wide]
    omega
theorem valL_append (a b : List Int) : valL (a ++ b) = valL a + wide a.length * valL b := by
  induction a with
  | nil => simp [valL, wide]
  | cons d r ih => simp only [List.cons_append, valL, ih, List.length_cons, wide, Int.mul_add, Int.mul_assoc]; omega
theorem valL_digs (k : Nat) (n : Int) : valL (digs k n) = n % wide k := by
  induction k generalizing n with
  | zero => simp [digs, valL, wide]
  | succ k ih =>
    simp only [digs, valL, ih, wide]
    have h1 := Int.emod_def n (4294967296 * wide k)
    have h2 := Int.emod_def (n / 4294967296) (wide k)
    rw [Int.ediv_ediv_of_nonneg (by omega)] at h2
    rw [h1, h2, Int.mul_sub, Int.mul_assoc]
    omega
theorem fig32_append {a b : List Int} (h : fig32 (a ++ b)) : fig32 a ∧ fig32 b := ⟨fun d hd => h d (by simp [hd]), fun d hd => h d (by simp [hd])⟩
/-- Where two rows part first, from above, they part as numbers. -/
theorem valL_parts (a b t : List Int) (d e : Int) (hl : a.length = b.length) (ha : fig32 (a ++ d :: t)) (hb : fig32 (b ++ e :: t)) (hde : d < e) : valL (a ++ d :: t) < valL (b ++ e :: t) := by
  have ba := valL_bounds a (fig32_append ha).1
  have bb := valL_bounds b (fig32_append hb).1
  rw [valL_append, valL_append, ← hl]
  rw [← hl] at bb
  simp only [valL, Int.mul_add]
  have hp := wide_pos a.length
  have : wide a.length * d + wide a.length ≤ wide a.length * e := by
    rw [show wide a.length * d + wide a.length = wide a.length * (d + 1) by rw [Int.mul_add, Int.mul_one]]
    exact Int.mul_le_mul_of_nonneg_left (by omega) (Int.le_of_lt hp)
  omega

theorem snoc_of : ∀ l : List Int, l ≠ [] → ∃ c d, l = c ++ [d]
  | [], h => absurd rfl h
  | [d], _ => ⟨[], d, rfl⟩
  | a :: b :: r, _ => by
    obtain ⟨c, d, h⟩ := snoc_of (b :: r) (by simp)
    exact ⟨a :: c, d, by rw [h]; rfl⟩

set_option maxHeartbeats 400000 in
theorem less_any (b b2 : Bool) (l r : List Int) (w : World) (hl : l.length = 12) (hr : r.length = 12) (hf : fig32 l) (hg : fig32 r) :
    Calls Tryd.prog 59 #[.agg (intC b l), .agg (intC b2 r)] w fun e w' => e = .returned (.bool (decide (valL l < valL r))) ∧ Below w.heap.size w w' := by
  have HF := Lib.hid hf
  have HG := Lib.hid hg
  have HL := Lib.hid hl
  have HLR := Lib.hid hr
  clear hf hg hl hr
  go_enter Tryd.func59, Tryd.ntmps59
  go_wp2
  go_loopw [5] (fun i wr => ∃ (k : Nat) (a a2 t : List Int), i = .int .i64 ((k : Int) - 1) ∧ Hid (a.length = k) ∧ Hid (a2.length = k) ∧ k ≤ 12 ∧ Hid (l = a ++ t) ∧ Hid (r = a2 ++ t) ∧ wr.heap[w.heap.size]? = some (.cells (intC b l) 69 (0, 0)) ∧ wr.heap[w.heap.size + 1]? = some (.cells (intC b2 r) 69 (0, 0)) ∧ Below w.heap.size w wr) (fun i _ => (intOf i + 1).toNat)
  case atStart =>
    exact ⟨12, l, r, [], rfl, HL.out, HLR.out, Nat.le_refl _, (List.append_nil _).symm, (List.append_nil _).symm, heap_alloc2_old _ _ _, heap_alloc2_new _ _ _, ((Below.refl _ _).alloc (Nat.le_refl _) _).alloc (by simp) _⟩
  case round =>
    obtain ⟨k, a, a2, t, rfl, HA, HA2, hk, HT, HT2, hblk, hblk2, hbel⟩ := hrel
    cases k with
    | zero =>
      have h0 : a = [] := List.eq_nil_of_length_eq_zero HA.out
      have h1 : a2 = [] := List.eq_nil_of_length_eq_zero HA2.out
      have HE : Hid (decide (valL l < valL r) = false) := by
        show decide (valL l < valL r) = false
        rw [HT.out, HT2.out, h0, h1]; simp
      clear h0 h1 hblk hblk2
      go_wp2
      go_ret
      rw [HE.out]
      exact ⟨rfl, hbel⟩
    | succ j =>
      have hj : ((j + 1 : Nat) : Int) - 1 = (j : Int) := by omega
      rw [hj]
      clear hj
      obtain ⟨c, d, rfl⟩ := snoc_of a (by intro h; have := HA.out; rw [h] at this; simp at this)
      obtain ⟨c2, d2, rfl⟩ := snoc_of a2 (by intro h; have := HA2.out; rw [h] at this; simp at this)
      have HC : Hid (c.length = j) := by show c.length = j; have := HA.out; simpa using this
      have HC2 : Hid (c2.length = j) := by show c2.length = j; have := HA2.out; simpa using this
      have HL1 : Hid (l = c ++ d :: t) := by show l = c ++ d :: t; have := HT.out; simpa using this
      have HL2 : Hid (r = c2 ++ d2 :: t) := by show r = c2 ++ d2 :: t; have := HT2.out; simpa using this
      have hc : wr.cell? ⟨w.heap.size, 1 + j, none⟩ = some (.int .u64 d) := by
        rw [cell_of_row wr _ _ _ _ _ hblk, HL1.out, ← HC.out]; exact intC_at b c t d
      have hc2 : wr.cell? ⟨w.heap.size + 1, 1 + j, none⟩ = some (.int .u64 d2) := by
        rw [cell_of_row wr _ _ _ _ _ hblk2, HL2.out, ← HC2.out]; exact intC_at b2 c2 t d2
      have hk0 : (0 : Int) ≤ (j : Int) ∧ (j : Int) < 12 := by omega
      have HB := Lib.hid hblk
      have HB2 := Lib.hid hblk2
      clear hblk hblk2
      by_cases hne : d = d2
      · subst hne
        have heq : (d != d) = false := by simp
        go_wp2_with fail
        go_quiet (fail)
        go_wp2
        go_roundw
        case rel =>
          exact ⟨j, c, c2, d :: t, by go_num, HC, HC2, by omega, HL1, HL2, HB.out, HB2.out, refBelow_draws hbel _⟩
        case measure => simp only [intOf]; omega
      · have heq : (d != d2) = true := by simpa using hne
        have HD : Hid (decide (valL l < valL r) = decide (d < d2)) := by
          show decide (valL l < valL r) = decide (d < d2)
          have hA := HF.out
          have hB := HG.out
          rw [HL1.out] at hA
          rw [HL2.out] at hB
          rw [HL1.out, HL2.out]
          by_cases hlt : d < d2
          · rw [decide_eq_true hlt, decide_eq_true (valL_parts c c2 t d d2 (by rw [HC.out, HC2.out]) hA hB hlt)]
          · have := valL_parts c2 c t d2 d (by rw [HC.out, HC2.out]) hB hA (by omega)
            rw [decide_eq_false hlt, decide_eq_false (by omega)]
        go_wp2_with fail
        go_quiet (fail)
        go_wp2_with fail
        go_quiet (fail)
        go_wp2
        go_ret
        rw [HD.out]
        exact ⟨rfl, refBelow_draws (refBelow_draws hbel _) _⟩
end Go.Proofs.YtokfkckfclnoaaaDoor
