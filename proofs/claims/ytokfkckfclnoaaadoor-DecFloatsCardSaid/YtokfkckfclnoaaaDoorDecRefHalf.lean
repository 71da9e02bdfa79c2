/- The document's whole numbers of twelve figures of 32 bits: by two. -/
import Derived.Test.YtokfkckfclnoaaaDoorDecRefTimes2
namespace Go.Proofs.YtokfkckfclnoaaaDoor
open Go.RowKit

theorem digs_valL (l : List Int) (h : fig32 l) : digs l.length (valL l) = l := by
  induction l with
  | nil => rfl
  | cons d r ih =>
    obtain ⟨h0, h1⟩ := h d (by simp)
    have hr := ih (fun e he => h e (by simp [he]))
    simp only [valL, List.length_cons, digs]
    rw [show (d + 4294967296 * valL r) % 4294967296 = d by omega, show (d + 4294967296 * valL r) / 4294967296 = valL r by omega, hr]
theorem valL_of (l : List Int) (n : Int) (h : fig32 l) (hl : l.length = 12) (e : valL l = n) : l = digs 12 n := by
  rw [← e, ← hl, digs_valL l h]
theorem fig32_snoc {a : List Int} {d : Int} (h : fig32 (a ++ [d])) : fig32 a ∧ 0 ≤ d ∧ d ≤ 4294967295 := ⟨fun e he => h e (by simp [he]), h d (by simp)⟩

set_option maxHeartbeats 400000 in
theorem half_any (b : Bool) (l : List Int) (w : World) (hl : l.length = 12) (hf : fig32 l) :
    Calls Tryd.prog 74 #[.agg (intC b l)] w fun e w' => e = .returned (big b (valL l / 2)) ∧ Below w.heap.size w w' := by
  have HF := Lib.hid hf
  have HL := Lib.hid hl
  clear hf hl
  go_enter Tryd.func74, Tryd.ntmps74
  go_wp2
  go_loopw [3, 4] (fun c i wr => ∃ (k : Nat) (a t told : List Int) (x : Int), i = .int .i64 ((k : Int) - 1) ∧ c = .int .u64 x ∧ Hid (a.length = k) ∧ k ≤ 12 ∧ Hid (l = a ++ told) ∧ Hid (a.length + t.length = 12 ∧ t.length = told.length) ∧ Hid (fig32 a) ∧ Hid (fig32 t) ∧ Hid (valL t * 2 + x = valL told) ∧ 0 ≤ x ∧ x ≤ 1 ∧ wr.heap[w.heap.size]? = some (.cells (intC b (a ++ t)) 69 (0, 0)) ∧ (∃ cs0 : Array Value, wr.heap[w.heap.size + 1]? = some (.cells cs0 69 (0, 0)) ∧ cs0.size = 13) ∧ Below w.heap.size w wr) (fun _ i _ => (intOf i + 1).toNat)
  case atStart =>
    refine ⟨12, l, [], [], 0, rfl, rfl, HL.out, Nat.le_refl _, (List.append_nil _).symm, ⟨by rw [HL.out]; rfl, rfl⟩, HF.out, (fun d (hd : d ∈ []) => by cases hd), rfl, by omega, by omega, ?_, ⟨_, heap_alloc2_new _ _ _, rfl⟩, ((Below.refl _ _).alloc (Nat.le_refl _) _).alloc (by simp) _⟩
    rw [List.append_nil]; exact heap_alloc2_old _ _ _
  case round =>
    obtain ⟨k, a, t, told, x, rfl, rfl, HA, hk, HT, HS, HFa, HFt, HV, hx0, hx1, hblk, ⟨cs0, hres, hcs0⟩, hbel⟩ := hrel
    cases k with
    | zero =>
      have h0 : a = [] := List.eq_nil_of_length_eq_zero HA.out
      subst h0
      have e : [] ++ t = digs 12 (valL l / 2) := by
        have h1 := HV.out
        have h2 := HT.out
        rw [List.nil_append] at h2
        rw [List.nil_append]
        refine valL_of t _ HFt.out (by have := HS.out.1; simpa using this) ?_
        rw [h2]; omega
      rw [e] at hblk
      have hsz : (intC b (digs 12 (valL l / 2))).size = 13 := big_size _ _
      have HSZ := Lib.hid hsz
      have HC := Lib.hid hcs0
      have HE := Lib.hid e
      clear hsz hcs0 e
      go_wp2_with (first
        | (with_reducible refine wpList_load_row rfl 69 _ rfl w.heap.size rfl 69 _ (0, 0) _ hblk Tryd.underlying69 rfl (by rw [HSZ.out]; exact Tryd.info48) ?_)
        | (with_reducible refine wpList_store_mid rfl 69 _ _ rfl (w.heap.size + 1) 0 (intC b (digs 12 (valL l / 2))) rfl rfl (by rw [HSZ.out, ← HC.out]; exact there_whole hres) (by rw [HSZ.out]; exact Tryd.info48) (intC_one _ _) ?_))
      refine bodyPost_ret (v := .agg (intC b (digs 12 (valL l / 2)))) (results_cell_row (p := 2) (ty := 69) Tryd.results74 _ _ (w.heap.size + 1) 69 _ (0, 0) _ rfl (setCells_whole hres (by rw [HSZ.out, HC.out])) Tryd.underlying69 rfl (by rw [HSZ.out]; exact Tryd.info48)) rfl ⟨rfl, ?_⟩
      exact below_setCells (Nat.le_succ _) _ _ hbel
    | succ j =>
      have hj : ((j + 1 : Nat) : Int) - 1 = (j : Int) := by omega
      rw [hj]
      clear hj
      obtain ⟨c, d, rfl⟩ := snoc_of a (by intro h; have := HA.out; rw [h] at this; simp at this)
      have HC : Hid (c.length = j) := by show c.length = j; have := HA.out; simpa using this
      obtain ⟨hfc, hd0, hd1⟩ := fig32_snoc HFa.out
      have HFc := Lib.hid hfc
      clear hfc
      have hB : wr.heap[w.heap.size]? = some (.cells (intC b (c ++ d :: t)) 69 (0, 0)) := by rw [hblk]; simp
      have hc : wr.cell? ⟨w.heap.size, 1 + j, none⟩ = some (.int .u64 d) := by
        rw [cell_of_row wr _ _ _ _ _ hB, ← HC.out]; exact intC_at b c t d
      have hfr : wr.frozen? ⟨w.heap.size, 1 + j, none⟩ = false := frozen_of_row wr _ _ _ _ hB
      have hk0 : (0 : Int) ≤ (j : Int) ∧ (j : Int) < 12 := by omega
      have HB := Lib.hid hB
      clear hB hblk
      go_wp2
      go_roundw
      case rel =>
        refine ⟨j, c, (d + x * 4294967296) / 2 :: t, d :: told, (d + x * 4294967296) % 2, by go_num, rfl, HC, by omega, ?_, ?_, HFc, ?_, ?_, by omega, by omega, ?_, ⟨cs0, ?_, hcs0⟩, ?_⟩
        · show l = c ++ d :: told
          have := HT.out; simpa using this
        · have := HS.out
          exact ⟨by have h := this.1; simp at h ⊢; omega, by have h := this.2; simp [h]⟩
        · intro e he
          rcases List.mem_cons.1 he with rfl | h
          · exact ⟨by omega, by omega⟩
          · exact HFt.out e h
        · show valL ((d + x * 4294967296) / 2 :: t) * 2 + (d + x * 4294967296) % 2 = valL (d :: told)
          have := HV.out
          simp only [valL]; omega
        · have h1 := heap_setCell_same wr w.heap.size (1 + c.length) _ _ (.int .u64 ((d + x * 4294967296) / 2)) HB.out
          rw [intC_set, HC.out] at h1
          rw [List.append_assoc] at h1
          exact h1
        · exact (heap_setCell_other wr _ _ _ (by simp)).trans hres
        · exact hbel.setCell (Nat.le_refl _) _
      case measure => simp only [intOf]; omega
end Go.Proofs.YtokfkckfclnoaaaDoor
