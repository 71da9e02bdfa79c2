/- Packed texts: DecRefInt, DecRefLess. What each of them proves stands above its theorems; the conditions stand in these. -/
import Derived.BigQuiet
import Derived.Deep.MidRow
import Derived.Deep.QuietTactic
import Derived.Laws.Rows
import Derived.Lib.Hide
import Derived.Test.YtbodnhpjfdnjfaaGreatDoorProg
import Derived.WalkKit
import Derived.WalkLawsBesides
import Derived.WalkSpells
namespace Go.Proofs.YtbodnhpjfdnjfaaGreatDoor
open Go.RowKit

/-- The cells of such a number: whether it is below 0, and its figures. -/
def intC (b : Bool) (l : List Int) : Array Value := (Value.bool b :: l.map (Value.int .u64)).toArray
theorem refBelow_draws {B : Nat} {a w : World} (h : Below B a w) (n : Nat) : Below B a (w.drewN n) :=
  h.trans (⟨rfl, rfl, rfl, Nat.le_refl _, fun _ _ => rfl⟩ : Below B w (w.drewN n))
/-- Each figure is one of 32 bits. -/
def fig32 (l : List Int) : Prop := ∀ d ∈ l, 0 ≤ d ∧ d ≤ 4294967295
theorem intC_size (b : Bool) (l : List Int) : (intC b l).size = l.length + 1 := by simp [intC]
theorem intC_at (b : Bool) (done rest : List Int) (d : Int) : (intC b (done ++ d :: rest))[1 + done.length]? = some (.int .u64 d) := by
  simp [intC, Nat.add_comm]
theorem intC_set (b : Bool) (done rest : List Int) (d e : Int) : (intC b (done ++ d :: rest)).setIfInBounds (1 + done.length) (.int .u64 e) = intC b ((done ++ [e]) ++ rest) := by
  apply Array.toList_inj.1
  simp [intC, Nat.add_comm]
theorem Tryz.info48 : (Tryz.prog.info? 119).map (·.size) = some 13 := by kernel_rfl

/-- A block written over whole. -/
theorem setCells_gen (g : Nat) (t : TypeId) : ∀ (vs pre old : List Value) (w : World), w.heap[g]? = some (.cells (pre ++ old).toArray t (0, 0)) → old.length = vs.length →
    (w.setCells g pre.length vs).heap[g]? = some (.cells (pre ++ vs).toArray t (0, 0))
  | [], pre, [], w, h, _ => h
  | v :: vs, pre, d :: old, w, h, hl => by
    have h2 := heap_setCell_same w g pre.length _ t v h
    have e : (pre ++ d :: old).toArray.setIfInBounds pre.length v = ((pre ++ [v]) ++ old).toArray := by
      apply Array.toList_inj.1; simp
    rw [e] at h2
    have h3 := setCells_gen g t vs (pre ++ [v]) old _ h2 (by simpa using hl)
    rw [List.length_append] at h3
    rw [World.setCells]
    simpa using h3
theorem setCells_whole {g : Nat} {t : TypeId} {w : World} {cs vs : Array Value} (h : w.heap[g]? = some (.cells cs t (0, 0))) (hs : vs.size = cs.size) : (w.setCells g 0 vs.toList).heap[g]? = some (.cells vs t (0, 0)) := by
  have := setCells_gen g t vs.toList [] cs.toList w (by simpa using h) (by simp [hs])
  simpa using this
theorem there_whole {g : Nat} {t : TypeId} {w : World} {cs : Array Value} (h : w.heap[g]? = some (.cells cs t (0, 0))) : w.there g 0 cs.size := fun j hj => by
  rw [Nat.zero_add, cell_of_row w g j cs t (0, 0) h, frozen_of_row w g j cs t h]
  simp [hj]
theorem intC_one (b : Bool) (l : List Int) : (intC b l).all (·.oneCell') = true := by
  rw [Array.all_eq_true_iff_forall_mem]
  intro v hv
  simp only [intC, List.mem_toArray, List.mem_cons, List.mem_map] at hv
  rcases hv with rfl | ⟨d, _, rfl⟩ <;> rfl
theorem below_setCells {B g : Nat} (hB : B ≤ g) : ∀ (vs : List Value) (o : Nat) {a w : World}, Below B a w → Below B a (w.setCells g o vs)
  | [], _, _, _, h => h
  | v :: vs, o, _, _, h => below_setCells hB vs (o + 1) (h.setCell (p := ⟨g, o, none⟩) hB v)
/-- What 'times' makes of the figures. -/
def timesL : List Int → Int → Int → List Int
  | [], _, _ => []
  | d :: r, by_, c => (c + d * by_) % 4294967296 :: timesL r by_ ((c + d * by_) / 4294967296)
/-- The k lowest figures of 32 bits of a whole number. -/
def digs : Nat → Int → List Int
  | 0, _ => []
  | k + 1, n => n % 4294967296 :: digs k (n / 4294967296)
theorem digs_length (k : Nat) (n : Int) : (digs k n).length = k := by
  induction k generalizing n with
  | zero => rfl
  | succ k ih => simp [digs, ih]
theorem digs_fig (k : Nat) (n : Int) : fig32 (digs k n) := by
  induction k generalizing n with
  | zero => intro d h; cases h
  | succ k ih =>
    intro d h
    simp only [digs, List.mem_cons] at h
    rcases h with rfl | h
    · omega
    · exact ih _ d h
theorem timesL_digs (k : Nat) (n y c : Int) : timesL (digs k n) y c = digs k (n * y + c) := by
  induction k generalizing n c with
  | zero => rfl
  | succ k ih =>
    have hn : n = 4294967296 * (n / 4294967296) + n % 4294967296 := by omega
    have e : n * y + c = (c + n % 4294967296 * y) + n / 4294967296 * y * 4294967296 := by
      conv => lhs; rw [hn]
      rw [Int.add_mul, Int.mul_comm 4294967296 (n / 4294967296), Int.mul_assoc, Int.mul_comm 4294967296 y, ← Int.mul_assoc]; omega
    simp only [digs, timesL]
    rw [ih, e, Int.add_mul_emod_self_right, Int.add_mul_ediv_right _ _ (by omega)]
    congr 2
    omega
theorem timesL_length (l : List Int) (y c : Int) : (timesL l y c).length = l.length := by
  induction l generalizing c with
  | nil => rfl
  | cons d r ih => simp [timesL, ih]

set_option maxHeartbeats 400000 in
theorem times_any (b : Bool) (l : List Int) (y m : Int) (w : World) (hl : l.length = 12) (hf : fig32 l) (hy0 : 0 ≤ y) (hy1 : y ≤ 4294967295) (hm0 : 0 ≤ m) (hm1 : m ≤ 4294967295) :
    Calls Tryz.prog 154 #[.agg (intC b l), .int .u64 y, .int .u64 m] w fun e w' => e = .returned (.agg (intC b (timesL l y m))) ∧ Below w.heap.size w w' := by
  have HF := Lib.hid hf
  have HL := Lib.hid hl
  clear hf hl
  go_enter Tryz.func154, Tryz.ntmps154
  go_wp2
  go_loopw [7, 8] (fun c i wr => ∃ (done rest : List Int) (x : Int), i = .int .i64 done.length ∧ c = .int .u64 x ∧ Hid (done.length + rest.length = 12) ∧ Hid (timesL l y m = done ++ timesL rest y x) ∧ Hid (fig32 rest) ∧ 0 ≤ x ∧ x ≤ 4294967295 ∧ wr.heap[w.heap.size]? = some (.cells (intC b (done ++ rest)) 119 (0, 0)) ∧ (∃ cs0 : Array Value, wr.heap[w.heap.size + 1]? = some (.cells cs0 119 (0, 0)) ∧ cs0.size = 13) ∧ Below w.heap.size w wr) (fun _ i _ => 12 - (RowKit.intOf i).toNat)
  case atStart =>
    exact ⟨[], l, m, rfl, rfl, by show ([] : List Int).length + l.length = 12; rw [HL.out]; rfl, rfl, HF.out, hm0, hm1, heap_alloc2_old _ _ _, ⟨_, heap_alloc2_new _ _ _, rfl⟩, ((Below.refl _ _).alloc (Nat.le_refl _) _).alloc (by simp) _⟩
  case round =>
    obtain ⟨done, rest, x, rfl, rfl, HS, HT, HR, hx0, hx1, hblk, ⟨cs0, hres, hcs0⟩, hbel⟩ := hrel
    by_cases hlt : done.length < 12
    · obtain ⟨d, rest', rfl⟩ : ∃ d r, rest = d :: r := by
        cases rest with
        | nil => have := HS.out; simp at this; omega
        | cons d r => exact ⟨d, r, rfl⟩
      have hd := HR.out d (by simp)
      have HR2 : Hid (fig32 rest') := fun e he => HR.out e (by simp [he])
      obtain ⟨hd0, hd1⟩ := hd
      obtain ⟨q, hq⟩ : ∃ q, d * y = q := ⟨_, rfl⟩
      have hq0 : 0 ≤ q := by rw [← hq]; exact Int.mul_nonneg hd0 hy0
      have hq1 : q ≤ 18446744065119617025 := by
        rw [← hq]
        exact Int.le_trans (Int.mul_le_mul_of_nonneg_right hd1 hy0) (by omega)
      have hc : wr.cell? ⟨w.heap.size, 1 + done.length, none⟩ = some (.int .u64 d) := by
        rw [cell_of_row wr _ _ _ _ _ hblk]; exact intC_at b done rest' d
      have hfr : wr.frozen? ⟨w.heap.size, 1 + done.length, none⟩ = false := frozen_of_row wr _ _ _ _ hblk
      have HB := Lib.hid hblk
      clear hblk
      have HQ := Lib.hid hq
      go_wp2
      go_roundw
      case rel =>
        refine ⟨done ++ [(x + q) % 4294967296], rest', (x + q) / 4294967296, ?_, rfl, ?_, ?_, HR2, by omega, by omega, ?_, ?_, ?_⟩
        · rw [List.length_append]; go_num
        · show (done ++ [(x + q) % 4294967296]).length + rest'.length = 12
          have := HS.out
          rw [List.length_append]; simp at this ⊢; omega
        · show timesL l y m = (done ++ [(x + q) % 4294967296]) ++ timesL rest' y ((x + q) / 4294967296)
          rw [HT.out, timesL, HQ.out]; simp
        · have := heap_setCell_same wr w.heap.size (1 + done.length) _ _ (.int .u64 ((x + q) % 4294967296)) HB.out
          rw [intC_set] at this
          exact this
        · exact ⟨cs0, (heap_setCell_other wr _ _ _ (by simp)).trans hres, hcs0⟩
        · exact hbel.setCell (Nat.le_refl _) _
      case measure => simp [RowKit.intOf]; omega
    · have hr0 : rest = [] := by
        cases rest with
        | nil => rfl
        | cons d r => have := HS.out; simp at this; omega
      subst hr0
      have hdone : done = timesL l y m := by have := HT.out; simpa [timesL] using this.symm
      rw [List.append_nil, hdone] at hblk
      have hsz : (intC b (timesL l y m)).size = 13 := by rw [intC_size, timesL_length, HL.out]
      have HSZ := Lib.hid hsz
      have HC := Lib.hid hcs0
      clear hsz hcs0 hdone
      go_wp2_with (first
        | (with_reducible refine wpList_load_row rfl 119 _ rfl w.heap.size rfl 119 _ (0, 0) _ hblk Tryz.underlying119 rfl (by rw [HSZ.out]; exact Tryz.info48) ?_)
        | (with_reducible refine wpList_store_mid rfl 119 _ _ rfl (w.heap.size + 1) 0 (intC b (timesL l y m)) rfl rfl (by rw [HSZ.out, ← HC.out]; exact there_whole hres) (by rw [HSZ.out]; exact Tryz.info48) (intC_one _ _) ?_))
      refine bodyPost_ret (v := .agg (intC b (timesL l y m))) (results_cell_row (p := 6) (ty := 119) Tryz.results154 _ _ (w.heap.size + 1) 119 _ (0, 0) _ rfl (setCells_whole hres (by rw [HSZ.out, HC.out])) Tryz.underlying119 rfl (by rw [HSZ.out]; exact Tryz.info48)) rfl ⟨rfl, ?_⟩
      exact below_setCells (Nat.le_succ _) _ _ hbel
/-- A whole number as the document lays it. -/
def big (b : Bool) (n : Int) : Value := .agg (intC b (digs 12 n))
theorem timesB (b : Bool) (n y m : Int) (w : World) (hy0 : 0 ≤ y) (hy1 : y ≤ 4294967295) (hm0 : 0 ≤ m) (hm1 : m ≤ 4294967295) :
    Calls Tryz.prog 154 #[big b n, .int .u64 y, .int .u64 m] w fun e w' => e = .returned (big b (n * y + m)) ∧ Below w.heap.size w w' :=
  (times_any b (digs 12 n) y m w (digs_length 12 n) (digs_fig 12 n) hy0 hy1 hm0 hm1).mono fun e w' h => ⟨h.1.trans (by rw [timesL_digs]; rfl), h.2⟩

/-- What 'minus' makes of two rows of figures. -/
def minusL : List Int → List Int → Int → List Int
  | a :: r, b :: s, c => (a + 4294967296 - b - c) % 4294967296 :: minusL r s (1 - (a + 4294967296 - b - c) / 4294967296)
  | _, _, _ => []
theorem minusL_digs (k : Nat) (n m c : Int) : minusL (digs k n) (digs k m) c = digs k (n - m - c) := by
  induction k generalizing n m c with
  | zero => rfl
  | succ k ih =>
    simp only [digs, minusL]
    rw [ih]
    congr 1
    · omega
    · congr 1; omega
theorem minusL_length (l r : List Int) (c : Int) (h : l.length = r.length) : (minusL l r c).length = l.length := by
  induction l generalizing r c with
  | nil => cases r <;> rfl
  | cons a l ih =>
    cases r with
    | nil => simp at h
    | cons b r => simp [minusL]; exact ih r _ (by simpa using h)

set_option maxHeartbeats 400000 in
theorem minus_any (b b2 : Bool) (l r : List Int) (w : World) (hl : l.length = 12) (hr : r.length = 12) (hf : fig32 l) (hg : fig32 r) :
    Calls Tryz.prog 107 #[.agg (intC b l), .agg (intC b2 r)] w fun e w' => e = .returned (.agg (intC b (minusL l r 0))) ∧ Below w.heap.size w w' := by
  have HF := Lib.hid hf
  have HG := Lib.hid hg
  have HL := Lib.hid hl
  have HLR := Lib.hid hr
  clear hf hg hl hr
  go_enter Tryz.func107, Tryz.ntmps107
  go_wp2
  go_loopw [5, 6] (fun c i wr => ∃ (done done2 rest rest2 : List Int) (x : Int), i = .int .i64 done.length ∧ c = .int .u64 x ∧ Hid (done.length + rest.length = 12) ∧ Hid (done2.length = done.length ∧ rest2.length = rest.length) ∧ Hid (minusL l r 0 = done ++ minusL rest rest2 x) ∧ Hid (fig32 rest) ∧ Hid (fig32 rest2) ∧ 0 ≤ x ∧ x ≤ 1 ∧ wr.heap[w.heap.size]? = some (.cells (intC b (done ++ rest)) 119 (0, 0)) ∧ wr.heap[w.heap.size + 1]? = some (.cells (intC b2 (done2 ++ rest2)) 119 (0, 0)) ∧ (∃ cs0 : Array Value, wr.heap[w.heap.size + 2]? = some (.cells cs0 119 (0, 0)) ∧ cs0.size = 13) ∧ Below w.heap.size w wr) (fun _ i _ => 12 - (RowKit.intOf i).toNat)
  case atStart =>
    refine ⟨[], [], l, r, 0, rfl, rfl, by show ([] : List Int).length + l.length = 12; rw [HL.out]; rfl, ⟨rfl, by rw [HL.out, HLR.out]⟩, rfl, HF.out, HG.out, by omega, by omega, ?_, ?_, ?_, ?_⟩
    · rw [heap_alloc_old _ _ (by simp; omega), heap_alloc2_old]; rfl
    · rw [heap_alloc_old _ _ (by simp), heap_alloc2_new]; rfl
    · exact ⟨_, (by rw [show w.heap.size + 2 = ((w.alloc (.cells (intC b l) 119)).alloc (.cells (intC b2 r) 119)).heap.size by simp]; exact heap_alloc_new _ _), rfl⟩
    · exact (((Below.refl _ _).alloc (Nat.le_refl _) _).alloc (by simp) _).alloc (by simp; omega) _
  case round =>
    obtain ⟨done, done2, rest, rest2, x, rfl, rfl, HS, HS2, HT, HR, HR2, hx0, hx1, hblk, hblk2, ⟨cs0, hres, hcs0⟩, hbel⟩ := hrel
    by_cases hlt : done.length < 12
    · obtain ⟨d, rest', rfl⟩ : ∃ d r, rest = d :: r := by
        cases rest with
        | nil => have := HS.out; simp at this; omega
        | cons d r => exact ⟨d, r, rfl⟩
      obtain ⟨e, rest2', rfl⟩ : ∃ d r, rest2 = d :: r := by
        cases rest2 with
        | nil => have := HS2.out.2; simp at this
        | cons d r => exact ⟨d, r, rfl⟩
      obtain ⟨hd0, hd1⟩ := HR.out d (by simp)
      obtain ⟨he0, he1⟩ := HR2.out e (by simp)
      have HR3 : Hid (fig32 rest') := fun e he => HR.out e (by simp [he])
      have HR4 : Hid (fig32 rest2') := fun e he => HR2.out e (by simp [he])
      have hc : wr.cell? ⟨w.heap.size, 1 + done.length, none⟩ = some (.int .u64 d) := by
        rw [cell_of_row wr _ _ _ _ _ hblk]; exact intC_at b done rest' d
      have hc2 : wr.cell? ⟨w.heap.size + 1, 1 + done.length, none⟩ = some (.int .u64 e) := by
        rw [cell_of_row wr _ _ _ _ _ hblk2, ← HS2.out.1]; exact intC_at b2 done2 rest2' e
      have hfr : wr.frozen? ⟨w.heap.size, 1 + done.length, none⟩ = false := frozen_of_row wr _ _ _ _ hblk
      have hk0 : (0 : Int) ≤ (done.length : Int) ∧ (done.length : Int) < 12 := by omega
      have hW1 : IntKind.u64.wrap (d + 4294967296) = d + 4294967296 := IntWalk.u64_in _ (by omega)
      have hW2 : IntKind.u64.wrap (d + 4294967296 - e) = d + 4294967296 - e := IntWalk.u64_in _ (by omega)
      have hW3 : IntKind.u64.wrap (d + 4294967296 - e - x) = d + 4294967296 - e - x := IntWalk.u64_in _ (by omega)
      have HB := Lib.hid hblk
      have HB2 := Lib.hid hblk2
      clear hblk hblk2
      go_wp2_with fail
      go_quiet (fail)
      clear hW1 hW2 hW3 hc hc2
      obtain ⟨v, hv⟩ : ∃ v, v = d + 4294967296 - e - x := ⟨_, rfl⟩
      have hv0 : 0 ≤ v := by omega
      have hv1 : v < 8589934592 := by omega
      rw [← hv]
      have HV := Lib.hid hv
      clear hv
      have hfr2 : (wr.drewN nq).frozen? ⟨w.heap.size, 1 + done.length, none⟩ = false := hfr
      obtain ⟨cv, hcv⟩ : ∃ cv, (wr.drewN nq).cell? ⟨w.heap.size, 1 + done.length, none⟩ = some cv := ⟨.int .u64 d, by
        show wr.cell? ⟨w.heap.size, 1 + done.length, none⟩ = _
        rw [cell_of_row wr _ _ _ _ _ HB.out]; exact intC_at b done rest' d⟩
      go_wp2
      go_roundw
      case rel =>
        refine ⟨done ++ [v % 4294967296], done2 ++ [e], rest', rest2', 1 - v / 4294967296, ?_, rfl, ?_, ?_, ?_, HR3, HR4, by omega, by omega, ?_, ?_, ?_, ?_⟩
        · rw [List.length_append]; go_num
        · show (done ++ [v % 4294967296]).length + rest'.length = 12
          have := HS.out
          rw [List.length_append]; simp at this ⊢; omega
        · have := HS2.out
          exact ⟨by simp [this.1], by simpa using this.2⟩
        · show minusL l r 0 = (done ++ [v % 4294967296]) ++ minusL rest' rest2' (1 - v / 4294967296)
          rw [HT.out, minusL, HV.out]; simp
        · have h1 : (wr.drewN nq).heap[w.heap.size]? = _ := HB.out
          have := heap_setCell_same (wr.drewN nq) w.heap.size (1 + done.length) _ _ (.int .u64 (v % 4294967296)) h1
          rw [intC_set] at this
          exact this
        · rw [heap_setCell_other _ _ _ _ (by simp)]
          have := HB2.out
          rw [List.append_assoc]
          exact this
        · exact ⟨cs0, (heap_setCell_other (wr.drewN nq) _ _ _ (by simp)).trans hres, hcs0⟩
        · exact (hbel.trans (⟨rfl, rfl, rfl, Nat.le_refl _, fun _ _ => rfl⟩ : Below w.heap.size wr (wr.drewN nq))).setCell (Nat.le_refl _) _
      case measure => simp [RowKit.intOf]; omega
    · have hr0 : rest = [] := by
        cases rest with
        | nil => rfl
        | cons d r => have := HS.out; simp at this; omega
      subst hr0
      have hr1 : rest2 = [] := List.eq_nil_of_length_eq_zero HS2.out.2
      subst hr1
      have hdone : done = minusL l r 0 := by have := HT.out; simpa [minusL] using this.symm
      rw [List.append_nil, hdone] at hblk
      have hsz : (intC b (minusL l r 0)).size = 13 := by rw [intC_size, minusL_length _ _ _ (by rw [HL.out, HLR.out]), HL.out]
      have HSZ := Lib.hid hsz
      have HC := Lib.hid hcs0
      clear hsz hcs0 hdone hblk2
      go_wp2_with (first
        | (with_reducible refine wpList_load_row rfl 119 _ rfl w.heap.size rfl 119 _ (0, 0) _ hblk Tryz.underlying119 rfl (by rw [HSZ.out]; exact Tryz.info48) ?_)
        | (with_reducible refine wpList_store_mid rfl 119 _ _ rfl (w.heap.size + 2) 0 (intC b (minusL l r 0)) rfl rfl (by rw [HSZ.out, ← HC.out]; exact there_whole hres) (by rw [HSZ.out]; exact Tryz.info48) (intC_one _ _) ?_))
      refine bodyPost_ret (v := .agg (intC b (minusL l r 0))) (results_cell_row (p := 4) (ty := 119) Tryz.results107 _ _ (w.heap.size + 2) 119 _ (0, 0) _ rfl (setCells_whole hres (by rw [HSZ.out, HC.out])) Tryz.underlying119 rfl (by rw [HSZ.out]; exact Tryz.info48)) rfl ⟨rfl, ?_⟩
      exact below_setCells (by omega) _ _ hbel
theorem minusB (b b2 : Bool) (n m : Int) (w : World) :
    Calls Tryz.prog 107 #[big b n, big b2 m] w fun e w' => e = .returned (big b (n - m)) ∧ Below w.heap.size w w' :=
  (minus_any b b2 (digs 12 n) (digs 12 m) w (digs_length 12 n) (digs_length 12 m) (digs_fig 12 n) (digs_fig 12 m)).mono fun e w' h => ⟨h.1.trans (by rw [minusL_digs, Int.sub_zero]; rfl), h.2⟩
end Go.Proofs.YtbodnhpjfdnjfaaGreatDoor
namespace Go.Proofs.YtbodnhpjfdnjfaaGreatDoor
open Go.RowKit

/-- What figures tell, the lowest first. -/
def valL : List Int → Int
  | [] => 0
  | d :: r => d + 4294967296 * valL r
def wide : Nat → Int
  | 0 => 1
  | k + 1 => 4294967296 * wide k
theorem wide_pos (k : Nat) : 0 < wide k := by
  induction k with
  | zero => decide
  | succ k ih => simp only [wide]; omega
theorem valL_bounds (l : List Int) (h : fig32 l) : 0 ≤ valL l ∧ valL l < wide l.length := by
  induction l with
  | nil => exact ⟨Int.le_refl _, by decide⟩
  | cons d r ih =>
    obtain ⟨h0, h1⟩ := h d (by simp)
    obtain ⟨i0, i1⟩ := ih (fun e he => h e (by simp [he]))
    simp only [valL, List.length_cons, wide]
    omega
theorem valL_append (a b : List Int) : valL (a ++ b) = valL a + wide a.length * valL b := by
  induction a with
  | nil => simp [valL, wide]
  | cons d r ih => simp only [List.cons_append, valL, ih, List.length_cons, wide, Int.mul_add, Int.mul_assoc]; omega
theorem valL_digs (k : Nat) (n : Int) : valL (digs k n) = n % wide k := by
  induction k generalizing n with
  | zero => simp [digs, valL, wide]
  | succ k ih =>
    simp only [digs, valL, ih, wide]
    have h1 := Int.emod_def n (4294967296 * wide k)
    have h2 := Int.emod_def (n / 4294967296) (wide k)
    rw [Int.ediv_ediv_of_nonneg (by omega)] at h2
    rw [h1, h2, Int.mul_sub, Int.mul_assoc]
    omega
theorem fig32_append {a b : List Int} (h : fig32 (a ++ b)) : fig32 a ∧ fig32 b := ⟨fun d hd => h d (by simp [hd]), fun d hd => h d (by simp [hd])⟩
/-- Where two rows part first, from above, they part as numbers. -/
theorem valL_parts (a b t : List Int) (d e : Int) (hl : a.length = b.length) (ha : fig32 (a ++ d :: t)) (hb : fig32 (b ++ e :: t)) (hde : d < e) : valL (a ++ d :: t) < valL (b ++ e :: t) := by
  have ba := valL_bounds a (fig32_append ha).1
  have bb := valL_bounds b (fig32_append hb).1
  rw [valL_append, valL_append, ← hl]
  rw [← hl] at bb
  simp only [valL, Int.mul_add]
  have hp := wide_pos a.length
  have : wide a.length * d + wide a.length ≤ wide a.length * e := by
    rw [show wide a.length * d + wide a.length = wide a.length * (d + 1) by rw [Int.mul_add, Int.mul_one]]
    exact Int.mul_le_mul_of_nonneg_left (by omega) (Int.le_of_lt hp)
  omega

theorem snoc_of : ∀ l : List Int, l ≠ [] → ∃ c d, l = c ++ [d]
  | [], h => absurd rfl h
  | [d], _ => ⟨[], d, rfl⟩
  | a :: b :: r, _ => by
    obtain ⟨c, d, h⟩ := snoc_of (b :: r) (by simp)
    exact ⟨a :: c, d, by rw [h]; rfl⟩

set_option maxHeartbeats 400000 in
theorem less_any (b b2 : Bool) (l r : List Int) (w : World) (hl : l.length = 12) (hr : r.length = 12) (hf : fig32 l) (hg : fig32 r) :
    Calls Tryz.prog 106 #[.agg (intC b l), .agg (intC b2 r)] w fun e w' => e = .returned (.bool (decide (valL l < valL r))) ∧ Below w.heap.size w w' := by
  have HF := Lib.hid hf
  have HG := Lib.hid hg
  have HL := Lib.hid hl
  have HLR := Lib.hid hr
  clear hf hg hl hr
  go_enter Tryz.func106, Tryz.ntmps106
  go_wp2
  go_loopw [5] (fun i wr => ∃ (k : Nat) (a a2 t : List Int), i = .int .i64 ((k : Int) - 1) ∧ Hid (a.length = k) ∧ Hid (a2.length = k) ∧ k ≤ 12 ∧ Hid (l = a ++ t) ∧ Hid (r = a2 ++ t) ∧ wr.heap[w.heap.size]? = some (.cells (intC b l) 119 (0, 0)) ∧ wr.heap[w.heap.size + 1]? = some (.cells (intC b2 r) 119 (0, 0)) ∧ Below w.heap.size w wr) (fun i _ => (RowKit.intOf i + 1).toNat)
  case atStart =>
    exact ⟨12, l, r, [], rfl, HL.out, HLR.out, Nat.le_refl _, (List.append_nil _).symm, (List.append_nil _).symm, heap_alloc2_old _ _ _, heap_alloc2_new _ _ _, ((Below.refl _ _).alloc (Nat.le_refl _) _).alloc (by simp) _⟩
  case round =>
    obtain ⟨k, a, a2, t, rfl, HA, HA2, hk, HT, HT2, hblk, hblk2, hbel⟩ := hrel
    cases k with
    | zero =>
      have h0 : a = [] := List.eq_nil_of_length_eq_zero HA.out
      have h1 : a2 = [] := List.eq_nil_of_length_eq_zero HA2.out
      have HE : Hid (decide (valL l < valL r) = false) := by
        show decide (valL l < valL r) = false
        rw [HT.out, HT2.out, h0, h1]; simp
      clear h0 h1 hblk hblk2
      go_wp2
      go_ret
      rw [HE.out]
      exact ⟨rfl, hbel⟩
    | succ j =>
      have hj : ((j + 1 : Nat) : Int) - 1 = (j : Int) := by omega
      rw [hj]
      clear hj
      obtain ⟨c, d, rfl⟩ := snoc_of a (by intro h; have := HA.out; rw [h] at this; simp at this)
      obtain ⟨c2, d2, rfl⟩ := snoc_of a2 (by intro h; have := HA2.out; rw [h] at this; simp at this)
      have HC : Hid (c.length = j) := by show c.length = j; have := HA.out; simpa using this
      have HC2 : Hid (c2.length = j) := by show c2.length = j; have := HA2.out; simpa using this
      have HL1 : Hid (l = c ++ d :: t) := by show l = c ++ d :: t; have := HT.out; simpa using this
      have HL2 : Hid (r = c2 ++ d2 :: t) := by show r = c2 ++ d2 :: t; have := HT2.out; simpa using this
      have hc : wr.cell? ⟨w.heap.size, 1 + j, none⟩ = some (.int .u64 d) := by
        rw [cell_of_row wr _ _ _ _ _ hblk, HL1.out, ← HC.out]; exact intC_at b c t d
      have hc2 : wr.cell? ⟨w.heap.size + 1, 1 + j, none⟩ = some (.int .u64 d2) := by
        rw [cell_of_row wr _ _ _ _ _ hblk2, HL2.out, ← HC2.out]; exact intC_at b2 c2 t d2
      have hk0 : (0 : Int) ≤ (j : Int) ∧ (j : Int) < 12 := by omega
      have HB := Lib.hid hblk
      have HB2 := Lib.hid hblk2
      clear hblk hblk2
      by_cases hne : d = d2
      · subst hne
        have heq : (d != d) = false := by simp
        go_wp2_with fail
        go_quiet (fail)
        go_wp2
        go_roundw
        case rel =>
          exact ⟨j, c, c2, d :: t, by go_num, HC, HC2, by omega, HL1, HL2, HB.out, HB2.out, refBelow_draws hbel _⟩
        case measure => simp only [RowKit.intOf]; omega
      · have heq : (d != d2) = true := by simpa using hne
        have HD : Hid (decide (valL l < valL r) = decide (d < d2)) := by
          show decide (valL l < valL r) = decide (d < d2)
          have hA := HF.out
          have hB := HG.out
          rw [HL1.out] at hA
          rw [HL2.out] at hB
          rw [HL1.out, HL2.out]
          by_cases hlt : d < d2
          · rw [decide_eq_true hlt, decide_eq_true (valL_parts c c2 t d d2 (by rw [HC.out, HC2.out]) hA hB hlt)]
          · have := valL_parts c2 c t d2 d (by rw [HC.out, HC2.out]) hB hA (by omega)
            rw [decide_eq_false hlt, decide_eq_false (by omega)]
        go_wp2_with fail
        go_quiet (fail)
        go_wp2_with fail
        go_quiet (fail)
        go_wp2
        go_ret
        rw [HD.out]
        exact ⟨rfl, refBelow_draws (refBelow_draws hbel _) _⟩
end Go.Proofs.YtbodnhpjfdnjfaaGreatDoor
