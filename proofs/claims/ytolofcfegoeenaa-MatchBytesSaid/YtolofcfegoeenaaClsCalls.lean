/- Spans, single bytes, and how many bytes a class has. No condition. -/
import Derived.Test.YtolofcfegoeenaaClsLeaf
namespace Go.Proofs.Ytolofcfegoeenaa
open Go.RowKit

/-- A block of four cells written over. -/
theorem set_four {w : World} {g : Nat} {t : TypeId} {p q r s : Value} (a b c d : Value) (h : w.heap[g]? = some (.cells #[p, q, r, s] t (0, 0))) :
    ((((w.setCell ⟨g, 0, none⟩ a).setCell ⟨g, 1, none⟩ b).setCell ⟨g, 2, none⟩ c).setCell ⟨g, 3, none⟩ d).heap[g]? = some (.cells #[a, b, c, d] t (0, 0)) := by
  have h1 := heap_setCell_same w g 0 _ _ a h
  have h2 := heap_setCell_same _ g 1 _ _ b h1
  have h3 := heap_setCell_same _ g 2 _ _ c h2
  exact heap_setCell_same _ g 3 _ _ d h3
theorem below_four {B g : Nat} {a w : World} (h : Below B a w) (hB : B ≤ g) (p q r s : Value) : Below B a ((((w.setCell ⟨g, 0, none⟩ p).setCell ⟨g, 1, none⟩ q).setCell ⟨g, 2, none⟩ r).setCell ⟨g, 3, none⟩ s) :=
  (((h.setCell (p := ⟨g, 0, none⟩) hB _).setCell (p := ⟨g, 1, none⟩) hB _).setCell (p := ⟨g, 2, none⟩) hB _).setCell (p := ⟨g, 3, none⟩) hB _
theorem size_four (w : World) (g : Nat) (p q r s : Value) : ((((w.setCell ⟨g, 0, none⟩ p).setCell ⟨g, 1, none⟩ q).setCell ⟨g, 2, none⟩ r).setCell ⟨g, 3, none⟩ s).heap.size = w.heap.size := by simp
theorem Try.infoCls : (Try.prog.info? 54).map (·.size) = some 4 := by kernel_rfl

theorem res_four {w : World} {g : Nat} {t : TypeId} {p q r s : Value} (h : w.heap[g]? = some (.cells #[p, q, r, s] t (0, 0))) :
    (w.cell? ⟨g, 0, none⟩ = some p ∧ w.cell? ⟨g, 1, none⟩ = some q ∧ w.cell? ⟨g, 2, none⟩ = some r ∧ w.cell? ⟨g, 3, none⟩ = some s) ∧
    (w.frozen? ⟨g, 0, none⟩ = false ∧ w.frozen? ⟨g, 1, none⟩ = false ∧ w.frozen? ⟨g, 2, none⟩ = false ∧ w.frozen? ⟨g, 3, none⟩ = false) :=
  ⟨⟨cell_of_row w g 0 _ _ _ h, cell_of_row w g 1 _ _ _ h, cell_of_row w g 2 _ _ _ h, cell_of_row w g 3 _ _ _ h⟩,
    frozen_of_row w g 0 _ _ h, frozen_of_row w g 1 _ _ h, frozen_of_row w g 2 _ _ h, frozen_of_row w g 3 _ _ h⟩
set_option maxHeartbeats 1000000 in
set_option maxRecDepth 20000 in
theorem span_walk (x y : Int) (a b c d e f g h : Int) (w : World) (hx0 : 0 ≤ x) (hx1 : x ≤ 255) (hy0 : 0 ≤ y) (hy1 : y ≤ 255)
    (k1 : ∀ w, Calls Try.prog 88 #[.int .i64 (y + 1)] w fun en w' => en = .returned (.agg #[.int .u64 a, .int .u64 b, .int .u64 c, .int .u64 d]) ∧ Below w.heap.size w w')
    (k2 : ∀ w, Calls Try.prog 88 #[.int .i64 x] w fun en w' => en = .returned (.agg #[.int .u64 e, .int .u64 f, .int .u64 g, .int .u64 h]) ∧ Below w.heap.size w w') :
    Calls Try.prog 64 #[.int .u8 x, .int .u8 y] w fun en w' => en = .returned (.agg #[.int .u64 (bits .andNot .u64 a e), .int .u64 (bits .andNot .u64 b f), .int .u64 (bits .andNot .u64 c g), .int .u64 (bits .andNot .u64 d h)]) ∧ Below w.heap.size w w' := by
  go_enter Try.func64, Try.ntmps64
  go_wp2_with (first
    | (go_at_call 88; first
        | (refine (k1 _).mono ?_; rintro en w1 ⟨rfl, hb1⟩; clear k1)
        | (refine (k2 _).mono ?_; rintro en w2 ⟨rfl, hb2⟩; clear k2)))
  have hg0 : w2.heap[w.heap.size]? = some (.cells #[.int .u64 0, .int .u64 0, .int .u64 0, .int .u64 0] 54 (0, 0)) := by
    refine (hb2.block _ (by have := hb1.size; simp at this; omega)).trans ((hb1.block _ (by simp)).trans ?_)
    exact heap_alloc_new w _
  have hs2 : w.heap.size < w2.heap.size := by have := hb1.size; have := hb2.size; simp at *; omega
  obtain ⟨⟨c0, c1, c2, c3⟩, f0, f1, f2, f3⟩ := res_four hg0
  have HG := Lib.hid hg0
  have H1 := Lib.hid hb1
  have H2 := Lib.hid hb2
  clear hg0 hb1 hb2
  refine wp_loop_rounds 5 ?_
  rw [rounds_succ]
  go_wp2
  go_region
  go_wp2
  rw [rounds_succ]
  go_wp2
  go_region
  go_wp2
  rw [rounds_succ]
  go_wp2
  go_region
  go_wp2
  rw [rounds_succ]
  go_wp2
  go_region
  go_wp2
  rw [rounds_succ]
  go_wp2
  have hh := set_four (.int .u64 (bits .andNot .u64 a e)) (.int .u64 (bits .andNot .u64 b f)) (.int .u64 (bits .andNot .u64 c g)) (.int .u64 (bits .andNot .u64 d h)) HG.out
  have hB := below_four (((Below.refl _ w).alloc (Nat.le_refl _) _).trans ((H1.out.mono (by simp)).trans (H2.out.mono (by have := H1.out.size; simp at this; omega)))) (Nat.le_refl _) (.int .u64 (bits .andNot .u64 a e)) (.int .u64 (bits .andNot .u64 b f)) (.int .u64 (bits .andNot .u64 c g)) (.int .u64 (bits .andNot .u64 d h))
  have hz := size_four w2 w.heap.size (.int .u64 (bits .andNot .u64 a e)) (.int .u64 (bits .andNot .u64 b f)) (.int .u64 (bits .andNot .u64 c g)) (.int .u64 (bits .andNot .u64 d h))
  refine bodyPost_ret (v := .agg _) (results_cell_row (p := 4) (ty := 54) Try.results64 _ _ w.heap.size 54 _ (0, 0) _ rfl
    ((heap_alloc_old _ _ (by simp; omega)).trans ((heap_alloc_old _ _ (by simp; omega)).trans hh)) Try.underlying54 rfl Try.infoCls) rfl ⟨rfl, ?_⟩
  exact (((((hB.alloc (by simp; omega) _).alloc (by simp; omega) _).drew).drew).drew).drew
theorem span_any (x y : Int) (w : World) (hx0 : 0 ≤ x) (hx1 : x ≤ 255) (hy0 : 0 ≤ y) (hy1 : y ≤ 255) :
    Calls Try.prog 64 #[.int .u8 x, .int .u8 y] w fun e w' => e = .returned (clsV (spanK x.toNat y.toNat)) ∧ Below w.heap.size w w' := by
  have h1 : (y + 1).toNat = y.toNat + 1 := by omega
  refine (span_walk x y _ _ _ _ _ _ _ _ w hx0 hx1 hy0 hy1 (fun w => below_any (y + 1) w (by omega) (by omega)) (fun w => below_any x w hx0 (by omega))).mono fun e w' h => ⟨h.1.trans ?_, h.2⟩
  rw [andNot_wd, andNot_wd, andNot_wd, andNot_wd, h1]
  rfl
set_option maxHeartbeats 1000000 in
set_option maxRecDepth 20000 in
theorem one_any (x : Int) (w : World) (hx0 : 0 ≤ x) (hx1 : x ≤ 255) :
    Calls Try.prog 39 #[.int .u8 x] w fun e w' => e = .returned (clsV (oneK x.toNat)) ∧ Below w.heap.size w w' := by
  have k : ∀ w, Calls Try.prog 64 #[.int .u8 x, .int .u8 x] w fun e w' => e = .returned (four ((oneK x.toNat 0).toNat : Int) ((oneK x.toNat 1).toNat : Int) ((oneK x.toNat 2).toNat : Int) ((oneK x.toNat 3).toNat : Int)) ∧ Below w.heap.size w w' :=
    fun w => span_any x x w hx0 hx1 hx0 hx1
  rw [four_cls]
  obtain ⟨a, ha⟩ : ∃ a, a = ((oneK x.toNat 0).toNat : Int) := ⟨_, rfl⟩
  obtain ⟨b, hb⟩ : ∃ a, a = ((oneK x.toNat 1).toNat : Int) := ⟨_, rfl⟩
  obtain ⟨c, hc⟩ : ∃ a, a = ((oneK x.toNat 2).toNat : Int) := ⟨_, rfl⟩
  obtain ⟨d, hd⟩ : ∃ a, a = ((oneK x.toNat 3).toNat : Int) := ⟨_, rfl⟩
  rw [← ha, ← hb, ← hc, ← hd] at k ⊢
  clear ha hb hc hd
  unfold four at k ⊢
  go_enter Try.func39, Try.ntmps39
  go_wp2_with (first
    | (go_at_call 64; refine (k _).mono ?_; rintro en w1 ⟨rfl, hb1⟩; clear k
       have hg0 : w1.heap[w.heap.size]? = some (.cells #[.int .u64 0, .int .u64 0, .int .u64 0, .int .u64 0] 54 (0, 0)) := (hb1.block _ (by simp)).trans (heap_alloc_new w _)
       obtain ⟨⟨c0, c1, c2, c3⟩, f0, f1, f2, f3⟩ := res_four hg0
       have HG := Lib.hid hg0
       have H1 := Lib.hid hb1
       clear hg0 hb1))
  have hh := set_four (.int .u64 a) (.int .u64 b) (.int .u64 c) (.int .u64 d) HG.out
  have hB := below_four (((Below.refl _ w).alloc (Nat.le_refl _) _).trans (H1.out.mono (by simp))) (Nat.le_refl _) (.int .u64 a) (.int .u64 b) (.int .u64 c) (.int .u64 d)
  exact bodyPost_ret (v := .agg _) (results_cell_row (p := 2) (ty := 54) Try.results39 _ _ w.heap.size 54 _ (0, 0) _ rfl hh Try.underlying54 rfl Try.infoCls) rfl ⟨rfl, hB⟩

set_option maxHeartbeats 1000000 in
set_option maxRecDepth 20000 in
theorem count_walk (a b c d : BitVec 64) (w : World) :
    Calls Try.prog 92 #[.agg #[.int .u64 (a.toNat : Int), .int .u64 (b.toNat : Int), .int .u64 (c.toNat : Int), .int .u64 (d.toNat : Int)]] w fun e w' => e = .returned (.int .i64 ((pop a + pop b + pop c + pop d : Nat) : Int)) ∧ Below w.heap.size w w' := by
  have pa := pop_le a
  have pb := pop_le b
  have pc := pop_le c
  have pd := pop_le d
  go_enter Try.func92, Try.ntmps92
  go_wp2
  refine wp_loop_rounds 5 ?_
  rw [rounds_succ]
  go_wp2_with (first | (go_at_call 110; refine (ones_any _ _).mono ?_; rintro en w1 ⟨rfl, rfl⟩))
  rw [rounds_succ]
  go_wp2_with (first | (go_at_call 110; refine (ones_any _ _).mono ?_; rintro en w1 ⟨rfl, rfl⟩))
  rw [rounds_succ]
  go_wp2_with (first | (go_at_call 110; refine (ones_any _ _).mono ?_; rintro en w1 ⟨rfl, rfl⟩))
  rw [rounds_succ]
  go_wp2_with (first | (go_at_call 110; refine (ones_any _ _).mono ?_; rintro en w1 ⟨rfl, rfl⟩))
  rw [rounds_succ]
  go_wp2
  go_ret
  refine ⟨?_, (Below.refl _ w).alloc (Nat.le_refl _) _⟩
  show Ending.returned (.int .i64 _) = _
  rw [Int.natCast_add, Int.natCast_add, Int.natCast_add]
theorem count_any (k : Cl) (w : World) : Calls Try.prog 92 #[clsV k] w fun e w' => e = .returned (.int .i64 (cntK k : Int)) ∧ Below w.heap.size w w' := by
  rw [cnt_words]
  exact count_walk (k 0) (k 1) (k 2) (k 3) w
end Go.Proofs.Ytolofcfegoeenaa
