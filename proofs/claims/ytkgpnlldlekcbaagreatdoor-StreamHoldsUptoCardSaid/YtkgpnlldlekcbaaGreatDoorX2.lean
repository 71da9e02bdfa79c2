/- Packed texts: ClsLeaf, ClsCalls. What each of them proves stands above its theorems; the conditions stand in these. -/
import Derived.BigQuiet
import Derived.Deep.QuietTactic
import Derived.Laws.Rows
import Derived.Lib.Hide
import Derived.LoopN
import Derived.WalkLawsBesides
import Derived.WalkSpells
import Derived.Test.YtkgpnlldlekcbaaGreatDoorX0
namespace Go.Proofs.YtkgpnlldlekcbaaGreatDoor
open Go.RowKit

/-- The four words' cells. -/
def four (a b c d : Int) : Value := .agg #[.int .u64 a, .int .u64 b, .int .u64 c, .int .u64 d]
theorem four_cls (k : Cl) : clsV k = four ((k 0).toNat : Int) ((k 1).toNat : Int) ((k 2).toNat : Int) ((k 3).toNat : Int) := rfl

set_option maxHeartbeats 400000 in
set_option maxRecDepth 20000 in
theorem not_walk (a b c d : Int) (w : World) :
    Calls Tryz.prog 215 #[.agg #[.int .u64 a, .int .u64 b, .int .u64 c, .int .u64 d]] w fun e w' => e = .returned (.agg #[.int .u64 (bits .xor .u64 IntKind.u64.max a), .int .u64 (bits .xor .u64 IntKind.u64.max b), .int .u64 (bits .xor .u64 IntKind.u64.max c), .int .u64 (bits .xor .u64 IntKind.u64.max d)]) ∧ Below w.heap.size w w' := by
  have hsg : IntKind.u64.signed = false := rfl
  go_enter Tryz.func215, Tryz.ntmps215
  go_wp2
  refine wp_loop_rounds 5 ?_
  rw [rounds_succ]
  go_wp2
  rw [rounds_succ]
  go_wp2
  rw [rounds_succ]
  go_wp2
  rw [rounds_succ]
  go_wp2
  rw [rounds_succ]
  go_wp2
  exact bodyPost_ret (v := .agg _) (by simp [results, Tryz.results215, go_sem]) rfl ⟨rfl, ((Below.refl _ w).alloc (Nat.le_refl _) _).alloc (by simp) _⟩

set_option maxHeartbeats 400000 in
set_option maxRecDepth 20000 in
theorem or_walk (a b c d e f g h : Int) (w : World) :
    Calls Tryz.prog 222 #[.agg #[.int .u64 a, .int .u64 b, .int .u64 c, .int .u64 d], .agg #[.int .u64 e, .int .u64 f, .int .u64 g, .int .u64 h]] w fun en w' => en = .returned (.agg #[.int .u64 (bits .or .u64 a e), .int .u64 (bits .or .u64 b f), .int .u64 (bits .or .u64 c g), .int .u64 (bits .or .u64 d h)]) ∧ Below w.heap.size w w' := by
  go_enter Tryz.func222, Tryz.ntmps222
  go_wp2
  refine wp_loop_rounds 5 ?_
  rw [rounds_succ]
  go_wp2
  go_region
  go_wp2
  rw [rounds_succ]
  go_wp2
  go_region
  go_wp2
  rw [rounds_succ]
  go_wp2
  go_region
  go_wp2
  rw [rounds_succ]
  go_wp2
  go_region
  go_wp2
  rw [rounds_succ]
  go_wp2
  exact bodyPost_ret (v := .agg _) (by simp [results, Tryz.results222, go_sem]) rfl ⟨rfl, ((((((((Below.refl _ w).alloc (Nat.le_refl _) _).alloc (by simp) _).alloc (by simp; omega) _)).drew).drew).drew).drew⟩

theorem max_bv : IntKind.u64.max = ((BitVec.allOnes 64).toNat : Int) := rfl
theorem not_wd (x : BitVec 64) : bits .xor .u64 IntKind.u64.max (x.toNat : Int) = ((~~~ x).toNat : Int) := by
  rw [max_bv]
  show IntKind.u64.wrap ((BitVec.ofInt 64 ((BitVec.allOnes 64).toNat : Int) ^^^ BitVec.ofInt 64 (x.toNat : Int)).toNat : Int) = _
  rw [ofInt_nat, ofInt_nat, IntKind.wrap_u64, BitVec.allOnes_xor]
  exact Int.emod_eq_of_lt (by omega) (bv_lt _)
theorem not_any (k : Cl) (w : World) : Calls Tryz.prog 215 #[clsV k] w fun e w' => e = .returned (clsV (notK k)) ∧ Below w.heap.size w w' := by
  refine (not_walk ((k 0).toNat : Int) ((k 1).toNat : Int) ((k 2).toNat : Int) ((k 3).toNat : Int) w).mono fun e w' h => ⟨h.1.trans ?_, h.2⟩
  rw [not_wd, not_wd, not_wd, not_wd]
  rfl
theorem or_any (k l : Cl) (w : World) : Calls Tryz.prog 222 #[clsV k, clsV l] w fun e w' => e = .returned (clsV (orK k l)) ∧ Below w.heap.size w w' := by
  refine (or_walk ((k 0).toNat : Int) ((k 1).toNat : Int) ((k 2).toNat : Int) ((k 3).toNat : Int) ((l 0).toNat : Int) ((l 1).toNat : Int) ((l 2).toNat : Int) ((l 3).toNat : Int) w).mono fun e w' h => ⟨h.1.trans ?_, h.2⟩
  rw [or_wd, or_wd, or_wd, or_wd]
  rfl
theorem ret_four {a b c d a' b' c' d' : Int} (h1 : a = a') (h2 : b = b') (h3 : c = c') (h4 : d = d') :
    Ending.returned (.agg #[.int .u64 a, .int .u64 b, .int .u64 c, .int .u64 d]) = Ending.returned (.agg #[.int .u64 a', .int .u64 b', .int .u64 c', .int .u64 d']) := by rw [h1, h2, h3, h4]
/-- A word of the class of all bytes below a number, in the three forms that the call's sums come to. -/
theorem bw_zero (n : Int) (i : Nat) (h : n - 64 * i ≤ 0) : (0 : Int) = ((belowK n.toNat i).toNat : Int) := by
  unfold belowK
  rw [show n.toNat - 64 * i = 0 by omega]
  rfl
theorem bw_full (n : Int) (i : Nat) (h : 64 ≤ n - 64 * i) : IntKind.u64.wrap (IntKind.u64.wrap 18446744073709551616 - 1) = ((belowK n.toNat i).toNat : Int) := by
  unfold belowK
  rw [show min (n.toNat - 64 * i) 64 = 64 by omega]
  decide
theorem bw_mid (n m : Int) (i : Nat) (hm : m = n - 64 * i) (h0 : 0 ≤ m) (h1 : m ≤ 64) : IntKind.u64.wrap (IntKind.u64.wrap (2 ^ m.toNat) - 1) = ((belowK n.toNat i).toNat : Int) := by
  unfold belowK
  rw [show min (n.toNat - 64 * i) 64 = m.toNat by omega]
  have h : m.toNat ≤ 64 := by omega
  clear hm h0 h1
  generalize m.toNat = k at *
  have hk : ∀ k : Fin 65, IntKind.u64.wrap (IntKind.u64.wrap (2 ^ k.val) - 1) = ((BitVec.ofNat 64 (2 ^ k.val - 1)).toNat : Int) := by decide +kernel
  exact hk ⟨k, by omega⟩
set_option maxHeartbeats 1000000 in
set_option maxRecDepth 20000 in
theorem below_any (n : Int) (w : World) (hn0 : 0 ≤ n) (hn1 : n ≤ 256) :
    Calls Tryz.prog 223 #[.int .i64 n] w fun e w' => e = .returned (clsV (belowK n.toNat)) ∧ Below w.heap.size w w' := by
  go_enter Tryz.func223, Tryz.ntmps223
  go_wp2
  refine wp_loop_rounds 5 ?_
  rw [rounds_succ]
  go_wp2
  all_goals
    rw [rounds_succ]
    go_wp2
  all_goals
    rw [rounds_succ]
    go_wp2
  all_goals
    rw [rounds_succ]
    go_wp2
  all_goals
    rw [rounds_succ]
    go_wp2
  all_goals first
    | (exfalso; omega)
    | (refine bodyPost_ret (v := .agg _) (by simp [results, Tryz.results223, go_sem]; rfl) rfl ⟨?_, ((Below.refl _ w).alloc (Nat.le_refl _) _).alloc (by simp) _⟩
       refine ret_four ?_ ?_ ?_ ?_ <;> first | exact bw_zero n _ (by omega) | exact bw_full n _ (by omega) | exact bw_mid n _ _ (by omega) (by omega) (by omega))
end Go.Proofs.YtkgpnlldlekcbaaGreatDoor
namespace Go.Proofs.YtkgpnlldlekcbaaGreatDoor
open Go.RowKit

/-- A block of four cells written over. -/
theorem set_four {w : World} {g : Nat} {t : TypeId} {p q r s : Value} (a b c d : Value) (h : w.heap[g]? = some (.cells #[p, q, r, s] t (0, 0))) :
    ((((w.setCell ⟨g, 0, none⟩ a).setCell ⟨g, 1, none⟩ b).setCell ⟨g, 2, none⟩ c).setCell ⟨g, 3, none⟩ d).heap[g]? = some (.cells #[a, b, c, d] t (0, 0)) := by
  have h1 := heap_setCell_same w g 0 _ _ a h
  have h2 := heap_setCell_same _ g 1 _ _ b h1
  have h3 := heap_setCell_same _ g 2 _ _ c h2
  exact heap_setCell_same _ g 3 _ _ d h3
theorem below_four {B g : Nat} {a w : World} (h : Below B a w) (hB : B ≤ g) (p q r s : Value) : Below B a ((((w.setCell ⟨g, 0, none⟩ p).setCell ⟨g, 1, none⟩ q).setCell ⟨g, 2, none⟩ r).setCell ⟨g, 3, none⟩ s) :=
  (((h.setCell (p := ⟨g, 0, none⟩) hB _).setCell (p := ⟨g, 1, none⟩) hB _).setCell (p := ⟨g, 2, none⟩) hB _).setCell (p := ⟨g, 3, none⟩) hB _
theorem size_four (w : World) (g : Nat) (p q r s : Value) : ((((w.setCell ⟨g, 0, none⟩ p).setCell ⟨g, 1, none⟩ q).setCell ⟨g, 2, none⟩ r).setCell ⟨g, 3, none⟩ s).heap.size = w.heap.size := by simp
theorem Tryz.infoCls : (Tryz.prog.info? 154).map (·.size) = some 4 := by kernel_rfl

theorem res_four {w : World} {g : Nat} {t : TypeId} {p q r s : Value} (h : w.heap[g]? = some (.cells #[p, q, r, s] t (0, 0))) :
    (w.cell? ⟨g, 0, none⟩ = some p ∧ w.cell? ⟨g, 1, none⟩ = some q ∧ w.cell? ⟨g, 2, none⟩ = some r ∧ w.cell? ⟨g, 3, none⟩ = some s) ∧
    (w.frozen? ⟨g, 0, none⟩ = false ∧ w.frozen? ⟨g, 1, none⟩ = false ∧ w.frozen? ⟨g, 2, none⟩ = false ∧ w.frozen? ⟨g, 3, none⟩ = false) :=
  ⟨⟨cell_of_row w g 0 _ _ _ h, cell_of_row w g 1 _ _ _ h, cell_of_row w g 2 _ _ _ h, cell_of_row w g 3 _ _ _ h⟩,
    frozen_of_row w g 0 _ _ h, frozen_of_row w g 1 _ _ h, frozen_of_row w g 2 _ _ h, frozen_of_row w g 3 _ _ h⟩
set_option maxHeartbeats 1000000 in
set_option maxRecDepth 20000 in
theorem span_walk (x y : Int) (a b c d e f g h : Int) (w : World) (hx0 : 0 ≤ x) (hx1 : x ≤ 255) (hy0 : 0 ≤ y) (hy1 : y ≤ 255)
    (k1 : ∀ w, Calls Tryz.prog 223 #[.int .i64 (y + 1)] w fun en w' => en = .returned (.agg #[.int .u64 a, .int .u64 b, .int .u64 c, .int .u64 d]) ∧ Below w.heap.size w w')
    (k2 : ∀ w, Calls Tryz.prog 223 #[.int .i64 x] w fun en w' => en = .returned (.agg #[.int .u64 e, .int .u64 f, .int .u64 g, .int .u64 h]) ∧ Below w.heap.size w w') :
    Calls Tryz.prog 218 #[.int .u8 x, .int .u8 y] w fun en w' => en = .returned (.agg #[.int .u64 (bits .andNot .u64 a e), .int .u64 (bits .andNot .u64 b f), .int .u64 (bits .andNot .u64 c g), .int .u64 (bits .andNot .u64 d h)]) ∧ Below w.heap.size w w' := by
  go_enter Tryz.func218, Tryz.ntmps218
  go_wp2_with (first
    | (go_at_call 223; first
        | (refine (k1 _).mono ?_; rintro en w1 ⟨rfl, hb1⟩; clear k1)
        | (refine (k2 _).mono ?_; rintro en w2 ⟨rfl, hb2⟩; clear k2)))
  have hg0 : w2.heap[w.heap.size]? = some (.cells #[.int .u64 0, .int .u64 0, .int .u64 0, .int .u64 0] 154 (0, 0)) := by
    refine (hb2.block _ (by have := hb1.size; simp at this; omega)).trans ((hb1.block _ (by simp)).trans ?_)
    exact heap_alloc_new w _
  have hs2 : w.heap.size < w2.heap.size := by have := hb1.size; have := hb2.size; simp at *; omega
  obtain ⟨⟨c0, c1, c2, c3⟩, f0, f1, f2, f3⟩ := res_four hg0
  have HG := Lib.hid hg0
  have H1 := Lib.hid hb1
  have H2 := Lib.hid hb2
  clear hg0 hb1 hb2
  refine wp_loop_rounds 5 ?_
  rw [rounds_succ]
  go_wp2
  go_region
  go_wp2
  rw [rounds_succ]
  go_wp2
  go_region
  go_wp2
  rw [rounds_succ]
  go_wp2
  go_region
  go_wp2
  rw [rounds_succ]
  go_wp2
  go_region
  go_wp2
  rw [rounds_succ]
  go_wp2
  have hh := set_four (.int .u64 (bits .andNot .u64 a e)) (.int .u64 (bits .andNot .u64 b f)) (.int .u64 (bits .andNot .u64 c g)) (.int .u64 (bits .andNot .u64 d h)) HG.out
  have hB := below_four (((Below.refl _ w).alloc (Nat.le_refl _) _).trans ((H1.out.mono (by simp)).trans (H2.out.mono (by have := H1.out.size; simp at this; omega)))) (Nat.le_refl _) (.int .u64 (bits .andNot .u64 a e)) (.int .u64 (bits .andNot .u64 b f)) (.int .u64 (bits .andNot .u64 c g)) (.int .u64 (bits .andNot .u64 d h))
  have hz := size_four w2 w.heap.size (.int .u64 (bits .andNot .u64 a e)) (.int .u64 (bits .andNot .u64 b f)) (.int .u64 (bits .andNot .u64 c g)) (.int .u64 (bits .andNot .u64 d h))
  refine bodyPost_ret (v := .agg _) (results_cell_row (p := 4) (ty := 154) Tryz.results218 _ _ w.heap.size 154 _ (0, 0) _ rfl
    ((heap_alloc_old _ _ (by simp; omega)).trans ((heap_alloc_old _ _ (by simp; omega)).trans hh)) Tryz.underlying154 rfl Tryz.infoCls) rfl ⟨rfl, ?_⟩
  exact (((((hB.alloc (by simp; omega) _).alloc (by simp; omega) _).drew).drew).drew).drew
theorem span_any (x y : Int) (w : World) (hx0 : 0 ≤ x) (hx1 : x ≤ 255) (hy0 : 0 ≤ y) (hy1 : y ≤ 255) :
    Calls Tryz.prog 218 #[.int .u8 x, .int .u8 y] w fun e w' => e = .returned (clsV (spanK x.toNat y.toNat)) ∧ Below w.heap.size w w' := by
  have h1 : (y + 1).toNat = y.toNat + 1 := by omega
  refine (span_walk x y _ _ _ _ _ _ _ _ w hx0 hx1 hy0 hy1 (fun w => below_any (y + 1) w (by omega) (by omega)) (fun w => below_any x w hx0 (by omega))).mono fun e w' h => ⟨h.1.trans ?_, h.2⟩
  rw [andNot_wd, andNot_wd, andNot_wd, andNot_wd, h1]
  rfl
set_option maxHeartbeats 1000000 in
set_option maxRecDepth 20000 in
theorem one_any (x : Int) (w : World) (hx0 : 0 ≤ x) (hx1 : x ≤ 255) :
    Calls Tryz.prog 216 #[.int .u8 x] w fun e w' => e = .returned (clsV (oneK x.toNat)) ∧ Below w.heap.size w w' := by
  have k : ∀ w, Calls Tryz.prog 218 #[.int .u8 x, .int .u8 x] w fun e w' => e = .returned (four ((oneK x.toNat 0).toNat : Int) ((oneK x.toNat 1).toNat : Int) ((oneK x.toNat 2).toNat : Int) ((oneK x.toNat 3).toNat : Int)) ∧ Below w.heap.size w w' :=
    fun w => span_any x x w hx0 hx1 hx0 hx1
  rw [four_cls]
  obtain ⟨a, ha⟩ : ∃ a, a = ((oneK x.toNat 0).toNat : Int) := ⟨_, rfl⟩
  obtain ⟨b, hb⟩ : ∃ a, a = ((oneK x.toNat 1).toNat : Int) := ⟨_, rfl⟩
  obtain ⟨c, hc⟩ : ∃ a, a = ((oneK x.toNat 2).toNat : Int) := ⟨_, rfl⟩
  obtain ⟨d, hd⟩ : ∃ a, a = ((oneK x.toNat 3).toNat : Int) := ⟨_, rfl⟩
  rw [← ha, ← hb, ← hc, ← hd] at k ⊢
  clear ha hb hc hd
  unfold four at k ⊢
  go_enter Tryz.func216, Tryz.ntmps216
  go_wp2_with (first
    | (go_at_call 218; refine (k _).mono ?_; rintro en w1 ⟨rfl, hb1⟩; clear k
       have hg0 : w1.heap[w.heap.size]? = some (.cells #[.int .u64 0, .int .u64 0, .int .u64 0, .int .u64 0] 154 (0, 0)) := (hb1.block _ (by simp)).trans (heap_alloc_new w _)
       obtain ⟨⟨c0, c1, c2, c3⟩, f0, f1, f2, f3⟩ := res_four hg0
       have HG := Lib.hid hg0
       have H1 := Lib.hid hb1
       clear hg0 hb1))
  have hh := set_four (.int .u64 a) (.int .u64 b) (.int .u64 c) (.int .u64 d) HG.out
  have hB := below_four (((Below.refl _ w).alloc (Nat.le_refl _) _).trans (H1.out.mono (by simp))) (Nat.le_refl _) (.int .u64 a) (.int .u64 b) (.int .u64 c) (.int .u64 d)
  exact bodyPost_ret (v := .agg _) (results_cell_row (p := 2) (ty := 154) Tryz.results216 _ _ w.heap.size 154 _ (0, 0) _ rfl hh Tryz.underlying154 rfl Tryz.infoCls) rfl ⟨rfl, hB⟩

end Go.Proofs.YtkgpnlldlekcbaaGreatDoor
