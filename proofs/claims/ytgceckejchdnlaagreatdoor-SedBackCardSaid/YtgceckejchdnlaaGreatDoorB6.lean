/- Packed texts: ClsLeaf, ClsCalls. What each of them proves stands above its theorems; the conditions stand in these. -/
import Derived.BigQuiet
import Derived.Deep.QuietTactic
import Derived.Laws.Rows
import Derived.Lib.Hide
import Derived.LoopN
import Derived.WalkLawsBesides
import Derived.WalkSpells
import Derived.Test.YtgceckejchdnlaaGreatDoorB3
namespace Go.Proofs.YtgceckejchdnlaaGreatDoor
open Go.RowKit

theorem i64_and127 (n : Nat) (h : n < 9223372036854775808) : bits .and .i64 (n : Int) 127 = ((n % 128 : Nat) : Int) := by
  have e : (127 : Int) = ((127 : Nat) : Int) := rfl
  have hn : (BitVec.ofInt 64 (n : Int)).toNat = n := by
    rw [BitVec.ofInt_natCast, BitVec.toNat_ofNat]; exact Nat.mod_eq_of_lt (by omega)
  have h127 : (BitVec.ofInt 64 ((127 : Nat) : Int)).toNat = 127 := by
    rw [BitVec.ofInt_natCast, BitVec.toNat_ofNat]
  rw [e]
  show IntKind.i64.wrap ((BitVec.ofInt 64 (n : Int) &&& BitVec.ofInt 64 ((127 : Nat) : Int)).toNat : Int) = _
  rw [BitVec.toNat_and, hn, h127, show 127 = 2 ^ 7 - 1 from rfl, Nat.and_two_pow_sub_one_eq_mod]
  have hw : IntKind.i64.wrap ((n % 2 ^ 7 : Nat) : Int) = ((n % 2 ^ 7 : Nat) : Int) := by
    exact IntWalk.i64_in _ (by omega)
  rw [hw]
/-- The four words' cells. -/
def four (a b c d : Int) : Value := .agg #[.int .u64 a, .int .u64 b, .int .u64 c, .int .u64 d]
theorem four_cls (k : Cl) : clsV k = four ((k 0).toNat : Int) ((k 1).toNat : Int) ((k 2).toNat : Int) ((k 3).toNat : Int) := rfl

set_option maxHeartbeats 400000 in
set_option maxRecDepth 20000 in
theorem not_walk (a b c d : Int) (w : World) :
    Calls Tryz.prog 105 #[.agg #[.int .u64 a, .int .u64 b, .int .u64 c, .int .u64 d]] w fun e w' => e = .returned (.agg #[.int .u64 (bits .xor .u64 IntKind.u64.max a), .int .u64 (bits .xor .u64 IntKind.u64.max b), .int .u64 (bits .xor .u64 IntKind.u64.max c), .int .u64 (bits .xor .u64 IntKind.u64.max d)]) ∧ Below w.heap.size w w' := by
  have hsg : IntKind.u64.signed = false := rfl
  go_enter Tryz.func105, Tryz.ntmps105
  go_wp2
  refine wp_loop_rounds 5 ?_
  rw [rounds_succ]
  go_wp2
  rw [rounds_succ]
  go_wp2
  rw [rounds_succ]
  go_wp2
  rw [rounds_succ]
  go_wp2
  rw [rounds_succ]
  go_wp2
  exact bodyPost_ret (v := .agg _) (by simp [results, Tryz.results105, go_sem]) rfl ⟨rfl, ((Below.refl _ w).alloc (Nat.le_refl _) _).alloc (by simp) _⟩

set_option maxHeartbeats 400000 in
set_option maxRecDepth 20000 in
theorem or_walk (a b c d e f g h : Int) (w : World) :
    Calls Tryz.prog 147 #[.agg #[.int .u64 a, .int .u64 b, .int .u64 c, .int .u64 d], .agg #[.int .u64 e, .int .u64 f, .int .u64 g, .int .u64 h]] w fun en w' => en = .returned (.agg #[.int .u64 (bits .or .u64 a e), .int .u64 (bits .or .u64 b f), .int .u64 (bits .or .u64 c g), .int .u64 (bits .or .u64 d h)]) ∧ Below w.heap.size w w' := by
  go_enter Tryz.func147, Tryz.ntmps147
  go_wp2
  refine wp_loop_rounds 5 ?_
  rw [rounds_succ]
  go_wp2
  go_region
  go_wp2
  rw [rounds_succ]
  go_wp2
  go_region
  go_wp2
  rw [rounds_succ]
  go_wp2
  go_region
  go_wp2
  rw [rounds_succ]
  go_wp2
  go_region
  go_wp2
  rw [rounds_succ]
  go_wp2
  exact bodyPost_ret (v := .agg _) (by simp [results, Tryz.results147, go_sem]) rfl ⟨rfl, ((((((((Below.refl _ w).alloc (Nat.le_refl _) _).alloc (by simp) _).alloc (by simp; omega) _)).drew).drew).drew).drew⟩

theorem has_word (y : BitVec 64) (x : Int) (hx0 : 0 ≤ x) : (bits BinOp.and IntKind.u64 ((y.toNat : Int) / 2 ^ (x % 64).toNat) 1 == 1) = y.getLsbD (x.toNat % 64) := by
  have e1 : ((y.toNat : Int) / 2 ^ (x % 64).toNat) = ((y >>> (x.toNat % 64)).toNat : Int) := by
    rw [BitVec.toNat_ushiftRight, Nat.shiftRight_eq_div_pow, show (x % 64).toNat = x.toNat % 64 by omega]
    simp
  have e2 : (1 : Int) = ((1#64).toNat : Int) := rfl
  rw [e1, e2, and_wd]
  rw [← BitVec.testBit_toNat, Nat.testBit_eq_decide_div_mod_eq, BitVec.toNat_and, BitVec.toNat_ushiftRight, Nat.shiftRight_eq_div_pow]
  rw [show (1#64).toNat = 1 from rfl, Nat.and_one_is_mod]
  have e : ∀ n : Nat, ((n : Int) == ((1 : Nat) : Int)) = decide (n = 1) := fun n => by
    rw [Bool.eq_iff_iff]
    simp
    omega
  rw [e]
theorem max_bv : IntKind.u64.max = ((BitVec.allOnes 64).toNat : Int) := rfl
theorem not_wd (x : BitVec 64) : bits .xor .u64 IntKind.u64.max (x.toNat : Int) = ((~~~ x).toNat : Int) := by
  rw [max_bv]
  show IntKind.u64.wrap ((BitVec.ofInt 64 ((BitVec.allOnes 64).toNat : Int) ^^^ BitVec.ofInt 64 (x.toNat : Int)).toNat : Int) = _
  rw [ofInt_nat, ofInt_nat, IntKind.wrap_u64, BitVec.allOnes_xor]
  exact Int.emod_eq_of_lt (by omega) (bv_lt _)
theorem not_any (k : Cl) (w : World) : Calls Tryz.prog 105 #[clsV k] w fun e w' => e = .returned (clsV (notK k)) ∧ Below w.heap.size w w' := by
  refine (not_walk ((k 0).toNat : Int) ((k 1).toNat : Int) ((k 2).toNat : Int) ((k 3).toNat : Int) w).mono fun e w' h => ⟨h.1.trans ?_, h.2⟩
  rw [not_wd, not_wd, not_wd, not_wd]
  rfl
theorem or_any (k l : Cl) (w : World) : Calls Tryz.prog 147 #[clsV k, clsV l] w fun e w' => e = .returned (clsV (orK k l)) ∧ Below w.heap.size w w' := by
  refine (or_walk ((k 0).toNat : Int) ((k 1).toNat : Int) ((k 2).toNat : Int) ((k 3).toNat : Int) ((l 0).toNat : Int) ((l 1).toNat : Int) ((l 2).toNat : Int) ((l 3).toNat : Int) w).mono fun e w' h => ⟨h.1.trans ?_, h.2⟩
  rw [or_wd, or_wd, or_wd, or_wd]
  rfl
set_option maxHeartbeats 400000 in
set_option maxRecDepth 20000 in
theorem has_any (k : Cl) (x : Int) (w : World) (hx0 : 0 ≤ x) (hx1 : x ≤ 255) :
    Calls Tryz.prog 122 #[clsV k, .int .u8 x] w fun e w' => e = .returned (.bool (has k x.toNat)) ∧ Below w.heap.size w w' := by
  obtain ⟨q, hq⟩ : ∃ q, q = x / 64 := ⟨_, rfl⟩
  have hq4 : q = 0 ∨ q = 1 ∨ q = 2 ∨ q = 3 := by omega
  obtain ⟨r, hr⟩ : ∃ r : Bool, r = has k x.toNat := ⟨_, rfl⟩
  have HR := Lib.hid hr
  rw [← hr]
  unfold clsV clsA wd
  rcases hq4 with h | h | h | h
  all_goals
    rw [h] at hq
    have hq' := hq.symm
    have hn : x.toNat / 64 = q.toNat := by omega
    rw [h] at hn
    have HN := Lib.hid hn
    clear hq hn hr
    go_enter Tryz.func122, Tryz.ntmps122
    go_wp2
    go_ret
    refine ⟨?_, (Below.refl _ w).alloc (Nat.le_refl _) _⟩
    rw [HR.out]
    show Ending.returned (.bool _) = Ending.returned (.bool _)
    rw [has_word _ _ hx0]
    unfold has
    rw [HN.out]
    rfl

theorem ret_four {a b c d a' b' c' d' : Int} (h1 : a = a') (h2 : b = b') (h3 : c = c') (h4 : d = d') :
    Ending.returned (.agg #[.int .u64 a, .int .u64 b, .int .u64 c, .int .u64 d]) = Ending.returned (.agg #[.int .u64 a', .int .u64 b', .int .u64 c', .int .u64 d']) := by rw [h1, h2, h3, h4]
/-- A word of the class of all bytes below a number, in the three forms that the call's sums come to. -/
theorem bw_zero (n : Int) (i : Nat) (h : n - 64 * i ≤ 0) : (0 : Int) = ((belowK n.toNat i).toNat : Int) := by
  unfold belowK
  rw [show n.toNat - 64 * i = 0 by omega]
  rfl
theorem bw_full (n : Int) (i : Nat) (h : 64 ≤ n - 64 * i) : IntKind.u64.wrap (IntKind.u64.wrap 18446744073709551616 - 1) = ((belowK n.toNat i).toNat : Int) := by
  unfold belowK
  rw [show min (n.toNat - 64 * i) 64 = 64 by omega]
  decide
theorem bw_mid (n m : Int) (i : Nat) (hm : m = n - 64 * i) (h0 : 0 ≤ m) (h1 : m ≤ 64) : IntKind.u64.wrap (IntKind.u64.wrap (2 ^ m.toNat) - 1) = ((belowK n.toNat i).toNat : Int) := by
  unfold belowK
  rw [show min (n.toNat - 64 * i) 64 = m.toNat by omega]
  have h : m.toNat ≤ 64 := by omega
  clear hm h0 h1
  generalize m.toNat = k at *
  have hk : ∀ k : Fin 65, IntKind.u64.wrap (IntKind.u64.wrap (2 ^ k.val) - 1) = ((BitVec.ofNat 64 (2 ^ k.val - 1)).toNat : Int) := by decide +kernel
  exact hk ⟨k, by omega⟩
set_option maxHeartbeats 1000000 in
set_option maxRecDepth 20000 in
theorem below_any (n : Int) (w : World) (hn0 : 0 ≤ n) (hn1 : n ≤ 256) :
    Calls Tryz.prog 135 #[.int .i64 n] w fun e w' => e = .returned (clsV (belowK n.toNat)) ∧ Below w.heap.size w w' := by
  go_enter Tryz.func135, Tryz.ntmps135
  go_wp2
  refine wp_loop_rounds 5 ?_
  rw [rounds_succ]
  go_wp2
  all_goals
    rw [rounds_succ]
    go_wp2
  all_goals
    rw [rounds_succ]
    go_wp2
  all_goals
    rw [rounds_succ]
    go_wp2
  all_goals
    rw [rounds_succ]
    go_wp2
  all_goals first
    | (exfalso; omega)
    | (refine bodyPost_ret (v := .agg _) (by simp [results, Tryz.results135, go_sem]; rfl) rfl ⟨?_, ((Below.refl _ w).alloc (Nat.le_refl _) _).alloc (by simp) _⟩
       refine ret_four ?_ ?_ ?_ ?_ <;> first | exact bw_zero n _ (by omega) | exact bw_full n _ (by omega) | exact bw_mid n _ _ (by omega) (by omega) (by omega))
set_option maxHeartbeats 1000000 in
set_option maxRecDepth 20000 in
theorem ones_any (y : BitVec 64) (w : World) :
    Calls Tryz.prog 107 #[.int .u64 (y.toNat : Int)] w fun e w' => e = .returned (.int .i64 (pop y : Int)) ∧ w = w' := by
  obtain ⟨x1, x2, x3, x4, x5, x6, h1, l1, h2, l2, l2', h3, h4, l4, h5, l5, h6, l6, hp⟩ := ones_sums y
  have wr : ∀ n : Nat, n < 18446744073709551616 → IntKind.u64.wrap (n : Int) = (n : Int) := fun n hn => by rw [IntKind.wrap_u64]; omega
  have hy := y.isLt
  have l3 : x3 < 18446744073709551616 := by rw [h3]; exact Nat.lt_of_le_of_lt Nat.and_le_right (by decide)
  have a0 : bits .and .u64 ((y.toNat : Int) / 2) 6148914691236517205 = ((y.toNat / 2 &&& 6148914691236517205 : Nat) : Int) := by
    rw [show ((y.toNat : Int) / 2) = ((y.toNat / 2 : Nat) : Int) by simp]; exact u64_and_nat _ _ (by omega) (by decide)
  have a1 : bits .and .u64 (y.toNat : Int) 6148914691236517205 = ((y.toNat &&& 6148914691236517205 : Nat) : Int) := u64_and_nat _ _ (by omega) (by decide)
  have e1 : IntKind.u64.wrap (bits .and .u64 ((y.toNat : Int) / 2) 6148914691236517205 + bits .and .u64 (y.toNat : Int) 6148914691236517205) = (x1 : Int) := by
    rw [a0, a1, ← Int.natCast_add, ← h1]; exact wr _ l1
  have b0 : bits .and .u64 ((x1 : Int) / 4) 3689348814741910323 = ((x1 / 4 &&& 3689348814741910323 : Nat) : Int) := by
    rw [show ((x1 : Int) / 4) = ((x1 / 4 : Nat) : Int) by simp]; exact u64_and_nat _ _ (by omega) (by decide)
  have b1 : bits .and .u64 (x1 : Int) 3689348814741910323 = ((x1 &&& 3689348814741910323 : Nat) : Int) := u64_and_nat _ _ l1 (by decide)
  have e2 : IntKind.u64.wrap (bits .and .u64 ((x1 : Int) / 4) 3689348814741910323 + bits .and .u64 (x1 : Int) 3689348814741910323) = (x2 : Int) := by
    rw [b0, b1, ← Int.natCast_add, ← h2]; exact wr _ l2
  have c0 : IntKind.u64.wrap ((x2 : Int) / 16 + (x2 : Int)) = ((x2 / 16 + x2 : Nat) : Int) := by
    rw [show ((x2 : Int) / 16 + (x2 : Int)) = ((x2 / 16 + x2 : Nat) : Int) by simp]; exact wr _ l2'
  have e3 : bits .and .u64 (IntKind.u64.wrap ((x2 : Int) / 16 + (x2 : Int))) 1085102592571150095 = (x3 : Int) := by
    rw [c0, h3]; exact u64_and_nat _ _ l2' (by decide)
  have e3' : bits .and .u64 ((x2 : Int) / 16 + (x2 : Int)) 1085102592571150095 = (x3 : Int) := by
    rw [← e3, c0]; simp
  have e4 : IntKind.u64.wrap ((x3 : Int) + (x3 : Int) / 256) = (x4 : Int) := by
    rw [show ((x3 : Int) + (x3 : Int) / 256) = ((x3 + x3 / 256 : Nat) : Int) by simp, ← h4]; exact wr _ l4
  have e5 : IntKind.u64.wrap ((x4 : Int) + (x4 : Int) / 65536) = (x5 : Int) := by
    rw [show ((x4 : Int) + (x4 : Int) / 65536) = ((x4 + x4 / 65536 : Nat) : Int) by simp, ← h5]; exact wr _ l5
  have e6 : IntKind.u64.wrap ((x5 : Int) + (x5 : Int) / 4294967296) = (x6 : Int) := by
    rw [show ((x5 : Int) + (x5 : Int) / 4294967296) = ((x5 + x5 / 4294967296 : Nat) : Int) by simp, ← h6]; exact wr _ (by omega)
  have e7 : bits .and .i64 (x6 : Int) 127 = (pop y : Int) := by
    rw [← hp]
    exact i64_and127 _ l6
  clear h1 h2 h3 h4 h5 h6 hp a0 a1 b0 b1 c0 wr
  have l1 := Lib.hid l1
  have l2 := Lib.hid l2
  have l2' := Lib.hid l2'
  have l4 := Lib.hid l4
  have l5 := Lib.hid l5
  have l6 := Lib.hid l6
  have l3 := Lib.hid l3
  have hy := Lib.hid hy
  obtain ⟨p, hP⟩ : ∃ p, p = pop y := ⟨_, rfl⟩
  rw [← hP] at e7 ⊢
  clear hP
  obtain ⟨z, hz⟩ : ∃ z : Int, z = (y.toNat : Int) := ⟨_, rfl⟩
  rw [← hz] at e1 ⊢
  clear hz hy
  go_enter Tryz.func107, Tryz.ntmps107
  go_wp2
  go_ret
  exact ⟨rfl, rfl⟩
end Go.Proofs.YtgceckejchdnlaaGreatDoor
namespace Go.Proofs.YtgceckejchdnlaaGreatDoor
open Go.RowKit

/-- A block of four cells written over. -/
theorem set_four {w : World} {g : Nat} {t : TypeId} {p q r s : Value} (a b c d : Value) (h : w.heap[g]? = some (.cells #[p, q, r, s] t (0, 0))) :
    ((((w.setCell ⟨g, 0, none⟩ a).setCell ⟨g, 1, none⟩ b).setCell ⟨g, 2, none⟩ c).setCell ⟨g, 3, none⟩ d).heap[g]? = some (.cells #[a, b, c, d] t (0, 0)) := by
  have h1 := heap_setCell_same w g 0 _ _ a h
  have h2 := heap_setCell_same _ g 1 _ _ b h1
  have h3 := heap_setCell_same _ g 2 _ _ c h2
  exact heap_setCell_same _ g 3 _ _ d h3
theorem below_four {B g : Nat} {a w : World} (h : Below B a w) (hB : B ≤ g) (p q r s : Value) : Below B a ((((w.setCell ⟨g, 0, none⟩ p).setCell ⟨g, 1, none⟩ q).setCell ⟨g, 2, none⟩ r).setCell ⟨g, 3, none⟩ s) :=
  (((h.setCell (p := ⟨g, 0, none⟩) hB _).setCell (p := ⟨g, 1, none⟩) hB _).setCell (p := ⟨g, 2, none⟩) hB _).setCell (p := ⟨g, 3, none⟩) hB _
theorem size_four (w : World) (g : Nat) (p q r s : Value) : ((((w.setCell ⟨g, 0, none⟩ p).setCell ⟨g, 1, none⟩ q).setCell ⟨g, 2, none⟩ r).setCell ⟨g, 3, none⟩ s).heap.size = w.heap.size := by simp
theorem Tryz.infoCls : (Tryz.prog.info? 69).map (·.size) = some 4 := by kernel_rfl

theorem res_four {w : World} {g : Nat} {t : TypeId} {p q r s : Value} (h : w.heap[g]? = some (.cells #[p, q, r, s] t (0, 0))) :
    (w.cell? ⟨g, 0, none⟩ = some p ∧ w.cell? ⟨g, 1, none⟩ = some q ∧ w.cell? ⟨g, 2, none⟩ = some r ∧ w.cell? ⟨g, 3, none⟩ = some s) ∧
    (w.frozen? ⟨g, 0, none⟩ = false ∧ w.frozen? ⟨g, 1, none⟩ = false ∧ w.frozen? ⟨g, 2, none⟩ = false ∧ w.frozen? ⟨g, 3, none⟩ = false) :=
  ⟨⟨cell_of_row w g 0 _ _ _ h, cell_of_row w g 1 _ _ _ h, cell_of_row w g 2 _ _ _ h, cell_of_row w g 3 _ _ _ h⟩,
    frozen_of_row w g 0 _ _ h, frozen_of_row w g 1 _ _ h, frozen_of_row w g 2 _ _ h, frozen_of_row w g 3 _ _ h⟩
set_option maxHeartbeats 1000000 in
set_option maxRecDepth 20000 in
theorem span_walk (x y : Int) (a b c d e f g h : Int) (w : World) (hx0 : 0 ≤ x) (hx1 : x ≤ 255) (hy0 : 0 ≤ y) (hy1 : y ≤ 255)
    (k1 : ∀ w, Calls Tryz.prog 135 #[.int .i64 (y + 1)] w fun en w' => en = .returned (.agg #[.int .u64 a, .int .u64 b, .int .u64 c, .int .u64 d]) ∧ Below w.heap.size w w')
    (k2 : ∀ w, Calls Tryz.prog 135 #[.int .i64 x] w fun en w' => en = .returned (.agg #[.int .u64 e, .int .u64 f, .int .u64 g, .int .u64 h]) ∧ Below w.heap.size w w') :
    Calls Tryz.prog 123 #[.int .u8 x, .int .u8 y] w fun en w' => en = .returned (.agg #[.int .u64 (bits .andNot .u64 a e), .int .u64 (bits .andNot .u64 b f), .int .u64 (bits .andNot .u64 c g), .int .u64 (bits .andNot .u64 d h)]) ∧ Below w.heap.size w w' := by
  go_enter Tryz.func123, Tryz.ntmps123
  go_wp2_with (first
    | (go_at_call 135; first
        | (refine (k1 _).mono ?_; rintro en w1 ⟨rfl, hb1⟩; clear k1)
        | (refine (k2 _).mono ?_; rintro en w2 ⟨rfl, hb2⟩; clear k2)))
  have hg0 : w2.heap[w.heap.size]? = some (.cells #[.int .u64 0, .int .u64 0, .int .u64 0, .int .u64 0] 69 (0, 0)) := by
    refine (hb2.block _ (by have := hb1.size; simp at this; omega)).trans ((hb1.block _ (by simp)).trans ?_)
    exact heap_alloc_new w _
  have hs2 : w.heap.size < w2.heap.size := by have := hb1.size; have := hb2.size; simp at *; omega
  obtain ⟨⟨c0, c1, c2, c3⟩, f0, f1, f2, f3⟩ := res_four hg0
  have HG := Lib.hid hg0
  have H1 := Lib.hid hb1
  have H2 := Lib.hid hb2
  clear hg0 hb1 hb2
  refine wp_loop_rounds 5 ?_
  rw [rounds_succ]
  go_wp2
  go_region
  go_wp2
  rw [rounds_succ]
  go_wp2
  go_region
  go_wp2
  rw [rounds_succ]
  go_wp2
  go_region
  go_wp2
  rw [rounds_succ]
  go_wp2
  go_region
  go_wp2
  rw [rounds_succ]
  go_wp2
  have hh := set_four (.int .u64 (bits .andNot .u64 a e)) (.int .u64 (bits .andNot .u64 b f)) (.int .u64 (bits .andNot .u64 c g)) (.int .u64 (bits .andNot .u64 d h)) HG.out
  have hB := below_four (((Below.refl _ w).alloc (Nat.le_refl _) _).trans ((H1.out.mono (by simp)).trans (H2.out.mono (by have := H1.out.size; simp at this; omega)))) (Nat.le_refl _) (.int .u64 (bits .andNot .u64 a e)) (.int .u64 (bits .andNot .u64 b f)) (.int .u64 (bits .andNot .u64 c g)) (.int .u64 (bits .andNot .u64 d h))
  have hz := size_four w2 w.heap.size (.int .u64 (bits .andNot .u64 a e)) (.int .u64 (bits .andNot .u64 b f)) (.int .u64 (bits .andNot .u64 c g)) (.int .u64 (bits .andNot .u64 d h))
  refine bodyPost_ret (v := .agg _) (results_cell_row (p := 4) (ty := 69) Tryz.results123 _ _ w.heap.size 69 _ (0, 0) _ rfl
    ((heap_alloc_old _ _ (by simp; omega)).trans ((heap_alloc_old _ _ (by simp; omega)).trans hh)) Tryz.underlying69 rfl Tryz.infoCls) rfl ⟨rfl, ?_⟩
  exact (((((hB.alloc (by simp; omega) _).alloc (by simp; omega) _).drew).drew).drew).drew
theorem span_any (x y : Int) (w : World) (hx0 : 0 ≤ x) (hx1 : x ≤ 255) (hy0 : 0 ≤ y) (hy1 : y ≤ 255) :
    Calls Tryz.prog 123 #[.int .u8 x, .int .u8 y] w fun e w' => e = .returned (clsV (spanK x.toNat y.toNat)) ∧ Below w.heap.size w w' := by
  have h1 : (y + 1).toNat = y.toNat + 1 := by omega
  refine (span_walk x y _ _ _ _ _ _ _ _ w hx0 hx1 hy0 hy1 (fun w => below_any (y + 1) w (by omega) (by omega)) (fun w => below_any x w hx0 (by omega))).mono fun e w' h => ⟨h.1.trans ?_, h.2⟩
  rw [andNot_wd, andNot_wd, andNot_wd, andNot_wd, h1]
  rfl
set_option maxHeartbeats 1000000 in
set_option maxRecDepth 20000 in
theorem one_any (x : Int) (w : World) (hx0 : 0 ≤ x) (hx1 : x ≤ 255) :
    Calls Tryz.prog 106 #[.int .u8 x] w fun e w' => e = .returned (clsV (oneK x.toNat)) ∧ Below w.heap.size w w' := by
  have k : ∀ w, Calls Tryz.prog 123 #[.int .u8 x, .int .u8 x] w fun e w' => e = .returned (four ((oneK x.toNat 0).toNat : Int) ((oneK x.toNat 1).toNat : Int) ((oneK x.toNat 2).toNat : Int) ((oneK x.toNat 3).toNat : Int)) ∧ Below w.heap.size w w' :=
    fun w => span_any x x w hx0 hx1 hx0 hx1
  rw [four_cls]
  obtain ⟨a, ha⟩ : ∃ a, a = ((oneK x.toNat 0).toNat : Int) := ⟨_, rfl⟩
  obtain ⟨b, hb⟩ : ∃ a, a = ((oneK x.toNat 1).toNat : Int) := ⟨_, rfl⟩
  obtain ⟨c, hc⟩ : ∃ a, a = ((oneK x.toNat 2).toNat : Int) := ⟨_, rfl⟩
  obtain ⟨d, hd⟩ : ∃ a, a = ((oneK x.toNat 3).toNat : Int) := ⟨_, rfl⟩
  rw [← ha, ← hb, ← hc, ← hd] at k ⊢
  clear ha hb hc hd
  unfold four at k ⊢
  go_enter Tryz.func106, Tryz.ntmps106
  go_wp2_with (first
    | (go_at_call 123; refine (k _).mono ?_; rintro en w1 ⟨rfl, hb1⟩; clear k
       have hg0 : w1.heap[w.heap.size]? = some (.cells #[.int .u64 0, .int .u64 0, .int .u64 0, .int .u64 0] 69 (0, 0)) := (hb1.block _ (by simp)).trans (heap_alloc_new w _)
       obtain ⟨⟨c0, c1, c2, c3⟩, f0, f1, f2, f3⟩ := res_four hg0
       have HG := Lib.hid hg0
       have H1 := Lib.hid hb1
       clear hg0 hb1))
  have hh := set_four (.int .u64 a) (.int .u64 b) (.int .u64 c) (.int .u64 d) HG.out
  have hB := below_four (((Below.refl _ w).alloc (Nat.le_refl _) _).trans (H1.out.mono (by simp))) (Nat.le_refl _) (.int .u64 a) (.int .u64 b) (.int .u64 c) (.int .u64 d)
  exact bodyPost_ret (v := .agg _) (results_cell_row (p := 2) (ty := 69) Tryz.results106 _ _ w.heap.size 69 _ (0, 0) _ rfl hh Tryz.underlying69 rfl Tryz.infoCls) rfl ⟨rfl, hB⟩

set_option maxHeartbeats 1000000 in
set_option maxRecDepth 20000 in
theorem count_walk (a b c d : BitVec 64) (w : World) :
    Calls Tryz.prog 86 #[.agg #[.int .u64 (a.toNat : Int), .int .u64 (b.toNat : Int), .int .u64 (c.toNat : Int), .int .u64 (d.toNat : Int)]] w fun e w' => e = .returned (.int .i64 ((pop a + pop b + pop c + pop d : Nat) : Int)) ∧ Below w.heap.size w w' := by
  have pa := pop_le a
  have pb := pop_le b
  have pc := pop_le c
  have pd := pop_le d
  go_enter Tryz.func86, Tryz.ntmps86
  go_wp2
  refine wp_loop_rounds 5 ?_
  rw [rounds_succ]
  go_wp2_with (first | (go_at_call 107; refine (ones_any _ _).mono ?_; rintro en w1 ⟨rfl, rfl⟩))
  rw [rounds_succ]
  go_wp2_with (first | (go_at_call 107; refine (ones_any _ _).mono ?_; rintro en w1 ⟨rfl, rfl⟩))
  rw [rounds_succ]
  go_wp2_with (first | (go_at_call 107; refine (ones_any _ _).mono ?_; rintro en w1 ⟨rfl, rfl⟩))
  rw [rounds_succ]
  go_wp2_with (first | (go_at_call 107; refine (ones_any _ _).mono ?_; rintro en w1 ⟨rfl, rfl⟩))
  rw [rounds_succ]
  go_wp2
  go_ret
  refine ⟨?_, (Below.refl _ w).alloc (Nat.le_refl _) _⟩
  show Ending.returned (.int .i64 _) = _
  rw [Int.natCast_add, Int.natCast_add, Int.natCast_add]
theorem countC_any (k : Cl) (w : World) : Calls Tryz.prog 86 #[clsV k] w fun e w' => e = .returned (.int .i64 (cntK k : Int)) ∧ Below w.heap.size w w' := by
  rw [cnt_words]
  exact count_walk (k 0) (k 1) (k 2) (k 3) w
end Go.Proofs.YtgceckejchdnlaaGreatDoor
