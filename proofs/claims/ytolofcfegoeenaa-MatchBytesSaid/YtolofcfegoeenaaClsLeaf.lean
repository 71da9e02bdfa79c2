/- Package class's plain calls: each answers what the plain function says; nothing that was there before is written. No condition. -/
import Derived.Test.YtolofcfegoeenaaClsPop
import Derived.WalkSpells
import Derived.WalkLawsBesides
import Derived.Lib.Hide
import Derived.Laws.Rows
import Derived.LoopN
import Derived.Deep.QuietTactic
import Derived.BigQuiet
namespace Go.Proofs.Ytolofcfegoeenaa
open Go.RowKit

theorem i64_and127 (n : Nat) (h : n < 9223372036854775808) : bits .and .i64 (n : Int) 127 = ((n % 128 : Nat) : Int) := by
  have e : (127 : Int) = ((127 : Nat) : Int) := rfl
  have hn : (BitVec.ofInt 64 (n : Int)).toNat = n := by
    rw [BitVec.ofInt_natCast, BitVec.toNat_ofNat]; exact Nat.mod_eq_of_lt (by omega)
  have h127 : (BitVec.ofInt 64 ((127 : Nat) : Int)).toNat = 127 := by
    rw [BitVec.ofInt_natCast, BitVec.toNat_ofNat]
  rw [e]
  show IntKind.i64.wrap ((BitVec.ofInt 64 (n : Int) &&& BitVec.ofInt 64 ((127 : Nat) : Int)).toNat : Int) = _
  rw [BitVec.toNat_and, hn, h127, show 127 = 2 ^ 7 - 1 from rfl, Nat.and_two_pow_sub_one_eq_mod]
  have hw : IntKind.i64.wrap ((n % 2 ^ 7 : Nat) : Int) = ((n % 2 ^ 7 : Nat) : Int) := by
    exact IntWalk.i64_in _ (by omega)
  rw [hw]
/-- The four words' cells. -/
def four (a b c d : Int) : Value := .agg #[.int .u64 a, .int .u64 b, .int .u64 c, .int .u64 d]
theorem four_cls (k : Cl) : clsV k = four ((k 0).toNat : Int) ((k 1).toNat : Int) ((k 2).toNat : Int) ((k 3).toNat : Int) := rfl

set_option maxHeartbeats 400000 in
set_option maxRecDepth 20000 in
theorem not_walk (a b c d : Int) (w : World) :
    Calls Try.prog 109 #[.agg #[.int .u64 a, .int .u64 b, .int .u64 c, .int .u64 d]] w fun e w' => e = .returned (.agg #[.int .u64 (bits .xor .u64 IntKind.u64.max a), .int .u64 (bits .xor .u64 IntKind.u64.max b), .int .u64 (bits .xor .u64 IntKind.u64.max c), .int .u64 (bits .xor .u64 IntKind.u64.max d)]) ∧ Below w.heap.size w w' := by
  have hsg : IntKind.u64.signed = false := rfl
  go_enter Try.func109, Try.ntmps109
  go_wp2
  refine wp_loop_rounds 5 ?_
  rw [rounds_succ]
  go_wp2
  rw [rounds_succ]
  go_wp2
  rw [rounds_succ]
  go_wp2
  rw [rounds_succ]
  go_wp2
  rw [rounds_succ]
  go_wp2
  exact bodyPost_ret (v := .agg _) (by simp [results, Try.results109, go_sem]) rfl ⟨rfl, ((Below.refl _ w).alloc (Nat.le_refl _) _).alloc (by simp) _⟩

set_option maxHeartbeats 400000 in
set_option maxRecDepth 20000 in
theorem or_walk (a b c d e f g h : Int) (w : World) :
    Calls Try.prog 144 #[.agg #[.int .u64 a, .int .u64 b, .int .u64 c, .int .u64 d], .agg #[.int .u64 e, .int .u64 f, .int .u64 g, .int .u64 h]] w fun en w' => en = .returned (.agg #[.int .u64 (bits .or .u64 a e), .int .u64 (bits .or .u64 b f), .int .u64 (bits .or .u64 c g), .int .u64 (bits .or .u64 d h)]) ∧ Below w.heap.size w w' := by
  go_enter Try.func144, Try.ntmps144
  go_wp2
  refine wp_loop_rounds 5 ?_
  rw [rounds_succ]
  go_wp2
  go_region
  go_wp2
  rw [rounds_succ]
  go_wp2
  go_region
  go_wp2
  rw [rounds_succ]
  go_wp2
  go_region
  go_wp2
  rw [rounds_succ]
  go_wp2
  go_region
  go_wp2
  rw [rounds_succ]
  go_wp2
  exact bodyPost_ret (v := .agg _) (by simp [results, Try.results144, go_sem]) rfl ⟨rfl, ((((((((Below.refl _ w).alloc (Nat.le_refl _) _).alloc (by simp) _).alloc (by simp; omega) _)).drew).drew).drew).drew⟩

theorem has_word (y : BitVec 64) (x : Int) (hx0 : 0 ≤ x) : (bits BinOp.and IntKind.u64 ((y.toNat : Int) / 2 ^ (x % 64).toNat) 1 == 1) = y.getLsbD (x.toNat % 64) := by
  have e1 : ((y.toNat : Int) / 2 ^ (x % 64).toNat) = ((y >>> (x.toNat % 64)).toNat : Int) := by
    rw [BitVec.toNat_ushiftRight, Nat.shiftRight_eq_div_pow, show (x % 64).toNat = x.toNat % 64 by omega]
    simp
  have e2 : (1 : Int) = ((1#64).toNat : Int) := rfl
  rw [e1, e2, and_wd]
  rw [← BitVec.testBit_toNat, Nat.testBit_eq_decide_div_mod_eq, BitVec.toNat_and, BitVec.toNat_ushiftRight, Nat.shiftRight_eq_div_pow]
  rw [show (1#64).toNat = 1 from rfl, Nat.and_one_is_mod]
  have e : ∀ n : Nat, ((n : Int) == ((1 : Nat) : Int)) = decide (n = 1) := fun n => by
    rw [Bool.eq_iff_iff]
    simp
    omega
  rw [e]
theorem max_bv : IntKind.u64.max = ((BitVec.allOnes 64).toNat : Int) := rfl
theorem not_wd (x : BitVec 64) : bits .xor .u64 IntKind.u64.max (x.toNat : Int) = ((~~~ x).toNat : Int) := by
  rw [max_bv]
  show IntKind.u64.wrap ((BitVec.ofInt 64 ((BitVec.allOnes 64).toNat : Int) ^^^ BitVec.ofInt 64 (x.toNat : Int)).toNat : Int) = _
  rw [ofInt_nat, ofInt_nat, IntKind.wrap_u64, BitVec.allOnes_xor]
  exact Int.emod_eq_of_lt (by omega) (bv_lt _)
theorem not_any (k : Cl) (w : World) : Calls Try.prog 109 #[clsV k] w fun e w' => e = .returned (clsV (notK k)) ∧ Below w.heap.size w w' := by
  refine (not_walk ((k 0).toNat : Int) ((k 1).toNat : Int) ((k 2).toNat : Int) ((k 3).toNat : Int) w).mono fun e w' h => ⟨h.1.trans ?_, h.2⟩
  rw [not_wd, not_wd, not_wd, not_wd]
  rfl
theorem or_any (k l : Cl) (w : World) : Calls Try.prog 144 #[clsV k, clsV l] w fun e w' => e = .returned (clsV (orK k l)) ∧ Below w.heap.size w w' := by
  refine (or_walk ((k 0).toNat : Int) ((k 1).toNat : Int) ((k 2).toNat : Int) ((k 3).toNat : Int) ((l 0).toNat : Int) ((l 1).toNat : Int) ((l 2).toNat : Int) ((l 3).toNat : Int) w).mono fun e w' h => ⟨h.1.trans ?_, h.2⟩
  rw [or_wd, or_wd, or_wd, or_wd]
  rfl
set_option maxHeartbeats 400000 in
set_option maxRecDepth 20000 in
theorem has_any (k : Cl) (x : Int) (w : World) (hx0 : 0 ≤ x) (hx1 : x ≤ 255) :
    Calls Try.prog 115 #[clsV k, .int .u8 x] w fun e w' => e = .returned (.bool (has k x.toNat)) ∧ Below w.heap.size w w' := by
  obtain ⟨q, hq⟩ : ∃ q, q = x / 64 := ⟨_, rfl⟩
  have hq4 : q = 0 ∨ q = 1 ∨ q = 2 ∨ q = 3 := by omega
  obtain ⟨r, hr⟩ : ∃ r : Bool, r = has k x.toNat := ⟨_, rfl⟩
  have HR := Lib.hid hr
  rw [← hr]
  unfold clsV clsA wd
  rcases hq4 with h | h | h | h
  all_goals
    rw [h] at hq
    have hq' := hq.symm
    have hn : x.toNat / 64 = q.toNat := by omega
    rw [h] at hn
    have HN := Lib.hid hn
    clear hq hn hr
    go_enter Try.func115, Try.ntmps115
    go_wp2
    go_ret
    refine ⟨?_, (Below.refl _ w).alloc (Nat.le_refl _) _⟩
    rw [HR.out]
    show Ending.returned (.bool _) = Ending.returned (.bool _)
    rw [has_word _ _ hx0]
    unfold has
    rw [HN.out]
    rfl

theorem ret_four {a b c d a' b' c' d' : Int} (h1 : a = a') (h2 : b = b') (h3 : c = c') (h4 : d = d') :
    Ending.returned (.agg #[.int .u64 a, .int .u64 b, .int .u64 c, .int .u64 d]) = Ending.returned (.agg #[.int .u64 a', .int .u64 b', .int .u64 c', .int .u64 d']) := by rw [h1, h2, h3, h4]
/-- A word of the class of all bytes below a number, in the three forms that the call's sums come to. -/
theorem bw_zero (n : Int) (i : Nat) (h : n - 64 * i ≤ 0) : (0 : Int) = ((belowK n.toNat i).toNat : Int) := by
  unfold belowK
  rw [show n.toNat - 64 * i = 0 by omega]
  rfl
theorem bw_full (n : Int) (i : Nat) (h : 64 ≤ n - 64 * i) : IntKind.u64.wrap (IntKind.u64.wrap 18446744073709551616 - 1) = ((belowK n.toNat i).toNat : Int) := by
  unfold belowK
  rw [show min (n.toNat - 64 * i) 64 = 64 by omega]
  decide
theorem bw_mid (n m : Int) (i : Nat) (hm : m = n - 64 * i) (h0 : 0 ≤ m) (h1 : m ≤ 64) : IntKind.u64.wrap (IntKind.u64.wrap (2 ^ m.toNat) - 1) = ((belowK n.toNat i).toNat : Int) := by
  unfold belowK
  rw [show min (n.toNat - 64 * i) 64 = m.toNat by omega]
  have h : m.toNat ≤ 64 := by omega
  clear hm h0 h1
  generalize m.toNat = k at *
  have hk : ∀ k : Fin 65, IntKind.u64.wrap (IntKind.u64.wrap (2 ^ k.val) - 1) = ((BitVec.ofNat 64 (2 ^ k.val - 1)).toNat : Int) := by decide +kernel
  exact hk ⟨k, by omega⟩
set_option maxHeartbeats 1000000 in
set_option maxRecDepth 20000 in
theorem below_any (n : Int) (w : World) (hn0 : 0 ≤ n) (hn1 : n ≤ 256) :
    Calls Try.prog 88 #[.int .i64 n] w fun e w' => e = .returned (clsV (belowK n.toNat)) ∧ Below w.heap.size w w' := by
  go_enter Try.func88, Try.ntmps88
  go_wp2
  refine wp_loop_rounds 5 ?_
  rw [rounds_succ]
  go_wp2
  all_goals
    rw [rounds_succ]
    go_wp2
  all_goals
    rw [rounds_succ]
    go_wp2
  all_goals
    rw [rounds_succ]
    go_wp2
  all_goals
    rw [rounds_succ]
    go_wp2
  all_goals first
    | (exfalso; omega)
    | (refine bodyPost_ret (v := .agg _) (by simp [results, Try.results88, go_sem]; rfl) rfl ⟨?_, ((Below.refl _ w).alloc (Nat.le_refl _) _).alloc (by simp) _⟩
       refine ret_four ?_ ?_ ?_ ?_ <;> first | exact bw_zero n _ (by omega) | exact bw_full n _ (by omega) | exact bw_mid n _ _ (by omega) (by omega) (by omega))
set_option maxHeartbeats 1000000 in
set_option maxRecDepth 20000 in
theorem ones_any (y : BitVec 64) (w : World) :
    Calls Try.prog 110 #[.int .u64 (y.toNat : Int)] w fun e w' => e = .returned (.int .i64 (pop y : Int)) ∧ w = w' := by
  obtain ⟨x1, x2, x3, x4, x5, x6, h1, l1, h2, l2, l2', h3, h4, l4, h5, l5, h6, l6, hp⟩ := ones_sums y
  have wr : ∀ n : Nat, n < 18446744073709551616 → IntKind.u64.wrap (n : Int) = (n : Int) := fun n hn => by rw [IntKind.wrap_u64]; omega
  have hy := y.isLt
  have l3 : x3 < 18446744073709551616 := by rw [h3]; exact Nat.lt_of_le_of_lt Nat.and_le_right (by decide)
  have a0 : bits .and .u64 ((y.toNat : Int) / 2) 6148914691236517205 = ((y.toNat / 2 &&& 6148914691236517205 : Nat) : Int) := by
    rw [show ((y.toNat : Int) / 2) = ((y.toNat / 2 : Nat) : Int) by simp]; exact u64_and_nat _ _ (by omega) (by decide)
  have a1 : bits .and .u64 (y.toNat : Int) 6148914691236517205 = ((y.toNat &&& 6148914691236517205 : Nat) : Int) := u64_and_nat _ _ (by omega) (by decide)
  have e1 : IntKind.u64.wrap (bits .and .u64 ((y.toNat : Int) / 2) 6148914691236517205 + bits .and .u64 (y.toNat : Int) 6148914691236517205) = (x1 : Int) := by
    rw [a0, a1, ← Int.natCast_add, ← h1]; exact wr _ l1
  have b0 : bits .and .u64 ((x1 : Int) / 4) 3689348814741910323 = ((x1 / 4 &&& 3689348814741910323 : Nat) : Int) := by
    rw [show ((x1 : Int) / 4) = ((x1 / 4 : Nat) : Int) by simp]; exact u64_and_nat _ _ (by omega) (by decide)
  have b1 : bits .and .u64 (x1 : Int) 3689348814741910323 = ((x1 &&& 3689348814741910323 : Nat) : Int) := u64_and_nat _ _ l1 (by decide)
  have e2 : IntKind.u64.wrap (bits .and .u64 ((x1 : Int) / 4) 3689348814741910323 + bits .and .u64 (x1 : Int) 3689348814741910323) = (x2 : Int) := by
    rw [b0, b1, ← Int.natCast_add, ← h2]; exact wr _ l2
  have c0 : IntKind.u64.wrap ((x2 : Int) / 16 + (x2 : Int)) = ((x2 / 16 + x2 : Nat) : Int) := by
    rw [show ((x2 : Int) / 16 + (x2 : Int)) = ((x2 / 16 + x2 : Nat) : Int) by simp]; exact wr _ l2'
  have e3 : bits .and .u64 (IntKind.u64.wrap ((x2 : Int) / 16 + (x2 : Int))) 1085102592571150095 = (x3 : Int) := by
    rw [c0, h3]; exact u64_and_nat _ _ l2' (by decide)
  have e3' : bits .and .u64 ((x2 : Int) / 16 + (x2 : Int)) 1085102592571150095 = (x3 : Int) := by
    rw [← e3, c0]; simp
  have e4 : IntKind.u64.wrap ((x3 : Int) + (x3 : Int) / 256) = (x4 : Int) := by
    rw [show ((x3 : Int) + (x3 : Int) / 256) = ((x3 + x3 / 256 : Nat) : Int) by simp, ← h4]; exact wr _ l4
  have e5 : IntKind.u64.wrap ((x4 : Int) + (x4 : Int) / 65536) = (x5 : Int) := by
    rw [show ((x4 : Int) + (x4 : Int) / 65536) = ((x4 + x4 / 65536 : Nat) : Int) by simp, ← h5]; exact wr _ l5
  have e6 : IntKind.u64.wrap ((x5 : Int) + (x5 : Int) / 4294967296) = (x6 : Int) := by
    rw [show ((x5 : Int) + (x5 : Int) / 4294967296) = ((x5 + x5 / 4294967296 : Nat) : Int) by simp, ← h6]; exact wr _ (by omega)
  have e7 : bits .and .i64 (x6 : Int) 127 = (pop y : Int) := by
    rw [← hp]
    exact i64_and127 _ l6
  clear h1 h2 h3 h4 h5 h6 hp a0 a1 b0 b1 c0 wr
  have l1 := Lib.hid l1
  have l2 := Lib.hid l2
  have l2' := Lib.hid l2'
  have l4 := Lib.hid l4
  have l5 := Lib.hid l5
  have l6 := Lib.hid l6
  have l3 := Lib.hid l3
  have hy := Lib.hid hy
  obtain ⟨p, hP⟩ : ∃ p, p = pop y := ⟨_, rfl⟩
  rw [← hP] at e7 ⊢
  clear hP
  obtain ⟨z, hz⟩ : ∃ z : Int, z = (y.toNat : Int) := ⟨_, rfl⟩
  rw [← hz] at e1 ⊢
  clear hz hy
  go_enter Try.func110, Try.ntmps110
  go_wp2
  go_ret
  exact ⟨rfl, rfl⟩
end Go.Proofs.Ytolofcfegoeenaa
