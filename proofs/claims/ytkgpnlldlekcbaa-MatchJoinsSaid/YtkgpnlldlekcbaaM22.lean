/- Packed texts: ClsRefHas, ClsRefWith. What each of them proves stands above its theorems; the conditions stand in these. -/
import Derived.Test.YtkgpnlldlekcbaaM2
import Derived.Test.YtkgpnlldlekcbaaM5
namespace Go.Proofs.Ytkgpnlldlekcbaa
open Go.RowKit Go.Lib

theorem word_bit (y : BitVec 64) (n : Nat) : ((IntKind.u64.wrap ((y.toNat : Int) / ((2 ^ n : Nat) : Int))).tmod 2 == 1) = y.getLsbD n := by
  have h1 : ((y.toNat : Int) / ((2 ^ n : Nat) : Int)) = ((y.toNat / 2 ^ n : Nat) : Int) := by rw [Int.natCast_ediv]
  have h2 : y.toNat / 2 ^ n < 18446744073709551616 := Nat.lt_of_le_of_lt (Nat.div_le_self _ _) y.isLt
  have h3 : y.getLsbD n = decide (y.toNat / 2 ^ n % 2 = 1) := by rw [← BitVec.testBit_toNat, Nat.testBit_eq_decide_div_mod_eq]
  rw [h1, h3]
  generalize y.toNat / 2 ^ n = d at h2
  rw [IntKind.wrap_u64, Int.emod_eq_of_lt (by omega) (by omega), Int.tmod_eq_emod_of_nonneg (by omega), Bool.eq_iff_iff]
  simp only [beq_iff_eq, decide_eq_true_eq]
  omega
theorem bit_wrap (x : Int) (hx0 : 0 ≤ x) : IntKind.u64.wrap (2 ^ (x % 64).toNat) = ((2 ^ (x.toNat % 64) : Nat) : Int) := by
  have h : (x % 64).toNat = x.toNat % 64 := by omega
  have h2 : 2 ^ (x.toNat % 64) ≤ 2 ^ 63 := Nat.pow_le_pow_right (by omega) (by omega)
  have h3 : (2 : Nat) ^ 63 < 18446744073709551616 := by decide
  rw [h, IntKind.wrap_u64, show ((2 : Int) ^ (x.toNat % 64)) = ((2 ^ (x.toNat % 64) : Nat) : Int) by simp]
  generalize 2 ^ (x.toNat % 64) = p at h2
  exact Int.emod_eq_of_lt (by omega) (by omega)

set_option maxHeartbeats 800000 in
set_option maxRecDepth 20000 in
theorem refHas_any (k : Cl) (x : Int) (w : World) (hx0 : 0 ≤ x) (hx1 : x ≤ 255) :
    Calls Try.prog 57 #[clsV k, .int .u8 x] w fun e w' => e = .returned (.bool (has k x.toNat)) ∧ Below w.heap.size w w' := by
  obtain ⟨q, hq⟩ : ∃ q, q = x / 64 := ⟨_, rfl⟩
  have hq4 : q = 0 ∨ q = 1 ∨ q = 2 ∨ q = 3 := by omega
  obtain ⟨r, hr⟩ : ∃ r : Bool, r = has k x.toNat := ⟨_, rfl⟩
  have HR := Lib.hid hr
  rw [← hr]
  obtain ⟨P, hP⟩ : ∃ P, P = IntKind.u64.wrap (2 ^ (x % 64).toNat) := ⟨_, rfl⟩
  have HP := Lib.hid (hP.trans (bit_wrap x hx0))
  have hP0 : ¬ P = 0 := by
    have := Nat.two_pow_pos (x.toNat % 64)
    have h := HP.out
    omega
  have hP' := hP.symm
  clear hP
  unfold clsV clsA wd
  rcases hq4 with h | h | h | h
  all_goals
    rw [h] at hq
    have hq' := hq.symm
    have hn : x.toNat / 64 = q.toNat := by omega
    rw [h] at hn
    have HN := Lib.hid hn
    clear hq hn hr
    go_enter Try.func57, Try.ntmps57
    go_wp2
    go_ret
    refine ⟨?_, (Below.refl _ w).alloc (Nat.le_refl _) _⟩
    rw [HR.out]
    show Ending.returned (.bool _) = Ending.returned (.bool _)
    rw [HP.out, word_bit]
    unfold has
    rw [HN.out]
    rfl
end Go.Proofs.Ytkgpnlldlekcbaa
namespace Go.Proofs.Ytkgpnlldlekcbaa
open Go.RowKit Go.Lib

/-- A class with a byte. -/
def addK (k : Cl) (x : Nat) : Cl := fun i => if i = x / 64 then k i ||| BitVec.twoPow 64 (x % 64) else k i
theorem has_add (k : Cl) (x d : Nat) : has (addK k x) d = (has k d || decide (d = x)) := by
  unfold has addK
  split
  · rename_i h
    rw [BitVec.getLsbD_or, BitVec.getLsbD_twoPow]
    congr 1
    rw [Bool.eq_iff_iff]
    simp only [Bool.and_eq_true, decide_eq_true_eq]
    omega
  · rename_i h
    rw [show decide (d = x) = false by rw [decide_eq_false_iff_not]; intro e; exact h (by rw [e]), Bool.or_false]
theorem add_word (y : BitVec 64) (n : Nat) (hn : n < 64) (h : y.getLsbD n = false) : IntKind.u64.wrap ((y.toNat : Int) + ((2 ^ n : Nat) : Int)) = ((y ||| BitVec.twoPow 64 n).toNat : Int) := by
  have h1 : y &&& BitVec.twoPow 64 n = 0#64 := by rw [BitVec.and_twoPow, h]; rfl
  have h2 : 2 ^ n < 2 ^ 64 := Nat.pow_lt_pow_right (by omega) hn
  have h3 : (2 : Nat) ^ 64 = 18446744073709551616 := by decide
  rw [← BitVec.add_eq_or_of_and_eq_zero _ _ h1, BitVec.toNat_add, BitVec.toNat_twoPow, IntKind.wrap_u64, Nat.mod_eq_of_lt h2]
  generalize 2 ^ n = p at h2
  rw [h3]
  omega
theorem add_on (k : Cl) (x i : Nat) (hi : i = x / 64) (h : has k x = false) : IntKind.u64.wrap (((k i).toNat : Int) + ((2 ^ (x % 64) : Nat) : Int)) = ((addK k x i).toNat : Int) := by
  unfold has at h
  rw [← hi] at h
  rw [add_word _ _ (Nat.mod_lt _ (by omega)) h]
  unfold addK
  rw [if_pos hi]
theorem add_at (k : Cl) (x i : Nat) (hi : ¬ i = x / 64) : ((k i).toNat : Int) = ((addK k x i).toNat : Int) := by
  unfold addK
  rw [if_neg hi]
theorem add_same (k : Cl) (x : Nat) (h : has k x = true) : clsV (addK k x) = clsV k := clsV_ext fun d _ => by
  rw [has_add]
  by_cases hd : d = x
  · subst hd
    rw [h]
    rfl
  · rw [decide_eq_false hd, Bool.or_false]

theorem two_boxes {w w1 : World} {A B : Array Value} {t u : TypeId} (h : Below ((w.alloc (.cells A t)).alloc (.cells B u)).heap.size ((w.alloc (.cells A t)).alloc (.cells B u)) w1) :
    w1.heap[w.heap.size]? = some (.cells A t (0, 0)) ∧ w1.heap[w.heap.size + 1]? = some (.cells B u (0, 0)) ∧ Below w.heap.size w w1 := by
  refine ⟨(h.block _ (by simp; omega)).trans ((Below.heap_alloc (w.alloc (.cells A t)) _ (w.heap.size) (by simp)).trans (heap_alloc_new w _)), (h.block _ (by simp)).trans ?_, (((Below.refl _ w).alloc (Nat.le_refl _) _).alloc (by simp) _).trans (h.mono (by simp; omega))⟩
  have := heap_alloc_new (w.alloc (.cells A t)) (.cells B u)
  rwa [World.size_alloc] at this

set_option maxHeartbeats 2000000 in
set_option maxRecDepth 20000 in
theorem with_any (k : Cl) (x : Int) (w : World) (hx0 : 0 ≤ x) (hx1 : x ≤ 255) :
    Calls Try.prog 51 #[clsV k, .int .u8 x] w fun e w' => e = .returned (clsV (addK k x.toNat)) ∧ Below w.heap.size w w' := by
  have k1 : ∀ Z, Calls Try.prog 57 #[.agg #[.int .u64 ((k 0).toNat : Int), .int .u64 ((k 1).toNat : Int), .int .u64 ((k 2).toNat : Int), .int .u64 ((k 3).toNat : Int)], .int .u8 x] Z fun e w' => e = .returned (.bool (has k x.toNat)) ∧ Below Z.heap.size Z w' := fun Z => refHas_any k x Z hx0 hx1
  cases hr : has k x.toNat
  · rw [hr] at k1
    obtain ⟨q, hq⟩ : ∃ q, q = x / 64 := ⟨_, rfl⟩
    have hq4 : q = 0 ∨ q = 1 ∨ q = 2 ∨ q = 3 := by omega
    obtain ⟨P, hP⟩ : ∃ P, P = IntKind.u64.wrap (2 ^ (x % 64).toNat) := ⟨_, rfl⟩
    have HP := Lib.hid (hP.trans (bit_wrap x hx0))
    have hP' := hP.symm
    have HR := Lib.hid hr
    obtain ⟨E, hE⟩ : ∃ E : Ending, E = .returned (clsV (addK k x.toNat)) := ⟨_, rfl⟩
    have HE := Lib.hid hE
    rw [← hE]
    unfold clsV clsA wd
    clear hP hr hE
    rcases hq4 with h | h | h | h
    all_goals
      rw [h] at hq
      have hq' := hq.symm
      have hn : x.toNat / 64 = q.toNat := by omega
      rw [h] at hn
      have HN := Lib.hid hn
      clear hq hn
      go_enter Try.func51, Try.ntmps51
      go_wp2_with (first
        | (go_at_call 57; refine (k1 _).mono ?_; rintro en w1 ⟨rfl, hb1⟩; clear k1
           obtain ⟨hg0, hg1, hb1⟩ := two_boxes hb1
           obtain ⟨⟨c0, c1, c2, c3⟩, f0, f1, f2, f3⟩ := res_four hg0
           obtain ⟨⟨d0, d1, d2, d3⟩, e0, e1, e2, e3⟩ := res_four hg1
           have HG := Lib.hid hg0
           have HG1 := Lib.hid hg1
           have H1 := Lib.hid hb1
           clear hg0 hg1 hb1))
      refine bodyPost_ret (v := .agg _) (results_cell_row (p := 4) (ty := 47) Try.results51 _ _ (w.heap.size + 1) 47 _ (0, 0) _ rfl
        (set_four _ _ _ _ ((Below.heap_setCell w1 _ _ _ (by simp)).trans HG1.out)) Try.underlying47 rfl Try.infoCls) rfl ⟨?_, below_four (H1.out.setCell (Nat.le_refl _) _) (by omega) _ _ _ _⟩
      rw [HE.out, HP.out]
      refine ret_four ?_ ?_ ?_ ?_
      all_goals first | exact add_on k _ _ (by rw [HN.out]; rfl) HR.out | exact add_at k _ _ (by rw [HN.out]; decide)
  · rw [hr] at k1
    obtain ⟨E, hE⟩ : ∃ E : Ending, E = .returned (clsV (addK k x.toNat)) := ⟨_, rfl⟩
    have HE := Lib.hid (hE.trans (by rw [add_same k _ hr]))
    rw [← hE]
    unfold clsV clsA wd
    clear hE
    go_enter Try.func51, Try.ntmps51
    go_wp2_with (first
      | (go_at_call 57; refine (k1 _).mono ?_; rintro en w1 ⟨rfl, hb1⟩; clear k1
         obtain ⟨hg0, hg1, hb1⟩ := two_boxes hb1
         obtain ⟨⟨c0, c1, c2, c3⟩, f0, f1, f2, f3⟩ := res_four hg0
         obtain ⟨⟨d0, d1, d2, d3⟩, e0, e1, e2, e3⟩ := res_four hg1
         have HG := Lib.hid hg0
         have HG1 := Lib.hid hg1
         have H1 := Lib.hid hb1
         clear hg0 hg1 hb1))
    refine bodyPost_ret (v := .agg _) (results_cell_row (p := 4) (ty := 47) Try.results51 _ _ (w.heap.size + 1) 47 _ (0, 0) _ rfl
      (set_four _ _ _ _ HG1.out) Try.underlying47 rfl Try.infoCls) rfl ⟨?_, below_four H1.out (by omega) _ _ _ _⟩
    rw [HE.out]
    rfl
end Go.Proofs.Ytkgpnlldlekcbaa
