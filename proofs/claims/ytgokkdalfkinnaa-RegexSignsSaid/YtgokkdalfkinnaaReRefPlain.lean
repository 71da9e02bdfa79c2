/- The document's own Plain and One, and its point. No condition. -/
import Derived.Test.YtgokkdalfkinnaaReClass
import Derived.Test.YtgokkdalfkinnaaHexHexRef
import Derived.Test.YtgokkdalfkinnaaClsRefWith
import Derived.Test.YtgokkdalfkinnaaReListed
namespace Go.Proofs.Ytgokkdalfkinnaa
open Go.RowKit Go.Lib

theorem has_zeroK (d : Nat) : has zeroK d = false := by simp [has, zeroK]
set_option maxHeartbeats 1000000 in
set_option maxRecDepth 20000 in
theorem refOne_any (x : Int) (w : World) (hx0 : 0 ≤ x) (hx1 : x ≤ 255) :
    Calls Try.prog 22 #[.int .u8 x] w fun e w' => e = .returned (clsV (oneK x.toNat)) ∧ Below w.heap.size w w' := by
  have k0 := fun w => with_any zeroK x w hx0 hx1
  have e1 : clsV (addK zeroK x.toNat) = clsV (oneK x.toNat) := clsV_ext fun d hd => by
    rw [has_add, has_one, has_zeroK, Bool.false_or]
  rw [e1] at k0
  have k : ∀ w, Calls Try.prog 48 #[.agg #[.int .u64 0, .int .u64 0, .int .u64 0, .int .u64 0], .int .u8 x] w fun e w' => e = .returned (four ((oneK x.toNat 0).toNat : Int) ((oneK x.toNat 1).toNat : Int) ((oneK x.toNat 2).toNat : Int) ((oneK x.toNat 3).toNat : Int)) ∧ Below w.heap.size w w' := k0
  clear k0 e1
  rw [four_cls]
  obtain ⟨a, ha⟩ : ∃ a, a = ((oneK x.toNat 0).toNat : Int) := ⟨_, rfl⟩
  obtain ⟨b, hb⟩ : ∃ a, a = ((oneK x.toNat 1).toNat : Int) := ⟨_, rfl⟩
  obtain ⟨c, hc⟩ : ∃ a, a = ((oneK x.toNat 2).toNat : Int) := ⟨_, rfl⟩
  obtain ⟨d, hd⟩ : ∃ a, a = ((oneK x.toNat 3).toNat : Int) := ⟨_, rfl⟩
  rw [← ha, ← hb, ← hc, ← hd] at k ⊢
  clear ha hb hc hd
  unfold four at k ⊢
  go_enter Try.func22, Try.ntmps22
  go_wp2_with (first
    | (go_at_call 48; refine (k _).mono ?_; rintro en w1 ⟨rfl, hb1⟩; clear k
       have hg0 := four_stays rfl hb1
       obtain ⟨⟨c0, c1, c2, c3⟩, f0, f1, f2, f3⟩ := res_four hg0
       have HG := Lib.hid hg0
       have H1 := Lib.hid hb1
       clear hg0 hb1))
  have hh := set_four (.int .u64 a) (.int .u64 b) (.int .u64 c) (.int .u64 d) HG.out
  have hB := below_four (((Below.refl _ w).alloc (Nat.le_refl _) _).trans (H1.out.mono (by simp))) (Nat.le_refl _) (.int .u64 a) (.int .u64 b) (.int .u64 c) (.int .u64 d)
  exact bodyPost_ret (v := .agg _) (results_cell_row (p := 2) (ty := 43) Try.results22 _ _ w.heap.size 43 _ (0, 0) _ rfl hh Try.underlying43 rfl Try.infoCls) rfl ⟨rfl, hB⟩

theorem plain_bools (c : UInt8) : (c = 32 ∨ restOk c = true) ↔ (((c.toNat : Int) = 32 ∨ (c.toNat : Int) = 95) ∨ (48 ≤ (c.toNat : Int) ∧ (c.toNat : Int) ≤ 57) ∨ (65 ≤ (c.toNat : Int) ∧ (c.toNat : Int) ≤ 90) ∨ (97 ≤ (c.toNat : Int) ∧ (c.toNat : Int) ≤ 122)) := by
  have e : c = 32 ↔ (c.toNat : Int) = 32 := by
    constructor
    · intro h; rw [h]; rfl
    · intro h; apply UInt8.toNat_inj.1; show c.toNat = 32; omega
  rw [e]
  unfold restOk isLet isFig
  simp only [Bool.or_eq_true, Bool.and_eq_true, decide_eq_true_eq]
  omega
set_option maxHeartbeats 1000000 in
set_option maxRecDepth 20000 in
theorem refPlain_any (c : UInt8) (w : World) : Calls Try.prog 21 #[.int .u8 (c.toNat : Int)] w fun e w' => e = .returned (.string ⟨(plainL c).toArray⟩) ∧ Below w.heap.size w w' := by
  have k2 : ∀ w, Calls Try.prog 47 #[.string ⟨[c].toArray⟩] w fun e w' => e = .returned (.string ⟨(hexT (⟨[c].toArray⟩ : ByteArray).data.toList).toArray⟩) ∧ Below w.heap.size w w' := fun w => refHex_any ⟨[c].toArray⟩ w (by show 1 ≤ _; decide)
  have kc := fun w => conv_new1 (P := Try.prog) 67 9 5 Try.underlying67 Try.underlying5 Try.underlying9 w (c.toNat : Int) c rfl
  obtain ⟨X, hX⟩ : ∃ X : ByteArray, X = ⟨(plainL c).toArray⟩ := ⟨_, rfl⟩
  rw [← hX]
  have hs : (⟨(hexT [c]).toArray⟩ : ByteArray).size = 3 := by simp [ByteArray.size, hexT_length]
  have hb := plain_bools c
  have hlt := c.toNat_lt
  have e1 : (⟨[c].toArray⟩ : ByteArray).data.toList = [c] := rfl
  rw [e1] at k2
  have pos : (c = 32 ∨ restOk c = true) → X = ⟨[c].toArray⟩ := fun h => by rw [hX]; unfold plainL; rw [if_pos h]
  have neg : ¬ (c = 32 ∨ restOk c = true) → X = ⟨#[92]⟩ ++ ⟨(hexT [c]).toArray⟩ := fun h => by rw [hX]; unfold plainL; rw [if_neg h]; rfl
  obtain ⟨T, hT⟩ : ∃ T : ByteArray, T = ⟨(hexT [c]).toArray⟩ := ⟨_, rfl⟩
  rw [← hT] at k2 hs neg
  rw [hb] at pos neg
  clear hX hb e1 hT
  obtain ⟨x, hx⟩ : ∃ x : Int, x = (c.toNat : Int) := ⟨_, rfl⟩
  have h0 : 0 ≤ x := by omega
  have h255 : x ≤ 255 := by omega
  rw [← hx] at kc pos neg ⊢
  clear hx hlt
  obtain ⟨C, hC⟩ : ∃ C : ByteArray, C = ⟨[c].toArray⟩ := ⟨_, rfl⟩
  rw [← hC] at k2 pos
  have hC2 : (⟨#[c]⟩ : ByteArray) = C := hC.symm
  have HC := Lib.hid hC
  clear hC
  have HP := Lib.hid pos
  have HN := Lib.hid neg
  clear pos neg
  have hR : (0 ≤ x ∧ x ≤ 31) ∨ (32 ≤ x ∧ x ≤ 32) ∨ (33 ≤ x ∧ x ≤ 47) ∨ (48 ≤ x ∧ x ≤ 57) ∨ (58 ≤ x ∧ x ≤ 64) ∨ (65 ≤ x ∧ x ≤ 90) ∨ (91 ≤ x ∧ x ≤ 94) ∨ (95 ≤ x ∧ x ≤ 95) ∨ (96 ≤ x ∧ x ≤ 96) ∨ (97 ≤ x ∧ x ≤ 122) ∨ (123 ≤ x ∧ x ≤ 255) := by omega
  rcases hR with ⟨hl, hh⟩ | ⟨hl, hh⟩ | ⟨hl, hh⟩ | ⟨hl, hh⟩ | ⟨hl, hh⟩ | ⟨hl, hh⟩ | ⟨hl, hh⟩ | ⟨hl, hh⟩ | ⟨hl, hh⟩ | ⟨hl, hh⟩ | ⟨hl, hh⟩
  · have b1 : (x == 32) = false := by rw [beq_eq_false_iff_ne]; omega
    have b2 : (x == 95) = false := by rw [beq_eq_false_iff_ne]; omega
    have b3 : decide (48 ≤ x) = false := by rw [decide_eq_false_iff_not]; omega
    have b4 : decide (x ≤ 57) = true := by rw [decide_eq_true_eq]; omega
    have b5 : decide (65 ≤ x) = false := by rw [decide_eq_false_iff_not]; omega
    have b6 : decide (x ≤ 90) = true := by rw [decide_eq_true_eq]; omega
    have b7 : decide (97 ≤ x) = false := by rw [decide_eq_false_iff_not]; omega
    have b8 : decide (x ≤ 122) = true := by rw [decide_eq_true_eq]; omega
    have HX := Lib.hid (HN.out (by omega))
    clear hl hh HP HN
    go_enter Try.func21, Try.ntmps21
    go_wp2_with (first
      | (go_at_call 47; refine (k2 _).mono ?_; rintro e w1 ⟨rfl, hb1⟩)
      | fail)
    exact bodyPost_ret (results_tmp rfl _ _ _) rfl ⟨by rw [HX.out]; rfl, ((Below.refl _ w).alloc (Nat.le_refl _) _).trans (hb1.mono (by simp))⟩
  · have b1 : (x == 32) = true := by rw [beq_iff_eq]; omega
    have b2 : (x == 95) = false := by rw [beq_eq_false_iff_ne]; omega
    have b3 : decide (48 ≤ x) = false := by rw [decide_eq_false_iff_not]; omega
    have b4 : decide (x ≤ 57) = true := by rw [decide_eq_true_eq]; omega
    have b5 : decide (65 ≤ x) = false := by rw [decide_eq_false_iff_not]; omega
    have b6 : decide (x ≤ 90) = true := by rw [decide_eq_true_eq]; omega
    have b7 : decide (97 ≤ x) = false := by rw [decide_eq_false_iff_not]; omega
    have b8 : decide (x ≤ 122) = true := by rw [decide_eq_true_eq]; omega
    have HX := Lib.hid (HP.out (by omega))
    clear hl hh HP HN
    go_enter Try.func21, Try.ntmps21
    go_wp2_with (first
      | (go_at_call 47; refine (k2 _).mono ?_; rintro e w1 ⟨rfl, hb1⟩)
      | fail)
    exact bodyPost_ret (results_tmp rfl _ _ _) rfl ⟨by rw [HX.out]; rfl, (Below.refl _ w).alloc (Nat.le_refl _) _⟩
  · have b1 : (x == 32) = false := by rw [beq_eq_false_iff_ne]; omega
    have b2 : (x == 95) = false := by rw [beq_eq_false_iff_ne]; omega
    have b3 : decide (48 ≤ x) = false := by rw [decide_eq_false_iff_not]; omega
    have b4 : decide (x ≤ 57) = true := by rw [decide_eq_true_eq]; omega
    have b5 : decide (65 ≤ x) = false := by rw [decide_eq_false_iff_not]; omega
    have b6 : decide (x ≤ 90) = true := by rw [decide_eq_true_eq]; omega
    have b7 : decide (97 ≤ x) = false := by rw [decide_eq_false_iff_not]; omega
    have b8 : decide (x ≤ 122) = true := by rw [decide_eq_true_eq]; omega
    have HX := Lib.hid (HN.out (by omega))
    clear hl hh HP HN
    go_enter Try.func21, Try.ntmps21
    go_wp2_with (first
      | (go_at_call 47; refine (k2 _).mono ?_; rintro e w1 ⟨rfl, hb1⟩)
      | fail)
    exact bodyPost_ret (results_tmp rfl _ _ _) rfl ⟨by rw [HX.out]; rfl, ((Below.refl _ w).alloc (Nat.le_refl _) _).trans (hb1.mono (by simp))⟩
  · have b1 : (x == 32) = false := by rw [beq_eq_false_iff_ne]; omega
    have b2 : (x == 95) = false := by rw [beq_eq_false_iff_ne]; omega
    have b3 : decide (48 ≤ x) = true := by rw [decide_eq_true_eq]; omega
    have b4 : decide (x ≤ 57) = true := by rw [decide_eq_true_eq]; omega
    have b5 : decide (65 ≤ x) = false := by rw [decide_eq_false_iff_not]; omega
    have b6 : decide (x ≤ 90) = true := by rw [decide_eq_true_eq]; omega
    have b7 : decide (97 ≤ x) = false := by rw [decide_eq_false_iff_not]; omega
    have b8 : decide (x ≤ 122) = true := by rw [decide_eq_true_eq]; omega
    have HX := Lib.hid (HP.out (by omega))
    clear hl hh HP HN
    go_enter Try.func21, Try.ntmps21
    go_wp2_with (first
      | (go_at_call 47; refine (k2 _).mono ?_; rintro e w1 ⟨rfl, hb1⟩)
      | fail)
    exact bodyPost_ret (results_tmp rfl _ _ _) rfl ⟨by rw [HX.out]; rfl, (Below.refl _ w).alloc (Nat.le_refl _) _⟩
  · have b1 : (x == 32) = false := by rw [beq_eq_false_iff_ne]; omega
    have b2 : (x == 95) = false := by rw [beq_eq_false_iff_ne]; omega
    have b3 : decide (48 ≤ x) = true := by rw [decide_eq_true_eq]; omega
    have b4 : decide (x ≤ 57) = false := by rw [decide_eq_false_iff_not]; omega
    have b5 : decide (65 ≤ x) = false := by rw [decide_eq_false_iff_not]; omega
    have b6 : decide (x ≤ 90) = true := by rw [decide_eq_true_eq]; omega
    have b7 : decide (97 ≤ x) = false := by rw [decide_eq_false_iff_not]; omega
    have b8 : decide (x ≤ 122) = true := by rw [decide_eq_true_eq]; omega
    have HX := Lib.hid (HN.out (by omega))
    clear hl hh HP HN
    go_enter Try.func21, Try.ntmps21
    go_wp2_with (first
      | (go_at_call 47; refine (k2 _).mono ?_; rintro e w1 ⟨rfl, hb1⟩)
      | fail)
    exact bodyPost_ret (results_tmp rfl _ _ _) rfl ⟨by rw [HX.out]; rfl, ((Below.refl _ w).alloc (Nat.le_refl _) _).trans (hb1.mono (by simp))⟩
  · have b1 : (x == 32) = false := by rw [beq_eq_false_iff_ne]; omega
    have b2 : (x == 95) = false := by rw [beq_eq_false_iff_ne]; omega
    have b3 : decide (48 ≤ x) = true := by rw [decide_eq_true_eq]; omega
    have b4 : decide (x ≤ 57) = false := by rw [decide_eq_false_iff_not]; omega
    have b5 : decide (65 ≤ x) = true := by rw [decide_eq_true_eq]; omega
    have b6 : decide (x ≤ 90) = true := by rw [decide_eq_true_eq]; omega
    have b7 : decide (97 ≤ x) = false := by rw [decide_eq_false_iff_not]; omega
    have b8 : decide (x ≤ 122) = true := by rw [decide_eq_true_eq]; omega
    have HX := Lib.hid (HP.out (by omega))
    clear hl hh HP HN
    go_enter Try.func21, Try.ntmps21
    go_wp2_with (first
      | (go_at_call 47; refine (k2 _).mono ?_; rintro e w1 ⟨rfl, hb1⟩)
      | fail)
    exact bodyPost_ret (results_tmp rfl _ _ _) rfl ⟨by rw [HX.out]; rfl, (Below.refl _ w).alloc (Nat.le_refl _) _⟩
  · have b1 : (x == 32) = false := by rw [beq_eq_false_iff_ne]; omega
    have b2 : (x == 95) = false := by rw [beq_eq_false_iff_ne]; omega
    have b3 : decide (48 ≤ x) = true := by rw [decide_eq_true_eq]; omega
    have b4 : decide (x ≤ 57) = false := by rw [decide_eq_false_iff_not]; omega
    have b5 : decide (65 ≤ x) = true := by rw [decide_eq_true_eq]; omega
    have b6 : decide (x ≤ 90) = false := by rw [decide_eq_false_iff_not]; omega
    have b7 : decide (97 ≤ x) = false := by rw [decide_eq_false_iff_not]; omega
    have b8 : decide (x ≤ 122) = true := by rw [decide_eq_true_eq]; omega
    have HX := Lib.hid (HN.out (by omega))
    clear hl hh HP HN
    go_enter Try.func21, Try.ntmps21
    go_wp2_with (first
      | (go_at_call 47; refine (k2 _).mono ?_; rintro e w1 ⟨rfl, hb1⟩)
      | fail)
    exact bodyPost_ret (results_tmp rfl _ _ _) rfl ⟨by rw [HX.out]; rfl, ((Below.refl _ w).alloc (Nat.le_refl _) _).trans (hb1.mono (by simp))⟩
  · have b1 : (x == 32) = false := by rw [beq_eq_false_iff_ne]; omega
    have b2 : (x == 95) = true := by rw [beq_iff_eq]; omega
    have b3 : decide (48 ≤ x) = true := by rw [decide_eq_true_eq]; omega
    have b4 : decide (x ≤ 57) = false := by rw [decide_eq_false_iff_not]; omega
    have b5 : decide (65 ≤ x) = true := by rw [decide_eq_true_eq]; omega
    have b6 : decide (x ≤ 90) = false := by rw [decide_eq_false_iff_not]; omega
    have b7 : decide (97 ≤ x) = false := by rw [decide_eq_false_iff_not]; omega
    have b8 : decide (x ≤ 122) = true := by rw [decide_eq_true_eq]; omega
    have HX := Lib.hid (HP.out (by omega))
    clear hl hh HP HN
    go_enter Try.func21, Try.ntmps21
    go_wp2_with (first
      | (go_at_call 47; refine (k2 _).mono ?_; rintro e w1 ⟨rfl, hb1⟩)
      | fail)
    exact bodyPost_ret (results_tmp rfl _ _ _) rfl ⟨by rw [HX.out]; rfl, (Below.refl _ w).alloc (Nat.le_refl _) _⟩
  · have b1 : (x == 32) = false := by rw [beq_eq_false_iff_ne]; omega
    have b2 : (x == 95) = false := by rw [beq_eq_false_iff_ne]; omega
    have b3 : decide (48 ≤ x) = true := by rw [decide_eq_true_eq]; omega
    have b4 : decide (x ≤ 57) = false := by rw [decide_eq_false_iff_not]; omega
    have b5 : decide (65 ≤ x) = true := by rw [decide_eq_true_eq]; omega
    have b6 : decide (x ≤ 90) = false := by rw [decide_eq_false_iff_not]; omega
    have b7 : decide (97 ≤ x) = false := by rw [decide_eq_false_iff_not]; omega
    have b8 : decide (x ≤ 122) = true := by rw [decide_eq_true_eq]; omega
    have HX := Lib.hid (HN.out (by omega))
    clear hl hh HP HN
    go_enter Try.func21, Try.ntmps21
    go_wp2_with (first
      | (go_at_call 47; refine (k2 _).mono ?_; rintro e w1 ⟨rfl, hb1⟩)
      | fail)
    exact bodyPost_ret (results_tmp rfl _ _ _) rfl ⟨by rw [HX.out]; rfl, ((Below.refl _ w).alloc (Nat.le_refl _) _).trans (hb1.mono (by simp))⟩
  · have b1 : (x == 32) = false := by rw [beq_eq_false_iff_ne]; omega
    have b2 : (x == 95) = false := by rw [beq_eq_false_iff_ne]; omega
    have b3 : decide (48 ≤ x) = true := by rw [decide_eq_true_eq]; omega
    have b4 : decide (x ≤ 57) = false := by rw [decide_eq_false_iff_not]; omega
    have b5 : decide (65 ≤ x) = true := by rw [decide_eq_true_eq]; omega
    have b6 : decide (x ≤ 90) = false := by rw [decide_eq_false_iff_not]; omega
    have b7 : decide (97 ≤ x) = true := by rw [decide_eq_true_eq]; omega
    have b8 : decide (x ≤ 122) = true := by rw [decide_eq_true_eq]; omega
    have HX := Lib.hid (HP.out (by omega))
    clear hl hh HP HN
    go_enter Try.func21, Try.ntmps21
    go_wp2_with (first
      | (go_at_call 47; refine (k2 _).mono ?_; rintro e w1 ⟨rfl, hb1⟩)
      | fail)
    exact bodyPost_ret (results_tmp rfl _ _ _) rfl ⟨by rw [HX.out]; rfl, (Below.refl _ w).alloc (Nat.le_refl _) _⟩
  · have b1 : (x == 32) = false := by rw [beq_eq_false_iff_ne]; omega
    have b2 : (x == 95) = false := by rw [beq_eq_false_iff_ne]; omega
    have b3 : decide (48 ≤ x) = true := by rw [decide_eq_true_eq]; omega
    have b4 : decide (x ≤ 57) = false := by rw [decide_eq_false_iff_not]; omega
    have b5 : decide (65 ≤ x) = true := by rw [decide_eq_true_eq]; omega
    have b6 : decide (x ≤ 90) = false := by rw [decide_eq_false_iff_not]; omega
    have b7 : decide (97 ≤ x) = true := by rw [decide_eq_true_eq]; omega
    have b8 : decide (x ≤ 122) = false := by rw [decide_eq_false_iff_not]; omega
    have HX := Lib.hid (HN.out (by omega))
    clear hl hh HP HN
    go_enter Try.func21, Try.ntmps21
    go_wp2_with (first
      | (go_at_call 47; refine (k2 _).mono ?_; rintro e w1 ⟨rfl, hb1⟩)
      | fail)
    exact bodyPost_ret (results_tmp rfl _ _ _) rfl ⟨by rw [HX.out]; rfl, ((Below.refl _ w).alloc (Nat.le_refl _) _).trans (hb1.mono (by simp))⟩
end Go.Proofs.Ytgokkdalfkinnaa
