/- The document's Float, walked where the float is nearer to 0 than 10^15. -/
import Derived.Test.YtokfkckfclnoaaaDoorFloatRefEarly
import Derived.Test.YtokfkckfclnoaaaDoorDecRefHalf
namespace Go.Proofs.YtokfkckfclnoaaaDoor
open Go.RowKit

theorem times_two (neg : Bool) (X bit : Nat) (w : World) (hb : bit ≤ 1) :
    Calls Tryd.prog 50 #[.agg (intC neg (digs 12 (X : Int))), .int .u64 2, .int .u64 (bit : Int)] w fun e w' => e = .returned (.agg (intC neg (digs 12 ((X * 2 + bit : Nat) : Int)))) ∧ Below w.heap.size w w' :=
  timesB neg X 2 bit w (by omega) (by omega) (by omega) (by omega)
theorem times_mill (neg : Bool) (X : Nat) (w : World) :
    Calls Tryd.prog 50 #[.agg (intC neg (digs 12 (X : Int))), .int .u64 1000000, .int .u64 0] w fun e w' => e = .returned (.agg (intC neg (digs 12 ((X * 1000000 : Nat) : Int)))) ∧ Below w.heap.size w w' :=
  (timesB neg X 1000000 0 w (by omega) (by omega) (by omega) (by omega)).mono fun e w' h => ⟨h.1.trans (by rw [Int.add_zero]; rfl), h.2⟩
theorem half_two (neg : Bool) (V : Nat) (w : World) (hV : (V : Int) < wide 12) :
    Calls Tryd.prog 74 #[.agg (intC neg (digs 12 (V : Int)))] w fun e w' => e = .returned (.agg (intC neg (digs 12 ((V / 2 : Nat) : Int)))) ∧ Below w.heap.size w w' :=
  (half_any neg (digs 12 V) w (digs_length 12 _) (digs_fig 12 _)).mono fun e w' h => ⟨h.1.trans (by
    rw [valL_digs, Int.emod_eq_of_lt (by omega) hV]; rfl), h.2⟩
theorem start_row (neg : Bool) (W : Nat) (hW : W < 18446744073709551616) : (#[.bool neg, .int .u64 ((W : Int) % 4294967296), .int .u64 ((W : Int) / 4294967296), .int .u64 0, .int .u64 0, .int .u64 0, .int .u64 0, .int .u64 0, .int .u64 0, .int .u64 0, .int .u64 0, .int .u64 0, .int .u64 0] : Array Value) = intC neg (digs 12 (W : Int)) := by
  rw [digs_small _ (by omega) (by omega)]; rfl
theorem inv_step {X U R n i L : Nat} (h : (X * U + R) * 2 ^ n = L * 2 ^ 120) (hn : n + i = 120) (hi : i < 120) (bit R2 : Nat) (hR : R2 + bit * U = 2 * R) : ((X * 2 + bit) * U + R2) * 2 ^ (n - 1) = L * 2 ^ 120 := by
  obtain ⟨k, rfl⟩ : ∃ k, n = k + 1 := ⟨n - 1, by omega⟩
  rw [← h, Nat.add_sub_cancel, Nat.pow_succ]
  have : (X * 2 + bit) * U + R2 = (X * U + R) * 2 := by rw [Nat.add_mul, Nat.add_mul, Nat.mul_right_comm]; omega
  rw [this, Nat.mul_assoc, Nat.mul_comm 2]
theorem half_step {V n i Y : Nat} (h : V / 2 ^ n = Y) (hn : n + i = 120) (hi : i < 120) : V / 2 / 2 ^ (n - 1) = Y := by
  obtain ⟨k, rfl⟩ : ∃ k, n = k + 1 := ⟨n - 1, by omega⟩
  rw [← h, Nat.add_sub_cancel, Nat.div_div_eq_div_mul, Nat.pow_succ, Nat.mul_comm]
theorem inv_wide {X U R L : Nat} (_hU : 0 < U) (h : X * U + R = L * 2 ^ 120) (hL : L < 1000000000000000 * U) : ((X * 1000000 : Nat) : Int) < wide 12 := by
  have hw : wide 12 = 39402006196394479212279040100143613805079739270465446667948293404245721771497210611414266254884915640806627990306816 := by decide +kernel
  have hX : X < 1000000000000000 * 2 ^ 120 := by
    refine Nat.lt_of_not_le fun hn => ?_
    have h1 : 1000000000000000 * 2 ^ 120 * U ≤ X * U := Nat.mul_le_mul_right _ hn
    have h2 : L * 2 ^ 120 < 1000000000000000 * U * 2 ^ 120 := Nat.mul_lt_mul_of_pos_right hL (Nat.two_pow_pos 120)
    rw [Nat.mul_right_comm] at h2
    omega
  rw [hw]
  omega

set_option maxHeartbeats 4000000 in
set_option maxRecDepth 100000 in
theorem refFloat_walk (b c q p0 L U W R : Nat) (neg : Bool) (E : Ending) (w : World) (h : (FloatKind.f64.format.order b b != some .eq) = false)
    (h2 : (FloatKind.f64.format.order b 9094988921128908188 == some .gt) = false) (h3 : (FloatKind.f64.format.order b 18318360957983683996 == some .lt) = false)
    (h4 : (FloatKind.f64.format.order b 0 == some .lt) = neg) (H5 : Hid ((neg = true ∧ FloatKind.f64.format.sub 0 b = some c) ∨ (neg = false ∧ b = c)))
    (h6 : (FloatKind.f64.format.order c 4831355200913801216 == some .gt || FloatKind.f64.format.order c 4831355200913801216 == some .eq) = false)
    (h7 : floatToIntVal .f64 c .u64 = some (W : Int)) (h8 : floatOfInt .f64 (W : Int) = q) (h9 : FloatKind.f64.format.sub c q = some p0) (HR : Hid (Rest U p0 R)) (HU : Hid (U = 2 ^ 1074)) (HL : Hid (L = W * U + R)) (hW : W < 1000000000000000)
    (HE : Hid (∀ X R', X * U + R' = L * 2 ^ 120 → R' < U → E = .returned (.tuple #[.int .i64 (backP neg ((X * 1000000 / 2 ^ 120 : Nat) : Int)).1, .int .i64 (backP neg ((X * 1000000 / 2 ^ 120 : Nat) : Int)).2])))
    (HLW : Hid (L < 1000000000000000 * U)) (HUp : Hid (0 < U)) :
    Calls Tryd.prog 32 #[.float .f64 b] w fun e w' => e = E ∧ Below w.heap.size w w' := by
  have k7 := fun (w : World) => run_convert_float_int (P := Tryd.prog) w 38 66 .f64 .u64 c W (by kernel_rfl) (by kernel_rfl) h7
  have k9 := fun (w : World) (t : TypeId) => run_float_arith (P := Tryd.prog) w .sub t .f64 c q p0 h9
  clear h7 h9
  go_enter Tryd.func32, Tryd.ntmps32
  go_upto_if 23 with fail
  go_cut [0] (fun s0 wx => s0 = .float .f64 c ∧ (w.alloc (.cells #[.bool neg, .int .u64 0, .int .u64 0, .int .u64 0, .int .u64 0, .int .u64 0, .int .u64 0, .int .u64 0, .int .u64 0, .int .u64 0, .int .u64 0, .int .u64 0, .int .u64 0] 69)) = wx)
  case first =>
    rcases H5.out with ⟨rfl, h5⟩ | ⟨rfl, rfl⟩
    · have k3 := fun (w : World) (t : TypeId) => run_float_arith (P := Tryd.prog) w .sub t .f64 0 b c h5
      go_wp2
      go_meet
      case rel => exact ⟨rfl, rfl⟩
    · go_wp2
      go_meet
      case rel => exact ⟨rfl, rfl⟩
  case rest =>
    obtain ⟨rfl, rfl⟩ := hcut
    clear h h2 h3 h4 H5
    go_upto_block 0 with fail
    go_cut [6] (fun _ wx => ∃ X R' : Nat, Hid (X * U + R' = L * 2 ^ 120) ∧ Hid (R' < U) ∧ wx.heap[w.heap.size]? = some (.cells (intC neg (digs 12 (X : Int))) 69 (0, 0)) ∧ Below w.heap.size w wx)
    case first =>
      go_wp2
      go_loopg [7, 6] 120 (fun n s7 s6 wr => ∃ X R' p' i : Nat, Hid (n + i = 120) ∧ i ≤ 120 ∧ s7 = .int .i64 (i : Int) ∧ s6 = .float .f64 p' ∧ Hid (Rest U p' R') ∧ Hid ((X * U + R') * 2 ^ n = L * 2 ^ 120) ∧ Hid (wr.heap[w.heap.size]? = some (.cells (intC neg (digs 12 (X : Int))) 69 (0, 0))) ∧ Hid (Below w.heap.size w wr))
      case atStart => exact ⟨W, R, p0, 0, by show _ = _; rfl, by omega, rfl, rfl, HR.out, by show _ = _; rw [HL.out], by show _ = _; rw [← start_row neg W (by omega)]; exact heap_alloc_new _ _, (Below.refl _ _).alloc (Nat.le_refl _) _⟩
      case round =>
        obtain ⟨X, R', p', i, HN, hi, rfl, rfl, HRr, HV, HXq, HBq⟩ := hrel
        clear h6 h8 k7 k9 hW HE HR HLW HL
        by_cases hi6 : i < 120
        · have hwr := HXq.out
          have HL6 := Lib.hid hi6
          obtain ⟨p2, hmul, ⟨hlt, hge, hrr⟩ | ⟨hlt, hge, p3, hsub, hrr⟩⟩ := rest_step U p' R' HU.out HRr.out
          · have HRn := Lib.hid hrr
            have HRe : Hid (2 * R' + 0 * U = 2 * R') := by show _ = _; omega
            have k1 := fun (w : World) (t : TypeId) => run_float_arith (P := Tryd.prog) w .mul t .f64 p' 4611686018427387904 p2 hmul
            clear hmul hlt hrr
            have t1 : ∀ w, Calls Tryd.prog 50 #[.agg (intC neg (digs 12 (X : Int))), .int .u64 2, .int .u64 0] w fun e w' => e = .returned (.agg (intC neg (digs 12 (((X * 2 + 0 : Nat) : Int))))) ∧ Below w.heap.size w w' := fun w => times_two neg X 0 w (by omega)
            have hSZ : Hid ((Tryd.prog.info? 69).map (·.size) = some (intC neg (digs 12 (X : Int))).size) := by show _ = _; rw [big_size]; exact Tryd.info48
            have hSZ2 : Hid ((Tryd.prog.info? 69).map (·.size) = some (intC neg (digs 12 ((X * 2 + 0 : Nat) : Int))).size) := by show _ = _; rw [big_size]; exact Tryd.info48
            go_wp2_with (first
              | (with_reducible refine wpList_load_row rfl 69 _ rfl w.heap.size rfl 69 _ (0, 0) _ hwr Tryd.underlying69 rfl hSZ.out ?_)
              | (go_at_call 50; refine (t1 _).mono ?_; rintro e w1 ⟨rfl, hb1⟩; have HR1 := row_old hwr hb1; have HB1 := Lib.hid (HBq.out.trans (hb1.mono HBq.out.size)))
              | (with_reducible refine wpList_store_mid rfl 69 _ _ rfl w.heap.size 0 (intC neg (digs 12 ((X * 2 + 0 : Nat) : Int))) rfl rfl (there_big HR1.out) hSZ2.out (intC_one _ _) ?_))
            go_roundg (gk - 1)
            case measure => have h1 := HN.out; have h2 := HL6.out; omega
            case rel => exact ⟨X * 2 + 0, 2 * R', _, i + 1, by have h1 := HN.out; have h2 := HL6.out; show _ = _; omega, HL6.out, by go_num, rfl, HRn.out, inv_step HV.out HN.out HL6.out 0 _ HRe.out, setCells_whole HR1.out (by rw [big_size, big_size]), below_setCells (Nat.le_refl _) _ _ HB1.out⟩
          · have HRn := Lib.hid hrr
            have HRe : Hid (2 * R' - U + 1 * U = 2 * R') := by show _ = _; omega
            have k1 := fun (w : World) (t : TypeId) => run_float_arith (P := Tryd.prog) w .mul t .f64 p' 4611686018427387904 p2 hmul
            have k2 := fun (w : World) (t : TypeId) => run_float_arith (P := Tryd.prog) w .sub t .f64 p2 4607182418800017408 p3 hsub
            clear hmul hlt hrr hsub
            have t1 : ∀ w, Calls Tryd.prog 50 #[.agg (intC neg (digs 12 (X : Int))), .int .u64 2, .int .u64 1] w fun e w' => e = .returned (.agg (intC neg (digs 12 (((X * 2 + 1 : Nat) : Int))))) ∧ Below w.heap.size w w' := fun w => times_two neg X 1 w (by omega)
            have hSZ : Hid ((Tryd.prog.info? 69).map (·.size) = some (intC neg (digs 12 (X : Int))).size) := by show _ = _; rw [big_size]; exact Tryd.info48
            have hSZ2 : Hid ((Tryd.prog.info? 69).map (·.size) = some (intC neg (digs 12 ((X * 2 + 1 : Nat) : Int))).size) := by show _ = _; rw [big_size]; exact Tryd.info48
            go_wp2_with (first
              | (with_reducible refine wpList_load_row rfl 69 _ rfl w.heap.size rfl 69 _ (0, 0) _ hwr Tryd.underlying69 rfl hSZ.out ?_)
              | (go_at_call 50; refine (t1 _).mono ?_; rintro e w1 ⟨rfl, hb1⟩; have HR1 := row_old hwr hb1; have HB1 := Lib.hid (HBq.out.trans (hb1.mono HBq.out.size)))
              | (with_reducible refine wpList_store_mid rfl 69 _ _ rfl w.heap.size 0 (intC neg (digs 12 ((X * 2 + 1 : Nat) : Int))) rfl rfl (there_big HR1.out) hSZ2.out (intC_one _ _) ?_))
            go_roundg (gk - 1)
            case measure => have h1 := HN.out; have h2 := HL6.out; omega
            case rel => exact ⟨X * 2 + 1, 2 * R' - U, _, i + 1, by have h1 := HN.out; have h2 := HL6.out; show _ = _; omega, HL6.out, by go_num, rfl, HRn.out, inv_step HV.out HN.out HL6.out 1 _ HRe.out, setCells_whole HR1.out (by rw [big_size, big_size]), below_setCells (Nat.le_refl _) _ _ HB1.out⟩
        · obtain rfl : i = 120 := by omega
          have HG0 : Hid (gk = 0) := by show _ = _; have := HN.out; omega
          go_wp2
          go_meet
          case rel =>
            refine ⟨X, R', ?_, HRr.out.2.2.2.1, HXq.out, HBq.out⟩
            have h := HV.out
            rw [HG0.out, Nat.pow_zero, Nat.mul_one] at h
            exact h
    case rest =>
      obtain ⟨X, R', HX, HRu, hrow, hBw⟩ := hcut
      have HB0 := Lib.hid hBw
      have hwide := Lib.hid (inv_wide HUp.out HX.out HLW.out)
      have HE2 : Hid (E = .returned (.tuple #[.int .i64 (backP neg ((X * 1000000 / 2 ^ 120 : Nat) : Int)).1, .int .i64 (backP neg ((X * 1000000 / 2 ^ 120 : Nat) : Int)).2])) := HE.out X R' HX.out HRu.out
      clear hBw h6 h8 k7 k9 hW HE HR HLW HL HX HRu HU HUp
      have t1 := fun w => times_mill neg X w
      have hSZ : Hid ((Tryd.prog.info? 69).map (·.size) = some (intC neg (digs 12 (X : Int))).size) := by show _ = _; rw [big_size]; exact Tryd.info48
      have hSZ2 : Hid ((Tryd.prog.info? 69).map (·.size) = some (intC neg (digs 12 ((X * 1000000 : Nat) : Int))).size) := by show _ = _; rw [big_size]; exact Tryd.info48
      generalize hY : X * 1000000 = Y at *
      clear hY
      obtain ⟨Z, hZ⟩ : ∃ Z : Nat, Y / 2 ^ 120 = Z := ⟨_, rfl⟩
      rw [hZ] at HE2
      have HZ := Lib.hid hZ
      clear hZ
      go_upto_block 2 with (first
        | (with_reducible refine wpList_load_row rfl 69 _ rfl w.heap.size rfl 69 _ (0, 0) _ hrow Tryd.underlying69 rfl hSZ.out ?_)
        | (go_at_call 50; refine (t1 _).mono ?_; rintro e w1 ⟨rfl, hb1⟩; have HR1 := row_old hrow hb1; have HB1 := Lib.hid (HB0.out.trans (hb1.mono HB0.out.size)))
        | (with_reducible refine wpList_store_mid rfl 69 _ _ rfl w.heap.size 0 (intC neg (digs 12 ((Y : Nat) : Int))) rfl rfl (there_big HR1.out) hSZ2.out (intC_one _ _) ?_))
      have HR2 : Hid ((w1.setCells w.heap.size 0 (intC neg (digs 12 (Y : Int))).toList).heap[w.heap.size]? = some (.cells (intC neg (digs 12 (Y : Int))) 69 (0, 0))) := setCells_whole HR1.out (by rw [big_size, big_size])
      have HB2 : Hid (Below w.heap.size w (w1.setCells w.heap.size 0 (intC neg (digs 12 (Y : Int))).toList)) := below_setCells (Nat.le_refl _) _ _ HB1.out
      clear HR1 HB1 HB0 hrow t1 hSZ
      generalize (w1.setCells w.heap.size 0 (intC neg (digs 12 (Y : Int))).toList) = wz at *
      go_cut [9] (fun _ wx => wx.heap[w.heap.size]? = some (.cells (intC neg (digs 12 (Z : Int))) 69 (0, 0)) ∧ Below w.heap.size w wx)
      case first =>
        go_wp2
        go_loopg [9] 120 (fun n s9 wr => ∃ V i : Nat, Hid (n + i = 120) ∧ i ≤ 120 ∧ s9 = .int .i64 (i : Int) ∧ Hid (V / 2 ^ n = Z) ∧ Hid (V ≤ Y) ∧ Hid (wr.heap[w.heap.size]? = some (.cells (intC neg (digs 12 (V : Int))) 69 (0, 0))) ∧ Hid (Below w.heap.size w wr))
        case atStart => exact ⟨Y, 0, by show _ = _; rfl, by omega, rfl, HZ.out, by show _ ≤ _; omega, HR2.out, HB2.out⟩
        case round =>
          obtain ⟨V, i, HN, hi, rfl, HV, HVY, HXq, HBq⟩ := hrel
          by_cases hi6 : i < 120
          · have hwr := HXq.out
            have HL6 := Lib.hid hi6
            have t2 := fun w => half_two neg V w (by have h1 := HVY.out; have h2 := hwide.out; omega)
            obtain ⟨V2, hV2⟩ : ∃ V2 : Nat, V / 2 = V2 := ⟨_, rfl⟩
            rw [hV2] at t2
            have HV2 := Lib.hid hV2
            clear hV2 HR2 HB2 HE2 HZ hb1 hwide
            have hSZ : Hid ((Tryd.prog.info? 69).map (·.size) = some (intC neg (digs 12 (V : Int))).size) := by show _ = _; rw [big_size]; exact Tryd.info48
            have hSZ2 : Hid ((Tryd.prog.info? 69).map (·.size) = some (intC neg (digs 12 (V2 : Int))).size) := by show _ = _; rw [big_size]; exact Tryd.info48
            go_wp2_with (first
              | (with_reducible refine wpList_load_row rfl 69 _ rfl w.heap.size rfl 69 _ (0, 0) _ hwr Tryd.underlying69 rfl hSZ.out ?_)
              | (go_at_call 74; refine (t2 _).mono ?_; rintro e w1 ⟨rfl, hb1⟩; have HR1 := row_old hwr hb1; have HB1 := Lib.hid (HBq.out.trans (hb1.mono HBq.out.size)))
              | (with_reducible refine wpList_store_mid rfl 69 _ _ rfl w.heap.size 0 (intC neg (digs 12 ((V2 : Nat) : Int))) rfl rfl (there_big HR1.out) hSZ2.out (intC_one _ _) ?_))
            go_roundg (gk - 1)
            case measure => have h1 := HN.out; have h2 := HL6.out; omega
            case rel => exact ⟨V2, i + 1, by have h1 := HN.out; have h2 := HL6.out; show _ = _; omega, HL6.out, by go_num, by rw [← HV2.out]; exact half_step HV.out HN.out HL6.out, by have h1 := HVY.out; have h2 := HV2.out; show _ ≤ _; omega, setCells_whole HR1.out (by rw [big_size, big_size]), below_setCells (Nat.le_refl _) _ _ HB1.out⟩
          · obtain rfl : i = 120 := by omega
            have HG0 : Hid (gk = 0) := by show _ = _; have := HN.out; omega
            go_wp2
            go_meet
            case rel =>
              have h := HV.out
              rw [HG0.out, Nat.pow_zero, Nat.div_one] at h
              rw [← h]
              exact ⟨HXq.out, HBq.out⟩
      case rest =>
        obtain ⟨hrow3, hB3⟩ := hcut
        have HB3 := Lib.hid hB3
        clear hB3 HR2 HB2 hSZ2
        have hZ0 : 0 ≤ (Z : Int) ∧ (Z : Int) < wide 12 := by
          have h1 : Z ≤ Y := by rw [← HZ.out]; exact Nat.div_le_self _ _
          have h2 := hwide.out
          omega
        have k6 := fun w => back_pair neg (Z : Int) w hZ0.1 hZ0.2
        obtain ⟨rN, hrN⟩ : ∃ rN, (backP neg (Z : Int)).1 = rN := ⟨_, rfl⟩
        obtain ⟨rE, hrE⟩ : ∃ rE, (backP neg (Z : Int)).2 = rE := ⟨_, rfl⟩
        have hE := HE2.out
        rw [hrN, hrE] at k6 hE
        have hSZ : Hid ((Tryd.prog.info? 69).map (·.size) = some (intC neg (digs 12 (Z : Int))).size) := by show _ = _; rw [big_size]; exact Tryd.info48
        subst hE
        clear HE2 hwide hrN hrE hZ0 HZ
        go_wp2_with (first
          | (with_reducible refine wpList_load_row rfl 69 _ rfl w.heap.size rfl 69 _ (0, 0) _ hrow3 Tryd.underlying69 rfl hSZ.out ?_)
          | (go_at_call 51; refine (k6 _).mono ?_; rintro e w1 ⟨rfl, hb1⟩))
        go_ret2
        exact ⟨rfl, HB3.out.trans (hb1.mono HB3.out.size)⟩

end Go.Proofs.YtokfkckfclnoaaaDoor
