/- ClassNot: one half of the ways. (Written by gen_classnot.py.) -/
import Derived.Test.YtojjjkicgbdknaaClassNotBase
namespace Go.Proofs.Ytojjjkicgbdknaa
open Go.RowKit Go.Lib

set_option maxHeartbeats 8000000 in
set_option maxRecDepth 100000 in
theorem not_walk_f (k l M O N : Cl) (c : UInt8) (a b : Bool) (ha : a = false) (x y : Nat) (w : World) (hxor : (a != !a) = true) (hor : ((a || b) == (a || b)) = true) (hx : x ≤ 256) (hmo : y ≤ x)
    (k1 : ∀ Z, Calls Try.prog 14 #[.agg #[.int .u64 ((k 0).toNat : Int), .int .u64 ((k 1).toNat : Int), .int .u64 ((k 2).toNat : Int), .int .u64 ((k 3).toNat : Int)], .int .u8 (c.toNat : Int)] Z fun e w' => e = .returned (.bool a) ∧ Below Z.heap.size Z w') (k2 : ∀ Z, Calls Try.prog 14 #[.agg #[.int .u64 ((l 0).toNat : Int), .int .u64 ((l 1).toNat : Int), .int .u64 ((l 2).toNat : Int), .int .u64 ((l 3).toNat : Int)], .int .u8 (c.toNat : Int)] Z fun e w' => e = .returned (.bool b) ∧ Below Z.heap.size Z w') (k3 : ∀ Z, Calls Try.prog 14 #[.agg #[.int .u64 ((N 0).toNat : Int), .int .u64 ((N 1).toNat : Int), .int .u64 ((N 2).toNat : Int), .int .u64 ((N 3).toNat : Int)], .int .u8 (c.toNat : Int)] Z fun e w' => e = .returned (.bool (!a)) ∧ Below Z.heap.size Z w') (k4 : ∀ Z, Calls Try.prog 14 #[.agg #[.int .u64 ((O 0).toNat : Int), .int .u64 ((O 1).toNat : Int), .int .u64 ((O 2).toNat : Int), .int .u64 ((O 3).toNat : Int)], .int .u8 (c.toNat : Int)] Z fun e w' => e = .returned (.bool (a || b)) ∧ Below Z.heap.size Z w')
    (k5 : ∀ Z, Calls Try.prog 12 #[.agg #[.int .u64 ((k 0).toNat : Int), .int .u64 ((k 1).toNat : Int), .int .u64 ((k 2).toNat : Int), .int .u64 ((k 3).toNat : Int)]] Z fun e w' => e = .returned (.agg #[.int .u64 ((N 0).toNat : Int), .int .u64 ((N 1).toNat : Int), .int .u64 ((N 2).toNat : Int), .int .u64 ((N 3).toNat : Int)]) ∧ Below Z.heap.size Z w') (k6 : ∀ Z, Calls Try.prog 12 #[.agg #[.int .u64 ((N 0).toNat : Int), .int .u64 ((N 1).toNat : Int), .int .u64 ((N 2).toNat : Int), .int .u64 ((N 3).toNat : Int)]] Z fun e w' => e = .returned (.agg #[.int .u64 ((k 0).toNat : Int), .int .u64 ((k 1).toNat : Int), .int .u64 ((k 2).toNat : Int), .int .u64 ((k 3).toNat : Int)]) ∧ Below Z.heap.size Z w')
    (k7 : ∀ Z, Calls Try.prog 13 #[.agg #[.int .u64 ((k 0).toNat : Int), .int .u64 ((k 1).toNat : Int), .int .u64 ((k 2).toNat : Int), .int .u64 ((k 3).toNat : Int)], .agg #[.int .u64 ((l 0).toNat : Int), .int .u64 ((l 1).toNat : Int), .int .u64 ((l 2).toNat : Int), .int .u64 ((l 3).toNat : Int)]] Z fun e w' => e = .returned (.agg #[.int .u64 ((O 0).toNat : Int), .int .u64 ((O 1).toNat : Int), .int .u64 ((O 2).toNat : Int), .int .u64 ((O 3).toNat : Int)]) ∧ Below Z.heap.size Z w') (k8 : ∀ Z, Calls Try.prog 13 #[.agg #[.int .u64 ((k 0).toNat : Int), .int .u64 ((k 1).toNat : Int), .int .u64 ((k 2).toNat : Int), .int .u64 ((k 3).toNat : Int)], .agg #[.int .u64 ((N 0).toNat : Int), .int .u64 ((N 1).toNat : Int), .int .u64 ((N 2).toNat : Int), .int .u64 ((N 3).toNat : Int)]] Z fun e w' => e = .returned (.agg #[.int .u64 ((M 0).toNat : Int), .int .u64 ((M 1).toNat : Int), .int .u64 ((M 2).toNat : Int), .int .u64 ((M 3).toNat : Int)]) ∧ Below Z.heap.size Z w')
    (k9 : ∀ Z, Calls Try.prog 15 #[.agg #[.int .u64 ((M 0).toNat : Int), .int .u64 ((M 1).toNat : Int), .int .u64 ((M 2).toNat : Int), .int .u64 ((M 3).toNat : Int)]] Z fun e w' => e = .returned (.int .i64 256) ∧ Below Z.heap.size Z w') (k10 : ∀ Z, Calls Try.prog 15 #[.agg #[.int .u64 ((O 0).toNat : Int), .int .u64 ((O 1).toNat : Int), .int .u64 ((O 2).toNat : Int), .int .u64 ((O 3).toNat : Int)]] Z fun e w' => e = .returned (.int .i64 (x : Int)) ∧ Below Z.heap.size Z w')
    (k11 : ∀ Z, Calls Try.prog 15 #[.agg #[.int .u64 ((k 0).toNat : Int), .int .u64 ((k 1).toNat : Int), .int .u64 ((k 2).toNat : Int), .int .u64 ((k 3).toNat : Int)]] Z fun e w' => e = .returned (.int .i64 (y : Int)) ∧ Below Z.heap.size Z w') :
    Calls Try.prog 4 #[.agg #[.int .u64 ((k 0).toNat : Int), .int .u64 ((k 1).toNat : Int), .int .u64 ((k 2).toNat : Int), .int .u64 ((k 3).toNat : Int)], .agg #[.int .u64 ((l 0).toNat : Int), .int .u64 ((l 1).toNat : Int), .int .u64 ((l 2).toNat : Int), .int .u64 ((l 3).toNat : Int)], .int .u8 (c.toNat : Int)] w fun e w' => e = .returned (.bool true) ∧ Below w.heap.size w w' := by
  have ks := shown_any
  have he := run_eql_cls
  have hm : Try.prog.eqGuardType Try.prog.depth 30 = false := by kernel_rfl
  have hA := four_alloc w k
  have hA1 := four_alloc (w.alloc (.cells #[.int .u64 ((k 0).toNat : Int), .int .u64 ((k 1).toNat : Int), .int .u64 ((k 2).toNat : Int), .int .u64 ((k 3).toNat : Int)] 30)) l
  rw [World.size_alloc] at hA1
  have HK := Lib.hid hA
  have HL := Lib.hid hA1
  clear hA hA1
  clear hxor hor
  subst ha
  cases b <;> simp only [Bool.not_false, Bool.not_true, Bool.or_false, Bool.or_true, Bool.false_or, Bool.true_or] at k1 k2 k3 k4
  all_goals
    go_enter Try.func4, Try.ntmps4
    go_upto_region 4 with (first
      | (go_at_call 7; refine (ks _).mono ?_; clear ks; rintro e w1 ⟨rfl, hb1⟩
         have hk1 := (hb1.block w.heap.size (by simp; omega)).trans ((Below.heap_alloc _ _ _ (by simp)).trans HK.out)
         have hl1 := (hb1.block (w.heap.size + 1) (by simp)).trans HL.out
         have hz1 := lt_of_block hl1
         have HB := Lib.hid ((((Below.refl _ w).alloc (Nat.le_refl _) _).alloc (by simp) _).trans (hb1.mono (by simp; omega)))
         clear hb1 HK HL
         have HK := Lib.hid hk1
         have HL := Lib.hid hl1
         obtain ⟨p0, p1, p2, p3⟩ := four_wd hk1
         clear hk1 hl1)
      | (go_at_call 12; with_reducible refine (k5 _).mono ?_; rintro e w2 ⟨rfl, hb2⟩
         have hk1 := (hb2.block _ (by omega)).trans HK.out
         have hl1 := (hb2.block _ (by omega)).trans HL.out
         replace HB := Lib.hid (below_up HB.out hb2 HB.out.size)
         have hz2 := lt_of_block hl1
         have hz2b := lt_of_block hk1
         clear hb2 HK HL p0 p1 p2 p3
         have HK := Lib.hid hk1
         have HL := Lib.hid hl1
         obtain ⟨p0, p1, p2, p3⟩ := four_wd hk1
         obtain ⟨q0, q1, q2, q3⟩ := four_wd hl1
         clear hk1 hl1)
      | (go_at_call 13; with_reducible refine (k7 _).mono ?_; rintro e w3 ⟨rfl, hb3⟩))
    clear p0 p1 p2 p3 q0 q1 q2 q3
    have hz3 := hb3.size
    simp only [World.size_alloc] at hz3
    obtain ⟨V, hV⟩ : ∃ V, V = w3.alloc (.cells #[.int .u64 ((O 0).toNat : Int), .int .u64 ((O 1).toNat : Int), .int .u64 ((O 2).toNat : Int), .int .u64 ((O 3).toNat : Int)] 30) := ⟨_, rfl⟩
    have hk := (by rw [hV]; exact (Below.heap_alloc _ _ _ (by omega)).trans ((hb3.block w.heap.size (by simp; omega)).trans ((Below.heap_alloc _ _ _ (by omega)).trans HK.out)) : V.heap[w.heap.size]? = some (.cells (clsA k) 30 (0, 0)))
    have hl := (by rw [hV]; exact (Below.heap_alloc _ _ _ (by omega)).trans ((hb3.block (w.heap.size + 1) (by simp; omega)).trans ((Below.heap_alloc _ _ _ (by omega)).trans HL.out)) : V.heap[w.heap.size + 1]? = some (.cells (clsA l) 30 (0, 0)))
    have hn := (by rw [hV]; exact (Below.heap_alloc _ _ _ (by omega)).trans ((hb3.block w2.heap.size (by simp)).trans (four_alloc w2 N)) : V.heap[w2.heap.size]? = some (.cells (clsA N) 30 (0, 0)))
    have ho := (by rw [hV]; exact four_alloc w3 O : V.heap[w3.heap.size]? = some (.cells (clsA O) 30 (0, 0)))
    have HW := Lib.hid ((by rw [hV]; exact (below_up (HB.out.alloc HB.out.size _) hb3 (HB.out.alloc HB.out.size _).size).alloc (Nat.le_trans (HB.out.alloc HB.out.size _).size hb3.size) _ : Below w.heap.size w V))
    rw [← hV]
    clear hV hb3 HB HK HL hz1 hz2 hz2b hz3
    generalize w2.heap.size = gn at *
    generalize w3.heap.size = go at *
    have lk := lt_of_block hk
    have ll := lt_of_block hl
    have ln := lt_of_block hn
    have lo := lt_of_block ho
    have KS : ∀ Z, Below V.heap.size V Z → ((Z.cell? ⟨w.heap.size, 0, none⟩ = some (.int .u64 ((k 0).toNat : Int)) ∧ Z.cell? ⟨w.heap.size, 1, none⟩ = some (.int .u64 ((k 1).toNat : Int)) ∧ Z.cell? ⟨w.heap.size, 2, none⟩ = some (.int .u64 ((k 2).toNat : Int)) ∧ Z.cell? ⟨w.heap.size, 3, none⟩ = some (.int .u64 ((k 3).toNat : Int))) ∧ (Z.cell? ⟨w.heap.size + 1, 0, none⟩ = some (.int .u64 ((l 0).toNat : Int)) ∧ Z.cell? ⟨w.heap.size + 1, 1, none⟩ = some (.int .u64 ((l 1).toNat : Int)) ∧ Z.cell? ⟨w.heap.size + 1, 2, none⟩ = some (.int .u64 ((l 2).toNat : Int)) ∧ Z.cell? ⟨w.heap.size + 1, 3, none⟩ = some (.int .u64 ((l 3).toNat : Int))) ∧ (Z.cell? ⟨gn, 0, none⟩ = some (.int .u64 ((N 0).toNat : Int)) ∧ Z.cell? ⟨gn, 1, none⟩ = some (.int .u64 ((N 1).toNat : Int)) ∧ Z.cell? ⟨gn, 2, none⟩ = some (.int .u64 ((N 2).toNat : Int)) ∧ Z.cell? ⟨gn, 3, none⟩ = some (.int .u64 ((N 3).toNat : Int))) ∧ (Z.cell? ⟨go, 0, none⟩ = some (.int .u64 ((O 0).toNat : Int)) ∧ Z.cell? ⟨go, 1, none⟩ = some (.int .u64 ((O 1).toNat : Int)) ∧ Z.cell? ⟨go, 2, none⟩ = some (.int .u64 ((O 2).toNat : Int)) ∧ Z.cell? ⟨go, 3, none⟩ = some (.int .u64 ((O 3).toNat : Int)))) := fun Z hZ => ⟨four_wd ((hZ.block _ lk).trans hk), four_wd ((hZ.block _ ll).trans hl), four_wd ((hZ.block _ ln).trans hn), four_wd ((hZ.block _ lo).trans ho)⟩
    have HV := Lib.hid ((Below.refl V.heap.size V).drew)
    clear hk hl hn ho lk ll ln lo
    first | (go_region_held3 (fun Z => ((Z.cell? ⟨w.heap.size, 0, none⟩ = some (.int .u64 ((k 0).toNat : Int)) ∧ Z.cell? ⟨w.heap.size, 1, none⟩ = some (.int .u64 ((k 1).toNat : Int)) ∧ Z.cell? ⟨w.heap.size, 2, none⟩ = some (.int .u64 ((k 2).toNat : Int)) ∧ Z.cell? ⟨w.heap.size, 3, none⟩ = some (.int .u64 ((k 3).toNat : Int))) ∧ (Z.cell? ⟨w.heap.size + 1, 0, none⟩ = some (.int .u64 ((l 0).toNat : Int)) ∧ Z.cell? ⟨w.heap.size + 1, 1, none⟩ = some (.int .u64 ((l 1).toNat : Int)) ∧ Z.cell? ⟨w.heap.size + 1, 2, none⟩ = some (.int .u64 ((l 2).toNat : Int)) ∧ Z.cell? ⟨w.heap.size + 1, 3, none⟩ = some (.int .u64 ((l 3).toNat : Int))) ∧ (Z.cell? ⟨gn, 0, none⟩ = some (.int .u64 ((N 0).toNat : Int)) ∧ Z.cell? ⟨gn, 1, none⟩ = some (.int .u64 ((N 1).toNat : Int)) ∧ Z.cell? ⟨gn, 2, none⟩ = some (.int .u64 ((N 2).toNat : Int)) ∧ Z.cell? ⟨gn, 3, none⟩ = some (.int .u64 ((N 3).toNat : Int))) ∧ (Z.cell? ⟨go, 0, none⟩ = some (.int .u64 ((O 0).toNat : Int)) ∧ Z.cell? ⟨go, 1, none⟩ = some (.int .u64 ((O 1).toNat : Int)) ∧ Z.cell? ⟨go, 2, none⟩ = some (.int .u64 ((O 2).toNat : Int)) ∧ Z.cell? ⟨go, 3, none⟩ = some (.int .u64 ((O 3).toNat : Int)))))
      (first | with_reducible exact KS _ HV.out | fail)
      (first
      | (go_simp; go_at_call 12; (first | with_reducible refine (k5 _).mono ?_ | with_reducible refine (k6 _).mono ?_); rintro e w5 ⟨rfl, hb2⟩; replace HV := Lib.hid (below_up HV.out hb2 HV.out.size); clear hb2)
      | (go_simp; go_at_call 13; (first | with_reducible refine (k7 _).mono ?_ | with_reducible refine (k8 _).mono ?_); rintro e w5 ⟨rfl, hb2⟩; replace HV := Lib.hid (below_up HV.out hb2 HV.out.size); clear hb2)
      | (go_simp; go_at_call 14; (first | with_reducible refine (k1 _).mono ?_ | with_reducible refine (k2 _).mono ?_ | with_reducible refine (k3 _).mono ?_ | with_reducible refine (k4 _).mono ?_); rintro e w5 ⟨rfl, hb2⟩; replace HV := Lib.hid (below_up HV.out hb2 HV.out.size); clear hb2)
      | (go_simp; go_at_call 15; (first | with_reducible refine (k9 _).mono ?_ | with_reducible refine (k10 _).mono ?_ | with_reducible refine (k11 _).mono ?_); rintro e w5 ⟨rfl, hb2⟩; replace HV := Lib.hid (below_up HV.out hb2 HV.out.size); clear hb2))) | fail "the region"
    all_goals go_wp2
    all_goals go_ret
    all_goals exact ⟨rfl, below_up HW.out HV.out HW.out.size⟩
end Go.Proofs.Ytojjjkicgbdknaa
