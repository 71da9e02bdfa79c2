/- ClassNot: one half of the ways. (Written by gen_classnot.py.) -/
import Derived.Test.YtojjjkicgbdknaaClassNotBase
namespace Go.Proofs.Ytojjjkicgbdknaa
open Go.RowKit Go.Lib

set_option maxHeartbeats 8000000 in
set_option maxRecDepth 100000 in
theorem not_walk_t (k l M O N : Cl) (c : UInt8) (a b : Bool) (ha : a = true) (x y : Nat) (w : World) (hxor : (a != !a) = true) (hor : ((a || b) == (a || b)) = true) (hx : x ≤ 256) (hmo : y ≤ x)
    (k1 : ∀ Z, Calls Try.prog 14 #[.agg #[.int .u64 ((k 0).toNat : Int), .int .u64 ((k 1).toNat : Int), .int .u64 ((k 2).toNat : Int), .int .u64 ((k 3).toNat : Int)], .int .u8 (c.toNat : Int)] Z fun e w' => e = .returned (.bool a) ∧ Below Z.heap.size Z w') (k2 : ∀ Z, Calls Try.prog 14 #[.agg #[.int .u64 ((l 0).toNat : Int), .int .u64 ((l 1).toNat : Int), .int .u64 ((l 2).toNat : Int), .int .u64 ((l 3).toNat : Int)], .int .u8 (c.toNat : Int)] Z fun e w' => e = .returned (.bool b) ∧ Below Z.heap.size Z w') (k3 : ∀ Z, Calls Try.prog 14 #[.agg #[.int .u64 ((N 0).toNat : Int), .int .u64 ((N 1).toNat : Int), .int .u64 ((N 2).toNat : Int), .int .u64 ((N 3).toNat : Int)], .int .u8 (c.toNat : Int)] Z fun e w' => e = .returned (.bool (!a)) ∧ Below Z.heap.size Z w') (k4 : ∀ Z, Calls Try.prog 14 #[.agg #[.int .u64 ((O 0).toNat : Int), .int .u64 ((O 1).toNat : Int), .int .u64 ((O 2).toNat : Int), .int .u64 ((O 3).toNat : Int)], .int .u8 (c.toNat : Int)] Z fun e w' => e = .returned (.bool (a || b)) ∧ Below Z.heap.size Z w')
    (k5 : ∀ Z, Calls Try.prog 12 #[.agg #[.int .u64 ((k 0).toNat : Int), .int .u64 ((k 1).toNat : Int), .int .u64 ((k 2).toNat : Int), .int .u64 ((k 3).toNat : Int)]] Z fun e w' => e = .returned (.agg #[.int .u64 ((N 0).toNat : Int), .int .u64 ((N 1).toNat : Int), .int .u64 ((N 2).toNat : Int), .int .u64 ((N 3).toNat : Int)]) ∧ Below Z.heap.size Z w') (k6 : ∀ Z, Calls Try.prog 12 #[.agg #[.int .u64 ((N 0).toNat : Int), .int .u64 ((N 1).toNat : Int), .int .u64 ((N 2).toNat : Int), .int .u64 ((N 3).toNat : Int)]] Z fun e w' => e = .returned (.agg #[.int .u64 ((k 0).toNat : Int), .int .u64 ((k 1).toNat : Int), .int .u64 ((k 2).toNat : Int), .int .u64 ((k 3).toNat : Int)]) ∧ Below Z.heap.size Z w')
    (k7 : ∀ Z, Calls Try.prog 13 #[.agg #[.int .u64 ((k 0).toNat : Int), .int .u64 ((k 1).toNat : Int), .int .u64 ((k 2).toNat : Int), .int .u64 ((k 3).toNat : Int)], .agg #[.int .u64 ((l 0).toNat : Int), .int .u64 ((l 1).toNat : Int), .int .u64 ((l 2).toNat : Int), .int .u64 ((l 3).toNat : Int)]] Z fun e w' => e = .returned (.agg #[.int .u64 ((O 0).toNat : Int), .int .u64 ((O 1).toNat : Int), .int .u64 ((O 2).toNat : Int), .int .u64 ((O 3).toNat : Int)]) ∧ Below Z.heap.size Z w') (k8 : ∀ Z, Calls Try.prog 13 #[.agg #[.int .u64 ((k 0).toNat : Int), .int .u64 ((k 1).toNat : Int), .int .u64 ((k 2).toNat : Int), .int .u64 ((k 3).toNat : Int)], .agg #[.int .u64 ((N 0).toNat : Int), .int .u64 ((N 1).toNat : Int), .int .u64 ((N 2).toNat : Int), .int .u64 ((N 3).toNat : Int)]] Z fun e w' => e = .returned (.agg #[.int .u64 ((M 0).toNat : Int), .int .u64 ((M 1).toNat : Int), .int .u64 ((M 2).toNat : Int), .int .u64 ((M 3).toNat : Int)]) ∧ Below Z.heap.size Z w')
    (k9 : ∀ Z, Calls Try.prog 15 #[.agg #[.int .u64 ((M 0).toNat : Int), .int .u64 ((M 1).toNat : Int), .int .u64 ((M 2).toNat : Int), .int .u64 ((M 3).toNat : Int)]] Z fun e w' => e = .returned (.int .i64 256) ∧ Below Z.heap.size Z w') (k10 : ∀ Z, Calls Try.prog 15 #[.agg #[.int .u64 ((O 0).toNat : Int), .int .u64 ((O 1).toNat : Int), .int .u64 ((O 2).toNat : Int), .int .u64 ((O 3).toNat : Int)]] Z fun e w' => e = .returned (.int .i64 (x : Int)) ∧ Below Z.heap.size Z w')
    (k11 : ∀ Z, Calls Try.prog 15 #[.agg #[.int .u64 ((k 0).toNat : Int), .int .u64 ((k 1).toNat : Int), .int .u64 ((k 2).toNat : Int), .int .u64 ((k 3).toNat : Int)]] Z fun e w' => e = .returned (.int .i64 (y : Int)) ∧ Below Z.heap.size Z w') :
    Calls Try.prog 4 #[.agg #[.int .u64 ((k 0).toNat : Int), .int .u64 ((k 1).toNat : Int), .int .u64 ((k 2).toNat : Int), .int .u64 ((k 3).toNat : Int)], .agg #[.int .u64 ((l 0).toNat : Int), .int .u64 ((l 1).toNat : Int), .int .u64 ((l 2).toNat : Int), .int .u64 ((l 3).toNat : Int)], .int .u8 (c.toNat : Int)] w fun e w' => e = .returned (.bool true) ∧ Below w.heap.size w w' := by
  have ks := shown_any
  have he := run_eql_cls
  have hm : Try.prog.eqGuardType Try.prog.depth 30 = false := by kernel_rfl
  have hA := four_alloc w k
  have hA1 := four_alloc (w.alloc (.cells #[.int .u64 ((k 0).toNat : Int), .int .u64 ((k 1).toNat : Int), .int .u64 ((k 2).toNat : Int), .int .u64 ((k 3).toNat : Int)] 30)) l
  rw [World.size_alloc] at hA1
  have HK := Lib.hid hA
  have HL := Lib.hid hA1
  clear hA hA1
  clear hxor hor
  subst ha
  cases b <;> simp only [Bool.not_false, Bool.not_true, Bool.or_false, Bool.or_true, Bool.false_or, Bool.true_or] at k1 k2 k3 k4
  · -- False
    go_enter Try.func4, Try.ntmps4
    go_upto_region 4 with (first
      | (go_at_call 7; refine (ks _).mono ?_; clear ks; rintro e w1 ⟨rfl, hb1⟩
         have hk1 := (hb1.block w.heap.size (by simp; omega)).trans ((Below.heap_alloc _ _ _ (by simp)).trans HK.out)
         have hl1 := (hb1.block (w.heap.size + 1) (by simp)).trans HL.out
         have hz1 := lt_of_block hl1
         have HB := Lib.hid ((((Below.refl _ w).alloc (Nat.le_refl _) _).alloc (by simp) _).trans (hb1.mono (by simp; omega)))
         clear hb1 HK HL
         have HK := Lib.hid hk1
         have HL := Lib.hid hl1
         obtain ⟨p0, p1, p2, p3⟩ := four_wd hk1
         clear hk1 hl1)
      | (go_at_call 12; with_reducible refine (k5 _).mono ?_; rintro e w2 ⟨rfl, hb2⟩
         have hk1 := (hb2.block _ (by omega)).trans HK.out
         have hl1 := (hb2.block _ (by omega)).trans HL.out
         replace HB := Lib.hid (below_up HB.out hb2 HB.out.size)
         have hz2 := lt_of_block hl1
         have hz2b := lt_of_block hk1
         clear hb2 HK HL p0 p1 p2 p3
         have HK := Lib.hid hk1
         have HL := Lib.hid hl1
         obtain ⟨p0, p1, p2, p3⟩ := four_wd hk1
         obtain ⟨q0, q1, q2, q3⟩ := four_wd hl1
         clear hk1 hl1)
      | (go_at_call 13; with_reducible refine (k7 _).mono ?_; rintro e w3 ⟨rfl, hb3⟩))
    clear p0 p1 p2 p3 q0 q1 q2 q3
    have hz3 := hb3.size
    simp only [World.size_alloc] at hz3
    obtain ⟨V, hV⟩ : ∃ V, V = w3.alloc (.cells #[.int .u64 ((O 0).toNat : Int), .int .u64 ((O 1).toNat : Int), .int .u64 ((O 2).toNat : Int), .int .u64 ((O 3).toNat : Int)] 30) := ⟨_, rfl⟩
    have hk := (by rw [hV]; exact (Below.heap_alloc _ _ _ (by omega)).trans ((hb3.block w.heap.size (by simp; omega)).trans ((Below.heap_alloc _ _ _ (by omega)).trans HK.out)) : V.heap[w.heap.size]? = some (.cells (clsA k) 30 (0, 0)))
    have hl := (by rw [hV]; exact (Below.heap_alloc _ _ _ (by omega)).trans ((hb3.block (w.heap.size + 1) (by simp; omega)).trans ((Below.heap_alloc _ _ _ (by omega)).trans HL.out)) : V.heap[w.heap.size + 1]? = some (.cells (clsA l) 30 (0, 0)))
    have hn := (by rw [hV]; exact (Below.heap_alloc _ _ _ (by omega)).trans ((hb3.block w2.heap.size (by simp)).trans (four_alloc w2 N)) : V.heap[w2.heap.size]? = some (.cells (clsA N) 30 (0, 0)))
    have ho := (by rw [hV]; exact four_alloc w3 O : V.heap[w3.heap.size]? = some (.cells (clsA O) 30 (0, 0)))
    have HW := Lib.hid ((by rw [hV]; exact (below_up (HB.out.alloc HB.out.size _) hb3 (HB.out.alloc HB.out.size _).size).alloc (Nat.le_trans (HB.out.alloc HB.out.size _).size hb3.size) _ : Below w.heap.size w V))
    rw [← hV]
    clear hV hb3 HB HK HL hz1 hz2 hz2b hz3
    generalize w2.heap.size = gn at *
    generalize w3.heap.size = go at *
    have lk := lt_of_block hk
    have ll := lt_of_block hl
    have ln := lt_of_block hn
    have lo := lt_of_block ho
    have KS : ∀ Z, Below V.heap.size V Z → ((Z.cell? ⟨w.heap.size, 0, none⟩ = some (.int .u64 ((k 0).toNat : Int)) ∧ Z.cell? ⟨w.heap.size, 1, none⟩ = some (.int .u64 ((k 1).toNat : Int)) ∧ Z.cell? ⟨w.heap.size, 2, none⟩ = some (.int .u64 ((k 2).toNat : Int)) ∧ Z.cell? ⟨w.heap.size, 3, none⟩ = some (.int .u64 ((k 3).toNat : Int))) ∧ (Z.cell? ⟨w.heap.size + 1, 0, none⟩ = some (.int .u64 ((l 0).toNat : Int)) ∧ Z.cell? ⟨w.heap.size + 1, 1, none⟩ = some (.int .u64 ((l 1).toNat : Int)) ∧ Z.cell? ⟨w.heap.size + 1, 2, none⟩ = some (.int .u64 ((l 2).toNat : Int)) ∧ Z.cell? ⟨w.heap.size + 1, 3, none⟩ = some (.int .u64 ((l 3).toNat : Int))) ∧ (Z.cell? ⟨gn, 0, none⟩ = some (.int .u64 ((N 0).toNat : Int)) ∧ Z.cell? ⟨gn, 1, none⟩ = some (.int .u64 ((N 1).toNat : Int)) ∧ Z.cell? ⟨gn, 2, none⟩ = some (.int .u64 ((N 2).toNat : Int)) ∧ Z.cell? ⟨gn, 3, none⟩ = some (.int .u64 ((N 3).toNat : Int))) ∧ (Z.cell? ⟨go, 0, none⟩ = some (.int .u64 ((O 0).toNat : Int)) ∧ Z.cell? ⟨go, 1, none⟩ = some (.int .u64 ((O 1).toNat : Int)) ∧ Z.cell? ⟨go, 2, none⟩ = some (.int .u64 ((O 2).toNat : Int)) ∧ Z.cell? ⟨go, 3, none⟩ = some (.int .u64 ((O 3).toNat : Int)))) := fun Z hZ => ⟨four_wd ((hZ.block _ lk).trans hk), four_wd ((hZ.block _ ll).trans hl), four_wd ((hZ.block _ ln).trans hn), four_wd ((hZ.block _ lo).trans ho)⟩
    have HV := Lib.hid ((Below.refl V.heap.size V).drew)
    clear hk hl hn ho lk ll ln lo
    refine wp_region_noPanic ?_
    refine wp_region_held_drew (S := fun Z => (Z.cell? ⟨w.heap.size, 0, none⟩ = some (.int .u64 ((k 0).toNat : Int)) ∧ Z.cell? ⟨w.heap.size, 1, none⟩ = some (.int .u64 ((k 1).toNat : Int)) ∧ Z.cell? ⟨w.heap.size, 2, none⟩ = some (.int .u64 ((k 2).toNat : Int)) ∧ Z.cell? ⟨w.heap.size, 3, none⟩ = some (.int .u64 ((k 3).toNat : Int))) ∧ (Z.cell? ⟨w.heap.size + 1, 0, none⟩ = some (.int .u64 ((l 0).toNat : Int)) ∧ Z.cell? ⟨w.heap.size + 1, 1, none⟩ = some (.int .u64 ((l 1).toNat : Int)) ∧ Z.cell? ⟨w.heap.size + 1, 2, none⟩ = some (.int .u64 ((l 2).toNat : Int)) ∧ Z.cell? ⟨w.heap.size + 1, 3, none⟩ = some (.int .u64 ((l 3).toNat : Int))) ∧ (Z.cell? ⟨gn, 0, none⟩ = some (.int .u64 ((N 0).toNat : Int)) ∧ Z.cell? ⟨gn, 1, none⟩ = some (.int .u64 ((N 1).toNat : Int)) ∧ Z.cell? ⟨gn, 2, none⟩ = some (.int .u64 ((N 2).toNat : Int)) ∧ Z.cell? ⟨gn, 3, none⟩ = some (.int .u64 ((N 3).toNat : Int))) ∧ (Z.cell? ⟨go, 0, none⟩ = some (.int .u64 ((O 0).toNat : Int)) ∧ Z.cell? ⟨go, 1, none⟩ = some (.int .u64 ((O 1).toNat : Int)) ∧ Z.cell? ⟨go, 2, none⟩ = some (.int .u64 ((O 2).toNat : Int)) ∧ Z.cell? ⟨go, 3, none⟩ = some (.int .u64 ((O 3).toNat : Int)))) (by kernel_rfl) (KS _ HV.out) (fun hHeld => ?_)
    refine wpAnyH_take (i := 0) (oi := { dst := some 16, op := Op.move (Operand.tmp 7), type := 4, pos := "law.go:67", after := #[], guard := none }) (v := .bool true) rfl (by kernel_rfl) (by kernel_rfl) (by kernel_rfl) (fun _ _ _ h => h) (Or.inl ⟨by rfl, by (intro w hSw; (try dsimp only at hSw); first | (go_simp; done) | (go_simp; with_reducible rfl))⟩) hHeld ?_
    try simp only [Act.put, List.setIfInBounds_toArray, List.set_cons_zero, List.set_cons_succ]
    refine wpAnyH_take (i := 1) (oi := { dst := some 17, op := Op.move (Operand.tmp 16), type := 4, pos := "law.go:67", after := #[{ on := 0, ground := Ground.data }], guard := none }) (v := .bool true) rfl (by kernel_rfl) (by kernel_rfl) (by kernel_rfl) (fun _ _ _ h => h) (Or.inl ⟨by rfl, by (intro w hSw; (try dsimp only at hSw); first | (go_simp; done) | (go_simp; with_reducible rfl))⟩) hHeld ?_
    try simp only [Act.put, List.setIfInBounds_toArray, List.set_cons_zero, List.set_cons_succ]
    refine wpAnyH_take (i := 2) (oi := { dst := some 18, op := Op.load 30 (Operand.tmp 3), type := 30, pos := "law.go:67", after := #[{ on := 1, ground := Ground.guard }], guard := some (1, true) }) (v := .agg #[.int .u64 ((k 0).toNat : Int), .int .u64 ((k 1).toNat : Int), .int .u64 ((k 2).toNat : Int), .int .u64 ((k 3).toNat : Int)]) rfl (by kernel_rfl) (by kernel_rfl) (by kernel_rfl) (fun _ _ _ h => h) (Or.inl ⟨by rfl, by (intro w hSw; (try dsimp only at hSw); first | (go_simp; done) | (go_simp; with_reducible rfl))⟩) hHeld ?_
    try simp only [Act.put, List.setIfInBounds_toArray, List.set_cons_zero, List.set_cons_succ]
    refine wpAnyH_take (i := 3) (oi := { dst := some 19, op := Op.move (Operand.tmp 2), type := 5, pos := "law.go:67", after := #[{ on := 1, ground := Ground.guard }], guard := some (1, true) }) (v := .int .u8 (c.toNat : Int)) rfl (by kernel_rfl) (by kernel_rfl) (by kernel_rfl) (fun _ _ _ h => h) (Or.inl ⟨by rfl, by (intro w hSw; (try dsimp only at hSw); first | (go_simp; done) | (go_simp; with_reducible rfl))⟩) hHeld ?_
    try simp only [Act.put, List.setIfInBounds_toArray, List.set_cons_zero, List.set_cons_succ]
    refine wpAnyH_take (i := 5) (oi := { dst := some 21, op := Op.load 30 (Operand.tmp 8), type := 30, pos := "law.go:67", after := #[{ on := 1, ground := Ground.guard }], guard := some (1, true) }) (v := .agg #[.int .u64 ((N 0).toNat : Int), .int .u64 ((N 1).toNat : Int), .int .u64 ((N 2).toNat : Int), .int .u64 ((N 3).toNat : Int)]) rfl (by kernel_rfl) (by kernel_rfl) (by kernel_rfl) (fun _ _ _ h => h) (Or.inl ⟨by rfl, by (intro w hSw; (try dsimp only at hSw); first | (go_simp; done) | (go_simp; with_reducible rfl))⟩) hHeld ?_
    try simp only [Act.put, List.setIfInBounds_toArray, List.set_cons_zero, List.set_cons_succ]
    refine wpAnyH_take (i := 6) (oi := { dst := some 22, op := Op.move (Operand.tmp 2), type := 5, pos := "law.go:67", after := #[{ on := 1, ground := Ground.guard }], guard := some (1, true) }) (v := .int .u8 (c.toNat : Int)) rfl (by kernel_rfl) (by kernel_rfl) (by kernel_rfl) (fun _ _ _ h => h) (Or.inl ⟨by rfl, by (intro w hSw; (try dsimp only at hSw); first | (go_simp; done) | (go_simp; with_reducible rfl))⟩) hHeld ?_
    try simp only [Act.put, List.setIfInBounds_toArray, List.set_cons_zero, List.set_cons_succ]
    refine wpAnyH_ready (rs := [4]) (by kernel_rfl) (by simp) ?_
    refine AllReadyH.cons (o := { dst := some 20, op := Op.call { callee := Callee.value (Operand.func 14), args := #[Operand.tmp 18, Operand.tmp 19], argTypes := #[30, 5] }, type := 4, pos := "law.go:67", after := #[{ on := 2, ground := Ground.data }, { on := 3, ground := Ground.data }, { on := 1, ground := Ground.chain }, { on := 1, ground := Ground.guard }], guard := some (1, true) }) rfl (fun K hK => ?_) AllReadyH.nil
    go_simp
    go_at_call 14; with_reducible refine (k1 _).mono ?_; rintro e w5 ⟨rfl, hb2⟩; replace HV := Lib.hid (below_up HV.out hb2 HV.out.size); clear hb2
    try dsimp only
    refine hK.out _ _ (KS _ HV.out) (fun hNew => ?_)
    clear hK K hHeld
    have hHeld := hNew
    clear hNew
    try simp only [Act.put, List.setIfInBounds_toArray, List.set_cons_zero, List.set_cons_succ]
    refine wpAnyH_ready (rs := [7]) (by kernel_rfl) (by simp) ?_
    refine AllReadyH.cons (o := { dst := some 23, op := Op.call { callee := Callee.value (Operand.func 14), args := #[Operand.tmp 21, Operand.tmp 22], argTypes := #[30, 5] }, type := 4, pos := "law.go:67", after := #[{ on := 5, ground := Ground.data }, { on := 6, ground := Ground.data }, { on := 4, ground := Ground.chain }, { on := 1, ground := Ground.guard }], guard := some (1, true) }) rfl (fun K hK => ?_) AllReadyH.nil
    go_simp
    go_at_call 14; with_reducible refine (k3 _).mono ?_; rintro e w5 ⟨rfl, hb2⟩; replace HV := Lib.hid (below_up HV.out hb2 HV.out.size); clear hb2
    try dsimp only
    refine hK.out _ _ (KS _ HV.out) (fun hNew => ?_)
    clear hK K hHeld
    have hHeld := hNew
    clear hNew
    try simp only [Act.put, List.setIfInBounds_toArray, List.set_cons_zero, List.set_cons_succ]
    refine wpAnyH_take (i := 8) (oi := { dst := some 24, op := Op.binOp BinOp.neq 4 (Operand.tmp 20) (Operand.tmp 23) 4, type := 4, pos := "law.go:67", after := #[{ on := 4, ground := Ground.data }, { on := 7, ground := Ground.data }, { on := 1, ground := Ground.guard }], guard := some (1, true) }) (v := .bool true) rfl (by kernel_rfl) (by kernel_rfl) (by kernel_rfl) (fun _ _ _ h => h) (Or.inl ⟨by rfl, by (intro w hSw; (try dsimp only at hSw); first | (go_simp; done) | (go_simp; with_reducible rfl))⟩) hHeld ?_
    try simp only [Act.put, List.setIfInBounds_toArray, List.set_cons_zero, List.set_cons_succ]
    refine wpAnyH_take (i := 9) (oi := { dst := some 25, op := Op.pick (Operand.tmp 17) (Operand.tmp 24) (Operand.const (Value.bool false)), type := 4, pos := "law.go:67", after := #[{ on := 1, ground := Ground.data }, { on := 8, ground := Ground.data }], guard := none }) (v := .bool true) rfl (by kernel_rfl) (by kernel_rfl) (by kernel_rfl) (fun _ _ _ h => h) (Or.inl ⟨by rfl, by (intro w hSw; (try dsimp only at hSw); first | (go_simp; done) | (go_simp; with_reducible rfl))⟩) hHeld ?_
    try simp only [Act.put, List.setIfInBounds_toArray, List.set_cons_zero, List.set_cons_succ]
    refine wpAnyH_take (i := 10) (oi := { dst := some 26, op := Op.move (Operand.tmp 25), type := 4, pos := "law.go:67", after := #[{ on := 9, ground := Ground.data }, { on := 7, ground := Ground.chain }], guard := none }) (v := .bool true) rfl (by kernel_rfl) (by kernel_rfl) (by kernel_rfl) (fun _ _ _ h => h) (Or.inl ⟨by rfl, by (intro w hSw; (try dsimp only at hSw); first | (go_simp; done) | (go_simp; with_reducible rfl))⟩) hHeld ?_
    try simp only [Act.put, List.setIfInBounds_toArray, List.set_cons_zero, List.set_cons_succ]
    refine wpAnyH_take (i := 11) (oi := { dst := some 27, op := Op.load 30 (Operand.tmp 8), type := 30, pos := "law.go:67", after := #[{ on := 10, ground := Ground.guard }], guard := some (10, true) }) (v := .agg #[.int .u64 ((N 0).toNat : Int), .int .u64 ((N 1).toNat : Int), .int .u64 ((N 2).toNat : Int), .int .u64 ((N 3).toNat : Int)]) rfl (by kernel_rfl) (by kernel_rfl) (by kernel_rfl) (fun _ _ _ h => h) (Or.inl ⟨by rfl, by (intro w hSw; (try dsimp only at hSw); first | (go_simp; done) | (go_simp; with_reducible rfl))⟩) hHeld ?_
    try simp only [Act.put, List.setIfInBounds_toArray, List.set_cons_zero, List.set_cons_succ]
    refine wpAnyH_take (i := 13) (oi := { dst := some 29, op := Op.load 30 (Operand.tmp 3), type := 30, pos := "law.go:67", after := #[{ on := 10, ground := Ground.guard }], guard := some (10, true) }) (v := .agg #[.int .u64 ((k 0).toNat : Int), .int .u64 ((k 1).toNat : Int), .int .u64 ((k 2).toNat : Int), .int .u64 ((k 3).toNat : Int)]) rfl (by kernel_rfl) (by kernel_rfl) (by kernel_rfl) (fun _ _ _ h => h) (Or.inl ⟨by rfl, by (intro w hSw; (try dsimp only at hSw); first | (go_simp; done) | (go_simp; with_reducible rfl))⟩) hHeld ?_
    try simp only [Act.put, List.setIfInBounds_toArray, List.set_cons_zero, List.set_cons_succ]
    refine wpAnyH_ready (rs := [12]) (by kernel_rfl) (by simp) ?_
    refine AllReadyH.cons (o := { dst := some 28, op := Op.call { callee := Callee.value (Operand.func 12), args := #[Operand.tmp 27], argTypes := #[30] }, type := 30, pos := "law.go:67", after := #[{ on := 11, ground := Ground.data }, { on := 10, ground := Ground.chain }, { on := 10, ground := Ground.guard }], guard := some (10, true) }) rfl (fun K hK => ?_) AllReadyH.nil
    go_simp
    go_at_call 12; with_reducible refine (k6 _).mono ?_; rintro e w5 ⟨rfl, hb2⟩; replace HV := Lib.hid (below_up HV.out hb2 HV.out.size); clear hb2
    try dsimp only
    refine hK.out _ _ (KS _ HV.out) (fun hNew => ?_)
    clear hK K hHeld
    have hHeld := hNew
    clear hNew
    try simp only [Act.put, List.setIfInBounds_toArray, List.set_cons_zero, List.set_cons_succ]
    refine wpAnyH_take (i := 14) (oi := { dst := some 30, op := Op.binOp BinOp.eql 30 (Operand.tmp 28) (Operand.tmp 29) 30, type := 4, pos := "law.go:67", after := #[{ on := 12, ground := Ground.data }, { on := 13, ground := Ground.data }, { on := 10, ground := Ground.guard }], guard := some (10, true) }) (v := .bool true) rfl (by kernel_rfl) (by kernel_rfl) (by kernel_rfl) (fun _ _ _ h => h) (Or.inl ⟨by rfl, by (intro w hSw; (try dsimp only at hSw); first | (go_simp; done) | (go_simp; with_reducible rfl))⟩) hHeld ?_
    try simp only [Act.put, List.setIfInBounds_toArray, List.set_cons_zero, List.set_cons_succ]
    refine wpAnyH_take (i := 15) (oi := { dst := some 31, op := Op.pick (Operand.tmp 26) (Operand.tmp 30) (Operand.const (Value.bool false)), type := 4, pos := "law.go:67", after := #[{ on := 10, ground := Ground.data }, { on := 14, ground := Ground.data }], guard := none }) (v := .bool true) rfl (by kernel_rfl) (by kernel_rfl) (by kernel_rfl) (fun _ _ _ h => h) (Or.inl ⟨by rfl, by (intro w hSw; (try dsimp only at hSw); first | (go_simp; done) | (go_simp; with_reducible rfl))⟩) hHeld ?_
    try simp only [Act.put, List.setIfInBounds_toArray, List.set_cons_zero, List.set_cons_succ]
    refine wpAnyH_take (i := 16) (oi := { dst := some 32, op := Op.move (Operand.tmp 31), type := 4, pos := "law.go:67", after := #[{ on := 15, ground := Ground.data }, { on := 12, ground := Ground.chain }], guard := none }) (v := .bool true) rfl (by kernel_rfl) (by kernel_rfl) (by kernel_rfl) (fun _ _ _ h => h) (Or.inl ⟨by rfl, by (intro w hSw; (try dsimp only at hSw); first | (go_simp; done) | (go_simp; with_reducible rfl))⟩) hHeld ?_
    try simp only [Act.put, List.setIfInBounds_toArray, List.set_cons_zero, List.set_cons_succ]
    refine wpAnyH_take (i := 17) (oi := { dst := some 33, op := Op.load 30 (Operand.tmp 3), type := 30, pos := "law.go:67", after := #[{ on := 16, ground := Ground.guard }], guard := some (16, true) }) (v := .agg #[.int .u64 ((k 0).toNat : Int), .int .u64 ((k 1).toNat : Int), .int .u64 ((k 2).toNat : Int), .int .u64 ((k 3).toNat : Int)]) rfl (by kernel_rfl) (by kernel_rfl) (by kernel_rfl) (fun _ _ _ h => h) (Or.inl ⟨by rfl, by (intro w hSw; (try dsimp only at hSw); first | (go_simp; done) | (go_simp; with_reducible rfl))⟩) hHeld ?_
    try simp only [Act.put, List.setIfInBounds_toArray, List.set_cons_zero, List.set_cons_succ]
    refine wpAnyH_take (i := 18) (oi := { dst := some 34, op := Op.load 30 (Operand.tmp 8), type := 30, pos := "law.go:67", after := #[{ on := 16, ground := Ground.guard }], guard := some (16, true) }) (v := .agg #[.int .u64 ((N 0).toNat : Int), .int .u64 ((N 1).toNat : Int), .int .u64 ((N 2).toNat : Int), .int .u64 ((N 3).toNat : Int)]) rfl (by kernel_rfl) (by kernel_rfl) (by kernel_rfl) (fun _ _ _ h => h) (Or.inl ⟨by rfl, by (intro w hSw; (try dsimp only at hSw); first | (go_simp; done) | (go_simp; with_reducible rfl))⟩) hHeld ?_
    try simp only [Act.put, List.setIfInBounds_toArray, List.set_cons_zero, List.set_cons_succ]
    refine wpAnyH_ready (rs := [19]) (by kernel_rfl) (by simp) ?_
    refine AllReadyH.cons (o := { dst := some 35, op := Op.call { callee := Callee.value (Operand.func 13), args := #[Operand.tmp 33, Operand.tmp 34], argTypes := #[30, 30] }, type := 30, pos := "law.go:67", after := #[{ on := 17, ground := Ground.data }, { on := 18, ground := Ground.data }, { on := 16, ground := Ground.chain }, { on := 16, ground := Ground.guard }], guard := some (16, true) }) rfl (fun K hK => ?_) AllReadyH.nil
    go_simp
    go_at_call 13; with_reducible refine (k8 _).mono ?_; rintro e w5 ⟨rfl, hb2⟩; replace HV := Lib.hid (below_up HV.out hb2 HV.out.size); clear hb2
    try dsimp only
    refine hK.out _ _ (KS _ HV.out) (fun hNew => ?_)
    clear hK K hHeld
    have hHeld := hNew
    clear hNew
    try simp only [Act.put, List.setIfInBounds_toArray, List.set_cons_zero, List.set_cons_succ]
    refine wpAnyH_ready (rs := [20]) (by kernel_rfl) (by simp) ?_
    refine AllReadyH.cons (o := { dst := some 36, op := Op.call { callee := Callee.value (Operand.func 15), args := #[Operand.tmp 35], argTypes := #[30] }, type := 3, pos := "law.go:67", after := #[{ on := 19, ground := Ground.data }, { on := 19, ground := Ground.chain }, { on := 16, ground := Ground.guard }], guard := some (16, true) }) rfl (fun K hK => ?_) AllReadyH.nil
    go_simp
    go_at_call 15; with_reducible refine (k9 _).mono ?_; rintro e w5 ⟨rfl, hb2⟩; replace HV := Lib.hid (below_up HV.out hb2 HV.out.size); clear hb2
    try dsimp only
    refine hK.out _ _ (KS _ HV.out) (fun hNew => ?_)
    clear hK K hHeld
    have hHeld := hNew
    clear hNew
    try simp only [Act.put, List.setIfInBounds_toArray, List.set_cons_zero, List.set_cons_succ]
    refine wpAnyH_take (i := 21) (oi := { dst := some 37, op := Op.binOp BinOp.eql 3 (Operand.tmp 36) (Operand.const (Value.int IntKind.i64 256)) 3, type := 4, pos := "law.go:67", after := #[{ on := 20, ground := Ground.data }, { on := 16, ground := Ground.guard }], guard := some (16, true) }) (v := .bool true) rfl (by kernel_rfl) (by kernel_rfl) (by kernel_rfl) (fun _ _ _ h => h) (Or.inl ⟨by rfl, by (intro w hSw; (try dsimp only at hSw); first | (go_simp; done) | (go_simp; with_reducible rfl))⟩) hHeld ?_
    try simp only [Act.put, List.setIfInBounds_toArray, List.set_cons_zero, List.set_cons_succ]
    refine wpAnyH_take (i := 22) (oi := { dst := some 38, op := Op.pick (Operand.tmp 32) (Operand.tmp 37) (Operand.const (Value.bool false)), type := 4, pos := "law.go:67", after := #[{ on := 16, ground := Ground.data }, { on := 21, ground := Ground.data }], guard := none }) (v := .bool true) rfl (by kernel_rfl) (by kernel_rfl) (by kernel_rfl) (fun _ _ _ h => h) (Or.inl ⟨by rfl, by (intro w hSw; (try dsimp only at hSw); first | (go_simp; done) | (go_simp; with_reducible rfl))⟩) hHeld ?_
    try simp only [Act.put, List.setIfInBounds_toArray, List.set_cons_zero, List.set_cons_succ]
    refine wpAnyH_take (i := 23) (oi := { dst := some 39, op := Op.move (Operand.tmp 38), type := 4, pos := "law.go:67", after := #[{ on := 22, ground := Ground.data }, { on := 20, ground := Ground.chain }], guard := none }) (v := .bool true) rfl (by kernel_rfl) (by kernel_rfl) (by kernel_rfl) (fun _ _ _ h => h) (Or.inl ⟨by rfl, by (intro w hSw; (try dsimp only at hSw); first | (go_simp; done) | (go_simp; with_reducible rfl))⟩) hHeld ?_
    try simp only [Act.put, List.setIfInBounds_toArray, List.set_cons_zero, List.set_cons_succ]
    refine wpAnyH_take (i := 24) (oi := { dst := some 40, op := Op.load 30 (Operand.tmp 9), type := 30, pos := "law.go:67", after := #[{ on := 23, ground := Ground.guard }], guard := some (23, true) }) (v := .agg #[.int .u64 ((O 0).toNat : Int), .int .u64 ((O 1).toNat : Int), .int .u64 ((O 2).toNat : Int), .int .u64 ((O 3).toNat : Int)]) rfl (by kernel_rfl) (by kernel_rfl) (by kernel_rfl) (fun _ _ _ h => h) (Or.inl ⟨by rfl, by (intro w hSw; (try dsimp only at hSw); first | (go_simp; done) | (go_simp; with_reducible rfl))⟩) hHeld ?_
    try simp only [Act.put, List.setIfInBounds_toArray, List.set_cons_zero, List.set_cons_succ]
    refine wpAnyH_take (i := 25) (oi := { dst := some 41, op := Op.move (Operand.tmp 2), type := 5, pos := "law.go:67", after := #[{ on := 23, ground := Ground.guard }], guard := some (23, true) }) (v := .int .u8 (c.toNat : Int)) rfl (by kernel_rfl) (by kernel_rfl) (by kernel_rfl) (fun _ _ _ h => h) (Or.inl ⟨by rfl, by (intro w hSw; (try dsimp only at hSw); first | (go_simp; done) | (go_simp; with_reducible rfl))⟩) hHeld ?_
    try simp only [Act.put, List.setIfInBounds_toArray, List.set_cons_zero, List.set_cons_succ]
    refine wpAnyH_take (i := 27) (oi := { dst := some 43, op := Op.load 30 (Operand.tmp 3), type := 30, pos := "law.go:67", after := #[{ on := 23, ground := Ground.guard }], guard := some (23, true) }) (v := .agg #[.int .u64 ((k 0).toNat : Int), .int .u64 ((k 1).toNat : Int), .int .u64 ((k 2).toNat : Int), .int .u64 ((k 3).toNat : Int)]) rfl (by kernel_rfl) (by kernel_rfl) (by kernel_rfl) (fun _ _ _ h => h) (Or.inl ⟨by rfl, by (intro w hSw; (try dsimp only at hSw); first | (go_simp; done) | (go_simp; with_reducible rfl))⟩) hHeld ?_
    try simp only [Act.put, List.setIfInBounds_toArray, List.set_cons_zero, List.set_cons_succ]
    refine wpAnyH_take (i := 28) (oi := { dst := some 44, op := Op.move (Operand.tmp 2), type := 5, pos := "law.go:67", after := #[{ on := 23, ground := Ground.guard }], guard := some (23, true) }) (v := .int .u8 (c.toNat : Int)) rfl (by kernel_rfl) (by kernel_rfl) (by kernel_rfl) (fun _ _ _ h => h) (Or.inl ⟨by rfl, by (intro w hSw; (try dsimp only at hSw); first | (go_simp; done) | (go_simp; with_reducible rfl))⟩) hHeld ?_
    try simp only [Act.put, List.setIfInBounds_toArray, List.set_cons_zero, List.set_cons_succ]
    refine wpAnyH_ready (rs := [26]) (by kernel_rfl) (by simp) ?_
    refine AllReadyH.cons (o := { dst := some 42, op := Op.call { callee := Callee.value (Operand.func 14), args := #[Operand.tmp 40, Operand.tmp 41], argTypes := #[30, 5] }, type := 4, pos := "law.go:67", after := #[{ on := 24, ground := Ground.data }, { on := 25, ground := Ground.data }, { on := 23, ground := Ground.chain }, { on := 23, ground := Ground.guard }], guard := some (23, true) }) rfl (fun K hK => ?_) AllReadyH.nil
    go_simp
    go_at_call 14; with_reducible refine (k4 _).mono ?_; rintro e w5 ⟨rfl, hb2⟩; replace HV := Lib.hid (below_up HV.out hb2 HV.out.size); clear hb2
    try dsimp only
    refine hK.out _ _ (KS _ HV.out) (fun hNew => ?_)
    clear hK K hHeld
    have hHeld := hNew
    clear hNew
    try simp only [Act.put, List.setIfInBounds_toArray, List.set_cons_zero, List.set_cons_succ]
    refine wpAnyH_ready (rs := [29]) (by kernel_rfl) (by simp) ?_
    refine AllReadyH.cons (o := { dst := some 45, op := Op.call { callee := Callee.value (Operand.func 14), args := #[Operand.tmp 43, Operand.tmp 44], argTypes := #[30, 5] }, type := 4, pos := "law.go:67", after := #[{ on := 27, ground := Ground.data }, { on := 28, ground := Ground.data }, { on := 26, ground := Ground.chain }, { on := 23, ground := Ground.guard }], guard := some (23, true) }) rfl (fun K hK => ?_) AllReadyH.nil
    go_simp
    go_at_call 14; with_reducible refine (k1 _).mono ?_; rintro e w5 ⟨rfl, hb2⟩; replace HV := Lib.hid (below_up HV.out hb2 HV.out.size); clear hb2
    try dsimp only
    refine hK.out _ _ (KS _ HV.out) (fun hNew => ?_)
    clear hK K hHeld
    have hHeld := hNew
    clear hNew
    try simp only [Act.put, List.setIfInBounds_toArray, List.set_cons_zero, List.set_cons_succ]
    refine wpAnyH_take (i := 30) (oi := { dst := some 46, op := Op.move (Operand.tmp 45), type := 4, pos := "law.go:67", after := #[{ on := 29, ground := Ground.data }, { on := 29, ground := Ground.chain }, { on := 23, ground := Ground.guard }], guard := some (23, true) }) (v := .bool true) rfl (by kernel_rfl) (by kernel_rfl) (by kernel_rfl) (fun _ _ _ h => h) (Or.inl ⟨by rfl, by (intro w hSw; (try dsimp only at hSw); first | (go_simp; done) | (go_simp; with_reducible rfl))⟩) hHeld ?_
    try simp only [Act.put, List.setIfInBounds_toArray, List.set_cons_zero, List.set_cons_succ]
    refine wpAnyH_take (i := 31) (oi := { dst := some 47, op := Op.load 30 (Operand.tmp 4), type := 30, pos := "law.go:67", after := #[{ on := 30, ground := Ground.guard }], guard := some (30, false) }) (v := undef) rfl (by kernel_rfl) (by kernel_rfl) (by kernel_rfl) (fun _ _ _ h => h) (Or.inr ⟨rfl, rfl⟩) hHeld ?_
    try simp only [Act.put, List.setIfInBounds_toArray, List.set_cons_zero, List.set_cons_succ]
    refine wpAnyH_take (i := 32) (oi := { dst := some 48, op := Op.move (Operand.tmp 2), type := 5, pos := "law.go:67", after := #[{ on := 30, ground := Ground.guard }], guard := some (30, false) }) (v := undef) rfl (by kernel_rfl) (by kernel_rfl) (by kernel_rfl) (fun _ _ _ h => h) (Or.inr ⟨rfl, rfl⟩) hHeld ?_
    try simp only [Act.put, List.setIfInBounds_toArray, List.set_cons_zero, List.set_cons_succ]
    refine wpAnyH_take (i := 33) (oi := { dst := some 49, op := Op.call { callee := Callee.value (Operand.func 14), args := #[Operand.tmp 47, Operand.tmp 48], argTypes := #[30, 5] }, type := 4, pos := "law.go:67", after := #[{ on := 31, ground := Ground.data }, { on := 32, ground := Ground.data }, { on := 30, ground := Ground.chain }, { on := 30, ground := Ground.guard }], guard := some (30, false) }) (v := undef) rfl (by kernel_rfl) (by kernel_rfl) (by kernel_rfl) (fun _ _ _ h => h) (Or.inr ⟨rfl, rfl⟩) hHeld ?_
    try simp only [Act.put, List.setIfInBounds_toArray, List.set_cons_zero, List.set_cons_succ]
    refine wpAnyH_take (i := 34) (oi := { dst := some 50, op := Op.pick (Operand.tmp 46) (Operand.const (Value.bool true)) (Operand.tmp 49), type := 4, pos := "law.go:67", after := #[{ on := 30, ground := Ground.data }, { on := 33, ground := Ground.data }, { on := 23, ground := Ground.guard }], guard := some (23, true) }) (v := .bool true) rfl (by kernel_rfl) (by kernel_rfl) (by kernel_rfl) (fun _ _ _ h => h) (Or.inl ⟨by rfl, by (intro w hSw; (try dsimp only at hSw); first | (go_simp; done) | (go_simp; with_reducible rfl))⟩) hHeld ?_
    try simp only [Act.put, List.setIfInBounds_toArray, List.set_cons_zero, List.set_cons_succ]
    refine wpAnyH_take (i := 35) (oi := { dst := some 51, op := Op.binOp BinOp.eql 4 (Operand.tmp 42) (Operand.tmp 50) 4, type := 4, pos := "law.go:67", after := #[{ on := 26, ground := Ground.data }, { on := 34, ground := Ground.data }, { on := 23, ground := Ground.guard }], guard := some (23, true) }) (v := .bool true) rfl (by kernel_rfl) (by kernel_rfl) (by kernel_rfl) (fun _ _ _ h => h) (Or.inl ⟨by rfl, by (intro w hSw; (try dsimp only at hSw); first | (go_simp; done) | (go_simp; with_reducible rfl))⟩) hHeld ?_
    try simp only [Act.put, List.setIfInBounds_toArray, List.set_cons_zero, List.set_cons_succ]
    refine wpAnyH_take (i := 36) (oi := { dst := some 52, op := Op.pick (Operand.tmp 39) (Operand.tmp 51) (Operand.const (Value.bool false)), type := 4, pos := "law.go:67", after := #[{ on := 23, ground := Ground.data }, { on := 35, ground := Ground.data }], guard := none }) (v := .bool true) rfl (by kernel_rfl) (by kernel_rfl) (by kernel_rfl) (fun _ _ _ h => h) (Or.inl ⟨by rfl, by (intro w hSw; (try dsimp only at hSw); first | (go_simp; done) | (go_simp; with_reducible rfl))⟩) hHeld ?_
    try simp only [Act.put, List.setIfInBounds_toArray, List.set_cons_zero, List.set_cons_succ]
    refine wpAnyH_take (i := 37) (oi := { dst := some 53, op := Op.move (Operand.tmp 52), type := 4, pos := "law.go:67", after := #[{ on := 36, ground := Ground.data }, { on := 33, ground := Ground.chain }], guard := none }) (v := .bool true) rfl (by kernel_rfl) (by kernel_rfl) (by kernel_rfl) (fun _ _ _ h => h) (Or.inl ⟨by rfl, by (intro w hSw; (try dsimp only at hSw); first | (go_simp; done) | (go_simp; with_reducible rfl))⟩) hHeld ?_
    try simp only [Act.put, List.setIfInBounds_toArray, List.set_cons_zero, List.set_cons_succ]
    refine wpAnyH_take (i := 38) (oi := { dst := some 54, op := Op.load 30 (Operand.tmp 9), type := 30, pos := "law.go:67", after := #[{ on := 37, ground := Ground.guard }], guard := some (37, true) }) (v := .agg #[.int .u64 ((O 0).toNat : Int), .int .u64 ((O 1).toNat : Int), .int .u64 ((O 2).toNat : Int), .int .u64 ((O 3).toNat : Int)]) rfl (by kernel_rfl) (by kernel_rfl) (by kernel_rfl) (fun _ _ _ h => h) (Or.inl ⟨by rfl, by (intro w hSw; (try dsimp only at hSw); first | (go_simp; done) | (go_simp; with_reducible rfl))⟩) hHeld ?_
    try simp only [Act.put, List.setIfInBounds_toArray, List.set_cons_zero, List.set_cons_succ]
    refine wpAnyH_take (i := 40) (oi := { dst := some 56, op := Op.load 30 (Operand.tmp 3), type := 30, pos := "law.go:67", after := #[{ on := 37, ground := Ground.guard }], guard := some (37, true) }) (v := .agg #[.int .u64 ((k 0).toNat : Int), .int .u64 ((k 1).toNat : Int), .int .u64 ((k 2).toNat : Int), .int .u64 ((k 3).toNat : Int)]) rfl (by kernel_rfl) (by kernel_rfl) (by kernel_rfl) (fun _ _ _ h => h) (Or.inl ⟨by rfl, by (intro w hSw; (try dsimp only at hSw); first | (go_simp; done) | (go_simp; with_reducible rfl))⟩) hHeld ?_
    try simp only [Act.put, List.setIfInBounds_toArray, List.set_cons_zero, List.set_cons_succ]
    refine wpAnyH_ready (rs := [39]) (by kernel_rfl) (by simp) ?_
    refine AllReadyH.cons (o := { dst := some 55, op := Op.call { callee := Callee.value (Operand.func 15), args := #[Operand.tmp 54], argTypes := #[30] }, type := 3, pos := "law.go:67", after := #[{ on := 38, ground := Ground.data }, { on := 37, ground := Ground.chain }, { on := 37, ground := Ground.guard }], guard := some (37, true) }) rfl (fun K hK => ?_) AllReadyH.nil
    go_simp
    go_at_call 15; with_reducible refine (k10 _).mono ?_; rintro e w5 ⟨rfl, hb2⟩; replace HV := Lib.hid (below_up HV.out hb2 HV.out.size); clear hb2
    try dsimp only
    refine hK.out _ _ (KS _ HV.out) (fun hNew => ?_)
    clear hK K hHeld
    have hHeld := hNew
    clear hNew
    try simp only [Act.put, List.setIfInBounds_toArray, List.set_cons_zero, List.set_cons_succ]
    refine wpAnyH_ready (rs := [41]) (by kernel_rfl) (by simp) ?_
    refine AllReadyH.cons (o := { dst := some 57, op := Op.call { callee := Callee.value (Operand.func 15), args := #[Operand.tmp 56], argTypes := #[30] }, type := 3, pos := "law.go:67", after := #[{ on := 40, ground := Ground.data }, { on := 39, ground := Ground.chain }, { on := 37, ground := Ground.guard }], guard := some (37, true) }) rfl (fun K hK => ?_) AllReadyH.nil
    go_simp
    go_at_call 15; with_reducible refine (k11 _).mono ?_; rintro e w5 ⟨rfl, hb2⟩; replace HV := Lib.hid (below_up HV.out hb2 HV.out.size); clear hb2
    try dsimp only
    refine hK.out _ _ (KS _ HV.out) (fun hNew => ?_)
    clear hK K hHeld
    have hHeld := hNew
    clear hNew
    try simp only [Act.put, List.setIfInBounds_toArray, List.set_cons_zero, List.set_cons_succ]
    refine wpAnyH_take (i := 42) (oi := { dst := some 58, op := Op.binOp BinOp.geq 3 (Operand.tmp 55) (Operand.tmp 57) 3, type := 4, pos := "law.go:67", after := #[{ on := 39, ground := Ground.data }, { on := 41, ground := Ground.data }, { on := 37, ground := Ground.guard }], guard := some (37, true) }) (v := .bool true) rfl (by kernel_rfl) (by kernel_rfl) (by kernel_rfl) (fun _ _ _ h => h) (Or.inl ⟨by rfl, by (intro w hSw; (try dsimp only at hSw); first | (go_simp; done) | (go_simp; with_reducible rfl))⟩) hHeld ?_
    try simp only [Act.put, List.setIfInBounds_toArray, List.set_cons_zero, List.set_cons_succ]
    refine wpAnyH_take (i := 43) (oi := { dst := some 59, op := Op.pick (Operand.tmp 53) (Operand.tmp 58) (Operand.const (Value.bool false)), type := 4, pos := "law.go:67", after := #[{ on := 37, ground := Ground.data }, { on := 42, ground := Ground.data }], guard := none }) (v := .bool true) rfl (by kernel_rfl) (by kernel_rfl) (by kernel_rfl) (fun _ _ _ h => h) (Or.inl ⟨by rfl, by (intro w hSw; (try dsimp only at hSw); first | (go_simp; done) | (go_simp; with_reducible rfl))⟩) hHeld ?_
    try simp only [Act.put, List.setIfInBounds_toArray, List.set_cons_zero, List.set_cons_succ]
    refine wpAnyH_take (i := 44) (oi := { dst := some 6, op := Op.assign (Operand.tmp 59), type := 4, pos := "law.go:67", after := #[{ on := 43, ground := Ground.data }, { on := 41, ground := Ground.chain }, { on := 0, ground := Ground.phase }, { on := 1, ground := Ground.phase }, { on := 2, ground := Ground.phase }, { on := 3, ground := Ground.phase }, { on := 4, ground := Ground.phase }, { on := 5, ground := Ground.phase }, { on := 6, ground := Ground.phase }, { on := 7, ground := Ground.phase }, { on := 8, ground := Ground.phase }, { on := 9, ground := Ground.phase }, { on := 10, ground := Ground.phase }, { on := 11, ground := Ground.phase }, { on := 12, ground := Ground.phase }, { on := 13, ground := Ground.phase }, { on := 14, ground := Ground.phase }, { on := 15, ground := Ground.phase }, { on := 16, ground := Ground.phase }, { on := 17, ground := Ground.phase }, { on := 18, ground := Ground.phase }, { on := 19, ground := Ground.phase }, { on := 20, ground := Ground.phase }, { on := 21, ground := Ground.phase }, { on := 22, ground := Ground.phase }, { on := 23, ground := Ground.phase }, { on := 24, ground := Ground.phase }, { on := 25, ground := Ground.phase }, { on := 26, ground := Ground.phase }, { on := 27, ground := Ground.phase }, { on := 28, ground := Ground.phase }, { on := 29, ground := Ground.phase }, { on := 30, ground := Ground.phase }, { on := 31, ground := Ground.phase }, { on := 32, ground := Ground.phase }, { on := 33, ground := Ground.phase }, { on := 34, ground := Ground.phase }, { on := 35, ground := Ground.phase }, { on := 36, ground := Ground.phase }, { on := 37, ground := Ground.phase }, { on := 38, ground := Ground.phase }, { on := 39, ground := Ground.phase }, { on := 40, ground := Ground.phase }, { on := 41, ground := Ground.phase }, { on := 42, ground := Ground.phase }, { on := 43, ground := Ground.phase }], guard := none }) (v := .bool true) rfl (by kernel_rfl) (by kernel_rfl) (by kernel_rfl) (fun _ _ _ h => h) (Or.inl ⟨by rfl, by (intro w hSw; (try dsimp only at hSw); first | (go_simp; done) | (go_simp; with_reducible rfl))⟩) hHeld ?_
    try simp only [Act.put, List.setIfInBounds_toArray, List.set_cons_zero, List.set_cons_succ]
    refine wpAnyH_done (by kernel_rfl) ?_ _
    refine NoPanic.normal ?_
    go_wp2
    go_ret
    exact ⟨rfl, below_up HW.out HV.out HW.out.size⟩
  · -- True
    go_enter Try.func4, Try.ntmps4
    go_upto_region 4 with (first
      | (go_at_call 7; refine (ks _).mono ?_; clear ks; rintro e w1 ⟨rfl, hb1⟩
         have hk1 := (hb1.block w.heap.size (by simp; omega)).trans ((Below.heap_alloc _ _ _ (by simp)).trans HK.out)
         have hl1 := (hb1.block (w.heap.size + 1) (by simp)).trans HL.out
         have hz1 := lt_of_block hl1
         have HB := Lib.hid ((((Below.refl _ w).alloc (Nat.le_refl _) _).alloc (by simp) _).trans (hb1.mono (by simp; omega)))
         clear hb1 HK HL
         have HK := Lib.hid hk1
         have HL := Lib.hid hl1
         obtain ⟨p0, p1, p2, p3⟩ := four_wd hk1
         clear hk1 hl1)
      | (go_at_call 12; with_reducible refine (k5 _).mono ?_; rintro e w2 ⟨rfl, hb2⟩
         have hk1 := (hb2.block _ (by omega)).trans HK.out
         have hl1 := (hb2.block _ (by omega)).trans HL.out
         replace HB := Lib.hid (below_up HB.out hb2 HB.out.size)
         have hz2 := lt_of_block hl1
         have hz2b := lt_of_block hk1
         clear hb2 HK HL p0 p1 p2 p3
         have HK := Lib.hid hk1
         have HL := Lib.hid hl1
         obtain ⟨p0, p1, p2, p3⟩ := four_wd hk1
         obtain ⟨q0, q1, q2, q3⟩ := four_wd hl1
         clear hk1 hl1)
      | (go_at_call 13; with_reducible refine (k7 _).mono ?_; rintro e w3 ⟨rfl, hb3⟩))
    clear p0 p1 p2 p3 q0 q1 q2 q3
    have hz3 := hb3.size
    simp only [World.size_alloc] at hz3
    obtain ⟨V, hV⟩ : ∃ V, V = w3.alloc (.cells #[.int .u64 ((O 0).toNat : Int), .int .u64 ((O 1).toNat : Int), .int .u64 ((O 2).toNat : Int), .int .u64 ((O 3).toNat : Int)] 30) := ⟨_, rfl⟩
    have hk := (by rw [hV]; exact (Below.heap_alloc _ _ _ (by omega)).trans ((hb3.block w.heap.size (by simp; omega)).trans ((Below.heap_alloc _ _ _ (by omega)).trans HK.out)) : V.heap[w.heap.size]? = some (.cells (clsA k) 30 (0, 0)))
    have hl := (by rw [hV]; exact (Below.heap_alloc _ _ _ (by omega)).trans ((hb3.block (w.heap.size + 1) (by simp; omega)).trans ((Below.heap_alloc _ _ _ (by omega)).trans HL.out)) : V.heap[w.heap.size + 1]? = some (.cells (clsA l) 30 (0, 0)))
    have hn := (by rw [hV]; exact (Below.heap_alloc _ _ _ (by omega)).trans ((hb3.block w2.heap.size (by simp)).trans (four_alloc w2 N)) : V.heap[w2.heap.size]? = some (.cells (clsA N) 30 (0, 0)))
    have ho := (by rw [hV]; exact four_alloc w3 O : V.heap[w3.heap.size]? = some (.cells (clsA O) 30 (0, 0)))
    have HW := Lib.hid ((by rw [hV]; exact (below_up (HB.out.alloc HB.out.size _) hb3 (HB.out.alloc HB.out.size _).size).alloc (Nat.le_trans (HB.out.alloc HB.out.size _).size hb3.size) _ : Below w.heap.size w V))
    rw [← hV]
    clear hV hb3 HB HK HL hz1 hz2 hz2b hz3
    generalize w2.heap.size = gn at *
    generalize w3.heap.size = go at *
    have lk := lt_of_block hk
    have ll := lt_of_block hl
    have ln := lt_of_block hn
    have lo := lt_of_block ho
    have KS : ∀ Z, Below V.heap.size V Z → ((Z.cell? ⟨w.heap.size, 0, none⟩ = some (.int .u64 ((k 0).toNat : Int)) ∧ Z.cell? ⟨w.heap.size, 1, none⟩ = some (.int .u64 ((k 1).toNat : Int)) ∧ Z.cell? ⟨w.heap.size, 2, none⟩ = some (.int .u64 ((k 2).toNat : Int)) ∧ Z.cell? ⟨w.heap.size, 3, none⟩ = some (.int .u64 ((k 3).toNat : Int))) ∧ (Z.cell? ⟨w.heap.size + 1, 0, none⟩ = some (.int .u64 ((l 0).toNat : Int)) ∧ Z.cell? ⟨w.heap.size + 1, 1, none⟩ = some (.int .u64 ((l 1).toNat : Int)) ∧ Z.cell? ⟨w.heap.size + 1, 2, none⟩ = some (.int .u64 ((l 2).toNat : Int)) ∧ Z.cell? ⟨w.heap.size + 1, 3, none⟩ = some (.int .u64 ((l 3).toNat : Int))) ∧ (Z.cell? ⟨gn, 0, none⟩ = some (.int .u64 ((N 0).toNat : Int)) ∧ Z.cell? ⟨gn, 1, none⟩ = some (.int .u64 ((N 1).toNat : Int)) ∧ Z.cell? ⟨gn, 2, none⟩ = some (.int .u64 ((N 2).toNat : Int)) ∧ Z.cell? ⟨gn, 3, none⟩ = some (.int .u64 ((N 3).toNat : Int))) ∧ (Z.cell? ⟨go, 0, none⟩ = some (.int .u64 ((O 0).toNat : Int)) ∧ Z.cell? ⟨go, 1, none⟩ = some (.int .u64 ((O 1).toNat : Int)) ∧ Z.cell? ⟨go, 2, none⟩ = some (.int .u64 ((O 2).toNat : Int)) ∧ Z.cell? ⟨go, 3, none⟩ = some (.int .u64 ((O 3).toNat : Int)))) := fun Z hZ => ⟨four_wd ((hZ.block _ lk).trans hk), four_wd ((hZ.block _ ll).trans hl), four_wd ((hZ.block _ ln).trans hn), four_wd ((hZ.block _ lo).trans ho)⟩
    have HV := Lib.hid ((Below.refl V.heap.size V).drew)
    clear hk hl hn ho lk ll ln lo
    refine wp_region_noPanic ?_
    refine wp_region_held_drew (S := fun Z => (Z.cell? ⟨w.heap.size, 0, none⟩ = some (.int .u64 ((k 0).toNat : Int)) ∧ Z.cell? ⟨w.heap.size, 1, none⟩ = some (.int .u64 ((k 1).toNat : Int)) ∧ Z.cell? ⟨w.heap.size, 2, none⟩ = some (.int .u64 ((k 2).toNat : Int)) ∧ Z.cell? ⟨w.heap.size, 3, none⟩ = some (.int .u64 ((k 3).toNat : Int))) ∧ (Z.cell? ⟨w.heap.size + 1, 0, none⟩ = some (.int .u64 ((l 0).toNat : Int)) ∧ Z.cell? ⟨w.heap.size + 1, 1, none⟩ = some (.int .u64 ((l 1).toNat : Int)) ∧ Z.cell? ⟨w.heap.size + 1, 2, none⟩ = some (.int .u64 ((l 2).toNat : Int)) ∧ Z.cell? ⟨w.heap.size + 1, 3, none⟩ = some (.int .u64 ((l 3).toNat : Int))) ∧ (Z.cell? ⟨gn, 0, none⟩ = some (.int .u64 ((N 0).toNat : Int)) ∧ Z.cell? ⟨gn, 1, none⟩ = some (.int .u64 ((N 1).toNat : Int)) ∧ Z.cell? ⟨gn, 2, none⟩ = some (.int .u64 ((N 2).toNat : Int)) ∧ Z.cell? ⟨gn, 3, none⟩ = some (.int .u64 ((N 3).toNat : Int))) ∧ (Z.cell? ⟨go, 0, none⟩ = some (.int .u64 ((O 0).toNat : Int)) ∧ Z.cell? ⟨go, 1, none⟩ = some (.int .u64 ((O 1).toNat : Int)) ∧ Z.cell? ⟨go, 2, none⟩ = some (.int .u64 ((O 2).toNat : Int)) ∧ Z.cell? ⟨go, 3, none⟩ = some (.int .u64 ((O 3).toNat : Int)))) (by kernel_rfl) (KS _ HV.out) (fun hHeld => ?_)
    refine wpAnyH_take (i := 0) (oi := { dst := some 16, op := Op.move (Operand.tmp 7), type := 4, pos := "law.go:67", after := #[], guard := none }) (v := .bool true) rfl (by kernel_rfl) (by kernel_rfl) (by kernel_rfl) (fun _ _ _ h => h) (Or.inl ⟨by rfl, by (intro w hSw; (try dsimp only at hSw); first | (go_simp; done) | (go_simp; with_reducible rfl))⟩) hHeld ?_
    try simp only [Act.put, List.setIfInBounds_toArray, List.set_cons_zero, List.set_cons_succ]
    refine wpAnyH_take (i := 1) (oi := { dst := some 17, op := Op.move (Operand.tmp 16), type := 4, pos := "law.go:67", after := #[{ on := 0, ground := Ground.data }], guard := none }) (v := .bool true) rfl (by kernel_rfl) (by kernel_rfl) (by kernel_rfl) (fun _ _ _ h => h) (Or.inl ⟨by rfl, by (intro w hSw; (try dsimp only at hSw); first | (go_simp; done) | (go_simp; with_reducible rfl))⟩) hHeld ?_
    try simp only [Act.put, List.setIfInBounds_toArray, List.set_cons_zero, List.set_cons_succ]
    refine wpAnyH_take (i := 2) (oi := { dst := some 18, op := Op.load 30 (Operand.tmp 3), type := 30, pos := "law.go:67", after := #[{ on := 1, ground := Ground.guard }], guard := some (1, true) }) (v := .agg #[.int .u64 ((k 0).toNat : Int), .int .u64 ((k 1).toNat : Int), .int .u64 ((k 2).toNat : Int), .int .u64 ((k 3).toNat : Int)]) rfl (by kernel_rfl) (by kernel_rfl) (by kernel_rfl) (fun _ _ _ h => h) (Or.inl ⟨by rfl, by (intro w hSw; (try dsimp only at hSw); first | (go_simp; done) | (go_simp; with_reducible rfl))⟩) hHeld ?_
    try simp only [Act.put, List.setIfInBounds_toArray, List.set_cons_zero, List.set_cons_succ]
    refine wpAnyH_take (i := 3) (oi := { dst := some 19, op := Op.move (Operand.tmp 2), type := 5, pos := "law.go:67", after := #[{ on := 1, ground := Ground.guard }], guard := some (1, true) }) (v := .int .u8 (c.toNat : Int)) rfl (by kernel_rfl) (by kernel_rfl) (by kernel_rfl) (fun _ _ _ h => h) (Or.inl ⟨by rfl, by (intro w hSw; (try dsimp only at hSw); first | (go_simp; done) | (go_simp; with_reducible rfl))⟩) hHeld ?_
    try simp only [Act.put, List.setIfInBounds_toArray, List.set_cons_zero, List.set_cons_succ]
    refine wpAnyH_take (i := 5) (oi := { dst := some 21, op := Op.load 30 (Operand.tmp 8), type := 30, pos := "law.go:67", after := #[{ on := 1, ground := Ground.guard }], guard := some (1, true) }) (v := .agg #[.int .u64 ((N 0).toNat : Int), .int .u64 ((N 1).toNat : Int), .int .u64 ((N 2).toNat : Int), .int .u64 ((N 3).toNat : Int)]) rfl (by kernel_rfl) (by kernel_rfl) (by kernel_rfl) (fun _ _ _ h => h) (Or.inl ⟨by rfl, by (intro w hSw; (try dsimp only at hSw); first | (go_simp; done) | (go_simp; with_reducible rfl))⟩) hHeld ?_
    try simp only [Act.put, List.setIfInBounds_toArray, List.set_cons_zero, List.set_cons_succ]
    refine wpAnyH_take (i := 6) (oi := { dst := some 22, op := Op.move (Operand.tmp 2), type := 5, pos := "law.go:67", after := #[{ on := 1, ground := Ground.guard }], guard := some (1, true) }) (v := .int .u8 (c.toNat : Int)) rfl (by kernel_rfl) (by kernel_rfl) (by kernel_rfl) (fun _ _ _ h => h) (Or.inl ⟨by rfl, by (intro w hSw; (try dsimp only at hSw); first | (go_simp; done) | (go_simp; with_reducible rfl))⟩) hHeld ?_
    try simp only [Act.put, List.setIfInBounds_toArray, List.set_cons_zero, List.set_cons_succ]
    refine wpAnyH_ready (rs := [4]) (by kernel_rfl) (by simp) ?_
    refine AllReadyH.cons (o := { dst := some 20, op := Op.call { callee := Callee.value (Operand.func 14), args := #[Operand.tmp 18, Operand.tmp 19], argTypes := #[30, 5] }, type := 4, pos := "law.go:67", after := #[{ on := 2, ground := Ground.data }, { on := 3, ground := Ground.data }, { on := 1, ground := Ground.chain }, { on := 1, ground := Ground.guard }], guard := some (1, true) }) rfl (fun K hK => ?_) AllReadyH.nil
    go_simp
    go_at_call 14; with_reducible refine (k1 _).mono ?_; rintro e w5 ⟨rfl, hb2⟩; replace HV := Lib.hid (below_up HV.out hb2 HV.out.size); clear hb2
    try dsimp only
    refine hK.out _ _ (KS _ HV.out) (fun hNew => ?_)
    clear hK K hHeld
    have hHeld := hNew
    clear hNew
    try simp only [Act.put, List.setIfInBounds_toArray, List.set_cons_zero, List.set_cons_succ]
    refine wpAnyH_ready (rs := [7]) (by kernel_rfl) (by simp) ?_
    refine AllReadyH.cons (o := { dst := some 23, op := Op.call { callee := Callee.value (Operand.func 14), args := #[Operand.tmp 21, Operand.tmp 22], argTypes := #[30, 5] }, type := 4, pos := "law.go:67", after := #[{ on := 5, ground := Ground.data }, { on := 6, ground := Ground.data }, { on := 4, ground := Ground.chain }, { on := 1, ground := Ground.guard }], guard := some (1, true) }) rfl (fun K hK => ?_) AllReadyH.nil
    go_simp
    go_at_call 14; with_reducible refine (k3 _).mono ?_; rintro e w5 ⟨rfl, hb2⟩; replace HV := Lib.hid (below_up HV.out hb2 HV.out.size); clear hb2
    try dsimp only
    refine hK.out _ _ (KS _ HV.out) (fun hNew => ?_)
    clear hK K hHeld
    have hHeld := hNew
    clear hNew
    try simp only [Act.put, List.setIfInBounds_toArray, List.set_cons_zero, List.set_cons_succ]
    refine wpAnyH_take (i := 8) (oi := { dst := some 24, op := Op.binOp BinOp.neq 4 (Operand.tmp 20) (Operand.tmp 23) 4, type := 4, pos := "law.go:67", after := #[{ on := 4, ground := Ground.data }, { on := 7, ground := Ground.data }, { on := 1, ground := Ground.guard }], guard := some (1, true) }) (v := .bool true) rfl (by kernel_rfl) (by kernel_rfl) (by kernel_rfl) (fun _ _ _ h => h) (Or.inl ⟨by rfl, by (intro w hSw; (try dsimp only at hSw); first | (go_simp; done) | (go_simp; with_reducible rfl))⟩) hHeld ?_
    try simp only [Act.put, List.setIfInBounds_toArray, List.set_cons_zero, List.set_cons_succ]
    refine wpAnyH_take (i := 9) (oi := { dst := some 25, op := Op.pick (Operand.tmp 17) (Operand.tmp 24) (Operand.const (Value.bool false)), type := 4, pos := "law.go:67", after := #[{ on := 1, ground := Ground.data }, { on := 8, ground := Ground.data }], guard := none }) (v := .bool true) rfl (by kernel_rfl) (by kernel_rfl) (by kernel_rfl) (fun _ _ _ h => h) (Or.inl ⟨by rfl, by (intro w hSw; (try dsimp only at hSw); first | (go_simp; done) | (go_simp; with_reducible rfl))⟩) hHeld ?_
    try simp only [Act.put, List.setIfInBounds_toArray, List.set_cons_zero, List.set_cons_succ]
    refine wpAnyH_take (i := 10) (oi := { dst := some 26, op := Op.move (Operand.tmp 25), type := 4, pos := "law.go:67", after := #[{ on := 9, ground := Ground.data }, { on := 7, ground := Ground.chain }], guard := none }) (v := .bool true) rfl (by kernel_rfl) (by kernel_rfl) (by kernel_rfl) (fun _ _ _ h => h) (Or.inl ⟨by rfl, by (intro w hSw; (try dsimp only at hSw); first | (go_simp; done) | (go_simp; with_reducible rfl))⟩) hHeld ?_
    try simp only [Act.put, List.setIfInBounds_toArray, List.set_cons_zero, List.set_cons_succ]
    refine wpAnyH_take (i := 11) (oi := { dst := some 27, op := Op.load 30 (Operand.tmp 8), type := 30, pos := "law.go:67", after := #[{ on := 10, ground := Ground.guard }], guard := some (10, true) }) (v := .agg #[.int .u64 ((N 0).toNat : Int), .int .u64 ((N 1).toNat : Int), .int .u64 ((N 2).toNat : Int), .int .u64 ((N 3).toNat : Int)]) rfl (by kernel_rfl) (by kernel_rfl) (by kernel_rfl) (fun _ _ _ h => h) (Or.inl ⟨by rfl, by (intro w hSw; (try dsimp only at hSw); first | (go_simp; done) | (go_simp; with_reducible rfl))⟩) hHeld ?_
    try simp only [Act.put, List.setIfInBounds_toArray, List.set_cons_zero, List.set_cons_succ]
    refine wpAnyH_take (i := 13) (oi := { dst := some 29, op := Op.load 30 (Operand.tmp 3), type := 30, pos := "law.go:67", after := #[{ on := 10, ground := Ground.guard }], guard := some (10, true) }) (v := .agg #[.int .u64 ((k 0).toNat : Int), .int .u64 ((k 1).toNat : Int), .int .u64 ((k 2).toNat : Int), .int .u64 ((k 3).toNat : Int)]) rfl (by kernel_rfl) (by kernel_rfl) (by kernel_rfl) (fun _ _ _ h => h) (Or.inl ⟨by rfl, by (intro w hSw; (try dsimp only at hSw); first | (go_simp; done) | (go_simp; with_reducible rfl))⟩) hHeld ?_
    try simp only [Act.put, List.setIfInBounds_toArray, List.set_cons_zero, List.set_cons_succ]
    refine wpAnyH_ready (rs := [12]) (by kernel_rfl) (by simp) ?_
    refine AllReadyH.cons (o := { dst := some 28, op := Op.call { callee := Callee.value (Operand.func 12), args := #[Operand.tmp 27], argTypes := #[30] }, type := 30, pos := "law.go:67", after := #[{ on := 11, ground := Ground.data }, { on := 10, ground := Ground.chain }, { on := 10, ground := Ground.guard }], guard := some (10, true) }) rfl (fun K hK => ?_) AllReadyH.nil
    go_simp
    go_at_call 12; with_reducible refine (k6 _).mono ?_; rintro e w5 ⟨rfl, hb2⟩; replace HV := Lib.hid (below_up HV.out hb2 HV.out.size); clear hb2
    try dsimp only
    refine hK.out _ _ (KS _ HV.out) (fun hNew => ?_)
    clear hK K hHeld
    have hHeld := hNew
    clear hNew
    try simp only [Act.put, List.setIfInBounds_toArray, List.set_cons_zero, List.set_cons_succ]
    refine wpAnyH_take (i := 14) (oi := { dst := some 30, op := Op.binOp BinOp.eql 30 (Operand.tmp 28) (Operand.tmp 29) 30, type := 4, pos := "law.go:67", after := #[{ on := 12, ground := Ground.data }, { on := 13, ground := Ground.data }, { on := 10, ground := Ground.guard }], guard := some (10, true) }) (v := .bool true) rfl (by kernel_rfl) (by kernel_rfl) (by kernel_rfl) (fun _ _ _ h => h) (Or.inl ⟨by rfl, by (intro w hSw; (try dsimp only at hSw); first | (go_simp; done) | (go_simp; with_reducible rfl))⟩) hHeld ?_
    try simp only [Act.put, List.setIfInBounds_toArray, List.set_cons_zero, List.set_cons_succ]
    refine wpAnyH_take (i := 15) (oi := { dst := some 31, op := Op.pick (Operand.tmp 26) (Operand.tmp 30) (Operand.const (Value.bool false)), type := 4, pos := "law.go:67", after := #[{ on := 10, ground := Ground.data }, { on := 14, ground := Ground.data }], guard := none }) (v := .bool true) rfl (by kernel_rfl) (by kernel_rfl) (by kernel_rfl) (fun _ _ _ h => h) (Or.inl ⟨by rfl, by (intro w hSw; (try dsimp only at hSw); first | (go_simp; done) | (go_simp; with_reducible rfl))⟩) hHeld ?_
    try simp only [Act.put, List.setIfInBounds_toArray, List.set_cons_zero, List.set_cons_succ]
    refine wpAnyH_take (i := 16) (oi := { dst := some 32, op := Op.move (Operand.tmp 31), type := 4, pos := "law.go:67", after := #[{ on := 15, ground := Ground.data }, { on := 12, ground := Ground.chain }], guard := none }) (v := .bool true) rfl (by kernel_rfl) (by kernel_rfl) (by kernel_rfl) (fun _ _ _ h => h) (Or.inl ⟨by rfl, by (intro w hSw; (try dsimp only at hSw); first | (go_simp; done) | (go_simp; with_reducible rfl))⟩) hHeld ?_
    try simp only [Act.put, List.setIfInBounds_toArray, List.set_cons_zero, List.set_cons_succ]
    refine wpAnyH_take (i := 17) (oi := { dst := some 33, op := Op.load 30 (Operand.tmp 3), type := 30, pos := "law.go:67", after := #[{ on := 16, ground := Ground.guard }], guard := some (16, true) }) (v := .agg #[.int .u64 ((k 0).toNat : Int), .int .u64 ((k 1).toNat : Int), .int .u64 ((k 2).toNat : Int), .int .u64 ((k 3).toNat : Int)]) rfl (by kernel_rfl) (by kernel_rfl) (by kernel_rfl) (fun _ _ _ h => h) (Or.inl ⟨by rfl, by (intro w hSw; (try dsimp only at hSw); first | (go_simp; done) | (go_simp; with_reducible rfl))⟩) hHeld ?_
    try simp only [Act.put, List.setIfInBounds_toArray, List.set_cons_zero, List.set_cons_succ]
    refine wpAnyH_take (i := 18) (oi := { dst := some 34, op := Op.load 30 (Operand.tmp 8), type := 30, pos := "law.go:67", after := #[{ on := 16, ground := Ground.guard }], guard := some (16, true) }) (v := .agg #[.int .u64 ((N 0).toNat : Int), .int .u64 ((N 1).toNat : Int), .int .u64 ((N 2).toNat : Int), .int .u64 ((N 3).toNat : Int)]) rfl (by kernel_rfl) (by kernel_rfl) (by kernel_rfl) (fun _ _ _ h => h) (Or.inl ⟨by rfl, by (intro w hSw; (try dsimp only at hSw); first | (go_simp; done) | (go_simp; with_reducible rfl))⟩) hHeld ?_
    try simp only [Act.put, List.setIfInBounds_toArray, List.set_cons_zero, List.set_cons_succ]
    refine wpAnyH_ready (rs := [19]) (by kernel_rfl) (by simp) ?_
    refine AllReadyH.cons (o := { dst := some 35, op := Op.call { callee := Callee.value (Operand.func 13), args := #[Operand.tmp 33, Operand.tmp 34], argTypes := #[30, 30] }, type := 30, pos := "law.go:67", after := #[{ on := 17, ground := Ground.data }, { on := 18, ground := Ground.data }, { on := 16, ground := Ground.chain }, { on := 16, ground := Ground.guard }], guard := some (16, true) }) rfl (fun K hK => ?_) AllReadyH.nil
    go_simp
    go_at_call 13; with_reducible refine (k8 _).mono ?_; rintro e w5 ⟨rfl, hb2⟩; replace HV := Lib.hid (below_up HV.out hb2 HV.out.size); clear hb2
    try dsimp only
    refine hK.out _ _ (KS _ HV.out) (fun hNew => ?_)
    clear hK K hHeld
    have hHeld := hNew
    clear hNew
    try simp only [Act.put, List.setIfInBounds_toArray, List.set_cons_zero, List.set_cons_succ]
    refine wpAnyH_ready (rs := [20]) (by kernel_rfl) (by simp) ?_
    refine AllReadyH.cons (o := { dst := some 36, op := Op.call { callee := Callee.value (Operand.func 15), args := #[Operand.tmp 35], argTypes := #[30] }, type := 3, pos := "law.go:67", after := #[{ on := 19, ground := Ground.data }, { on := 19, ground := Ground.chain }, { on := 16, ground := Ground.guard }], guard := some (16, true) }) rfl (fun K hK => ?_) AllReadyH.nil
    go_simp
    go_at_call 15; with_reducible refine (k9 _).mono ?_; rintro e w5 ⟨rfl, hb2⟩; replace HV := Lib.hid (below_up HV.out hb2 HV.out.size); clear hb2
    try dsimp only
    refine hK.out _ _ (KS _ HV.out) (fun hNew => ?_)
    clear hK K hHeld
    have hHeld := hNew
    clear hNew
    try simp only [Act.put, List.setIfInBounds_toArray, List.set_cons_zero, List.set_cons_succ]
    refine wpAnyH_take (i := 21) (oi := { dst := some 37, op := Op.binOp BinOp.eql 3 (Operand.tmp 36) (Operand.const (Value.int IntKind.i64 256)) 3, type := 4, pos := "law.go:67", after := #[{ on := 20, ground := Ground.data }, { on := 16, ground := Ground.guard }], guard := some (16, true) }) (v := .bool true) rfl (by kernel_rfl) (by kernel_rfl) (by kernel_rfl) (fun _ _ _ h => h) (Or.inl ⟨by rfl, by (intro w hSw; (try dsimp only at hSw); first | (go_simp; done) | (go_simp; with_reducible rfl))⟩) hHeld ?_
    try simp only [Act.put, List.setIfInBounds_toArray, List.set_cons_zero, List.set_cons_succ]
    refine wpAnyH_take (i := 22) (oi := { dst := some 38, op := Op.pick (Operand.tmp 32) (Operand.tmp 37) (Operand.const (Value.bool false)), type := 4, pos := "law.go:67", after := #[{ on := 16, ground := Ground.data }, { on := 21, ground := Ground.data }], guard := none }) (v := .bool true) rfl (by kernel_rfl) (by kernel_rfl) (by kernel_rfl) (fun _ _ _ h => h) (Or.inl ⟨by rfl, by (intro w hSw; (try dsimp only at hSw); first | (go_simp; done) | (go_simp; with_reducible rfl))⟩) hHeld ?_
    try simp only [Act.put, List.setIfInBounds_toArray, List.set_cons_zero, List.set_cons_succ]
    refine wpAnyH_take (i := 23) (oi := { dst := some 39, op := Op.move (Operand.tmp 38), type := 4, pos := "law.go:67", after := #[{ on := 22, ground := Ground.data }, { on := 20, ground := Ground.chain }], guard := none }) (v := .bool true) rfl (by kernel_rfl) (by kernel_rfl) (by kernel_rfl) (fun _ _ _ h => h) (Or.inl ⟨by rfl, by (intro w hSw; (try dsimp only at hSw); first | (go_simp; done) | (go_simp; with_reducible rfl))⟩) hHeld ?_
    try simp only [Act.put, List.setIfInBounds_toArray, List.set_cons_zero, List.set_cons_succ]
    refine wpAnyH_take (i := 24) (oi := { dst := some 40, op := Op.load 30 (Operand.tmp 9), type := 30, pos := "law.go:67", after := #[{ on := 23, ground := Ground.guard }], guard := some (23, true) }) (v := .agg #[.int .u64 ((O 0).toNat : Int), .int .u64 ((O 1).toNat : Int), .int .u64 ((O 2).toNat : Int), .int .u64 ((O 3).toNat : Int)]) rfl (by kernel_rfl) (by kernel_rfl) (by kernel_rfl) (fun _ _ _ h => h) (Or.inl ⟨by rfl, by (intro w hSw; (try dsimp only at hSw); first | (go_simp; done) | (go_simp; with_reducible rfl))⟩) hHeld ?_
    try simp only [Act.put, List.setIfInBounds_toArray, List.set_cons_zero, List.set_cons_succ]
    refine wpAnyH_take (i := 25) (oi := { dst := some 41, op := Op.move (Operand.tmp 2), type := 5, pos := "law.go:67", after := #[{ on := 23, ground := Ground.guard }], guard := some (23, true) }) (v := .int .u8 (c.toNat : Int)) rfl (by kernel_rfl) (by kernel_rfl) (by kernel_rfl) (fun _ _ _ h => h) (Or.inl ⟨by rfl, by (intro w hSw; (try dsimp only at hSw); first | (go_simp; done) | (go_simp; with_reducible rfl))⟩) hHeld ?_
    try simp only [Act.put, List.setIfInBounds_toArray, List.set_cons_zero, List.set_cons_succ]
    refine wpAnyH_take (i := 27) (oi := { dst := some 43, op := Op.load 30 (Operand.tmp 3), type := 30, pos := "law.go:67", after := #[{ on := 23, ground := Ground.guard }], guard := some (23, true) }) (v := .agg #[.int .u64 ((k 0).toNat : Int), .int .u64 ((k 1).toNat : Int), .int .u64 ((k 2).toNat : Int), .int .u64 ((k 3).toNat : Int)]) rfl (by kernel_rfl) (by kernel_rfl) (by kernel_rfl) (fun _ _ _ h => h) (Or.inl ⟨by rfl, by (intro w hSw; (try dsimp only at hSw); first | (go_simp; done) | (go_simp; with_reducible rfl))⟩) hHeld ?_
    try simp only [Act.put, List.setIfInBounds_toArray, List.set_cons_zero, List.set_cons_succ]
    refine wpAnyH_take (i := 28) (oi := { dst := some 44, op := Op.move (Operand.tmp 2), type := 5, pos := "law.go:67", after := #[{ on := 23, ground := Ground.guard }], guard := some (23, true) }) (v := .int .u8 (c.toNat : Int)) rfl (by kernel_rfl) (by kernel_rfl) (by kernel_rfl) (fun _ _ _ h => h) (Or.inl ⟨by rfl, by (intro w hSw; (try dsimp only at hSw); first | (go_simp; done) | (go_simp; with_reducible rfl))⟩) hHeld ?_
    try simp only [Act.put, List.setIfInBounds_toArray, List.set_cons_zero, List.set_cons_succ]
    refine wpAnyH_ready (rs := [26]) (by kernel_rfl) (by simp) ?_
    refine AllReadyH.cons (o := { dst := some 42, op := Op.call { callee := Callee.value (Operand.func 14), args := #[Operand.tmp 40, Operand.tmp 41], argTypes := #[30, 5] }, type := 4, pos := "law.go:67", after := #[{ on := 24, ground := Ground.data }, { on := 25, ground := Ground.data }, { on := 23, ground := Ground.chain }, { on := 23, ground := Ground.guard }], guard := some (23, true) }) rfl (fun K hK => ?_) AllReadyH.nil
    go_simp
    go_at_call 14; with_reducible refine (k4 _).mono ?_; rintro e w5 ⟨rfl, hb2⟩; replace HV := Lib.hid (below_up HV.out hb2 HV.out.size); clear hb2
    try dsimp only
    refine hK.out _ _ (KS _ HV.out) (fun hNew => ?_)
    clear hK K hHeld
    have hHeld := hNew
    clear hNew
    try simp only [Act.put, List.setIfInBounds_toArray, List.set_cons_zero, List.set_cons_succ]
    refine wpAnyH_ready (rs := [29]) (by kernel_rfl) (by simp) ?_
    refine AllReadyH.cons (o := { dst := some 45, op := Op.call { callee := Callee.value (Operand.func 14), args := #[Operand.tmp 43, Operand.tmp 44], argTypes := #[30, 5] }, type := 4, pos := "law.go:67", after := #[{ on := 27, ground := Ground.data }, { on := 28, ground := Ground.data }, { on := 26, ground := Ground.chain }, { on := 23, ground := Ground.guard }], guard := some (23, true) }) rfl (fun K hK => ?_) AllReadyH.nil
    go_simp
    go_at_call 14; with_reducible refine (k1 _).mono ?_; rintro e w5 ⟨rfl, hb2⟩; replace HV := Lib.hid (below_up HV.out hb2 HV.out.size); clear hb2
    try dsimp only
    refine hK.out _ _ (KS _ HV.out) (fun hNew => ?_)
    clear hK K hHeld
    have hHeld := hNew
    clear hNew
    try simp only [Act.put, List.setIfInBounds_toArray, List.set_cons_zero, List.set_cons_succ]
    refine wpAnyH_take (i := 30) (oi := { dst := some 46, op := Op.move (Operand.tmp 45), type := 4, pos := "law.go:67", after := #[{ on := 29, ground := Ground.data }, { on := 29, ground := Ground.chain }, { on := 23, ground := Ground.guard }], guard := some (23, true) }) (v := .bool true) rfl (by kernel_rfl) (by kernel_rfl) (by kernel_rfl) (fun _ _ _ h => h) (Or.inl ⟨by rfl, by (intro w hSw; (try dsimp only at hSw); first | (go_simp; done) | (go_simp; with_reducible rfl))⟩) hHeld ?_
    try simp only [Act.put, List.setIfInBounds_toArray, List.set_cons_zero, List.set_cons_succ]
    refine wpAnyH_take (i := 31) (oi := { dst := some 47, op := Op.load 30 (Operand.tmp 4), type := 30, pos := "law.go:67", after := #[{ on := 30, ground := Ground.guard }], guard := some (30, false) }) (v := undef) rfl (by kernel_rfl) (by kernel_rfl) (by kernel_rfl) (fun _ _ _ h => h) (Or.inr ⟨rfl, rfl⟩) hHeld ?_
    try simp only [Act.put, List.setIfInBounds_toArray, List.set_cons_zero, List.set_cons_succ]
    refine wpAnyH_take (i := 32) (oi := { dst := some 48, op := Op.move (Operand.tmp 2), type := 5, pos := "law.go:67", after := #[{ on := 30, ground := Ground.guard }], guard := some (30, false) }) (v := undef) rfl (by kernel_rfl) (by kernel_rfl) (by kernel_rfl) (fun _ _ _ h => h) (Or.inr ⟨rfl, rfl⟩) hHeld ?_
    try simp only [Act.put, List.setIfInBounds_toArray, List.set_cons_zero, List.set_cons_succ]
    refine wpAnyH_take (i := 33) (oi := { dst := some 49, op := Op.call { callee := Callee.value (Operand.func 14), args := #[Operand.tmp 47, Operand.tmp 48], argTypes := #[30, 5] }, type := 4, pos := "law.go:67", after := #[{ on := 31, ground := Ground.data }, { on := 32, ground := Ground.data }, { on := 30, ground := Ground.chain }, { on := 30, ground := Ground.guard }], guard := some (30, false) }) (v := undef) rfl (by kernel_rfl) (by kernel_rfl) (by kernel_rfl) (fun _ _ _ h => h) (Or.inr ⟨rfl, rfl⟩) hHeld ?_
    try simp only [Act.put, List.setIfInBounds_toArray, List.set_cons_zero, List.set_cons_succ]
    refine wpAnyH_take (i := 34) (oi := { dst := some 50, op := Op.pick (Operand.tmp 46) (Operand.const (Value.bool true)) (Operand.tmp 49), type := 4, pos := "law.go:67", after := #[{ on := 30, ground := Ground.data }, { on := 33, ground := Ground.data }, { on := 23, ground := Ground.guard }], guard := some (23, true) }) (v := .bool true) rfl (by kernel_rfl) (by kernel_rfl) (by kernel_rfl) (fun _ _ _ h => h) (Or.inl ⟨by rfl, by (intro w hSw; (try dsimp only at hSw); first | (go_simp; done) | (go_simp; with_reducible rfl))⟩) hHeld ?_
    try simp only [Act.put, List.setIfInBounds_toArray, List.set_cons_zero, List.set_cons_succ]
    refine wpAnyH_take (i := 35) (oi := { dst := some 51, op := Op.binOp BinOp.eql 4 (Operand.tmp 42) (Operand.tmp 50) 4, type := 4, pos := "law.go:67", after := #[{ on := 26, ground := Ground.data }, { on := 34, ground := Ground.data }, { on := 23, ground := Ground.guard }], guard := some (23, true) }) (v := .bool true) rfl (by kernel_rfl) (by kernel_rfl) (by kernel_rfl) (fun _ _ _ h => h) (Or.inl ⟨by rfl, by (intro w hSw; (try dsimp only at hSw); first | (go_simp; done) | (go_simp; with_reducible rfl))⟩) hHeld ?_
    try simp only [Act.put, List.setIfInBounds_toArray, List.set_cons_zero, List.set_cons_succ]
    refine wpAnyH_take (i := 36) (oi := { dst := some 52, op := Op.pick (Operand.tmp 39) (Operand.tmp 51) (Operand.const (Value.bool false)), type := 4, pos := "law.go:67", after := #[{ on := 23, ground := Ground.data }, { on := 35, ground := Ground.data }], guard := none }) (v := .bool true) rfl (by kernel_rfl) (by kernel_rfl) (by kernel_rfl) (fun _ _ _ h => h) (Or.inl ⟨by rfl, by (intro w hSw; (try dsimp only at hSw); first | (go_simp; done) | (go_simp; with_reducible rfl))⟩) hHeld ?_
    try simp only [Act.put, List.setIfInBounds_toArray, List.set_cons_zero, List.set_cons_succ]
    refine wpAnyH_take (i := 37) (oi := { dst := some 53, op := Op.move (Operand.tmp 52), type := 4, pos := "law.go:67", after := #[{ on := 36, ground := Ground.data }, { on := 33, ground := Ground.chain }], guard := none }) (v := .bool true) rfl (by kernel_rfl) (by kernel_rfl) (by kernel_rfl) (fun _ _ _ h => h) (Or.inl ⟨by rfl, by (intro w hSw; (try dsimp only at hSw); first | (go_simp; done) | (go_simp; with_reducible rfl))⟩) hHeld ?_
    try simp only [Act.put, List.setIfInBounds_toArray, List.set_cons_zero, List.set_cons_succ]
    refine wpAnyH_take (i := 38) (oi := { dst := some 54, op := Op.load 30 (Operand.tmp 9), type := 30, pos := "law.go:67", after := #[{ on := 37, ground := Ground.guard }], guard := some (37, true) }) (v := .agg #[.int .u64 ((O 0).toNat : Int), .int .u64 ((O 1).toNat : Int), .int .u64 ((O 2).toNat : Int), .int .u64 ((O 3).toNat : Int)]) rfl (by kernel_rfl) (by kernel_rfl) (by kernel_rfl) (fun _ _ _ h => h) (Or.inl ⟨by rfl, by (intro w hSw; (try dsimp only at hSw); first | (go_simp; done) | (go_simp; with_reducible rfl))⟩) hHeld ?_
    try simp only [Act.put, List.setIfInBounds_toArray, List.set_cons_zero, List.set_cons_succ]
    refine wpAnyH_take (i := 40) (oi := { dst := some 56, op := Op.load 30 (Operand.tmp 3), type := 30, pos := "law.go:67", after := #[{ on := 37, ground := Ground.guard }], guard := some (37, true) }) (v := .agg #[.int .u64 ((k 0).toNat : Int), .int .u64 ((k 1).toNat : Int), .int .u64 ((k 2).toNat : Int), .int .u64 ((k 3).toNat : Int)]) rfl (by kernel_rfl) (by kernel_rfl) (by kernel_rfl) (fun _ _ _ h => h) (Or.inl ⟨by rfl, by (intro w hSw; (try dsimp only at hSw); first | (go_simp; done) | (go_simp; with_reducible rfl))⟩) hHeld ?_
    try simp only [Act.put, List.setIfInBounds_toArray, List.set_cons_zero, List.set_cons_succ]
    refine wpAnyH_ready (rs := [39]) (by kernel_rfl) (by simp) ?_
    refine AllReadyH.cons (o := { dst := some 55, op := Op.call { callee := Callee.value (Operand.func 15), args := #[Operand.tmp 54], argTypes := #[30] }, type := 3, pos := "law.go:67", after := #[{ on := 38, ground := Ground.data }, { on := 37, ground := Ground.chain }, { on := 37, ground := Ground.guard }], guard := some (37, true) }) rfl (fun K hK => ?_) AllReadyH.nil
    go_simp
    go_at_call 15; with_reducible refine (k10 _).mono ?_; rintro e w5 ⟨rfl, hb2⟩; replace HV := Lib.hid (below_up HV.out hb2 HV.out.size); clear hb2
    try dsimp only
    refine hK.out _ _ (KS _ HV.out) (fun hNew => ?_)
    clear hK K hHeld
    have hHeld := hNew
    clear hNew
    try simp only [Act.put, List.setIfInBounds_toArray, List.set_cons_zero, List.set_cons_succ]
    refine wpAnyH_ready (rs := [41]) (by kernel_rfl) (by simp) ?_
    refine AllReadyH.cons (o := { dst := some 57, op := Op.call { callee := Callee.value (Operand.func 15), args := #[Operand.tmp 56], argTypes := #[30] }, type := 3, pos := "law.go:67", after := #[{ on := 40, ground := Ground.data }, { on := 39, ground := Ground.chain }, { on := 37, ground := Ground.guard }], guard := some (37, true) }) rfl (fun K hK => ?_) AllReadyH.nil
    go_simp
    go_at_call 15; with_reducible refine (k11 _).mono ?_; rintro e w5 ⟨rfl, hb2⟩; replace HV := Lib.hid (below_up HV.out hb2 HV.out.size); clear hb2
    try dsimp only
    refine hK.out _ _ (KS _ HV.out) (fun hNew => ?_)
    clear hK K hHeld
    have hHeld := hNew
    clear hNew
    try simp only [Act.put, List.setIfInBounds_toArray, List.set_cons_zero, List.set_cons_succ]
    refine wpAnyH_take (i := 42) (oi := { dst := some 58, op := Op.binOp BinOp.geq 3 (Operand.tmp 55) (Operand.tmp 57) 3, type := 4, pos := "law.go:67", after := #[{ on := 39, ground := Ground.data }, { on := 41, ground := Ground.data }, { on := 37, ground := Ground.guard }], guard := some (37, true) }) (v := .bool true) rfl (by kernel_rfl) (by kernel_rfl) (by kernel_rfl) (fun _ _ _ h => h) (Or.inl ⟨by rfl, by (intro w hSw; (try dsimp only at hSw); first | (go_simp; done) | (go_simp; with_reducible rfl))⟩) hHeld ?_
    try simp only [Act.put, List.setIfInBounds_toArray, List.set_cons_zero, List.set_cons_succ]
    refine wpAnyH_take (i := 43) (oi := { dst := some 59, op := Op.pick (Operand.tmp 53) (Operand.tmp 58) (Operand.const (Value.bool false)), type := 4, pos := "law.go:67", after := #[{ on := 37, ground := Ground.data }, { on := 42, ground := Ground.data }], guard := none }) (v := .bool true) rfl (by kernel_rfl) (by kernel_rfl) (by kernel_rfl) (fun _ _ _ h => h) (Or.inl ⟨by rfl, by (intro w hSw; (try dsimp only at hSw); first | (go_simp; done) | (go_simp; with_reducible rfl))⟩) hHeld ?_
    try simp only [Act.put, List.setIfInBounds_toArray, List.set_cons_zero, List.set_cons_succ]
    refine wpAnyH_take (i := 44) (oi := { dst := some 6, op := Op.assign (Operand.tmp 59), type := 4, pos := "law.go:67", after := #[{ on := 43, ground := Ground.data }, { on := 41, ground := Ground.chain }, { on := 0, ground := Ground.phase }, { on := 1, ground := Ground.phase }, { on := 2, ground := Ground.phase }, { on := 3, ground := Ground.phase }, { on := 4, ground := Ground.phase }, { on := 5, ground := Ground.phase }, { on := 6, ground := Ground.phase }, { on := 7, ground := Ground.phase }, { on := 8, ground := Ground.phase }, { on := 9, ground := Ground.phase }, { on := 10, ground := Ground.phase }, { on := 11, ground := Ground.phase }, { on := 12, ground := Ground.phase }, { on := 13, ground := Ground.phase }, { on := 14, ground := Ground.phase }, { on := 15, ground := Ground.phase }, { on := 16, ground := Ground.phase }, { on := 17, ground := Ground.phase }, { on := 18, ground := Ground.phase }, { on := 19, ground := Ground.phase }, { on := 20, ground := Ground.phase }, { on := 21, ground := Ground.phase }, { on := 22, ground := Ground.phase }, { on := 23, ground := Ground.phase }, { on := 24, ground := Ground.phase }, { on := 25, ground := Ground.phase }, { on := 26, ground := Ground.phase }, { on := 27, ground := Ground.phase }, { on := 28, ground := Ground.phase }, { on := 29, ground := Ground.phase }, { on := 30, ground := Ground.phase }, { on := 31, ground := Ground.phase }, { on := 32, ground := Ground.phase }, { on := 33, ground := Ground.phase }, { on := 34, ground := Ground.phase }, { on := 35, ground := Ground.phase }, { on := 36, ground := Ground.phase }, { on := 37, ground := Ground.phase }, { on := 38, ground := Ground.phase }, { on := 39, ground := Ground.phase }, { on := 40, ground := Ground.phase }, { on := 41, ground := Ground.phase }, { on := 42, ground := Ground.phase }, { on := 43, ground := Ground.phase }], guard := none }) (v := .bool true) rfl (by kernel_rfl) (by kernel_rfl) (by kernel_rfl) (fun _ _ _ h => h) (Or.inl ⟨by rfl, by (intro w hSw; (try dsimp only at hSw); first | (go_simp; done) | (go_simp; with_reducible rfl))⟩) hHeld ?_
    try simp only [Act.put, List.setIfInBounds_toArray, List.set_cons_zero, List.set_cons_succ]
    refine wpAnyH_done (by kernel_rfl) ?_ _
    refine NoPanic.normal ?_
    go_wp2
    go_ret
    exact ⟨rfl, below_up HW.out HV.out HW.out.size⟩
end Go.Proofs.Ytojjjkicgbdknaa
