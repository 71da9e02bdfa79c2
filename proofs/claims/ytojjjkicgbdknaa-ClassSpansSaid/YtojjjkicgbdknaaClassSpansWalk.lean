/- ClassSpans: at every three bytes the call returns true. No condition. (Written by gen_classspans.py.) -/
import Derived.Test.YtojjjkicgbdknaaClsShown
import Derived.Test.YtojjjkicgbdknaaClsEql
import Derived.Deep.RegionHeld3
namespace Go.Proofs.Ytojjjkicgbdknaa
open Go.RowKit Go.Lib

set_option maxHeartbeats 8000000 in
set_option maxRecDepth 100000 in
theorem spans_walk0 (k U M : Cl) (x y z : Int) (w : World) (hx0 : 0 ≤ x) (hx1 : x ≤ 255) (hy0 : 0 ≤ y) (hy1 : y ≤ 255)
    (k1 : ∀ Z, Calls Try.prog 17 #[.int .u8 x, .int .u8 y] Z fun e w' => e = .returned (.agg #[.int .u64 ((k 0).toNat : Int), .int .u64 ((k 1).toNat : Int), .int .u64 ((k 2).toNat : Int), .int .u64 ((k 3).toNat : Int)]) ∧ Below Z.heap.size Z w')
    (k2 : ∀ Z, Calls Try.prog 15 #[.agg #[.int .u64 ((k 0).toNat : Int), .int .u64 ((k 1).toNat : Int), .int .u64 ((k 2).toNat : Int), .int .u64 ((k 3).toNat : Int)]] Z fun e w' => e = .returned (.int .i64 (if x ≤ y then y - x + 1 else 0)) ∧ Below Z.heap.size Z w')
    (k3 : ∀ Z, Calls Try.prog 14 #[.agg #[.int .u64 ((k 0).toNat : Int), .int .u64 ((k 1).toNat : Int), .int .u64 ((k 2).toNat : Int), .int .u64 ((k 3).toNat : Int)], .int .u8 z] Z fun e w' => e = .returned (.bool (decide (x ≤ z) && decide (z ≤ y))) ∧ Below Z.heap.size Z w')
    (k4 : ∀ Z, Calls Try.prog 18 #[.int .u8 x] Z fun e w' => e = .returned (.agg #[.int .u64 ((U 0).toNat : Int), .int .u64 ((U 1).toNat : Int), .int .u64 ((U 2).toNat : Int), .int .u64 ((U 3).toNat : Int)]) ∧ Below Z.heap.size Z w')
    (k5 : ∀ Z, Calls Try.prog 13 #[.agg #[.int .u64 ((k 0).toNat : Int), .int .u64 ((k 1).toNat : Int), .int .u64 ((k 2).toNat : Int), .int .u64 ((k 3).toNat : Int)], .agg #[.int .u64 ((U 0).toNat : Int), .int .u64 ((U 1).toNat : Int), .int .u64 ((U 2).toNat : Int), .int .u64 ((U 3).toNat : Int)]] Z fun e w' => e = .returned (.agg #[.int .u64 ((M 0).toNat : Int), .int .u64 ((M 1).toNat : Int), .int .u64 ((M 2).toNat : Int), .int .u64 ((M 3).toNat : Int)]) ∧ Below Z.heap.size Z w')
    (k6 : ∀ Z, Calls Try.prog 13 #[.agg #[.int .u64 ((U 0).toNat : Int), .int .u64 ((U 1).toNat : Int), .int .u64 ((U 2).toNat : Int), .int .u64 ((U 3).toNat : Int)], .agg #[.int .u64 ((k 0).toNat : Int), .int .u64 ((k 1).toNat : Int), .int .u64 ((k 2).toNat : Int), .int .u64 ((k 3).toNat : Int)]] Z fun e w' => e = .returned (.agg #[.int .u64 ((M 0).toNat : Int), .int .u64 ((M 1).toNat : Int), .int .u64 ((M 2).toNat : Int), .int .u64 ((M 3).toNat : Int)]) ∧ Below Z.heap.size Z w') :
    Calls Try.prog 6 #[.int .u8 x, .int .u8 y, .int .u8 z] w fun e w' => e = .returned (.bool true) ∧ Below w.heap.size w w' := by
  have ks := shown_any
  have he := run_eql_cls
  have hm : Try.prog.eqGuardType Try.prog.depth 30 = false := by kernel_rfl
  have wx : IntKind.i64.wrap x = x := by rw [IntKind.wrap_i64]; omega
  have wy : IntKind.i64.wrap y = y := by rw [IntKind.wrap_i64]; omega
  have wd1 : IntKind.i64.wrap (y - x) = y - x := by rw [IntKind.wrap_i64]; omega
  have wd2 : IntKind.i64.wrap (y - x + 1) = y - x + 1 := by rw [IntKind.wrap_i64]; omega
  clear hx0 hx1 hy0 hy1
  by_cases h1 : x ≤ y <;> by_cases h2 : x ≤ z <;> by_cases h3 : z ≤ y
  · -- True True True
    simp only [h1, h2, h3, if_true, if_false, decide_true, decide_false, Bool.and_true, Bool.and_false, Bool.true_and, Bool.false_and] at k2 k3
    go_enter Try.func6, Try.ntmps6
    go_upto_region 6 with (first
      | (go_at_call 7; refine (ks _).mono ?_; clear ks; rintro e w1 ⟨rfl, hb1⟩)
      | (go_at_call 17; with_reducible refine (k1 _).mono ?_; clear k1; rintro e w2 ⟨rfl, hb2⟩))
    have hk := heap_alloc_new w2 (.cells #[.int .u64 ((k 0).toNat : Int), .int .u64 ((k 1).toNat : Int), .int .u64 ((k 2).toNat : Int), .int .u64 ((k 3).toNat : Int)] 30)
    have HW := Lib.hid ((below_up hb1 hb2 hb1.size).alloc (below_up hb1 hb2 hb1.size).size (.cells #[.int .u64 ((k 0).toNat : Int), .int .u64 ((k 1).toNat : Int), .int .u64 ((k 2).toNat : Int), .int .u64 ((k 3).toNat : Int)] 30))
    clear hb1 hb2
    generalize w2.alloc (.cells #[.int .u64 ((k 0).toNat : Int), .int .u64 ((k 1).toNat : Int), .int .u64 ((k 2).toNat : Int), .int .u64 ((k 3).toNat : Int)] 30) = V at hk HW ⊢
    generalize w2.heap.size = gk at hk ⊢
    have lk := lt_of_block hk
    have KS : ∀ Z, Below V.heap.size V Z → (Z.cell? ⟨gk, 0, none⟩ = some (.int .u64 ((k 0).toNat : Int)) ∧ Z.cell? ⟨gk, 1, none⟩ = some (.int .u64 ((k 1).toNat : Int)) ∧ Z.cell? ⟨gk, 2, none⟩ = some (.int .u64 ((k 2).toNat : Int)) ∧ Z.cell? ⟨gk, 3, none⟩ = some (.int .u64 ((k 3).toNat : Int))) := fun Z hZ => (res_four ((hZ.block _ lk).trans hk)).1
    have HV := Lib.hid ((Below.refl V.heap.size V).drew)
    clear hk lk
    refine wp_region_noPanic ?_
    refine wp_region_held_drew (S := fun Z => (Z.cell? ⟨gk, 0, none⟩ = some (.int .u64 ((k 0).toNat : Int)) ∧ Z.cell? ⟨gk, 1, none⟩ = some (.int .u64 ((k 1).toNat : Int)) ∧ Z.cell? ⟨gk, 2, none⟩ = some (.int .u64 ((k 2).toNat : Int)) ∧ Z.cell? ⟨gk, 3, none⟩ = some (.int .u64 ((k 3).toNat : Int)))) (by kernel_rfl) (KS _ HV.out) (fun hHeld => ?_)
    refine wpAnyH_take (i := 0) (oi := { dst := some 23, op := Op.move (Operand.tmp 7), type := 4, pos := "more.go:16", after := #[], guard := none }) (v := .bool true) rfl (by kernel_rfl) (by kernel_rfl) (by kernel_rfl) (fun _ _ _ h => h) (Or.inl ⟨by rfl, by (intro w hSw; (try dsimp only at hSw); first | (go_simp; done) | (go_simp; with_reducible rfl))⟩) hHeld ?_
    try simp only [Act.put, List.setIfInBounds_toArray, List.set_cons_zero, List.set_cons_succ]
    refine wpAnyH_take (i := 1) (oi := { dst := some 24, op := Op.move (Operand.tmp 23), type := 4, pos := "more.go:16", after := #[{ on := 0, ground := Ground.data }], guard := none }) (v := .bool true) rfl (by kernel_rfl) (by kernel_rfl) (by kernel_rfl) (fun _ _ _ h => h) (Or.inl ⟨by rfl, by (intro w hSw; (try dsimp only at hSw); first | (go_simp; done) | (go_simp; with_reducible rfl))⟩) hHeld ?_
    try simp only [Act.put, List.setIfInBounds_toArray, List.set_cons_zero, List.set_cons_succ]
    refine wpAnyH_take (i := 2) (oi := { dst := some 25, op := Op.load 30 (Operand.tmp 8), type := 30, pos := "more.go:16", after := #[{ on := 1, ground := Ground.guard }], guard := some (1, true) }) (v := .agg #[.int .u64 ((k 0).toNat : Int), .int .u64 ((k 1).toNat : Int), .int .u64 ((k 2).toNat : Int), .int .u64 ((k 3).toNat : Int)]) rfl (by kernel_rfl) (by kernel_rfl) (by kernel_rfl) (fun _ _ _ h => h) (Or.inl ⟨by rfl, by (intro w hSw; (try dsimp only at hSw); first | (go_simp; done) | (go_simp; with_reducible rfl))⟩) hHeld ?_
    try simp only [Act.put, List.setIfInBounds_toArray, List.set_cons_zero, List.set_cons_succ]
    refine wpAnyH_take (i := 4) (oi := { dst := some 27, op := Op.move (Operand.tmp 9), type := 3, pos := "more.go:16", after := #[{ on := 1, ground := Ground.guard }], guard := some (1, true) }) (v := .int .i64 (y - x + 1)) rfl (by kernel_rfl) (by kernel_rfl) (by kernel_rfl) (fun _ _ _ h => h) (Or.inl ⟨by rfl, by (intro w hSw; (try dsimp only at hSw); first | (go_simp; done) | (go_simp; with_reducible rfl))⟩) hHeld ?_
    try simp only [Act.put, List.setIfInBounds_toArray, List.set_cons_zero, List.set_cons_succ]
    refine wpAnyH_ready (rs := [3]) (by kernel_rfl) (by simp) ?_
    refine AllReadyH.cons (o := { dst := some 26, op := Op.call { callee := Callee.value (Operand.func 15), args := #[Operand.tmp 25], argTypes := #[30] }, type := 3, pos := "more.go:16", after := #[{ on := 2, ground := Ground.data }, { on := 1, ground := Ground.chain }, { on := 1, ground := Ground.guard }], guard := some (1, true) }) rfl (fun K hK => ?_) AllReadyH.nil
    go_simp
    go_at_call 15; with_reducible refine (k2 _).mono ?_; rintro e w5 ⟨rfl, hb2⟩; replace HV := Lib.hid (below_up HV.out hb2 HV.out.size); clear hb2
    try dsimp only
    refine hK.out _ _ (KS _ HV.out) (fun hNew => ?_)
    clear hK K hHeld
    have hHeld := hNew
    clear hNew
    try simp only [Act.put, List.setIfInBounds_toArray, List.set_cons_zero, List.set_cons_succ]
    refine wpAnyH_take (i := 5) (oi := { dst := some 28, op := Op.binOp BinOp.eql 3 (Operand.tmp 26) (Operand.tmp 27) 3, type := 4, pos := "more.go:16", after := #[{ on := 3, ground := Ground.data }, { on := 4, ground := Ground.data }, { on := 1, ground := Ground.guard }], guard := some (1, true) }) (v := .bool true) rfl (by kernel_rfl) (by kernel_rfl) (by kernel_rfl) (fun _ _ _ h => h) (Or.inl ⟨by rfl, by (intro w hSw; (try dsimp only at hSw); first | (go_simp; done) | (go_simp; with_reducible rfl))⟩) hHeld ?_
    try simp only [Act.put, List.setIfInBounds_toArray, List.set_cons_zero, List.set_cons_succ]
    refine wpAnyH_take (i := 6) (oi := { dst := some 29, op := Op.pick (Operand.tmp 24) (Operand.tmp 28) (Operand.const (Value.bool false)), type := 4, pos := "more.go:16", after := #[{ on := 1, ground := Ground.data }, { on := 5, ground := Ground.data }], guard := none }) (v := .bool true) rfl (by kernel_rfl) (by kernel_rfl) (by kernel_rfl) (fun _ _ _ h => h) (Or.inl ⟨by rfl, by (intro w hSw; (try dsimp only at hSw); first | (go_simp; done) | (go_simp; with_reducible rfl))⟩) hHeld ?_
    try simp only [Act.put, List.setIfInBounds_toArray, List.set_cons_zero, List.set_cons_succ]
    refine wpAnyH_take (i := 7) (oi := { dst := some 30, op := Op.move (Operand.tmp 29), type := 4, pos := "more.go:16", after := #[{ on := 6, ground := Ground.data }, { on := 3, ground := Ground.chain }], guard := none }) (v := .bool true) rfl (by kernel_rfl) (by kernel_rfl) (by kernel_rfl) (fun _ _ _ h => h) (Or.inl ⟨by rfl, by (intro w hSw; (try dsimp only at hSw); first | (go_simp; done) | (go_simp; with_reducible rfl))⟩) hHeld ?_
    try simp only [Act.put, List.setIfInBounds_toArray, List.set_cons_zero, List.set_cons_succ]
    refine wpAnyH_take (i := 8) (oi := { dst := some 31, op := Op.load 30 (Operand.tmp 8), type := 30, pos := "more.go:16", after := #[{ on := 7, ground := Ground.guard }], guard := some (7, true) }) (v := .agg #[.int .u64 ((k 0).toNat : Int), .int .u64 ((k 1).toNat : Int), .int .u64 ((k 2).toNat : Int), .int .u64 ((k 3).toNat : Int)]) rfl (by kernel_rfl) (by kernel_rfl) (by kernel_rfl) (fun _ _ _ h => h) (Or.inl ⟨by rfl, by (intro w hSw; (try dsimp only at hSw); first | (go_simp; done) | (go_simp; with_reducible rfl))⟩) hHeld ?_
    try simp only [Act.put, List.setIfInBounds_toArray, List.set_cons_zero, List.set_cons_succ]
    refine wpAnyH_take (i := 9) (oi := { dst := some 32, op := Op.move (Operand.tmp 2), type := 5, pos := "more.go:16", after := #[{ on := 7, ground := Ground.guard }], guard := some (7, true) }) (v := .int .u8 z) rfl (by kernel_rfl) (by kernel_rfl) (by kernel_rfl) (fun _ _ _ h => h) (Or.inl ⟨by rfl, by (intro w hSw; (try dsimp only at hSw); first | (go_simp; done) | (go_simp; with_reducible rfl))⟩) hHeld ?_
    try simp only [Act.put, List.setIfInBounds_toArray, List.set_cons_zero, List.set_cons_succ]
    refine wpAnyH_take (i := 11) (oi := { dst := some 34, op := Op.move (Operand.tmp 0), type := 5, pos := "more.go:16", after := #[{ on := 7, ground := Ground.guard }], guard := some (7, true) }) (v := .int .u8 x) rfl (by kernel_rfl) (by kernel_rfl) (by kernel_rfl) (fun _ _ _ h => h) (Or.inl ⟨by rfl, by (intro w hSw; (try dsimp only at hSw); first | (go_simp; done) | (go_simp; with_reducible rfl))⟩) hHeld ?_
    try simp only [Act.put, List.setIfInBounds_toArray, List.set_cons_zero, List.set_cons_succ]
    refine wpAnyH_take (i := 12) (oi := { dst := some 35, op := Op.move (Operand.tmp 2), type := 5, pos := "more.go:16", after := #[{ on := 7, ground := Ground.guard }], guard := some (7, true) }) (v := .int .u8 z) rfl (by kernel_rfl) (by kernel_rfl) (by kernel_rfl) (fun _ _ _ h => h) (Or.inl ⟨by rfl, by (intro w hSw; (try dsimp only at hSw); first | (go_simp; done) | (go_simp; with_reducible rfl))⟩) hHeld ?_
    try simp only [Act.put, List.setIfInBounds_toArray, List.set_cons_zero, List.set_cons_succ]
    refine wpAnyH_take (i := 13) (oi := { dst := some 36, op := Op.binOp BinOp.leq 5 (Operand.tmp 34) (Operand.tmp 35) 5, type := 4, pos := "more.go:16", after := #[{ on := 11, ground := Ground.data }, { on := 12, ground := Ground.data }, { on := 7, ground := Ground.guard }], guard := some (7, true) }) (v := .bool true) rfl (by kernel_rfl) (by kernel_rfl) (by kernel_rfl) (fun _ _ _ h => h) (Or.inl ⟨by rfl, by (intro w hSw; (try dsimp only at hSw); first | (go_simp; done) | (go_simp; with_reducible rfl))⟩) hHeld ?_
    try simp only [Act.put, List.setIfInBounds_toArray, List.set_cons_zero, List.set_cons_succ]
    refine wpAnyH_ready (rs := [10]) (by kernel_rfl) (by simp) ?_
    refine AllReadyH.cons (o := { dst := some 33, op := Op.call { callee := Callee.value (Operand.func 14), args := #[Operand.tmp 31, Operand.tmp 32], argTypes := #[30, 5] }, type := 4, pos := "more.go:16", after := #[{ on := 8, ground := Ground.data }, { on := 9, ground := Ground.data }, { on := 7, ground := Ground.chain }, { on := 7, ground := Ground.guard }], guard := some (7, true) }) rfl (fun K hK => ?_) AllReadyH.nil
    go_simp
    go_at_call 14; with_reducible refine (k3 _).mono ?_; rintro e w5 ⟨rfl, hb2⟩; replace HV := Lib.hid (below_up HV.out hb2 HV.out.size); clear hb2
    try dsimp only
    refine hK.out _ _ (KS _ HV.out) (fun hNew => ?_)
    clear hK K hHeld
    have hHeld := hNew
    clear hNew
    try simp only [Act.put, List.setIfInBounds_toArray, List.set_cons_zero, List.set_cons_succ]
    refine wpAnyH_take (i := 14) (oi := { dst := some 37, op := Op.move (Operand.tmp 36), type := 4, pos := "more.go:16", after := #[{ on := 13, ground := Ground.data }, { on := 10, ground := Ground.chain }, { on := 7, ground := Ground.guard }], guard := some (7, true) }) (v := .bool true) rfl (by kernel_rfl) (by kernel_rfl) (by kernel_rfl) (fun _ _ _ h => h) (Or.inl ⟨by rfl, by (intro w hSw; (try dsimp only at hSw); first | (go_simp; done) | (go_simp; with_reducible rfl))⟩) hHeld ?_
    try simp only [Act.put, List.setIfInBounds_toArray, List.set_cons_zero, List.set_cons_succ]
    refine wpAnyH_take (i := 15) (oi := { dst := some 38, op := Op.move (Operand.tmp 2), type := 5, pos := "more.go:16", after := #[{ on := 14, ground := Ground.guard }], guard := some (14, true) }) (v := .int .u8 z) rfl (by kernel_rfl) (by kernel_rfl) (by kernel_rfl) (fun _ _ _ h => h) (Or.inl ⟨by rfl, by (intro w hSw; (try dsimp only at hSw); first | (go_simp; done) | (go_simp; with_reducible rfl))⟩) hHeld ?_
    try simp only [Act.put, List.setIfInBounds_toArray, List.set_cons_zero, List.set_cons_succ]
    refine wpAnyH_take (i := 16) (oi := { dst := some 39, op := Op.move (Operand.tmp 1), type := 5, pos := "more.go:16", after := #[{ on := 14, ground := Ground.guard }], guard := some (14, true) }) (v := .int .u8 y) rfl (by kernel_rfl) (by kernel_rfl) (by kernel_rfl) (fun _ _ _ h => h) (Or.inl ⟨by rfl, by (intro w hSw; (try dsimp only at hSw); first | (go_simp; done) | (go_simp; with_reducible rfl))⟩) hHeld ?_
    try simp only [Act.put, List.setIfInBounds_toArray, List.set_cons_zero, List.set_cons_succ]
    refine wpAnyH_take (i := 17) (oi := { dst := some 40, op := Op.binOp BinOp.leq 5 (Operand.tmp 38) (Operand.tmp 39) 5, type := 4, pos := "more.go:16", after := #[{ on := 15, ground := Ground.data }, { on := 16, ground := Ground.data }, { on := 14, ground := Ground.guard }], guard := some (14, true) }) (v := .bool true) rfl (by kernel_rfl) (by kernel_rfl) (by kernel_rfl) (fun _ _ _ h => h) (Or.inl ⟨by rfl, by (intro w hSw; (try dsimp only at hSw); first | (go_simp; done) | (go_simp; with_reducible rfl))⟩) hHeld ?_
    try simp only [Act.put, List.setIfInBounds_toArray, List.set_cons_zero, List.set_cons_succ]
    refine wpAnyH_take (i := 18) (oi := { dst := some 41, op := Op.pick (Operand.tmp 37) (Operand.tmp 40) (Operand.const (Value.bool false)), type := 4, pos := "more.go:16", after := #[{ on := 14, ground := Ground.data }, { on := 17, ground := Ground.data }, { on := 7, ground := Ground.guard }], guard := some (7, true) }) (v := .bool true) rfl (by kernel_rfl) (by kernel_rfl) (by kernel_rfl) (fun _ _ _ h => h) (Or.inl ⟨by rfl, by (intro w hSw; (try dsimp only at hSw); first | (go_simp; done) | (go_simp; with_reducible rfl))⟩) hHeld ?_
    try simp only [Act.put, List.setIfInBounds_toArray, List.set_cons_zero, List.set_cons_succ]
    refine wpAnyH_take (i := 19) (oi := { dst := some 42, op := Op.binOp BinOp.eql 4 (Operand.tmp 33) (Operand.tmp 41) 4, type := 4, pos := "more.go:16", after := #[{ on := 10, ground := Ground.data }, { on := 18, ground := Ground.data }, { on := 7, ground := Ground.guard }], guard := some (7, true) }) (v := .bool true) rfl (by kernel_rfl) (by kernel_rfl) (by kernel_rfl) (fun _ _ _ h => h) (Or.inl ⟨by rfl, by (intro w hSw; (try dsimp only at hSw); first | (go_simp; done) | (go_simp; with_reducible rfl))⟩) hHeld ?_
    try simp only [Act.put, List.setIfInBounds_toArray, List.set_cons_zero, List.set_cons_succ]
    refine wpAnyH_take (i := 20) (oi := { dst := some 43, op := Op.pick (Operand.tmp 30) (Operand.tmp 42) (Operand.const (Value.bool false)), type := 4, pos := "more.go:16", after := #[{ on := 7, ground := Ground.data }, { on := 19, ground := Ground.data }], guard := none }) (v := .bool true) rfl (by kernel_rfl) (by kernel_rfl) (by kernel_rfl) (fun _ _ _ h => h) (Or.inl ⟨by rfl, by (intro w hSw; (try dsimp only at hSw); first | (go_simp; done) | (go_simp; with_reducible rfl))⟩) hHeld ?_
    try simp only [Act.put, List.setIfInBounds_toArray, List.set_cons_zero, List.set_cons_succ]
    refine wpAnyH_take (i := 21) (oi := { dst := some 44, op := Op.move (Operand.tmp 43), type := 4, pos := "more.go:16", after := #[{ on := 20, ground := Ground.data }, { on := 14, ground := Ground.chain }], guard := none }) (v := .bool true) rfl (by kernel_rfl) (by kernel_rfl) (by kernel_rfl) (fun _ _ _ h => h) (Or.inl ⟨by rfl, by (intro w hSw; (try dsimp only at hSw); first | (go_simp; done) | (go_simp; with_reducible rfl))⟩) hHeld ?_
    try simp only [Act.put, List.setIfInBounds_toArray, List.set_cons_zero, List.set_cons_succ]
    refine wpAnyH_take (i := 22) (oi := { dst := some 45, op := Op.load 30 (Operand.tmp 8), type := 30, pos := "more.go:16", after := #[{ on := 21, ground := Ground.guard }], guard := some (21, true) }) (v := .agg #[.int .u64 ((k 0).toNat : Int), .int .u64 ((k 1).toNat : Int), .int .u64 ((k 2).toNat : Int), .int .u64 ((k 3).toNat : Int)]) rfl (by kernel_rfl) (by kernel_rfl) (by kernel_rfl) (fun _ _ _ h => h) (Or.inl ⟨by rfl, by (intro w hSw; (try dsimp only at hSw); first | (go_simp; done) | (go_simp; with_reducible rfl))⟩) hHeld ?_
    try simp only [Act.put, List.setIfInBounds_toArray, List.set_cons_zero, List.set_cons_succ]
    refine wpAnyH_take (i := 23) (oi := { dst := some 46, op := Op.move (Operand.tmp 0), type := 5, pos := "more.go:16", after := #[{ on := 21, ground := Ground.guard }], guard := some (21, true) }) (v := .int .u8 x) rfl (by kernel_rfl) (by kernel_rfl) (by kernel_rfl) (fun _ _ _ h => h) (Or.inl ⟨by rfl, by (intro w hSw; (try dsimp only at hSw); first | (go_simp; done) | (go_simp; with_reducible rfl))⟩) hHeld ?_
    try simp only [Act.put, List.setIfInBounds_toArray, List.set_cons_zero, List.set_cons_succ]
    refine wpAnyH_take (i := 26) (oi := { dst := some 49, op := Op.move (Operand.tmp 0), type := 5, pos := "more.go:16", after := #[{ on := 21, ground := Ground.guard }], guard := some (21, true) }) (v := .int .u8 x) rfl (by kernel_rfl) (by kernel_rfl) (by kernel_rfl) (fun _ _ _ h => h) (Or.inl ⟨by rfl, by (intro w hSw; (try dsimp only at hSw); first | (go_simp; done) | (go_simp; with_reducible rfl))⟩) hHeld ?_
    try simp only [Act.put, List.setIfInBounds_toArray, List.set_cons_zero, List.set_cons_succ]
    refine wpAnyH_take (i := 28) (oi := { dst := some 51, op := Op.load 30 (Operand.tmp 8), type := 30, pos := "more.go:16", after := #[{ on := 21, ground := Ground.guard }], guard := some (21, true) }) (v := .agg #[.int .u64 ((k 0).toNat : Int), .int .u64 ((k 1).toNat : Int), .int .u64 ((k 2).toNat : Int), .int .u64 ((k 3).toNat : Int)]) rfl (by kernel_rfl) (by kernel_rfl) (by kernel_rfl) (fun _ _ _ h => h) (Or.inl ⟨by rfl, by (intro w hSw; (try dsimp only at hSw); first | (go_simp; done) | (go_simp; with_reducible rfl))⟩) hHeld ?_
    try simp only [Act.put, List.setIfInBounds_toArray, List.set_cons_zero, List.set_cons_succ]
    refine wpAnyH_ready (rs := [24]) (by kernel_rfl) (by simp) ?_
    refine AllReadyH.cons (o := { dst := some 47, op := Op.call { callee := Callee.value (Operand.func 18), args := #[Operand.tmp 46], argTypes := #[5] }, type := 30, pos := "more.go:16", after := #[{ on := 23, ground := Ground.data }, { on := 21, ground := Ground.chain }, { on := 21, ground := Ground.guard }], guard := some (21, true) }) rfl (fun K hK => ?_) AllReadyH.nil
    go_simp
    go_at_call 18; with_reducible refine (k4 _).mono ?_; rintro e w5 ⟨rfl, hb2⟩; replace HV := Lib.hid (below_up HV.out hb2 HV.out.size); clear hb2
    try dsimp only
    refine hK.out _ _ (KS _ HV.out) (fun hNew => ?_)
    clear hK K hHeld
    have hHeld := hNew
    clear hNew
    try simp only [Act.put, List.setIfInBounds_toArray, List.set_cons_zero, List.set_cons_succ]
    refine wpAnyH_ready (rs := [25]) (by kernel_rfl) (by simp) ?_
    refine AllReadyH.cons (o := { dst := some 48, op := Op.call { callee := Callee.value (Operand.func 13), args := #[Operand.tmp 45, Operand.tmp 47], argTypes := #[30, 30] }, type := 30, pos := "more.go:16", after := #[{ on := 22, ground := Ground.data }, { on := 24, ground := Ground.data }, { on := 24, ground := Ground.chain }, { on := 21, ground := Ground.guard }], guard := some (21, true) }) rfl (fun K hK => ?_) AllReadyH.nil
    go_simp
    go_at_call 13; with_reducible refine (k5 _).mono ?_; rintro e w5 ⟨rfl, hb2⟩; replace HV := Lib.hid (below_up HV.out hb2 HV.out.size); clear hb2
    try dsimp only
    refine hK.out _ _ (KS _ HV.out) (fun hNew => ?_)
    clear hK K hHeld
    have hHeld := hNew
    clear hNew
    try simp only [Act.put, List.setIfInBounds_toArray, List.set_cons_zero, List.set_cons_succ]
    refine wpAnyH_ready (rs := [27]) (by kernel_rfl) (by simp) ?_
    refine AllReadyH.cons (o := { dst := some 50, op := Op.call { callee := Callee.value (Operand.func 18), args := #[Operand.tmp 49], argTypes := #[5] }, type := 30, pos := "more.go:16", after := #[{ on := 26, ground := Ground.data }, { on := 25, ground := Ground.chain }, { on := 21, ground := Ground.guard }], guard := some (21, true) }) rfl (fun K hK => ?_) AllReadyH.nil
    go_simp
    go_at_call 18; with_reducible refine (k4 _).mono ?_; rintro e w5 ⟨rfl, hb2⟩; replace HV := Lib.hid (below_up HV.out hb2 HV.out.size); clear hb2
    try dsimp only
    refine hK.out _ _ (KS _ HV.out) (fun hNew => ?_)
    clear hK K hHeld
    have hHeld := hNew
    clear hNew
    try simp only [Act.put, List.setIfInBounds_toArray, List.set_cons_zero, List.set_cons_succ]
    refine wpAnyH_ready (rs := [29]) (by kernel_rfl) (by simp) ?_
    refine AllReadyH.cons (o := { dst := some 52, op := Op.call { callee := Callee.value (Operand.func 13), args := #[Operand.tmp 50, Operand.tmp 51], argTypes := #[30, 30] }, type := 30, pos := "more.go:16", after := #[{ on := 27, ground := Ground.data }, { on := 28, ground := Ground.data }, { on := 27, ground := Ground.chain }, { on := 21, ground := Ground.guard }], guard := some (21, true) }) rfl (fun K hK => ?_) AllReadyH.nil
    go_simp
    go_at_call 13; with_reducible refine (k6 _).mono ?_; rintro e w5 ⟨rfl, hb2⟩; replace HV := Lib.hid (below_up HV.out hb2 HV.out.size); clear hb2
    try dsimp only
    refine hK.out _ _ (KS _ HV.out) (fun hNew => ?_)
    clear hK K hHeld
    have hHeld := hNew
    clear hNew
    try simp only [Act.put, List.setIfInBounds_toArray, List.set_cons_zero, List.set_cons_succ]
    refine wpAnyH_take (i := 30) (oi := { dst := some 53, op := Op.binOp BinOp.eql 30 (Operand.tmp 48) (Operand.tmp 52) 30, type := 4, pos := "more.go:16", after := #[{ on := 25, ground := Ground.data }, { on := 29, ground := Ground.data }, { on := 21, ground := Ground.guard }], guard := some (21, true) }) (v := .bool true) rfl (by kernel_rfl) (by kernel_rfl) (by kernel_rfl) (fun _ _ _ h => h) (Or.inl ⟨by rfl, by (intro w hSw; (try dsimp only at hSw); first | (go_simp; done) | (go_simp; with_reducible rfl))⟩) hHeld ?_
    try simp only [Act.put, List.setIfInBounds_toArray, List.set_cons_zero, List.set_cons_succ]
    refine wpAnyH_take (i := 31) (oi := { dst := some 54, op := Op.pick (Operand.tmp 44) (Operand.tmp 53) (Operand.const (Value.bool false)), type := 4, pos := "more.go:16", after := #[{ on := 21, ground := Ground.data }, { on := 30, ground := Ground.data }], guard := none }) (v := .bool true) rfl (by kernel_rfl) (by kernel_rfl) (by kernel_rfl) (fun _ _ _ h => h) (Or.inl ⟨by rfl, by (intro w hSw; (try dsimp only at hSw); first | (go_simp; done) | (go_simp; with_reducible rfl))⟩) hHeld ?_
    try simp only [Act.put, List.setIfInBounds_toArray, List.set_cons_zero, List.set_cons_succ]
    refine wpAnyH_take (i := 32) (oi := { dst := some 6, op := Op.assign (Operand.tmp 54), type := 4, pos := "more.go:16", after := #[{ on := 31, ground := Ground.data }, { on := 29, ground := Ground.chain }, { on := 0, ground := Ground.phase }, { on := 1, ground := Ground.phase }, { on := 2, ground := Ground.phase }, { on := 3, ground := Ground.phase }, { on := 4, ground := Ground.phase }, { on := 5, ground := Ground.phase }, { on := 6, ground := Ground.phase }, { on := 7, ground := Ground.phase }, { on := 8, ground := Ground.phase }, { on := 9, ground := Ground.phase }, { on := 10, ground := Ground.phase }, { on := 11, ground := Ground.phase }, { on := 12, ground := Ground.phase }, { on := 13, ground := Ground.phase }, { on := 14, ground := Ground.phase }, { on := 15, ground := Ground.phase }, { on := 16, ground := Ground.phase }, { on := 17, ground := Ground.phase }, { on := 18, ground := Ground.phase }, { on := 19, ground := Ground.phase }, { on := 20, ground := Ground.phase }, { on := 21, ground := Ground.phase }, { on := 22, ground := Ground.phase }, { on := 23, ground := Ground.phase }, { on := 24, ground := Ground.phase }, { on := 25, ground := Ground.phase }, { on := 26, ground := Ground.phase }, { on := 27, ground := Ground.phase }, { on := 28, ground := Ground.phase }, { on := 29, ground := Ground.phase }, { on := 30, ground := Ground.phase }, { on := 31, ground := Ground.phase }], guard := none }) (v := .bool true) rfl (by kernel_rfl) (by kernel_rfl) (by kernel_rfl) (fun _ _ _ h => h) (Or.inl ⟨by rfl, by (intro w hSw; (try dsimp only at hSw); first | (go_simp; done) | (go_simp; with_reducible rfl))⟩) hHeld ?_
    try simp only [Act.put, List.setIfInBounds_toArray, List.set_cons_zero, List.set_cons_succ]
    refine wpAnyH_done (by kernel_rfl) ?_ _
    refine NoPanic.normal ?_
    go_wp2
    go_ret
    exact ⟨rfl, below_up HW.out HV.out HW.out.size⟩
  · -- True True False
    simp only [h1, h2, h3, if_true, if_false, decide_true, decide_false, Bool.and_true, Bool.and_false, Bool.true_and, Bool.false_and] at k2 k3
    go_enter Try.func6, Try.ntmps6
    go_upto_region 6 with (first
      | (go_at_call 7; refine (ks _).mono ?_; clear ks; rintro e w1 ⟨rfl, hb1⟩)
      | (go_at_call 17; with_reducible refine (k1 _).mono ?_; clear k1; rintro e w2 ⟨rfl, hb2⟩))
    have hk := heap_alloc_new w2 (.cells #[.int .u64 ((k 0).toNat : Int), .int .u64 ((k 1).toNat : Int), .int .u64 ((k 2).toNat : Int), .int .u64 ((k 3).toNat : Int)] 30)
    have HW := Lib.hid ((below_up hb1 hb2 hb1.size).alloc (below_up hb1 hb2 hb1.size).size (.cells #[.int .u64 ((k 0).toNat : Int), .int .u64 ((k 1).toNat : Int), .int .u64 ((k 2).toNat : Int), .int .u64 ((k 3).toNat : Int)] 30))
    clear hb1 hb2
    generalize w2.alloc (.cells #[.int .u64 ((k 0).toNat : Int), .int .u64 ((k 1).toNat : Int), .int .u64 ((k 2).toNat : Int), .int .u64 ((k 3).toNat : Int)] 30) = V at hk HW ⊢
    generalize w2.heap.size = gk at hk ⊢
    have lk := lt_of_block hk
    have KS : ∀ Z, Below V.heap.size V Z → (Z.cell? ⟨gk, 0, none⟩ = some (.int .u64 ((k 0).toNat : Int)) ∧ Z.cell? ⟨gk, 1, none⟩ = some (.int .u64 ((k 1).toNat : Int)) ∧ Z.cell? ⟨gk, 2, none⟩ = some (.int .u64 ((k 2).toNat : Int)) ∧ Z.cell? ⟨gk, 3, none⟩ = some (.int .u64 ((k 3).toNat : Int))) := fun Z hZ => (res_four ((hZ.block _ lk).trans hk)).1
    have HV := Lib.hid ((Below.refl V.heap.size V).drew)
    clear hk lk
    refine wp_region_noPanic ?_
    refine wp_region_held_drew (S := fun Z => (Z.cell? ⟨gk, 0, none⟩ = some (.int .u64 ((k 0).toNat : Int)) ∧ Z.cell? ⟨gk, 1, none⟩ = some (.int .u64 ((k 1).toNat : Int)) ∧ Z.cell? ⟨gk, 2, none⟩ = some (.int .u64 ((k 2).toNat : Int)) ∧ Z.cell? ⟨gk, 3, none⟩ = some (.int .u64 ((k 3).toNat : Int)))) (by kernel_rfl) (KS _ HV.out) (fun hHeld => ?_)
    refine wpAnyH_take (i := 0) (oi := { dst := some 23, op := Op.move (Operand.tmp 7), type := 4, pos := "more.go:16", after := #[], guard := none }) (v := .bool true) rfl (by kernel_rfl) (by kernel_rfl) (by kernel_rfl) (fun _ _ _ h => h) (Or.inl ⟨by rfl, by (intro w hSw; (try dsimp only at hSw); first | (go_simp; done) | (go_simp; with_reducible rfl))⟩) hHeld ?_
    try simp only [Act.put, List.setIfInBounds_toArray, List.set_cons_zero, List.set_cons_succ]
    refine wpAnyH_take (i := 1) (oi := { dst := some 24, op := Op.move (Operand.tmp 23), type := 4, pos := "more.go:16", after := #[{ on := 0, ground := Ground.data }], guard := none }) (v := .bool true) rfl (by kernel_rfl) (by kernel_rfl) (by kernel_rfl) (fun _ _ _ h => h) (Or.inl ⟨by rfl, by (intro w hSw; (try dsimp only at hSw); first | (go_simp; done) | (go_simp; with_reducible rfl))⟩) hHeld ?_
    try simp only [Act.put, List.setIfInBounds_toArray, List.set_cons_zero, List.set_cons_succ]
    refine wpAnyH_take (i := 2) (oi := { dst := some 25, op := Op.load 30 (Operand.tmp 8), type := 30, pos := "more.go:16", after := #[{ on := 1, ground := Ground.guard }], guard := some (1, true) }) (v := .agg #[.int .u64 ((k 0).toNat : Int), .int .u64 ((k 1).toNat : Int), .int .u64 ((k 2).toNat : Int), .int .u64 ((k 3).toNat : Int)]) rfl (by kernel_rfl) (by kernel_rfl) (by kernel_rfl) (fun _ _ _ h => h) (Or.inl ⟨by rfl, by (intro w hSw; (try dsimp only at hSw); first | (go_simp; done) | (go_simp; with_reducible rfl))⟩) hHeld ?_
    try simp only [Act.put, List.setIfInBounds_toArray, List.set_cons_zero, List.set_cons_succ]
    refine wpAnyH_take (i := 4) (oi := { dst := some 27, op := Op.move (Operand.tmp 9), type := 3, pos := "more.go:16", after := #[{ on := 1, ground := Ground.guard }], guard := some (1, true) }) (v := .int .i64 (y - x + 1)) rfl (by kernel_rfl) (by kernel_rfl) (by kernel_rfl) (fun _ _ _ h => h) (Or.inl ⟨by rfl, by (intro w hSw; (try dsimp only at hSw); first | (go_simp; done) | (go_simp; with_reducible rfl))⟩) hHeld ?_
    try simp only [Act.put, List.setIfInBounds_toArray, List.set_cons_zero, List.set_cons_succ]
    refine wpAnyH_ready (rs := [3]) (by kernel_rfl) (by simp) ?_
    refine AllReadyH.cons (o := { dst := some 26, op := Op.call { callee := Callee.value (Operand.func 15), args := #[Operand.tmp 25], argTypes := #[30] }, type := 3, pos := "more.go:16", after := #[{ on := 2, ground := Ground.data }, { on := 1, ground := Ground.chain }, { on := 1, ground := Ground.guard }], guard := some (1, true) }) rfl (fun K hK => ?_) AllReadyH.nil
    go_simp
    go_at_call 15; with_reducible refine (k2 _).mono ?_; rintro e w5 ⟨rfl, hb2⟩; replace HV := Lib.hid (below_up HV.out hb2 HV.out.size); clear hb2
    try dsimp only
    refine hK.out _ _ (KS _ HV.out) (fun hNew => ?_)
    clear hK K hHeld
    have hHeld := hNew
    clear hNew
    try simp only [Act.put, List.setIfInBounds_toArray, List.set_cons_zero, List.set_cons_succ]
    refine wpAnyH_take (i := 5) (oi := { dst := some 28, op := Op.binOp BinOp.eql 3 (Operand.tmp 26) (Operand.tmp 27) 3, type := 4, pos := "more.go:16", after := #[{ on := 3, ground := Ground.data }, { on := 4, ground := Ground.data }, { on := 1, ground := Ground.guard }], guard := some (1, true) }) (v := .bool true) rfl (by kernel_rfl) (by kernel_rfl) (by kernel_rfl) (fun _ _ _ h => h) (Or.inl ⟨by rfl, by (intro w hSw; (try dsimp only at hSw); first | (go_simp; done) | (go_simp; with_reducible rfl))⟩) hHeld ?_
    try simp only [Act.put, List.setIfInBounds_toArray, List.set_cons_zero, List.set_cons_succ]
    refine wpAnyH_take (i := 6) (oi := { dst := some 29, op := Op.pick (Operand.tmp 24) (Operand.tmp 28) (Operand.const (Value.bool false)), type := 4, pos := "more.go:16", after := #[{ on := 1, ground := Ground.data }, { on := 5, ground := Ground.data }], guard := none }) (v := .bool true) rfl (by kernel_rfl) (by kernel_rfl) (by kernel_rfl) (fun _ _ _ h => h) (Or.inl ⟨by rfl, by (intro w hSw; (try dsimp only at hSw); first | (go_simp; done) | (go_simp; with_reducible rfl))⟩) hHeld ?_
    try simp only [Act.put, List.setIfInBounds_toArray, List.set_cons_zero, List.set_cons_succ]
    refine wpAnyH_take (i := 7) (oi := { dst := some 30, op := Op.move (Operand.tmp 29), type := 4, pos := "more.go:16", after := #[{ on := 6, ground := Ground.data }, { on := 3, ground := Ground.chain }], guard := none }) (v := .bool true) rfl (by kernel_rfl) (by kernel_rfl) (by kernel_rfl) (fun _ _ _ h => h) (Or.inl ⟨by rfl, by (intro w hSw; (try dsimp only at hSw); first | (go_simp; done) | (go_simp; with_reducible rfl))⟩) hHeld ?_
    try simp only [Act.put, List.setIfInBounds_toArray, List.set_cons_zero, List.set_cons_succ]
    refine wpAnyH_take (i := 8) (oi := { dst := some 31, op := Op.load 30 (Operand.tmp 8), type := 30, pos := "more.go:16", after := #[{ on := 7, ground := Ground.guard }], guard := some (7, true) }) (v := .agg #[.int .u64 ((k 0).toNat : Int), .int .u64 ((k 1).toNat : Int), .int .u64 ((k 2).toNat : Int), .int .u64 ((k 3).toNat : Int)]) rfl (by kernel_rfl) (by kernel_rfl) (by kernel_rfl) (fun _ _ _ h => h) (Or.inl ⟨by rfl, by (intro w hSw; (try dsimp only at hSw); first | (go_simp; done) | (go_simp; with_reducible rfl))⟩) hHeld ?_
    try simp only [Act.put, List.setIfInBounds_toArray, List.set_cons_zero, List.set_cons_succ]
    refine wpAnyH_take (i := 9) (oi := { dst := some 32, op := Op.move (Operand.tmp 2), type := 5, pos := "more.go:16", after := #[{ on := 7, ground := Ground.guard }], guard := some (7, true) }) (v := .int .u8 z) rfl (by kernel_rfl) (by kernel_rfl) (by kernel_rfl) (fun _ _ _ h => h) (Or.inl ⟨by rfl, by (intro w hSw; (try dsimp only at hSw); first | (go_simp; done) | (go_simp; with_reducible rfl))⟩) hHeld ?_
    try simp only [Act.put, List.setIfInBounds_toArray, List.set_cons_zero, List.set_cons_succ]
    refine wpAnyH_take (i := 11) (oi := { dst := some 34, op := Op.move (Operand.tmp 0), type := 5, pos := "more.go:16", after := #[{ on := 7, ground := Ground.guard }], guard := some (7, true) }) (v := .int .u8 x) rfl (by kernel_rfl) (by kernel_rfl) (by kernel_rfl) (fun _ _ _ h => h) (Or.inl ⟨by rfl, by (intro w hSw; (try dsimp only at hSw); first | (go_simp; done) | (go_simp; with_reducible rfl))⟩) hHeld ?_
    try simp only [Act.put, List.setIfInBounds_toArray, List.set_cons_zero, List.set_cons_succ]
    refine wpAnyH_take (i := 12) (oi := { dst := some 35, op := Op.move (Operand.tmp 2), type := 5, pos := "more.go:16", after := #[{ on := 7, ground := Ground.guard }], guard := some (7, true) }) (v := .int .u8 z) rfl (by kernel_rfl) (by kernel_rfl) (by kernel_rfl) (fun _ _ _ h => h) (Or.inl ⟨by rfl, by (intro w hSw; (try dsimp only at hSw); first | (go_simp; done) | (go_simp; with_reducible rfl))⟩) hHeld ?_
    try simp only [Act.put, List.setIfInBounds_toArray, List.set_cons_zero, List.set_cons_succ]
    refine wpAnyH_take (i := 13) (oi := { dst := some 36, op := Op.binOp BinOp.leq 5 (Operand.tmp 34) (Operand.tmp 35) 5, type := 4, pos := "more.go:16", after := #[{ on := 11, ground := Ground.data }, { on := 12, ground := Ground.data }, { on := 7, ground := Ground.guard }], guard := some (7, true) }) (v := .bool true) rfl (by kernel_rfl) (by kernel_rfl) (by kernel_rfl) (fun _ _ _ h => h) (Or.inl ⟨by rfl, by (intro w hSw; (try dsimp only at hSw); first | (go_simp; done) | (go_simp; with_reducible rfl))⟩) hHeld ?_
    try simp only [Act.put, List.setIfInBounds_toArray, List.set_cons_zero, List.set_cons_succ]
    refine wpAnyH_ready (rs := [10]) (by kernel_rfl) (by simp) ?_
    refine AllReadyH.cons (o := { dst := some 33, op := Op.call { callee := Callee.value (Operand.func 14), args := #[Operand.tmp 31, Operand.tmp 32], argTypes := #[30, 5] }, type := 4, pos := "more.go:16", after := #[{ on := 8, ground := Ground.data }, { on := 9, ground := Ground.data }, { on := 7, ground := Ground.chain }, { on := 7, ground := Ground.guard }], guard := some (7, true) }) rfl (fun K hK => ?_) AllReadyH.nil
    go_simp
    go_at_call 14; with_reducible refine (k3 _).mono ?_; rintro e w5 ⟨rfl, hb2⟩; replace HV := Lib.hid (below_up HV.out hb2 HV.out.size); clear hb2
    try dsimp only
    refine hK.out _ _ (KS _ HV.out) (fun hNew => ?_)
    clear hK K hHeld
    have hHeld := hNew
    clear hNew
    try simp only [Act.put, List.setIfInBounds_toArray, List.set_cons_zero, List.set_cons_succ]
    refine wpAnyH_take (i := 14) (oi := { dst := some 37, op := Op.move (Operand.tmp 36), type := 4, pos := "more.go:16", after := #[{ on := 13, ground := Ground.data }, { on := 10, ground := Ground.chain }, { on := 7, ground := Ground.guard }], guard := some (7, true) }) (v := .bool true) rfl (by kernel_rfl) (by kernel_rfl) (by kernel_rfl) (fun _ _ _ h => h) (Or.inl ⟨by rfl, by (intro w hSw; (try dsimp only at hSw); first | (go_simp; done) | (go_simp; with_reducible rfl))⟩) hHeld ?_
    try simp only [Act.put, List.setIfInBounds_toArray, List.set_cons_zero, List.set_cons_succ]
    refine wpAnyH_take (i := 15) (oi := { dst := some 38, op := Op.move (Operand.tmp 2), type := 5, pos := "more.go:16", after := #[{ on := 14, ground := Ground.guard }], guard := some (14, true) }) (v := .int .u8 z) rfl (by kernel_rfl) (by kernel_rfl) (by kernel_rfl) (fun _ _ _ h => h) (Or.inl ⟨by rfl, by (intro w hSw; (try dsimp only at hSw); first | (go_simp; done) | (go_simp; with_reducible rfl))⟩) hHeld ?_
    try simp only [Act.put, List.setIfInBounds_toArray, List.set_cons_zero, List.set_cons_succ]
    refine wpAnyH_take (i := 16) (oi := { dst := some 39, op := Op.move (Operand.tmp 1), type := 5, pos := "more.go:16", after := #[{ on := 14, ground := Ground.guard }], guard := some (14, true) }) (v := .int .u8 y) rfl (by kernel_rfl) (by kernel_rfl) (by kernel_rfl) (fun _ _ _ h => h) (Or.inl ⟨by rfl, by (intro w hSw; (try dsimp only at hSw); first | (go_simp; done) | (go_simp; with_reducible rfl))⟩) hHeld ?_
    try simp only [Act.put, List.setIfInBounds_toArray, List.set_cons_zero, List.set_cons_succ]
    refine wpAnyH_take (i := 17) (oi := { dst := some 40, op := Op.binOp BinOp.leq 5 (Operand.tmp 38) (Operand.tmp 39) 5, type := 4, pos := "more.go:16", after := #[{ on := 15, ground := Ground.data }, { on := 16, ground := Ground.data }, { on := 14, ground := Ground.guard }], guard := some (14, true) }) (v := .bool false) rfl (by kernel_rfl) (by kernel_rfl) (by kernel_rfl) (fun _ _ _ h => h) (Or.inl ⟨by rfl, by (intro w hSw; (try dsimp only at hSw); first | (go_simp; done) | (go_simp; with_reducible rfl))⟩) hHeld ?_
    try simp only [Act.put, List.setIfInBounds_toArray, List.set_cons_zero, List.set_cons_succ]
    refine wpAnyH_take (i := 18) (oi := { dst := some 41, op := Op.pick (Operand.tmp 37) (Operand.tmp 40) (Operand.const (Value.bool false)), type := 4, pos := "more.go:16", after := #[{ on := 14, ground := Ground.data }, { on := 17, ground := Ground.data }, { on := 7, ground := Ground.guard }], guard := some (7, true) }) (v := .bool false) rfl (by kernel_rfl) (by kernel_rfl) (by kernel_rfl) (fun _ _ _ h => h) (Or.inl ⟨by rfl, by (intro w hSw; (try dsimp only at hSw); first | (go_simp; done) | (go_simp; with_reducible rfl))⟩) hHeld ?_
    try simp only [Act.put, List.setIfInBounds_toArray, List.set_cons_zero, List.set_cons_succ]
    refine wpAnyH_take (i := 19) (oi := { dst := some 42, op := Op.binOp BinOp.eql 4 (Operand.tmp 33) (Operand.tmp 41) 4, type := 4, pos := "more.go:16", after := #[{ on := 10, ground := Ground.data }, { on := 18, ground := Ground.data }, { on := 7, ground := Ground.guard }], guard := some (7, true) }) (v := .bool true) rfl (by kernel_rfl) (by kernel_rfl) (by kernel_rfl) (fun _ _ _ h => h) (Or.inl ⟨by rfl, by (intro w hSw; (try dsimp only at hSw); first | (go_simp; done) | (go_simp; with_reducible rfl))⟩) hHeld ?_
    try simp only [Act.put, List.setIfInBounds_toArray, List.set_cons_zero, List.set_cons_succ]
    refine wpAnyH_take (i := 20) (oi := { dst := some 43, op := Op.pick (Operand.tmp 30) (Operand.tmp 42) (Operand.const (Value.bool false)), type := 4, pos := "more.go:16", after := #[{ on := 7, ground := Ground.data }, { on := 19, ground := Ground.data }], guard := none }) (v := .bool true) rfl (by kernel_rfl) (by kernel_rfl) (by kernel_rfl) (fun _ _ _ h => h) (Or.inl ⟨by rfl, by (intro w hSw; (try dsimp only at hSw); first | (go_simp; done) | (go_simp; with_reducible rfl))⟩) hHeld ?_
    try simp only [Act.put, List.setIfInBounds_toArray, List.set_cons_zero, List.set_cons_succ]
    refine wpAnyH_take (i := 21) (oi := { dst := some 44, op := Op.move (Operand.tmp 43), type := 4, pos := "more.go:16", after := #[{ on := 20, ground := Ground.data }, { on := 14, ground := Ground.chain }], guard := none }) (v := .bool true) rfl (by kernel_rfl) (by kernel_rfl) (by kernel_rfl) (fun _ _ _ h => h) (Or.inl ⟨by rfl, by (intro w hSw; (try dsimp only at hSw); first | (go_simp; done) | (go_simp; with_reducible rfl))⟩) hHeld ?_
    try simp only [Act.put, List.setIfInBounds_toArray, List.set_cons_zero, List.set_cons_succ]
    refine wpAnyH_take (i := 22) (oi := { dst := some 45, op := Op.load 30 (Operand.tmp 8), type := 30, pos := "more.go:16", after := #[{ on := 21, ground := Ground.guard }], guard := some (21, true) }) (v := .agg #[.int .u64 ((k 0).toNat : Int), .int .u64 ((k 1).toNat : Int), .int .u64 ((k 2).toNat : Int), .int .u64 ((k 3).toNat : Int)]) rfl (by kernel_rfl) (by kernel_rfl) (by kernel_rfl) (fun _ _ _ h => h) (Or.inl ⟨by rfl, by (intro w hSw; (try dsimp only at hSw); first | (go_simp; done) | (go_simp; with_reducible rfl))⟩) hHeld ?_
    try simp only [Act.put, List.setIfInBounds_toArray, List.set_cons_zero, List.set_cons_succ]
    refine wpAnyH_take (i := 23) (oi := { dst := some 46, op := Op.move (Operand.tmp 0), type := 5, pos := "more.go:16", after := #[{ on := 21, ground := Ground.guard }], guard := some (21, true) }) (v := .int .u8 x) rfl (by kernel_rfl) (by kernel_rfl) (by kernel_rfl) (fun _ _ _ h => h) (Or.inl ⟨by rfl, by (intro w hSw; (try dsimp only at hSw); first | (go_simp; done) | (go_simp; with_reducible rfl))⟩) hHeld ?_
    try simp only [Act.put, List.setIfInBounds_toArray, List.set_cons_zero, List.set_cons_succ]
    refine wpAnyH_take (i := 26) (oi := { dst := some 49, op := Op.move (Operand.tmp 0), type := 5, pos := "more.go:16", after := #[{ on := 21, ground := Ground.guard }], guard := some (21, true) }) (v := .int .u8 x) rfl (by kernel_rfl) (by kernel_rfl) (by kernel_rfl) (fun _ _ _ h => h) (Or.inl ⟨by rfl, by (intro w hSw; (try dsimp only at hSw); first | (go_simp; done) | (go_simp; with_reducible rfl))⟩) hHeld ?_
    try simp only [Act.put, List.setIfInBounds_toArray, List.set_cons_zero, List.set_cons_succ]
    refine wpAnyH_take (i := 28) (oi := { dst := some 51, op := Op.load 30 (Operand.tmp 8), type := 30, pos := "more.go:16", after := #[{ on := 21, ground := Ground.guard }], guard := some (21, true) }) (v := .agg #[.int .u64 ((k 0).toNat : Int), .int .u64 ((k 1).toNat : Int), .int .u64 ((k 2).toNat : Int), .int .u64 ((k 3).toNat : Int)]) rfl (by kernel_rfl) (by kernel_rfl) (by kernel_rfl) (fun _ _ _ h => h) (Or.inl ⟨by rfl, by (intro w hSw; (try dsimp only at hSw); first | (go_simp; done) | (go_simp; with_reducible rfl))⟩) hHeld ?_
    try simp only [Act.put, List.setIfInBounds_toArray, List.set_cons_zero, List.set_cons_succ]
    refine wpAnyH_ready (rs := [24]) (by kernel_rfl) (by simp) ?_
    refine AllReadyH.cons (o := { dst := some 47, op := Op.call { callee := Callee.value (Operand.func 18), args := #[Operand.tmp 46], argTypes := #[5] }, type := 30, pos := "more.go:16", after := #[{ on := 23, ground := Ground.data }, { on := 21, ground := Ground.chain }, { on := 21, ground := Ground.guard }], guard := some (21, true) }) rfl (fun K hK => ?_) AllReadyH.nil
    go_simp
    go_at_call 18; with_reducible refine (k4 _).mono ?_; rintro e w5 ⟨rfl, hb2⟩; replace HV := Lib.hid (below_up HV.out hb2 HV.out.size); clear hb2
    try dsimp only
    refine hK.out _ _ (KS _ HV.out) (fun hNew => ?_)
    clear hK K hHeld
    have hHeld := hNew
    clear hNew
    try simp only [Act.put, List.setIfInBounds_toArray, List.set_cons_zero, List.set_cons_succ]
    refine wpAnyH_ready (rs := [25]) (by kernel_rfl) (by simp) ?_
    refine AllReadyH.cons (o := { dst := some 48, op := Op.call { callee := Callee.value (Operand.func 13), args := #[Operand.tmp 45, Operand.tmp 47], argTypes := #[30, 30] }, type := 30, pos := "more.go:16", after := #[{ on := 22, ground := Ground.data }, { on := 24, ground := Ground.data }, { on := 24, ground := Ground.chain }, { on := 21, ground := Ground.guard }], guard := some (21, true) }) rfl (fun K hK => ?_) AllReadyH.nil
    go_simp
    go_at_call 13; with_reducible refine (k5 _).mono ?_; rintro e w5 ⟨rfl, hb2⟩; replace HV := Lib.hid (below_up HV.out hb2 HV.out.size); clear hb2
    try dsimp only
    refine hK.out _ _ (KS _ HV.out) (fun hNew => ?_)
    clear hK K hHeld
    have hHeld := hNew
    clear hNew
    try simp only [Act.put, List.setIfInBounds_toArray, List.set_cons_zero, List.set_cons_succ]
    refine wpAnyH_ready (rs := [27]) (by kernel_rfl) (by simp) ?_
    refine AllReadyH.cons (o := { dst := some 50, op := Op.call { callee := Callee.value (Operand.func 18), args := #[Operand.tmp 49], argTypes := #[5] }, type := 30, pos := "more.go:16", after := #[{ on := 26, ground := Ground.data }, { on := 25, ground := Ground.chain }, { on := 21, ground := Ground.guard }], guard := some (21, true) }) rfl (fun K hK => ?_) AllReadyH.nil
    go_simp
    go_at_call 18; with_reducible refine (k4 _).mono ?_; rintro e w5 ⟨rfl, hb2⟩; replace HV := Lib.hid (below_up HV.out hb2 HV.out.size); clear hb2
    try dsimp only
    refine hK.out _ _ (KS _ HV.out) (fun hNew => ?_)
    clear hK K hHeld
    have hHeld := hNew
    clear hNew
    try simp only [Act.put, List.setIfInBounds_toArray, List.set_cons_zero, List.set_cons_succ]
    refine wpAnyH_ready (rs := [29]) (by kernel_rfl) (by simp) ?_
    refine AllReadyH.cons (o := { dst := some 52, op := Op.call { callee := Callee.value (Operand.func 13), args := #[Operand.tmp 50, Operand.tmp 51], argTypes := #[30, 30] }, type := 30, pos := "more.go:16", after := #[{ on := 27, ground := Ground.data }, { on := 28, ground := Ground.data }, { on := 27, ground := Ground.chain }, { on := 21, ground := Ground.guard }], guard := some (21, true) }) rfl (fun K hK => ?_) AllReadyH.nil
    go_simp
    go_at_call 13; with_reducible refine (k6 _).mono ?_; rintro e w5 ⟨rfl, hb2⟩; replace HV := Lib.hid (below_up HV.out hb2 HV.out.size); clear hb2
    try dsimp only
    refine hK.out _ _ (KS _ HV.out) (fun hNew => ?_)
    clear hK K hHeld
    have hHeld := hNew
    clear hNew
    try simp only [Act.put, List.setIfInBounds_toArray, List.set_cons_zero, List.set_cons_succ]
    refine wpAnyH_take (i := 30) (oi := { dst := some 53, op := Op.binOp BinOp.eql 30 (Operand.tmp 48) (Operand.tmp 52) 30, type := 4, pos := "more.go:16", after := #[{ on := 25, ground := Ground.data }, { on := 29, ground := Ground.data }, { on := 21, ground := Ground.guard }], guard := some (21, true) }) (v := .bool true) rfl (by kernel_rfl) (by kernel_rfl) (by kernel_rfl) (fun _ _ _ h => h) (Or.inl ⟨by rfl, by (intro w hSw; (try dsimp only at hSw); first | (go_simp; done) | (go_simp; with_reducible rfl))⟩) hHeld ?_
    try simp only [Act.put, List.setIfInBounds_toArray, List.set_cons_zero, List.set_cons_succ]
    refine wpAnyH_take (i := 31) (oi := { dst := some 54, op := Op.pick (Operand.tmp 44) (Operand.tmp 53) (Operand.const (Value.bool false)), type := 4, pos := "more.go:16", after := #[{ on := 21, ground := Ground.data }, { on := 30, ground := Ground.data }], guard := none }) (v := .bool true) rfl (by kernel_rfl) (by kernel_rfl) (by kernel_rfl) (fun _ _ _ h => h) (Or.inl ⟨by rfl, by (intro w hSw; (try dsimp only at hSw); first | (go_simp; done) | (go_simp; with_reducible rfl))⟩) hHeld ?_
    try simp only [Act.put, List.setIfInBounds_toArray, List.set_cons_zero, List.set_cons_succ]
    refine wpAnyH_take (i := 32) (oi := { dst := some 6, op := Op.assign (Operand.tmp 54), type := 4, pos := "more.go:16", after := #[{ on := 31, ground := Ground.data }, { on := 29, ground := Ground.chain }, { on := 0, ground := Ground.phase }, { on := 1, ground := Ground.phase }, { on := 2, ground := Ground.phase }, { on := 3, ground := Ground.phase }, { on := 4, ground := Ground.phase }, { on := 5, ground := Ground.phase }, { on := 6, ground := Ground.phase }, { on := 7, ground := Ground.phase }, { on := 8, ground := Ground.phase }, { on := 9, ground := Ground.phase }, { on := 10, ground := Ground.phase }, { on := 11, ground := Ground.phase }, { on := 12, ground := Ground.phase }, { on := 13, ground := Ground.phase }, { on := 14, ground := Ground.phase }, { on := 15, ground := Ground.phase }, { on := 16, ground := Ground.phase }, { on := 17, ground := Ground.phase }, { on := 18, ground := Ground.phase }, { on := 19, ground := Ground.phase }, { on := 20, ground := Ground.phase }, { on := 21, ground := Ground.phase }, { on := 22, ground := Ground.phase }, { on := 23, ground := Ground.phase }, { on := 24, ground := Ground.phase }, { on := 25, ground := Ground.phase }, { on := 26, ground := Ground.phase }, { on := 27, ground := Ground.phase }, { on := 28, ground := Ground.phase }, { on := 29, ground := Ground.phase }, { on := 30, ground := Ground.phase }, { on := 31, ground := Ground.phase }], guard := none }) (v := .bool true) rfl (by kernel_rfl) (by kernel_rfl) (by kernel_rfl) (fun _ _ _ h => h) (Or.inl ⟨by rfl, by (intro w hSw; (try dsimp only at hSw); first | (go_simp; done) | (go_simp; with_reducible rfl))⟩) hHeld ?_
    try simp only [Act.put, List.setIfInBounds_toArray, List.set_cons_zero, List.set_cons_succ]
    refine wpAnyH_done (by kernel_rfl) ?_ _
    refine NoPanic.normal ?_
    go_wp2
    go_ret
    exact ⟨rfl, below_up HW.out HV.out HW.out.size⟩
  · -- True False True
    simp only [h1, h2, h3, if_true, if_false, decide_true, decide_false, Bool.and_true, Bool.and_false, Bool.true_and, Bool.false_and] at k2 k3
    go_enter Try.func6, Try.ntmps6
    go_upto_region 6 with (first
      | (go_at_call 7; refine (ks _).mono ?_; clear ks; rintro e w1 ⟨rfl, hb1⟩)
      | (go_at_call 17; with_reducible refine (k1 _).mono ?_; clear k1; rintro e w2 ⟨rfl, hb2⟩))
    have hk := heap_alloc_new w2 (.cells #[.int .u64 ((k 0).toNat : Int), .int .u64 ((k 1).toNat : Int), .int .u64 ((k 2).toNat : Int), .int .u64 ((k 3).toNat : Int)] 30)
    have HW := Lib.hid ((below_up hb1 hb2 hb1.size).alloc (below_up hb1 hb2 hb1.size).size (.cells #[.int .u64 ((k 0).toNat : Int), .int .u64 ((k 1).toNat : Int), .int .u64 ((k 2).toNat : Int), .int .u64 ((k 3).toNat : Int)] 30))
    clear hb1 hb2
    generalize w2.alloc (.cells #[.int .u64 ((k 0).toNat : Int), .int .u64 ((k 1).toNat : Int), .int .u64 ((k 2).toNat : Int), .int .u64 ((k 3).toNat : Int)] 30) = V at hk HW ⊢
    generalize w2.heap.size = gk at hk ⊢
    have lk := lt_of_block hk
    have KS : ∀ Z, Below V.heap.size V Z → (Z.cell? ⟨gk, 0, none⟩ = some (.int .u64 ((k 0).toNat : Int)) ∧ Z.cell? ⟨gk, 1, none⟩ = some (.int .u64 ((k 1).toNat : Int)) ∧ Z.cell? ⟨gk, 2, none⟩ = some (.int .u64 ((k 2).toNat : Int)) ∧ Z.cell? ⟨gk, 3, none⟩ = some (.int .u64 ((k 3).toNat : Int))) := fun Z hZ => (res_four ((hZ.block _ lk).trans hk)).1
    have HV := Lib.hid ((Below.refl V.heap.size V).drew)
    clear hk lk
    refine wp_region_noPanic ?_
    refine wp_region_held_drew (S := fun Z => (Z.cell? ⟨gk, 0, none⟩ = some (.int .u64 ((k 0).toNat : Int)) ∧ Z.cell? ⟨gk, 1, none⟩ = some (.int .u64 ((k 1).toNat : Int)) ∧ Z.cell? ⟨gk, 2, none⟩ = some (.int .u64 ((k 2).toNat : Int)) ∧ Z.cell? ⟨gk, 3, none⟩ = some (.int .u64 ((k 3).toNat : Int)))) (by kernel_rfl) (KS _ HV.out) (fun hHeld => ?_)
    refine wpAnyH_take (i := 0) (oi := { dst := some 23, op := Op.move (Operand.tmp 7), type := 4, pos := "more.go:16", after := #[], guard := none }) (v := .bool true) rfl (by kernel_rfl) (by kernel_rfl) (by kernel_rfl) (fun _ _ _ h => h) (Or.inl ⟨by rfl, by (intro w hSw; (try dsimp only at hSw); first | (go_simp; done) | (go_simp; with_reducible rfl))⟩) hHeld ?_
    try simp only [Act.put, List.setIfInBounds_toArray, List.set_cons_zero, List.set_cons_succ]
    refine wpAnyH_take (i := 1) (oi := { dst := some 24, op := Op.move (Operand.tmp 23), type := 4, pos := "more.go:16", after := #[{ on := 0, ground := Ground.data }], guard := none }) (v := .bool true) rfl (by kernel_rfl) (by kernel_rfl) (by kernel_rfl) (fun _ _ _ h => h) (Or.inl ⟨by rfl, by (intro w hSw; (try dsimp only at hSw); first | (go_simp; done) | (go_simp; with_reducible rfl))⟩) hHeld ?_
    try simp only [Act.put, List.setIfInBounds_toArray, List.set_cons_zero, List.set_cons_succ]
    refine wpAnyH_take (i := 2) (oi := { dst := some 25, op := Op.load 30 (Operand.tmp 8), type := 30, pos := "more.go:16", after := #[{ on := 1, ground := Ground.guard }], guard := some (1, true) }) (v := .agg #[.int .u64 ((k 0).toNat : Int), .int .u64 ((k 1).toNat : Int), .int .u64 ((k 2).toNat : Int), .int .u64 ((k 3).toNat : Int)]) rfl (by kernel_rfl) (by kernel_rfl) (by kernel_rfl) (fun _ _ _ h => h) (Or.inl ⟨by rfl, by (intro w hSw; (try dsimp only at hSw); first | (go_simp; done) | (go_simp; with_reducible rfl))⟩) hHeld ?_
    try simp only [Act.put, List.setIfInBounds_toArray, List.set_cons_zero, List.set_cons_succ]
    refine wpAnyH_take (i := 4) (oi := { dst := some 27, op := Op.move (Operand.tmp 9), type := 3, pos := "more.go:16", after := #[{ on := 1, ground := Ground.guard }], guard := some (1, true) }) (v := .int .i64 (y - x + 1)) rfl (by kernel_rfl) (by kernel_rfl) (by kernel_rfl) (fun _ _ _ h => h) (Or.inl ⟨by rfl, by (intro w hSw; (try dsimp only at hSw); first | (go_simp; done) | (go_simp; with_reducible rfl))⟩) hHeld ?_
    try simp only [Act.put, List.setIfInBounds_toArray, List.set_cons_zero, List.set_cons_succ]
    refine wpAnyH_ready (rs := [3]) (by kernel_rfl) (by simp) ?_
    refine AllReadyH.cons (o := { dst := some 26, op := Op.call { callee := Callee.value (Operand.func 15), args := #[Operand.tmp 25], argTypes := #[30] }, type := 3, pos := "more.go:16", after := #[{ on := 2, ground := Ground.data }, { on := 1, ground := Ground.chain }, { on := 1, ground := Ground.guard }], guard := some (1, true) }) rfl (fun K hK => ?_) AllReadyH.nil
    go_simp
    go_at_call 15; with_reducible refine (k2 _).mono ?_; rintro e w5 ⟨rfl, hb2⟩; replace HV := Lib.hid (below_up HV.out hb2 HV.out.size); clear hb2
    try dsimp only
    refine hK.out _ _ (KS _ HV.out) (fun hNew => ?_)
    clear hK K hHeld
    have hHeld := hNew
    clear hNew
    try simp only [Act.put, List.setIfInBounds_toArray, List.set_cons_zero, List.set_cons_succ]
    refine wpAnyH_take (i := 5) (oi := { dst := some 28, op := Op.binOp BinOp.eql 3 (Operand.tmp 26) (Operand.tmp 27) 3, type := 4, pos := "more.go:16", after := #[{ on := 3, ground := Ground.data }, { on := 4, ground := Ground.data }, { on := 1, ground := Ground.guard }], guard := some (1, true) }) (v := .bool true) rfl (by kernel_rfl) (by kernel_rfl) (by kernel_rfl) (fun _ _ _ h => h) (Or.inl ⟨by rfl, by (intro w hSw; (try dsimp only at hSw); first | (go_simp; done) | (go_simp; with_reducible rfl))⟩) hHeld ?_
    try simp only [Act.put, List.setIfInBounds_toArray, List.set_cons_zero, List.set_cons_succ]
    refine wpAnyH_take (i := 6) (oi := { dst := some 29, op := Op.pick (Operand.tmp 24) (Operand.tmp 28) (Operand.const (Value.bool false)), type := 4, pos := "more.go:16", after := #[{ on := 1, ground := Ground.data }, { on := 5, ground := Ground.data }], guard := none }) (v := .bool true) rfl (by kernel_rfl) (by kernel_rfl) (by kernel_rfl) (fun _ _ _ h => h) (Or.inl ⟨by rfl, by (intro w hSw; (try dsimp only at hSw); first | (go_simp; done) | (go_simp; with_reducible rfl))⟩) hHeld ?_
    try simp only [Act.put, List.setIfInBounds_toArray, List.set_cons_zero, List.set_cons_succ]
    refine wpAnyH_take (i := 7) (oi := { dst := some 30, op := Op.move (Operand.tmp 29), type := 4, pos := "more.go:16", after := #[{ on := 6, ground := Ground.data }, { on := 3, ground := Ground.chain }], guard := none }) (v := .bool true) rfl (by kernel_rfl) (by kernel_rfl) (by kernel_rfl) (fun _ _ _ h => h) (Or.inl ⟨by rfl, by (intro w hSw; (try dsimp only at hSw); first | (go_simp; done) | (go_simp; with_reducible rfl))⟩) hHeld ?_
    try simp only [Act.put, List.setIfInBounds_toArray, List.set_cons_zero, List.set_cons_succ]
    refine wpAnyH_take (i := 8) (oi := { dst := some 31, op := Op.load 30 (Operand.tmp 8), type := 30, pos := "more.go:16", after := #[{ on := 7, ground := Ground.guard }], guard := some (7, true) }) (v := .agg #[.int .u64 ((k 0).toNat : Int), .int .u64 ((k 1).toNat : Int), .int .u64 ((k 2).toNat : Int), .int .u64 ((k 3).toNat : Int)]) rfl (by kernel_rfl) (by kernel_rfl) (by kernel_rfl) (fun _ _ _ h => h) (Or.inl ⟨by rfl, by (intro w hSw; (try dsimp only at hSw); first | (go_simp; done) | (go_simp; with_reducible rfl))⟩) hHeld ?_
    try simp only [Act.put, List.setIfInBounds_toArray, List.set_cons_zero, List.set_cons_succ]
    refine wpAnyH_take (i := 9) (oi := { dst := some 32, op := Op.move (Operand.tmp 2), type := 5, pos := "more.go:16", after := #[{ on := 7, ground := Ground.guard }], guard := some (7, true) }) (v := .int .u8 z) rfl (by kernel_rfl) (by kernel_rfl) (by kernel_rfl) (fun _ _ _ h => h) (Or.inl ⟨by rfl, by (intro w hSw; (try dsimp only at hSw); first | (go_simp; done) | (go_simp; with_reducible rfl))⟩) hHeld ?_
    try simp only [Act.put, List.setIfInBounds_toArray, List.set_cons_zero, List.set_cons_succ]
    refine wpAnyH_take (i := 11) (oi := { dst := some 34, op := Op.move (Operand.tmp 0), type := 5, pos := "more.go:16", after := #[{ on := 7, ground := Ground.guard }], guard := some (7, true) }) (v := .int .u8 x) rfl (by kernel_rfl) (by kernel_rfl) (by kernel_rfl) (fun _ _ _ h => h) (Or.inl ⟨by rfl, by (intro w hSw; (try dsimp only at hSw); first | (go_simp; done) | (go_simp; with_reducible rfl))⟩) hHeld ?_
    try simp only [Act.put, List.setIfInBounds_toArray, List.set_cons_zero, List.set_cons_succ]
    refine wpAnyH_take (i := 12) (oi := { dst := some 35, op := Op.move (Operand.tmp 2), type := 5, pos := "more.go:16", after := #[{ on := 7, ground := Ground.guard }], guard := some (7, true) }) (v := .int .u8 z) rfl (by kernel_rfl) (by kernel_rfl) (by kernel_rfl) (fun _ _ _ h => h) (Or.inl ⟨by rfl, by (intro w hSw; (try dsimp only at hSw); first | (go_simp; done) | (go_simp; with_reducible rfl))⟩) hHeld ?_
    try simp only [Act.put, List.setIfInBounds_toArray, List.set_cons_zero, List.set_cons_succ]
    refine wpAnyH_take (i := 13) (oi := { dst := some 36, op := Op.binOp BinOp.leq 5 (Operand.tmp 34) (Operand.tmp 35) 5, type := 4, pos := "more.go:16", after := #[{ on := 11, ground := Ground.data }, { on := 12, ground := Ground.data }, { on := 7, ground := Ground.guard }], guard := some (7, true) }) (v := .bool false) rfl (by kernel_rfl) (by kernel_rfl) (by kernel_rfl) (fun _ _ _ h => h) (Or.inl ⟨by rfl, by (intro w hSw; (try dsimp only at hSw); first | (go_simp; done) | (go_simp; with_reducible rfl))⟩) hHeld ?_
    try simp only [Act.put, List.setIfInBounds_toArray, List.set_cons_zero, List.set_cons_succ]
    refine wpAnyH_ready (rs := [10]) (by kernel_rfl) (by simp) ?_
    refine AllReadyH.cons (o := { dst := some 33, op := Op.call { callee := Callee.value (Operand.func 14), args := #[Operand.tmp 31, Operand.tmp 32], argTypes := #[30, 5] }, type := 4, pos := "more.go:16", after := #[{ on := 8, ground := Ground.data }, { on := 9, ground := Ground.data }, { on := 7, ground := Ground.chain }, { on := 7, ground := Ground.guard }], guard := some (7, true) }) rfl (fun K hK => ?_) AllReadyH.nil
    go_simp
    go_at_call 14; with_reducible refine (k3 _).mono ?_; rintro e w5 ⟨rfl, hb2⟩; replace HV := Lib.hid (below_up HV.out hb2 HV.out.size); clear hb2
    try dsimp only
    refine hK.out _ _ (KS _ HV.out) (fun hNew => ?_)
    clear hK K hHeld
    have hHeld := hNew
    clear hNew
    try simp only [Act.put, List.setIfInBounds_toArray, List.set_cons_zero, List.set_cons_succ]
    refine wpAnyH_take (i := 14) (oi := { dst := some 37, op := Op.move (Operand.tmp 36), type := 4, pos := "more.go:16", after := #[{ on := 13, ground := Ground.data }, { on := 10, ground := Ground.chain }, { on := 7, ground := Ground.guard }], guard := some (7, true) }) (v := .bool false) rfl (by kernel_rfl) (by kernel_rfl) (by kernel_rfl) (fun _ _ _ h => h) (Or.inl ⟨by rfl, by (intro w hSw; (try dsimp only at hSw); first | (go_simp; done) | (go_simp; with_reducible rfl))⟩) hHeld ?_
    try simp only [Act.put, List.setIfInBounds_toArray, List.set_cons_zero, List.set_cons_succ]
    refine wpAnyH_take (i := 15) (oi := { dst := some 38, op := Op.move (Operand.tmp 2), type := 5, pos := "more.go:16", after := #[{ on := 14, ground := Ground.guard }], guard := some (14, true) }) (v := undef) rfl (by kernel_rfl) (by kernel_rfl) (by kernel_rfl) (fun _ _ _ h => h) (Or.inr ⟨rfl, rfl⟩) hHeld ?_
    try simp only [Act.put, List.setIfInBounds_toArray, List.set_cons_zero, List.set_cons_succ]
    refine wpAnyH_take (i := 16) (oi := { dst := some 39, op := Op.move (Operand.tmp 1), type := 5, pos := "more.go:16", after := #[{ on := 14, ground := Ground.guard }], guard := some (14, true) }) (v := undef) rfl (by kernel_rfl) (by kernel_rfl) (by kernel_rfl) (fun _ _ _ h => h) (Or.inr ⟨rfl, rfl⟩) hHeld ?_
    try simp only [Act.put, List.setIfInBounds_toArray, List.set_cons_zero, List.set_cons_succ]
    refine wpAnyH_take (i := 17) (oi := { dst := some 40, op := Op.binOp BinOp.leq 5 (Operand.tmp 38) (Operand.tmp 39) 5, type := 4, pos := "more.go:16", after := #[{ on := 15, ground := Ground.data }, { on := 16, ground := Ground.data }, { on := 14, ground := Ground.guard }], guard := some (14, true) }) (v := undef) rfl (by kernel_rfl) (by kernel_rfl) (by kernel_rfl) (fun _ _ _ h => h) (Or.inr ⟨rfl, rfl⟩) hHeld ?_
    try simp only [Act.put, List.setIfInBounds_toArray, List.set_cons_zero, List.set_cons_succ]
    refine wpAnyH_take (i := 18) (oi := { dst := some 41, op := Op.pick (Operand.tmp 37) (Operand.tmp 40) (Operand.const (Value.bool false)), type := 4, pos := "more.go:16", after := #[{ on := 14, ground := Ground.data }, { on := 17, ground := Ground.data }, { on := 7, ground := Ground.guard }], guard := some (7, true) }) (v := .bool false) rfl (by kernel_rfl) (by kernel_rfl) (by kernel_rfl) (fun _ _ _ h => h) (Or.inl ⟨by rfl, by (intro w hSw; (try dsimp only at hSw); first | (go_simp; done) | (go_simp; with_reducible rfl))⟩) hHeld ?_
    try simp only [Act.put, List.setIfInBounds_toArray, List.set_cons_zero, List.set_cons_succ]
    refine wpAnyH_take (i := 19) (oi := { dst := some 42, op := Op.binOp BinOp.eql 4 (Operand.tmp 33) (Operand.tmp 41) 4, type := 4, pos := "more.go:16", after := #[{ on := 10, ground := Ground.data }, { on := 18, ground := Ground.data }, { on := 7, ground := Ground.guard }], guard := some (7, true) }) (v := .bool true) rfl (by kernel_rfl) (by kernel_rfl) (by kernel_rfl) (fun _ _ _ h => h) (Or.inl ⟨by rfl, by (intro w hSw; (try dsimp only at hSw); first | (go_simp; done) | (go_simp; with_reducible rfl))⟩) hHeld ?_
    try simp only [Act.put, List.setIfInBounds_toArray, List.set_cons_zero, List.set_cons_succ]
    refine wpAnyH_take (i := 20) (oi := { dst := some 43, op := Op.pick (Operand.tmp 30) (Operand.tmp 42) (Operand.const (Value.bool false)), type := 4, pos := "more.go:16", after := #[{ on := 7, ground := Ground.data }, { on := 19, ground := Ground.data }], guard := none }) (v := .bool true) rfl (by kernel_rfl) (by kernel_rfl) (by kernel_rfl) (fun _ _ _ h => h) (Or.inl ⟨by rfl, by (intro w hSw; (try dsimp only at hSw); first | (go_simp; done) | (go_simp; with_reducible rfl))⟩) hHeld ?_
    try simp only [Act.put, List.setIfInBounds_toArray, List.set_cons_zero, List.set_cons_succ]
    refine wpAnyH_take (i := 21) (oi := { dst := some 44, op := Op.move (Operand.tmp 43), type := 4, pos := "more.go:16", after := #[{ on := 20, ground := Ground.data }, { on := 14, ground := Ground.chain }], guard := none }) (v := .bool true) rfl (by kernel_rfl) (by kernel_rfl) (by kernel_rfl) (fun _ _ _ h => h) (Or.inl ⟨by rfl, by (intro w hSw; (try dsimp only at hSw); first | (go_simp; done) | (go_simp; with_reducible rfl))⟩) hHeld ?_
    try simp only [Act.put, List.setIfInBounds_toArray, List.set_cons_zero, List.set_cons_succ]
    refine wpAnyH_take (i := 22) (oi := { dst := some 45, op := Op.load 30 (Operand.tmp 8), type := 30, pos := "more.go:16", after := #[{ on := 21, ground := Ground.guard }], guard := some (21, true) }) (v := .agg #[.int .u64 ((k 0).toNat : Int), .int .u64 ((k 1).toNat : Int), .int .u64 ((k 2).toNat : Int), .int .u64 ((k 3).toNat : Int)]) rfl (by kernel_rfl) (by kernel_rfl) (by kernel_rfl) (fun _ _ _ h => h) (Or.inl ⟨by rfl, by (intro w hSw; (try dsimp only at hSw); first | (go_simp; done) | (go_simp; with_reducible rfl))⟩) hHeld ?_
    try simp only [Act.put, List.setIfInBounds_toArray, List.set_cons_zero, List.set_cons_succ]
    refine wpAnyH_take (i := 23) (oi := { dst := some 46, op := Op.move (Operand.tmp 0), type := 5, pos := "more.go:16", after := #[{ on := 21, ground := Ground.guard }], guard := some (21, true) }) (v := .int .u8 x) rfl (by kernel_rfl) (by kernel_rfl) (by kernel_rfl) (fun _ _ _ h => h) (Or.inl ⟨by rfl, by (intro w hSw; (try dsimp only at hSw); first | (go_simp; done) | (go_simp; with_reducible rfl))⟩) hHeld ?_
    try simp only [Act.put, List.setIfInBounds_toArray, List.set_cons_zero, List.set_cons_succ]
    refine wpAnyH_take (i := 26) (oi := { dst := some 49, op := Op.move (Operand.tmp 0), type := 5, pos := "more.go:16", after := #[{ on := 21, ground := Ground.guard }], guard := some (21, true) }) (v := .int .u8 x) rfl (by kernel_rfl) (by kernel_rfl) (by kernel_rfl) (fun _ _ _ h => h) (Or.inl ⟨by rfl, by (intro w hSw; (try dsimp only at hSw); first | (go_simp; done) | (go_simp; with_reducible rfl))⟩) hHeld ?_
    try simp only [Act.put, List.setIfInBounds_toArray, List.set_cons_zero, List.set_cons_succ]
    refine wpAnyH_take (i := 28) (oi := { dst := some 51, op := Op.load 30 (Operand.tmp 8), type := 30, pos := "more.go:16", after := #[{ on := 21, ground := Ground.guard }], guard := some (21, true) }) (v := .agg #[.int .u64 ((k 0).toNat : Int), .int .u64 ((k 1).toNat : Int), .int .u64 ((k 2).toNat : Int), .int .u64 ((k 3).toNat : Int)]) rfl (by kernel_rfl) (by kernel_rfl) (by kernel_rfl) (fun _ _ _ h => h) (Or.inl ⟨by rfl, by (intro w hSw; (try dsimp only at hSw); first | (go_simp; done) | (go_simp; with_reducible rfl))⟩) hHeld ?_
    try simp only [Act.put, List.setIfInBounds_toArray, List.set_cons_zero, List.set_cons_succ]
    refine wpAnyH_ready (rs := [24]) (by kernel_rfl) (by simp) ?_
    refine AllReadyH.cons (o := { dst := some 47, op := Op.call { callee := Callee.value (Operand.func 18), args := #[Operand.tmp 46], argTypes := #[5] }, type := 30, pos := "more.go:16", after := #[{ on := 23, ground := Ground.data }, { on := 21, ground := Ground.chain }, { on := 21, ground := Ground.guard }], guard := some (21, true) }) rfl (fun K hK => ?_) AllReadyH.nil
    go_simp
    go_at_call 18; with_reducible refine (k4 _).mono ?_; rintro e w5 ⟨rfl, hb2⟩; replace HV := Lib.hid (below_up HV.out hb2 HV.out.size); clear hb2
    try dsimp only
    refine hK.out _ _ (KS _ HV.out) (fun hNew => ?_)
    clear hK K hHeld
    have hHeld := hNew
    clear hNew
    try simp only [Act.put, List.setIfInBounds_toArray, List.set_cons_zero, List.set_cons_succ]
    refine wpAnyH_ready (rs := [25]) (by kernel_rfl) (by simp) ?_
    refine AllReadyH.cons (o := { dst := some 48, op := Op.call { callee := Callee.value (Operand.func 13), args := #[Operand.tmp 45, Operand.tmp 47], argTypes := #[30, 30] }, type := 30, pos := "more.go:16", after := #[{ on := 22, ground := Ground.data }, { on := 24, ground := Ground.data }, { on := 24, ground := Ground.chain }, { on := 21, ground := Ground.guard }], guard := some (21, true) }) rfl (fun K hK => ?_) AllReadyH.nil
    go_simp
    go_at_call 13; with_reducible refine (k5 _).mono ?_; rintro e w5 ⟨rfl, hb2⟩; replace HV := Lib.hid (below_up HV.out hb2 HV.out.size); clear hb2
    try dsimp only
    refine hK.out _ _ (KS _ HV.out) (fun hNew => ?_)
    clear hK K hHeld
    have hHeld := hNew
    clear hNew
    try simp only [Act.put, List.setIfInBounds_toArray, List.set_cons_zero, List.set_cons_succ]
    refine wpAnyH_ready (rs := [27]) (by kernel_rfl) (by simp) ?_
    refine AllReadyH.cons (o := { dst := some 50, op := Op.call { callee := Callee.value (Operand.func 18), args := #[Operand.tmp 49], argTypes := #[5] }, type := 30, pos := "more.go:16", after := #[{ on := 26, ground := Ground.data }, { on := 25, ground := Ground.chain }, { on := 21, ground := Ground.guard }], guard := some (21, true) }) rfl (fun K hK => ?_) AllReadyH.nil
    go_simp
    go_at_call 18; with_reducible refine (k4 _).mono ?_; rintro e w5 ⟨rfl, hb2⟩; replace HV := Lib.hid (below_up HV.out hb2 HV.out.size); clear hb2
    try dsimp only
    refine hK.out _ _ (KS _ HV.out) (fun hNew => ?_)
    clear hK K hHeld
    have hHeld := hNew
    clear hNew
    try simp only [Act.put, List.setIfInBounds_toArray, List.set_cons_zero, List.set_cons_succ]
    refine wpAnyH_ready (rs := [29]) (by kernel_rfl) (by simp) ?_
    refine AllReadyH.cons (o := { dst := some 52, op := Op.call { callee := Callee.value (Operand.func 13), args := #[Operand.tmp 50, Operand.tmp 51], argTypes := #[30, 30] }, type := 30, pos := "more.go:16", after := #[{ on := 27, ground := Ground.data }, { on := 28, ground := Ground.data }, { on := 27, ground := Ground.chain }, { on := 21, ground := Ground.guard }], guard := some (21, true) }) rfl (fun K hK => ?_) AllReadyH.nil
    go_simp
    go_at_call 13; with_reducible refine (k6 _).mono ?_; rintro e w5 ⟨rfl, hb2⟩; replace HV := Lib.hid (below_up HV.out hb2 HV.out.size); clear hb2
    try dsimp only
    refine hK.out _ _ (KS _ HV.out) (fun hNew => ?_)
    clear hK K hHeld
    have hHeld := hNew
    clear hNew
    try simp only [Act.put, List.setIfInBounds_toArray, List.set_cons_zero, List.set_cons_succ]
    refine wpAnyH_take (i := 30) (oi := { dst := some 53, op := Op.binOp BinOp.eql 30 (Operand.tmp 48) (Operand.tmp 52) 30, type := 4, pos := "more.go:16", after := #[{ on := 25, ground := Ground.data }, { on := 29, ground := Ground.data }, { on := 21, ground := Ground.guard }], guard := some (21, true) }) (v := .bool true) rfl (by kernel_rfl) (by kernel_rfl) (by kernel_rfl) (fun _ _ _ h => h) (Or.inl ⟨by rfl, by (intro w hSw; (try dsimp only at hSw); first | (go_simp; done) | (go_simp; with_reducible rfl))⟩) hHeld ?_
    try simp only [Act.put, List.setIfInBounds_toArray, List.set_cons_zero, List.set_cons_succ]
    refine wpAnyH_take (i := 31) (oi := { dst := some 54, op := Op.pick (Operand.tmp 44) (Operand.tmp 53) (Operand.const (Value.bool false)), type := 4, pos := "more.go:16", after := #[{ on := 21, ground := Ground.data }, { on := 30, ground := Ground.data }], guard := none }) (v := .bool true) rfl (by kernel_rfl) (by kernel_rfl) (by kernel_rfl) (fun _ _ _ h => h) (Or.inl ⟨by rfl, by (intro w hSw; (try dsimp only at hSw); first | (go_simp; done) | (go_simp; with_reducible rfl))⟩) hHeld ?_
    try simp only [Act.put, List.setIfInBounds_toArray, List.set_cons_zero, List.set_cons_succ]
    refine wpAnyH_take (i := 32) (oi := { dst := some 6, op := Op.assign (Operand.tmp 54), type := 4, pos := "more.go:16", after := #[{ on := 31, ground := Ground.data }, { on := 29, ground := Ground.chain }, { on := 0, ground := Ground.phase }, { on := 1, ground := Ground.phase }, { on := 2, ground := Ground.phase }, { on := 3, ground := Ground.phase }, { on := 4, ground := Ground.phase }, { on := 5, ground := Ground.phase }, { on := 6, ground := Ground.phase }, { on := 7, ground := Ground.phase }, { on := 8, ground := Ground.phase }, { on := 9, ground := Ground.phase }, { on := 10, ground := Ground.phase }, { on := 11, ground := Ground.phase }, { on := 12, ground := Ground.phase }, { on := 13, ground := Ground.phase }, { on := 14, ground := Ground.phase }, { on := 15, ground := Ground.phase }, { on := 16, ground := Ground.phase }, { on := 17, ground := Ground.phase }, { on := 18, ground := Ground.phase }, { on := 19, ground := Ground.phase }, { on := 20, ground := Ground.phase }, { on := 21, ground := Ground.phase }, { on := 22, ground := Ground.phase }, { on := 23, ground := Ground.phase }, { on := 24, ground := Ground.phase }, { on := 25, ground := Ground.phase }, { on := 26, ground := Ground.phase }, { on := 27, ground := Ground.phase }, { on := 28, ground := Ground.phase }, { on := 29, ground := Ground.phase }, { on := 30, ground := Ground.phase }, { on := 31, ground := Ground.phase }], guard := none }) (v := .bool true) rfl (by kernel_rfl) (by kernel_rfl) (by kernel_rfl) (fun _ _ _ h => h) (Or.inl ⟨by rfl, by (intro w hSw; (try dsimp only at hSw); first | (go_simp; done) | (go_simp; with_reducible rfl))⟩) hHeld ?_
    try simp only [Act.put, List.setIfInBounds_toArray, List.set_cons_zero, List.set_cons_succ]
    refine wpAnyH_done (by kernel_rfl) ?_ _
    refine NoPanic.normal ?_
    go_wp2
    go_ret
    exact ⟨rfl, below_up HW.out HV.out HW.out.size⟩
  · -- True False False
    omega
  · -- False True True
    omega
  · -- False True False
    simp only [h1, h2, h3, if_true, if_false, decide_true, decide_false, Bool.and_true, Bool.and_false, Bool.true_and, Bool.false_and] at k2 k3
    go_enter Try.func6, Try.ntmps6
    go_upto_region 6 with (first
      | (go_at_call 7; refine (ks _).mono ?_; clear ks; rintro e w1 ⟨rfl, hb1⟩)
      | (go_at_call 17; with_reducible refine (k1 _).mono ?_; clear k1; rintro e w2 ⟨rfl, hb2⟩))
    have hk := heap_alloc_new w2 (.cells #[.int .u64 ((k 0).toNat : Int), .int .u64 ((k 1).toNat : Int), .int .u64 ((k 2).toNat : Int), .int .u64 ((k 3).toNat : Int)] 30)
    have HW := Lib.hid ((below_up hb1 hb2 hb1.size).alloc (below_up hb1 hb2 hb1.size).size (.cells #[.int .u64 ((k 0).toNat : Int), .int .u64 ((k 1).toNat : Int), .int .u64 ((k 2).toNat : Int), .int .u64 ((k 3).toNat : Int)] 30))
    clear hb1 hb2
    generalize w2.alloc (.cells #[.int .u64 ((k 0).toNat : Int), .int .u64 ((k 1).toNat : Int), .int .u64 ((k 2).toNat : Int), .int .u64 ((k 3).toNat : Int)] 30) = V at hk HW ⊢
    generalize w2.heap.size = gk at hk ⊢
    have lk := lt_of_block hk
    have KS : ∀ Z, Below V.heap.size V Z → (Z.cell? ⟨gk, 0, none⟩ = some (.int .u64 ((k 0).toNat : Int)) ∧ Z.cell? ⟨gk, 1, none⟩ = some (.int .u64 ((k 1).toNat : Int)) ∧ Z.cell? ⟨gk, 2, none⟩ = some (.int .u64 ((k 2).toNat : Int)) ∧ Z.cell? ⟨gk, 3, none⟩ = some (.int .u64 ((k 3).toNat : Int))) := fun Z hZ => (res_four ((hZ.block _ lk).trans hk)).1
    have HV := Lib.hid ((Below.refl V.heap.size V).drew)
    clear hk lk
    refine wp_region_noPanic ?_
    refine wp_region_held_drew (S := fun Z => (Z.cell? ⟨gk, 0, none⟩ = some (.int .u64 ((k 0).toNat : Int)) ∧ Z.cell? ⟨gk, 1, none⟩ = some (.int .u64 ((k 1).toNat : Int)) ∧ Z.cell? ⟨gk, 2, none⟩ = some (.int .u64 ((k 2).toNat : Int)) ∧ Z.cell? ⟨gk, 3, none⟩ = some (.int .u64 ((k 3).toNat : Int)))) (by kernel_rfl) (KS _ HV.out) (fun hHeld => ?_)
    refine wpAnyH_take (i := 0) (oi := { dst := some 23, op := Op.move (Operand.tmp 7), type := 4, pos := "more.go:16", after := #[], guard := none }) (v := .bool true) rfl (by kernel_rfl) (by kernel_rfl) (by kernel_rfl) (fun _ _ _ h => h) (Or.inl ⟨by rfl, by (intro w hSw; (try dsimp only at hSw); first | (go_simp; done) | (go_simp; with_reducible rfl))⟩) hHeld ?_
    try simp only [Act.put, List.setIfInBounds_toArray, List.set_cons_zero, List.set_cons_succ]
    refine wpAnyH_take (i := 1) (oi := { dst := some 24, op := Op.move (Operand.tmp 23), type := 4, pos := "more.go:16", after := #[{ on := 0, ground := Ground.data }], guard := none }) (v := .bool true) rfl (by kernel_rfl) (by kernel_rfl) (by kernel_rfl) (fun _ _ _ h => h) (Or.inl ⟨by rfl, by (intro w hSw; (try dsimp only at hSw); first | (go_simp; done) | (go_simp; with_reducible rfl))⟩) hHeld ?_
    try simp only [Act.put, List.setIfInBounds_toArray, List.set_cons_zero, List.set_cons_succ]
    refine wpAnyH_take (i := 2) (oi := { dst := some 25, op := Op.load 30 (Operand.tmp 8), type := 30, pos := "more.go:16", after := #[{ on := 1, ground := Ground.guard }], guard := some (1, true) }) (v := .agg #[.int .u64 ((k 0).toNat : Int), .int .u64 ((k 1).toNat : Int), .int .u64 ((k 2).toNat : Int), .int .u64 ((k 3).toNat : Int)]) rfl (by kernel_rfl) (by kernel_rfl) (by kernel_rfl) (fun _ _ _ h => h) (Or.inl ⟨by rfl, by (intro w hSw; (try dsimp only at hSw); first | (go_simp; done) | (go_simp; with_reducible rfl))⟩) hHeld ?_
    try simp only [Act.put, List.setIfInBounds_toArray, List.set_cons_zero, List.set_cons_succ]
    refine wpAnyH_take (i := 4) (oi := { dst := some 27, op := Op.move (Operand.tmp 9), type := 3, pos := "more.go:16", after := #[{ on := 1, ground := Ground.guard }], guard := some (1, true) }) (v := .int .i64 0) rfl (by kernel_rfl) (by kernel_rfl) (by kernel_rfl) (fun _ _ _ h => h) (Or.inl ⟨by rfl, by (intro w hSw; (try dsimp only at hSw); first | (go_simp; done) | (go_simp; with_reducible rfl))⟩) hHeld ?_
    try simp only [Act.put, List.setIfInBounds_toArray, List.set_cons_zero, List.set_cons_succ]
    refine wpAnyH_ready (rs := [3]) (by kernel_rfl) (by simp) ?_
    refine AllReadyH.cons (o := { dst := some 26, op := Op.call { callee := Callee.value (Operand.func 15), args := #[Operand.tmp 25], argTypes := #[30] }, type := 3, pos := "more.go:16", after := #[{ on := 2, ground := Ground.data }, { on := 1, ground := Ground.chain }, { on := 1, ground := Ground.guard }], guard := some (1, true) }) rfl (fun K hK => ?_) AllReadyH.nil
    go_simp
    go_at_call 15; with_reducible refine (k2 _).mono ?_; rintro e w5 ⟨rfl, hb2⟩; replace HV := Lib.hid (below_up HV.out hb2 HV.out.size); clear hb2
    try dsimp only
    refine hK.out _ _ (KS _ HV.out) (fun hNew => ?_)
    clear hK K hHeld
    have hHeld := hNew
    clear hNew
    try simp only [Act.put, List.setIfInBounds_toArray, List.set_cons_zero, List.set_cons_succ]
    refine wpAnyH_take (i := 5) (oi := { dst := some 28, op := Op.binOp BinOp.eql 3 (Operand.tmp 26) (Operand.tmp 27) 3, type := 4, pos := "more.go:16", after := #[{ on := 3, ground := Ground.data }, { on := 4, ground := Ground.data }, { on := 1, ground := Ground.guard }], guard := some (1, true) }) (v := .bool true) rfl (by kernel_rfl) (by kernel_rfl) (by kernel_rfl) (fun _ _ _ h => h) (Or.inl ⟨by rfl, by (intro w hSw; (try dsimp only at hSw); first | (go_simp; done) | (go_simp; with_reducible rfl))⟩) hHeld ?_
    try simp only [Act.put, List.setIfInBounds_toArray, List.set_cons_zero, List.set_cons_succ]
    refine wpAnyH_take (i := 6) (oi := { dst := some 29, op := Op.pick (Operand.tmp 24) (Operand.tmp 28) (Operand.const (Value.bool false)), type := 4, pos := "more.go:16", after := #[{ on := 1, ground := Ground.data }, { on := 5, ground := Ground.data }], guard := none }) (v := .bool true) rfl (by kernel_rfl) (by kernel_rfl) (by kernel_rfl) (fun _ _ _ h => h) (Or.inl ⟨by rfl, by (intro w hSw; (try dsimp only at hSw); first | (go_simp; done) | (go_simp; with_reducible rfl))⟩) hHeld ?_
    try simp only [Act.put, List.setIfInBounds_toArray, List.set_cons_zero, List.set_cons_succ]
    refine wpAnyH_take (i := 7) (oi := { dst := some 30, op := Op.move (Operand.tmp 29), type := 4, pos := "more.go:16", after := #[{ on := 6, ground := Ground.data }, { on := 3, ground := Ground.chain }], guard := none }) (v := .bool true) rfl (by kernel_rfl) (by kernel_rfl) (by kernel_rfl) (fun _ _ _ h => h) (Or.inl ⟨by rfl, by (intro w hSw; (try dsimp only at hSw); first | (go_simp; done) | (go_simp; with_reducible rfl))⟩) hHeld ?_
    try simp only [Act.put, List.setIfInBounds_toArray, List.set_cons_zero, List.set_cons_succ]
    refine wpAnyH_take (i := 8) (oi := { dst := some 31, op := Op.load 30 (Operand.tmp 8), type := 30, pos := "more.go:16", after := #[{ on := 7, ground := Ground.guard }], guard := some (7, true) }) (v := .agg #[.int .u64 ((k 0).toNat : Int), .int .u64 ((k 1).toNat : Int), .int .u64 ((k 2).toNat : Int), .int .u64 ((k 3).toNat : Int)]) rfl (by kernel_rfl) (by kernel_rfl) (by kernel_rfl) (fun _ _ _ h => h) (Or.inl ⟨by rfl, by (intro w hSw; (try dsimp only at hSw); first | (go_simp; done) | (go_simp; with_reducible rfl))⟩) hHeld ?_
    try simp only [Act.put, List.setIfInBounds_toArray, List.set_cons_zero, List.set_cons_succ]
    refine wpAnyH_take (i := 9) (oi := { dst := some 32, op := Op.move (Operand.tmp 2), type := 5, pos := "more.go:16", after := #[{ on := 7, ground := Ground.guard }], guard := some (7, true) }) (v := .int .u8 z) rfl (by kernel_rfl) (by kernel_rfl) (by kernel_rfl) (fun _ _ _ h => h) (Or.inl ⟨by rfl, by (intro w hSw; (try dsimp only at hSw); first | (go_simp; done) | (go_simp; with_reducible rfl))⟩) hHeld ?_
    try simp only [Act.put, List.setIfInBounds_toArray, List.set_cons_zero, List.set_cons_succ]
    refine wpAnyH_take (i := 11) (oi := { dst := some 34, op := Op.move (Operand.tmp 0), type := 5, pos := "more.go:16", after := #[{ on := 7, ground := Ground.guard }], guard := some (7, true) }) (v := .int .u8 x) rfl (by kernel_rfl) (by kernel_rfl) (by kernel_rfl) (fun _ _ _ h => h) (Or.inl ⟨by rfl, by (intro w hSw; (try dsimp only at hSw); first | (go_simp; done) | (go_simp; with_reducible rfl))⟩) hHeld ?_
    try simp only [Act.put, List.setIfInBounds_toArray, List.set_cons_zero, List.set_cons_succ]
    refine wpAnyH_take (i := 12) (oi := { dst := some 35, op := Op.move (Operand.tmp 2), type := 5, pos := "more.go:16", after := #[{ on := 7, ground := Ground.guard }], guard := some (7, true) }) (v := .int .u8 z) rfl (by kernel_rfl) (by kernel_rfl) (by kernel_rfl) (fun _ _ _ h => h) (Or.inl ⟨by rfl, by (intro w hSw; (try dsimp only at hSw); first | (go_simp; done) | (go_simp; with_reducible rfl))⟩) hHeld ?_
    try simp only [Act.put, List.setIfInBounds_toArray, List.set_cons_zero, List.set_cons_succ]
    refine wpAnyH_take (i := 13) (oi := { dst := some 36, op := Op.binOp BinOp.leq 5 (Operand.tmp 34) (Operand.tmp 35) 5, type := 4, pos := "more.go:16", after := #[{ on := 11, ground := Ground.data }, { on := 12, ground := Ground.data }, { on := 7, ground := Ground.guard }], guard := some (7, true) }) (v := .bool true) rfl (by kernel_rfl) (by kernel_rfl) (by kernel_rfl) (fun _ _ _ h => h) (Or.inl ⟨by rfl, by (intro w hSw; (try dsimp only at hSw); first | (go_simp; done) | (go_simp; with_reducible rfl))⟩) hHeld ?_
    try simp only [Act.put, List.setIfInBounds_toArray, List.set_cons_zero, List.set_cons_succ]
    refine wpAnyH_ready (rs := [10]) (by kernel_rfl) (by simp) ?_
    refine AllReadyH.cons (o := { dst := some 33, op := Op.call { callee := Callee.value (Operand.func 14), args := #[Operand.tmp 31, Operand.tmp 32], argTypes := #[30, 5] }, type := 4, pos := "more.go:16", after := #[{ on := 8, ground := Ground.data }, { on := 9, ground := Ground.data }, { on := 7, ground := Ground.chain }, { on := 7, ground := Ground.guard }], guard := some (7, true) }) rfl (fun K hK => ?_) AllReadyH.nil
    go_simp
    go_at_call 14; with_reducible refine (k3 _).mono ?_; rintro e w5 ⟨rfl, hb2⟩; replace HV := Lib.hid (below_up HV.out hb2 HV.out.size); clear hb2
    try dsimp only
    refine hK.out _ _ (KS _ HV.out) (fun hNew => ?_)
    clear hK K hHeld
    have hHeld := hNew
    clear hNew
    try simp only [Act.put, List.setIfInBounds_toArray, List.set_cons_zero, List.set_cons_succ]
    refine wpAnyH_take (i := 14) (oi := { dst := some 37, op := Op.move (Operand.tmp 36), type := 4, pos := "more.go:16", after := #[{ on := 13, ground := Ground.data }, { on := 10, ground := Ground.chain }, { on := 7, ground := Ground.guard }], guard := some (7, true) }) (v := .bool true) rfl (by kernel_rfl) (by kernel_rfl) (by kernel_rfl) (fun _ _ _ h => h) (Or.inl ⟨by rfl, by (intro w hSw; (try dsimp only at hSw); first | (go_simp; done) | (go_simp; with_reducible rfl))⟩) hHeld ?_
    try simp only [Act.put, List.setIfInBounds_toArray, List.set_cons_zero, List.set_cons_succ]
    refine wpAnyH_take (i := 15) (oi := { dst := some 38, op := Op.move (Operand.tmp 2), type := 5, pos := "more.go:16", after := #[{ on := 14, ground := Ground.guard }], guard := some (14, true) }) (v := .int .u8 z) rfl (by kernel_rfl) (by kernel_rfl) (by kernel_rfl) (fun _ _ _ h => h) (Or.inl ⟨by rfl, by (intro w hSw; (try dsimp only at hSw); first | (go_simp; done) | (go_simp; with_reducible rfl))⟩) hHeld ?_
    try simp only [Act.put, List.setIfInBounds_toArray, List.set_cons_zero, List.set_cons_succ]
    refine wpAnyH_take (i := 16) (oi := { dst := some 39, op := Op.move (Operand.tmp 1), type := 5, pos := "more.go:16", after := #[{ on := 14, ground := Ground.guard }], guard := some (14, true) }) (v := .int .u8 y) rfl (by kernel_rfl) (by kernel_rfl) (by kernel_rfl) (fun _ _ _ h => h) (Or.inl ⟨by rfl, by (intro w hSw; (try dsimp only at hSw); first | (go_simp; done) | (go_simp; with_reducible rfl))⟩) hHeld ?_
    try simp only [Act.put, List.setIfInBounds_toArray, List.set_cons_zero, List.set_cons_succ]
    refine wpAnyH_take (i := 17) (oi := { dst := some 40, op := Op.binOp BinOp.leq 5 (Operand.tmp 38) (Operand.tmp 39) 5, type := 4, pos := "more.go:16", after := #[{ on := 15, ground := Ground.data }, { on := 16, ground := Ground.data }, { on := 14, ground := Ground.guard }], guard := some (14, true) }) (v := .bool false) rfl (by kernel_rfl) (by kernel_rfl) (by kernel_rfl) (fun _ _ _ h => h) (Or.inl ⟨by rfl, by (intro w hSw; (try dsimp only at hSw); first | (go_simp; done) | (go_simp; with_reducible rfl))⟩) hHeld ?_
    try simp only [Act.put, List.setIfInBounds_toArray, List.set_cons_zero, List.set_cons_succ]
    refine wpAnyH_take (i := 18) (oi := { dst := some 41, op := Op.pick (Operand.tmp 37) (Operand.tmp 40) (Operand.const (Value.bool false)), type := 4, pos := "more.go:16", after := #[{ on := 14, ground := Ground.data }, { on := 17, ground := Ground.data }, { on := 7, ground := Ground.guard }], guard := some (7, true) }) (v := .bool false) rfl (by kernel_rfl) (by kernel_rfl) (by kernel_rfl) (fun _ _ _ h => h) (Or.inl ⟨by rfl, by (intro w hSw; (try dsimp only at hSw); first | (go_simp; done) | (go_simp; with_reducible rfl))⟩) hHeld ?_
    try simp only [Act.put, List.setIfInBounds_toArray, List.set_cons_zero, List.set_cons_succ]
    refine wpAnyH_take (i := 19) (oi := { dst := some 42, op := Op.binOp BinOp.eql 4 (Operand.tmp 33) (Operand.tmp 41) 4, type := 4, pos := "more.go:16", after := #[{ on := 10, ground := Ground.data }, { on := 18, ground := Ground.data }, { on := 7, ground := Ground.guard }], guard := some (7, true) }) (v := .bool true) rfl (by kernel_rfl) (by kernel_rfl) (by kernel_rfl) (fun _ _ _ h => h) (Or.inl ⟨by rfl, by (intro w hSw; (try dsimp only at hSw); first | (go_simp; done) | (go_simp; with_reducible rfl))⟩) hHeld ?_
    try simp only [Act.put, List.setIfInBounds_toArray, List.set_cons_zero, List.set_cons_succ]
    refine wpAnyH_take (i := 20) (oi := { dst := some 43, op := Op.pick (Operand.tmp 30) (Operand.tmp 42) (Operand.const (Value.bool false)), type := 4, pos := "more.go:16", after := #[{ on := 7, ground := Ground.data }, { on := 19, ground := Ground.data }], guard := none }) (v := .bool true) rfl (by kernel_rfl) (by kernel_rfl) (by kernel_rfl) (fun _ _ _ h => h) (Or.inl ⟨by rfl, by (intro w hSw; (try dsimp only at hSw); first | (go_simp; done) | (go_simp; with_reducible rfl))⟩) hHeld ?_
    try simp only [Act.put, List.setIfInBounds_toArray, List.set_cons_zero, List.set_cons_succ]
    refine wpAnyH_take (i := 21) (oi := { dst := some 44, op := Op.move (Operand.tmp 43), type := 4, pos := "more.go:16", after := #[{ on := 20, ground := Ground.data }, { on := 14, ground := Ground.chain }], guard := none }) (v := .bool true) rfl (by kernel_rfl) (by kernel_rfl) (by kernel_rfl) (fun _ _ _ h => h) (Or.inl ⟨by rfl, by (intro w hSw; (try dsimp only at hSw); first | (go_simp; done) | (go_simp; with_reducible rfl))⟩) hHeld ?_
    try simp only [Act.put, List.setIfInBounds_toArray, List.set_cons_zero, List.set_cons_succ]
    refine wpAnyH_take (i := 22) (oi := { dst := some 45, op := Op.load 30 (Operand.tmp 8), type := 30, pos := "more.go:16", after := #[{ on := 21, ground := Ground.guard }], guard := some (21, true) }) (v := .agg #[.int .u64 ((k 0).toNat : Int), .int .u64 ((k 1).toNat : Int), .int .u64 ((k 2).toNat : Int), .int .u64 ((k 3).toNat : Int)]) rfl (by kernel_rfl) (by kernel_rfl) (by kernel_rfl) (fun _ _ _ h => h) (Or.inl ⟨by rfl, by (intro w hSw; (try dsimp only at hSw); first | (go_simp; done) | (go_simp; with_reducible rfl))⟩) hHeld ?_
    try simp only [Act.put, List.setIfInBounds_toArray, List.set_cons_zero, List.set_cons_succ]
    refine wpAnyH_take (i := 23) (oi := { dst := some 46, op := Op.move (Operand.tmp 0), type := 5, pos := "more.go:16", after := #[{ on := 21, ground := Ground.guard }], guard := some (21, true) }) (v := .int .u8 x) rfl (by kernel_rfl) (by kernel_rfl) (by kernel_rfl) (fun _ _ _ h => h) (Or.inl ⟨by rfl, by (intro w hSw; (try dsimp only at hSw); first | (go_simp; done) | (go_simp; with_reducible rfl))⟩) hHeld ?_
    try simp only [Act.put, List.setIfInBounds_toArray, List.set_cons_zero, List.set_cons_succ]
    refine wpAnyH_take (i := 26) (oi := { dst := some 49, op := Op.move (Operand.tmp 0), type := 5, pos := "more.go:16", after := #[{ on := 21, ground := Ground.guard }], guard := some (21, true) }) (v := .int .u8 x) rfl (by kernel_rfl) (by kernel_rfl) (by kernel_rfl) (fun _ _ _ h => h) (Or.inl ⟨by rfl, by (intro w hSw; (try dsimp only at hSw); first | (go_simp; done) | (go_simp; with_reducible rfl))⟩) hHeld ?_
    try simp only [Act.put, List.setIfInBounds_toArray, List.set_cons_zero, List.set_cons_succ]
    refine wpAnyH_take (i := 28) (oi := { dst := some 51, op := Op.load 30 (Operand.tmp 8), type := 30, pos := "more.go:16", after := #[{ on := 21, ground := Ground.guard }], guard := some (21, true) }) (v := .agg #[.int .u64 ((k 0).toNat : Int), .int .u64 ((k 1).toNat : Int), .int .u64 ((k 2).toNat : Int), .int .u64 ((k 3).toNat : Int)]) rfl (by kernel_rfl) (by kernel_rfl) (by kernel_rfl) (fun _ _ _ h => h) (Or.inl ⟨by rfl, by (intro w hSw; (try dsimp only at hSw); first | (go_simp; done) | (go_simp; with_reducible rfl))⟩) hHeld ?_
    try simp only [Act.put, List.setIfInBounds_toArray, List.set_cons_zero, List.set_cons_succ]
    refine wpAnyH_ready (rs := [24]) (by kernel_rfl) (by simp) ?_
    refine AllReadyH.cons (o := { dst := some 47, op := Op.call { callee := Callee.value (Operand.func 18), args := #[Operand.tmp 46], argTypes := #[5] }, type := 30, pos := "more.go:16", after := #[{ on := 23, ground := Ground.data }, { on := 21, ground := Ground.chain }, { on := 21, ground := Ground.guard }], guard := some (21, true) }) rfl (fun K hK => ?_) AllReadyH.nil
    go_simp
    go_at_call 18; with_reducible refine (k4 _).mono ?_; rintro e w5 ⟨rfl, hb2⟩; replace HV := Lib.hid (below_up HV.out hb2 HV.out.size); clear hb2
    try dsimp only
    refine hK.out _ _ (KS _ HV.out) (fun hNew => ?_)
    clear hK K hHeld
    have hHeld := hNew
    clear hNew
    try simp only [Act.put, List.setIfInBounds_toArray, List.set_cons_zero, List.set_cons_succ]
    refine wpAnyH_ready (rs := [25]) (by kernel_rfl) (by simp) ?_
    refine AllReadyH.cons (o := { dst := some 48, op := Op.call { callee := Callee.value (Operand.func 13), args := #[Operand.tmp 45, Operand.tmp 47], argTypes := #[30, 30] }, type := 30, pos := "more.go:16", after := #[{ on := 22, ground := Ground.data }, { on := 24, ground := Ground.data }, { on := 24, ground := Ground.chain }, { on := 21, ground := Ground.guard }], guard := some (21, true) }) rfl (fun K hK => ?_) AllReadyH.nil
    go_simp
    go_at_call 13; with_reducible refine (k5 _).mono ?_; rintro e w5 ⟨rfl, hb2⟩; replace HV := Lib.hid (below_up HV.out hb2 HV.out.size); clear hb2
    try dsimp only
    refine hK.out _ _ (KS _ HV.out) (fun hNew => ?_)
    clear hK K hHeld
    have hHeld := hNew
    clear hNew
    try simp only [Act.put, List.setIfInBounds_toArray, List.set_cons_zero, List.set_cons_succ]
    refine wpAnyH_ready (rs := [27]) (by kernel_rfl) (by simp) ?_
    refine AllReadyH.cons (o := { dst := some 50, op := Op.call { callee := Callee.value (Operand.func 18), args := #[Operand.tmp 49], argTypes := #[5] }, type := 30, pos := "more.go:16", after := #[{ on := 26, ground := Ground.data }, { on := 25, ground := Ground.chain }, { on := 21, ground := Ground.guard }], guard := some (21, true) }) rfl (fun K hK => ?_) AllReadyH.nil
    go_simp
    go_at_call 18; with_reducible refine (k4 _).mono ?_; rintro e w5 ⟨rfl, hb2⟩; replace HV := Lib.hid (below_up HV.out hb2 HV.out.size); clear hb2
    try dsimp only
    refine hK.out _ _ (KS _ HV.out) (fun hNew => ?_)
    clear hK K hHeld
    have hHeld := hNew
    clear hNew
    try simp only [Act.put, List.setIfInBounds_toArray, List.set_cons_zero, List.set_cons_succ]
    refine wpAnyH_ready (rs := [29]) (by kernel_rfl) (by simp) ?_
    refine AllReadyH.cons (o := { dst := some 52, op := Op.call { callee := Callee.value (Operand.func 13), args := #[Operand.tmp 50, Operand.tmp 51], argTypes := #[30, 30] }, type := 30, pos := "more.go:16", after := #[{ on := 27, ground := Ground.data }, { on := 28, ground := Ground.data }, { on := 27, ground := Ground.chain }, { on := 21, ground := Ground.guard }], guard := some (21, true) }) rfl (fun K hK => ?_) AllReadyH.nil
    go_simp
    go_at_call 13; with_reducible refine (k6 _).mono ?_; rintro e w5 ⟨rfl, hb2⟩; replace HV := Lib.hid (below_up HV.out hb2 HV.out.size); clear hb2
    try dsimp only
    refine hK.out _ _ (KS _ HV.out) (fun hNew => ?_)
    clear hK K hHeld
    have hHeld := hNew
    clear hNew
    try simp only [Act.put, List.setIfInBounds_toArray, List.set_cons_zero, List.set_cons_succ]
    refine wpAnyH_take (i := 30) (oi := { dst := some 53, op := Op.binOp BinOp.eql 30 (Operand.tmp 48) (Operand.tmp 52) 30, type := 4, pos := "more.go:16", after := #[{ on := 25, ground := Ground.data }, { on := 29, ground := Ground.data }, { on := 21, ground := Ground.guard }], guard := some (21, true) }) (v := .bool true) rfl (by kernel_rfl) (by kernel_rfl) (by kernel_rfl) (fun _ _ _ h => h) (Or.inl ⟨by rfl, by (intro w hSw; (try dsimp only at hSw); first | (go_simp; done) | (go_simp; with_reducible rfl))⟩) hHeld ?_
    try simp only [Act.put, List.setIfInBounds_toArray, List.set_cons_zero, List.set_cons_succ]
    refine wpAnyH_take (i := 31) (oi := { dst := some 54, op := Op.pick (Operand.tmp 44) (Operand.tmp 53) (Operand.const (Value.bool false)), type := 4, pos := "more.go:16", after := #[{ on := 21, ground := Ground.data }, { on := 30, ground := Ground.data }], guard := none }) (v := .bool true) rfl (by kernel_rfl) (by kernel_rfl) (by kernel_rfl) (fun _ _ _ h => h) (Or.inl ⟨by rfl, by (intro w hSw; (try dsimp only at hSw); first | (go_simp; done) | (go_simp; with_reducible rfl))⟩) hHeld ?_
    try simp only [Act.put, List.setIfInBounds_toArray, List.set_cons_zero, List.set_cons_succ]
    refine wpAnyH_take (i := 32) (oi := { dst := some 6, op := Op.assign (Operand.tmp 54), type := 4, pos := "more.go:16", after := #[{ on := 31, ground := Ground.data }, { on := 29, ground := Ground.chain }, { on := 0, ground := Ground.phase }, { on := 1, ground := Ground.phase }, { on := 2, ground := Ground.phase }, { on := 3, ground := Ground.phase }, { on := 4, ground := Ground.phase }, { on := 5, ground := Ground.phase }, { on := 6, ground := Ground.phase }, { on := 7, ground := Ground.phase }, { on := 8, ground := Ground.phase }, { on := 9, ground := Ground.phase }, { on := 10, ground := Ground.phase }, { on := 11, ground := Ground.phase }, { on := 12, ground := Ground.phase }, { on := 13, ground := Ground.phase }, { on := 14, ground := Ground.phase }, { on := 15, ground := Ground.phase }, { on := 16, ground := Ground.phase }, { on := 17, ground := Ground.phase }, { on := 18, ground := Ground.phase }, { on := 19, ground := Ground.phase }, { on := 20, ground := Ground.phase }, { on := 21, ground := Ground.phase }, { on := 22, ground := Ground.phase }, { on := 23, ground := Ground.phase }, { on := 24, ground := Ground.phase }, { on := 25, ground := Ground.phase }, { on := 26, ground := Ground.phase }, { on := 27, ground := Ground.phase }, { on := 28, ground := Ground.phase }, { on := 29, ground := Ground.phase }, { on := 30, ground := Ground.phase }, { on := 31, ground := Ground.phase }], guard := none }) (v := .bool true) rfl (by kernel_rfl) (by kernel_rfl) (by kernel_rfl) (fun _ _ _ h => h) (Or.inl ⟨by rfl, by (intro w hSw; (try dsimp only at hSw); first | (go_simp; done) | (go_simp; with_reducible rfl))⟩) hHeld ?_
    try simp only [Act.put, List.setIfInBounds_toArray, List.set_cons_zero, List.set_cons_succ]
    refine wpAnyH_done (by kernel_rfl) ?_ _
    refine NoPanic.normal ?_
    go_wp2
    go_ret
    exact ⟨rfl, below_up HW.out HV.out HW.out.size⟩
  · -- False False True
    simp only [h1, h2, h3, if_true, if_false, decide_true, decide_false, Bool.and_true, Bool.and_false, Bool.true_and, Bool.false_and] at k2 k3
    go_enter Try.func6, Try.ntmps6
    go_upto_region 6 with (first
      | (go_at_call 7; refine (ks _).mono ?_; clear ks; rintro e w1 ⟨rfl, hb1⟩)
      | (go_at_call 17; with_reducible refine (k1 _).mono ?_; clear k1; rintro e w2 ⟨rfl, hb2⟩))
    have hk := heap_alloc_new w2 (.cells #[.int .u64 ((k 0).toNat : Int), .int .u64 ((k 1).toNat : Int), .int .u64 ((k 2).toNat : Int), .int .u64 ((k 3).toNat : Int)] 30)
    have HW := Lib.hid ((below_up hb1 hb2 hb1.size).alloc (below_up hb1 hb2 hb1.size).size (.cells #[.int .u64 ((k 0).toNat : Int), .int .u64 ((k 1).toNat : Int), .int .u64 ((k 2).toNat : Int), .int .u64 ((k 3).toNat : Int)] 30))
    clear hb1 hb2
    generalize w2.alloc (.cells #[.int .u64 ((k 0).toNat : Int), .int .u64 ((k 1).toNat : Int), .int .u64 ((k 2).toNat : Int), .int .u64 ((k 3).toNat : Int)] 30) = V at hk HW ⊢
    generalize w2.heap.size = gk at hk ⊢
    have lk := lt_of_block hk
    have KS : ∀ Z, Below V.heap.size V Z → (Z.cell? ⟨gk, 0, none⟩ = some (.int .u64 ((k 0).toNat : Int)) ∧ Z.cell? ⟨gk, 1, none⟩ = some (.int .u64 ((k 1).toNat : Int)) ∧ Z.cell? ⟨gk, 2, none⟩ = some (.int .u64 ((k 2).toNat : Int)) ∧ Z.cell? ⟨gk, 3, none⟩ = some (.int .u64 ((k 3).toNat : Int))) := fun Z hZ => (res_four ((hZ.block _ lk).trans hk)).1
    have HV := Lib.hid ((Below.refl V.heap.size V).drew)
    clear hk lk
    refine wp_region_noPanic ?_
    refine wp_region_held_drew (S := fun Z => (Z.cell? ⟨gk, 0, none⟩ = some (.int .u64 ((k 0).toNat : Int)) ∧ Z.cell? ⟨gk, 1, none⟩ = some (.int .u64 ((k 1).toNat : Int)) ∧ Z.cell? ⟨gk, 2, none⟩ = some (.int .u64 ((k 2).toNat : Int)) ∧ Z.cell? ⟨gk, 3, none⟩ = some (.int .u64 ((k 3).toNat : Int)))) (by kernel_rfl) (KS _ HV.out) (fun hHeld => ?_)
    refine wpAnyH_take (i := 0) (oi := { dst := some 23, op := Op.move (Operand.tmp 7), type := 4, pos := "more.go:16", after := #[], guard := none }) (v := .bool true) rfl (by kernel_rfl) (by kernel_rfl) (by kernel_rfl) (fun _ _ _ h => h) (Or.inl ⟨by rfl, by (intro w hSw; (try dsimp only at hSw); first | (go_simp; done) | (go_simp; with_reducible rfl))⟩) hHeld ?_
    try simp only [Act.put, List.setIfInBounds_toArray, List.set_cons_zero, List.set_cons_succ]
    refine wpAnyH_take (i := 1) (oi := { dst := some 24, op := Op.move (Operand.tmp 23), type := 4, pos := "more.go:16", after := #[{ on := 0, ground := Ground.data }], guard := none }) (v := .bool true) rfl (by kernel_rfl) (by kernel_rfl) (by kernel_rfl) (fun _ _ _ h => h) (Or.inl ⟨by rfl, by (intro w hSw; (try dsimp only at hSw); first | (go_simp; done) | (go_simp; with_reducible rfl))⟩) hHeld ?_
    try simp only [Act.put, List.setIfInBounds_toArray, List.set_cons_zero, List.set_cons_succ]
    refine wpAnyH_take (i := 2) (oi := { dst := some 25, op := Op.load 30 (Operand.tmp 8), type := 30, pos := "more.go:16", after := #[{ on := 1, ground := Ground.guard }], guard := some (1, true) }) (v := .agg #[.int .u64 ((k 0).toNat : Int), .int .u64 ((k 1).toNat : Int), .int .u64 ((k 2).toNat : Int), .int .u64 ((k 3).toNat : Int)]) rfl (by kernel_rfl) (by kernel_rfl) (by kernel_rfl) (fun _ _ _ h => h) (Or.inl ⟨by rfl, by (intro w hSw; (try dsimp only at hSw); first | (go_simp; done) | (go_simp; with_reducible rfl))⟩) hHeld ?_
    try simp only [Act.put, List.setIfInBounds_toArray, List.set_cons_zero, List.set_cons_succ]
    refine wpAnyH_take (i := 4) (oi := { dst := some 27, op := Op.move (Operand.tmp 9), type := 3, pos := "more.go:16", after := #[{ on := 1, ground := Ground.guard }], guard := some (1, true) }) (v := .int .i64 0) rfl (by kernel_rfl) (by kernel_rfl) (by kernel_rfl) (fun _ _ _ h => h) (Or.inl ⟨by rfl, by (intro w hSw; (try dsimp only at hSw); first | (go_simp; done) | (go_simp; with_reducible rfl))⟩) hHeld ?_
    try simp only [Act.put, List.setIfInBounds_toArray, List.set_cons_zero, List.set_cons_succ]
    refine wpAnyH_ready (rs := [3]) (by kernel_rfl) (by simp) ?_
    refine AllReadyH.cons (o := { dst := some 26, op := Op.call { callee := Callee.value (Operand.func 15), args := #[Operand.tmp 25], argTypes := #[30] }, type := 3, pos := "more.go:16", after := #[{ on := 2, ground := Ground.data }, { on := 1, ground := Ground.chain }, { on := 1, ground := Ground.guard }], guard := some (1, true) }) rfl (fun K hK => ?_) AllReadyH.nil
    go_simp
    go_at_call 15; with_reducible refine (k2 _).mono ?_; rintro e w5 ⟨rfl, hb2⟩; replace HV := Lib.hid (below_up HV.out hb2 HV.out.size); clear hb2
    try dsimp only
    refine hK.out _ _ (KS _ HV.out) (fun hNew => ?_)
    clear hK K hHeld
    have hHeld := hNew
    clear hNew
    try simp only [Act.put, List.setIfInBounds_toArray, List.set_cons_zero, List.set_cons_succ]
    refine wpAnyH_take (i := 5) (oi := { dst := some 28, op := Op.binOp BinOp.eql 3 (Operand.tmp 26) (Operand.tmp 27) 3, type := 4, pos := "more.go:16", after := #[{ on := 3, ground := Ground.data }, { on := 4, ground := Ground.data }, { on := 1, ground := Ground.guard }], guard := some (1, true) }) (v := .bool true) rfl (by kernel_rfl) (by kernel_rfl) (by kernel_rfl) (fun _ _ _ h => h) (Or.inl ⟨by rfl, by (intro w hSw; (try dsimp only at hSw); first | (go_simp; done) | (go_simp; with_reducible rfl))⟩) hHeld ?_
    try simp only [Act.put, List.setIfInBounds_toArray, List.set_cons_zero, List.set_cons_succ]
    refine wpAnyH_take (i := 6) (oi := { dst := some 29, op := Op.pick (Operand.tmp 24) (Operand.tmp 28) (Operand.const (Value.bool false)), type := 4, pos := "more.go:16", after := #[{ on := 1, ground := Ground.data }, { on := 5, ground := Ground.data }], guard := none }) (v := .bool true) rfl (by kernel_rfl) (by kernel_rfl) (by kernel_rfl) (fun _ _ _ h => h) (Or.inl ⟨by rfl, by (intro w hSw; (try dsimp only at hSw); first | (go_simp; done) | (go_simp; with_reducible rfl))⟩) hHeld ?_
    try simp only [Act.put, List.setIfInBounds_toArray, List.set_cons_zero, List.set_cons_succ]
    refine wpAnyH_take (i := 7) (oi := { dst := some 30, op := Op.move (Operand.tmp 29), type := 4, pos := "more.go:16", after := #[{ on := 6, ground := Ground.data }, { on := 3, ground := Ground.chain }], guard := none }) (v := .bool true) rfl (by kernel_rfl) (by kernel_rfl) (by kernel_rfl) (fun _ _ _ h => h) (Or.inl ⟨by rfl, by (intro w hSw; (try dsimp only at hSw); first | (go_simp; done) | (go_simp; with_reducible rfl))⟩) hHeld ?_
    try simp only [Act.put, List.setIfInBounds_toArray, List.set_cons_zero, List.set_cons_succ]
    refine wpAnyH_take (i := 8) (oi := { dst := some 31, op := Op.load 30 (Operand.tmp 8), type := 30, pos := "more.go:16", after := #[{ on := 7, ground := Ground.guard }], guard := some (7, true) }) (v := .agg #[.int .u64 ((k 0).toNat : Int), .int .u64 ((k 1).toNat : Int), .int .u64 ((k 2).toNat : Int), .int .u64 ((k 3).toNat : Int)]) rfl (by kernel_rfl) (by kernel_rfl) (by kernel_rfl) (fun _ _ _ h => h) (Or.inl ⟨by rfl, by (intro w hSw; (try dsimp only at hSw); first | (go_simp; done) | (go_simp; with_reducible rfl))⟩) hHeld ?_
    try simp only [Act.put, List.setIfInBounds_toArray, List.set_cons_zero, List.set_cons_succ]
    refine wpAnyH_take (i := 9) (oi := { dst := some 32, op := Op.move (Operand.tmp 2), type := 5, pos := "more.go:16", after := #[{ on := 7, ground := Ground.guard }], guard := some (7, true) }) (v := .int .u8 z) rfl (by kernel_rfl) (by kernel_rfl) (by kernel_rfl) (fun _ _ _ h => h) (Or.inl ⟨by rfl, by (intro w hSw; (try dsimp only at hSw); first | (go_simp; done) | (go_simp; with_reducible rfl))⟩) hHeld ?_
    try simp only [Act.put, List.setIfInBounds_toArray, List.set_cons_zero, List.set_cons_succ]
    refine wpAnyH_take (i := 11) (oi := { dst := some 34, op := Op.move (Operand.tmp 0), type := 5, pos := "more.go:16", after := #[{ on := 7, ground := Ground.guard }], guard := some (7, true) }) (v := .int .u8 x) rfl (by kernel_rfl) (by kernel_rfl) (by kernel_rfl) (fun _ _ _ h => h) (Or.inl ⟨by rfl, by (intro w hSw; (try dsimp only at hSw); first | (go_simp; done) | (go_simp; with_reducible rfl))⟩) hHeld ?_
    try simp only [Act.put, List.setIfInBounds_toArray, List.set_cons_zero, List.set_cons_succ]
    refine wpAnyH_take (i := 12) (oi := { dst := some 35, op := Op.move (Operand.tmp 2), type := 5, pos := "more.go:16", after := #[{ on := 7, ground := Ground.guard }], guard := some (7, true) }) (v := .int .u8 z) rfl (by kernel_rfl) (by kernel_rfl) (by kernel_rfl) (fun _ _ _ h => h) (Or.inl ⟨by rfl, by (intro w hSw; (try dsimp only at hSw); first | (go_simp; done) | (go_simp; with_reducible rfl))⟩) hHeld ?_
    try simp only [Act.put, List.setIfInBounds_toArray, List.set_cons_zero, List.set_cons_succ]
    refine wpAnyH_take (i := 13) (oi := { dst := some 36, op := Op.binOp BinOp.leq 5 (Operand.tmp 34) (Operand.tmp 35) 5, type := 4, pos := "more.go:16", after := #[{ on := 11, ground := Ground.data }, { on := 12, ground := Ground.data }, { on := 7, ground := Ground.guard }], guard := some (7, true) }) (v := .bool false) rfl (by kernel_rfl) (by kernel_rfl) (by kernel_rfl) (fun _ _ _ h => h) (Or.inl ⟨by rfl, by (intro w hSw; (try dsimp only at hSw); first | (go_simp; done) | (go_simp; with_reducible rfl))⟩) hHeld ?_
    try simp only [Act.put, List.setIfInBounds_toArray, List.set_cons_zero, List.set_cons_succ]
    refine wpAnyH_ready (rs := [10]) (by kernel_rfl) (by simp) ?_
    refine AllReadyH.cons (o := { dst := some 33, op := Op.call { callee := Callee.value (Operand.func 14), args := #[Operand.tmp 31, Operand.tmp 32], argTypes := #[30, 5] }, type := 4, pos := "more.go:16", after := #[{ on := 8, ground := Ground.data }, { on := 9, ground := Ground.data }, { on := 7, ground := Ground.chain }, { on := 7, ground := Ground.guard }], guard := some (7, true) }) rfl (fun K hK => ?_) AllReadyH.nil
    go_simp
    go_at_call 14; with_reducible refine (k3 _).mono ?_; rintro e w5 ⟨rfl, hb2⟩; replace HV := Lib.hid (below_up HV.out hb2 HV.out.size); clear hb2
    try dsimp only
    refine hK.out _ _ (KS _ HV.out) (fun hNew => ?_)
    clear hK K hHeld
    have hHeld := hNew
    clear hNew
    try simp only [Act.put, List.setIfInBounds_toArray, List.set_cons_zero, List.set_cons_succ]
    refine wpAnyH_take (i := 14) (oi := { dst := some 37, op := Op.move (Operand.tmp 36), type := 4, pos := "more.go:16", after := #[{ on := 13, ground := Ground.data }, { on := 10, ground := Ground.chain }, { on := 7, ground := Ground.guard }], guard := some (7, true) }) (v := .bool false) rfl (by kernel_rfl) (by kernel_rfl) (by kernel_rfl) (fun _ _ _ h => h) (Or.inl ⟨by rfl, by (intro w hSw; (try dsimp only at hSw); first | (go_simp; done) | (go_simp; with_reducible rfl))⟩) hHeld ?_
    try simp only [Act.put, List.setIfInBounds_toArray, List.set_cons_zero, List.set_cons_succ]
    refine wpAnyH_take (i := 15) (oi := { dst := some 38, op := Op.move (Operand.tmp 2), type := 5, pos := "more.go:16", after := #[{ on := 14, ground := Ground.guard }], guard := some (14, true) }) (v := undef) rfl (by kernel_rfl) (by kernel_rfl) (by kernel_rfl) (fun _ _ _ h => h) (Or.inr ⟨rfl, rfl⟩) hHeld ?_
    try simp only [Act.put, List.setIfInBounds_toArray, List.set_cons_zero, List.set_cons_succ]
    refine wpAnyH_take (i := 16) (oi := { dst := some 39, op := Op.move (Operand.tmp 1), type := 5, pos := "more.go:16", after := #[{ on := 14, ground := Ground.guard }], guard := some (14, true) }) (v := undef) rfl (by kernel_rfl) (by kernel_rfl) (by kernel_rfl) (fun _ _ _ h => h) (Or.inr ⟨rfl, rfl⟩) hHeld ?_
    try simp only [Act.put, List.setIfInBounds_toArray, List.set_cons_zero, List.set_cons_succ]
    refine wpAnyH_take (i := 17) (oi := { dst := some 40, op := Op.binOp BinOp.leq 5 (Operand.tmp 38) (Operand.tmp 39) 5, type := 4, pos := "more.go:16", after := #[{ on := 15, ground := Ground.data }, { on := 16, ground := Ground.data }, { on := 14, ground := Ground.guard }], guard := some (14, true) }) (v := undef) rfl (by kernel_rfl) (by kernel_rfl) (by kernel_rfl) (fun _ _ _ h => h) (Or.inr ⟨rfl, rfl⟩) hHeld ?_
    try simp only [Act.put, List.setIfInBounds_toArray, List.set_cons_zero, List.set_cons_succ]
    refine wpAnyH_take (i := 18) (oi := { dst := some 41, op := Op.pick (Operand.tmp 37) (Operand.tmp 40) (Operand.const (Value.bool false)), type := 4, pos := "more.go:16", after := #[{ on := 14, ground := Ground.data }, { on := 17, ground := Ground.data }, { on := 7, ground := Ground.guard }], guard := some (7, true) }) (v := .bool false) rfl (by kernel_rfl) (by kernel_rfl) (by kernel_rfl) (fun _ _ _ h => h) (Or.inl ⟨by rfl, by (intro w hSw; (try dsimp only at hSw); first | (go_simp; done) | (go_simp; with_reducible rfl))⟩) hHeld ?_
    try simp only [Act.put, List.setIfInBounds_toArray, List.set_cons_zero, List.set_cons_succ]
    refine wpAnyH_take (i := 19) (oi := { dst := some 42, op := Op.binOp BinOp.eql 4 (Operand.tmp 33) (Operand.tmp 41) 4, type := 4, pos := "more.go:16", after := #[{ on := 10, ground := Ground.data }, { on := 18, ground := Ground.data }, { on := 7, ground := Ground.guard }], guard := some (7, true) }) (v := .bool true) rfl (by kernel_rfl) (by kernel_rfl) (by kernel_rfl) (fun _ _ _ h => h) (Or.inl ⟨by rfl, by (intro w hSw; (try dsimp only at hSw); first | (go_simp; done) | (go_simp; with_reducible rfl))⟩) hHeld ?_
    try simp only [Act.put, List.setIfInBounds_toArray, List.set_cons_zero, List.set_cons_succ]
    refine wpAnyH_take (i := 20) (oi := { dst := some 43, op := Op.pick (Operand.tmp 30) (Operand.tmp 42) (Operand.const (Value.bool false)), type := 4, pos := "more.go:16", after := #[{ on := 7, ground := Ground.data }, { on := 19, ground := Ground.data }], guard := none }) (v := .bool true) rfl (by kernel_rfl) (by kernel_rfl) (by kernel_rfl) (fun _ _ _ h => h) (Or.inl ⟨by rfl, by (intro w hSw; (try dsimp only at hSw); first | (go_simp; done) | (go_simp; with_reducible rfl))⟩) hHeld ?_
    try simp only [Act.put, List.setIfInBounds_toArray, List.set_cons_zero, List.set_cons_succ]
    refine wpAnyH_take (i := 21) (oi := { dst := some 44, op := Op.move (Operand.tmp 43), type := 4, pos := "more.go:16", after := #[{ on := 20, ground := Ground.data }, { on := 14, ground := Ground.chain }], guard := none }) (v := .bool true) rfl (by kernel_rfl) (by kernel_rfl) (by kernel_rfl) (fun _ _ _ h => h) (Or.inl ⟨by rfl, by (intro w hSw; (try dsimp only at hSw); first | (go_simp; done) | (go_simp; with_reducible rfl))⟩) hHeld ?_
    try simp only [Act.put, List.setIfInBounds_toArray, List.set_cons_zero, List.set_cons_succ]
    refine wpAnyH_take (i := 22) (oi := { dst := some 45, op := Op.load 30 (Operand.tmp 8), type := 30, pos := "more.go:16", after := #[{ on := 21, ground := Ground.guard }], guard := some (21, true) }) (v := .agg #[.int .u64 ((k 0).toNat : Int), .int .u64 ((k 1).toNat : Int), .int .u64 ((k 2).toNat : Int), .int .u64 ((k 3).toNat : Int)]) rfl (by kernel_rfl) (by kernel_rfl) (by kernel_rfl) (fun _ _ _ h => h) (Or.inl ⟨by rfl, by (intro w hSw; (try dsimp only at hSw); first | (go_simp; done) | (go_simp; with_reducible rfl))⟩) hHeld ?_
    try simp only [Act.put, List.setIfInBounds_toArray, List.set_cons_zero, List.set_cons_succ]
    refine wpAnyH_take (i := 23) (oi := { dst := some 46, op := Op.move (Operand.tmp 0), type := 5, pos := "more.go:16", after := #[{ on := 21, ground := Ground.guard }], guard := some (21, true) }) (v := .int .u8 x) rfl (by kernel_rfl) (by kernel_rfl) (by kernel_rfl) (fun _ _ _ h => h) (Or.inl ⟨by rfl, by (intro w hSw; (try dsimp only at hSw); first | (go_simp; done) | (go_simp; with_reducible rfl))⟩) hHeld ?_
    try simp only [Act.put, List.setIfInBounds_toArray, List.set_cons_zero, List.set_cons_succ]
    refine wpAnyH_take (i := 26) (oi := { dst := some 49, op := Op.move (Operand.tmp 0), type := 5, pos := "more.go:16", after := #[{ on := 21, ground := Ground.guard }], guard := some (21, true) }) (v := .int .u8 x) rfl (by kernel_rfl) (by kernel_rfl) (by kernel_rfl) (fun _ _ _ h => h) (Or.inl ⟨by rfl, by (intro w hSw; (try dsimp only at hSw); first | (go_simp; done) | (go_simp; with_reducible rfl))⟩) hHeld ?_
    try simp only [Act.put, List.setIfInBounds_toArray, List.set_cons_zero, List.set_cons_succ]
    refine wpAnyH_take (i := 28) (oi := { dst := some 51, op := Op.load 30 (Operand.tmp 8), type := 30, pos := "more.go:16", after := #[{ on := 21, ground := Ground.guard }], guard := some (21, true) }) (v := .agg #[.int .u64 ((k 0).toNat : Int), .int .u64 ((k 1).toNat : Int), .int .u64 ((k 2).toNat : Int), .int .u64 ((k 3).toNat : Int)]) rfl (by kernel_rfl) (by kernel_rfl) (by kernel_rfl) (fun _ _ _ h => h) (Or.inl ⟨by rfl, by (intro w hSw; (try dsimp only at hSw); first | (go_simp; done) | (go_simp; with_reducible rfl))⟩) hHeld ?_
    try simp only [Act.put, List.setIfInBounds_toArray, List.set_cons_zero, List.set_cons_succ]
    refine wpAnyH_ready (rs := [24]) (by kernel_rfl) (by simp) ?_
    refine AllReadyH.cons (o := { dst := some 47, op := Op.call { callee := Callee.value (Operand.func 18), args := #[Operand.tmp 46], argTypes := #[5] }, type := 30, pos := "more.go:16", after := #[{ on := 23, ground := Ground.data }, { on := 21, ground := Ground.chain }, { on := 21, ground := Ground.guard }], guard := some (21, true) }) rfl (fun K hK => ?_) AllReadyH.nil
    go_simp
    go_at_call 18; with_reducible refine (k4 _).mono ?_; rintro e w5 ⟨rfl, hb2⟩; replace HV := Lib.hid (below_up HV.out hb2 HV.out.size); clear hb2
    try dsimp only
    refine hK.out _ _ (KS _ HV.out) (fun hNew => ?_)
    clear hK K hHeld
    have hHeld := hNew
    clear hNew
    try simp only [Act.put, List.setIfInBounds_toArray, List.set_cons_zero, List.set_cons_succ]
    refine wpAnyH_ready (rs := [25]) (by kernel_rfl) (by simp) ?_
    refine AllReadyH.cons (o := { dst := some 48, op := Op.call { callee := Callee.value (Operand.func 13), args := #[Operand.tmp 45, Operand.tmp 47], argTypes := #[30, 30] }, type := 30, pos := "more.go:16", after := #[{ on := 22, ground := Ground.data }, { on := 24, ground := Ground.data }, { on := 24, ground := Ground.chain }, { on := 21, ground := Ground.guard }], guard := some (21, true) }) rfl (fun K hK => ?_) AllReadyH.nil
    go_simp
    go_at_call 13; with_reducible refine (k5 _).mono ?_; rintro e w5 ⟨rfl, hb2⟩; replace HV := Lib.hid (below_up HV.out hb2 HV.out.size); clear hb2
    try dsimp only
    refine hK.out _ _ (KS _ HV.out) (fun hNew => ?_)
    clear hK K hHeld
    have hHeld := hNew
    clear hNew
    try simp only [Act.put, List.setIfInBounds_toArray, List.set_cons_zero, List.set_cons_succ]
    refine wpAnyH_ready (rs := [27]) (by kernel_rfl) (by simp) ?_
    refine AllReadyH.cons (o := { dst := some 50, op := Op.call { callee := Callee.value (Operand.func 18), args := #[Operand.tmp 49], argTypes := #[5] }, type := 30, pos := "more.go:16", after := #[{ on := 26, ground := Ground.data }, { on := 25, ground := Ground.chain }, { on := 21, ground := Ground.guard }], guard := some (21, true) }) rfl (fun K hK => ?_) AllReadyH.nil
    go_simp
    go_at_call 18; with_reducible refine (k4 _).mono ?_; rintro e w5 ⟨rfl, hb2⟩; replace HV := Lib.hid (below_up HV.out hb2 HV.out.size); clear hb2
    try dsimp only
    refine hK.out _ _ (KS _ HV.out) (fun hNew => ?_)
    clear hK K hHeld
    have hHeld := hNew
    clear hNew
    try simp only [Act.put, List.setIfInBounds_toArray, List.set_cons_zero, List.set_cons_succ]
    refine wpAnyH_ready (rs := [29]) (by kernel_rfl) (by simp) ?_
    refine AllReadyH.cons (o := { dst := some 52, op := Op.call { callee := Callee.value (Operand.func 13), args := #[Operand.tmp 50, Operand.tmp 51], argTypes := #[30, 30] }, type := 30, pos := "more.go:16", after := #[{ on := 27, ground := Ground.data }, { on := 28, ground := Ground.data }, { on := 27, ground := Ground.chain }, { on := 21, ground := Ground.guard }], guard := some (21, true) }) rfl (fun K hK => ?_) AllReadyH.nil
    go_simp
    go_at_call 13; with_reducible refine (k6 _).mono ?_; rintro e w5 ⟨rfl, hb2⟩; replace HV := Lib.hid (below_up HV.out hb2 HV.out.size); clear hb2
    try dsimp only
    refine hK.out _ _ (KS _ HV.out) (fun hNew => ?_)
    clear hK K hHeld
    have hHeld := hNew
    clear hNew
    try simp only [Act.put, List.setIfInBounds_toArray, List.set_cons_zero, List.set_cons_succ]
    refine wpAnyH_take (i := 30) (oi := { dst := some 53, op := Op.binOp BinOp.eql 30 (Operand.tmp 48) (Operand.tmp 52) 30, type := 4, pos := "more.go:16", after := #[{ on := 25, ground := Ground.data }, { on := 29, ground := Ground.data }, { on := 21, ground := Ground.guard }], guard := some (21, true) }) (v := .bool true) rfl (by kernel_rfl) (by kernel_rfl) (by kernel_rfl) (fun _ _ _ h => h) (Or.inl ⟨by rfl, by (intro w hSw; (try dsimp only at hSw); first | (go_simp; done) | (go_simp; with_reducible rfl))⟩) hHeld ?_
    try simp only [Act.put, List.setIfInBounds_toArray, List.set_cons_zero, List.set_cons_succ]
    refine wpAnyH_take (i := 31) (oi := { dst := some 54, op := Op.pick (Operand.tmp 44) (Operand.tmp 53) (Operand.const (Value.bool false)), type := 4, pos := "more.go:16", after := #[{ on := 21, ground := Ground.data }, { on := 30, ground := Ground.data }], guard := none }) (v := .bool true) rfl (by kernel_rfl) (by kernel_rfl) (by kernel_rfl) (fun _ _ _ h => h) (Or.inl ⟨by rfl, by (intro w hSw; (try dsimp only at hSw); first | (go_simp; done) | (go_simp; with_reducible rfl))⟩) hHeld ?_
    try simp only [Act.put, List.setIfInBounds_toArray, List.set_cons_zero, List.set_cons_succ]
    refine wpAnyH_take (i := 32) (oi := { dst := some 6, op := Op.assign (Operand.tmp 54), type := 4, pos := "more.go:16", after := #[{ on := 31, ground := Ground.data }, { on := 29, ground := Ground.chain }, { on := 0, ground := Ground.phase }, { on := 1, ground := Ground.phase }, { on := 2, ground := Ground.phase }, { on := 3, ground := Ground.phase }, { on := 4, ground := Ground.phase }, { on := 5, ground := Ground.phase }, { on := 6, ground := Ground.phase }, { on := 7, ground := Ground.phase }, { on := 8, ground := Ground.phase }, { on := 9, ground := Ground.phase }, { on := 10, ground := Ground.phase }, { on := 11, ground := Ground.phase }, { on := 12, ground := Ground.phase }, { on := 13, ground := Ground.phase }, { on := 14, ground := Ground.phase }, { on := 15, ground := Ground.phase }, { on := 16, ground := Ground.phase }, { on := 17, ground := Ground.phase }, { on := 18, ground := Ground.phase }, { on := 19, ground := Ground.phase }, { on := 20, ground := Ground.phase }, { on := 21, ground := Ground.phase }, { on := 22, ground := Ground.phase }, { on := 23, ground := Ground.phase }, { on := 24, ground := Ground.phase }, { on := 25, ground := Ground.phase }, { on := 26, ground := Ground.phase }, { on := 27, ground := Ground.phase }, { on := 28, ground := Ground.phase }, { on := 29, ground := Ground.phase }, { on := 30, ground := Ground.phase }, { on := 31, ground := Ground.phase }], guard := none }) (v := .bool true) rfl (by kernel_rfl) (by kernel_rfl) (by kernel_rfl) (fun _ _ _ h => h) (Or.inl ⟨by rfl, by (intro w hSw; (try dsimp only at hSw); first | (go_simp; done) | (go_simp; with_reducible rfl))⟩) hHeld ?_
    try simp only [Act.put, List.setIfInBounds_toArray, List.set_cons_zero, List.set_cons_succ]
    refine wpAnyH_done (by kernel_rfl) ?_ _
    refine NoPanic.normal ?_
    go_wp2
    go_ret
    exact ⟨rfl, below_up HW.out HV.out HW.out.size⟩
  · -- False False False
    simp only [h1, h2, h3, if_true, if_false, decide_true, decide_false, Bool.and_true, Bool.and_false, Bool.true_and, Bool.false_and] at k2 k3
    go_enter Try.func6, Try.ntmps6
    go_upto_region 6 with (first
      | (go_at_call 7; refine (ks _).mono ?_; clear ks; rintro e w1 ⟨rfl, hb1⟩)
      | (go_at_call 17; with_reducible refine (k1 _).mono ?_; clear k1; rintro e w2 ⟨rfl, hb2⟩))
    have hk := heap_alloc_new w2 (.cells #[.int .u64 ((k 0).toNat : Int), .int .u64 ((k 1).toNat : Int), .int .u64 ((k 2).toNat : Int), .int .u64 ((k 3).toNat : Int)] 30)
    have HW := Lib.hid ((below_up hb1 hb2 hb1.size).alloc (below_up hb1 hb2 hb1.size).size (.cells #[.int .u64 ((k 0).toNat : Int), .int .u64 ((k 1).toNat : Int), .int .u64 ((k 2).toNat : Int), .int .u64 ((k 3).toNat : Int)] 30))
    clear hb1 hb2
    generalize w2.alloc (.cells #[.int .u64 ((k 0).toNat : Int), .int .u64 ((k 1).toNat : Int), .int .u64 ((k 2).toNat : Int), .int .u64 ((k 3).toNat : Int)] 30) = V at hk HW ⊢
    generalize w2.heap.size = gk at hk ⊢
    have lk := lt_of_block hk
    have KS : ∀ Z, Below V.heap.size V Z → (Z.cell? ⟨gk, 0, none⟩ = some (.int .u64 ((k 0).toNat : Int)) ∧ Z.cell? ⟨gk, 1, none⟩ = some (.int .u64 ((k 1).toNat : Int)) ∧ Z.cell? ⟨gk, 2, none⟩ = some (.int .u64 ((k 2).toNat : Int)) ∧ Z.cell? ⟨gk, 3, none⟩ = some (.int .u64 ((k 3).toNat : Int))) := fun Z hZ => (res_four ((hZ.block _ lk).trans hk)).1
    have HV := Lib.hid ((Below.refl V.heap.size V).drew)
    clear hk lk
    refine wp_region_noPanic ?_
    refine wp_region_held_drew (S := fun Z => (Z.cell? ⟨gk, 0, none⟩ = some (.int .u64 ((k 0).toNat : Int)) ∧ Z.cell? ⟨gk, 1, none⟩ = some (.int .u64 ((k 1).toNat : Int)) ∧ Z.cell? ⟨gk, 2, none⟩ = some (.int .u64 ((k 2).toNat : Int)) ∧ Z.cell? ⟨gk, 3, none⟩ = some (.int .u64 ((k 3).toNat : Int)))) (by kernel_rfl) (KS _ HV.out) (fun hHeld => ?_)
    refine wpAnyH_take (i := 0) (oi := { dst := some 23, op := Op.move (Operand.tmp 7), type := 4, pos := "more.go:16", after := #[], guard := none }) (v := .bool true) rfl (by kernel_rfl) (by kernel_rfl) (by kernel_rfl) (fun _ _ _ h => h) (Or.inl ⟨by rfl, by (intro w hSw; (try dsimp only at hSw); first | (go_simp; done) | (go_simp; with_reducible rfl))⟩) hHeld ?_
    try simp only [Act.put, List.setIfInBounds_toArray, List.set_cons_zero, List.set_cons_succ]
    refine wpAnyH_take (i := 1) (oi := { dst := some 24, op := Op.move (Operand.tmp 23), type := 4, pos := "more.go:16", after := #[{ on := 0, ground := Ground.data }], guard := none }) (v := .bool true) rfl (by kernel_rfl) (by kernel_rfl) (by kernel_rfl) (fun _ _ _ h => h) (Or.inl ⟨by rfl, by (intro w hSw; (try dsimp only at hSw); first | (go_simp; done) | (go_simp; with_reducible rfl))⟩) hHeld ?_
    try simp only [Act.put, List.setIfInBounds_toArray, List.set_cons_zero, List.set_cons_succ]
    refine wpAnyH_take (i := 2) (oi := { dst := some 25, op := Op.load 30 (Operand.tmp 8), type := 30, pos := "more.go:16", after := #[{ on := 1, ground := Ground.guard }], guard := some (1, true) }) (v := .agg #[.int .u64 ((k 0).toNat : Int), .int .u64 ((k 1).toNat : Int), .int .u64 ((k 2).toNat : Int), .int .u64 ((k 3).toNat : Int)]) rfl (by kernel_rfl) (by kernel_rfl) (by kernel_rfl) (fun _ _ _ h => h) (Or.inl ⟨by rfl, by (intro w hSw; (try dsimp only at hSw); first | (go_simp; done) | (go_simp; with_reducible rfl))⟩) hHeld ?_
    try simp only [Act.put, List.setIfInBounds_toArray, List.set_cons_zero, List.set_cons_succ]
    refine wpAnyH_take (i := 4) (oi := { dst := some 27, op := Op.move (Operand.tmp 9), type := 3, pos := "more.go:16", after := #[{ on := 1, ground := Ground.guard }], guard := some (1, true) }) (v := .int .i64 0) rfl (by kernel_rfl) (by kernel_rfl) (by kernel_rfl) (fun _ _ _ h => h) (Or.inl ⟨by rfl, by (intro w hSw; (try dsimp only at hSw); first | (go_simp; done) | (go_simp; with_reducible rfl))⟩) hHeld ?_
    try simp only [Act.put, List.setIfInBounds_toArray, List.set_cons_zero, List.set_cons_succ]
    refine wpAnyH_ready (rs := [3]) (by kernel_rfl) (by simp) ?_
    refine AllReadyH.cons (o := { dst := some 26, op := Op.call { callee := Callee.value (Operand.func 15), args := #[Operand.tmp 25], argTypes := #[30] }, type := 3, pos := "more.go:16", after := #[{ on := 2, ground := Ground.data }, { on := 1, ground := Ground.chain }, { on := 1, ground := Ground.guard }], guard := some (1, true) }) rfl (fun K hK => ?_) AllReadyH.nil
    go_simp
    go_at_call 15; with_reducible refine (k2 _).mono ?_; rintro e w5 ⟨rfl, hb2⟩; replace HV := Lib.hid (below_up HV.out hb2 HV.out.size); clear hb2
    try dsimp only
    refine hK.out _ _ (KS _ HV.out) (fun hNew => ?_)
    clear hK K hHeld
    have hHeld := hNew
    clear hNew
    try simp only [Act.put, List.setIfInBounds_toArray, List.set_cons_zero, List.set_cons_succ]
    refine wpAnyH_take (i := 5) (oi := { dst := some 28, op := Op.binOp BinOp.eql 3 (Operand.tmp 26) (Operand.tmp 27) 3, type := 4, pos := "more.go:16", after := #[{ on := 3, ground := Ground.data }, { on := 4, ground := Ground.data }, { on := 1, ground := Ground.guard }], guard := some (1, true) }) (v := .bool true) rfl (by kernel_rfl) (by kernel_rfl) (by kernel_rfl) (fun _ _ _ h => h) (Or.inl ⟨by rfl, by (intro w hSw; (try dsimp only at hSw); first | (go_simp; done) | (go_simp; with_reducible rfl))⟩) hHeld ?_
    try simp only [Act.put, List.setIfInBounds_toArray, List.set_cons_zero, List.set_cons_succ]
    refine wpAnyH_take (i := 6) (oi := { dst := some 29, op := Op.pick (Operand.tmp 24) (Operand.tmp 28) (Operand.const (Value.bool false)), type := 4, pos := "more.go:16", after := #[{ on := 1, ground := Ground.data }, { on := 5, ground := Ground.data }], guard := none }) (v := .bool true) rfl (by kernel_rfl) (by kernel_rfl) (by kernel_rfl) (fun _ _ _ h => h) (Or.inl ⟨by rfl, by (intro w hSw; (try dsimp only at hSw); first | (go_simp; done) | (go_simp; with_reducible rfl))⟩) hHeld ?_
    try simp only [Act.put, List.setIfInBounds_toArray, List.set_cons_zero, List.set_cons_succ]
    refine wpAnyH_take (i := 7) (oi := { dst := some 30, op := Op.move (Operand.tmp 29), type := 4, pos := "more.go:16", after := #[{ on := 6, ground := Ground.data }, { on := 3, ground := Ground.chain }], guard := none }) (v := .bool true) rfl (by kernel_rfl) (by kernel_rfl) (by kernel_rfl) (fun _ _ _ h => h) (Or.inl ⟨by rfl, by (intro w hSw; (try dsimp only at hSw); first | (go_simp; done) | (go_simp; with_reducible rfl))⟩) hHeld ?_
    try simp only [Act.put, List.setIfInBounds_toArray, List.set_cons_zero, List.set_cons_succ]
    refine wpAnyH_take (i := 8) (oi := { dst := some 31, op := Op.load 30 (Operand.tmp 8), type := 30, pos := "more.go:16", after := #[{ on := 7, ground := Ground.guard }], guard := some (7, true) }) (v := .agg #[.int .u64 ((k 0).toNat : Int), .int .u64 ((k 1).toNat : Int), .int .u64 ((k 2).toNat : Int), .int .u64 ((k 3).toNat : Int)]) rfl (by kernel_rfl) (by kernel_rfl) (by kernel_rfl) (fun _ _ _ h => h) (Or.inl ⟨by rfl, by (intro w hSw; (try dsimp only at hSw); first | (go_simp; done) | (go_simp; with_reducible rfl))⟩) hHeld ?_
    try simp only [Act.put, List.setIfInBounds_toArray, List.set_cons_zero, List.set_cons_succ]
    refine wpAnyH_take (i := 9) (oi := { dst := some 32, op := Op.move (Operand.tmp 2), type := 5, pos := "more.go:16", after := #[{ on := 7, ground := Ground.guard }], guard := some (7, true) }) (v := .int .u8 z) rfl (by kernel_rfl) (by kernel_rfl) (by kernel_rfl) (fun _ _ _ h => h) (Or.inl ⟨by rfl, by (intro w hSw; (try dsimp only at hSw); first | (go_simp; done) | (go_simp; with_reducible rfl))⟩) hHeld ?_
    try simp only [Act.put, List.setIfInBounds_toArray, List.set_cons_zero, List.set_cons_succ]
    refine wpAnyH_take (i := 11) (oi := { dst := some 34, op := Op.move (Operand.tmp 0), type := 5, pos := "more.go:16", after := #[{ on := 7, ground := Ground.guard }], guard := some (7, true) }) (v := .int .u8 x) rfl (by kernel_rfl) (by kernel_rfl) (by kernel_rfl) (fun _ _ _ h => h) (Or.inl ⟨by rfl, by (intro w hSw; (try dsimp only at hSw); first | (go_simp; done) | (go_simp; with_reducible rfl))⟩) hHeld ?_
    try simp only [Act.put, List.setIfInBounds_toArray, List.set_cons_zero, List.set_cons_succ]
    refine wpAnyH_take (i := 12) (oi := { dst := some 35, op := Op.move (Operand.tmp 2), type := 5, pos := "more.go:16", after := #[{ on := 7, ground := Ground.guard }], guard := some (7, true) }) (v := .int .u8 z) rfl (by kernel_rfl) (by kernel_rfl) (by kernel_rfl) (fun _ _ _ h => h) (Or.inl ⟨by rfl, by (intro w hSw; (try dsimp only at hSw); first | (go_simp; done) | (go_simp; with_reducible rfl))⟩) hHeld ?_
    try simp only [Act.put, List.setIfInBounds_toArray, List.set_cons_zero, List.set_cons_succ]
    refine wpAnyH_take (i := 13) (oi := { dst := some 36, op := Op.binOp BinOp.leq 5 (Operand.tmp 34) (Operand.tmp 35) 5, type := 4, pos := "more.go:16", after := #[{ on := 11, ground := Ground.data }, { on := 12, ground := Ground.data }, { on := 7, ground := Ground.guard }], guard := some (7, true) }) (v := .bool false) rfl (by kernel_rfl) (by kernel_rfl) (by kernel_rfl) (fun _ _ _ h => h) (Or.inl ⟨by rfl, by (intro w hSw; (try dsimp only at hSw); first | (go_simp; done) | (go_simp; with_reducible rfl))⟩) hHeld ?_
    try simp only [Act.put, List.setIfInBounds_toArray, List.set_cons_zero, List.set_cons_succ]
    refine wpAnyH_ready (rs := [10]) (by kernel_rfl) (by simp) ?_
    refine AllReadyH.cons (o := { dst := some 33, op := Op.call { callee := Callee.value (Operand.func 14), args := #[Operand.tmp 31, Operand.tmp 32], argTypes := #[30, 5] }, type := 4, pos := "more.go:16", after := #[{ on := 8, ground := Ground.data }, { on := 9, ground := Ground.data }, { on := 7, ground := Ground.chain }, { on := 7, ground := Ground.guard }], guard := some (7, true) }) rfl (fun K hK => ?_) AllReadyH.nil
    go_simp
    go_at_call 14; with_reducible refine (k3 _).mono ?_; rintro e w5 ⟨rfl, hb2⟩; replace HV := Lib.hid (below_up HV.out hb2 HV.out.size); clear hb2
    try dsimp only
    refine hK.out _ _ (KS _ HV.out) (fun hNew => ?_)
    clear hK K hHeld
    have hHeld := hNew
    clear hNew
    try simp only [Act.put, List.setIfInBounds_toArray, List.set_cons_zero, List.set_cons_succ]
    refine wpAnyH_take (i := 14) (oi := { dst := some 37, op := Op.move (Operand.tmp 36), type := 4, pos := "more.go:16", after := #[{ on := 13, ground := Ground.data }, { on := 10, ground := Ground.chain }, { on := 7, ground := Ground.guard }], guard := some (7, true) }) (v := .bool false) rfl (by kernel_rfl) (by kernel_rfl) (by kernel_rfl) (fun _ _ _ h => h) (Or.inl ⟨by rfl, by (intro w hSw; (try dsimp only at hSw); first | (go_simp; done) | (go_simp; with_reducible rfl))⟩) hHeld ?_
    try simp only [Act.put, List.setIfInBounds_toArray, List.set_cons_zero, List.set_cons_succ]
    refine wpAnyH_take (i := 15) (oi := { dst := some 38, op := Op.move (Operand.tmp 2), type := 5, pos := "more.go:16", after := #[{ on := 14, ground := Ground.guard }], guard := some (14, true) }) (v := undef) rfl (by kernel_rfl) (by kernel_rfl) (by kernel_rfl) (fun _ _ _ h => h) (Or.inr ⟨rfl, rfl⟩) hHeld ?_
    try simp only [Act.put, List.setIfInBounds_toArray, List.set_cons_zero, List.set_cons_succ]
    refine wpAnyH_take (i := 16) (oi := { dst := some 39, op := Op.move (Operand.tmp 1), type := 5, pos := "more.go:16", after := #[{ on := 14, ground := Ground.guard }], guard := some (14, true) }) (v := undef) rfl (by kernel_rfl) (by kernel_rfl) (by kernel_rfl) (fun _ _ _ h => h) (Or.inr ⟨rfl, rfl⟩) hHeld ?_
    try simp only [Act.put, List.setIfInBounds_toArray, List.set_cons_zero, List.set_cons_succ]
    refine wpAnyH_take (i := 17) (oi := { dst := some 40, op := Op.binOp BinOp.leq 5 (Operand.tmp 38) (Operand.tmp 39) 5, type := 4, pos := "more.go:16", after := #[{ on := 15, ground := Ground.data }, { on := 16, ground := Ground.data }, { on := 14, ground := Ground.guard }], guard := some (14, true) }) (v := undef) rfl (by kernel_rfl) (by kernel_rfl) (by kernel_rfl) (fun _ _ _ h => h) (Or.inr ⟨rfl, rfl⟩) hHeld ?_
    try simp only [Act.put, List.setIfInBounds_toArray, List.set_cons_zero, List.set_cons_succ]
    refine wpAnyH_take (i := 18) (oi := { dst := some 41, op := Op.pick (Operand.tmp 37) (Operand.tmp 40) (Operand.const (Value.bool false)), type := 4, pos := "more.go:16", after := #[{ on := 14, ground := Ground.data }, { on := 17, ground := Ground.data }, { on := 7, ground := Ground.guard }], guard := some (7, true) }) (v := .bool false) rfl (by kernel_rfl) (by kernel_rfl) (by kernel_rfl) (fun _ _ _ h => h) (Or.inl ⟨by rfl, by (intro w hSw; (try dsimp only at hSw); first | (go_simp; done) | (go_simp; with_reducible rfl))⟩) hHeld ?_
    try simp only [Act.put, List.setIfInBounds_toArray, List.set_cons_zero, List.set_cons_succ]
    refine wpAnyH_take (i := 19) (oi := { dst := some 42, op := Op.binOp BinOp.eql 4 (Operand.tmp 33) (Operand.tmp 41) 4, type := 4, pos := "more.go:16", after := #[{ on := 10, ground := Ground.data }, { on := 18, ground := Ground.data }, { on := 7, ground := Ground.guard }], guard := some (7, true) }) (v := .bool true) rfl (by kernel_rfl) (by kernel_rfl) (by kernel_rfl) (fun _ _ _ h => h) (Or.inl ⟨by rfl, by (intro w hSw; (try dsimp only at hSw); first | (go_simp; done) | (go_simp; with_reducible rfl))⟩) hHeld ?_
    try simp only [Act.put, List.setIfInBounds_toArray, List.set_cons_zero, List.set_cons_succ]
    refine wpAnyH_take (i := 20) (oi := { dst := some 43, op := Op.pick (Operand.tmp 30) (Operand.tmp 42) (Operand.const (Value.bool false)), type := 4, pos := "more.go:16", after := #[{ on := 7, ground := Ground.data }, { on := 19, ground := Ground.data }], guard := none }) (v := .bool true) rfl (by kernel_rfl) (by kernel_rfl) (by kernel_rfl) (fun _ _ _ h => h) (Or.inl ⟨by rfl, by (intro w hSw; (try dsimp only at hSw); first | (go_simp; done) | (go_simp; with_reducible rfl))⟩) hHeld ?_
    try simp only [Act.put, List.setIfInBounds_toArray, List.set_cons_zero, List.set_cons_succ]
    refine wpAnyH_take (i := 21) (oi := { dst := some 44, op := Op.move (Operand.tmp 43), type := 4, pos := "more.go:16", after := #[{ on := 20, ground := Ground.data }, { on := 14, ground := Ground.chain }], guard := none }) (v := .bool true) rfl (by kernel_rfl) (by kernel_rfl) (by kernel_rfl) (fun _ _ _ h => h) (Or.inl ⟨by rfl, by (intro w hSw; (try dsimp only at hSw); first | (go_simp; done) | (go_simp; with_reducible rfl))⟩) hHeld ?_
    try simp only [Act.put, List.setIfInBounds_toArray, List.set_cons_zero, List.set_cons_succ]
    refine wpAnyH_take (i := 22) (oi := { dst := some 45, op := Op.load 30 (Operand.tmp 8), type := 30, pos := "more.go:16", after := #[{ on := 21, ground := Ground.guard }], guard := some (21, true) }) (v := .agg #[.int .u64 ((k 0).toNat : Int), .int .u64 ((k 1).toNat : Int), .int .u64 ((k 2).toNat : Int), .int .u64 ((k 3).toNat : Int)]) rfl (by kernel_rfl) (by kernel_rfl) (by kernel_rfl) (fun _ _ _ h => h) (Or.inl ⟨by rfl, by (intro w hSw; (try dsimp only at hSw); first | (go_simp; done) | (go_simp; with_reducible rfl))⟩) hHeld ?_
    try simp only [Act.put, List.setIfInBounds_toArray, List.set_cons_zero, List.set_cons_succ]
    refine wpAnyH_take (i := 23) (oi := { dst := some 46, op := Op.move (Operand.tmp 0), type := 5, pos := "more.go:16", after := #[{ on := 21, ground := Ground.guard }], guard := some (21, true) }) (v := .int .u8 x) rfl (by kernel_rfl) (by kernel_rfl) (by kernel_rfl) (fun _ _ _ h => h) (Or.inl ⟨by rfl, by (intro w hSw; (try dsimp only at hSw); first | (go_simp; done) | (go_simp; with_reducible rfl))⟩) hHeld ?_
    try simp only [Act.put, List.setIfInBounds_toArray, List.set_cons_zero, List.set_cons_succ]
    refine wpAnyH_take (i := 26) (oi := { dst := some 49, op := Op.move (Operand.tmp 0), type := 5, pos := "more.go:16", after := #[{ on := 21, ground := Ground.guard }], guard := some (21, true) }) (v := .int .u8 x) rfl (by kernel_rfl) (by kernel_rfl) (by kernel_rfl) (fun _ _ _ h => h) (Or.inl ⟨by rfl, by (intro w hSw; (try dsimp only at hSw); first | (go_simp; done) | (go_simp; with_reducible rfl))⟩) hHeld ?_
    try simp only [Act.put, List.setIfInBounds_toArray, List.set_cons_zero, List.set_cons_succ]
    refine wpAnyH_take (i := 28) (oi := { dst := some 51, op := Op.load 30 (Operand.tmp 8), type := 30, pos := "more.go:16", after := #[{ on := 21, ground := Ground.guard }], guard := some (21, true) }) (v := .agg #[.int .u64 ((k 0).toNat : Int), .int .u64 ((k 1).toNat : Int), .int .u64 ((k 2).toNat : Int), .int .u64 ((k 3).toNat : Int)]) rfl (by kernel_rfl) (by kernel_rfl) (by kernel_rfl) (fun _ _ _ h => h) (Or.inl ⟨by rfl, by (intro w hSw; (try dsimp only at hSw); first | (go_simp; done) | (go_simp; with_reducible rfl))⟩) hHeld ?_
    try simp only [Act.put, List.setIfInBounds_toArray, List.set_cons_zero, List.set_cons_succ]
    refine wpAnyH_ready (rs := [24]) (by kernel_rfl) (by simp) ?_
    refine AllReadyH.cons (o := { dst := some 47, op := Op.call { callee := Callee.value (Operand.func 18), args := #[Operand.tmp 46], argTypes := #[5] }, type := 30, pos := "more.go:16", after := #[{ on := 23, ground := Ground.data }, { on := 21, ground := Ground.chain }, { on := 21, ground := Ground.guard }], guard := some (21, true) }) rfl (fun K hK => ?_) AllReadyH.nil
    go_simp
    go_at_call 18; with_reducible refine (k4 _).mono ?_; rintro e w5 ⟨rfl, hb2⟩; replace HV := Lib.hid (below_up HV.out hb2 HV.out.size); clear hb2
    try dsimp only
    refine hK.out _ _ (KS _ HV.out) (fun hNew => ?_)
    clear hK K hHeld
    have hHeld := hNew
    clear hNew
    try simp only [Act.put, List.setIfInBounds_toArray, List.set_cons_zero, List.set_cons_succ]
    refine wpAnyH_ready (rs := [25]) (by kernel_rfl) (by simp) ?_
    refine AllReadyH.cons (o := { dst := some 48, op := Op.call { callee := Callee.value (Operand.func 13), args := #[Operand.tmp 45, Operand.tmp 47], argTypes := #[30, 30] }, type := 30, pos := "more.go:16", after := #[{ on := 22, ground := Ground.data }, { on := 24, ground := Ground.data }, { on := 24, ground := Ground.chain }, { on := 21, ground := Ground.guard }], guard := some (21, true) }) rfl (fun K hK => ?_) AllReadyH.nil
    go_simp
    go_at_call 13; with_reducible refine (k5 _).mono ?_; rintro e w5 ⟨rfl, hb2⟩; replace HV := Lib.hid (below_up HV.out hb2 HV.out.size); clear hb2
    try dsimp only
    refine hK.out _ _ (KS _ HV.out) (fun hNew => ?_)
    clear hK K hHeld
    have hHeld := hNew
    clear hNew
    try simp only [Act.put, List.setIfInBounds_toArray, List.set_cons_zero, List.set_cons_succ]
    refine wpAnyH_ready (rs := [27]) (by kernel_rfl) (by simp) ?_
    refine AllReadyH.cons (o := { dst := some 50, op := Op.call { callee := Callee.value (Operand.func 18), args := #[Operand.tmp 49], argTypes := #[5] }, type := 30, pos := "more.go:16", after := #[{ on := 26, ground := Ground.data }, { on := 25, ground := Ground.chain }, { on := 21, ground := Ground.guard }], guard := some (21, true) }) rfl (fun K hK => ?_) AllReadyH.nil
    go_simp
    go_at_call 18; with_reducible refine (k4 _).mono ?_; rintro e w5 ⟨rfl, hb2⟩; replace HV := Lib.hid (below_up HV.out hb2 HV.out.size); clear hb2
    try dsimp only
    refine hK.out _ _ (KS _ HV.out) (fun hNew => ?_)
    clear hK K hHeld
    have hHeld := hNew
    clear hNew
    try simp only [Act.put, List.setIfInBounds_toArray, List.set_cons_zero, List.set_cons_succ]
    refine wpAnyH_ready (rs := [29]) (by kernel_rfl) (by simp) ?_
    refine AllReadyH.cons (o := { dst := some 52, op := Op.call { callee := Callee.value (Operand.func 13), args := #[Operand.tmp 50, Operand.tmp 51], argTypes := #[30, 30] }, type := 30, pos := "more.go:16", after := #[{ on := 27, ground := Ground.data }, { on := 28, ground := Ground.data }, { on := 27, ground := Ground.chain }, { on := 21, ground := Ground.guard }], guard := some (21, true) }) rfl (fun K hK => ?_) AllReadyH.nil
    go_simp
    go_at_call 13; with_reducible refine (k6 _).mono ?_; rintro e w5 ⟨rfl, hb2⟩; replace HV := Lib.hid (below_up HV.out hb2 HV.out.size); clear hb2
    try dsimp only
    refine hK.out _ _ (KS _ HV.out) (fun hNew => ?_)
    clear hK K hHeld
    have hHeld := hNew
    clear hNew
    try simp only [Act.put, List.setIfInBounds_toArray, List.set_cons_zero, List.set_cons_succ]
    refine wpAnyH_take (i := 30) (oi := { dst := some 53, op := Op.binOp BinOp.eql 30 (Operand.tmp 48) (Operand.tmp 52) 30, type := 4, pos := "more.go:16", after := #[{ on := 25, ground := Ground.data }, { on := 29, ground := Ground.data }, { on := 21, ground := Ground.guard }], guard := some (21, true) }) (v := .bool true) rfl (by kernel_rfl) (by kernel_rfl) (by kernel_rfl) (fun _ _ _ h => h) (Or.inl ⟨by rfl, by (intro w hSw; (try dsimp only at hSw); first | (go_simp; done) | (go_simp; with_reducible rfl))⟩) hHeld ?_
    try simp only [Act.put, List.setIfInBounds_toArray, List.set_cons_zero, List.set_cons_succ]
    refine wpAnyH_take (i := 31) (oi := { dst := some 54, op := Op.pick (Operand.tmp 44) (Operand.tmp 53) (Operand.const (Value.bool false)), type := 4, pos := "more.go:16", after := #[{ on := 21, ground := Ground.data }, { on := 30, ground := Ground.data }], guard := none }) (v := .bool true) rfl (by kernel_rfl) (by kernel_rfl) (by kernel_rfl) (fun _ _ _ h => h) (Or.inl ⟨by rfl, by (intro w hSw; (try dsimp only at hSw); first | (go_simp; done) | (go_simp; with_reducible rfl))⟩) hHeld ?_
    try simp only [Act.put, List.setIfInBounds_toArray, List.set_cons_zero, List.set_cons_succ]
    refine wpAnyH_take (i := 32) (oi := { dst := some 6, op := Op.assign (Operand.tmp 54), type := 4, pos := "more.go:16", after := #[{ on := 31, ground := Ground.data }, { on := 29, ground := Ground.chain }, { on := 0, ground := Ground.phase }, { on := 1, ground := Ground.phase }, { on := 2, ground := Ground.phase }, { on := 3, ground := Ground.phase }, { on := 4, ground := Ground.phase }, { on := 5, ground := Ground.phase }, { on := 6, ground := Ground.phase }, { on := 7, ground := Ground.phase }, { on := 8, ground := Ground.phase }, { on := 9, ground := Ground.phase }, { on := 10, ground := Ground.phase }, { on := 11, ground := Ground.phase }, { on := 12, ground := Ground.phase }, { on := 13, ground := Ground.phase }, { on := 14, ground := Ground.phase }, { on := 15, ground := Ground.phase }, { on := 16, ground := Ground.phase }, { on := 17, ground := Ground.phase }, { on := 18, ground := Ground.phase }, { on := 19, ground := Ground.phase }, { on := 20, ground := Ground.phase }, { on := 21, ground := Ground.phase }, { on := 22, ground := Ground.phase }, { on := 23, ground := Ground.phase }, { on := 24, ground := Ground.phase }, { on := 25, ground := Ground.phase }, { on := 26, ground := Ground.phase }, { on := 27, ground := Ground.phase }, { on := 28, ground := Ground.phase }, { on := 29, ground := Ground.phase }, { on := 30, ground := Ground.phase }, { on := 31, ground := Ground.phase }], guard := none }) (v := .bool true) rfl (by kernel_rfl) (by kernel_rfl) (by kernel_rfl) (fun _ _ _ h => h) (Or.inl ⟨by rfl, by (intro w hSw; (try dsimp only at hSw); first | (go_simp; done) | (go_simp; with_reducible rfl))⟩) hHeld ?_
    try simp only [Act.put, List.setIfInBounds_toArray, List.set_cons_zero, List.set_cons_succ]
    refine wpAnyH_done (by kernel_rfl) ?_ _
    refine NoPanic.normal ?_
    go_wp2
    go_ret
    exact ⟨rfl, below_up HW.out HV.out HW.out.size⟩

theorem spans_walk (a b c : UInt8) (w : World) : Calls Try.prog 6 #[.int .u8 (a.toNat : Int), .int .u8 (b.toNat : Int), .int .u8 (c.toNat : Int)] w fun e w' => e = .returned (.bool true) ∧ Below w.heap.size w w' := by
  have ha := a.toNat_lt
  have hb := b.toNat_lt
  have hc := c.toNat_lt
  have e1 : clsV (orK (oneK a.toNat) (spanK a.toNat b.toNat)) = clsV (orK (spanK a.toNat b.toNat) (oneK a.toNat)) := clsV_ext fun d _ => by rw [has_or, has_or, Bool.or_comm]
  have e2 : (cntK (spanK a.toNat b.toNat) : Int) = if (a.toNat : Int) ≤ (b.toNat : Int) then (b.toNat : Int) - (a.toNat : Int) + 1 else 0 := by
    rw [cnt_span _ _ hb]
    split <;> omega
  have e3 : has (spanK a.toNat b.toNat) c.toNat = (decide ((a.toNat : Int) ≤ (c.toNat : Int)) && decide ((c.toNat : Int) ≤ (b.toNat : Int))) := by
    rw [has_span]
    simp only [Int.ofNat_le]
  refine spans_walk0 (spanK a.toNat b.toNat) (oneK a.toNat) (orK (spanK a.toNat b.toNat) (oneK a.toNat)) _ _ _ w (by omega) (by omega) (by omega) (by omega)
    (fun Z => span_any _ _ Z (by omega) (by omega) (by omega) (by omega))
    (fun Z => (count_any _ Z).mono fun e w' h => ⟨h.1.trans (by rw [e2]), h.2⟩)
    (fun Z => has_nat _ _ Z hc _ e3)
    (fun Z => one_any _ Z (by omega) (by omega))
    (fun Z => or_any _ _ Z) (fun Z => (or_any _ _ Z).mono fun e w' h => ⟨h.1.trans (congrArg Ending.returned e1), h.2⟩)
end Go.Proofs.Ytojjjkicgbdknaa
