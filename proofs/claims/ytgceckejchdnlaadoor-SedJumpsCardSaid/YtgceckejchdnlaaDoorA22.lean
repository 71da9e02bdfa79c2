/- Packed texts: SeCmdC, SeCmdS, SeCmdA, SeCom. What each of them proves stands above its theorems; the conditions stand in these. -/
import Derived.Test.YtgceckejchdnlaaDoorA21
namespace Go.Proofs.YtgceckejchdnlaaDoor
open Go.RowKit Go.Lib
set_option maxHeartbeats 8000000 in
set_option maxRecDepth 20000 in
theorem cmd_c_bad (p : Nat) (l : List UInt8) (w : World) (h : Rd p l w) (a : Ad) (KA NA : Int) (hKA : KA = (a.k : Int)) (hNA : NA = (a.n : Int)) (l1 : List UInt8) (ka : ∀ w1, Rd p l w1 → Calls Tryd.prog 38 #[.pointer (some ⟨p, 0, none⟩)] w1 fun e w' => ∃ v, e = .returned (.agg #[.int .i64 KA, .int .i64 NA, v]) ∧ AdS w1.heap.size a v w' ∧ Rd p l1 w' ∧ Moved p w1 w') (hk0 : ¬ KA = 0) (t44 : ∀ w1, Rd p l1 w1 → Calls Tryd.prog 39 #[.pointer (some ⟨p, 0, none⟩), .int .u8 44] w1 fun e w' => e = .returned (.bool false) ∧ w' = w1) (lp : List UInt8) (hlp : lp = l1) (neg : Bool) (l5 : List UInt8) (t33 : ∀ w1, Rd p (blk lp) w1 → Calls Tryd.prog 39 #[.pointer (some ⟨p, 0, none⟩), .int .u8 33] w1 fun e w' => e = .returned (.bool neg) ∧ Rd p l5 w' ∧ Moved p w1 w') (x : Int) (kl : ∀ (w1 : World) (y2 y3 : Value), Rd p (blk l5) w1 → Cq (w.heap.size + 1) [.int .u8 0, .int .i64 KA, y2, y3, .int .i64 0, .int .i64 0, .slice none 0 0, .bool neg, .slice none 0 0, .slice none 0 0, .bool false, .bool false, .string ⟨#[]⟩] w1 → Calls Tryd.prog 41 #[.pointer (some ⟨p, 0, none⟩), .pointer (some ⟨w.heap.size + 1, 0, none⟩)] w1 fun e w' => e = errV x ∧ Below p w1 w') :
    Calls Tryd.prog 27 #[.pointer (some ⟨p, 0, none⟩)] w fun e w' => e = errV x ∧ Below p w w' := by
  subst hlp
  unfold errV at kl ⊢
  have hlt := h.lt
  have hr0 : Rd p l (W13 w) := h.below (W13.below w)
  have HB := Lib.hid ((W13.below w).mono (Nat.le_of_lt hlt))
  clear h
  have HW := Lib.hid (show W13 w = (w.alloc (.cells #[.int .u8 0, .int .i64 0, .int .i64 0, .slice none 0 0, .int .i64 0, .int .i64 0, .slice none 0 0, .bool false, .slice none 0 0, .slice none 0 0, .bool false, .bool false, .string ⟨#[]⟩] 36)).alloc (.cells #[.int .u8 0, .int .i64 0, .int .i64 0, .slice none 0 0, .int .i64 0, .int .i64 0, .slice none 0 0, .bool false, .slice none 0 0, .slice none 0 0, .bool false, .bool false, .string ⟨#[]⟩] 36) from rfl)
  have HK := Lib.hid (And.intro hKA hNA)
  clear hKA hNA
  go_enter Tryd.func27, Tryd.ntmps27
  go_wp2_with fail
  rw [← HW.out]
  go_wp2_with (first
      | (go_at_call 38; refine (ka _ hr0).mono ?_; rintro e w1 ⟨va, rfl, hs1, r1, m1⟩; obtain ⟨ao, N, cap, rfl⟩ := ads_slice hs1; have hc := (W13.c1 w).moved (by omega) m1; obtain ⟨c1, f1⟩ := hc.cell 1 rfl; obtain ⟨c2, f2⟩ := hc.cell 2 rfl; obtain ⟨c3, f3⟩ := hc.cell 3 rfl; have hc' := hc.put3 1 2 3 (.int .i64 KA) (.int .i64 NA) (.slice ao N cap); obtain ⟨i1, _⟩ := hc'.cell 1 rfl; have M1 := (m1.two (w.heap.size + 1)).trans (Moved2.set3 p (w.heap.size + 1) 1 2 3 (.int .i64 KA) (.int .i64 NA) (.slice ao N cap) w1 (by omega)); have hq1 : w.heap.size + 1 < (W13 w).heap.size := (by rw [W13.size]; omega); have hS1 := hs1.moved2 (by omega) hq1 (Moved2.set3 p (w.heap.size + 1) 1 2 3 (.int .i64 KA) (.int .i64 NA) (.slice ao N cap) w1 (by omega)); have hr1 := r1.put3 (q := w.heap.size + 1) (by omega) 1 2 3 (.int .i64 KA) (.int .i64 NA) (.slice ao N cap); have HC1 := Lib.hid hc'; have HM1 := Lib.hid M1; have HS1 := Lib.hid hS1; clear hc hc' M1 hS1 hs1 r1 m1 ka hr0)
      | (go_at_call 39; refine (t44 _ hr1).mono ?_; rintro e w2 ⟨rfl, hw2⟩; rw [hw2]; clear hw2 t44)
      | (go_at_call 40; refine (blanks_any p lp _ hr1).mono ?_; rintro e w4 ⟨rfl, r4, m4⟩; have hc4 := HC1.out.moved (by omega) m4; have HC4 := Lib.hid hc4; have hzz := W13.size w; have HS4 := Lib.hid (SS.moved (show SS (W13 w).heap.size a (.slice ao N cap) .none (.slice none 0 0) _ from ⟨HS1.out, rfl⟩) (by omega) m4); have HM4 := Lib.hid (HM1.out.trans (m4.two _)); have hr4 := r4; clear hc4 m4 r4 hr1)
      | (go_at_call 39; refine (t33 _ hr4).mono ?_; rintro e w5 ⟨rfl, r5, m5⟩; have hc5 := HC4.out.moved (by omega) m5; obtain ⟨c7, f7⟩ := hc5.cell 7 rfl; have HC5 := Lib.hid (hc5.put 7 (.bool neg)); have HM5 := Lib.hid (HM4.out.trans ((m5.two _).trans (.set p (w.heap.size + 1) 7 (.bool neg) w5 (by omega)))); have HS5 := Lib.hid ((HS4.out.moved (by omega) m5).moved2 (by omega) (by omega) (.set p (w.heap.size + 1) 7 (.bool neg) w5 (by omega))); have hr5 := r5.moved2 (q := w.heap.size + 1) (by omega) 7 (.bool neg); clear hc5 m5 r5 t33 hr4)
      | (go_at_call 40; refine (blanks_any p l5 _ hr5).mono ?_; rintro e w6 ⟨rfl, r6, m6⟩; have hc6 := HC5.out.moved (by omega) m6; have HM6 := Lib.hid (HM5.out.trans (m6.two _)); have HS6 := Lib.hid (HS5.out.moved (by omega) m6); have hr6 := r6; clear m6 r6 hr5)
      | (go_at_call 41; refine (kl _ _ _ hr6 hc6).mono ?_; rintro e w7 ⟨rfl, hb7⟩))
  exact ⟨rfl, rfl, HB.out.trans (HM6.out.low.trans hb7)⟩

set_option maxHeartbeats 8000000 in
set_option maxRecDepth 20000 in
theorem cmd_c_end (p : Nat) (l : List UInt8) (w : World) (h : Rd p l w) (a : Ad) (KA NA : Int) (hKA : KA = (a.k : Int)) (hNA : NA = (a.n : Int)) (l1 : List UInt8) (ka : ∀ w1, Rd p l w1 → Calls Tryd.prog 38 #[.pointer (some ⟨p, 0, none⟩)] w1 fun e w' => ∃ v, e = .returned (.agg #[.int .i64 KA, .int .i64 NA, v]) ∧ AdS w1.heap.size a v w' ∧ Rd p l1 w' ∧ Moved p w1 w') (hk0 : ¬ KA = 0) (t44 : ∀ w1, Rd p l1 w1 → Calls Tryd.prog 39 #[.pointer (some ⟨p, 0, none⟩), .int .u8 44] w1 fun e w' => e = .returned (.bool false) ∧ w' = w1) (lp : List UInt8) (hlp : lp = l1) (neg : Bool) (l5 : List UInt8) (t33 : ∀ w1, Rd p (blk lp) w1 → Calls Tryd.prog 39 #[.pointer (some ⟨p, 0, none⟩), .int .u8 33] w1 fun e w' => e = .returned (.bool neg) ∧ Rd p l5 w' ∧ Moved p w1 w') (c : Cm) (lr : List UInt8) (kl : ∀ (w1 : World) (y2 y3 : Value), Rd p (blk l5) w1 → Cq (w.heap.size + 1) [.int .u8 0, .int .i64 KA, y2, y3, .int .i64 0, .int .i64 0, .slice none 0 0, .bool neg, .slice none 0 0, .slice none 0 0, .bool false, .bool false, .string ⟨#[]⟩] w1 → Calls Tryd.prog 41 #[.pointer (some ⟨p, 0, none⟩), .pointer (some ⟨w.heap.size + 1, 0, none⟩)] w1 fun e w' => e = .returned (.tuple #[]) ∧ ∃ v u, Rd p lr w' ∧ Cq (w.heap.size + 1) [.int .u8 (c.op.toNat : Int), .int .i64 KA, y2, y3, .int .i64 0, .int .i64 0, .slice none 0 0, .bool neg, v, u, .bool c.all, .bool c.prt, .string ⟨c.label.toArray⟩] w' ∧ ReS w1.heap.size c.re v w' ∧ PutS w1.heap.size c.put u w' ∧ Moved2 p (w.heap.size + 1) w1 w') (he : endedB (blk lr) = false) :
    Calls Tryd.prog 27 #[.pointer (some ⟨p, 0, none⟩)] w fun e w' => e = errV 9 ∧ Below p w w' := by
  subst hlp
  unfold errV
  have hlt := h.lt
  have hr0 : Rd p l (W13 w) := h.below (W13.below w)
  have HB := Lib.hid ((W13.below w).mono (Nat.le_of_lt hlt))
  clear h
  have HW := Lib.hid (show W13 w = (w.alloc (.cells #[.int .u8 0, .int .i64 0, .int .i64 0, .slice none 0 0, .int .i64 0, .int .i64 0, .slice none 0 0, .bool false, .slice none 0 0, .slice none 0 0, .bool false, .bool false, .string ⟨#[]⟩] 36)).alloc (.cells #[.int .u8 0, .int .i64 0, .int .i64 0, .slice none 0 0, .int .i64 0, .int .i64 0, .slice none 0 0, .bool false, .slice none 0 0, .slice none 0 0, .bool false, .bool false, .string ⟨#[]⟩] 36) from rfl)
  have HK := Lib.hid (And.intro hKA hNA)
  clear hKA hNA
  go_enter Tryd.func27, Tryd.ntmps27
  go_wp2_with fail
  rw [← HW.out]
  go_wp2_with (first
      | (go_at_call 38; refine (ka _ hr0).mono ?_; rintro e w1 ⟨va, rfl, hs1, r1, m1⟩; obtain ⟨ao, N, cap, rfl⟩ := ads_slice hs1; have hc := (W13.c1 w).moved (by omega) m1; obtain ⟨c1, f1⟩ := hc.cell 1 rfl; obtain ⟨c2, f2⟩ := hc.cell 2 rfl; obtain ⟨c3, f3⟩ := hc.cell 3 rfl; have hc' := hc.put3 1 2 3 (.int .i64 KA) (.int .i64 NA) (.slice ao N cap); obtain ⟨i1, _⟩ := hc'.cell 1 rfl; have M1 := (m1.two (w.heap.size + 1)).trans (Moved2.set3 p (w.heap.size + 1) 1 2 3 (.int .i64 KA) (.int .i64 NA) (.slice ao N cap) w1 (by omega)); have hq1 : w.heap.size + 1 < (W13 w).heap.size := (by rw [W13.size]; omega); have hS1 := hs1.moved2 (by omega) hq1 (Moved2.set3 p (w.heap.size + 1) 1 2 3 (.int .i64 KA) (.int .i64 NA) (.slice ao N cap) w1 (by omega)); have hr1 := r1.put3 (q := w.heap.size + 1) (by omega) 1 2 3 (.int .i64 KA) (.int .i64 NA) (.slice ao N cap); have HC1 := Lib.hid hc'; have HM1 := Lib.hid M1; have HS1 := Lib.hid hS1; clear hc hc' M1 hS1 hs1 r1 m1 ka hr0)
      | (go_at_call 39; refine (t44 _ hr1).mono ?_; rintro e w2 ⟨rfl, hw2⟩; rw [hw2]; clear hw2 t44)
      | (go_at_call 40; refine (blanks_any p lp _ hr1).mono ?_; rintro e w4 ⟨rfl, r4, m4⟩; have hc4 := HC1.out.moved (by omega) m4; have HC4 := Lib.hid hc4; have hzz := W13.size w; have HS4 := Lib.hid (SS.moved (show SS (W13 w).heap.size a (.slice ao N cap) .none (.slice none 0 0) _ from ⟨HS1.out, rfl⟩) (by omega) m4); have HM4 := Lib.hid (HM1.out.trans (m4.two _)); have hr4 := r4; clear hc4 m4 r4 hr1)
      | (go_at_call 39; refine (t33 _ hr4).mono ?_; rintro e w5 ⟨rfl, r5, m5⟩; have hc5 := HC4.out.moved (by omega) m5; obtain ⟨c7, f7⟩ := hc5.cell 7 rfl; have HC5 := Lib.hid (hc5.put 7 (.bool neg)); have HM5 := Lib.hid (HM4.out.trans ((m5.two _).trans (.set p (w.heap.size + 1) 7 (.bool neg) w5 (by omega)))); have HS5 := Lib.hid ((HS4.out.moved (by omega) m5).moved2 (by omega) (by omega) (.set p (w.heap.size + 1) 7 (.bool neg) w5 (by omega))); have hr5 := r5.moved2 (q := w.heap.size + 1) (by omega) 7 (.bool neg); clear hc5 m5 r5 t33 hr4)
      | (go_at_call 40; refine (blanks_any p l5 _ hr5).mono ?_; rintro e w6 ⟨rfl, r6, m6⟩; have hc6 := HC5.out.moved (by omega) m6; have HM6 := Lib.hid (HM5.out.trans (m6.two _)); have HS6 := Lib.hid (HS5.out.moved (by omega) m6); have hr6 := r6; clear m6 r6 hr5)
      | (go_at_call 41; refine (kl _ _ _ hr6 hc6).mono ?_; rintro e w7 ⟨rfl, v, u, r7, hc7, hre, hpu, m7⟩; obtain ⟨vo, vn, vc, rfl⟩ := res_slice hre; obtain ⟨uo, uc, rfl⟩ := own_zeroB hpu; have HC7 := Lib.hid hc7; have HM7 := Lib.hid (HM6.out.trans m7); have HL7 := Lib.hid (And.intro hre (And.intro hpu m7)); have hz6 : (W13 w).heap.size ≤ w6.heap.size := HM6.out.low.size; have HS7 := Lib.hid (HS6.out.moved2 (by omega) (by omega) m7); have hr7 := r7; clear hc7 hre hpu m7 r7 kl hr6 hc6)
      | (go_at_call 40; refine (blanks_any p lr _ hr7).mono ?_; rintro e w8 ⟨rfl, r8, m8⟩; have hc8 := HC7.out.moved (by omega) m8; have HM8 := Lib.hid (HM7.out.trans (m8.two _)); have hg8 : Cq w.heap.size zeroC w8 := (HM8.out.high _ (by omega) (by omega) (by rw [W13.size]; omega)).trans (W13.c0 w); obtain ⟨a0, a1, a2, a3, a4, a5, a6, a7, a8, a9, a10, a11, a12⟩ := cells13 hc8; obtain ⟨b0, b1, b2, b3, b4, b5, b6, b7, b8, b9, b10, b11, b12⟩ := cells13 hg8; obtain ⟨z0, z1, z2, z3, z4, z5, z6, z7, z8, z9, z10, z11, z12⟩ := frozen13 hg8; have HG8 := Lib.hid hg8; have HW8 := Lib.hid m8; have HS8 := Lib.hid (HS7.out.moved (by omega) m8); have hr8 := r8; clear hc8 m8 r8 hg8 hr7)
      | (go_at_call 42; refine (ended_any p (blk lr) _ hr8).mono ?_; rintro e w9 ⟨rfl, hw9⟩; rw [hw9]; clear hw9))
  exact ⟨rfl, rfl, HB.out.trans HM8.out.low⟩

set_option maxHeartbeats 8000000 in
set_option maxRecDepth 20000 in
theorem cmd_c_ok (p : Nat) (l : List UInt8) (w : World) (h : Rd p l w) (a : Ad) (KA NA : Int) (hKA : KA = (a.k : Int)) (hNA : NA = (a.n : Int)) (l1 : List UInt8) (ka : ∀ w1, Rd p l w1 → Calls Tryd.prog 38 #[.pointer (some ⟨p, 0, none⟩)] w1 fun e w' => ∃ v, e = .returned (.agg #[.int .i64 KA, .int .i64 NA, v]) ∧ AdS w1.heap.size a v w' ∧ Rd p l1 w' ∧ Moved p w1 w') (hk0 : ¬ KA = 0) (t44 : ∀ w1, Rd p l1 w1 → Calls Tryd.prog 39 #[.pointer (some ⟨p, 0, none⟩), .int .u8 44] w1 fun e w' => e = .returned (.bool false) ∧ w' = w1) (lp : List UInt8) (hlp : lp = l1) (neg : Bool) (l5 : List UInt8) (t33 : ∀ w1, Rd p (blk lp) w1 → Calls Tryd.prog 39 #[.pointer (some ⟨p, 0, none⟩), .int .u8 33] w1 fun e w' => e = .returned (.bool neg) ∧ Rd p l5 w' ∧ Moved p w1 w') (c : Cm) (lr : List UInt8) (kl : ∀ (w1 : World) (y2 y3 : Value), Rd p (blk l5) w1 → Cq (w.heap.size + 1) [.int .u8 0, .int .i64 KA, y2, y3, .int .i64 0, .int .i64 0, .slice none 0 0, .bool neg, .slice none 0 0, .slice none 0 0, .bool false, .bool false, .string ⟨#[]⟩] w1 → Calls Tryd.prog 41 #[.pointer (some ⟨p, 0, none⟩), .pointer (some ⟨w.heap.size + 1, 0, none⟩)] w1 fun e w' => e = .returned (.tuple #[]) ∧ ∃ v u, Rd p lr w' ∧ Cq (w.heap.size + 1) [.int .u8 (c.op.toNat : Int), .int .i64 KA, y2, y3, .int .i64 0, .int .i64 0, .slice none 0 0, .bool neg, v, u, .bool c.all, .bool c.prt, .string ⟨c.label.toArray⟩] w' ∧ ReS w1.heap.size c.re v w' ∧ PutS w1.heap.size c.put u w' ∧ Moved2 p (w.heap.size + 1) w1 w') (he : endedB (blk lr) = true) (hneg : c.neg = neg) (hca : c.a = a) (hcb : c.b = .none) :
    Calls Tryd.prog 27 #[.pointer (some ⟨p, 0, none⟩)] w fun e w' => ∃ xs, e = .returned (.agg ⟨xs⟩) ∧ CmS w.heap.size c xs w' ∧ Rd p (blk lr) w' ∧ Moved p w w' := by
  subst hlp
  have hlt := h.lt
  have hr0 : Rd p l (W13 w) := h.below (W13.below w)
  have HB := Lib.hid ((W13.below w).mono (Nat.le_of_lt hlt))
  clear h
  have HW := Lib.hid (show W13 w = (w.alloc (.cells #[.int .u8 0, .int .i64 0, .int .i64 0, .slice none 0 0, .int .i64 0, .int .i64 0, .slice none 0 0, .bool false, .slice none 0 0, .slice none 0 0, .bool false, .bool false, .string ⟨#[]⟩] 36)).alloc (.cells #[.int .u8 0, .int .i64 0, .int .i64 0, .slice none 0 0, .int .i64 0, .int .i64 0, .slice none 0 0, .bool false, .slice none 0 0, .slice none 0 0, .bool false, .bool false, .string ⟨#[]⟩] 36) from rfl)
  have HK := Lib.hid (And.intro hKA hNA)
  clear hKA hNA
  go_enter Tryd.func27, Tryd.ntmps27
  go_wp2_with fail
  rw [← HW.out]
  go_wp2_with (first
      | (go_at_call 38; refine (ka _ hr0).mono ?_; rintro e w1 ⟨va, rfl, hs1, r1, m1⟩; obtain ⟨ao, N, cap, rfl⟩ := ads_slice hs1; have hc := (W13.c1 w).moved (by omega) m1; obtain ⟨c1, f1⟩ := hc.cell 1 rfl; obtain ⟨c2, f2⟩ := hc.cell 2 rfl; obtain ⟨c3, f3⟩ := hc.cell 3 rfl; have hc' := hc.put3 1 2 3 (.int .i64 KA) (.int .i64 NA) (.slice ao N cap); obtain ⟨i1, _⟩ := hc'.cell 1 rfl; have M1 := (m1.two (w.heap.size + 1)).trans (Moved2.set3 p (w.heap.size + 1) 1 2 3 (.int .i64 KA) (.int .i64 NA) (.slice ao N cap) w1 (by omega)); have hq1 : w.heap.size + 1 < (W13 w).heap.size := (by rw [W13.size]; omega); have hS1 := hs1.moved2 (by omega) hq1 (Moved2.set3 p (w.heap.size + 1) 1 2 3 (.int .i64 KA) (.int .i64 NA) (.slice ao N cap) w1 (by omega)); have hr1 := r1.put3 (q := w.heap.size + 1) (by omega) 1 2 3 (.int .i64 KA) (.int .i64 NA) (.slice ao N cap); have HC1 := Lib.hid hc'; have HM1 := Lib.hid M1; have HS1 := Lib.hid hS1; clear hc hc' M1 hS1 hs1 r1 m1 ka hr0)
      | (go_at_call 39; refine (t44 _ hr1).mono ?_; rintro e w2 ⟨rfl, hw2⟩; rw [hw2]; clear hw2 t44)
      | (go_at_call 40; refine (blanks_any p lp _ hr1).mono ?_; rintro e w4 ⟨rfl, r4, m4⟩; have hc4 := HC1.out.moved (by omega) m4; have HC4 := Lib.hid hc4; have hzz := W13.size w; have HS4 := Lib.hid (SS.moved (show SS (W13 w).heap.size a (.slice ao N cap) .none (.slice none 0 0) _ from ⟨HS1.out, rfl⟩) (by omega) m4); have HM4 := Lib.hid (HM1.out.trans (m4.two _)); have hr4 := r4; clear hc4 m4 r4 hr1)
      | (go_at_call 39; refine (t33 _ hr4).mono ?_; rintro e w5 ⟨rfl, r5, m5⟩; have hc5 := HC4.out.moved (by omega) m5; obtain ⟨c7, f7⟩ := hc5.cell 7 rfl; have HC5 := Lib.hid (hc5.put 7 (.bool neg)); have HM5 := Lib.hid (HM4.out.trans ((m5.two _).trans (.set p (w.heap.size + 1) 7 (.bool neg) w5 (by omega)))); have HS5 := Lib.hid ((HS4.out.moved (by omega) m5).moved2 (by omega) (by omega) (.set p (w.heap.size + 1) 7 (.bool neg) w5 (by omega))); have hr5 := r5.moved2 (q := w.heap.size + 1) (by omega) 7 (.bool neg); clear hc5 m5 r5 t33 hr4)
      | (go_at_call 40; refine (blanks_any p l5 _ hr5).mono ?_; rintro e w6 ⟨rfl, r6, m6⟩; have hc6 := HC5.out.moved (by omega) m6; have HM6 := Lib.hid (HM5.out.trans (m6.two _)); have HS6 := Lib.hid (HS5.out.moved (by omega) m6); have hr6 := r6; clear m6 r6 hr5)
      | (go_at_call 41; refine (kl _ _ _ hr6 hc6).mono ?_; rintro e w7 ⟨rfl, v, u, r7, hc7, hre, hpu, m7⟩; obtain ⟨vo, vn, vc, rfl⟩ := res_slice hre; obtain ⟨uo, uc, rfl⟩ := own_zeroB hpu; have HC7 := Lib.hid hc7; have HM7 := Lib.hid (HM6.out.trans m7); have HL7 := Lib.hid (And.intro hre (And.intro hpu m7)); have hz6 : (W13 w).heap.size ≤ w6.heap.size := HM6.out.low.size; have HS7 := Lib.hid (HS6.out.moved2 (by omega) (by omega) m7); have hr7 := r7; clear hc7 hre hpu m7 r7 kl hr6 hc6)
      | (go_at_call 40; refine (blanks_any p lr _ hr7).mono ?_; rintro e w8 ⟨rfl, r8, m8⟩; have hc8 := HC7.out.moved (by omega) m8; have HM8 := Lib.hid (HM7.out.trans (m8.two _)); have hg8 : Cq w.heap.size zeroC w8 := (HM8.out.high _ (by omega) (by omega) (by rw [W13.size]; omega)).trans (W13.c0 w); obtain ⟨a0, a1, a2, a3, a4, a5, a6, a7, a8, a9, a10, a11, a12⟩ := cells13 hc8; obtain ⟨b0, b1, b2, b3, b4, b5, b6, b7, b8, b9, b10, b11, b12⟩ := cells13 hg8; obtain ⟨z0, z1, z2, z3, z4, z5, z6, z7, z8, z9, z10, z11, z12⟩ := frozen13 hg8; have HG8 := Lib.hid hg8; have HW8 := Lib.hid m8; have HS8 := Lib.hid (HS7.out.moved (by omega) m8); have hr8 := r8; clear hc8 m8 r8 hg8 hr7)
      | (go_at_call 42; refine (ended_any p (blk lr) _ hr8).mono ?_; rintro e w9 ⟨rfl, hw9⟩; rw [hw9]; clear hw9))
  have hc9 := put13_cells rfl HG8.out (.int .u8 (c.op.toNat : Int)) (.int .i64 KA) (.int .i64 NA) (.slice ao N cap) (.int .i64 0) (.int .i64 0) (.slice none 0 0) (.bool neg) (.slice vo vn vc) (.slice uo c.put.length uc) (.bool c.all) (.bool c.prt) (.string ⟨c.label.toArray⟩)
  have ho9 := fun r (hr : r ≠ w.heap.size) => put13_other hr w8 (.int .u8 (c.op.toNat : Int)) (.int .i64 KA) (.int .i64 NA) (.slice ao N cap) (.int .i64 0) (.int .i64 0) (.slice none 0 0) (.bool neg) (.slice vo vn vc) (.slice uo c.put.length uc) (.bool c.all) (.bool c.prt) (.string ⟨c.label.toArray⟩)
  have hb9 := put13_below (q := w.heap.size) (HB.out.trans HM8.out.low) (Nat.le_of_lt hlt) (.int .u8 (c.op.toNat : Int)) (.int .i64 KA) (.int .i64 NA) (.slice ao N cap) (.int .i64 0) (.int .i64 0) (.slice none 0 0) (.bool neg) (.slice vo vn vc) (.slice uo c.put.length uc) (.bool c.all) (.bool c.prt) (.string ⟨c.label.toArray⟩)
  have hsz := W13.size w
  have hm : Moved2 p w.heap.size w8 (put13 w8 w.heap.size (.int .u8 (c.op.toNat : Int)) (.int .i64 KA) (.int .i64 NA) (.slice ao N cap) (.int .i64 0) (.int .i64 0) (.slice none 0 0) (.bool neg) (.slice vo vn vc) (.slice uo c.put.length uc) (.bool c.all) (.bool c.prt) (.string ⟨c.label.toArray⟩)) := ⟨put13_below (Below.refl _ _) (Nat.le_of_lt hlt) (.int .u8 (c.op.toNat : Int)) (.int .i64 KA) (.int .i64 NA) (.slice ao N cap) (.int .i64 0) (.int .i64 0) (.slice none 0 0) (.bool neg) (.slice vo vn vc) (.slice uo c.put.length uc) (.bool c.all) (.bool c.prt) (.string ⟨c.label.toArray⟩), fun r _ hr _ => ho9 r hr⟩
  have hq6 : w.heap.size + 1 < w6.heap.size := by omega
  obtain ⟨g1, g2⟩ := HS8.out.moved2 (by omega) (by omega) hm
  have g3 := ((HL7.out.1.base (B' := (W13 w).heap.size) hz6).moved2 (by omega) (by omega) (HW8.out.two (w.heap.size + 1))).moved2 (by omega) (by omega) hm
  have g4 := owns_moved2 (owns_moved2 (owns_base HL7.out.2.1 (B' := (W13 w).heap.size) hz6) (by omega) (by omega) (HW8.out.two (w.heap.size + 1))) (by omega) (by omega) hm
  obtain ⟨hKA, hNA⟩ := HK.out
  have hX : CmS w.heap.size c [.int .u8 (c.op.toNat : Int), .int .i64 KA, .int .i64 NA, .slice ao N cap, .int .i64 0, .int .i64 0, .slice none 0 0, .bool neg, .slice vo vn vc, .slice uo c.put.length uc, .bool c.all, .bool c.prt, .string ⟨c.label.toArray⟩] (put13 w8 w.heap.size (.int .u8 (c.op.toNat : Int)) (.int .i64 KA) (.int .i64 NA) (.slice ao N cap) (.int .i64 0) (.int .i64 0) (.slice none 0 0) (.bool neg) (.slice vo vn vc) (.slice uo c.put.length uc) (.bool c.all) (.bool c.prt) (.string ⟨c.label.toArray⟩)) :=
    ⟨.slice ao N cap, .slice none 0 0, .slice vo vn vc, .slice uo c.put.length uc, by rw [hneg, hca, hcb, ← hKA, ← hNA]; try rfl, by rw [hca]; exact g1.base (by omega), by rw [hcb]; exact g2.base (by omega), g3.base (by omega), owns_base g4 (by omega)⟩
  exact bodyPost_ret (v := .agg _) (results_cell_row (p := 2) (ty := 36) Tryd.results27 _ _ w.heap.size 36 _ (0, 0) _ rfl hc9 Tryd.underlying36 rfl Tryd.infoCmd) rfl
    ⟨_, rfl, hX, (ho9 p (by omega)).trans hr8, hb9, fun g hg hs => (ho9 g (by omega)).trans ((HM8.out.high g hg (by omega) (by omega)).trans ((W13.below w).block g hs))⟩
end Go.Proofs.YtgceckejchdnlaaDoor
namespace Go.Proofs.YtgceckejchdnlaaDoor
open Go.RowKit Go.Lib
set_option maxHeartbeats 8000000 in
set_option maxRecDepth 20000 in
theorem cmd_s_none (p : Nat) (l : List UInt8) (w : World) (h : Rd p l w) (a : Ad) (KA NA : Int) (hKA : KA = (a.k : Int)) (hNA : NA = (a.n : Int)) (l1 : List UInt8) (ka : ∀ w1, Rd p l w1 → Calls Tryd.prog 38 #[.pointer (some ⟨p, 0, none⟩)] w1 fun e w' => ∃ v, e = .returned (.agg #[.int .i64 KA, .int .i64 NA, v]) ∧ AdS w1.heap.size a v w' ∧ Rd p l1 w' ∧ Moved p w1 w') (lp : List UInt8) (b : Ad) (KB NB : Int) (hKB : KB = (b.k : Int)) (hNB : NB = (b.n : Int)) (kb : ∀ w1, Rd p l1.tail w1 → Calls Tryd.prog 38 #[.pointer (some ⟨p, 0, none⟩)] w1 fun e w' => ∃ v, e = .returned (.agg #[.int .i64 KB, .int .i64 NB, v]) ∧ AdS w1.heap.size b v w' ∧ Rd p lp w' ∧ Moved p w1 w') (hk0 : ¬ KA = 0) (t44 : ∀ w1, Rd p l1 w1 → Calls Tryd.prog 39 #[.pointer (some ⟨p, 0, none⟩), .int .u8 44] w1 fun e w' => e = .returned (.bool true) ∧ Rd p l1.tail w' ∧ Moved p w1 w') (hkb : KB = 0) :
    Calls Tryd.prog 27 #[.pointer (some ⟨p, 0, none⟩)] w fun e w' => e = errV 9 ∧ Below p w w' := by
  have HKB := Lib.hid (And.intro hKB hNB)
  clear hKB hNB
  subst hkb
  unfold errV
  have hlt := h.lt
  have hr0 : Rd p l (W13 w) := h.below (W13.below w)
  have HB := Lib.hid ((W13.below w).mono (Nat.le_of_lt hlt))
  clear h
  have HW := Lib.hid (show W13 w = (w.alloc (.cells #[.int .u8 0, .int .i64 0, .int .i64 0, .slice none 0 0, .int .i64 0, .int .i64 0, .slice none 0 0, .bool false, .slice none 0 0, .slice none 0 0, .bool false, .bool false, .string ⟨#[]⟩] 36)).alloc (.cells #[.int .u8 0, .int .i64 0, .int .i64 0, .slice none 0 0, .int .i64 0, .int .i64 0, .slice none 0 0, .bool false, .slice none 0 0, .slice none 0 0, .bool false, .bool false, .string ⟨#[]⟩] 36) from rfl)
  have HK := Lib.hid (And.intro hKA hNA)
  clear hKA hNA
  go_enter Tryd.func27, Tryd.ntmps27
  go_wp2_with fail
  rw [← HW.out]
  go_wp2_with (first
      | (go_at_call 38; refine (ka _ hr0).mono ?_; rintro e w1 ⟨va, rfl, hs1, r1, m1⟩; obtain ⟨ao, N, cap, rfl⟩ := ads_slice hs1; have hc := (W13.c1 w).moved (by omega) m1; obtain ⟨c1, f1⟩ := hc.cell 1 rfl; obtain ⟨c2, f2⟩ := hc.cell 2 rfl; obtain ⟨c3, f3⟩ := hc.cell 3 rfl; have hc' := hc.put3 1 2 3 (.int .i64 KA) (.int .i64 NA) (.slice ao N cap); obtain ⟨i1, _⟩ := hc'.cell 1 rfl; have M1 := (m1.two (w.heap.size + 1)).trans (Moved2.set3 p (w.heap.size + 1) 1 2 3 (.int .i64 KA) (.int .i64 NA) (.slice ao N cap) w1 (by omega)); have hq1 : w.heap.size + 1 < (W13 w).heap.size := (by rw [W13.size]; omega); have hS1 := hs1.moved2 (by omega) hq1 (Moved2.set3 p (w.heap.size + 1) 1 2 3 (.int .i64 KA) (.int .i64 NA) (.slice ao N cap) w1 (by omega)); have hr1 := r1.put3 (q := w.heap.size + 1) (by omega) 1 2 3 (.int .i64 KA) (.int .i64 NA) (.slice ao N cap); have HC1 := Lib.hid hc'; have HM1 := Lib.hid M1; have HS1 := Lib.hid hS1; clear hc hc' M1 hS1 hs1 r1 m1 ka hr0)
      | (go_at_call 39; refine (t44 _ hr1).mono ?_; rintro e w2 ⟨rfl, r2, m2⟩; have hc2 := HC1.out.moved (by omega) m2; have HC2 := Lib.hid hc2; have HM2 := Lib.hid (HM1.out.trans (m2.two _)); have HS2 := Lib.hid (HS1.out.moved (by omega) m2); have hr2 := r2; clear hc2 m2 r2 t44 hr1)
      | (go_at_call 38; refine (kb _ hr2).mono ?_; rintro e w3 ⟨vb, rfl, hs3, r3, m3⟩; obtain ⟨bo, NB2, capb, rfl⟩ := ads_slice hs3; have hc := HC2.out.moved (by omega) m3; obtain ⟨c4, f4⟩ := hc.cell 4 rfl; obtain ⟨c5, f5⟩ := hc.cell 5 rfl; obtain ⟨c6, f6⟩ := hc.cell 6 rfl; have hc' := hc.put3 4 5 6 (.int .i64 0) (.int .i64 NB) (.slice bo NB2 capb); obtain ⟨i4, _⟩ := hc'.cell 4 rfl; have hz2 : (W13 w).heap.size ≤ w2.heap.size := HM2.out.low.size; have hS3 := (hs3.base hz2).moved2 (by omega) (by rw [W13.size]; omega) (Moved2.set3 p (w.heap.size + 1) 4 5 6 (.int .i64 0) (.int .i64 NB) (.slice bo NB2 capb) w3 (by omega)); have HS3 := Lib.hid (And.intro ((HS2.out.moved (by omega) m3).moved2 (by omega) (by rw [W13.size]; omega) (Moved2.set3 p (w.heap.size + 1) 4 5 6 (.int .i64 0) (.int .i64 NB) (.slice bo NB2 capb) w3 (by omega))) hS3); have HM3 := Lib.hid (HM2.out.trans ((m3.two _).trans (Moved2.set3 p (w.heap.size + 1) 4 5 6 (.int .i64 0) (.int .i64 NB) (.slice bo NB2 capb) w3 (by omega)))); have hr3 := r3.put3 (q := w.heap.size + 1) (by omega) 4 5 6 (.int .i64 0) (.int .i64 NB) (.slice bo NB2 capb); have HC3 := Lib.hid hc'; clear hc hc' hS3 hs3 r3 m3 kb hr2))
  exact ⟨rfl, rfl, HB.out.trans HM3.out.low⟩

set_option maxHeartbeats 8000000 in
set_option maxRecDepth 20000 in
theorem cmd_s_bad (p : Nat) (l : List UInt8) (w : World) (h : Rd p l w) (a : Ad) (KA NA : Int) (hKA : KA = (a.k : Int)) (hNA : NA = (a.n : Int)) (l1 : List UInt8) (ka : ∀ w1, Rd p l w1 → Calls Tryd.prog 38 #[.pointer (some ⟨p, 0, none⟩)] w1 fun e w' => ∃ v, e = .returned (.agg #[.int .i64 KA, .int .i64 NA, v]) ∧ AdS w1.heap.size a v w' ∧ Rd p l1 w' ∧ Moved p w1 w') (lp : List UInt8) (b : Ad) (KB NB : Int) (hKB : KB = (b.k : Int)) (hNB : NB = (b.n : Int)) (kb : ∀ w1, Rd p l1.tail w1 → Calls Tryd.prog 38 #[.pointer (some ⟨p, 0, none⟩)] w1 fun e w' => ∃ v, e = .returned (.agg #[.int .i64 KB, .int .i64 NB, v]) ∧ AdS w1.heap.size b v w' ∧ Rd p lp w' ∧ Moved p w1 w') (hk0 : ¬ KA = 0) (t44 : ∀ w1, Rd p l1 w1 → Calls Tryd.prog 39 #[.pointer (some ⟨p, 0, none⟩), .int .u8 44] w1 fun e w' => e = .returned (.bool true) ∧ Rd p l1.tail w' ∧ Moved p w1 w') (hkb : ¬ KB = 0) (neg : Bool) (l5 : List UInt8) (t33 : ∀ w1, Rd p (blk lp) w1 → Calls Tryd.prog 39 #[.pointer (some ⟨p, 0, none⟩), .int .u8 33] w1 fun e w' => e = .returned (.bool neg) ∧ Rd p l5 w' ∧ Moved p w1 w') (x : Int) (kl : ∀ (w1 : World) (y2 y3 y5 y6 : Value), Rd p (blk l5) w1 → Cq (w.heap.size + 1) [.int .u8 0, .int .i64 KA, y2, y3, .int .i64 KB, y5, y6, .bool neg, .slice none 0 0, .slice none 0 0, .bool false, .bool false, .string ⟨#[]⟩] w1 → Calls Tryd.prog 41 #[.pointer (some ⟨p, 0, none⟩), .pointer (some ⟨w.heap.size + 1, 0, none⟩)] w1 fun e w' => e = errV x ∧ Below p w1 w') :
    Calls Tryd.prog 27 #[.pointer (some ⟨p, 0, none⟩)] w fun e w' => e = errV x ∧ Below p w w' := by
  have HKB := Lib.hid (And.intro hKB hNB)
  clear hKB hNB
  unfold errV at kl ⊢
  have hlt := h.lt
  have hr0 : Rd p l (W13 w) := h.below (W13.below w)
  have HB := Lib.hid ((W13.below w).mono (Nat.le_of_lt hlt))
  clear h
  have HW := Lib.hid (show W13 w = (w.alloc (.cells #[.int .u8 0, .int .i64 0, .int .i64 0, .slice none 0 0, .int .i64 0, .int .i64 0, .slice none 0 0, .bool false, .slice none 0 0, .slice none 0 0, .bool false, .bool false, .string ⟨#[]⟩] 36)).alloc (.cells #[.int .u8 0, .int .i64 0, .int .i64 0, .slice none 0 0, .int .i64 0, .int .i64 0, .slice none 0 0, .bool false, .slice none 0 0, .slice none 0 0, .bool false, .bool false, .string ⟨#[]⟩] 36) from rfl)
  have HK := Lib.hid (And.intro hKA hNA)
  clear hKA hNA
  go_enter Tryd.func27, Tryd.ntmps27
  go_wp2_with fail
  rw [← HW.out]
  go_wp2_with (first
      | (go_at_call 38; refine (ka _ hr0).mono ?_; rintro e w1 ⟨va, rfl, hs1, r1, m1⟩; obtain ⟨ao, N, cap, rfl⟩ := ads_slice hs1; have hc := (W13.c1 w).moved (by omega) m1; obtain ⟨c1, f1⟩ := hc.cell 1 rfl; obtain ⟨c2, f2⟩ := hc.cell 2 rfl; obtain ⟨c3, f3⟩ := hc.cell 3 rfl; have hc' := hc.put3 1 2 3 (.int .i64 KA) (.int .i64 NA) (.slice ao N cap); obtain ⟨i1, _⟩ := hc'.cell 1 rfl; have M1 := (m1.two (w.heap.size + 1)).trans (Moved2.set3 p (w.heap.size + 1) 1 2 3 (.int .i64 KA) (.int .i64 NA) (.slice ao N cap) w1 (by omega)); have hq1 : w.heap.size + 1 < (W13 w).heap.size := (by rw [W13.size]; omega); have hS1 := hs1.moved2 (by omega) hq1 (Moved2.set3 p (w.heap.size + 1) 1 2 3 (.int .i64 KA) (.int .i64 NA) (.slice ao N cap) w1 (by omega)); have hr1 := r1.put3 (q := w.heap.size + 1) (by omega) 1 2 3 (.int .i64 KA) (.int .i64 NA) (.slice ao N cap); have HC1 := Lib.hid hc'; have HM1 := Lib.hid M1; have HS1 := Lib.hid hS1; clear hc hc' M1 hS1 hs1 r1 m1 ka hr0)
      | (go_at_call 39; refine (t44 _ hr1).mono ?_; rintro e w2 ⟨rfl, r2, m2⟩; have hc2 := HC1.out.moved (by omega) m2; have HC2 := Lib.hid hc2; have HM2 := Lib.hid (HM1.out.trans (m2.two _)); have HS2 := Lib.hid (HS1.out.moved (by omega) m2); have hr2 := r2; clear hc2 m2 r2 t44 hr1)
      | (go_at_call 38; refine (kb _ hr2).mono ?_; rintro e w3 ⟨vb, rfl, hs3, r3, m3⟩; obtain ⟨bo, NB2, capb, rfl⟩ := ads_slice hs3; have hc := HC2.out.moved (by omega) m3; obtain ⟨c4, f4⟩ := hc.cell 4 rfl; obtain ⟨c5, f5⟩ := hc.cell 5 rfl; obtain ⟨c6, f6⟩ := hc.cell 6 rfl; have hc' := hc.put3 4 5 6 (.int .i64 KB) (.int .i64 NB) (.slice bo NB2 capb); obtain ⟨i4, _⟩ := hc'.cell 4 rfl; have hz2 : (W13 w).heap.size ≤ w2.heap.size := HM2.out.low.size; have hS3 := (hs3.base hz2).moved2 (by omega) (by rw [W13.size]; omega) (Moved2.set3 p (w.heap.size + 1) 4 5 6 (.int .i64 KB) (.int .i64 NB) (.slice bo NB2 capb) w3 (by omega)); have HS3 := Lib.hid (And.intro ((HS2.out.moved (by omega) m3).moved2 (by omega) (by rw [W13.size]; omega) (Moved2.set3 p (w.heap.size + 1) 4 5 6 (.int .i64 KB) (.int .i64 NB) (.slice bo NB2 capb) w3 (by omega))) hS3); have HM3 := Lib.hid (HM2.out.trans ((m3.two _).trans (Moved2.set3 p (w.heap.size + 1) 4 5 6 (.int .i64 KB) (.int .i64 NB) (.slice bo NB2 capb) w3 (by omega)))); have hr3 := r3.put3 (q := w.heap.size + 1) (by omega) 4 5 6 (.int .i64 KB) (.int .i64 NB) (.slice bo NB2 capb); have HC3 := Lib.hid hc'; clear hc hc' hS3 hs3 r3 m3 kb hr2)
      | (go_at_call 40; refine (blanks_any p lp _ hr3).mono ?_; rintro e w4 ⟨rfl, r4, m4⟩; have hc4 := HC3.out.moved (by omega) m4; have HC4 := Lib.hid hc4; have hzz := W13.size w; have HS4 := Lib.hid (SS.moved (show SS (W13 w).heap.size a (.slice ao N cap) b (.slice bo NB2 capb) _ from HS3.out) (by omega) m4); have HM4 := Lib.hid (HM3.out.trans (m4.two _)); have hr4 := r4; clear hc4 m4 r4 hr3)
      | (go_at_call 39; refine (t33 _ hr4).mono ?_; rintro e w5 ⟨rfl, r5, m5⟩; have hc5 := HC4.out.moved (by omega) m5; obtain ⟨c7, f7⟩ := hc5.cell 7 rfl; have HC5 := Lib.hid (hc5.put 7 (.bool neg)); have HM5 := Lib.hid (HM4.out.trans ((m5.two _).trans (.set p (w.heap.size + 1) 7 (.bool neg) w5 (by omega)))); have HS5 := Lib.hid ((HS4.out.moved (by omega) m5).moved2 (by omega) (by omega) (.set p (w.heap.size + 1) 7 (.bool neg) w5 (by omega))); have hr5 := r5.moved2 (q := w.heap.size + 1) (by omega) 7 (.bool neg); clear hc5 m5 r5 t33 hr4)
      | (go_at_call 40; refine (blanks_any p l5 _ hr5).mono ?_; rintro e w6 ⟨rfl, r6, m6⟩; have hc6 := HC5.out.moved (by omega) m6; have HM6 := Lib.hid (HM5.out.trans (m6.two _)); have HS6 := Lib.hid (HS5.out.moved (by omega) m6); have hr6 := r6; clear m6 r6 hr5)
      | (go_at_call 41; refine (kl _ _ _ _ _ hr6 hc6).mono ?_; rintro e w7 ⟨rfl, hb7⟩))
  exact ⟨rfl, rfl, HB.out.trans (HM6.out.low.trans hb7)⟩

set_option maxHeartbeats 8000000 in
set_option maxRecDepth 20000 in
theorem cmd_s_end (p : Nat) (l : List UInt8) (w : World) (h : Rd p l w) (a : Ad) (KA NA : Int) (hKA : KA = (a.k : Int)) (hNA : NA = (a.n : Int)) (l1 : List UInt8) (ka : ∀ w1, Rd p l w1 → Calls Tryd.prog 38 #[.pointer (some ⟨p, 0, none⟩)] w1 fun e w' => ∃ v, e = .returned (.agg #[.int .i64 KA, .int .i64 NA, v]) ∧ AdS w1.heap.size a v w' ∧ Rd p l1 w' ∧ Moved p w1 w') (lp : List UInt8) (b : Ad) (KB NB : Int) (hKB : KB = (b.k : Int)) (hNB : NB = (b.n : Int)) (kb : ∀ w1, Rd p l1.tail w1 → Calls Tryd.prog 38 #[.pointer (some ⟨p, 0, none⟩)] w1 fun e w' => ∃ v, e = .returned (.agg #[.int .i64 KB, .int .i64 NB, v]) ∧ AdS w1.heap.size b v w' ∧ Rd p lp w' ∧ Moved p w1 w') (hk0 : ¬ KA = 0) (t44 : ∀ w1, Rd p l1 w1 → Calls Tryd.prog 39 #[.pointer (some ⟨p, 0, none⟩), .int .u8 44] w1 fun e w' => e = .returned (.bool true) ∧ Rd p l1.tail w' ∧ Moved p w1 w') (hkb : ¬ KB = 0) (neg : Bool) (l5 : List UInt8) (t33 : ∀ w1, Rd p (blk lp) w1 → Calls Tryd.prog 39 #[.pointer (some ⟨p, 0, none⟩), .int .u8 33] w1 fun e w' => e = .returned (.bool neg) ∧ Rd p l5 w' ∧ Moved p w1 w') (c : Cm) (lr : List UInt8) (kl : ∀ (w1 : World) (y2 y3 y5 y6 : Value), Rd p (blk l5) w1 → Cq (w.heap.size + 1) [.int .u8 0, .int .i64 KA, y2, y3, .int .i64 KB, y5, y6, .bool neg, .slice none 0 0, .slice none 0 0, .bool false, .bool false, .string ⟨#[]⟩] w1 → Calls Tryd.prog 41 #[.pointer (some ⟨p, 0, none⟩), .pointer (some ⟨w.heap.size + 1, 0, none⟩)] w1 fun e w' => e = .returned (.tuple #[]) ∧ ∃ v u, Rd p lr w' ∧ Cq (w.heap.size + 1) [.int .u8 (c.op.toNat : Int), .int .i64 KA, y2, y3, .int .i64 KB, y5, y6, .bool neg, v, u, .bool c.all, .bool c.prt, .string ⟨c.label.toArray⟩] w' ∧ ReS w1.heap.size c.re v w' ∧ PutS w1.heap.size c.put u w' ∧ Moved2 p (w.heap.size + 1) w1 w') (he : endedB (blk lr) = false) :
    Calls Tryd.prog 27 #[.pointer (some ⟨p, 0, none⟩)] w fun e w' => e = errV 9 ∧ Below p w w' := by
  have HKB := Lib.hid (And.intro hKB hNB)
  clear hKB hNB
  unfold errV
  have hlt := h.lt
  have hr0 : Rd p l (W13 w) := h.below (W13.below w)
  have HB := Lib.hid ((W13.below w).mono (Nat.le_of_lt hlt))
  clear h
  have HW := Lib.hid (show W13 w = (w.alloc (.cells #[.int .u8 0, .int .i64 0, .int .i64 0, .slice none 0 0, .int .i64 0, .int .i64 0, .slice none 0 0, .bool false, .slice none 0 0, .slice none 0 0, .bool false, .bool false, .string ⟨#[]⟩] 36)).alloc (.cells #[.int .u8 0, .int .i64 0, .int .i64 0, .slice none 0 0, .int .i64 0, .int .i64 0, .slice none 0 0, .bool false, .slice none 0 0, .slice none 0 0, .bool false, .bool false, .string ⟨#[]⟩] 36) from rfl)
  have HK := Lib.hid (And.intro hKA hNA)
  clear hKA hNA
  go_enter Tryd.func27, Tryd.ntmps27
  go_wp2_with fail
  rw [← HW.out]
  go_wp2_with (first
      | (go_at_call 38; refine (ka _ hr0).mono ?_; rintro e w1 ⟨va, rfl, hs1, r1, m1⟩; obtain ⟨ao, N, cap, rfl⟩ := ads_slice hs1; have hc := (W13.c1 w).moved (by omega) m1; obtain ⟨c1, f1⟩ := hc.cell 1 rfl; obtain ⟨c2, f2⟩ := hc.cell 2 rfl; obtain ⟨c3, f3⟩ := hc.cell 3 rfl; have hc' := hc.put3 1 2 3 (.int .i64 KA) (.int .i64 NA) (.slice ao N cap); obtain ⟨i1, _⟩ := hc'.cell 1 rfl; have M1 := (m1.two (w.heap.size + 1)).trans (Moved2.set3 p (w.heap.size + 1) 1 2 3 (.int .i64 KA) (.int .i64 NA) (.slice ao N cap) w1 (by omega)); have hq1 : w.heap.size + 1 < (W13 w).heap.size := (by rw [W13.size]; omega); have hS1 := hs1.moved2 (by omega) hq1 (Moved2.set3 p (w.heap.size + 1) 1 2 3 (.int .i64 KA) (.int .i64 NA) (.slice ao N cap) w1 (by omega)); have hr1 := r1.put3 (q := w.heap.size + 1) (by omega) 1 2 3 (.int .i64 KA) (.int .i64 NA) (.slice ao N cap); have HC1 := Lib.hid hc'; have HM1 := Lib.hid M1; have HS1 := Lib.hid hS1; clear hc hc' M1 hS1 hs1 r1 m1 ka hr0)
      | (go_at_call 39; refine (t44 _ hr1).mono ?_; rintro e w2 ⟨rfl, r2, m2⟩; have hc2 := HC1.out.moved (by omega) m2; have HC2 := Lib.hid hc2; have HM2 := Lib.hid (HM1.out.trans (m2.two _)); have HS2 := Lib.hid (HS1.out.moved (by omega) m2); have hr2 := r2; clear hc2 m2 r2 t44 hr1)
      | (go_at_call 38; refine (kb _ hr2).mono ?_; rintro e w3 ⟨vb, rfl, hs3, r3, m3⟩; obtain ⟨bo, NB2, capb, rfl⟩ := ads_slice hs3; have hc := HC2.out.moved (by omega) m3; obtain ⟨c4, f4⟩ := hc.cell 4 rfl; obtain ⟨c5, f5⟩ := hc.cell 5 rfl; obtain ⟨c6, f6⟩ := hc.cell 6 rfl; have hc' := hc.put3 4 5 6 (.int .i64 KB) (.int .i64 NB) (.slice bo NB2 capb); obtain ⟨i4, _⟩ := hc'.cell 4 rfl; have hz2 : (W13 w).heap.size ≤ w2.heap.size := HM2.out.low.size; have hS3 := (hs3.base hz2).moved2 (by omega) (by rw [W13.size]; omega) (Moved2.set3 p (w.heap.size + 1) 4 5 6 (.int .i64 KB) (.int .i64 NB) (.slice bo NB2 capb) w3 (by omega)); have HS3 := Lib.hid (And.intro ((HS2.out.moved (by omega) m3).moved2 (by omega) (by rw [W13.size]; omega) (Moved2.set3 p (w.heap.size + 1) 4 5 6 (.int .i64 KB) (.int .i64 NB) (.slice bo NB2 capb) w3 (by omega))) hS3); have HM3 := Lib.hid (HM2.out.trans ((m3.two _).trans (Moved2.set3 p (w.heap.size + 1) 4 5 6 (.int .i64 KB) (.int .i64 NB) (.slice bo NB2 capb) w3 (by omega)))); have hr3 := r3.put3 (q := w.heap.size + 1) (by omega) 4 5 6 (.int .i64 KB) (.int .i64 NB) (.slice bo NB2 capb); have HC3 := Lib.hid hc'; clear hc hc' hS3 hs3 r3 m3 kb hr2)
      | (go_at_call 40; refine (blanks_any p lp _ hr3).mono ?_; rintro e w4 ⟨rfl, r4, m4⟩; have hc4 := HC3.out.moved (by omega) m4; have HC4 := Lib.hid hc4; have hzz := W13.size w; have HS4 := Lib.hid (SS.moved (show SS (W13 w).heap.size a (.slice ao N cap) b (.slice bo NB2 capb) _ from HS3.out) (by omega) m4); have HM4 := Lib.hid (HM3.out.trans (m4.two _)); have hr4 := r4; clear hc4 m4 r4 hr3)
      | (go_at_call 39; refine (t33 _ hr4).mono ?_; rintro e w5 ⟨rfl, r5, m5⟩; have hc5 := HC4.out.moved (by omega) m5; obtain ⟨c7, f7⟩ := hc5.cell 7 rfl; have HC5 := Lib.hid (hc5.put 7 (.bool neg)); have HM5 := Lib.hid (HM4.out.trans ((m5.two _).trans (.set p (w.heap.size + 1) 7 (.bool neg) w5 (by omega)))); have HS5 := Lib.hid ((HS4.out.moved (by omega) m5).moved2 (by omega) (by omega) (.set p (w.heap.size + 1) 7 (.bool neg) w5 (by omega))); have hr5 := r5.moved2 (q := w.heap.size + 1) (by omega) 7 (.bool neg); clear hc5 m5 r5 t33 hr4)
      | (go_at_call 40; refine (blanks_any p l5 _ hr5).mono ?_; rintro e w6 ⟨rfl, r6, m6⟩; have hc6 := HC5.out.moved (by omega) m6; have HM6 := Lib.hid (HM5.out.trans (m6.two _)); have HS6 := Lib.hid (HS5.out.moved (by omega) m6); have hr6 := r6; clear m6 r6 hr5)
      | (go_at_call 41; refine (kl _ _ _ _ _ hr6 hc6).mono ?_; rintro e w7 ⟨rfl, v, u, r7, hc7, hre, hpu, m7⟩; obtain ⟨vo, vn, vc, rfl⟩ := res_slice hre; obtain ⟨uo, uc, rfl⟩ := own_zeroB hpu; have HC7 := Lib.hid hc7; have HM7 := Lib.hid (HM6.out.trans m7); have HL7 := Lib.hid (And.intro hre (And.intro hpu m7)); have hz6 : (W13 w).heap.size ≤ w6.heap.size := HM6.out.low.size; have HS7 := Lib.hid (HS6.out.moved2 (by omega) (by omega) m7); have hr7 := r7; clear hc7 hre hpu m7 r7 kl hr6 hc6)
      | (go_at_call 40; refine (blanks_any p lr _ hr7).mono ?_; rintro e w8 ⟨rfl, r8, m8⟩; have hc8 := HC7.out.moved (by omega) m8; have HM8 := Lib.hid (HM7.out.trans (m8.two _)); have hg8 : Cq w.heap.size zeroC w8 := (HM8.out.high _ (by omega) (by omega) (by rw [W13.size]; omega)).trans (W13.c0 w); obtain ⟨a0, a1, a2, a3, a4, a5, a6, a7, a8, a9, a10, a11, a12⟩ := cells13 hc8; obtain ⟨b0, b1, b2, b3, b4, b5, b6, b7, b8, b9, b10, b11, b12⟩ := cells13 hg8; obtain ⟨z0, z1, z2, z3, z4, z5, z6, z7, z8, z9, z10, z11, z12⟩ := frozen13 hg8; have HG8 := Lib.hid hg8; have HW8 := Lib.hid m8; have HS8 := Lib.hid (HS7.out.moved (by omega) m8); have hr8 := r8; clear hc8 m8 r8 hg8 hr7)
      | (go_at_call 42; refine (ended_any p (blk lr) _ hr8).mono ?_; rintro e w9 ⟨rfl, hw9⟩; rw [hw9]; clear hw9))
  exact ⟨rfl, rfl, HB.out.trans HM8.out.low⟩

set_option maxHeartbeats 8000000 in
set_option maxRecDepth 20000 in
theorem cmd_s_ok (p : Nat) (l : List UInt8) (w : World) (h : Rd p l w) (a : Ad) (KA NA : Int) (hKA : KA = (a.k : Int)) (hNA : NA = (a.n : Int)) (l1 : List UInt8) (ka : ∀ w1, Rd p l w1 → Calls Tryd.prog 38 #[.pointer (some ⟨p, 0, none⟩)] w1 fun e w' => ∃ v, e = .returned (.agg #[.int .i64 KA, .int .i64 NA, v]) ∧ AdS w1.heap.size a v w' ∧ Rd p l1 w' ∧ Moved p w1 w') (lp : List UInt8) (b : Ad) (KB NB : Int) (hKB : KB = (b.k : Int)) (hNB : NB = (b.n : Int)) (kb : ∀ w1, Rd p l1.tail w1 → Calls Tryd.prog 38 #[.pointer (some ⟨p, 0, none⟩)] w1 fun e w' => ∃ v, e = .returned (.agg #[.int .i64 KB, .int .i64 NB, v]) ∧ AdS w1.heap.size b v w' ∧ Rd p lp w' ∧ Moved p w1 w') (hk0 : ¬ KA = 0) (t44 : ∀ w1, Rd p l1 w1 → Calls Tryd.prog 39 #[.pointer (some ⟨p, 0, none⟩), .int .u8 44] w1 fun e w' => e = .returned (.bool true) ∧ Rd p l1.tail w' ∧ Moved p w1 w') (hkb : ¬ KB = 0) (neg : Bool) (l5 : List UInt8) (t33 : ∀ w1, Rd p (blk lp) w1 → Calls Tryd.prog 39 #[.pointer (some ⟨p, 0, none⟩), .int .u8 33] w1 fun e w' => e = .returned (.bool neg) ∧ Rd p l5 w' ∧ Moved p w1 w') (c : Cm) (lr : List UInt8) (kl : ∀ (w1 : World) (y2 y3 y5 y6 : Value), Rd p (blk l5) w1 → Cq (w.heap.size + 1) [.int .u8 0, .int .i64 KA, y2, y3, .int .i64 KB, y5, y6, .bool neg, .slice none 0 0, .slice none 0 0, .bool false, .bool false, .string ⟨#[]⟩] w1 → Calls Tryd.prog 41 #[.pointer (some ⟨p, 0, none⟩), .pointer (some ⟨w.heap.size + 1, 0, none⟩)] w1 fun e w' => e = .returned (.tuple #[]) ∧ ∃ v u, Rd p lr w' ∧ Cq (w.heap.size + 1) [.int .u8 (c.op.toNat : Int), .int .i64 KA, y2, y3, .int .i64 KB, y5, y6, .bool neg, v, u, .bool c.all, .bool c.prt, .string ⟨c.label.toArray⟩] w' ∧ ReS w1.heap.size c.re v w' ∧ PutS w1.heap.size c.put u w' ∧ Moved2 p (w.heap.size + 1) w1 w') (he : endedB (blk lr) = true) (hneg : c.neg = neg) (hca : c.a = a) (hcb : c.b = b) :
    Calls Tryd.prog 27 #[.pointer (some ⟨p, 0, none⟩)] w fun e w' => ∃ xs, e = .returned (.agg ⟨xs⟩) ∧ CmS w.heap.size c xs w' ∧ Rd p (blk lr) w' ∧ Moved p w w' := by
  have HKB := Lib.hid (And.intro hKB hNB)
  clear hKB hNB
  have hlt := h.lt
  have hr0 : Rd p l (W13 w) := h.below (W13.below w)
  have HB := Lib.hid ((W13.below w).mono (Nat.le_of_lt hlt))
  clear h
  have HW := Lib.hid (show W13 w = (w.alloc (.cells #[.int .u8 0, .int .i64 0, .int .i64 0, .slice none 0 0, .int .i64 0, .int .i64 0, .slice none 0 0, .bool false, .slice none 0 0, .slice none 0 0, .bool false, .bool false, .string ⟨#[]⟩] 36)).alloc (.cells #[.int .u8 0, .int .i64 0, .int .i64 0, .slice none 0 0, .int .i64 0, .int .i64 0, .slice none 0 0, .bool false, .slice none 0 0, .slice none 0 0, .bool false, .bool false, .string ⟨#[]⟩] 36) from rfl)
  have HK := Lib.hid (And.intro hKA hNA)
  clear hKA hNA
  go_enter Tryd.func27, Tryd.ntmps27
  go_wp2_with fail
  rw [← HW.out]
  go_wp2_with (first
      | (go_at_call 38; refine (ka _ hr0).mono ?_; rintro e w1 ⟨va, rfl, hs1, r1, m1⟩; obtain ⟨ao, N, cap, rfl⟩ := ads_slice hs1; have hc := (W13.c1 w).moved (by omega) m1; obtain ⟨c1, f1⟩ := hc.cell 1 rfl; obtain ⟨c2, f2⟩ := hc.cell 2 rfl; obtain ⟨c3, f3⟩ := hc.cell 3 rfl; have hc' := hc.put3 1 2 3 (.int .i64 KA) (.int .i64 NA) (.slice ao N cap); obtain ⟨i1, _⟩ := hc'.cell 1 rfl; have M1 := (m1.two (w.heap.size + 1)).trans (Moved2.set3 p (w.heap.size + 1) 1 2 3 (.int .i64 KA) (.int .i64 NA) (.slice ao N cap) w1 (by omega)); have hq1 : w.heap.size + 1 < (W13 w).heap.size := (by rw [W13.size]; omega); have hS1 := hs1.moved2 (by omega) hq1 (Moved2.set3 p (w.heap.size + 1) 1 2 3 (.int .i64 KA) (.int .i64 NA) (.slice ao N cap) w1 (by omega)); have hr1 := r1.put3 (q := w.heap.size + 1) (by omega) 1 2 3 (.int .i64 KA) (.int .i64 NA) (.slice ao N cap); have HC1 := Lib.hid hc'; have HM1 := Lib.hid M1; have HS1 := Lib.hid hS1; clear hc hc' M1 hS1 hs1 r1 m1 ka hr0)
      | (go_at_call 39; refine (t44 _ hr1).mono ?_; rintro e w2 ⟨rfl, r2, m2⟩; have hc2 := HC1.out.moved (by omega) m2; have HC2 := Lib.hid hc2; have HM2 := Lib.hid (HM1.out.trans (m2.two _)); have HS2 := Lib.hid (HS1.out.moved (by omega) m2); have hr2 := r2; clear hc2 m2 r2 t44 hr1)
      | (go_at_call 38; refine (kb _ hr2).mono ?_; rintro e w3 ⟨vb, rfl, hs3, r3, m3⟩; obtain ⟨bo, NB2, capb, rfl⟩ := ads_slice hs3; have hc := HC2.out.moved (by omega) m3; obtain ⟨c4, f4⟩ := hc.cell 4 rfl; obtain ⟨c5, f5⟩ := hc.cell 5 rfl; obtain ⟨c6, f6⟩ := hc.cell 6 rfl; have hc' := hc.put3 4 5 6 (.int .i64 KB) (.int .i64 NB) (.slice bo NB2 capb); obtain ⟨i4, _⟩ := hc'.cell 4 rfl; have hz2 : (W13 w).heap.size ≤ w2.heap.size := HM2.out.low.size; have hS3 := (hs3.base hz2).moved2 (by omega) (by rw [W13.size]; omega) (Moved2.set3 p (w.heap.size + 1) 4 5 6 (.int .i64 KB) (.int .i64 NB) (.slice bo NB2 capb) w3 (by omega)); have HS3 := Lib.hid (And.intro ((HS2.out.moved (by omega) m3).moved2 (by omega) (by rw [W13.size]; omega) (Moved2.set3 p (w.heap.size + 1) 4 5 6 (.int .i64 KB) (.int .i64 NB) (.slice bo NB2 capb) w3 (by omega))) hS3); have HM3 := Lib.hid (HM2.out.trans ((m3.two _).trans (Moved2.set3 p (w.heap.size + 1) 4 5 6 (.int .i64 KB) (.int .i64 NB) (.slice bo NB2 capb) w3 (by omega)))); have hr3 := r3.put3 (q := w.heap.size + 1) (by omega) 4 5 6 (.int .i64 KB) (.int .i64 NB) (.slice bo NB2 capb); have HC3 := Lib.hid hc'; clear hc hc' hS3 hs3 r3 m3 kb hr2)
      | (go_at_call 40; refine (blanks_any p lp _ hr3).mono ?_; rintro e w4 ⟨rfl, r4, m4⟩; have hc4 := HC3.out.moved (by omega) m4; have HC4 := Lib.hid hc4; have hzz := W13.size w; have HS4 := Lib.hid (SS.moved (show SS (W13 w).heap.size a (.slice ao N cap) b (.slice bo NB2 capb) _ from HS3.out) (by omega) m4); have HM4 := Lib.hid (HM3.out.trans (m4.two _)); have hr4 := r4; clear hc4 m4 r4 hr3)
      | (go_at_call 39; refine (t33 _ hr4).mono ?_; rintro e w5 ⟨rfl, r5, m5⟩; have hc5 := HC4.out.moved (by omega) m5; obtain ⟨c7, f7⟩ := hc5.cell 7 rfl; have HC5 := Lib.hid (hc5.put 7 (.bool neg)); have HM5 := Lib.hid (HM4.out.trans ((m5.two _).trans (.set p (w.heap.size + 1) 7 (.bool neg) w5 (by omega)))); have HS5 := Lib.hid ((HS4.out.moved (by omega) m5).moved2 (by omega) (by omega) (.set p (w.heap.size + 1) 7 (.bool neg) w5 (by omega))); have hr5 := r5.moved2 (q := w.heap.size + 1) (by omega) 7 (.bool neg); clear hc5 m5 r5 t33 hr4)
      | (go_at_call 40; refine (blanks_any p l5 _ hr5).mono ?_; rintro e w6 ⟨rfl, r6, m6⟩; have hc6 := HC5.out.moved (by omega) m6; have HM6 := Lib.hid (HM5.out.trans (m6.two _)); have HS6 := Lib.hid (HS5.out.moved (by omega) m6); have hr6 := r6; clear m6 r6 hr5)
      | (go_at_call 41; refine (kl _ _ _ _ _ hr6 hc6).mono ?_; rintro e w7 ⟨rfl, v, u, r7, hc7, hre, hpu, m7⟩; obtain ⟨vo, vn, vc, rfl⟩ := res_slice hre; obtain ⟨uo, uc, rfl⟩ := own_zeroB hpu; have HC7 := Lib.hid hc7; have HM7 := Lib.hid (HM6.out.trans m7); have HL7 := Lib.hid (And.intro hre (And.intro hpu m7)); have hz6 : (W13 w).heap.size ≤ w6.heap.size := HM6.out.low.size; have HS7 := Lib.hid (HS6.out.moved2 (by omega) (by omega) m7); have hr7 := r7; clear hc7 hre hpu m7 r7 kl hr6 hc6)
      | (go_at_call 40; refine (blanks_any p lr _ hr7).mono ?_; rintro e w8 ⟨rfl, r8, m8⟩; have hc8 := HC7.out.moved (by omega) m8; have HM8 := Lib.hid (HM7.out.trans (m8.two _)); have hg8 : Cq w.heap.size zeroC w8 := (HM8.out.high _ (by omega) (by omega) (by rw [W13.size]; omega)).trans (W13.c0 w); obtain ⟨a0, a1, a2, a3, a4, a5, a6, a7, a8, a9, a10, a11, a12⟩ := cells13 hc8; obtain ⟨b0, b1, b2, b3, b4, b5, b6, b7, b8, b9, b10, b11, b12⟩ := cells13 hg8; obtain ⟨z0, z1, z2, z3, z4, z5, z6, z7, z8, z9, z10, z11, z12⟩ := frozen13 hg8; have HG8 := Lib.hid hg8; have HW8 := Lib.hid m8; have HS8 := Lib.hid (HS7.out.moved (by omega) m8); have hr8 := r8; clear hc8 m8 r8 hg8 hr7)
      | (go_at_call 42; refine (ended_any p (blk lr) _ hr8).mono ?_; rintro e w9 ⟨rfl, hw9⟩; rw [hw9]; clear hw9))
  have hc9 := put13_cells rfl HG8.out (.int .u8 (c.op.toNat : Int)) (.int .i64 KA) (.int .i64 NA) (.slice ao N cap) (.int .i64 KB) (.int .i64 NB) (.slice bo NB2 capb) (.bool neg) (.slice vo vn vc) (.slice uo c.put.length uc) (.bool c.all) (.bool c.prt) (.string ⟨c.label.toArray⟩)
  have ho9 := fun r (hr : r ≠ w.heap.size) => put13_other hr w8 (.int .u8 (c.op.toNat : Int)) (.int .i64 KA) (.int .i64 NA) (.slice ao N cap) (.int .i64 KB) (.int .i64 NB) (.slice bo NB2 capb) (.bool neg) (.slice vo vn vc) (.slice uo c.put.length uc) (.bool c.all) (.bool c.prt) (.string ⟨c.label.toArray⟩)
  have hb9 := put13_below (q := w.heap.size) (HB.out.trans HM8.out.low) (Nat.le_of_lt hlt) (.int .u8 (c.op.toNat : Int)) (.int .i64 KA) (.int .i64 NA) (.slice ao N cap) (.int .i64 KB) (.int .i64 NB) (.slice bo NB2 capb) (.bool neg) (.slice vo vn vc) (.slice uo c.put.length uc) (.bool c.all) (.bool c.prt) (.string ⟨c.label.toArray⟩)
  have hsz := W13.size w
  have hm : Moved2 p w.heap.size w8 (put13 w8 w.heap.size (.int .u8 (c.op.toNat : Int)) (.int .i64 KA) (.int .i64 NA) (.slice ao N cap) (.int .i64 KB) (.int .i64 NB) (.slice bo NB2 capb) (.bool neg) (.slice vo vn vc) (.slice uo c.put.length uc) (.bool c.all) (.bool c.prt) (.string ⟨c.label.toArray⟩)) := ⟨put13_below (Below.refl _ _) (Nat.le_of_lt hlt) (.int .u8 (c.op.toNat : Int)) (.int .i64 KA) (.int .i64 NA) (.slice ao N cap) (.int .i64 KB) (.int .i64 NB) (.slice bo NB2 capb) (.bool neg) (.slice vo vn vc) (.slice uo c.put.length uc) (.bool c.all) (.bool c.prt) (.string ⟨c.label.toArray⟩), fun r _ hr _ => ho9 r hr⟩
  have hq6 : w.heap.size + 1 < w6.heap.size := by omega
  obtain ⟨g1, g2⟩ := HS8.out.moved2 (by omega) (by omega) hm
  have g3 := ((HL7.out.1.base (B' := (W13 w).heap.size) hz6).moved2 (by omega) (by omega) (HW8.out.two (w.heap.size + 1))).moved2 (by omega) (by omega) hm
  have g4 := owns_moved2 (owns_moved2 (owns_base HL7.out.2.1 (B' := (W13 w).heap.size) hz6) (by omega) (by omega) (HW8.out.two (w.heap.size + 1))) (by omega) (by omega) hm
  obtain ⟨hKA, hNA⟩ := HK.out
  obtain ⟨hKB, hNB⟩ := HKB.out
  have hX : CmS w.heap.size c [.int .u8 (c.op.toNat : Int), .int .i64 KA, .int .i64 NA, .slice ao N cap, .int .i64 KB, .int .i64 NB, .slice bo NB2 capb, .bool neg, .slice vo vn vc, .slice uo c.put.length uc, .bool c.all, .bool c.prt, .string ⟨c.label.toArray⟩] (put13 w8 w.heap.size (.int .u8 (c.op.toNat : Int)) (.int .i64 KA) (.int .i64 NA) (.slice ao N cap) (.int .i64 KB) (.int .i64 NB) (.slice bo NB2 capb) (.bool neg) (.slice vo vn vc) (.slice uo c.put.length uc) (.bool c.all) (.bool c.prt) (.string ⟨c.label.toArray⟩)) :=
    ⟨.slice ao N cap, .slice bo NB2 capb, .slice vo vn vc, .slice uo c.put.length uc, by rw [hneg, hca, hcb, ← hKA, ← hNA, ← hKB, ← hNB]; try rfl, by rw [hca]; exact g1.base (by omega), by rw [hcb]; exact g2.base (by omega), g3.base (by omega), owns_base g4 (by omega)⟩
  exact bodyPost_ret (v := .agg _) (results_cell_row (p := 2) (ty := 36) Tryd.results27 _ _ w.heap.size 36 _ (0, 0) _ rfl hc9 Tryd.underlying36 rfl Tryd.infoCmd) rfl
    ⟨_, rfl, hX, (ho9 p (by omega)).trans hr8, hb9, fun g hg hs => (ho9 g (by omega)).trans ((HM8.out.high g hg (by omega) (by omega)).trans ((W13.below w).block g hs))⟩
end Go.Proofs.YtgceckejchdnlaaDoor
namespace Go.Proofs.YtgceckejchdnlaaDoor
open Go.RowKit Go.Lib
set_option maxHeartbeats 8000000 in
set_option maxRecDepth 20000 in
theorem cmd_a_bad (p : Nat) (l : List UInt8) (w : World) (h : Rd p l w) (x : Int) (ka : ∀ w1, Rd p l w1 → Calls Tryd.prog 38 #[.pointer (some ⟨p, 0, none⟩)] w1 fun e w' => e = errV x ∧ Below p w1 w') :
    Calls Tryd.prog 27 #[.pointer (some ⟨p, 0, none⟩)] w fun e w' => e = errV x ∧ Below p w w' := by
  unfold errV at ka ⊢
  have hlt := h.lt
  have hr0 : Rd p l (W13 w) := h.below (W13.below w)
  have HB := Lib.hid ((W13.below w).mono (Nat.le_of_lt hlt))
  clear h
  have HW := Lib.hid (show W13 w = (w.alloc (.cells #[.int .u8 0, .int .i64 0, .int .i64 0, .slice none 0 0, .int .i64 0, .int .i64 0, .slice none 0 0, .bool false, .slice none 0 0, .slice none 0 0, .bool false, .bool false, .string ⟨#[]⟩] 36)).alloc (.cells #[.int .u8 0, .int .i64 0, .int .i64 0, .slice none 0 0, .int .i64 0, .int .i64 0, .slice none 0 0, .bool false, .slice none 0 0, .slice none 0 0, .bool false, .bool false, .string ⟨#[]⟩] 36) from rfl)
  go_enter Tryd.func27, Tryd.ntmps27
  go_wp2_with fail
  rw [← HW.out]
  go_wp2_with (first
      | (go_at_call 38; refine (ka _ hr0).mono ?_; rintro e w1 ⟨rfl, hb1⟩))
  exact ⟨rfl, rfl, HB.out.trans hb1⟩

set_option maxHeartbeats 8000000 in
set_option maxRecDepth 20000 in
theorem cmd_b_bad (p : Nat) (l : List UInt8) (w : World) (h : Rd p l w) (a : Ad) (KA NA : Int) (hKA : KA = (a.k : Int)) (hNA : NA = (a.n : Int)) (l1 : List UInt8) (ka : ∀ w1, Rd p l w1 → Calls Tryd.prog 38 #[.pointer (some ⟨p, 0, none⟩)] w1 fun e w' => ∃ v, e = .returned (.agg #[.int .i64 KA, .int .i64 NA, v]) ∧ AdS w1.heap.size a v w' ∧ Rd p l1 w' ∧ Moved p w1 w') (x : Int) (kb : ∀ w1, Rd p l1.tail w1 → Calls Tryd.prog 38 #[.pointer (some ⟨p, 0, none⟩)] w1 fun e w' => e = errV x ∧ Below p w1 w') (hk0 : ¬ KA = 0) (t44 : ∀ w1, Rd p l1 w1 → Calls Tryd.prog 39 #[.pointer (some ⟨p, 0, none⟩), .int .u8 44] w1 fun e w' => e = .returned (.bool true) ∧ Rd p l1.tail w' ∧ Moved p w1 w') :
    Calls Tryd.prog 27 #[.pointer (some ⟨p, 0, none⟩)] w fun e w' => e = errV x ∧ Below p w w' := by
  unfold errV at kb ⊢
  have hlt := h.lt
  have hr0 : Rd p l (W13 w) := h.below (W13.below w)
  have HB := Lib.hid ((W13.below w).mono (Nat.le_of_lt hlt))
  clear h
  have HW := Lib.hid (show W13 w = (w.alloc (.cells #[.int .u8 0, .int .i64 0, .int .i64 0, .slice none 0 0, .int .i64 0, .int .i64 0, .slice none 0 0, .bool false, .slice none 0 0, .slice none 0 0, .bool false, .bool false, .string ⟨#[]⟩] 36)).alloc (.cells #[.int .u8 0, .int .i64 0, .int .i64 0, .slice none 0 0, .int .i64 0, .int .i64 0, .slice none 0 0, .bool false, .slice none 0 0, .slice none 0 0, .bool false, .bool false, .string ⟨#[]⟩] 36) from rfl)
  have HK := Lib.hid (And.intro hKA hNA)
  clear hKA hNA
  go_enter Tryd.func27, Tryd.ntmps27
  go_wp2_with fail
  rw [← HW.out]
  go_wp2_with (first
      | (go_at_call 38; refine (ka _ hr0).mono ?_; rintro e w1 ⟨va, rfl, hs1, r1, m1⟩; obtain ⟨ao, N, cap, rfl⟩ := ads_slice hs1; have hc := (W13.c1 w).moved (by omega) m1; obtain ⟨c1, f1⟩ := hc.cell 1 rfl; obtain ⟨c2, f2⟩ := hc.cell 2 rfl; obtain ⟨c3, f3⟩ := hc.cell 3 rfl; have hc' := hc.put3 1 2 3 (.int .i64 KA) (.int .i64 NA) (.slice ao N cap); obtain ⟨i1, _⟩ := hc'.cell 1 rfl; have M1 := (m1.two (w.heap.size + 1)).trans (Moved2.set3 p (w.heap.size + 1) 1 2 3 (.int .i64 KA) (.int .i64 NA) (.slice ao N cap) w1 (by omega)); have hq1 : w.heap.size + 1 < (W13 w).heap.size := (by rw [W13.size]; omega); have hS1 := hs1.moved2 (by omega) hq1 (Moved2.set3 p (w.heap.size + 1) 1 2 3 (.int .i64 KA) (.int .i64 NA) (.slice ao N cap) w1 (by omega)); have hr1 := r1.put3 (q := w.heap.size + 1) (by omega) 1 2 3 (.int .i64 KA) (.int .i64 NA) (.slice ao N cap); have HC1 := Lib.hid hc'; have HM1 := Lib.hid M1; have HS1 := Lib.hid hS1; clear hc hc' M1 hS1 hs1 r1 m1 ka hr0)
      | (go_at_call 39; refine (t44 _ hr1).mono ?_; rintro e w2 ⟨rfl, r2, m2⟩; have hc2 := HC1.out.moved (by omega) m2; have HC2 := Lib.hid hc2; have HM2 := Lib.hid (HM1.out.trans (m2.two _)); have HS2 := Lib.hid (HS1.out.moved (by omega) m2); have hr2 := r2; clear hc2 m2 r2 t44 hr1)
      | (go_at_call 38; refine (kb _ hr2).mono ?_; rintro e w3 ⟨rfl, hb3⟩))
  exact ⟨rfl, rfl, HB.out.trans (HM2.out.low.trans hb3)⟩
end Go.Proofs.YtgceckejchdnlaaDoor
namespace Go.Proofs.YtgceckejchdnlaaDoor
open Go.RowKit Go.Lib

/-- What command does. -/
def ComE (p : Nat) (l : List UInt8) (w : World) (e : Ending) (w' : World) : Prop := match comP reR l with
  | .ok c r => ∃ xs, e = .returned (.agg ⟨xs⟩) ∧ CmS w.heap.size c xs w' ∧ Rd p r w' ∧ Moved p w w'
  | .bad x => e = errV x ∧ Below p w w'
theorem letP_fields {R : List UInt8 → Res} {a b : Ad} {neg : Bool} {l r : List UInt8} {c : Cm} (h : letP R a b neg l = .ok c r) : c.a = a ∧ c.b = b ∧ c.neg = neg := by
  cases l with
  | nil => cases h
  | cons o l =>
    unfold letP at h
    dsimp only at h
    split at h
    · cases l with
      | nil => cases h
      | cons d l1 =>
        dsimp only at h
        split at h
        · obtain ⟨t, l2, ht, h⟩ := got_bind h
          obtain ⟨ys, l3, hy, h⟩ := got_bind h
          cases h
          exact ⟨rfl, rfl, rfl⟩
        · cases h
    · split at h
      · split at h
        · cases h; exact ⟨rfl, rfl, rfl⟩
        · obtain ⟨y, r', hy, h⟩ := got_bind h
          cases h; exact ⟨rfl, rfl, rfl⟩
      · split at h
        · split at h
          · obtain ⟨y, r', hy, h⟩ := got_bind h
            cases h; exact ⟨rfl, rfl, rfl⟩
          · cases h
        · split at h
          · cases h; exact ⟨rfl, rfl, rfl⟩
          · cases h
theorem take33 (p : Nat) (l : List UInt8) (hl : l.length ≤ 1000000000) (w1 : World) (h : Rd p (blk l) w1) :
    Calls Tryd.prog 39 #[.pointer (some ⟨p, 0, none⟩), .int .u8 33] w1 fun e w' => e = .returned (.bool (notB l)) ∧ Rd p (if (blk l).head? = some 33 then (blk l).tail else blk l) w' ∧ Moved p w1 w' := by
  have h1 := take8_any p 33 (blk l) w1 h (by have := blk_len l; omega)
  refine h1.mono ?_
  rintro e w' ⟨rfl, h2, h3⟩
  refine ⟨rfl, ?_, h3⟩
  unfold takeC isC at h2
  by_cases hh : (blk l).head? = some 33
  · rw [if_pos hh]
    rw [if_pos (by simpa using hh)] at h2
    exact h2
  · rw [if_neg hh]
    rw [if_neg (by simpa using hh)] at h2
    exact h2
set_option maxRecDepth 20000 in
theorem com_any (p : Nat) (l : List UInt8) (w : World) (h : Rd p l w) (hl : l.length ≤ 1000000000) :
    Calls Tryd.prog 27 #[.pointer (some ⟨p, 0, none⟩)] w (ComE p l w) := by
  have ka := fun w1 (h1 : Rd p l w1) => addr_any p l w1 h1 hl
  unfold AdE at ka
  unfold ComE comP
  cases ha : adP reR l with
  | bad x =>
    rw [ha] at ka
    exact cmd_a_bad p l w h x ka
  | ok a l1 =>
    rw [ha] at ka
    have hl1 := adP_len ha
    dsimp only [Got.bind]
    have tl : ∀ (b : Ad) (lp : List UInt8), lp.length ≤ 1000000000 → ∀ (w1 : World) (y2 y3 y5 y6 : Value), Rd p (notL lp) w1 → Cq (w.heap.size + 1) [.int .u8 0, .int .i64 (a.k : Int), y2, y3, .int .i64 (b.k : Int), y5, y6, .bool (notB lp), .slice none 0 0, .slice none 0 0, .bool false, .bool false, .string ⟨#[]⟩] w1 → Calls Tryd.prog 41 #[.pointer (some ⟨p, 0, none⟩), .pointer (some ⟨w.heap.size + 1, 0, none⟩)] w1 (LetE p (w.heap.size + 1) a b (notB lp) y2 y3 (.int .i64 (b.k : Int)) y5 y6 (notL lp) w1) :=
      fun b lp hlp w1 y2 y3 y5 y6 h1 h2 => letter_any p (w.heap.size + 1) a b (notB lp) y2 y3 _ y5 y6 (notL lp) w1 (by have := h.lt; omega) h1 (by have := notL_len lp; omega) h2
    unfold secP
    by_cases hc : a.k ≠ 0 ∧ l1.head? = some 44
    · rw [if_pos hc]
      have hk : ¬ ((a.k : Int) = 0) := by have := hc.1; omega
      have t44 : ∀ w1, Rd p l1 w1 → Calls Tryd.prog 39 #[.pointer (some ⟨p, 0, none⟩), .int .u8 44] w1 fun e w' => e = .returned (.bool true) ∧ Rd p l1.tail w' ∧ Moved p w1 w' :=
        fun w1 h1 => takeI_yes p l1 w1 h1 (by omega) 44 (by decide) (by decide) ((isI_head 44 l1).2 hc.2)
      have kb := fun w1 (h1 : Rd p l1.tail w1) => addr_any p l1.tail w1 h1 (by rw [List.length_tail]; omega)
      unfold AdE at kb
      cases hb : adP reR l1.tail with
      | bad x =>
        rw [hb] at kb
        exact cmd_b_bad p l w h a _ _ rfl rfl l1 ka x kb hk t44
      | ok b l2 =>
        rw [hb] at kb
        have hl2 := adP_len hb
        rw [List.length_tail] at hl2
        dsimp only [Got.bind]
        by_cases hkb : b.k = 0
        · rw [if_pos hkb]
          exact cmd_s_none p l w h a _ _ rfl rfl l1 ka l2 b _ _ rfl rfl kb hk t44 (by omega)
        · rw [if_neg hkb]
          dsimp only
          have kl := tl b l2 (by omega)
          unfold LetE at kl
          have t33 := take33 p l2 (by omega)
          cases hlet : letP reR a b (notB l2) (notL l2) with
          | bad x =>
            rw [hlet] at kl
            exact cmd_s_bad p l w h a _ _ rfl rfl l1 ka l2 b _ _ rfl rfl kb hk t44 (by omega) _ _ t33 x kl
          | ok c lr =>
            rw [hlet] at kl
            obtain ⟨e1, e2, e3⟩ := letP_fields hlet
            dsimp only
            cases he : endedB (blk lr) with
            | false => exact cmd_s_end p l w h a _ _ rfl rfl l1 ka l2 b _ _ rfl rfl kb hk t44 (by omega) _ _ t33 c lr kl he
            | true => exact cmd_s_ok p l w h a _ _ rfl rfl l1 ka l2 b _ _ rfl rfl kb hk t44 (by omega) _ _ t33 c lr kl he e3 e1 e2
    · rw [if_neg hc]
      dsimp only
      have kl0 := tl .none l1 (by omega)
      have kl := fun w1 y2 y3 => kl0 w1 y2 y3 (.int .i64 0) (.slice none 0 0)
      unfold LetE at kl
      have t33 := take33 p l1 (by omega)
      by_cases hk : a.k = 0
      · have hk' : (a.k : Int) = 0 := by omega
        cases hlet : letP reR a .none (notB l1) (notL l1) with
        | bad x =>
          rw [hlet] at kl
          exact cmd_n_bad p l w h a _ _ rfl rfl l1 ka hk' l1 rfl _ _ t33 x kl
        | ok c lr =>
          rw [hlet] at kl
          obtain ⟨e1, e2, e3⟩ := letP_fields hlet
          dsimp only
          cases he : endedB (blk lr) with
          | false => exact cmd_n_end p l w h a _ _ rfl rfl l1 ka hk' l1 rfl _ _ t33 c lr kl he
          | true => exact cmd_n_ok p l w h a _ _ rfl rfl l1 ka hk' l1 rfl _ _ t33 c lr kl he e3 e1 e2
      · have hk' : ¬ ((a.k : Int) = 0) := by omega
        have t44 : ∀ w1, Rd p l1 w1 → Calls Tryd.prog 39 #[.pointer (some ⟨p, 0, none⟩), .int .u8 44] w1 fun e w' => e = .returned (.bool false) ∧ w' = w1 :=
          fun w1 h1 => takeI_no p l1 w1 h1 44 (by decide) (by decide) (by
            cases hi : isI 44 l1
            · rfl
            · exact absurd ⟨hk, (isI_head 44 l1).1 hi⟩ hc)
        cases hlet : letP reR a .none (notB l1) (notL l1) with
        | bad x =>
          rw [hlet] at kl
          exact cmd_c_bad p l w h a _ _ rfl rfl l1 ka hk' t44 l1 rfl _ _ t33 x kl
        | ok c lr =>
          rw [hlet] at kl
          obtain ⟨e1, e2, e3⟩ := letP_fields hlet
          dsimp only
          cases he : endedB (blk lr) with
          | false => exact cmd_c_end p l w h a _ _ rfl rfl l1 ka hk' t44 l1 rfl _ _ t33 c lr kl he
          | true => exact cmd_c_ok p l w h a _ _ rfl rfl l1 ka hk' t44 l1 rfl _ _ t33 c lr kl he e3 e1 e2
end Go.Proofs.YtgceckejchdnlaaDoor
