/- Packed texts: SeSame, SeSame8. What each of them proves stands above its theorems; the conditions stand in these. -/
import Derived.Test.YtgceckejchdnlaaGreatDoorB19
import Derived.Test.YtgceckejchdnlaaGreatDoorB31
import Derived.Test.YtgceckejchdnlaaGreatDoorB32
import Derived.Test.YtgceckejchdnlaaGreatDoorB33
namespace Go.Proofs.YtgceckejchdnlaaGreatDoor
open Go.RowKit Go.Lib

theorem lies_nil (w : World) : Lies (.slice none 0 0) [] w := ⟨none, 0, rfl, Nat.zero_le _, fun j n h => by simp at h⟩
/-- Two addresses' slices of the same address. -/
theorem same_ads {B B' : Nat} {a : Ad} {u v : Value} {w : World} (ha : a.good) (h : AdS B a u w) (h' : AdS B' a v w) :
    Calls Tryz.prog 21 #[u, v] w fun e w' => e = .returned (.bool true) ∧ Below w.heap.size w w' := by
  cases a with
  | re t =>
    have hl : (t.row 0).length ≤ 140737488355328 := by rw [Tr.row_length]; have := ha.2; omega
    refine (same_any u v _ _ w (IsRow.lies h hl) (IsRow.lies h' hl)).mono ?_
    rintro e w' ⟨rfl, hb⟩
    exact ⟨by simp, hb⟩
  | none =>
    obtain rfl : u = .slice none 0 0 := h
    obtain rfl : v = .slice none 0 0 := h'
    refine (same_any _ _ [] [] w (lies_nil w) (lies_nil w)).mono ?_
    rintro e w' ⟨rfl, hb⟩
    exact ⟨by simp, hb⟩
  | line n =>
    obtain rfl : u = .slice none 0 0 := h
    obtain rfl : v = .slice none 0 0 := h'
    refine (same_any _ _ [] [] w (lies_nil w) (lies_nil w)).mono ?_
    rintro e w' ⟨rfl, hb⟩
    exact ⟨by simp, hb⟩
  | last =>
    obtain rfl : u = .slice none 0 0 := h
    obtain rfl : v = .slice none 0 0 := h'
    refine (same_any _ _ [] [] w (lies_nil w) (lies_nil w)).mono ?_
    rintro e w' ⟨rfl, hb⟩
    exact ⟨by simp, hb⟩
theorem ReS.kept8 {B : Nat} {a : Option Tr} {v : Value} {w w' : World} (h : ReS B a v w) (hb : Below w.heap.size w w') : ReS B a v w' := by
  cases a with
  | some t => exact owns_same h fun g hg => hb.block g (own_block_lt h hg)
  | none => exact h
theorem same_res {B B' : Nat} {a : Option Tr} {u v : Value} {w : World} (ha : ∀ t, a = some t → t.size ≤ 2000) (h : ReS B a u w) (h' : ReS B' a v w) :
    Calls Tryz.prog 21 #[u, v] w fun e w' => e = .returned (.bool true) ∧ Below w.heap.size w w' := by
  cases a with
  | some t =>
    have hl : (t.row 0).length ≤ 140737488355328 := by rw [Tr.row_length]; have := ha t rfl; omega
    refine (same_any u v _ _ w (IsRow.lies h hl) (IsRow.lies h' hl)).mono ?_
    rintro e w' ⟨rfl, hb⟩
    exact ⟨by simp, hb⟩
  | none =>
    obtain rfl : u = .slice none 0 0 := h
    obtain rfl : v = .slice none 0 0 := h'
    refine (same_any _ _ [] [] w (lies_nil w) (lies_nil w)).mono ?_
    rintro e w' ⟨rfl, hb⟩
    exact ⟨by simp, hb⟩
theorem same_put {B B' : Nat} {ys : List (List UInt8)} {u v : Value} {w : World} (hl : ys.length ≤ 1000000000) (h : PutS B ys u w) (h' : PutS B' ys v w) :
    Calls Tryz.prog 22 #[u, v] w fun e w' => e = .returned (.bool true) ∧ Below w.heap.size w w' := by
  have e1 := strs_of_owns h (by simp) (by omega)
  have e2 := strs_of_owns h' (by simp) (by omega)
  refine (refSameS_any u v _ _ w e1 e2).mono ?_
  rintro e w' ⟨rfl, hb⟩
  exact ⟨by simp, hb⟩
set_option maxHeartbeats 2000000 in
set_option maxRecDepth 20000 in
theorem sameAddr_eq (k n : Int) (a1 b1 : Option Addr) (a2 a3 b2 b3 : Nat) (w : World)
    (k1 : ∀ w1, Below w.heap.size w w1 → Calls Tryz.prog 21 #[.slice a1 a2 a3, .slice b1 b2 b3] w1 fun e w' => e = .returned (.bool true) ∧ Below w1.heap.size w1 w') :
    Calls Tryz.prog 20 #[.agg #[.int .i64 k, .int .i64 n, .slice a1 a2 a3], .agg #[.int .i64 k, .int .i64 n, .slice b1 b2 b3]] w fun e w' => e = .returned (.bool true) ∧ Below w.heap.size w w' := by
  have hb0 : Below w.heap.size w ((w.alloc (.cells #[.int .i64 k, .int .i64 n, .slice a1 a2 a3] 33)).alloc (.cells #[.int .i64 k, .int .i64 n, .slice b1 b2 b3] 33)) := ((Below.refl _ w).alloc (Nat.le_refl _) _).alloc (by simp) _
  have k2 := k1 _ hb0
  have HB := Lib.hid hb0
  have h1 : ((w.alloc (.cells #[.int .i64 k, .int .i64 n, .slice a1 a2 a3] 33)).alloc (.cells #[.int .i64 k, .int .i64 n, .slice b1 b2 b3] 33)).heap[w.heap.size]? = some (.cells #[.int .i64 k, .int .i64 n, .slice a1 a2 a3] 33 (0, 0)) := (Below.heap_alloc _ _ _ (by simp)).trans (heap_alloc_new w _)
  have h2 : ((w.alloc (.cells #[.int .i64 k, .int .i64 n, .slice a1 a2 a3] 33)).alloc (.cells #[.int .i64 k, .int .i64 n, .slice b1 b2 b3] 33)).heap[w.heap.size + 1]? = some (.cells #[.int .i64 k, .int .i64 n, .slice b1 b2 b3] 33 (0, 0)) := by
    have h := heap_alloc_new (w.alloc (.cells #[.int .i64 k, .int .i64 n, .slice a1 a2 a3] 33)) (.cells #[.int .i64 k, .int .i64 n, .slice b1 b2 b3] 33)
    simpa using h
  have HH := Lib.hid (And.intro h1 h2)
  clear h1 h2 hb0 k1
  go_enter Tryz.func20, Tryz.ntmps20
  go_wp2_with (first
    | (go_at_call 21; refine k2.mono ?_; rintro e w2 ⟨rfl, hb2⟩
       have g1 := (hb2.block _ (by simp; omega)).trans HH.out.1
       have g2 := (hb2.block _ (by simp)).trans HH.out.2
       obtain ⟨c0, c1, c2⟩ := cell_three g1
       obtain ⟨d0, d1, d2⟩ := cell_three g2
       have HB2 := Lib.hid (HB.out.trans (hb2.mono (by simp; omega)))
       clear g1 g2 hb2 k2))
  exact bodyPost_ret (results_tmp rfl _ _ _) rfl ⟨rfl, HB2.out⟩
end Go.Proofs.YtgceckejchdnlaaGreatDoor
namespace Go.Proofs.YtgceckejchdnlaaGreatDoor
open Go.RowKit Go.Lib

theorem Cm.Good.tree {c : Cm} (h : c.Good) : ∀ t, c.re = some t → t.ok ∧ t.size ≤ 2000 := fun t ht => by
  rcases h.kind with ⟨_, ⟨t', h1, h2⟩, _⟩ | ⟨⟨h1, _⟩, _⟩
  · rw [h1] at ht; cases ht; exact h2
  · rw [h1] at ht; cases ht
set_option maxHeartbeats 8000000 in
set_option maxRecDepth 20000 in
theorem same8_eq (B B' : Nat) (cs : List Cm) (u v : Value) (w : World) (h : ScrS B cs u w) (h' : ScrS B' cs v w) (hl : cs.length ≤ 1000000000) (hg : ∀ c ∈ cs, c.Good) (hp : ∀ c ∈ cs, c.put.length ≤ 1000000000) :
    Calls Tryz.prog 9 #[u, v] w fun e w' => e = .returned (.bool true) ∧ Below w.heap.size w w' := by
  obtain ⟨ao, cap, rfl⟩ := h.shape
  obtain ⟨bo, cap2, rfl⟩ := h'.shape
  obtain ⟨n, hn⟩ : ∃ n, n = cs.length := ⟨_, rfl⟩
  rw [← hn] at h h' hl ⊢
  have HS := Lib.hid h
  have HS' := Lib.hid h'
  have HN := Lib.hid hn
  have HG := Lib.hid (And.intro hg hp)
  clear h h' hn hg hp
  go_enter Tryz.func9, Tryz.ntmps9
  go_wp2_with fail
  go_loopw [5] (fun i wr => ∃ k : Nat, k ≤ n ∧ i = .int .i64 k ∧ Hid (Below w.heap.size w wr)) (fun i _ => n - (RowKit.intOf i).toNat)
  case atStart => exact ⟨0, Nat.zero_le _, rfl, Below.refl _ _⟩
  case round =>
    obtain ⟨k, hk, rfl, HB⟩ := hrel
    by_cases hlt : k < n
    · have hltI : (k : Int) < (n : Int) := by omega
      obtain ⟨c, hc⟩ : ∃ c, cs[k]? = some c := ⟨cs[k]'(by have := HN.out; omega), List.getElem?_eq_getElem _⟩
      have hcm := List.mem_of_getElem? hc
      have hcg := HG.out.1 c hcm
      have hcp := HG.out.2 c hcm
      obtain ⟨g, a1, a2, a3, b1, b2, b3, d1, d2, d3, q1, q2, q3, rfl, hgl, hcm1, ⟨r0, r1, r2, r3, r4, r5, r6, r7, r8, r9, r10, r11, r12⟩⟩ := (HS.out.below HB.out).row hc
      obtain ⟨g', a1', a2', a3', b1', b2', b3', d1', d2', d3', q1', q2', q3', rfl, hgl', hcm2, ⟨s0, s1, s2, s3, s4, s5, s6, s7, s8, s9, s10, s11, s12⟩⟩ := (HS'.out.below HB.out).row hc
      obtain ⟨va, vb, vd, vq, he, h1, h2, h3, h4⟩ := hcm1
      obtain ⟨va', vb', vd', vq', he', h1', h2', h3', h4'⟩ := hcm2
      simp only [List.cons.injEq, true_and, and_true] at he he'
      obtain ⟨rfl, rfl, rfl, rfl⟩ := he
      obtain ⟨rfl, rfl, rfl, rfl⟩ := he'
      have hz := HB.out.size
      obtain ⟨X, hX⟩ : ∃ X : ByteArray, X = ⟨c.label.toArray⟩ := ⟨_, rfl⟩
      rw [← hX] at r12 s12
      clear hX
      obtain ⟨W, hW⟩ : ∃ W, W = (wr.alloc (.cells #[.int .u8 (c.op.toNat : Int), .int .i64 (c.a.k : Int), .int .i64 (c.a.n : Int), .slice a1 a2 a3, .int .i64 (c.b.k : Int), .int .i64 (c.b.n : Int), .slice b1 b2 b3, .bool c.neg, .slice d1 d2 d3, .slice q1 q2 q3, .bool c.all, .bool c.prt, .string X] 36)).alloc (.cells #[.int .u8 (c.op.toNat : Int), .int .i64 (c.a.k : Int), .int .i64 (c.a.n : Int), .slice a1' a2' a3', .int .i64 (c.b.k : Int), .int .i64 (c.b.n : Int), .slice b1' b2' b3', .bool c.neg, .slice d1' d2' d3', .slice q1' q2' q3', .bool c.all, .bool c.prt, .string X] 36) := ⟨_, rfl⟩
      have hbW : Below wr.heap.size wr W := by rw [hW]; exact ((Below.refl _ _).alloc (Nat.le_refl _) _).alloc (by simp) _
      have hWz : W.heap.size = wr.heap.size + 2 := by rw [hW]; simp
      have hc1 : Cq wr.heap.size [.int .u8 (c.op.toNat : Int), .int .i64 (c.a.k : Int), .int .i64 (c.a.n : Int), .slice a1 a2 a3, .int .i64 (c.b.k : Int), .int .i64 (c.b.n : Int), .slice b1 b2 b3, .bool c.neg, .slice d1 d2 d3, .slice q1 q2 q3, .bool c.all, .bool c.prt, .string X] W := by
        rw [hW]; exact (Below.heap_alloc _ _ _ (by simp)).trans (heap_alloc_new wr _)
      have hc2 : Cq (wr.heap.size + 1) [.int .u8 (c.op.toNat : Int), .int .i64 (c.a.k : Int), .int .i64 (c.a.n : Int), .slice a1' a2' a3', .int .i64 (c.b.k : Int), .int .i64 (c.b.n : Int), .slice b1' b2' b3', .bool c.neg, .slice d1' d2' d3', .slice q1' q2' q3', .bool c.all, .bool c.prt, .string X] W := by
        rw [hW]
        have h := heap_alloc_new (wr.alloc (.cells #[.int .u8 (c.op.toNat : Int), .int .i64 (c.a.k : Int), .int .i64 (c.a.n : Int), .slice a1 a2 a3, .int .i64 (c.b.k : Int), .int .i64 (c.b.n : Int), .slice b1 b2 b3, .bool c.neg, .slice d1 d2 d3, .slice q1 q2 q3, .bool c.all, .bool c.prt, .string X] 36)) (.cells #[.int .u8 (c.op.toNat : Int), .int .i64 (c.a.k : Int), .int .i64 (c.a.n : Int), .slice a1' a2' a3', .int .i64 (c.b.k : Int), .int .i64 (c.b.n : Int), .slice b1' b2' b3', .bool c.neg, .slice d1' d2' d3', .slice q1' q2' q3', .bool c.all, .bool c.prt, .string X] 36)
        have e : (wr.alloc (.cells #[.int .u8 (c.op.toNat : Int), .int .i64 (c.a.k : Int), .int .i64 (c.a.n : Int), .slice a1 a2 a3, .int .i64 (c.b.k : Int), .int .i64 (c.b.n : Int), .slice b1 b2 b3, .bool c.neg, .slice d1 d2 d3, .slice q1 q2 q3, .bool c.all, .bool c.prt, .string X] 36)).heap.size = wr.heap.size + 1 := by simp
        rw [e] at h
        exact h
      have kA := fun w1 (hb : Below wr.heap.size wr w1) => sameAddr_eq (c.a.k : Int) (c.a.n : Int) a1 a1' a2 a3 a2' a3' w1 fun w2 hb2 => same_ads hcg.a (h1.below (hb.trans (hb2.mono hb.size))) (h1'.below (hb.trans (hb2.mono hb.size)))
      have kB := fun w1 (hb : Below wr.heap.size wr w1) => sameAddr_eq (c.b.k : Int) (c.b.n : Int) b1 b1' b2 b3 b2' b3' w1 fun w2 hb2 => same_ads hcg.b (h2.below (hb.trans (hb2.mono hb.size))) (h2'.below (hb.trans (hb2.mono hb.size)))
      have kR := fun w1 (hb : Below wr.heap.size wr w1) => same_res (fun t ht => (hcg.tree t ht).2) (h3.kept8 hb) (h3'.kept8 hb)
      have kP := fun w1 (hb : Below wr.heap.size wr w1) => same_put hcp (owns_same h4 fun g hg => hb.block g (own_block_lt h4 hg)) (owns_same h4' fun g hg => hb.block g (own_block_lt h4' hg))
      have HW := Lib.hid (And.intro hW (And.intro hbW (And.intro hWz (And.intro hc1 hc2))))
      have HK := Lib.hid (And.intro kA (And.intro kB (And.intro kR kP)))
      obtain ⟨f0, f1, f2, f3, f4, f5, f6, f7, f8, f9, f10, f11, f12⟩ := cells13 hc1
      obtain ⟨t0, t1, t2, t3, t4, t5, t6, t7, t8, t9, t10, t11, t12⟩ := cells13 hc2
      clear hW hbW hWz hc1 hc2 kA kB kR kP h1 h2 h3 h4 h1' h2' h3' h4' hcg hcp hcm hc
      have st : ∀ w2, Below (wr.heap.size + 2) W w2 → Below wr.heap.size wr w2 ∧ Cq wr.heap.size [.int .u8 (c.op.toNat : Int), .int .i64 (c.a.k : Int), .int .i64 (c.a.n : Int), .slice a1 a2 a3, .int .i64 (c.b.k : Int), .int .i64 (c.b.n : Int), .slice b1 b2 b3, .bool c.neg, .slice d1 d2 d3, .slice q1 q2 q3, .bool c.all, .bool c.prt, .string X] w2 ∧ Cq (wr.heap.size + 1) [.int .u8 (c.op.toNat : Int), .int .i64 (c.a.k : Int), .int .i64 (c.a.n : Int), .slice a1' a2' a3', .int .i64 (c.b.k : Int), .int .i64 (c.b.n : Int), .slice b1' b2' b3', .bool c.neg, .slice d1' d2' d3', .slice q1' q2' q3', .bool c.all, .bool c.prt, .string X] w2 := fun w2 hb =>
        ⟨HW.out.2.1.trans (hb.mono (by omega)), (hb.block _ (by omega)).trans HW.out.2.2.2.1, (hb.block _ (by omega)).trans HW.out.2.2.2.2⟩
      have ST := Lib.hid st
      clear st
      have HB0 := Lib.hid (show Below wr.heap.size wr W ∧ Below (wr.heap.size + 2) W W from ⟨HW.out.2.1, Below.refl _ _⟩)
      go_wp2_with fail
      rw [← HW.out.1]
      refine (HK.out.1 _ HB0.out.1).mono ?_
      rintro e w2 ⟨rfl, hb⟩
      have HB2 := Lib.hid (show Below wr.heap.size wr w2 ∧ Below (wr.heap.size + 2) W w2 from ⟨HB0.out.1.trans (hb.mono HB0.out.1.size), HB0.out.2.trans (hb.mono (by have := HB0.out.2.size; have := HW.out.2.2.1; omega))⟩)
      obtain ⟨_, y1, y2⟩ := ST.out w2 HB2.out.2
      obtain ⟨f0, f1, f2, f3, f4, f5, f6, f7, f8, f9, f10, f11, f12⟩ := cells13 y1
      obtain ⟨t0, t1, t2, t3, t4, t5, t6, t7, t8, t9, t10, t11, t12⟩ := cells13 y2
      clear y1 y2 hb
      go_wp2_with fail
      refine (HK.out.2.1 _ HB2.out.1).mono ?_
      rintro e w3 ⟨rfl, hb⟩
      have HB3 := Lib.hid (show Below wr.heap.size wr w3 ∧ Below (wr.heap.size + 2) W w3 from ⟨HB2.out.1.trans (hb.mono HB2.out.1.size), HB2.out.2.trans (hb.mono (by have := HB2.out.2.size; have := HW.out.2.2.1; omega))⟩)
      obtain ⟨_, y1, y2⟩ := ST.out w3 HB3.out.2
      obtain ⟨f0, f1, f2, f3, f4, f5, f6, f7, f8, f9, f10, f11, f12⟩ := cells13 y1
      obtain ⟨t0, t1, t2, t3, t4, t5, t6, t7, t8, t9, t10, t11, t12⟩ := cells13 y2
      clear y1 y2 hb
      go_wp2_with fail
      refine (HK.out.2.2.1 _ HB3.out.1).mono ?_
      rintro e w4 ⟨rfl, hb⟩
      have HB4 := Lib.hid (show Below wr.heap.size wr w4 ∧ Below (wr.heap.size + 2) W w4 from ⟨HB3.out.1.trans (hb.mono HB3.out.1.size), HB3.out.2.trans (hb.mono (by have := HB3.out.2.size; have := HW.out.2.2.1; omega))⟩)
      obtain ⟨_, y1, y2⟩ := ST.out w4 HB4.out.2
      obtain ⟨f0, f1, f2, f3, f4, f5, f6, f7, f8, f9, f10, f11, f12⟩ := cells13 y1
      obtain ⟨t0, t1, t2, t3, t4, t5, t6, t7, t8, t9, t10, t11, t12⟩ := cells13 y2
      clear y1 y2 hb
      go_wp2_with fail
      refine (HK.out.2.2.2 _ HB4.out.1).mono ?_
      rintro e w5 ⟨rfl, hb⟩
      have HB5 := Lib.hid (show Below wr.heap.size wr w5 ∧ Below (wr.heap.size + 2) W w5 from ⟨HB4.out.1.trans (hb.mono HB4.out.1.size), HB4.out.2.trans (hb.mono (by have := HB4.out.2.size; have := HW.out.2.2.1; omega))⟩)
      obtain ⟨_, y1, y2⟩ := ST.out w5 HB5.out.2
      obtain ⟨f0, f1, f2, f3, f4, f5, f6, f7, f8, f9, f10, f11, f12⟩ := cells13 y1
      obtain ⟨t0, t1, t2, t3, t4, t5, t6, t7, t8, t9, t10, t11, t12⟩ := cells13 y2
      clear y1 y2 hb
      go_wp2_with fail
      go_roundw
      case rel => exact ⟨k + 1, by omega, by go_num, HB.out.trans (HB5.out.1.mono hz)⟩
      case measure => simp [RowKit.intOf]; omega
    · go_wp2_with fail
      exact bodyPost_ret (results_tmp rfl _ _ _) rfl ⟨rfl, HB.out⟩
end Go.Proofs.YtgceckejchdnlaaGreatDoor
