/- Packed texts: ClsListed, ClsReadAll. What each of them proves stands above its theorems; the conditions stand in these. -/
import Derived.Deep.LoopGhost
import Derived.Deep.RegionWith
import Derived.Laws.ResultCell
import Derived.Test.YtkgpnlldlekcbaaGreatDoorX8
import Derived.Test.YtkgpnlldlekcbaaGreatDoorX10
namespace Go.Proofs.YtkgpnlldlekcbaaGreatDoor
open Go.RowKit Go.Lib

/-- What lies at the head of a round. -/
structure ListI (s : ByteArray) (p q g4 g6 : Nat) (w : World) (K : Cl) (pos : Nat) (Z : World) : Prop where
  r : ReadAt s p q pos Z
  kc : Z.heap[g6]? = some (.cells (clsA K) 154 (0, 0))
  rc : Z.heap[g4]? = some (.cells (clsA zeroK) 154 (0, 0))
  g : w.grownBy Z (some p)
  n4 : g4 ≠ p
  n6 : g6 ≠ p
  n46 : g4 ≠ g6
  h4 : w.heap.size ≤ g4
  h6 : w.heap.size ≤ g6
theorem ListI.turn {s : ByteArray} {p q g4 g6 : Nat} {w : World} {K : Cl} {pos pos' : Nat} {Z Z' : World} (h : ListI s p q g4 g6 w K pos Z) (hr : ReadAt s p q pos' Z') (hg : Z.grownBy Z' (some p)) : ListI s p q g4 g6 w K pos' Z' :=
  ⟨hr, (hg.block _ (lt_of_block h.kc) (by have := h.n6; simp; omega)).trans h.kc, (hg.block _ (lt_of_block h.rc) (by have := h.n4; simp; omega)).trans h.rc, h.g.trans hg, h.n4, h.n6, h.n46, h.h4, h.h6⟩
theorem grown_four {w Z : World} {p g : Nat} (h : w.grownBy Z (some p)) (hg : w.heap.size ≤ g) (a b c d : Value) :
    w.grownBy ((((Z.setCell ⟨g, 0, none⟩ a).setCell ⟨g, 1, none⟩ b).setCell ⟨g, 2, none⟩ c).setCell ⟨g, 3, none⟩ d) (some p) :=
  ⟨h.os, h.tape, h.output, by have := h.size; simp [World.setCell]; exact this, fun k hk hne => by
    rw [Below.heap_setCell _ _ _ _ (by simp; omega), Below.heap_setCell _ _ _ _ (by simp; omega), Below.heap_setCell _ _ _ _ (by simp; omega), Below.heap_setCell _ _ _ _ (by simp; omega)]
    exact h.block k hk hne⟩
theorem read_four {s : ByteArray} {p q k g : Nat} {Z : World} (h : ReadAt s p q k Z) (h1 : g ≠ p) (h2 : g ≠ q) (a b c d : Value) :
    ReadAt s p q k ((((Z.setCell ⟨g, 0, none⟩ a).setCell ⟨g, 1, none⟩ b).setCell ⟨g, 2, none⟩ c).setCell ⟨g, 3, none⟩ d) := by
  refine ⟨?_, ?_, h.ne, h.le⟩
  · rw [Below.heap_setCell _ _ _ _ (by simp; omega), Below.heap_setCell _ _ _ _ (by simp; omega), Below.heap_setCell _ _ _ _ (by simp; omega), Below.heap_setCell _ _ _ _ (by simp; omega)]
    exact h.at_
  · rw [Below.heap_setCell _ _ _ _ (by simp; omega), Below.heap_setCell _ _ _ _ (by simp; omega), Below.heap_setCell _ _ _ _ (by simp; omega), Below.heap_setCell _ _ _ _ (by simp; omega)]
    exact h.txt
theorem ListI.later {s : ByteArray} {p q g4 g6 : Nat} {w : World} {K : Cl} {pos : Nat} {Z Z' : World} (h : ListI s p q g4 g6 w K pos Z) (hb : Below Z.heap.size Z Z') : ListI s p q g4 g6 w K pos Z' := h.turn (h.r.below hb) (grown_below hb _)
theorem below_on {B : Nat} {a w w' : World} (h : Below B a w) (k : Below w.heap.size w w') (hB : B ≤ w.heap.size) : Below B a w' := h.trans (k.mono hB)
theorem ListI.store {s : ByteArray} {p q g4 g6 : Nat} {w : World} {K : Cl} {pos : Nat} {Z : World} (h : ListI s p q g4 g6 w K pos Z) (hq : q < w.heap.size) (K2 : Cl) :
    ListI s p q g4 g6 w K2 pos ((((Z.setCell ⟨g6, 0, none⟩ (.int .u64 ((K2 0).toNat : Int))).setCell ⟨g6, 1, none⟩ (.int .u64 ((K2 1).toNat : Int))).setCell ⟨g6, 2, none⟩ (.int .u64 ((K2 2).toNat : Int))).setCell ⟨g6, 3, none⟩ (.int .u64 ((K2 3).toNat : Int))) := by
  have h6 := h.h6
  have h46 := h.n46
  refine ⟨read_four h.r h.n6 (by omega) _ _ _ _, set_four _ _ _ _ h.kc, ?_, grown_four h.g h6 _ _ _ _, h.n4, h.n6, h46, h.h4, h6⟩
  rw [Below.heap_setCell _ _ _ _ (by simp; omega), Below.heap_setCell _ _ _ _ (by simp; omega), Below.heap_setCell _ _ _ _ (by simp; omega), Below.heap_setCell _ _ _ _ (by simp; omega)]
  exact h.rc
theorem ListI.facts {s : ByteArray} {p q g4 g6 : Nat} {w : World} {K : Cl} {pos : Nat} {Z : World} (h : ListI s p q g4 g6 w K pos Z) :
    (Z.cell? ⟨g4, 0, none⟩ = some (.int .u64 0) ∧ Z.cell? ⟨g4, 1, none⟩ = some (.int .u64 0) ∧ Z.cell? ⟨g4, 2, none⟩ = some (.int .u64 0) ∧ Z.cell? ⟨g4, 3, none⟩ = some (.int .u64 0)) ∧
    (Z.frozen? ⟨g4, 0, none⟩ = false ∧ Z.frozen? ⟨g4, 1, none⟩ = false ∧ Z.frozen? ⟨g4, 2, none⟩ = false ∧ Z.frozen? ⟨g4, 3, none⟩ = false) := res_four h.rc

theorem ListI.mine {s : ByteArray} {p q g4 g6 : Nat} {w : World} {K : Cl} {pos : Nat} {Z : World} (h : ListI s p q g4 g6 w K pos Z) :
    (Z.cell? ⟨g6, 0, none⟩ = some (.int .u64 ((K 0).toNat : Int)) ∧ Z.cell? ⟨g6, 1, none⟩ = some (.int .u64 ((K 1).toNat : Int)) ∧ Z.cell? ⟨g6, 2, none⟩ = some (.int .u64 ((K 2).toNat : Int)) ∧ Z.cell? ⟨g6, 3, none⟩ = some (.int .u64 ((K 3).toNat : Int))) ∧
    (Z.frozen? ⟨g6, 0, none⟩ = false ∧ Z.frozen? ⟨g6, 1, none⟩ = false ∧ Z.frozen? ⟨g6, 2, none⟩ = false ∧ Z.frozen? ⟨g6, 3, none⟩ = false) := res_four h.kc
/-- A result that lies in a block, beside a plain one. -/
theorem results_row_tmp {fn : Func} {p u : Tmp} {ty : TypeId} (h : fn.results = #[.cell p ty, .tmp u]) (tmps : Array Value) (w : World) (g : Nat) (cs : Array Value)
    (hp : tmps.getD p undef = .pointer (some ⟨g, 0, none⟩)) (hl : (loadVar ty ⟨g, 0, none⟩).run Tryz.prog w = .ok (.agg cs) w) :
    (results fn tmps).run Tryz.prog w = .ok (.tuple #[.agg cs, tmps.getD u undef]) w := by
  rw [results_cell_tmp h, hp]
  simp [asAddr, hl, Result.andThen]
theorem load_cls {w : World} {g : Nat} {cs : Array Value} (hg : w.heap[g]? = some (.cells cs 154 (0, 0))) (hz : cs.size = 4) : (loadVar 154 ⟨g, 0, none⟩).run Tryz.prog w = .ok (.agg cs) w :=
  run_loadVar_row w g 154 154 cs (0, 0) _ hg Tryz.underlying154 rfl (by rw [hz]; exact Tryz.infoCls)

set_option maxHeartbeats 40000000 in
set_option maxRecDepth 100000 in
theorem listed_any (s : ByteArray) (p q k : Nat) (w : World) (h : ReadAt s p q k w) (hs : s.size ≤ 70000000000000) (R : Option (Cl × Nat)) (hR : listedD (s.data.toList.drop k) zeroK k = R) :
    Calls Tryz.prog 221 #[.func (.func 219) #[] #[.pointer (some ⟨p, 0, none⟩), .pointer (some ⟨q, 0, none⟩)], .func (.func 220) #[] #[.pointer (some ⟨q, 0, none⟩), .pointer (some ⟨p, 0, none⟩)]] w fun e w' =>
      w.grownBy w' (some p) ∧ ((R = none ∧ e = .returned (.tuple #[clsV zeroK, .bool false])) ∨ (∃ K j, R = some (K, j) ∧ e = .returned (.tuple #[clsV K, .bool true]) ∧ ReadAt s p q j w')) := by
  have HH := Lib.hid h
  have HRR := Lib.hid hR
  have hpw := lt_of_block h.at_
  have hqw := lt_of_block h.txt
  clear h hR
  go_enter Tryz.func221, Tryz.ntmps221
  go_wp2
  go_loopg [7] (s.size + 1) (fun n e wr => ∃ (b : Bool) (pos : Nat) (K : Cl), e = .bool b ∧ Hid (ListI s p q w.heap.size (w.heap.size + 1) w K pos wr) ∧ Hid (b = true → R = some (K, pos)) ∧ Hid (b = false → R = listedD (s.data.toList.drop pos) K pos ∧ s.size + 1 ≤ n + pos))
  case atStart =>
    have hb : Below w.heap.size w ((w.alloc (.cells #[.int .u64 0, .int .u64 0, .int .u64 0, .int .u64 0] 154)).alloc (.cells #[.int .u64 0, .int .u64 0, .int .u64 0, .int .u64 0] 154)) :=
      ((Below.refl _ w).alloc (Nat.le_refl _) _).alloc (by simp) _
    refine ⟨false, k, zeroK, rfl, ⟨HH.out.below hb, ?_, ?_, grown_below hb _, by omega, by omega, by omega, by omega, by omega⟩, (fun h => by cases h), fun _ => ⟨HRR.out.symm, by omega⟩⟩
    · have := heap_alloc_new (w.alloc (.cells #[.int .u64 0, .int .u64 0, .int .u64 0, .int .u64 0] 154)) (.cells #[.int .u64 0, .int .u64 0, .int .u64 0, .int .u64 0] 154)
      rwa [World.size_alloc] at this
    · exact (Below.heap_alloc _ _ _ (by simp)).trans (heap_alloc_new w _)
  case round =>
    obtain ⟨b, pos, K, rfl, HI, HT, HF⟩ := hrel
    obtain ⟨⟨r0, r1, r2, r3⟩, f0, f1, f2, f3⟩ := HI.out.facts
    obtain ⟨⟨m0, m1, m2, m3⟩, e0, e1, e2, e3⟩ := HI.out.mine
    cases b with
    | true =>
      go_wp2
      have hh := set_four (.int .u64 ((K 0).toNat : Int)) (.int .u64 ((K 1).toNat : Int)) (.int .u64 ((K 2).toNat : Int)) (.int .u64 ((K 3).toNat : Int)) HI.out.rc
      refine bodyPost_ret (v := .tuple #[clsV K, .bool true]) (results_row_tmp (p := 4) (u := 5) (ty := 154) Tryz.results221 _ _ w.heap.size _ rfl (load_cls hh rfl)) rfl ⟨grown_four HI.out.g (Nat.le_refl _) _ _ _ _, .inr ⟨K, pos, HT.out (by trivial), rfl, read_four HI.out.r (by omega) (by omega) _ _ _ _⟩⟩
    | false =>
      obtain ⟨hRl, hgk⟩ := HF.out rfl
      have HRL := Lib.hid hRl
      have HGK := Lib.hid hgk
      have hle := HI.out.r.le
      have hlen : (s.data.toList.drop pos).length = s.size - pos := by rw [List.length_drop, Array.length_toList]; rfl
      have HL := Lib.hid hlen
      clear hRl hgk HT HF hlen
      cases hs1 : signD (s.data.toList.drop pos) with
      | none =>
        have hi : itemD (s.data.toList.drop pos) = none := by unfold itemD; rw [hs1]
        have hRn := HRL.out.trans (listed_none hi)
        have HRN := Lib.hid hRn
        have k1 : ∀ Z, ReadAt s p q pos Z → Calls Tryz.prog 220 #[.pointer (some ⟨q, 0, none⟩), .pointer (some ⟨p, 0, none⟩)] Z fun e w' => e = .returned (.tuple #[.int .u8 0, .bool false]) ∧ ReadAt s p q pos w' ∧ Z.grownBy w' (some p) := fun Z h => by
          have := take_any s p q pos Z h hs
          rw [hs1] at this
          exact this
        clear hRn hi hs1
        go_wp2_with (go_at_call 220; refine (k1 _ HI.out.r).mono ?_; clear r0 r1 r2 r3 f0 f1 f2 f3 m0 m1 m2 m3 e0 e1 e2 e3 k1; rintro e w1 ⟨rfl, hr1, hg1⟩; have HI1 := Lib.hid (HI.out.turn hr1 hg1); obtain ⟨⟨r0, r1, r2, r3⟩, f0, f1, f2, f3⟩ := HI1.out.facts; clear hr1 hg1)
        have hh := set_four (.int .u64 0) (.int .u64 0) (.int .u64 0) (.int .u64 0) HI1.out.rc
        exact bodyPost_ret (v := .tuple #[clsV zeroK, .bool false]) (results_row_tmp (p := 4) (u := 5) (ty := 154) Tryz.results221 _ _ w.heap.size _ rfl (load_cls hh rfl)) rfl ⟨grown_four HI1.out.g (Nat.le_refl _) _ _ _ _, .inl ⟨HRN.out, rfl⟩⟩
      | some r =>
        obtain ⟨x, n⟩ := r
        obtain ⟨u1, u2, u3, u4⟩ := signD_used hs1
        rw [HL.out] at u2
        obtain ⟨m, hm⟩ : ∃ m, m = n.toNat := ⟨_, rfl⟩
        have hdrop : ((s.data.toList.drop pos).drop n.toNat).head? = s.data.toList[pos + m]? := by rw [List.drop_drop, head_drop, hm]
        have k1 : ∀ Z, ReadAt s p q (pos) Z → Calls Tryz.prog 220 #[.pointer (some ⟨q, 0, none⟩), .pointer (some ⟨p, 0, none⟩)] Z fun e w' => e = .returned (.tuple #[.int .u8 x, .bool true]) ∧ ReadAt s p q ((pos + m)) w' ∧ Z.grownBy w' (some p) := fun Z h => by
          have := take_any s p q (pos) Z h hs
          rw [hs1] at this
          rw [hm]; exact this
        by_cases h45 : s.data.toList[pos + m]? = some 45
        · cases hs2 : signD (s.data.toList.drop (pos + m + 1)) with
          | none =>
            have hi : itemD (s.data.toList.drop pos) = none := by unfold itemD; rw [hs1]; dsimp only; rw [if_pos (hdrop.trans h45), List.drop_drop, show pos + (n.toNat + 1) = pos + m + 1 by omega, hs2]
            have hRn := HRL.out.trans (listed_none hi)
            have HRN := Lib.hid hRn
            have k2 : ∀ Z, ReadAt s p q ((pos + m)) Z → Calls Tryz.prog 219 #[.int .u8 45, .pointer (some ⟨p, 0, none⟩), .pointer (some ⟨q, 0, none⟩)] Z fun e w' => e = .returned (.bool true) ∧ ReadAt s p q ((pos + m + 1)) w' ∧ Z.grownBy w' (some p) := fun Z h => by
              have := mark_any s 45 p q ((pos + m)) Z h hs
              rw [if_pos h45, decide_eq_true h45] at this
              exact this
            have k3 : ∀ Z, ReadAt s p q ((pos + m + 1)) Z → Calls Tryz.prog 220 #[.pointer (some ⟨q, 0, none⟩), .pointer (some ⟨p, 0, none⟩)] Z fun e w' => e = .returned (.tuple #[.int .u8 0, .bool false]) ∧ ReadAt s p q ((pos + m + 1)) w' ∧ Z.grownBy w' (some p) := fun Z h => by
              have := take_any s p q ((pos + m + 1)) Z h hs
              rw [hs2] at this
              exact this
            clear hRn hi hs1 hs2 h45 hdrop
            go_wp2_with (first | (go_at_call 220; with_reducible refine (k1 _ HI.out.r).mono ?_; clear r0 r1 r2 r3 f0 f1 f2 f3 m0 m1 m2 m3 e0 e1 e2 e3 k1; rintro e w1 ⟨rfl, hr1, hg1⟩; replace HI := Lib.hid (HI.out.turn hr1 hg1); obtain ⟨⟨r0, r1, r2, r3⟩, f0, f1, f2, f3⟩ := HI.out.facts; obtain ⟨⟨m0, m1, m2, m3⟩, e0, e1, e2, e3⟩ := HI.out.mine; clear hr1 hg1) | (go_at_call 219; with_reducible refine (k2 _ HI.out.r).mono ?_; clear r0 r1 r2 r3 f0 f1 f2 f3 m0 m1 m2 m3 e0 e1 e2 e3 k2; rintro e w1 ⟨rfl, hr1, hg1⟩; replace HI := Lib.hid (HI.out.turn hr1 hg1); obtain ⟨⟨r0, r1, r2, r3⟩, f0, f1, f2, f3⟩ := HI.out.facts; obtain ⟨⟨m0, m1, m2, m3⟩, e0, e1, e2, e3⟩ := HI.out.mine; clear hr1 hg1) | (go_at_call 220; with_reducible refine (k3 _ HI.out.r).mono ?_; clear r0 r1 r2 r3 f0 f1 f2 f3 m0 m1 m2 m3 e0 e1 e2 e3 k3; rintro e w1 ⟨rfl, hr1, hg1⟩; replace HI := Lib.hid (HI.out.turn hr1 hg1); obtain ⟨⟨r0, r1, r2, r3⟩, f0, f1, f2, f3⟩ := HI.out.facts; obtain ⟨⟨m0, m1, m2, m3⟩, e0, e1, e2, e3⟩ := HI.out.mine; clear hr1 hg1))
            have hh := set_four (.int .u64 0) (.int .u64 0) (.int .u64 0) (.int .u64 0) HI.out.rc
            exact bodyPost_ret (v := .tuple #[clsV zeroK, .bool false]) (results_row_tmp (p := 4) (u := 5) (ty := 154) Tryz.results221 _ _ w.heap.size _ rfl (load_cls hh rfl)) rfl ⟨grown_four HI.out.g (Nat.le_refl _) _ _ _ _, .inl ⟨HRN.out, rfl⟩⟩
          | some r2 =>
            obtain ⟨y, n2⟩ := r2
            obtain ⟨v1, v2, v3, v4⟩ := signD_used hs2
            have hlen2 : (s.data.toList.drop (pos + m + 1)).length = s.size - (pos + m + 1) := by rw [List.length_drop, Array.length_toList]; rfl
            rw [hlen2] at v2
            obtain ⟨i2, hi2⟩ : ∃ m, m = n2.toNat := ⟨_, rfl⟩
            have k2 : ∀ Z, ReadAt s p q ((pos + m)) Z → Calls Tryz.prog 219 #[.int .u8 45, .pointer (some ⟨p, 0, none⟩), .pointer (some ⟨q, 0, none⟩)] Z fun e w' => e = .returned (.bool true) ∧ ReadAt s p q ((pos + m + 1)) w' ∧ Z.grownBy w' (some p) := fun Z h => by
              have := mark_any s 45 p q ((pos + m)) Z h hs
              rw [if_pos h45, decide_eq_true h45] at this
              exact this
            have k3 : ∀ Z, ReadAt s p q ((pos + m + 1)) Z → Calls Tryz.prog 220 #[.pointer (some ⟨q, 0, none⟩), .pointer (some ⟨p, 0, none⟩)] Z fun e w' => e = .returned (.tuple #[.int .u8 y, .bool true]) ∧ ReadAt s p q ((pos + m + 1 + i2)) w' ∧ Z.grownBy w' (some p) := fun Z h => by
              have := take_any s p q ((pos + m + 1)) Z h hs
              rw [hs2] at this
              rw [hi2]; exact this
            by_cases hlt : y < x
            · have hi : itemD (s.data.toList.drop pos) = none := by unfold itemD; rw [hs1]; dsimp only; rw [if_pos (hdrop.trans h45), List.drop_drop, show pos + (n.toNat + 1) = pos + m + 1 by omega, hs2]; dsimp only; rw [if_pos hlt]
              have hRn := HRL.out.trans (listed_none hi)
              have HRN := Lib.hid hRn
              clear hRn hi hs1 hs2 h45 hdrop hlen2
              go_wp2_with (first | (go_at_call 220; with_reducible refine (k1 _ HI.out.r).mono ?_; clear r0 r1 r2 r3 f0 f1 f2 f3 m0 m1 m2 m3 e0 e1 e2 e3 k1; rintro e w1 ⟨rfl, hr1, hg1⟩; replace HI := Lib.hid (HI.out.turn hr1 hg1); obtain ⟨⟨r0, r1, r2, r3⟩, f0, f1, f2, f3⟩ := HI.out.facts; obtain ⟨⟨m0, m1, m2, m3⟩, e0, e1, e2, e3⟩ := HI.out.mine; clear hr1 hg1) | (go_at_call 219; with_reducible refine (k2 _ HI.out.r).mono ?_; clear r0 r1 r2 r3 f0 f1 f2 f3 m0 m1 m2 m3 e0 e1 e2 e3 k2; rintro e w1 ⟨rfl, hr1, hg1⟩; replace HI := Lib.hid (HI.out.turn hr1 hg1); obtain ⟨⟨r0, r1, r2, r3⟩, f0, f1, f2, f3⟩ := HI.out.facts; obtain ⟨⟨m0, m1, m2, m3⟩, e0, e1, e2, e3⟩ := HI.out.mine; clear hr1 hg1) | (go_at_call 220; with_reducible refine (k3 _ HI.out.r).mono ?_; clear r0 r1 r2 r3 f0 f1 f2 f3 m0 m1 m2 m3 e0 e1 e2 e3 k3; rintro e w1 ⟨rfl, hr1, hg1⟩; replace HI := Lib.hid (HI.out.turn hr1 hg1); obtain ⟨⟨r0, r1, r2, r3⟩, f0, f1, f2, f3⟩ := HI.out.facts; obtain ⟨⟨m0, m1, m2, m3⟩, e0, e1, e2, e3⟩ := HI.out.mine; clear hr1 hg1))
              have hh := set_four (.int .u64 0) (.int .u64 0) (.int .u64 0) (.int .u64 0) HI.out.rc
              exact bodyPost_ret (v := .tuple #[clsV zeroK, .bool false]) (results_row_tmp (p := 4) (u := 5) (ty := 154) Tryz.results221 _ _ w.heap.size _ rfl (load_cls hh rfl)) rfl ⟨grown_four HI.out.g (Nat.le_refl _) _ _ _ _, .inl ⟨HRN.out, rfl⟩⟩
            · have hi : itemD (s.data.toList.drop pos) = some (x, y, m + 1 + i2) := by unfold itemD; rw [hs1]; dsimp only; rw [if_pos (hdrop.trans h45), List.drop_drop, show pos + (n.toNat + 1) = pos + m + 1 by omega, hs2]; dsimp only; rw [if_neg hlt, hm, hi2]
              clear hs1 hs2 h45 hdrop hlen2
              have hu := itemD_used hi
              have hx8 : (x.toNat : Int) = x := by omega
              obtain ⟨K2, hK2⟩ : ∃ K2, K2 = orK K (spanK x.toNat y.toNat) := ⟨_, rfl⟩
              have k5 : ∀ Z, Calls Tryz.prog 218 #[.int .u8 x, .int .u8 y] Z fun e w' => e = .returned (.agg #[.int .u64 ((spanK x.toNat y.toNat 0).toNat : Int), .int .u64 ((spanK x.toNat y.toNat 1).toNat : Int), .int .u64 ((spanK x.toNat y.toNat 2).toNat : Int), .int .u64 ((spanK x.toNat y.toNat 3).toNat : Int)]) ∧ Below Z.heap.size Z w' := fun Z => span_any x y Z (by omega) (by omega) (by omega) (by omega)
              have k6 : ∀ Z, Calls Tryz.prog 222 #[.agg #[.int .u64 ((K 0).toNat : Int), .int .u64 ((K 1).toNat : Int), .int .u64 ((K 2).toNat : Int), .int .u64 ((K 3).toNat : Int)], .agg #[.int .u64 ((spanK x.toNat y.toNat 0).toNat : Int), .int .u64 ((spanK x.toNat y.toNat 1).toNat : Int), .int .u64 ((spanK x.toNat y.toNat 2).toNat : Int), .int .u64 ((spanK x.toNat y.toNat 3).toNat : Int)]] Z fun e w' => e = .returned (.agg #[.int .u64 ((K2 0).toNat : Int), .int .u64 ((K2 1).toNat : Int), .int .u64 ((K2 2).toNat : Int), .int .u64 ((K2 3).toNat : Int)]) ∧ Below Z.heap.size Z w' := fun Z => by rw [hK2]; exact or_any K (spanK x.toNat y.toNat) Z
              have hjs : pos + m + 1 + i2 ≤ s.size := by omega
              have hend : (s.data.toList.drop pos |>.drop (m + 1 + i2)).head? = s.data.toList[pos + m + 1 + i2]? := by rw [List.drop_drop, head_drop]; try (first | rfl | (congr 1; omega))
              have HU := Lib.hid hu
              clear hu
              by_cases h93 : s.data.toList[pos + m + 1 + i2]? = some 93
              · have hR2 : R = some (K2, pos + m + 1 + i2 + 1) := by rw [HRL.out, listed_end hi (hend.trans h93), hK2]; try (first | rfl | (congr 2; omega))
                have k4 : ∀ Z, ReadAt s p q (pos + m + 1 + i2) Z → Calls Tryz.prog 219 #[.int .u8 93, .pointer (some ⟨p, 0, none⟩), .pointer (some ⟨q, 0, none⟩)] Z fun e w' => e = .returned (.bool true) ∧ ReadAt s p q ((pos + m + 1 + i2 + 1)) w' ∧ Z.grownBy w' (some p) := fun Z h => by
                  have := mark_any s 93 p q (pos + m + 1 + i2) Z h hs
                  rw [if_pos h93, decide_eq_true h93] at this
                  exact this
                have HR2 := Lib.hid hR2
                have HX := Lib.hid (And.intro hi (And.intro hjs hK2))
                clear hR2 hi hjs hK2 hend h93
                have hx0 := HU.out.2.2.1
                have hxy := HU.out.2.2.2.1
                have hy1 := HU.out.2.2.2.2
                go_upto_region 11 with (first | (go_at_call 220; with_reducible refine (k1 _ HI.out.r).mono ?_; clear r0 r1 r2 r3 f0 f1 f2 f3 m0 m1 m2 m3 e0 e1 e2 e3 k1; rintro e w1 ⟨rfl, hr1, hg1⟩; replace HI := Lib.hid (HI.out.turn hr1 hg1); obtain ⟨⟨r0, r1, r2, r3⟩, f0, f1, f2, f3⟩ := HI.out.facts; obtain ⟨⟨m0, m1, m2, m3⟩, e0, e1, e2, e3⟩ := HI.out.mine; clear hr1 hg1) | (go_at_call 219; with_reducible refine (k2 _ HI.out.r).mono ?_; clear r0 r1 r2 r3 f0 f1 f2 f3 m0 m1 m2 m3 e0 e1 e2 e3 k2; rintro e w1 ⟨rfl, hr1, hg1⟩; replace HI := Lib.hid (HI.out.turn hr1 hg1); obtain ⟨⟨r0, r1, r2, r3⟩, f0, f1, f2, f3⟩ := HI.out.facts; obtain ⟨⟨m0, m1, m2, m3⟩, e0, e1, e2, e3⟩ := HI.out.mine; clear hr1 hg1) | (go_at_call 220; with_reducible refine (k3 _ HI.out.r).mono ?_; clear r0 r1 r2 r3 f0 f1 f2 f3 m0 m1 m2 m3 e0 e1 e2 e3 k3; rintro e w1 ⟨rfl, hr1, hg1⟩; replace HI := Lib.hid (HI.out.turn hr1 hg1); obtain ⟨⟨r0, r1, r2, r3⟩, f0, f1, f2, f3⟩ := HI.out.facts; obtain ⟨⟨m0, m1, m2, m3⟩, e0, e1, e2, e3⟩ := HI.out.mine; clear hr1 hg1))
                have HB : Below w1.heap.size w1 w1.drew := (Below.refl _ w1).drew
                go_region_with (first
                    | (go_at_call 218; with_reducible refine (k5 _).mono ?_; rintro e w2 ⟨rfl, hb2⟩; have SB1 := below_on HB hb2 (by simp); have HI1 := Lib.hid (HI.out.later SB1); clear hb2 m0 m1 m2 m3 e0 e1 e2 e3; obtain ⟨⟨m0, m1, m2, m3⟩, e0, e1, e2, e3⟩ := HI1.out.mine)
                    | (go_at_call 222; with_reducible refine (k6 _).mono ?_; rintro e w3 ⟨rfl, hb3⟩; have SB2 := below_on SB1 hb3 SB1.size; have HI2 := Lib.hid (HI.out.later SB2); clear hb3 m0 m1 m2 m3 e0 e1 e2 e3; obtain ⟨⟨m0, m1, m2, m3⟩, e0, e1, e2, e3⟩ := HI2.out.mine))
                all_goals
                  replace HI := Lib.hid (HI2.out.store hqw K2)
                  clear HI1 HI2 SB1 SB2 HB k5 k6 m0 m1 m2 m3 e0 e1 e2 e3 r0 r1 r2 r3 f0 f1 f2 f3
                  go_wp2_with (go_at_call 219; with_reducible refine (k4 _ HI.out.r).mono ?_; clear k4; rintro e w4 ⟨rfl, hr1, hg1⟩; replace HI := Lib.hid (HI.out.turn hr1 hg1); clear hr1 hg1)
                  go_roundg (gk - 1)
                  case measure => have h1 := HGK.out; omega
                  case rel => exact ⟨true, pos + m + 1 + i2 + 1, K2, rfl, HI, fun _ => HR2.out, fun h => by cases h⟩
              · have hR2 : R = listedD (s.data.toList.drop (pos + m + 1 + i2)) K2 (pos + m + 1 + i2) := by
                  rw [HRL.out, listed_more hi (fun h => h93 (hend.symm.trans h)), hK2, List.drop_drop]; try (first | rfl | (congr 1 <;> first | omega | (congr 1; omega)))
                have k4 : ∀ Z, ReadAt s p q (pos + m + 1 + i2) Z → Calls Tryz.prog 219 #[.int .u8 93, .pointer (some ⟨p, 0, none⟩), .pointer (some ⟨q, 0, none⟩)] Z fun e w' => e = .returned (.bool false) ∧ ReadAt s p q ((pos + m + 1 + i2)) w' ∧ Z.grownBy w' (some p) := fun Z h => by
                  have := mark_any s 93 p q (pos + m + 1 + i2) Z h hs
                  rw [if_neg h93, decide_eq_false h93] at this
                  exact this
                have HR2 := Lib.hid hR2
                have HX := Lib.hid (And.intro hi (And.intro hjs hK2))
                clear hR2 hi hjs hK2 hend h93
                have hx0 := HU.out.2.2.1
                have hxy := HU.out.2.2.2.1
                have hy1 := HU.out.2.2.2.2
                go_upto_region 11 with (first | (go_at_call 220; with_reducible refine (k1 _ HI.out.r).mono ?_; clear r0 r1 r2 r3 f0 f1 f2 f3 m0 m1 m2 m3 e0 e1 e2 e3 k1; rintro e w1 ⟨rfl, hr1, hg1⟩; replace HI := Lib.hid (HI.out.turn hr1 hg1); obtain ⟨⟨r0, r1, r2, r3⟩, f0, f1, f2, f3⟩ := HI.out.facts; obtain ⟨⟨m0, m1, m2, m3⟩, e0, e1, e2, e3⟩ := HI.out.mine; clear hr1 hg1) | (go_at_call 219; with_reducible refine (k2 _ HI.out.r).mono ?_; clear r0 r1 r2 r3 f0 f1 f2 f3 m0 m1 m2 m3 e0 e1 e2 e3 k2; rintro e w1 ⟨rfl, hr1, hg1⟩; replace HI := Lib.hid (HI.out.turn hr1 hg1); obtain ⟨⟨r0, r1, r2, r3⟩, f0, f1, f2, f3⟩ := HI.out.facts; obtain ⟨⟨m0, m1, m2, m3⟩, e0, e1, e2, e3⟩ := HI.out.mine; clear hr1 hg1) | (go_at_call 220; with_reducible refine (k3 _ HI.out.r).mono ?_; clear r0 r1 r2 r3 f0 f1 f2 f3 m0 m1 m2 m3 e0 e1 e2 e3 k3; rintro e w1 ⟨rfl, hr1, hg1⟩; replace HI := Lib.hid (HI.out.turn hr1 hg1); obtain ⟨⟨r0, r1, r2, r3⟩, f0, f1, f2, f3⟩ := HI.out.facts; obtain ⟨⟨m0, m1, m2, m3⟩, e0, e1, e2, e3⟩ := HI.out.mine; clear hr1 hg1))
                have HB : Below w1.heap.size w1 w1.drew := (Below.refl _ w1).drew
                go_region_with (first
                    | (go_at_call 218; with_reducible refine (k5 _).mono ?_; rintro e w2 ⟨rfl, hb2⟩; have SB1 := below_on HB hb2 (by simp); have HI1 := Lib.hid (HI.out.later SB1); clear hb2 m0 m1 m2 m3 e0 e1 e2 e3; obtain ⟨⟨m0, m1, m2, m3⟩, e0, e1, e2, e3⟩ := HI1.out.mine)
                    | (go_at_call 222; with_reducible refine (k6 _).mono ?_; rintro e w3 ⟨rfl, hb3⟩; have SB2 := below_on SB1 hb3 SB1.size; have HI2 := Lib.hid (HI.out.later SB2); clear hb3 m0 m1 m2 m3 e0 e1 e2 e3; obtain ⟨⟨m0, m1, m2, m3⟩, e0, e1, e2, e3⟩ := HI2.out.mine))
                all_goals
                  replace HI := Lib.hid (HI2.out.store hqw K2)
                  clear HI1 HI2 SB1 SB2 HB k5 k6 m0 m1 m2 m3 e0 e1 e2 e3 r0 r1 r2 r3 f0 f1 f2 f3
                  go_wp2_with (go_at_call 219; with_reducible refine (k4 _ HI.out.r).mono ?_; clear k4; rintro e w4 ⟨rfl, hr1, hg1⟩; replace HI := Lib.hid (HI.out.turn hr1 hg1); clear hr1 hg1)
                  go_roundg (gk - 1)
                  case measure => have h1 := HGK.out; omega
                  case rel => exact ⟨false, pos + m + 1 + i2, K2, rfl, HI, (fun h => by cases h), fun _ => ⟨HR2.out, by have h1 := HGK.out; have h2 := HU.out.1; omega⟩⟩
        · have hi : itemD (s.data.toList.drop pos) = some (x, x, m) := by unfold itemD; rw [hs1]; dsimp only; rw [if_neg (fun h => h45 (hdrop.symm.trans h)), hm]
          have k2 : ∀ Z, ReadAt s p q ((pos + m)) Z → Calls Tryz.prog 219 #[.int .u8 45, .pointer (some ⟨p, 0, none⟩), .pointer (some ⟨q, 0, none⟩)] Z fun e w' => e = .returned (.bool false) ∧ ReadAt s p q ((pos + m)) w' ∧ Z.grownBy w' (some p) := fun Z h => by
            have := mark_any s 45 p q ((pos + m)) Z h hs
            rw [if_neg h45, decide_eq_false h45] at this
            exact this
          clear hs1 h45 hdrop
          have hu := itemD_used hi
          have hx8 : (x.toNat : Int) = x := by omega
          obtain ⟨K2, hK2⟩ : ∃ K2, K2 = orK K (spanK x.toNat x.toNat) := ⟨_, rfl⟩
          have k5 : ∀ Z, Calls Tryz.prog 218 #[.int .u8 x, .int .u8 x] Z fun e w' => e = .returned (.agg #[.int .u64 ((spanK x.toNat x.toNat 0).toNat : Int), .int .u64 ((spanK x.toNat x.toNat 1).toNat : Int), .int .u64 ((spanK x.toNat x.toNat 2).toNat : Int), .int .u64 ((spanK x.toNat x.toNat 3).toNat : Int)]) ∧ Below Z.heap.size Z w' := fun Z => span_any x x Z (by omega) (by omega) (by omega) (by omega)
          have k6 : ∀ Z, Calls Tryz.prog 222 #[.agg #[.int .u64 ((K 0).toNat : Int), .int .u64 ((K 1).toNat : Int), .int .u64 ((K 2).toNat : Int), .int .u64 ((K 3).toNat : Int)], .agg #[.int .u64 ((spanK x.toNat x.toNat 0).toNat : Int), .int .u64 ((spanK x.toNat x.toNat 1).toNat : Int), .int .u64 ((spanK x.toNat x.toNat 2).toNat : Int), .int .u64 ((spanK x.toNat x.toNat 3).toNat : Int)]] Z fun e w' => e = .returned (.agg #[.int .u64 ((K2 0).toNat : Int), .int .u64 ((K2 1).toNat : Int), .int .u64 ((K2 2).toNat : Int), .int .u64 ((K2 3).toNat : Int)]) ∧ Below Z.heap.size Z w' := fun Z => by rw [hK2]; exact or_any K (spanK x.toNat x.toNat) Z
          have hjs : pos + m ≤ s.size := by omega
          have hend : (s.data.toList.drop pos |>.drop (m)).head? = s.data.toList[pos + m]? := by rw [List.drop_drop, head_drop]; try (first | rfl | (congr 1; omega))
          have HU := Lib.hid hu
          clear hu
          by_cases h93 : s.data.toList[pos + m]? = some 93
          · have hR2 : R = some (K2, pos + m + 1) := by rw [HRL.out, listed_end hi (hend.trans h93), hK2]; try (first | rfl | (congr 2; omega))
            have k4 : ∀ Z, ReadAt s p q (pos + m) Z → Calls Tryz.prog 219 #[.int .u8 93, .pointer (some ⟨p, 0, none⟩), .pointer (some ⟨q, 0, none⟩)] Z fun e w' => e = .returned (.bool true) ∧ ReadAt s p q ((pos + m + 1)) w' ∧ Z.grownBy w' (some p) := fun Z h => by
              have := mark_any s 93 p q (pos + m) Z h hs
              rw [if_pos h93, decide_eq_true h93] at this
              exact this
            have HR2 := Lib.hid hR2
            have HX := Lib.hid (And.intro hi (And.intro hjs hK2))
            clear hR2 hi hjs hK2 hend h93
            have hx0 := HU.out.2.2.1
            have hxy := HU.out.2.2.2.1
            have hy1 := HU.out.2.2.2.2
            go_upto_region 11 with (first | (go_at_call 220; with_reducible refine (k1 _ HI.out.r).mono ?_; clear r0 r1 r2 r3 f0 f1 f2 f3 m0 m1 m2 m3 e0 e1 e2 e3 k1; rintro e w1 ⟨rfl, hr1, hg1⟩; replace HI := Lib.hid (HI.out.turn hr1 hg1); obtain ⟨⟨r0, r1, r2, r3⟩, f0, f1, f2, f3⟩ := HI.out.facts; obtain ⟨⟨m0, m1, m2, m3⟩, e0, e1, e2, e3⟩ := HI.out.mine; clear hr1 hg1) | (go_at_call 219; with_reducible refine (k2 _ HI.out.r).mono ?_; clear r0 r1 r2 r3 f0 f1 f2 f3 m0 m1 m2 m3 e0 e1 e2 e3 k2; rintro e w1 ⟨rfl, hr1, hg1⟩; replace HI := Lib.hid (HI.out.turn hr1 hg1); obtain ⟨⟨r0, r1, r2, r3⟩, f0, f1, f2, f3⟩ := HI.out.facts; obtain ⟨⟨m0, m1, m2, m3⟩, e0, e1, e2, e3⟩ := HI.out.mine; clear hr1 hg1))
            have HB : Below w1.heap.size w1 w1.drew := (Below.refl _ w1).drew
            go_region_with (first
                | (go_at_call 218; with_reducible refine (k5 _).mono ?_; rintro e w2 ⟨rfl, hb2⟩; have SB1 := below_on HB hb2 (by simp); have HI1 := Lib.hid (HI.out.later SB1); clear hb2 m0 m1 m2 m3 e0 e1 e2 e3; obtain ⟨⟨m0, m1, m2, m3⟩, e0, e1, e2, e3⟩ := HI1.out.mine)
                | (go_at_call 222; with_reducible refine (k6 _).mono ?_; rintro e w3 ⟨rfl, hb3⟩; have SB2 := below_on SB1 hb3 SB1.size; have HI2 := Lib.hid (HI.out.later SB2); clear hb3 m0 m1 m2 m3 e0 e1 e2 e3; obtain ⟨⟨m0, m1, m2, m3⟩, e0, e1, e2, e3⟩ := HI2.out.mine))
            all_goals
              replace HI := Lib.hid (HI2.out.store hqw K2)
              clear HI1 HI2 SB1 SB2 HB k5 k6 m0 m1 m2 m3 e0 e1 e2 e3 r0 r1 r2 r3 f0 f1 f2 f3
              go_wp2_with (go_at_call 219; with_reducible refine (k4 _ HI.out.r).mono ?_; clear k4; rintro e w4 ⟨rfl, hr1, hg1⟩; replace HI := Lib.hid (HI.out.turn hr1 hg1); clear hr1 hg1)
              go_roundg (gk - 1)
              case measure => have h1 := HGK.out; omega
              case rel => exact ⟨true, pos + m + 1, K2, rfl, HI, fun _ => HR2.out, fun h => by cases h⟩
          · have hR2 : R = listedD (s.data.toList.drop (pos + m)) K2 (pos + m) := by
              rw [HRL.out, listed_more hi (fun h => h93 (hend.symm.trans h)), hK2, List.drop_drop]; try (first | rfl | (congr 1 <;> first | omega | (congr 1; omega)))
            have k4 : ∀ Z, ReadAt s p q (pos + m) Z → Calls Tryz.prog 219 #[.int .u8 93, .pointer (some ⟨p, 0, none⟩), .pointer (some ⟨q, 0, none⟩)] Z fun e w' => e = .returned (.bool false) ∧ ReadAt s p q ((pos + m)) w' ∧ Z.grownBy w' (some p) := fun Z h => by
              have := mark_any s 93 p q (pos + m) Z h hs
              rw [if_neg h93, decide_eq_false h93] at this
              exact this
            have HR2 := Lib.hid hR2
            have HX := Lib.hid (And.intro hi (And.intro hjs hK2))
            clear hR2 hi hjs hK2 hend h93
            have hx0 := HU.out.2.2.1
            have hxy := HU.out.2.2.2.1
            have hy1 := HU.out.2.2.2.2
            go_upto_region 11 with (first | (go_at_call 220; with_reducible refine (k1 _ HI.out.r).mono ?_; clear r0 r1 r2 r3 f0 f1 f2 f3 m0 m1 m2 m3 e0 e1 e2 e3 k1; rintro e w1 ⟨rfl, hr1, hg1⟩; replace HI := Lib.hid (HI.out.turn hr1 hg1); obtain ⟨⟨r0, r1, r2, r3⟩, f0, f1, f2, f3⟩ := HI.out.facts; obtain ⟨⟨m0, m1, m2, m3⟩, e0, e1, e2, e3⟩ := HI.out.mine; clear hr1 hg1) | (go_at_call 219; with_reducible refine (k2 _ HI.out.r).mono ?_; clear r0 r1 r2 r3 f0 f1 f2 f3 m0 m1 m2 m3 e0 e1 e2 e3 k2; rintro e w1 ⟨rfl, hr1, hg1⟩; replace HI := Lib.hid (HI.out.turn hr1 hg1); obtain ⟨⟨r0, r1, r2, r3⟩, f0, f1, f2, f3⟩ := HI.out.facts; obtain ⟨⟨m0, m1, m2, m3⟩, e0, e1, e2, e3⟩ := HI.out.mine; clear hr1 hg1))
            have HB : Below w1.heap.size w1 w1.drew := (Below.refl _ w1).drew
            go_region_with (first
                | (go_at_call 218; with_reducible refine (k5 _).mono ?_; rintro e w2 ⟨rfl, hb2⟩; have SB1 := below_on HB hb2 (by simp); have HI1 := Lib.hid (HI.out.later SB1); clear hb2 m0 m1 m2 m3 e0 e1 e2 e3; obtain ⟨⟨m0, m1, m2, m3⟩, e0, e1, e2, e3⟩ := HI1.out.mine)
                | (go_at_call 222; with_reducible refine (k6 _).mono ?_; rintro e w3 ⟨rfl, hb3⟩; have SB2 := below_on SB1 hb3 SB1.size; have HI2 := Lib.hid (HI.out.later SB2); clear hb3 m0 m1 m2 m3 e0 e1 e2 e3; obtain ⟨⟨m0, m1, m2, m3⟩, e0, e1, e2, e3⟩ := HI2.out.mine))
            all_goals
              replace HI := Lib.hid (HI2.out.store hqw K2)
              clear HI1 HI2 SB1 SB2 HB k5 k6 m0 m1 m2 m3 e0 e1 e2 e3 r0 r1 r2 r3 f0 f1 f2 f3
              go_wp2_with (go_at_call 219; with_reducible refine (k4 _ HI.out.r).mono ?_; clear k4; rintro e w4 ⟨rfl, hr1, hg1⟩; replace HI := Lib.hid (HI.out.turn hr1 hg1); clear hr1 hg1)
              go_roundg (gk - 1)
              case measure => have h1 := HGK.out; omega
              case rel => exact ⟨false, pos + m, K2, rfl, HI, (fun h => by cases h), fun _ => ⟨HR2.out, by have h1 := HGK.out; have h2 := HU.out.1; omega⟩⟩
end Go.Proofs.YtkgpnlldlekcbaaGreatDoor
namespace Go.Proofs.YtkgpnlldlekcbaaGreatDoor
open Go.RowKit Go.Lib

theorem read_any (s : ByteArray) (w : World) (hs : s.size ≤ 70000000000000) :
    Calls Tryz.prog 217 #[.string s] w fun e w' => e = readE (readD s.data.toList) ∧ Below w.heap.size w w' := by
  have kl : ∀ k, ListedK s (w.heap.size + 1 + 1) w.heap.size k (listedD (s.data.toList.drop k) zeroK k) := fun k Z hr => listed_any s _ _ k Z hr hs _ rfl
  have e0 : s.data.toList.head? = s.data.toList[0]? := List.head?_eq_getElem?
  unfold readD
  rw [e0]
  by_cases h91 : s.data.toList[0]? = some 91
  · rw [if_pos h91]
    by_cases h94 : s.data.toList[1]? = some 94
    · rw [if_pos h94]
      have k2 := kl 2
      cases hR : listedD (s.data.toList.drop 2) zeroK 2 with
      | none =>
        rw [hR] at k2
        exact read_bad2 s w hs h91 h94 k2
      | some r =>
        obtain ⟨K, n⟩ := r
        rw [hR] at k2
        exact read_good2 s K n w hs h91 h94 k2
    · rw [if_neg h94]
      have k1 := kl 1
      cases hR : listedD (s.data.toList.drop 1) zeroK 1 with
      | none =>
        rw [hR] at k1
        exact read_bad1 s w hs h91 h94 k1
      | some r =>
        obtain ⟨K, n⟩ := r
        rw [hR] at k1
        exact read_good1 s K n w hs h91 h94 k1
  · rw [if_neg h91]
    exact read_none s w hs h91
end Go.Proofs.YtkgpnlldlekcbaaGreatDoor
