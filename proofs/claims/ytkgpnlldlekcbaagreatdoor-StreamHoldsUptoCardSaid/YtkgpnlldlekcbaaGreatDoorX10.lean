/- Packed texts: ClsReadAny. What each of them proves stands above its theorems; the conditions stand in these. -/
import Derived.Deep.Cut
import Derived.Deep.RegionWith
import Derived.Test.YtkgpnlldlekcbaaGreatDoorX8
namespace Go.Proofs.YtkgpnlldlekcbaaGreatDoor
open Go.RowKit Go.Lib

structure RdI (p g2 : Nat) (w : World) (Z : World) : Prop where
  rc : Z.heap[g2]? = some (.cells (clsA zeroK) 154 (0, 0))
  low : Below w.heap.size w Z
  n2 : g2 ≠ p
  hp : w.heap.size ≤ p
  h2 : w.heap.size ≤ g2
theorem RdI.turn {p g2 : Nat} {w Z Z' : World} (h : RdI p g2 w Z) (hg : Z.grownBy Z' (some p)) : RdI p g2 w Z' :=
  ⟨(hg.block _ (lt_of_block h.rc) (by have := h.n2; simp; omega)).trans h.rc, h.low.grown hg h.low.size (fun k e => by cases e; exact h.hp), h.n2, h.hp, h.h2⟩
theorem RdI.later {p g2 : Nat} {w Z Z' : World} (h : RdI p g2 w Z) (hb : Below Z.heap.size Z Z') : RdI p g2 w Z' := h.turn (grown_below hb _)
theorem RdI.facts {p g2 : Nat} {w Z : World} (h : RdI p g2 w Z) :
    (Z.cell? ⟨g2, 0, none⟩ = some (.int .u64 0) ∧ Z.cell? ⟨g2, 1, none⟩ = some (.int .u64 0) ∧ Z.cell? ⟨g2, 2, none⟩ = some (.int .u64 0) ∧ Z.cell? ⟨g2, 3, none⟩ = some (.int .u64 0)) ∧
    (Z.frozen? ⟨g2, 0, none⟩ = false ∧ Z.frozen? ⟨g2, 1, none⟩ = false ∧ Z.frozen? ⟨g2, 2, none⟩ = false ∧ Z.frozen? ⟨g2, 3, none⟩ = false) := res_four h.rc
theorem results_row_tmp2 {fn : Func} {p u v : Tmp} {ty : TypeId} (h : fn.results = #[.cell p ty, .tmp u, .tmp v]) (tmps : Array Value) (w : World) (g : Nat) (cs : Array Value)
    (hp : tmps.getD p undef = .pointer (some ⟨g, 0, none⟩)) (hl : (loadVar ty ⟨g, 0, none⟩).run Tryz.prog w = .ok (.agg cs) w) :
    (results fn tmps).run Tryz.prog w = .ok (.tuple #[.agg cs, tmps.getD u undef, tmps.getD v undef]) w := by
  have hp' : tmps[p]?.getD undef = .pointer (some ⟨g, 0, none⟩) := by simpa using hp
  simp [results, h, hp', asAddr, hl, Result.andThen]
theorem load_cls2 {w : World} {g : Nat} {cs : Array Value} (hg : w.heap[g]? = some (.cells cs 154 (0, 0))) (hz : cs.size = 4) : (loadVar 154 ⟨g, 0, none⟩).run Tryz.prog w = .ok (.agg cs) w :=
  run_loadVar_row w g 154 154 cs (0, 0) _ hg Tryz.underlying154 rfl (by rw [hz]; exact Tryz.infoCls)

/-- How the reading begins. -/
theorem read_start (s : ByteArray) (w : World) :
    ReadAt s (w.heap.size + 1 + 1) w.heap.size 0 (((w.alloc (.cells #[.string s] 9)).alloc (.cells #[.int .u64 0, .int .u64 0, .int .u64 0, .int .u64 0] 154)).alloc (.cells #[.int .i64 0] 3)) ∧
    RdI (w.heap.size + 1 + 1) (w.heap.size + 1) w (((w.alloc (.cells #[.string s] 9)).alloc (.cells #[.int .u64 0, .int .u64 0, .int .u64 0, .int .u64 0] 154)).alloc (.cells #[.int .i64 0] 3)) := by
  have h3 := heap_alloc_new ((w.alloc (.cells #[.string s] 9)).alloc (.cells #[.int .u64 0, .int .u64 0, .int .u64 0, .int .u64 0] 154)) (.cells #[.int .i64 0] 3)
  rw [World.size_alloc, World.size_alloc] at h3
  have h2 := heap_alloc_new (w.alloc (.cells #[.string s] 9)) (.cells #[.int .u64 0, .int .u64 0, .int .u64 0, .int .u64 0] 154)
  rw [World.size_alloc] at h2
  refine ⟨⟨h3, ?_, by omega, Nat.zero_le _⟩, ⟨?_, (((Below.refl _ w).alloc (Nat.le_refl _) _).alloc (by simp) _).alloc (by simp; omega) _, by omega, by omega, by omega⟩⟩
  · rw [Below.heap_alloc _ _ _ (by simp; omega), Below.heap_alloc _ _ _ (by simp)]; exact heap_alloc_new w _
  · rw [Below.heap_alloc _ _ _ (by simp)]; exact h2

/-- What 'listed' answers. -/
def ListedK (s : ByteArray) (p q k : Nat) (R : Option (Cl × Nat)) : Prop := ∀ w, ReadAt s p q k w →
    Calls Tryz.prog 221 #[.func (.func 219) #[] #[.pointer (some ⟨p, 0, none⟩), .pointer (some ⟨q, 0, none⟩)], .func (.func 220) #[] #[.pointer (some ⟨q, 0, none⟩), .pointer (some ⟨p, 0, none⟩)]] w fun e w' =>
      w.grownBy w' (some p) ∧ ((R = none ∧ e = .returned (.tuple #[clsV zeroK, .bool false])) ∨ (∃ K j, R = some (K, j) ∧ e = .returned (.tuple #[clsV K, .bool true]) ∧ ReadAt s p q j w'))

set_option maxHeartbeats 2000000 in
set_option maxRecDepth 100000 in
theorem read_none (s : ByteArray) (w : World) (hs : s.size ≤ 70000000000000) (h91 : ¬ s.data.toList[0]? = some 91) :
    Calls Tryz.prog 217 #[.string s] w fun e w' => e = readE none ∧ Below w.heap.size w w' := by
  obtain ⟨hr0, hi0⟩ := read_start s w
  have k1 : ∀ Z, ReadAt s (w.heap.size + 1 + 1) w.heap.size 0 Z → Calls Tryz.prog 219 #[.int .u8 91, .pointer (some ⟨w.heap.size + 1 + 1, 0, none⟩), .pointer (some ⟨w.heap.size, 0, none⟩)] Z fun e w' => e = .returned (.bool false) ∧ ReadAt s (w.heap.size + 1 + 1) w.heap.size 0 w' ∧ Z.grownBy w' (some (w.heap.size + 1 + 1)) := fun Z h => by
    have := mark_any s 91 _ _ 0 Z h hs
    rw [if_neg h91, decide_eq_false h91] at this
    exact this
  have HR := Lib.hid hr0
  have HI := Lib.hid hi0
  clear hr0 hi0 h91
  go_enter Tryz.func217, Tryz.ntmps217
  go_wp2_with (go_at_call 219; refine (k1 _ HR.out).mono ?_; clear k1; rintro e w1 ⟨rfl, hr1, hg1⟩; replace HI := Lib.hid (HI.out.turn hg1); obtain ⟨⟨r0, r1, r2, r3⟩, f0, f1, f2, f3⟩ := HI.out.facts; clear hr1 hg1)
  have hh := set_four (.int .u64 0) (.int .u64 0) (.int .u64 0) (.int .u64 0) HI.out.rc
  exact bodyPost_ret (v := .tuple #[clsV zeroK, .int .i64 0, .int .i64 2]) (results_row_tmp2 (p := 2) (u := 3) (v := 4) (ty := 154) Tryz.results217 _ _ (w.heap.size + 1) _ rfl (load_cls2 hh rfl)) rfl ⟨rfl, below_four HI.out.low HI.out.h2 _ _ _ _⟩

theorem listedK_none {s : ByteArray} {p q k : Nat} (h : ListedK s p q k none) : ∀ Z, ReadAt s p q k Z → Calls Tryz.prog 221 #[.func (.func 219) #[] #[.pointer (some ⟨p, 0, none⟩), .pointer (some ⟨q, 0, none⟩)], .func (.func 220) #[] #[.pointer (some ⟨q, 0, none⟩), .pointer (some ⟨p, 0, none⟩)]] Z fun e w' => e = .returned (.tuple #[.agg #[.int .u64 0, .int .u64 0, .int .u64 0, .int .u64 0], .bool false]) ∧ Z.grownBy w' (some p) := fun Z hr =>
  (h Z hr).mono fun e w' h => ⟨h.2.elim (fun h => h.2) (fun ⟨_, _, h, _⟩ => by cases h), h.1⟩
theorem listedK_some {s : ByteArray} {p q k n : Nat} {K : Cl} (h : ListedK s p q k (some (K, n))) : ∀ Z, ReadAt s p q k Z → Calls Tryz.prog 221 #[.func (.func 219) #[] #[.pointer (some ⟨p, 0, none⟩), .pointer (some ⟨q, 0, none⟩)], .func (.func 220) #[] #[.pointer (some ⟨q, 0, none⟩), .pointer (some ⟨p, 0, none⟩)]] Z fun e w' => e = .returned (.tuple #[.agg #[.int .u64 ((K 0).toNat : Int), .int .u64 ((K 1).toNat : Int), .int .u64 ((K 2).toNat : Int), .int .u64 ((K 3).toNat : Int)], .bool true]) ∧ ReadAt s p q n w' ∧ Z.grownBy w' (some p) := fun Z hr =>
  (h Z hr).mono fun e w' h => h.2.elim (fun h => by cases h.1) (fun ⟨K2, j, h2, h3, h4⟩ => by cases h2; exact ⟨h3, h4, h.1⟩)

theorem below_up {B : Nat} {a w w' : World} (h : Below B a w) (k : Below w.heap.size w w') (hB : B ≤ w.heap.size) : Below B a w' := h.trans (k.mono hB)
theorem rd_four {p g2 g : Nat} {w Z : World} (h : RdI p g2 w Z) (h1 : g ≠ g2) (hg : w.heap.size ≤ g) (a b c d : Value) : RdI p g2 w ((((Z.setCell ⟨g, 0, none⟩ a).setCell ⟨g, 1, none⟩ b).setCell ⟨g, 2, none⟩ c).setCell ⟨g, 3, none⟩ d) := by
  refine ⟨?_, below_four h.low hg _ _ _ _, h.n2, h.hp, h.h2⟩
  rw [Below.heap_setCell _ _ _ _ (by simp; omega), Below.heap_setCell _ _ _ _ (by simp; omega), Below.heap_setCell _ _ _ _ (by simp; omega), Below.heap_setCell _ _ _ _ (by simp; omega)]
  exact h.rc
theorem read_four2 {s : ByteArray} {p q k g : Nat} {Z : World} (h : ReadAt s p q k Z) (h1 : g ≠ p) (h2 : g ≠ q) (a b c d : Value) :
    ReadAt s p q k ((((Z.setCell ⟨g, 0, none⟩ a).setCell ⟨g, 1, none⟩ b).setCell ⟨g, 2, none⟩ c).setCell ⟨g, 3, none⟩ d) := by
  refine ⟨?_, ?_, h.ne, h.le⟩
  · rw [Below.heap_setCell _ _ _ _ (by simp; omega), Below.heap_setCell _ _ _ _ (by simp; omega), Below.heap_setCell _ _ _ _ (by simp; omega), Below.heap_setCell _ _ _ _ (by simp; omega)]
    exact h.at_
  · rw [Below.heap_setCell _ _ _ _ (by simp; omega), Below.heap_setCell _ _ _ _ (by simp; omega), Below.heap_setCell _ _ _ _ (by simp; omega), Below.heap_setCell _ _ _ _ (by simp; omega)]
    exact h.txt

set_option maxHeartbeats 8000000 in
set_option maxRecDepth 100000 in
theorem read_bad1 (s : ByteArray) (w : World) (hs : s.size ≤ 70000000000000) (h91 : s.data.toList[0]? = some 91) (h94 : ¬ s.data.toList[1]? = some 94)
    (kl : ListedK s (w.heap.size + 1 + 1) w.heap.size 1 none) :
    Calls Tryz.prog 217 #[.string s] w fun e w' => e = readE none ∧ Below w.heap.size w w' := by
  obtain ⟨hr0, hi0⟩ := read_start s w
  have k1 : ∀ Z, ReadAt s (w.heap.size + 1 + 1) w.heap.size 0 Z → Calls Tryz.prog 219 #[.int .u8 91, .pointer (some ⟨w.heap.size + 1 + 1, 0, none⟩), .pointer (some ⟨w.heap.size, 0, none⟩)] Z fun e w' => e = .returned (.bool true) ∧ ReadAt s (w.heap.size + 1 + 1) w.heap.size 1 w' ∧ Z.grownBy w' (some (w.heap.size + 1 + 1)) := fun Z h => by
    have := mark_any s 91 _ _ 0 Z h hs
    rw [if_pos h91, decide_eq_true h91] at this
    exact this
  have k2 : ∀ Z, ReadAt s (w.heap.size + 1 + 1) w.heap.size 1 Z → Calls Tryz.prog 219 #[.int .u8 94, .pointer (some ⟨w.heap.size + 1 + 1, 0, none⟩), .pointer (some ⟨w.heap.size, 0, none⟩)] Z fun e w' => e = .returned (.bool false) ∧ ReadAt s (w.heap.size + 1 + 1) w.heap.size 1 w' ∧ Z.grownBy w' (some (w.heap.size + 1 + 1)) := fun Z h => by
    have := mark_any s 94 _ _ 1 Z h hs
    rw [if_neg h94, decide_eq_false h94] at this
    exact this
  have k3 := listedK_none kl
  have HR := Lib.hid hr0
  have HI := Lib.hid hi0
  clear hr0 hi0 h91 h94 kl
  go_enter Tryz.func217, Tryz.ntmps217
  go_wp2_with (first | (go_at_call 219; with_reducible refine (k1 _ HR.out).mono ?_; clear k1; rintro e w1 ⟨rfl, hr1, hg1⟩; replace HI := Lib.hid (HI.out.turn hg1); replace HR := Lib.hid hr1; clear hr1 hg1) | (go_at_call 219; with_reducible refine (k2 _ HR.out).mono ?_; clear k2; rintro e w1 ⟨rfl, hr1, hg1⟩; replace HI := Lib.hid (HI.out.turn hg1); replace HR := Lib.hid hr1; clear hr1 hg1) | (go_at_call 221; with_reducible refine (k3 _ HR.out).mono ?_; clear k3; rintro e w2 ⟨rfl, hg2⟩; replace HI := Lib.hid (HI.out.turn hg2); clear hg2; obtain ⟨⟨r0, r1, r2, r3⟩, f0, f1, f2, f3⟩ := HI.out.facts; have hz2 := lt_of_block HI.out.rc))
  have hh := set_four (.int .u64 0) (.int .u64 0) (.int .u64 0) (.int .u64 0) HI.out.rc
  have hB := below_four HI.out.low HI.out.h2 (.int .u64 0) (.int .u64 0) (.int .u64 0) (.int .u64 0)
  exact bodyPost_ret (v := .tuple #[clsV zeroK, .int .i64 0, .int .i64 2]) (results_row_tmp2 (p := 2) (u := 3) (v := 4) (ty := 154) Tryz.results217 _ _ (w.heap.size + 1) _ rfl (load_cls2 ((Below.heap_alloc _ _ _ (by simp; omega)).trans hh) rfl)) rfl ⟨rfl, hB.alloc hB.size _⟩

set_option maxHeartbeats 8000000 in
set_option maxRecDepth 100000 in
theorem read_bad2 (s : ByteArray) (w : World) (hs : s.size ≤ 70000000000000) (h91 : s.data.toList[0]? = some 91) (h94 : s.data.toList[1]? = some 94)
    (kl : ListedK s (w.heap.size + 1 + 1) w.heap.size 2 none) :
    Calls Tryz.prog 217 #[.string s] w fun e w' => e = readE none ∧ Below w.heap.size w w' := by
  obtain ⟨hr0, hi0⟩ := read_start s w
  have k1 : ∀ Z, ReadAt s (w.heap.size + 1 + 1) w.heap.size 0 Z → Calls Tryz.prog 219 #[.int .u8 91, .pointer (some ⟨w.heap.size + 1 + 1, 0, none⟩), .pointer (some ⟨w.heap.size, 0, none⟩)] Z fun e w' => e = .returned (.bool true) ∧ ReadAt s (w.heap.size + 1 + 1) w.heap.size 1 w' ∧ Z.grownBy w' (some (w.heap.size + 1 + 1)) := fun Z h => by
    have := mark_any s 91 _ _ 0 Z h hs
    rw [if_pos h91, decide_eq_true h91] at this
    exact this
  have k2 : ∀ Z, ReadAt s (w.heap.size + 1 + 1) w.heap.size 1 Z → Calls Tryz.prog 219 #[.int .u8 94, .pointer (some ⟨w.heap.size + 1 + 1, 0, none⟩), .pointer (some ⟨w.heap.size, 0, none⟩)] Z fun e w' => e = .returned (.bool true) ∧ ReadAt s (w.heap.size + 1 + 1) w.heap.size 2 w' ∧ Z.grownBy w' (some (w.heap.size + 1 + 1)) := fun Z h => by
    have := mark_any s 94 _ _ 1 Z h hs
    rw [if_pos h94, decide_eq_true h94] at this
    exact this
  have k3 := listedK_none kl
  have HR := Lib.hid hr0
  have HI := Lib.hid hi0
  clear hr0 hi0 h91 h94 kl
  go_enter Tryz.func217, Tryz.ntmps217
  go_wp2_with (first | (go_at_call 219; with_reducible refine (k1 _ HR.out).mono ?_; clear k1; rintro e w1 ⟨rfl, hr1, hg1⟩; replace HI := Lib.hid (HI.out.turn hg1); replace HR := Lib.hid hr1; clear hr1 hg1) | (go_at_call 219; with_reducible refine (k2 _ HR.out).mono ?_; clear k2; rintro e w1 ⟨rfl, hr1, hg1⟩; replace HI := Lib.hid (HI.out.turn hg1); replace HR := Lib.hid hr1; clear hr1 hg1) | (go_at_call 221; with_reducible refine (k3 _ HR.out).mono ?_; clear k3; rintro e w2 ⟨rfl, hg2⟩; replace HI := Lib.hid (HI.out.turn hg2); clear hg2; obtain ⟨⟨r0, r1, r2, r3⟩, f0, f1, f2, f3⟩ := HI.out.facts; have hz2 := lt_of_block HI.out.rc))
  have hh := set_four (.int .u64 0) (.int .u64 0) (.int .u64 0) (.int .u64 0) HI.out.rc
  have hB := below_four HI.out.low HI.out.h2 (.int .u64 0) (.int .u64 0) (.int .u64 0) (.int .u64 0)
  exact bodyPost_ret (v := .tuple #[clsV zeroK, .int .i64 0, .int .i64 2]) (results_row_tmp2 (p := 2) (u := 3) (v := 4) (ty := 154) Tryz.results217 _ _ (w.heap.size + 1) _ rfl (load_cls2 ((Below.heap_alloc _ _ _ (by simp; omega)).trans hh) rfl)) rfl ⟨rfl, hB.alloc hB.size _⟩

set_option maxHeartbeats 8000000 in
set_option maxRecDepth 100000 in
theorem read_good1 (s : ByteArray) (K : Cl) (n : Nat) (w : World) (hs : s.size ≤ 70000000000000) (h91 : s.data.toList[0]? = some 91) (h94 : ¬ s.data.toList[1]? = some 94)
    (kl : ListedK s (w.heap.size + 1 + 1) w.heap.size 1 (some (K, n))) :
    Calls Tryz.prog 217 #[.string s] w fun e w' => e = readE (some (K, n)) ∧ Below w.heap.size w w' := by
  obtain ⟨hr0, hi0⟩ := read_start s w
  have k1 : ∀ Z, ReadAt s (w.heap.size + 1 + 1) w.heap.size 0 Z → Calls Tryz.prog 219 #[.int .u8 91, .pointer (some ⟨w.heap.size + 1 + 1, 0, none⟩), .pointer (some ⟨w.heap.size, 0, none⟩)] Z fun e w' => e = .returned (.bool true) ∧ ReadAt s (w.heap.size + 1 + 1) w.heap.size 1 w' ∧ Z.grownBy w' (some (w.heap.size + 1 + 1)) := fun Z h => by
    have := mark_any s 91 _ _ 0 Z h hs
    rw [if_pos h91, decide_eq_true h91] at this
    exact this
  have k2 : ∀ Z, ReadAt s (w.heap.size + 1 + 1) w.heap.size 1 Z → Calls Tryz.prog 219 #[.int .u8 94, .pointer (some ⟨w.heap.size + 1 + 1, 0, none⟩), .pointer (some ⟨w.heap.size, 0, none⟩)] Z fun e w' => e = .returned (.bool false) ∧ ReadAt s (w.heap.size + 1 + 1) w.heap.size 1 w' ∧ Z.grownBy w' (some (w.heap.size + 1 + 1)) := fun Z h => by
    have := mark_any s 94 _ _ 1 Z h hs
    rw [if_neg h94, decide_eq_false h94] at this
    exact this
  have k3 := listedK_some kl
  have HR := Lib.hid hr0
  have HI := Lib.hid hi0
  clear hr0 hi0 h91 h94 kl
  go_enter Tryz.func217, Tryz.ntmps217
  go_upto_region 10 with (first | (go_at_call 219; with_reducible refine (k1 _ HR.out).mono ?_; clear k1; rintro e w1 ⟨rfl, hr1, hg1⟩; replace HI := Lib.hid (HI.out.turn hg1); replace HR := Lib.hid hr1; clear hr1 hg1) | (go_at_call 219; with_reducible refine (k2 _ HR.out).mono ?_; clear k2; rintro e w1 ⟨rfl, hr1, hg1⟩; replace HI := Lib.hid (HI.out.turn hg1); replace HR := Lib.hid hr1; clear hr1 hg1) | (go_at_call 221; with_reducible refine (k3 _ HR.out).mono ?_; clear k3; rintro e w2 ⟨rfl, hr2, hg2⟩; replace HI := Lib.hid (HI.out.turn hg2); replace HR := Lib.hid hr2; clear hr2 hg2; have hz2 := lt_of_block HI.out.rc; have hz3 := lt_of_block HR.out.at_))
  -- the class stands in a block of its own from here on
  obtain ⟨V, hV⟩ : ∃ V, V = w2.alloc (.cells #[.int .u64 ((K 0).toNat : Int), .int .u64 ((K 1).toNat : Int), .int .u64 ((K 2).toNat : Int), .int .u64 ((K 3).toNat : Int)] 154) := ⟨_, rfl⟩
  obtain ⟨g9, hg9⟩ : ∃ g, g = w2.heap.size := ⟨_, rfl⟩
  have hb2 : Below w2.heap.size w2 V := by rw [hV]; exact (Below.refl _ w2).alloc (Nat.le_refl _) _
  have hc9 : V.heap[g9]? = some (.cells (clsA K) 154 (0, 0)) := by rw [hV, hg9]; exact heap_alloc_new w2 _
  replace HI := Lib.hid (HI.out.later hb2)
  replace HR := Lib.hid (HR.out.below hb2)
  have hzV : V.heap.size = g9 + 1 := by rw [hV, hg9]; simp
  rw [← hV, ← hg9]
  have h29 : w.heap.size + 1 < g9 := by omega
  have h39 : w.heap.size + 1 + 1 < g9 := by omega
  clear hV hg9 hb2 hz2 hz3
  obtain ⟨⟨r0, r1, r2, r3⟩, f0, f1, f2, f3⟩ := HI.out.facts
  obtain ⟨⟨m0, m1, m2, m3⟩, e0, e1, e2, e3⟩ := res_four hc9
  obtain ⟨p0, pf0⟩ := boxed HR.out.at_
  unfold wd at m0 m1 m2 m3
  go_wp2
  go_region
  have hh := set_four (.int .u64 ((K 0).toNat : Int)) (.int .u64 ((K 1).toNat : Int)) (.int .u64 ((K 2).toNat : Int)) (.int .u64 ((K 3).toNat : Int)) HI.out.rc
  have hB := below_four HI.out.low HI.out.h2 (.int .u64 ((K 0).toNat : Int)) (.int .u64 ((K 1).toNat : Int)) (.int .u64 ((K 2).toNat : Int)) (.int .u64 ((K 3).toNat : Int))
  go_wp2
  exact bodyPost_ret (v := .tuple #[clsV K, .int .i64 (n : Int), .int .i64 0]) (results_row_tmp2 (p := 2) (u := 3) (v := 4) (ty := 154) Tryz.results217 _ _ (w.heap.size + 1) _ rfl (load_cls2 hh rfl)) rfl ⟨rfl, hB.drew⟩

set_option maxHeartbeats 8000000 in
set_option maxRecDepth 100000 in
theorem read_good2 (s : ByteArray) (K : Cl) (n : Nat) (w : World) (hs : s.size ≤ 70000000000000) (h91 : s.data.toList[0]? = some 91) (h94 : s.data.toList[1]? = some 94)
    (kl : ListedK s (w.heap.size + 1 + 1) w.heap.size 2 (some (K, n))) :
    Calls Tryz.prog 217 #[.string s] w fun e w' => e = readE (some (notK (orK K (oneK 10)), n)) ∧ Below w.heap.size w w' := by
  obtain ⟨hr0, hi0⟩ := read_start s w
  have k1 : ∀ Z, ReadAt s (w.heap.size + 1 + 1) w.heap.size 0 Z → Calls Tryz.prog 219 #[.int .u8 91, .pointer (some ⟨w.heap.size + 1 + 1, 0, none⟩), .pointer (some ⟨w.heap.size, 0, none⟩)] Z fun e w' => e = .returned (.bool true) ∧ ReadAt s (w.heap.size + 1 + 1) w.heap.size 1 w' ∧ Z.grownBy w' (some (w.heap.size + 1 + 1)) := fun Z h => by
    have := mark_any s 91 _ _ 0 Z h hs
    rw [if_pos h91, decide_eq_true h91] at this
    exact this
  have k2 : ∀ Z, ReadAt s (w.heap.size + 1 + 1) w.heap.size 1 Z → Calls Tryz.prog 219 #[.int .u8 94, .pointer (some ⟨w.heap.size + 1 + 1, 0, none⟩), .pointer (some ⟨w.heap.size, 0, none⟩)] Z fun e w' => e = .returned (.bool true) ∧ ReadAt s (w.heap.size + 1 + 1) w.heap.size 2 w' ∧ Z.grownBy w' (some (w.heap.size + 1 + 1)) := fun Z h => by
    have := mark_any s 94 _ _ 1 Z h hs
    rw [if_pos h94, decide_eq_true h94] at this
    exact this
  have k3 := listedK_some kl
  have HR := Lib.hid hr0
  have HI := Lib.hid hi0
  clear hr0 hi0 h91 h94 kl
  go_enter Tryz.func217, Tryz.ntmps217
  go_upto_region 10 with (first | (go_at_call 219; with_reducible refine (k1 _ HR.out).mono ?_; clear k1; rintro e w1 ⟨rfl, hr1, hg1⟩; replace HI := Lib.hid (HI.out.turn hg1); replace HR := Lib.hid hr1; clear hr1 hg1) | (go_at_call 219; with_reducible refine (k2 _ HR.out).mono ?_; clear k2; rintro e w1 ⟨rfl, hr1, hg1⟩; replace HI := Lib.hid (HI.out.turn hg1); replace HR := Lib.hid hr1; clear hr1 hg1) | (go_at_call 221; with_reducible refine (k3 _ HR.out).mono ?_; clear k3; rintro e w2 ⟨rfl, hr2, hg2⟩; replace HI := Lib.hid (HI.out.turn hg2); replace HR := Lib.hid hr2; clear hr2 hg2; have hz2 := lt_of_block HI.out.rc; have hz3 := lt_of_block HR.out.at_))
  -- the class stands in a block of its own from here on
  obtain ⟨V, hV⟩ : ∃ V, V = w2.alloc (.cells #[.int .u64 ((K 0).toNat : Int), .int .u64 ((K 1).toNat : Int), .int .u64 ((K 2).toNat : Int), .int .u64 ((K 3).toNat : Int)] 154) := ⟨_, rfl⟩
  obtain ⟨g9, hg9⟩ : ∃ g, g = w2.heap.size := ⟨_, rfl⟩
  have hb2 : Below w2.heap.size w2 V := by rw [hV]; exact (Below.refl _ w2).alloc (Nat.le_refl _) _
  have hc9 : V.heap[g9]? = some (.cells (clsA K) 154 (0, 0)) := by rw [hV, hg9]; exact heap_alloc_new w2 _
  replace HI := Lib.hid (HI.out.later hb2)
  replace HR := Lib.hid (HR.out.below hb2)
  have hzV : V.heap.size = g9 + 1 := by rw [hV, hg9]; simp
  rw [← hV, ← hg9]
  have h29 : w.heap.size + 1 < g9 := by omega
  have h39 : w.heap.size + 1 + 1 < g9 := by omega
  clear hV hg9 hb2 hz2 hz3
  obtain ⟨⟨m0, m1, m2, m3⟩, e0, e1, e2, e3⟩ := res_four hc9
  unfold wd at m0 m1 m2 m3
  obtain ⟨K1, hK1⟩ : ∃ k, k = orK K (oneK 10) := ⟨_, rfl⟩
  obtain ⟨K3, hK3⟩ : ∃ k, k = notK K1 := ⟨_, rfl⟩
  have k4 : ∀ Z, Calls Tryz.prog 216 #[.int .u8 10] Z fun e w' => e = .returned (.agg #[.int .u64 ((oneK 10 0).toNat : Int), .int .u64 ((oneK 10 1).toNat : Int), .int .u64 ((oneK 10 2).toNat : Int), .int .u64 ((oneK 10 3).toNat : Int)]) ∧ Below Z.heap.size Z w' := fun Z => one_any 10 Z (by omega) (by omega)
  have k5 : ∀ Z, Calls Tryz.prog 222 #[.agg #[.int .u64 ((K 0).toNat : Int), .int .u64 ((K 1).toNat : Int), .int .u64 ((K 2).toNat : Int), .int .u64 ((K 3).toNat : Int)], .agg #[.int .u64 ((oneK 10 0).toNat : Int), .int .u64 ((oneK 10 1).toNat : Int), .int .u64 ((oneK 10 2).toNat : Int), .int .u64 ((oneK 10 3).toNat : Int)]] Z fun e w' => e = .returned (.agg #[.int .u64 ((K1 0).toNat : Int), .int .u64 ((K1 1).toNat : Int), .int .u64 ((K1 2).toNat : Int), .int .u64 ((K1 3).toNat : Int)]) ∧ Below Z.heap.size Z w' := fun Z => by rw [hK1]; exact or_any K (oneK 10) Z
  have k6 : ∀ Z, Calls Tryz.prog 215 #[.agg #[.int .u64 ((K1 0).toNat : Int), .int .u64 ((K1 1).toNat : Int), .int .u64 ((K1 2).toNat : Int), .int .u64 ((K1 3).toNat : Int)]] Z fun e w' => e = .returned (.agg #[.int .u64 ((K3 0).toNat : Int), .int .u64 ((K3 1).toNat : Int), .int .u64 ((K3 2).toNat : Int), .int .u64 ((K3 3).toNat : Int)]) ∧ Below Z.heap.size Z w' := fun Z => by rw [hK3]; exact not_any K1 Z
  have HB : Below V.heap.size V V.drew := (Below.refl _ V).drew
  have HK := Lib.hid (show notK (orK K (oneK 10)) = K3 by rw [hK3, hK1])
  clear hK1 hK3
  go_wp2
  go_region_with (first
    | (go_at_call 216; with_reducible refine (k4 _).mono ?_; clear k4; rintro e w3 ⟨rfl, hb3⟩; have SB1 := below_up HB hb3 (by first | exact HB.size | simp); clear hb3; clear m0 m1 m2 m3 e0 e1 e2 e3; have hc := (SB1.block g9 (by omega)).trans hc9; obtain ⟨⟨m0, m1, m2, m3⟩, e0, e1, e2, e3⟩ := res_four hc; unfold wd at m0 m1 m2 m3; clear hc)
    | (go_at_call 222; with_reducible refine (k5 _).mono ?_; clear k5; rintro e w4 ⟨rfl, hb3⟩; have SB2 := below_up SB1 hb3 (by first | exact SB1.size | simp); clear hb3; clear m0 m1 m2 m3 e0 e1 e2 e3; have hc := (SB2.block g9 (by omega)).trans hc9; obtain ⟨⟨m0, m1, m2, m3⟩, e0, e1, e2, e3⟩ := res_four hc; unfold wd at m0 m1 m2 m3; clear hc)
    | (go_at_call 215; with_reducible refine (k6 _).mono ?_; clear k6; rintro e w5 ⟨rfl, hb3⟩; have SB3 := below_up SB2 hb3 (by first | exact SB2.size | simp); clear hb3; clear m0 m1 m2 m3 e0 e1 e2 e3; have hc := (SB3.block g9 (by omega)).trans hc9; obtain ⟨⟨m0, m1, m2, m3⟩, e0, e1, e2, e3⟩ := res_four hc; unfold wd at m0 m1 m2 m3; clear hc))
  all_goals
    have h9 := (SB3.block g9 (by omega)).trans hc9
    have hh9 := set_four (.int .u64 ((K3 0).toNat : Int)) (.int .u64 ((K3 1).toNat : Int)) (.int .u64 ((K3 2).toNat : Int)) (.int .u64 ((K3 3).toNat : Int)) h9
    have hI9 := HI.out.later SB3
    have hR9 := HR.out.below SB3
    replace HI := Lib.hid (rd_four (g := g9) hI9 (by omega) (by omega) (.int .u64 ((K3 0).toNat : Int)) (.int .u64 ((K3 1).toNat : Int)) (.int .u64 ((K3 2).toNat : Int)) (.int .u64 ((K3 3).toNat : Int)))
    replace HR := Lib.hid (read_four2 (g := g9) hR9 (by omega) (by omega) (.int .u64 ((K3 0).toNat : Int)) (.int .u64 ((K3 1).toNat : Int)) (.int .u64 ((K3 2).toNat : Int)) (.int .u64 ((K3 3).toNat : Int)))
    clear h9 hI9 hR9 SB1 SB2 SB3 HB m0 m1 m2 m3 e0 e1 e2 e3
    obtain ⟨U, hU⟩ : ∃ U, U = (((w5.setCell ⟨g9, 0, none⟩ (.int .u64 ((K3 0).toNat : Int))).setCell ⟨g9, 1, none⟩ (.int .u64 ((K3 1).toNat : Int))).setCell ⟨g9, 2, none⟩ (.int .u64 ((K3 2).toNat : Int))).setCell ⟨g9, 3, none⟩ (.int .u64 ((K3 3).toNat : Int)) := ⟨_, rfl⟩
    rw [← hU] at HI HR hh9 ⊢
    clear hU
    obtain ⟨⟨r0, r1, r2, r3⟩, f0, f1, f2, f3⟩ := HI.out.facts
    obtain ⟨⟨m0, m1, m2, m3⟩, e0, e1, e2, e3⟩ := res_four hh9
    obtain ⟨p0, pf0⟩ := boxed HR.out.at_
    clear hh9
    go_wp2
    go_region
    have hh := set_four (.int .u64 ((K3 0).toNat : Int)) (.int .u64 ((K3 1).toNat : Int)) (.int .u64 ((K3 2).toNat : Int)) (.int .u64 ((K3 3).toNat : Int)) HI.out.rc
    have hB := below_four HI.out.low HI.out.h2 (.int .u64 ((K3 0).toNat : Int)) (.int .u64 ((K3 1).toNat : Int)) (.int .u64 ((K3 2).toNat : Int)) (.int .u64 ((K3 3).toNat : Int))
    go_wp2
    exact bodyPost_ret (v := .tuple #[clsV K3, .int .i64 (n : Int), .int .i64 0]) (results_row_tmp2 (p := 2) (u := 3) (v := 4) (ty := 154) Tryz.results217 _ _ (w.heap.size + 1) _ rfl (load_cls2 hh rfl)) rfl ⟨by rw [HK.out]; rfl, hB.drew⟩
end Go.Proofs.YtkgpnlldlekcbaaGreatDoor
