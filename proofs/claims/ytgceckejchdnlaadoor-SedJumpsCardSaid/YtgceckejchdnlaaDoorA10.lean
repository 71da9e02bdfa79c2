/- Packed texts: ClsReadAny, ClsListed, ClsReadAll. What each of them proves stands above its theorems; the conditions stand in these. -/
import Derived.Deep.Cut
import Derived.Deep.LoopGhost
import Derived.Deep.RegionWith
import Derived.Laws.ResultCell
import Derived.Test.YtgceckejchdnlaaDoorA8
namespace Go.Proofs.YtgceckejchdnlaaDoor
open Go.RowKit Go.Lib

structure RdI (p g2 : Nat) (w : World) (Z : World) : Prop where
  rc : Z.heap[g2]? = some (.cells (clsA zeroK) 55 (0, 0))
  low : Below w.heap.size w Z
  n2 : g2 ≠ p
  hp : w.heap.size ≤ p
  h2 : w.heap.size ≤ g2
theorem RdI.turn {p g2 : Nat} {w Z Z' : World} (h : RdI p g2 w Z) (hg : Z.grownBy Z' (some p)) : RdI p g2 w Z' :=
  ⟨(hg.block _ (lt_of_block h.rc) (by have := h.n2; simp; omega)).trans h.rc, h.low.grown hg h.low.size (fun k e => by cases e; exact h.hp), h.n2, h.hp, h.h2⟩
theorem RdI.later {p g2 : Nat} {w Z Z' : World} (h : RdI p g2 w Z) (hb : Below Z.heap.size Z Z') : RdI p g2 w Z' := h.turn (grown_below hb _)
theorem RdI.facts {p g2 : Nat} {w Z : World} (h : RdI p g2 w Z) :
    (Z.cell? ⟨g2, 0, none⟩ = some (.int .u64 0) ∧ Z.cell? ⟨g2, 1, none⟩ = some (.int .u64 0) ∧ Z.cell? ⟨g2, 2, none⟩ = some (.int .u64 0) ∧ Z.cell? ⟨g2, 3, none⟩ = some (.int .u64 0)) ∧
    (Z.frozen? ⟨g2, 0, none⟩ = false ∧ Z.frozen? ⟨g2, 1, none⟩ = false ∧ Z.frozen? ⟨g2, 2, none⟩ = false ∧ Z.frozen? ⟨g2, 3, none⟩ = false) := res_four h.rc
theorem results_row_tmp2 {fn : Func} {p u v : Tmp} {ty : TypeId} (h : fn.results = #[.cell p ty, .tmp u, .tmp v]) (tmps : Array Value) (w : World) (g : Nat) (cs : Array Value)
    (hp : tmps.getD p undef = .pointer (some ⟨g, 0, none⟩)) (hl : (loadVar ty ⟨g, 0, none⟩).run Tryd.prog w = .ok (.agg cs) w) :
    (results fn tmps).run Tryd.prog w = .ok (.tuple #[.agg cs, tmps.getD u undef, tmps.getD v undef]) w := by
  have hp' : tmps[p]?.getD undef = .pointer (some ⟨g, 0, none⟩) := by simpa using hp
  simp [results, h, hp', asAddr, hl, Result.andThen]
theorem load_cls2 {w : World} {g : Nat} {cs : Array Value} (hg : w.heap[g]? = some (.cells cs 55 (0, 0))) (hz : cs.size = 4) : (loadVar 55 ⟨g, 0, none⟩).run Tryd.prog w = .ok (.agg cs) w :=
  run_loadVar_row w g 55 55 cs (0, 0) _ hg Tryd.underlying55 rfl (by rw [hz]; exact Tryd.infoCls)

/-- How the reading begins. -/
theorem read_start (s : ByteArray) (w : World) :
    ReadAt s (w.heap.size + 1 + 1) w.heap.size 0 (((w.alloc (.cells #[.string s] 9)).alloc (.cells #[.int .u64 0, .int .u64 0, .int .u64 0, .int .u64 0] 55)).alloc (.cells #[.int .i64 0] 3)) ∧
    RdI (w.heap.size + 1 + 1) (w.heap.size + 1) w (((w.alloc (.cells #[.string s] 9)).alloc (.cells #[.int .u64 0, .int .u64 0, .int .u64 0, .int .u64 0] 55)).alloc (.cells #[.int .i64 0] 3)) := by
  have h3 := heap_alloc_new ((w.alloc (.cells #[.string s] 9)).alloc (.cells #[.int .u64 0, .int .u64 0, .int .u64 0, .int .u64 0] 55)) (.cells #[.int .i64 0] 3)
  rw [World.size_alloc, World.size_alloc] at h3
  have h2 := heap_alloc_new (w.alloc (.cells #[.string s] 9)) (.cells #[.int .u64 0, .int .u64 0, .int .u64 0, .int .u64 0] 55)
  rw [World.size_alloc] at h2
  refine ⟨⟨h3, ?_, by omega, Nat.zero_le _⟩, ⟨?_, (((Below.refl _ w).alloc (Nat.le_refl _) _).alloc (by simp) _).alloc (by simp; omega) _, by omega, by omega, by omega⟩⟩
  · rw [Below.heap_alloc _ _ _ (by simp; omega), Below.heap_alloc _ _ _ (by simp)]; exact heap_alloc_new w _
  · rw [Below.heap_alloc _ _ _ (by simp)]; exact h2

/-- What 'listed' answers. -/
def ListedK (s : ByteArray) (p q k : Nat) (R : Option (Cl × Nat)) : Prop := ∀ w, ReadAt s p q k w →
    Calls Tryd.prog 103 #[.func (.func 101) #[] #[.pointer (some ⟨p, 0, none⟩), .pointer (some ⟨q, 0, none⟩)], .func (.func 102) #[] #[.pointer (some ⟨q, 0, none⟩), .pointer (some ⟨p, 0, none⟩)]] w fun e w' =>
      w.grownBy w' (some p) ∧ ((R = none ∧ e = .returned (.tuple #[clsV zeroK, .bool false])) ∨ (∃ K j, R = some (K, j) ∧ e = .returned (.tuple #[clsV K, .bool true]) ∧ ReadAt s p q j w'))

set_option maxHeartbeats 2000000 in
set_option maxRecDepth 100000 in
theorem read_none (s : ByteArray) (w : World) (hs : s.size ≤ 70000000000000) (h91 : ¬ s.data.toList[0]? = some 91) :
    Calls Tryd.prog 99 #[.string s] w fun e w' => e = readE none ∧ Below w.heap.size w w' := by
  obtain ⟨hr0, hi0⟩ := read_start s w
  have k1 : ∀ Z, ReadAt s (w.heap.size + 1 + 1) w.heap.size 0 Z → Calls Tryd.prog 101 #[.int .u8 91, .pointer (some ⟨w.heap.size + 1 + 1, 0, none⟩), .pointer (some ⟨w.heap.size, 0, none⟩)] Z fun e w' => e = .returned (.bool false) ∧ ReadAt s (w.heap.size + 1 + 1) w.heap.size 0 w' ∧ Z.grownBy w' (some (w.heap.size + 1 + 1)) := fun Z h => by
    have := mark_any s 91 _ _ 0 Z h hs
    rw [if_neg h91, decide_eq_false h91] at this
    exact this
  have HR := Lib.hid hr0
  have HI := Lib.hid hi0
  clear hr0 hi0 h91
  go_enter Tryd.func99, Tryd.ntmps99
  go_wp2_with (go_at_call 101; refine (k1 _ HR.out).mono ?_; clear k1; rintro e w1 ⟨rfl, hr1, hg1⟩; replace HI := Lib.hid (HI.out.turn hg1); obtain ⟨⟨r0, r1, r2, r3⟩, f0, f1, f2, f3⟩ := HI.out.facts; clear hr1 hg1)
  have hh := set_four (.int .u64 0) (.int .u64 0) (.int .u64 0) (.int .u64 0) HI.out.rc
  exact bodyPost_ret (v := .tuple #[clsV zeroK, .int .i64 0, .int .i64 2]) (results_row_tmp2 (p := 2) (u := 3) (v := 4) (ty := 55) Tryd.results99 _ _ (w.heap.size + 1) _ rfl (load_cls2 hh rfl)) rfl ⟨rfl, below_four HI.out.low HI.out.h2 _ _ _ _⟩

theorem listedK_none {s : ByteArray} {p q k : Nat} (h : ListedK s p q k none) : ∀ Z, ReadAt s p q k Z → Calls Tryd.prog 103 #[.func (.func 101) #[] #[.pointer (some ⟨p, 0, none⟩), .pointer (some ⟨q, 0, none⟩)], .func (.func 102) #[] #[.pointer (some ⟨q, 0, none⟩), .pointer (some ⟨p, 0, none⟩)]] Z fun e w' => e = .returned (.tuple #[.agg #[.int .u64 0, .int .u64 0, .int .u64 0, .int .u64 0], .bool false]) ∧ Z.grownBy w' (some p) := fun Z hr =>
  (h Z hr).mono fun e w' h => ⟨h.2.elim (fun h => h.2) (fun ⟨_, _, h, _⟩ => by cases h), h.1⟩
theorem listedK_some {s : ByteArray} {p q k n : Nat} {K : Cl} (h : ListedK s p q k (some (K, n))) : ∀ Z, ReadAt s p q k Z → Calls Tryd.prog 103 #[.func (.func 101) #[] #[.pointer (some ⟨p, 0, none⟩), .pointer (some ⟨q, 0, none⟩)], .func (.func 102) #[] #[.pointer (some ⟨q, 0, none⟩), .pointer (some ⟨p, 0, none⟩)]] Z fun e w' => e = .returned (.tuple #[.agg #[.int .u64 ((K 0).toNat : Int), .int .u64 ((K 1).toNat : Int), .int .u64 ((K 2).toNat : Int), .int .u64 ((K 3).toNat : Int)], .bool true]) ∧ ReadAt s p q n w' ∧ Z.grownBy w' (some p) := fun Z hr =>
  (h Z hr).mono fun e w' h => h.2.elim (fun h => by cases h.1) (fun ⟨K2, j, h2, h3, h4⟩ => by cases h2; exact ⟨h3, h4, h.1⟩)

theorem below_up {B : Nat} {a w w' : World} (h : Below B a w) (k : Below w.heap.size w w') (hB : B ≤ w.heap.size) : Below B a w' := h.trans (k.mono hB)
theorem rd_four {p g2 g : Nat} {w Z : World} (h : RdI p g2 w Z) (h1 : g ≠ g2) (hg : w.heap.size ≤ g) (a b c d : Value) : RdI p g2 w ((((Z.setCell ⟨g, 0, none⟩ a).setCell ⟨g, 1, none⟩ b).setCell ⟨g, 2, none⟩ c).setCell ⟨g, 3, none⟩ d) := by
  refine ⟨?_, below_four h.low hg _ _ _ _, h.n2, h.hp, h.h2⟩
  rw [Below.heap_setCell _ _ _ _ (by simp; omega), Below.heap_setCell _ _ _ _ (by simp; omega), Below.heap_setCell _ _ _ _ (by simp; omega), Below.heap_setCell _ _ _ _ (by simp; omega)]
  exact h.rc
theorem read_four2 {s : ByteArray} {p q k g : Nat} {Z : World} (h : ReadAt s p q k Z) (h1 : g ≠ p) (h2 : g ≠ q) (a b c d : Value) :
    ReadAt s p q k ((((Z.setCell ⟨g, 0, none⟩ a).setCell ⟨g, 1, none⟩ b).setCell ⟨g, 2, none⟩ c).setCell ⟨g, 3, none⟩ d) := by
  refine ⟨?_, ?_, h.ne, h.le⟩
  · rw [Below.heap_setCell _ _ _ _ (by simp; omega), Below.heap_setCell _ _ _ _ (by simp; omega), Below.heap_setCell _ _ _ _ (by simp; omega), Below.heap_setCell _ _ _ _ (by simp; omega)]
    exact h.at_
  · rw [Below.heap_setCell _ _ _ _ (by simp; omega), Below.heap_setCell _ _ _ _ (by simp; omega), Below.heap_setCell _ _ _ _ (by simp; omega), Below.heap_setCell _ _ _ _ (by simp; omega)]
    exact h.txt

set_option maxHeartbeats 8000000 in
set_option maxRecDepth 100000 in
theorem read_bad1 (s : ByteArray) (w : World) (hs : s.size ≤ 70000000000000) (h91 : s.data.toList[0]? = some 91) (h94 : ¬ s.data.toList[1]? = some 94)
    (kl : ListedK s (w.heap.size + 1 + 1) w.heap.size 1 none) :
    Calls Tryd.prog 99 #[.string s] w fun e w' => e = readE none ∧ Below w.heap.size w w' := by
  obtain ⟨hr0, hi0⟩ := read_start s w
  have k1 : ∀ Z, ReadAt s (w.heap.size + 1 + 1) w.heap.size 0 Z → Calls Tryd.prog 101 #[.int .u8 91, .pointer (some ⟨w.heap.size + 1 + 1, 0, none⟩), .pointer (some ⟨w.heap.size, 0, none⟩)] Z fun e w' => e = .returned (.bool true) ∧ ReadAt s (w.heap.size + 1 + 1) w.heap.size 1 w' ∧ Z.grownBy w' (some (w.heap.size + 1 + 1)) := fun Z h => by
    have := mark_any s 91 _ _ 0 Z h hs
    rw [if_pos h91, decide_eq_true h91] at this
    exact this
  have k2 : ∀ Z, ReadAt s (w.heap.size + 1 + 1) w.heap.size 1 Z → Calls Tryd.prog 101 #[.int .u8 94, .pointer (some ⟨w.heap.size + 1 + 1, 0, none⟩), .pointer (some ⟨w.heap.size, 0, none⟩)] Z fun e w' => e = .returned (.bool false) ∧ ReadAt s (w.heap.size + 1 + 1) w.heap.size 1 w' ∧ Z.grownBy w' (some (w.heap.size + 1 + 1)) := fun Z h => by
    have := mark_any s 94 _ _ 1 Z h hs
    rw [if_neg h94, decide_eq_false h94] at this
    exact this
  have k3 := listedK_none kl
  have HR := Lib.hid hr0
  have HI := Lib.hid hi0
  clear hr0 hi0 h91 h94 kl
  go_enter Tryd.func99, Tryd.ntmps99
  go_wp2_with (first | (go_at_call 101; with_reducible refine (k1 _ HR.out).mono ?_; clear k1; rintro e w1 ⟨rfl, hr1, hg1⟩; replace HI := Lib.hid (HI.out.turn hg1); replace HR := Lib.hid hr1; clear hr1 hg1) | (go_at_call 101; with_reducible refine (k2 _ HR.out).mono ?_; clear k2; rintro e w1 ⟨rfl, hr1, hg1⟩; replace HI := Lib.hid (HI.out.turn hg1); replace HR := Lib.hid hr1; clear hr1 hg1) | (go_at_call 103; with_reducible refine (k3 _ HR.out).mono ?_; clear k3; rintro e w2 ⟨rfl, hg2⟩; replace HI := Lib.hid (HI.out.turn hg2); clear hg2; obtain ⟨⟨r0, r1, r2, r3⟩, f0, f1, f2, f3⟩ := HI.out.facts; have hz2 := lt_of_block HI.out.rc))
  have hh := set_four (.int .u64 0) (.int .u64 0) (.int .u64 0) (.int .u64 0) HI.out.rc
  have hB := below_four HI.out.low HI.out.h2 (.int .u64 0) (.int .u64 0) (.int .u64 0) (.int .u64 0)
  exact bodyPost_ret (v := .tuple #[clsV zeroK, .int .i64 0, .int .i64 2]) (results_row_tmp2 (p := 2) (u := 3) (v := 4) (ty := 55) Tryd.results99 _ _ (w.heap.size + 1) _ rfl (load_cls2 ((Below.heap_alloc _ _ _ (by simp; omega)).trans hh) rfl)) rfl ⟨rfl, hB.alloc hB.size _⟩

set_option maxHeartbeats 8000000 in
set_option maxRecDepth 100000 in
theorem read_bad2 (s : ByteArray) (w : World) (hs : s.size ≤ 70000000000000) (h91 : s.data.toList[0]? = some 91) (h94 : s.data.toList[1]? = some 94)
    (kl : ListedK s (w.heap.size + 1 + 1) w.heap.size 2 none) :
    Calls Tryd.prog 99 #[.string s] w fun e w' => e = readE none ∧ Below w.heap.size w w' := by
  obtain ⟨hr0, hi0⟩ := read_start s w
  have k1 : ∀ Z, ReadAt s (w.heap.size + 1 + 1) w.heap.size 0 Z → Calls Tryd.prog 101 #[.int .u8 91, .pointer (some ⟨w.heap.size + 1 + 1, 0, none⟩), .pointer (some ⟨w.heap.size, 0, none⟩)] Z fun e w' => e = .returned (.bool true) ∧ ReadAt s (w.heap.size + 1 + 1) w.heap.size 1 w' ∧ Z.grownBy w' (some (w.heap.size + 1 + 1)) := fun Z h => by
    have := mark_any s 91 _ _ 0 Z h hs
    rw [if_pos h91, decide_eq_true h91] at this
    exact this
  have k2 : ∀ Z, ReadAt s (w.heap.size + 1 + 1) w.heap.size 1 Z → Calls Tryd.prog 101 #[.int .u8 94, .pointer (some ⟨w.heap.size + 1 + 1, 0, none⟩), .pointer (some ⟨w.heap.size, 0, none⟩)] Z fun e w' => e = .returned (.bool true) ∧ ReadAt s (w.heap.size + 1 + 1) w.heap.size 2 w' ∧ Z.grownBy w' (some (w.heap.size + 1 + 1)) := fun Z h => by
    have := mark_any s 94 _ _ 1 Z h hs
    rw [if_pos h94, decide_eq_true h94] at this
    exact this
  have k3 := listedK_none kl
  have HR := Lib.hid hr0
  have HI := Lib.hid hi0
  clear hr0 hi0 h91 h94 kl
  go_enter Tryd.func99, Tryd.ntmps99
  go_wp2_with (first | (go_at_call 101; with_reducible refine (k1 _ HR.out).mono ?_; clear k1; rintro e w1 ⟨rfl, hr1, hg1⟩; replace HI := Lib.hid (HI.out.turn hg1); replace HR := Lib.hid hr1; clear hr1 hg1) | (go_at_call 101; with_reducible refine (k2 _ HR.out).mono ?_; clear k2; rintro e w1 ⟨rfl, hr1, hg1⟩; replace HI := Lib.hid (HI.out.turn hg1); replace HR := Lib.hid hr1; clear hr1 hg1) | (go_at_call 103; with_reducible refine (k3 _ HR.out).mono ?_; clear k3; rintro e w2 ⟨rfl, hg2⟩; replace HI := Lib.hid (HI.out.turn hg2); clear hg2; obtain ⟨⟨r0, r1, r2, r3⟩, f0, f1, f2, f3⟩ := HI.out.facts; have hz2 := lt_of_block HI.out.rc))
  have hh := set_four (.int .u64 0) (.int .u64 0) (.int .u64 0) (.int .u64 0) HI.out.rc
  have hB := below_four HI.out.low HI.out.h2 (.int .u64 0) (.int .u64 0) (.int .u64 0) (.int .u64 0)
  exact bodyPost_ret (v := .tuple #[clsV zeroK, .int .i64 0, .int .i64 2]) (results_row_tmp2 (p := 2) (u := 3) (v := 4) (ty := 55) Tryd.results99 _ _ (w.heap.size + 1) _ rfl (load_cls2 ((Below.heap_alloc _ _ _ (by simp; omega)).trans hh) rfl)) rfl ⟨rfl, hB.alloc hB.size _⟩

set_option maxHeartbeats 8000000 in
set_option maxRecDepth 100000 in
theorem read_good1 (s : ByteArray) (K : Cl) (n : Nat) (w : World) (hs : s.size ≤ 70000000000000) (h91 : s.data.toList[0]? = some 91) (h94 : ¬ s.data.toList[1]? = some 94)
    (kl : ListedK s (w.heap.size + 1 + 1) w.heap.size 1 (some (K, n))) :
    Calls Tryd.prog 99 #[.string s] w fun e w' => e = readE (some (K, n)) ∧ Below w.heap.size w w' := by
  obtain ⟨hr0, hi0⟩ := read_start s w
  have k1 : ∀ Z, ReadAt s (w.heap.size + 1 + 1) w.heap.size 0 Z → Calls Tryd.prog 101 #[.int .u8 91, .pointer (some ⟨w.heap.size + 1 + 1, 0, none⟩), .pointer (some ⟨w.heap.size, 0, none⟩)] Z fun e w' => e = .returned (.bool true) ∧ ReadAt s (w.heap.size + 1 + 1) w.heap.size 1 w' ∧ Z.grownBy w' (some (w.heap.size + 1 + 1)) := fun Z h => by
    have := mark_any s 91 _ _ 0 Z h hs
    rw [if_pos h91, decide_eq_true h91] at this
    exact this
  have k2 : ∀ Z, ReadAt s (w.heap.size + 1 + 1) w.heap.size 1 Z → Calls Tryd.prog 101 #[.int .u8 94, .pointer (some ⟨w.heap.size + 1 + 1, 0, none⟩), .pointer (some ⟨w.heap.size, 0, none⟩)] Z fun e w' => e = .returned (.bool false) ∧ ReadAt s (w.heap.size + 1 + 1) w.heap.size 1 w' ∧ Z.grownBy w' (some (w.heap.size + 1 + 1)) := fun Z h => by
    have := mark_any s 94 _ _ 1 Z h hs
    rw [if_neg h94, decide_eq_false h94] at this
    exact this
  have k3 := listedK_some kl
  have HR := Lib.hid hr0
  have HI := Lib.hid hi0
  clear hr0 hi0 h91 h94 kl
  go_enter Tryd.func99, Tryd.ntmps99
  go_upto_region 10 with (first | (go_at_call 101; with_reducible refine (k1 _ HR.out).mono ?_; clear k1; rintro e w1 ⟨rfl, hr1, hg1⟩; replace HI := Lib.hid (HI.out.turn hg1); replace HR := Lib.hid hr1; clear hr1 hg1) | (go_at_call 101; with_reducible refine (k2 _ HR.out).mono ?_; clear k2; rintro e w1 ⟨rfl, hr1, hg1⟩; replace HI := Lib.hid (HI.out.turn hg1); replace HR := Lib.hid hr1; clear hr1 hg1) | (go_at_call 103; with_reducible refine (k3 _ HR.out).mono ?_; clear k3; rintro e w2 ⟨rfl, hr2, hg2⟩; replace HI := Lib.hid (HI.out.turn hg2); replace HR := Lib.hid hr2; clear hr2 hg2; have hz2 := lt_of_block HI.out.rc; have hz3 := lt_of_block HR.out.at_))
  -- the class stands in a block of its own from here on
  obtain ⟨V, hV⟩ : ∃ V, V = w2.alloc (.cells #[.int .u64 ((K 0).toNat : Int), .int .u64 ((K 1).toNat : Int), .int .u64 ((K 2).toNat : Int), .int .u64 ((K 3).toNat : Int)] 55) := ⟨_, rfl⟩
  obtain ⟨g9, hg9⟩ : ∃ g, g = w2.heap.size := ⟨_, rfl⟩
  have hb2 : Below w2.heap.size w2 V := by rw [hV]; exact (Below.refl _ w2).alloc (Nat.le_refl _) _
  have hc9 : V.heap[g9]? = some (.cells (clsA K) 55 (0, 0)) := by rw [hV, hg9]; exact heap_alloc_new w2 _
  replace HI := Lib.hid (HI.out.later hb2)
  replace HR := Lib.hid (HR.out.below hb2)
  have hzV : V.heap.size = g9 + 1 := by rw [hV, hg9]; simp
  rw [← hV, ← hg9]
  have h29 : w.heap.size + 1 < g9 := by omega
  have h39 : w.heap.size + 1 + 1 < g9 := by omega
  clear hV hg9 hb2 hz2 hz3
  obtain ⟨⟨r0, r1, r2, r3⟩, f0, f1, f2, f3⟩ := HI.out.facts
  obtain ⟨⟨m0, m1, m2, m3⟩, e0, e1, e2, e3⟩ := res_four hc9
  obtain ⟨p0, pf0⟩ := boxed HR.out.at_
  unfold wd at m0 m1 m2 m3
  go_wp2
  go_region
  have hh := set_four (.int .u64 ((K 0).toNat : Int)) (.int .u64 ((K 1).toNat : Int)) (.int .u64 ((K 2).toNat : Int)) (.int .u64 ((K 3).toNat : Int)) HI.out.rc
  have hB := below_four HI.out.low HI.out.h2 (.int .u64 ((K 0).toNat : Int)) (.int .u64 ((K 1).toNat : Int)) (.int .u64 ((K 2).toNat : Int)) (.int .u64 ((K 3).toNat : Int))
  go_wp2
  exact bodyPost_ret (v := .tuple #[clsV K, .int .i64 (n : Int), .int .i64 0]) (results_row_tmp2 (p := 2) (u := 3) (v := 4) (ty := 55) Tryd.results99 _ _ (w.heap.size + 1) _ rfl (load_cls2 hh rfl)) rfl ⟨rfl, hB.drew⟩

set_option maxHeartbeats 8000000 in
set_option maxRecDepth 100000 in
theorem read_good2 (s : ByteArray) (K : Cl) (n : Nat) (w : World) (hs : s.size ≤ 70000000000000) (h91 : s.data.toList[0]? = some 91) (h94 : s.data.toList[1]? = some 94)
    (kl : ListedK s (w.heap.size + 1 + 1) w.heap.size 2 (some (K, n))) :
    Calls Tryd.prog 99 #[.string s] w fun e w' => e = readE (some (notK (orK K (oneK 10)), n)) ∧ Below w.heap.size w w' := by
  obtain ⟨hr0, hi0⟩ := read_start s w
  have k1 : ∀ Z, ReadAt s (w.heap.size + 1 + 1) w.heap.size 0 Z → Calls Tryd.prog 101 #[.int .u8 91, .pointer (some ⟨w.heap.size + 1 + 1, 0, none⟩), .pointer (some ⟨w.heap.size, 0, none⟩)] Z fun e w' => e = .returned (.bool true) ∧ ReadAt s (w.heap.size + 1 + 1) w.heap.size 1 w' ∧ Z.grownBy w' (some (w.heap.size + 1 + 1)) := fun Z h => by
    have := mark_any s 91 _ _ 0 Z h hs
    rw [if_pos h91, decide_eq_true h91] at this
    exact this
  have k2 : ∀ Z, ReadAt s (w.heap.size + 1 + 1) w.heap.size 1 Z → Calls Tryd.prog 101 #[.int .u8 94, .pointer (some ⟨w.heap.size + 1 + 1, 0, none⟩), .pointer (some ⟨w.heap.size, 0, none⟩)] Z fun e w' => e = .returned (.bool true) ∧ ReadAt s (w.heap.size + 1 + 1) w.heap.size 2 w' ∧ Z.grownBy w' (some (w.heap.size + 1 + 1)) := fun Z h => by
    have := mark_any s 94 _ _ 1 Z h hs
    rw [if_pos h94, decide_eq_true h94] at this
    exact this
  have k3 := listedK_some kl
  have HR := Lib.hid hr0
  have HI := Lib.hid hi0
  clear hr0 hi0 h91 h94 kl
  go_enter Tryd.func99, Tryd.ntmps99
  go_upto_region 10 with (first | (go_at_call 101; with_reducible refine (k1 _ HR.out).mono ?_; clear k1; rintro e w1 ⟨rfl, hr1, hg1⟩; replace HI := Lib.hid (HI.out.turn hg1); replace HR := Lib.hid hr1; clear hr1 hg1) | (go_at_call 101; with_reducible refine (k2 _ HR.out).mono ?_; clear k2; rintro e w1 ⟨rfl, hr1, hg1⟩; replace HI := Lib.hid (HI.out.turn hg1); replace HR := Lib.hid hr1; clear hr1 hg1) | (go_at_call 103; with_reducible refine (k3 _ HR.out).mono ?_; clear k3; rintro e w2 ⟨rfl, hr2, hg2⟩; replace HI := Lib.hid (HI.out.turn hg2); replace HR := Lib.hid hr2; clear hr2 hg2; have hz2 := lt_of_block HI.out.rc; have hz3 := lt_of_block HR.out.at_))
  -- the class stands in a block of its own from here on
  obtain ⟨V, hV⟩ : ∃ V, V = w2.alloc (.cells #[.int .u64 ((K 0).toNat : Int), .int .u64 ((K 1).toNat : Int), .int .u64 ((K 2).toNat : Int), .int .u64 ((K 3).toNat : Int)] 55) := ⟨_, rfl⟩
  obtain ⟨g9, hg9⟩ : ∃ g, g = w2.heap.size := ⟨_, rfl⟩
  have hb2 : Below w2.heap.size w2 V := by rw [hV]; exact (Below.refl _ w2).alloc (Nat.le_refl _) _
  have hc9 : V.heap[g9]? = some (.cells (clsA K) 55 (0, 0)) := by rw [hV, hg9]; exact heap_alloc_new w2 _
  replace HI := Lib.hid (HI.out.later hb2)
  replace HR := Lib.hid (HR.out.below hb2)
  have hzV : V.heap.size = g9 + 1 := by rw [hV, hg9]; simp
  rw [← hV, ← hg9]
  have h29 : w.heap.size + 1 < g9 := by omega
  have h39 : w.heap.size + 1 + 1 < g9 := by omega
  clear hV hg9 hb2 hz2 hz3
  obtain ⟨⟨m0, m1, m2, m3⟩, e0, e1, e2, e3⟩ := res_four hc9
  unfold wd at m0 m1 m2 m3
  obtain ⟨K1, hK1⟩ : ∃ k, k = orK K (oneK 10) := ⟨_, rfl⟩
  obtain ⟨K3, hK3⟩ : ∃ k, k = notK K1 := ⟨_, rfl⟩
  have k4 : ∀ Z, Calls Tryd.prog 98 #[.int .u8 10] Z fun e w' => e = .returned (.agg #[.int .u64 ((oneK 10 0).toNat : Int), .int .u64 ((oneK 10 1).toNat : Int), .int .u64 ((oneK 10 2).toNat : Int), .int .u64 ((oneK 10 3).toNat : Int)]) ∧ Below Z.heap.size Z w' := fun Z => one_any 10 Z (by omega) (by omega)
  have k5 : ∀ Z, Calls Tryd.prog 104 #[.agg #[.int .u64 ((K 0).toNat : Int), .int .u64 ((K 1).toNat : Int), .int .u64 ((K 2).toNat : Int), .int .u64 ((K 3).toNat : Int)], .agg #[.int .u64 ((oneK 10 0).toNat : Int), .int .u64 ((oneK 10 1).toNat : Int), .int .u64 ((oneK 10 2).toNat : Int), .int .u64 ((oneK 10 3).toNat : Int)]] Z fun e w' => e = .returned (.agg #[.int .u64 ((K1 0).toNat : Int), .int .u64 ((K1 1).toNat : Int), .int .u64 ((K1 2).toNat : Int), .int .u64 ((K1 3).toNat : Int)]) ∧ Below Z.heap.size Z w' := fun Z => by rw [hK1]; exact or_any K (oneK 10) Z
  have k6 : ∀ Z, Calls Tryd.prog 97 #[.agg #[.int .u64 ((K1 0).toNat : Int), .int .u64 ((K1 1).toNat : Int), .int .u64 ((K1 2).toNat : Int), .int .u64 ((K1 3).toNat : Int)]] Z fun e w' => e = .returned (.agg #[.int .u64 ((K3 0).toNat : Int), .int .u64 ((K3 1).toNat : Int), .int .u64 ((K3 2).toNat : Int), .int .u64 ((K3 3).toNat : Int)]) ∧ Below Z.heap.size Z w' := fun Z => by rw [hK3]; exact not_any K1 Z
  have HB : Below V.heap.size V V.drew := (Below.refl _ V).drew
  have HK := Lib.hid (show notK (orK K (oneK 10)) = K3 by rw [hK3, hK1])
  clear hK1 hK3
  go_wp2
  go_region_with (first
    | (go_at_call 98; with_reducible refine (k4 _).mono ?_; clear k4; rintro e w3 ⟨rfl, hb3⟩; have SB1 := below_up HB hb3 (by first | exact HB.size | simp); clear hb3; clear m0 m1 m2 m3 e0 e1 e2 e3; have hc := (SB1.block g9 (by omega)).trans hc9; obtain ⟨⟨m0, m1, m2, m3⟩, e0, e1, e2, e3⟩ := res_four hc; unfold wd at m0 m1 m2 m3; clear hc)
    | (go_at_call 104; with_reducible refine (k5 _).mono ?_; clear k5; rintro e w4 ⟨rfl, hb3⟩; have SB2 := below_up SB1 hb3 (by first | exact SB1.size | simp); clear hb3; clear m0 m1 m2 m3 e0 e1 e2 e3; have hc := (SB2.block g9 (by omega)).trans hc9; obtain ⟨⟨m0, m1, m2, m3⟩, e0, e1, e2, e3⟩ := res_four hc; unfold wd at m0 m1 m2 m3; clear hc)
    | (go_at_call 97; with_reducible refine (k6 _).mono ?_; clear k6; rintro e w5 ⟨rfl, hb3⟩; have SB3 := below_up SB2 hb3 (by first | exact SB2.size | simp); clear hb3; clear m0 m1 m2 m3 e0 e1 e2 e3; have hc := (SB3.block g9 (by omega)).trans hc9; obtain ⟨⟨m0, m1, m2, m3⟩, e0, e1, e2, e3⟩ := res_four hc; unfold wd at m0 m1 m2 m3; clear hc))
  all_goals
    have h9 := (SB3.block g9 (by omega)).trans hc9
    have hh9 := set_four (.int .u64 ((K3 0).toNat : Int)) (.int .u64 ((K3 1).toNat : Int)) (.int .u64 ((K3 2).toNat : Int)) (.int .u64 ((K3 3).toNat : Int)) h9
    have hI9 := HI.out.later SB3
    have hR9 := HR.out.below SB3
    replace HI := Lib.hid (rd_four (g := g9) hI9 (by omega) (by omega) (.int .u64 ((K3 0).toNat : Int)) (.int .u64 ((K3 1).toNat : Int)) (.int .u64 ((K3 2).toNat : Int)) (.int .u64 ((K3 3).toNat : Int)))
    replace HR := Lib.hid (read_four2 (g := g9) hR9 (by omega) (by omega) (.int .u64 ((K3 0).toNat : Int)) (.int .u64 ((K3 1).toNat : Int)) (.int .u64 ((K3 2).toNat : Int)) (.int .u64 ((K3 3).toNat : Int)))
    clear h9 hI9 hR9 SB1 SB2 SB3 HB m0 m1 m2 m3 e0 e1 e2 e3
    obtain ⟨U, hU⟩ : ∃ U, U = (((w5.setCell ⟨g9, 0, none⟩ (.int .u64 ((K3 0).toNat : Int))).setCell ⟨g9, 1, none⟩ (.int .u64 ((K3 1).toNat : Int))).setCell ⟨g9, 2, none⟩ (.int .u64 ((K3 2).toNat : Int))).setCell ⟨g9, 3, none⟩ (.int .u64 ((K3 3).toNat : Int)) := ⟨_, rfl⟩
    rw [← hU] at HI HR hh9 ⊢
    clear hU
    obtain ⟨⟨r0, r1, r2, r3⟩, f0, f1, f2, f3⟩ := HI.out.facts
    obtain ⟨⟨m0, m1, m2, m3⟩, e0, e1, e2, e3⟩ := res_four hh9
    obtain ⟨p0, pf0⟩ := boxed HR.out.at_
    clear hh9
    go_wp2
    go_region
    have hh := set_four (.int .u64 ((K3 0).toNat : Int)) (.int .u64 ((K3 1).toNat : Int)) (.int .u64 ((K3 2).toNat : Int)) (.int .u64 ((K3 3).toNat : Int)) HI.out.rc
    have hB := below_four HI.out.low HI.out.h2 (.int .u64 ((K3 0).toNat : Int)) (.int .u64 ((K3 1).toNat : Int)) (.int .u64 ((K3 2).toNat : Int)) (.int .u64 ((K3 3).toNat : Int))
    go_wp2
    exact bodyPost_ret (v := .tuple #[clsV K3, .int .i64 (n : Int), .int .i64 0]) (results_row_tmp2 (p := 2) (u := 3) (v := 4) (ty := 55) Tryd.results99 _ _ (w.heap.size + 1) _ rfl (load_cls2 hh rfl)) rfl ⟨by rw [HK.out]; rfl, hB.drew⟩
end Go.Proofs.YtgceckejchdnlaaDoor
namespace Go.Proofs.YtgceckejchdnlaaDoor
open Go.RowKit Go.Lib

/-- What lies at the head of a round. -/
structure ListI (s : ByteArray) (p q g4 g6 : Nat) (w : World) (K : Cl) (pos : Nat) (Z : World) : Prop where
  r : ReadAt s p q pos Z
  kc : Z.heap[g6]? = some (.cells (clsA K) 55 (0, 0))
  rc : Z.heap[g4]? = some (.cells (clsA zeroK) 55 (0, 0))
  g : w.grownBy Z (some p)
  n4 : g4 ≠ p
  n6 : g6 ≠ p
  n46 : g4 ≠ g6
  h4 : w.heap.size ≤ g4
  h6 : w.heap.size ≤ g6
theorem ListI.turn {s : ByteArray} {p q g4 g6 : Nat} {w : World} {K : Cl} {pos pos' : Nat} {Z Z' : World} (h : ListI s p q g4 g6 w K pos Z) (hr : ReadAt s p q pos' Z') (hg : Z.grownBy Z' (some p)) : ListI s p q g4 g6 w K pos' Z' :=
  ⟨hr, (hg.block _ (lt_of_block h.kc) (by have := h.n6; simp; omega)).trans h.kc, (hg.block _ (lt_of_block h.rc) (by have := h.n4; simp; omega)).trans h.rc, h.g.trans hg, h.n4, h.n6, h.n46, h.h4, h.h6⟩
theorem grown_four {w Z : World} {p g : Nat} (h : w.grownBy Z (some p)) (hg : w.heap.size ≤ g) (a b c d : Value) :
    w.grownBy ((((Z.setCell ⟨g, 0, none⟩ a).setCell ⟨g, 1, none⟩ b).setCell ⟨g, 2, none⟩ c).setCell ⟨g, 3, none⟩ d) (some p) :=
  ⟨h.os, h.tape, h.output, by have := h.size; simp [World.setCell]; exact this, fun k hk hne => by
    rw [Below.heap_setCell _ _ _ _ (by simp; omega), Below.heap_setCell _ _ _ _ (by simp; omega), Below.heap_setCell _ _ _ _ (by simp; omega), Below.heap_setCell _ _ _ _ (by simp; omega)]
    exact h.block k hk hne⟩
theorem read_four {s : ByteArray} {p q k g : Nat} {Z : World} (h : ReadAt s p q k Z) (h1 : g ≠ p) (h2 : g ≠ q) (a b c d : Value) :
    ReadAt s p q k ((((Z.setCell ⟨g, 0, none⟩ a).setCell ⟨g, 1, none⟩ b).setCell ⟨g, 2, none⟩ c).setCell ⟨g, 3, none⟩ d) := by
  refine ⟨?_, ?_, h.ne, h.le⟩
  · rw [Below.heap_setCell _ _ _ _ (by simp; omega), Below.heap_setCell _ _ _ _ (by simp; omega), Below.heap_setCell _ _ _ _ (by simp; omega), Below.heap_setCell _ _ _ _ (by simp; omega)]
    exact h.at_
  · rw [Below.heap_setCell _ _ _ _ (by simp; omega), Below.heap_setCell _ _ _ _ (by simp; omega), Below.heap_setCell _ _ _ _ (by simp; omega), Below.heap_setCell _ _ _ _ (by simp; omega)]
    exact h.txt
theorem ListI.later {s : ByteArray} {p q g4 g6 : Nat} {w : World} {K : Cl} {pos : Nat} {Z Z' : World} (h : ListI s p q g4 g6 w K pos Z) (hb : Below Z.heap.size Z Z') : ListI s p q g4 g6 w K pos Z' := h.turn (h.r.below hb) (grown_below hb _)
theorem below_on {B : Nat} {a w w' : World} (h : Below B a w) (k : Below w.heap.size w w') (hB : B ≤ w.heap.size) : Below B a w' := h.trans (k.mono hB)
theorem ListI.store {s : ByteArray} {p q g4 g6 : Nat} {w : World} {K : Cl} {pos : Nat} {Z : World} (h : ListI s p q g4 g6 w K pos Z) (hq : q < w.heap.size) (K2 : Cl) :
    ListI s p q g4 g6 w K2 pos ((((Z.setCell ⟨g6, 0, none⟩ (.int .u64 ((K2 0).toNat : Int))).setCell ⟨g6, 1, none⟩ (.int .u64 ((K2 1).toNat : Int))).setCell ⟨g6, 2, none⟩ (.int .u64 ((K2 2).toNat : Int))).setCell ⟨g6, 3, none⟩ (.int .u64 ((K2 3).toNat : Int))) := by
  have h6 := h.h6
  have h46 := h.n46
  refine ⟨read_four h.r h.n6 (by omega) _ _ _ _, set_four _ _ _ _ h.kc, ?_, grown_four h.g h6 _ _ _ _, h.n4, h.n6, h46, h.h4, h6⟩
  rw [Below.heap_setCell _ _ _ _ (by simp; omega), Below.heap_setCell _ _ _ _ (by simp; omega), Below.heap_setCell _ _ _ _ (by simp; omega), Below.heap_setCell _ _ _ _ (by simp; omega)]
  exact h.rc
theorem ListI.facts {s : ByteArray} {p q g4 g6 : Nat} {w : World} {K : Cl} {pos : Nat} {Z : World} (h : ListI s p q g4 g6 w K pos Z) :
    (Z.cell? ⟨g4, 0, none⟩ = some (.int .u64 0) ∧ Z.cell? ⟨g4, 1, none⟩ = some (.int .u64 0) ∧ Z.cell? ⟨g4, 2, none⟩ = some (.int .u64 0) ∧ Z.cell? ⟨g4, 3, none⟩ = some (.int .u64 0)) ∧
    (Z.frozen? ⟨g4, 0, none⟩ = false ∧ Z.frozen? ⟨g4, 1, none⟩ = false ∧ Z.frozen? ⟨g4, 2, none⟩ = false ∧ Z.frozen? ⟨g4, 3, none⟩ = false) := res_four h.rc

theorem ListI.mine {s : ByteArray} {p q g4 g6 : Nat} {w : World} {K : Cl} {pos : Nat} {Z : World} (h : ListI s p q g4 g6 w K pos Z) :
    (Z.cell? ⟨g6, 0, none⟩ = some (.int .u64 ((K 0).toNat : Int)) ∧ Z.cell? ⟨g6, 1, none⟩ = some (.int .u64 ((K 1).toNat : Int)) ∧ Z.cell? ⟨g6, 2, none⟩ = some (.int .u64 ((K 2).toNat : Int)) ∧ Z.cell? ⟨g6, 3, none⟩ = some (.int .u64 ((K 3).toNat : Int))) ∧
    (Z.frozen? ⟨g6, 0, none⟩ = false ∧ Z.frozen? ⟨g6, 1, none⟩ = false ∧ Z.frozen? ⟨g6, 2, none⟩ = false ∧ Z.frozen? ⟨g6, 3, none⟩ = false) := res_four h.kc
/-- A result that lies in a block, beside a plain one. -/
theorem results_row_tmp {fn : Func} {p u : Tmp} {ty : TypeId} (h : fn.results = #[.cell p ty, .tmp u]) (tmps : Array Value) (w : World) (g : Nat) (cs : Array Value)
    (hp : tmps.getD p undef = .pointer (some ⟨g, 0, none⟩)) (hl : (loadVar ty ⟨g, 0, none⟩).run Tryd.prog w = .ok (.agg cs) w) :
    (results fn tmps).run Tryd.prog w = .ok (.tuple #[.agg cs, tmps.getD u undef]) w := by
  rw [results_cell_tmp h, hp]
  simp [asAddr, hl, Result.andThen]
theorem load_cls {w : World} {g : Nat} {cs : Array Value} (hg : w.heap[g]? = some (.cells cs 55 (0, 0))) (hz : cs.size = 4) : (loadVar 55 ⟨g, 0, none⟩).run Tryd.prog w = .ok (.agg cs) w :=
  run_loadVar_row w g 55 55 cs (0, 0) _ hg Tryd.underlying55 rfl (by rw [hz]; exact Tryd.infoCls)

set_option maxHeartbeats 40000000 in
set_option maxRecDepth 100000 in
theorem listed_any (s : ByteArray) (p q k : Nat) (w : World) (h : ReadAt s p q k w) (hs : s.size ≤ 70000000000000) (R : Option (Cl × Nat)) (hR : listedD (s.data.toList.drop k) zeroK k = R) :
    Calls Tryd.prog 103 #[.func (.func 101) #[] #[.pointer (some ⟨p, 0, none⟩), .pointer (some ⟨q, 0, none⟩)], .func (.func 102) #[] #[.pointer (some ⟨q, 0, none⟩), .pointer (some ⟨p, 0, none⟩)]] w fun e w' =>
      w.grownBy w' (some p) ∧ ((R = none ∧ e = .returned (.tuple #[clsV zeroK, .bool false])) ∨ (∃ K j, R = some (K, j) ∧ e = .returned (.tuple #[clsV K, .bool true]) ∧ ReadAt s p q j w')) := by
  have HH := Lib.hid h
  have HRR := Lib.hid hR
  have hpw := lt_of_block h.at_
  have hqw := lt_of_block h.txt
  clear h hR
  go_enter Tryd.func103, Tryd.ntmps103
  go_wp2
  go_loopg [7] (s.size + 1) (fun n e wr => ∃ (b : Bool) (pos : Nat) (K : Cl), e = .bool b ∧ Hid (ListI s p q w.heap.size (w.heap.size + 1) w K pos wr) ∧ Hid (b = true → R = some (K, pos)) ∧ Hid (b = false → R = listedD (s.data.toList.drop pos) K pos ∧ s.size + 1 ≤ n + pos))
  case atStart =>
    have hb : Below w.heap.size w ((w.alloc (.cells #[.int .u64 0, .int .u64 0, .int .u64 0, .int .u64 0] 55)).alloc (.cells #[.int .u64 0, .int .u64 0, .int .u64 0, .int .u64 0] 55)) :=
      ((Below.refl _ w).alloc (Nat.le_refl _) _).alloc (by simp) _
    refine ⟨false, k, zeroK, rfl, ⟨HH.out.below hb, ?_, ?_, grown_below hb _, by omega, by omega, by omega, by omega, by omega⟩, (fun h => by cases h), fun _ => ⟨HRR.out.symm, by omega⟩⟩
    · have := heap_alloc_new (w.alloc (.cells #[.int .u64 0, .int .u64 0, .int .u64 0, .int .u64 0] 55)) (.cells #[.int .u64 0, .int .u64 0, .int .u64 0, .int .u64 0] 55)
      rwa [World.size_alloc] at this
    · exact (Below.heap_alloc _ _ _ (by simp)).trans (heap_alloc_new w _)
  case round =>
    obtain ⟨b, pos, K, rfl, HI, HT, HF⟩ := hrel
    obtain ⟨⟨r0, r1, r2, r3⟩, f0, f1, f2, f3⟩ := HI.out.facts
    obtain ⟨⟨m0, m1, m2, m3⟩, e0, e1, e2, e3⟩ := HI.out.mine
    cases b with
    | true =>
      go_wp2
      have hh := set_four (.int .u64 ((K 0).toNat : Int)) (.int .u64 ((K 1).toNat : Int)) (.int .u64 ((K 2).toNat : Int)) (.int .u64 ((K 3).toNat : Int)) HI.out.rc
      refine bodyPost_ret (v := .tuple #[clsV K, .bool true]) (results_row_tmp (p := 4) (u := 5) (ty := 55) Tryd.results103 _ _ w.heap.size _ rfl (load_cls hh rfl)) rfl ⟨grown_four HI.out.g (Nat.le_refl _) _ _ _ _, .inr ⟨K, pos, HT.out (by trivial), rfl, read_four HI.out.r (by omega) (by omega) _ _ _ _⟩⟩
    | false =>
      obtain ⟨hRl, hgk⟩ := HF.out rfl
      have HRL := Lib.hid hRl
      have HGK := Lib.hid hgk
      have hle := HI.out.r.le
      have hlen : (s.data.toList.drop pos).length = s.size - pos := by rw [List.length_drop, Array.length_toList]; rfl
      have HL := Lib.hid hlen
      clear hRl hgk HT HF hlen
      cases hs1 : signD (s.data.toList.drop pos) with
      | none =>
        have hi : itemD (s.data.toList.drop pos) = none := by unfold itemD; rw [hs1]
        have hRn := HRL.out.trans (listed_none hi)
        have HRN := Lib.hid hRn
        have k1 : ∀ Z, ReadAt s p q pos Z → Calls Tryd.prog 102 #[.pointer (some ⟨q, 0, none⟩), .pointer (some ⟨p, 0, none⟩)] Z fun e w' => e = .returned (.tuple #[.int .u8 0, .bool false]) ∧ ReadAt s p q pos w' ∧ Z.grownBy w' (some p) := fun Z h => by
          have := take_any s p q pos Z h hs
          rw [hs1] at this
          exact this
        clear hRn hi hs1
        go_wp2_with (go_at_call 102; refine (k1 _ HI.out.r).mono ?_; clear r0 r1 r2 r3 f0 f1 f2 f3 m0 m1 m2 m3 e0 e1 e2 e3 k1; rintro e w1 ⟨rfl, hr1, hg1⟩; have HI1 := Lib.hid (HI.out.turn hr1 hg1); obtain ⟨⟨r0, r1, r2, r3⟩, f0, f1, f2, f3⟩ := HI1.out.facts; clear hr1 hg1)
        have hh := set_four (.int .u64 0) (.int .u64 0) (.int .u64 0) (.int .u64 0) HI1.out.rc
        exact bodyPost_ret (v := .tuple #[clsV zeroK, .bool false]) (results_row_tmp (p := 4) (u := 5) (ty := 55) Tryd.results103 _ _ w.heap.size _ rfl (load_cls hh rfl)) rfl ⟨grown_four HI1.out.g (Nat.le_refl _) _ _ _ _, .inl ⟨HRN.out, rfl⟩⟩
      | some r =>
        obtain ⟨x, n⟩ := r
        obtain ⟨u1, u2, u3, u4⟩ := signD_used hs1
        rw [HL.out] at u2
        obtain ⟨m, hm⟩ : ∃ m, m = n.toNat := ⟨_, rfl⟩
        have hdrop : ((s.data.toList.drop pos).drop n.toNat).head? = s.data.toList[pos + m]? := by rw [List.drop_drop, head_drop, hm]
        have k1 : ∀ Z, ReadAt s p q (pos) Z → Calls Tryd.prog 102 #[.pointer (some ⟨q, 0, none⟩), .pointer (some ⟨p, 0, none⟩)] Z fun e w' => e = .returned (.tuple #[.int .u8 x, .bool true]) ∧ ReadAt s p q ((pos + m)) w' ∧ Z.grownBy w' (some p) := fun Z h => by
          have := take_any s p q (pos) Z h hs
          rw [hs1] at this
          rw [hm]; exact this
        by_cases h45 : s.data.toList[pos + m]? = some 45
        · cases hs2 : signD (s.data.toList.drop (pos + m + 1)) with
          | none =>
            have hi : itemD (s.data.toList.drop pos) = none := by unfold itemD; rw [hs1]; dsimp only; rw [if_pos (hdrop.trans h45), List.drop_drop, show pos + (n.toNat + 1) = pos + m + 1 by omega, hs2]
            have hRn := HRL.out.trans (listed_none hi)
            have HRN := Lib.hid hRn
            have k2 : ∀ Z, ReadAt s p q ((pos + m)) Z → Calls Tryd.prog 101 #[.int .u8 45, .pointer (some ⟨p, 0, none⟩), .pointer (some ⟨q, 0, none⟩)] Z fun e w' => e = .returned (.bool true) ∧ ReadAt s p q ((pos + m + 1)) w' ∧ Z.grownBy w' (some p) := fun Z h => by
              have := mark_any s 45 p q ((pos + m)) Z h hs
              rw [if_pos h45, decide_eq_true h45] at this
              exact this
            have k3 : ∀ Z, ReadAt s p q ((pos + m + 1)) Z → Calls Tryd.prog 102 #[.pointer (some ⟨q, 0, none⟩), .pointer (some ⟨p, 0, none⟩)] Z fun e w' => e = .returned (.tuple #[.int .u8 0, .bool false]) ∧ ReadAt s p q ((pos + m + 1)) w' ∧ Z.grownBy w' (some p) := fun Z h => by
              have := take_any s p q ((pos + m + 1)) Z h hs
              rw [hs2] at this
              exact this
            clear hRn hi hs1 hs2 h45 hdrop
            go_wp2_with (first | (go_at_call 102; with_reducible refine (k1 _ HI.out.r).mono ?_; clear r0 r1 r2 r3 f0 f1 f2 f3 m0 m1 m2 m3 e0 e1 e2 e3 k1; rintro e w1 ⟨rfl, hr1, hg1⟩; replace HI := Lib.hid (HI.out.turn hr1 hg1); obtain ⟨⟨r0, r1, r2, r3⟩, f0, f1, f2, f3⟩ := HI.out.facts; obtain ⟨⟨m0, m1, m2, m3⟩, e0, e1, e2, e3⟩ := HI.out.mine; clear hr1 hg1) | (go_at_call 101; with_reducible refine (k2 _ HI.out.r).mono ?_; clear r0 r1 r2 r3 f0 f1 f2 f3 m0 m1 m2 m3 e0 e1 e2 e3 k2; rintro e w1 ⟨rfl, hr1, hg1⟩; replace HI := Lib.hid (HI.out.turn hr1 hg1); obtain ⟨⟨r0, r1, r2, r3⟩, f0, f1, f2, f3⟩ := HI.out.facts; obtain ⟨⟨m0, m1, m2, m3⟩, e0, e1, e2, e3⟩ := HI.out.mine; clear hr1 hg1) | (go_at_call 102; with_reducible refine (k3 _ HI.out.r).mono ?_; clear r0 r1 r2 r3 f0 f1 f2 f3 m0 m1 m2 m3 e0 e1 e2 e3 k3; rintro e w1 ⟨rfl, hr1, hg1⟩; replace HI := Lib.hid (HI.out.turn hr1 hg1); obtain ⟨⟨r0, r1, r2, r3⟩, f0, f1, f2, f3⟩ := HI.out.facts; obtain ⟨⟨m0, m1, m2, m3⟩, e0, e1, e2, e3⟩ := HI.out.mine; clear hr1 hg1))
            have hh := set_four (.int .u64 0) (.int .u64 0) (.int .u64 0) (.int .u64 0) HI.out.rc
            exact bodyPost_ret (v := .tuple #[clsV zeroK, .bool false]) (results_row_tmp (p := 4) (u := 5) (ty := 55) Tryd.results103 _ _ w.heap.size _ rfl (load_cls hh rfl)) rfl ⟨grown_four HI.out.g (Nat.le_refl _) _ _ _ _, .inl ⟨HRN.out, rfl⟩⟩
          | some r2 =>
            obtain ⟨y, n2⟩ := r2
            obtain ⟨v1, v2, v3, v4⟩ := signD_used hs2
            have hlen2 : (s.data.toList.drop (pos + m + 1)).length = s.size - (pos + m + 1) := by rw [List.length_drop, Array.length_toList]; rfl
            rw [hlen2] at v2
            obtain ⟨i2, hi2⟩ : ∃ m, m = n2.toNat := ⟨_, rfl⟩
            have k2 : ∀ Z, ReadAt s p q ((pos + m)) Z → Calls Tryd.prog 101 #[.int .u8 45, .pointer (some ⟨p, 0, none⟩), .pointer (some ⟨q, 0, none⟩)] Z fun e w' => e = .returned (.bool true) ∧ ReadAt s p q ((pos + m + 1)) w' ∧ Z.grownBy w' (some p) := fun Z h => by
              have := mark_any s 45 p q ((pos + m)) Z h hs
              rw [if_pos h45, decide_eq_true h45] at this
              exact this
            have k3 : ∀ Z, ReadAt s p q ((pos + m + 1)) Z → Calls Tryd.prog 102 #[.pointer (some ⟨q, 0, none⟩), .pointer (some ⟨p, 0, none⟩)] Z fun e w' => e = .returned (.tuple #[.int .u8 y, .bool true]) ∧ ReadAt s p q ((pos + m + 1 + i2)) w' ∧ Z.grownBy w' (some p) := fun Z h => by
              have := take_any s p q ((pos + m + 1)) Z h hs
              rw [hs2] at this
              rw [hi2]; exact this
            by_cases hlt : y < x
            · have hi : itemD (s.data.toList.drop pos) = none := by unfold itemD; rw [hs1]; dsimp only; rw [if_pos (hdrop.trans h45), List.drop_drop, show pos + (n.toNat + 1) = pos + m + 1 by omega, hs2]; dsimp only; rw [if_pos hlt]
              have hRn := HRL.out.trans (listed_none hi)
              have HRN := Lib.hid hRn
              clear hRn hi hs1 hs2 h45 hdrop hlen2
              go_wp2_with (first | (go_at_call 102; with_reducible refine (k1 _ HI.out.r).mono ?_; clear r0 r1 r2 r3 f0 f1 f2 f3 m0 m1 m2 m3 e0 e1 e2 e3 k1; rintro e w1 ⟨rfl, hr1, hg1⟩; replace HI := Lib.hid (HI.out.turn hr1 hg1); obtain ⟨⟨r0, r1, r2, r3⟩, f0, f1, f2, f3⟩ := HI.out.facts; obtain ⟨⟨m0, m1, m2, m3⟩, e0, e1, e2, e3⟩ := HI.out.mine; clear hr1 hg1) | (go_at_call 101; with_reducible refine (k2 _ HI.out.r).mono ?_; clear r0 r1 r2 r3 f0 f1 f2 f3 m0 m1 m2 m3 e0 e1 e2 e3 k2; rintro e w1 ⟨rfl, hr1, hg1⟩; replace HI := Lib.hid (HI.out.turn hr1 hg1); obtain ⟨⟨r0, r1, r2, r3⟩, f0, f1, f2, f3⟩ := HI.out.facts; obtain ⟨⟨m0, m1, m2, m3⟩, e0, e1, e2, e3⟩ := HI.out.mine; clear hr1 hg1) | (go_at_call 102; with_reducible refine (k3 _ HI.out.r).mono ?_; clear r0 r1 r2 r3 f0 f1 f2 f3 m0 m1 m2 m3 e0 e1 e2 e3 k3; rintro e w1 ⟨rfl, hr1, hg1⟩; replace HI := Lib.hid (HI.out.turn hr1 hg1); obtain ⟨⟨r0, r1, r2, r3⟩, f0, f1, f2, f3⟩ := HI.out.facts; obtain ⟨⟨m0, m1, m2, m3⟩, e0, e1, e2, e3⟩ := HI.out.mine; clear hr1 hg1))
              have hh := set_four (.int .u64 0) (.int .u64 0) (.int .u64 0) (.int .u64 0) HI.out.rc
              exact bodyPost_ret (v := .tuple #[clsV zeroK, .bool false]) (results_row_tmp (p := 4) (u := 5) (ty := 55) Tryd.results103 _ _ w.heap.size _ rfl (load_cls hh rfl)) rfl ⟨grown_four HI.out.g (Nat.le_refl _) _ _ _ _, .inl ⟨HRN.out, rfl⟩⟩
            · have hi : itemD (s.data.toList.drop pos) = some (x, y, m + 1 + i2) := by unfold itemD; rw [hs1]; dsimp only; rw [if_pos (hdrop.trans h45), List.drop_drop, show pos + (n.toNat + 1) = pos + m + 1 by omega, hs2]; dsimp only; rw [if_neg hlt, hm, hi2]
              clear hs1 hs2 h45 hdrop hlen2
              have hu := itemD_used hi
              have hx8 : (x.toNat : Int) = x := by omega
              obtain ⟨K2, hK2⟩ : ∃ K2, K2 = orK K (spanK x.toNat y.toNat) := ⟨_, rfl⟩
              have k5 : ∀ Z, Calls Tryd.prog 100 #[.int .u8 x, .int .u8 y] Z fun e w' => e = .returned (.agg #[.int .u64 ((spanK x.toNat y.toNat 0).toNat : Int), .int .u64 ((spanK x.toNat y.toNat 1).toNat : Int), .int .u64 ((spanK x.toNat y.toNat 2).toNat : Int), .int .u64 ((spanK x.toNat y.toNat 3).toNat : Int)]) ∧ Below Z.heap.size Z w' := fun Z => span_any x y Z (by omega) (by omega) (by omega) (by omega)
              have k6 : ∀ Z, Calls Tryd.prog 104 #[.agg #[.int .u64 ((K 0).toNat : Int), .int .u64 ((K 1).toNat : Int), .int .u64 ((K 2).toNat : Int), .int .u64 ((K 3).toNat : Int)], .agg #[.int .u64 ((spanK x.toNat y.toNat 0).toNat : Int), .int .u64 ((spanK x.toNat y.toNat 1).toNat : Int), .int .u64 ((spanK x.toNat y.toNat 2).toNat : Int), .int .u64 ((spanK x.toNat y.toNat 3).toNat : Int)]] Z fun e w' => e = .returned (.agg #[.int .u64 ((K2 0).toNat : Int), .int .u64 ((K2 1).toNat : Int), .int .u64 ((K2 2).toNat : Int), .int .u64 ((K2 3).toNat : Int)]) ∧ Below Z.heap.size Z w' := fun Z => by rw [hK2]; exact or_any K (spanK x.toNat y.toNat) Z
              have hjs : pos + m + 1 + i2 ≤ s.size := by omega
              have hend : (s.data.toList.drop pos |>.drop (m + 1 + i2)).head? = s.data.toList[pos + m + 1 + i2]? := by rw [List.drop_drop, head_drop]; try (first | rfl | (congr 1; omega))
              have HU := Lib.hid hu
              clear hu
              by_cases h93 : s.data.toList[pos + m + 1 + i2]? = some 93
              · have hR2 : R = some (K2, pos + m + 1 + i2 + 1) := by rw [HRL.out, listed_end hi (hend.trans h93), hK2]; try (first | rfl | (congr 2; omega))
                have k4 : ∀ Z, ReadAt s p q (pos + m + 1 + i2) Z → Calls Tryd.prog 101 #[.int .u8 93, .pointer (some ⟨p, 0, none⟩), .pointer (some ⟨q, 0, none⟩)] Z fun e w' => e = .returned (.bool true) ∧ ReadAt s p q ((pos + m + 1 + i2 + 1)) w' ∧ Z.grownBy w' (some p) := fun Z h => by
                  have := mark_any s 93 p q (pos + m + 1 + i2) Z h hs
                  rw [if_pos h93, decide_eq_true h93] at this
                  exact this
                have HR2 := Lib.hid hR2
                have HX := Lib.hid (And.intro hi (And.intro hjs hK2))
                clear hR2 hi hjs hK2 hend h93
                have hx0 := HU.out.2.2.1
                have hxy := HU.out.2.2.2.1
                have hy1 := HU.out.2.2.2.2
                go_upto_region 11 with (first | (go_at_call 102; with_reducible refine (k1 _ HI.out.r).mono ?_; clear r0 r1 r2 r3 f0 f1 f2 f3 m0 m1 m2 m3 e0 e1 e2 e3 k1; rintro e w1 ⟨rfl, hr1, hg1⟩; replace HI := Lib.hid (HI.out.turn hr1 hg1); obtain ⟨⟨r0, r1, r2, r3⟩, f0, f1, f2, f3⟩ := HI.out.facts; obtain ⟨⟨m0, m1, m2, m3⟩, e0, e1, e2, e3⟩ := HI.out.mine; clear hr1 hg1) | (go_at_call 101; with_reducible refine (k2 _ HI.out.r).mono ?_; clear r0 r1 r2 r3 f0 f1 f2 f3 m0 m1 m2 m3 e0 e1 e2 e3 k2; rintro e w1 ⟨rfl, hr1, hg1⟩; replace HI := Lib.hid (HI.out.turn hr1 hg1); obtain ⟨⟨r0, r1, r2, r3⟩, f0, f1, f2, f3⟩ := HI.out.facts; obtain ⟨⟨m0, m1, m2, m3⟩, e0, e1, e2, e3⟩ := HI.out.mine; clear hr1 hg1) | (go_at_call 102; with_reducible refine (k3 _ HI.out.r).mono ?_; clear r0 r1 r2 r3 f0 f1 f2 f3 m0 m1 m2 m3 e0 e1 e2 e3 k3; rintro e w1 ⟨rfl, hr1, hg1⟩; replace HI := Lib.hid (HI.out.turn hr1 hg1); obtain ⟨⟨r0, r1, r2, r3⟩, f0, f1, f2, f3⟩ := HI.out.facts; obtain ⟨⟨m0, m1, m2, m3⟩, e0, e1, e2, e3⟩ := HI.out.mine; clear hr1 hg1))
                have HB : Below w1.heap.size w1 w1.drew := (Below.refl _ w1).drew
                go_region_with (first
                    | (go_at_call 100; with_reducible refine (k5 _).mono ?_; rintro e w2 ⟨rfl, hb2⟩; have SB1 := below_on HB hb2 (by simp); have HI1 := Lib.hid (HI.out.later SB1); clear hb2 m0 m1 m2 m3 e0 e1 e2 e3; obtain ⟨⟨m0, m1, m2, m3⟩, e0, e1, e2, e3⟩ := HI1.out.mine)
                    | (go_at_call 104; with_reducible refine (k6 _).mono ?_; rintro e w3 ⟨rfl, hb3⟩; have SB2 := below_on SB1 hb3 SB1.size; have HI2 := Lib.hid (HI.out.later SB2); clear hb3 m0 m1 m2 m3 e0 e1 e2 e3; obtain ⟨⟨m0, m1, m2, m3⟩, e0, e1, e2, e3⟩ := HI2.out.mine))
                all_goals
                  replace HI := Lib.hid (HI2.out.store hqw K2)
                  clear HI1 HI2 SB1 SB2 HB k5 k6 m0 m1 m2 m3 e0 e1 e2 e3 r0 r1 r2 r3 f0 f1 f2 f3
                  go_wp2_with (go_at_call 101; with_reducible refine (k4 _ HI.out.r).mono ?_; clear k4; rintro e w4 ⟨rfl, hr1, hg1⟩; replace HI := Lib.hid (HI.out.turn hr1 hg1); clear hr1 hg1)
                  go_roundg (gk - 1)
                  case measure => have h1 := HGK.out; omega
                  case rel => exact ⟨true, pos + m + 1 + i2 + 1, K2, rfl, HI, fun _ => HR2.out, fun h => by cases h⟩
              · have hR2 : R = listedD (s.data.toList.drop (pos + m + 1 + i2)) K2 (pos + m + 1 + i2) := by
                  rw [HRL.out, listed_more hi (fun h => h93 (hend.symm.trans h)), hK2, List.drop_drop]; try (first | rfl | (congr 1 <;> first | omega | (congr 1; omega)))
                have k4 : ∀ Z, ReadAt s p q (pos + m + 1 + i2) Z → Calls Tryd.prog 101 #[.int .u8 93, .pointer (some ⟨p, 0, none⟩), .pointer (some ⟨q, 0, none⟩)] Z fun e w' => e = .returned (.bool false) ∧ ReadAt s p q ((pos + m + 1 + i2)) w' ∧ Z.grownBy w' (some p) := fun Z h => by
                  have := mark_any s 93 p q (pos + m + 1 + i2) Z h hs
                  rw [if_neg h93, decide_eq_false h93] at this
                  exact this
                have HR2 := Lib.hid hR2
                have HX := Lib.hid (And.intro hi (And.intro hjs hK2))
                clear hR2 hi hjs hK2 hend h93
                have hx0 := HU.out.2.2.1
                have hxy := HU.out.2.2.2.1
                have hy1 := HU.out.2.2.2.2
                go_upto_region 11 with (first | (go_at_call 102; with_reducible refine (k1 _ HI.out.r).mono ?_; clear r0 r1 r2 r3 f0 f1 f2 f3 m0 m1 m2 m3 e0 e1 e2 e3 k1; rintro e w1 ⟨rfl, hr1, hg1⟩; replace HI := Lib.hid (HI.out.turn hr1 hg1); obtain ⟨⟨r0, r1, r2, r3⟩, f0, f1, f2, f3⟩ := HI.out.facts; obtain ⟨⟨m0, m1, m2, m3⟩, e0, e1, e2, e3⟩ := HI.out.mine; clear hr1 hg1) | (go_at_call 101; with_reducible refine (k2 _ HI.out.r).mono ?_; clear r0 r1 r2 r3 f0 f1 f2 f3 m0 m1 m2 m3 e0 e1 e2 e3 k2; rintro e w1 ⟨rfl, hr1, hg1⟩; replace HI := Lib.hid (HI.out.turn hr1 hg1); obtain ⟨⟨r0, r1, r2, r3⟩, f0, f1, f2, f3⟩ := HI.out.facts; obtain ⟨⟨m0, m1, m2, m3⟩, e0, e1, e2, e3⟩ := HI.out.mine; clear hr1 hg1) | (go_at_call 102; with_reducible refine (k3 _ HI.out.r).mono ?_; clear r0 r1 r2 r3 f0 f1 f2 f3 m0 m1 m2 m3 e0 e1 e2 e3 k3; rintro e w1 ⟨rfl, hr1, hg1⟩; replace HI := Lib.hid (HI.out.turn hr1 hg1); obtain ⟨⟨r0, r1, r2, r3⟩, f0, f1, f2, f3⟩ := HI.out.facts; obtain ⟨⟨m0, m1, m2, m3⟩, e0, e1, e2, e3⟩ := HI.out.mine; clear hr1 hg1))
                have HB : Below w1.heap.size w1 w1.drew := (Below.refl _ w1).drew
                go_region_with (first
                    | (go_at_call 100; with_reducible refine (k5 _).mono ?_; rintro e w2 ⟨rfl, hb2⟩; have SB1 := below_on HB hb2 (by simp); have HI1 := Lib.hid (HI.out.later SB1); clear hb2 m0 m1 m2 m3 e0 e1 e2 e3; obtain ⟨⟨m0, m1, m2, m3⟩, e0, e1, e2, e3⟩ := HI1.out.mine)
                    | (go_at_call 104; with_reducible refine (k6 _).mono ?_; rintro e w3 ⟨rfl, hb3⟩; have SB2 := below_on SB1 hb3 SB1.size; have HI2 := Lib.hid (HI.out.later SB2); clear hb3 m0 m1 m2 m3 e0 e1 e2 e3; obtain ⟨⟨m0, m1, m2, m3⟩, e0, e1, e2, e3⟩ := HI2.out.mine))
                all_goals
                  replace HI := Lib.hid (HI2.out.store hqw K2)
                  clear HI1 HI2 SB1 SB2 HB k5 k6 m0 m1 m2 m3 e0 e1 e2 e3 r0 r1 r2 r3 f0 f1 f2 f3
                  go_wp2_with (go_at_call 101; with_reducible refine (k4 _ HI.out.r).mono ?_; clear k4; rintro e w4 ⟨rfl, hr1, hg1⟩; replace HI := Lib.hid (HI.out.turn hr1 hg1); clear hr1 hg1)
                  go_roundg (gk - 1)
                  case measure => have h1 := HGK.out; omega
                  case rel => exact ⟨false, pos + m + 1 + i2, K2, rfl, HI, (fun h => by cases h), fun _ => ⟨HR2.out, by have h1 := HGK.out; have h2 := HU.out.1; omega⟩⟩
        · have hi : itemD (s.data.toList.drop pos) = some (x, x, m) := by unfold itemD; rw [hs1]; dsimp only; rw [if_neg (fun h => h45 (hdrop.symm.trans h)), hm]
          have k2 : ∀ Z, ReadAt s p q ((pos + m)) Z → Calls Tryd.prog 101 #[.int .u8 45, .pointer (some ⟨p, 0, none⟩), .pointer (some ⟨q, 0, none⟩)] Z fun e w' => e = .returned (.bool false) ∧ ReadAt s p q ((pos + m)) w' ∧ Z.grownBy w' (some p) := fun Z h => by
            have := mark_any s 45 p q ((pos + m)) Z h hs
            rw [if_neg h45, decide_eq_false h45] at this
            exact this
          clear hs1 h45 hdrop
          have hu := itemD_used hi
          have hx8 : (x.toNat : Int) = x := by omega
          obtain ⟨K2, hK2⟩ : ∃ K2, K2 = orK K (spanK x.toNat x.toNat) := ⟨_, rfl⟩
          have k5 : ∀ Z, Calls Tryd.prog 100 #[.int .u8 x, .int .u8 x] Z fun e w' => e = .returned (.agg #[.int .u64 ((spanK x.toNat x.toNat 0).toNat : Int), .int .u64 ((spanK x.toNat x.toNat 1).toNat : Int), .int .u64 ((spanK x.toNat x.toNat 2).toNat : Int), .int .u64 ((spanK x.toNat x.toNat 3).toNat : Int)]) ∧ Below Z.heap.size Z w' := fun Z => span_any x x Z (by omega) (by omega) (by omega) (by omega)
          have k6 : ∀ Z, Calls Tryd.prog 104 #[.agg #[.int .u64 ((K 0).toNat : Int), .int .u64 ((K 1).toNat : Int), .int .u64 ((K 2).toNat : Int), .int .u64 ((K 3).toNat : Int)], .agg #[.int .u64 ((spanK x.toNat x.toNat 0).toNat : Int), .int .u64 ((spanK x.toNat x.toNat 1).toNat : Int), .int .u64 ((spanK x.toNat x.toNat 2).toNat : Int), .int .u64 ((spanK x.toNat x.toNat 3).toNat : Int)]] Z fun e w' => e = .returned (.agg #[.int .u64 ((K2 0).toNat : Int), .int .u64 ((K2 1).toNat : Int), .int .u64 ((K2 2).toNat : Int), .int .u64 ((K2 3).toNat : Int)]) ∧ Below Z.heap.size Z w' := fun Z => by rw [hK2]; exact or_any K (spanK x.toNat x.toNat) Z
          have hjs : pos + m ≤ s.size := by omega
          have hend : (s.data.toList.drop pos |>.drop (m)).head? = s.data.toList[pos + m]? := by rw [List.drop_drop, head_drop]; try (first | rfl | (congr 1; omega))
          have HU := Lib.hid hu
          clear hu
          by_cases h93 : s.data.toList[pos + m]? = some 93
          · have hR2 : R = some (K2, pos + m + 1) := by rw [HRL.out, listed_end hi (hend.trans h93), hK2]; try (first | rfl | (congr 2; omega))
            have k4 : ∀ Z, ReadAt s p q (pos + m) Z → Calls Tryd.prog 101 #[.int .u8 93, .pointer (some ⟨p, 0, none⟩), .pointer (some ⟨q, 0, none⟩)] Z fun e w' => e = .returned (.bool true) ∧ ReadAt s p q ((pos + m + 1)) w' ∧ Z.grownBy w' (some p) := fun Z h => by
              have := mark_any s 93 p q (pos + m) Z h hs
              rw [if_pos h93, decide_eq_true h93] at this
              exact this
            have HR2 := Lib.hid hR2
            have HX := Lib.hid (And.intro hi (And.intro hjs hK2))
            clear hR2 hi hjs hK2 hend h93
            have hx0 := HU.out.2.2.1
            have hxy := HU.out.2.2.2.1
            have hy1 := HU.out.2.2.2.2
            go_upto_region 11 with (first | (go_at_call 102; with_reducible refine (k1 _ HI.out.r).mono ?_; clear r0 r1 r2 r3 f0 f1 f2 f3 m0 m1 m2 m3 e0 e1 e2 e3 k1; rintro e w1 ⟨rfl, hr1, hg1⟩; replace HI := Lib.hid (HI.out.turn hr1 hg1); obtain ⟨⟨r0, r1, r2, r3⟩, f0, f1, f2, f3⟩ := HI.out.facts; obtain ⟨⟨m0, m1, m2, m3⟩, e0, e1, e2, e3⟩ := HI.out.mine; clear hr1 hg1) | (go_at_call 101; with_reducible refine (k2 _ HI.out.r).mono ?_; clear r0 r1 r2 r3 f0 f1 f2 f3 m0 m1 m2 m3 e0 e1 e2 e3 k2; rintro e w1 ⟨rfl, hr1, hg1⟩; replace HI := Lib.hid (HI.out.turn hr1 hg1); obtain ⟨⟨r0, r1, r2, r3⟩, f0, f1, f2, f3⟩ := HI.out.facts; obtain ⟨⟨m0, m1, m2, m3⟩, e0, e1, e2, e3⟩ := HI.out.mine; clear hr1 hg1))
            have HB : Below w1.heap.size w1 w1.drew := (Below.refl _ w1).drew
            go_region_with (first
                | (go_at_call 100; with_reducible refine (k5 _).mono ?_; rintro e w2 ⟨rfl, hb2⟩; have SB1 := below_on HB hb2 (by simp); have HI1 := Lib.hid (HI.out.later SB1); clear hb2 m0 m1 m2 m3 e0 e1 e2 e3; obtain ⟨⟨m0, m1, m2, m3⟩, e0, e1, e2, e3⟩ := HI1.out.mine)
                | (go_at_call 104; with_reducible refine (k6 _).mono ?_; rintro e w3 ⟨rfl, hb3⟩; have SB2 := below_on SB1 hb3 SB1.size; have HI2 := Lib.hid (HI.out.later SB2); clear hb3 m0 m1 m2 m3 e0 e1 e2 e3; obtain ⟨⟨m0, m1, m2, m3⟩, e0, e1, e2, e3⟩ := HI2.out.mine))
            all_goals
              replace HI := Lib.hid (HI2.out.store hqw K2)
              clear HI1 HI2 SB1 SB2 HB k5 k6 m0 m1 m2 m3 e0 e1 e2 e3 r0 r1 r2 r3 f0 f1 f2 f3
              go_wp2_with (go_at_call 101; with_reducible refine (k4 _ HI.out.r).mono ?_; clear k4; rintro e w4 ⟨rfl, hr1, hg1⟩; replace HI := Lib.hid (HI.out.turn hr1 hg1); clear hr1 hg1)
              go_roundg (gk - 1)
              case measure => have h1 := HGK.out; omega
              case rel => exact ⟨true, pos + m + 1, K2, rfl, HI, fun _ => HR2.out, fun h => by cases h⟩
          · have hR2 : R = listedD (s.data.toList.drop (pos + m)) K2 (pos + m) := by
              rw [HRL.out, listed_more hi (fun h => h93 (hend.symm.trans h)), hK2, List.drop_drop]; try (first | rfl | (congr 1 <;> first | omega | (congr 1; omega)))
            have k4 : ∀ Z, ReadAt s p q (pos + m) Z → Calls Tryd.prog 101 #[.int .u8 93, .pointer (some ⟨p, 0, none⟩), .pointer (some ⟨q, 0, none⟩)] Z fun e w' => e = .returned (.bool false) ∧ ReadAt s p q ((pos + m)) w' ∧ Z.grownBy w' (some p) := fun Z h => by
              have := mark_any s 93 p q (pos + m) Z h hs
              rw [if_neg h93, decide_eq_false h93] at this
              exact this
            have HR2 := Lib.hid hR2
            have HX := Lib.hid (And.intro hi (And.intro hjs hK2))
            clear hR2 hi hjs hK2 hend h93
            have hx0 := HU.out.2.2.1
            have hxy := HU.out.2.2.2.1
            have hy1 := HU.out.2.2.2.2
            go_upto_region 11 with (first | (go_at_call 102; with_reducible refine (k1 _ HI.out.r).mono ?_; clear r0 r1 r2 r3 f0 f1 f2 f3 m0 m1 m2 m3 e0 e1 e2 e3 k1; rintro e w1 ⟨rfl, hr1, hg1⟩; replace HI := Lib.hid (HI.out.turn hr1 hg1); obtain ⟨⟨r0, r1, r2, r3⟩, f0, f1, f2, f3⟩ := HI.out.facts; obtain ⟨⟨m0, m1, m2, m3⟩, e0, e1, e2, e3⟩ := HI.out.mine; clear hr1 hg1) | (go_at_call 101; with_reducible refine (k2 _ HI.out.r).mono ?_; clear r0 r1 r2 r3 f0 f1 f2 f3 m0 m1 m2 m3 e0 e1 e2 e3 k2; rintro e w1 ⟨rfl, hr1, hg1⟩; replace HI := Lib.hid (HI.out.turn hr1 hg1); obtain ⟨⟨r0, r1, r2, r3⟩, f0, f1, f2, f3⟩ := HI.out.facts; obtain ⟨⟨m0, m1, m2, m3⟩, e0, e1, e2, e3⟩ := HI.out.mine; clear hr1 hg1))
            have HB : Below w1.heap.size w1 w1.drew := (Below.refl _ w1).drew
            go_region_with (first
                | (go_at_call 100; with_reducible refine (k5 _).mono ?_; rintro e w2 ⟨rfl, hb2⟩; have SB1 := below_on HB hb2 (by simp); have HI1 := Lib.hid (HI.out.later SB1); clear hb2 m0 m1 m2 m3 e0 e1 e2 e3; obtain ⟨⟨m0, m1, m2, m3⟩, e0, e1, e2, e3⟩ := HI1.out.mine)
                | (go_at_call 104; with_reducible refine (k6 _).mono ?_; rintro e w3 ⟨rfl, hb3⟩; have SB2 := below_on SB1 hb3 SB1.size; have HI2 := Lib.hid (HI.out.later SB2); clear hb3 m0 m1 m2 m3 e0 e1 e2 e3; obtain ⟨⟨m0, m1, m2, m3⟩, e0, e1, e2, e3⟩ := HI2.out.mine))
            all_goals
              replace HI := Lib.hid (HI2.out.store hqw K2)
              clear HI1 HI2 SB1 SB2 HB k5 k6 m0 m1 m2 m3 e0 e1 e2 e3 r0 r1 r2 r3 f0 f1 f2 f3
              go_wp2_with (go_at_call 101; with_reducible refine (k4 _ HI.out.r).mono ?_; clear k4; rintro e w4 ⟨rfl, hr1, hg1⟩; replace HI := Lib.hid (HI.out.turn hr1 hg1); clear hr1 hg1)
              go_roundg (gk - 1)
              case measure => have h1 := HGK.out; omega
              case rel => exact ⟨false, pos + m, K2, rfl, HI, (fun h => by cases h), fun _ => ⟨HR2.out, by have h1 := HGK.out; have h2 := HU.out.1; omega⟩⟩
end Go.Proofs.YtgceckejchdnlaaDoor
namespace Go.Proofs.YtgceckejchdnlaaDoor
open Go.RowKit Go.Lib

theorem read_any (s : ByteArray) (w : World) (hs : s.size ≤ 70000000000000) :
    Calls Tryd.prog 99 #[.string s] w fun e w' => e = readE (readD s.data.toList) ∧ Below w.heap.size w w' := by
  have kl : ∀ k, ListedK s (w.heap.size + 1 + 1) w.heap.size k (listedD (s.data.toList.drop k) zeroK k) := fun k Z hr => listed_any s _ _ k Z hr hs _ rfl
  have e0 : s.data.toList.head? = s.data.toList[0]? := List.head?_eq_getElem?
  unfold readD
  rw [e0]
  by_cases h91 : s.data.toList[0]? = some 91
  · rw [if_pos h91]
    by_cases h94 : s.data.toList[1]? = some 94
    · rw [if_pos h94]
      have k2 := kl 2
      cases hR : listedD (s.data.toList.drop 2) zeroK 2 with
      | none =>
        rw [hR] at k2
        exact read_bad2 s w hs h91 h94 k2
      | some r =>
        obtain ⟨K, n⟩ := r
        rw [hR] at k2
        exact read_good2 s K n w hs h91 h94 k2
    · rw [if_neg h94]
      have k1 := kl 1
      cases hR : listedD (s.data.toList.drop 1) zeroK 1 with
      | none =>
        rw [hR] at k1
        exact read_bad1 s w hs h91 h94 k1
      | some r =>
        obtain ⟨K, n⟩ := r
        rw [hR] at k1
        exact read_good1 s K n w hs h91 h94 k1
  · rw [if_neg h91]
    exact read_none s w hs h91
end Go.Proofs.YtgceckejchdnlaaDoor
