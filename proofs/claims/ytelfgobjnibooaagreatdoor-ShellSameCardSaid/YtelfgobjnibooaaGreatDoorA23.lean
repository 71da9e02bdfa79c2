/- Packed texts: RfMem, RfLeaf, RfWhite, RfSeps. What each of them proves stands above its theorems; the conditions stand in these. -/
import Derived.BigQuiet
import Derived.Deep.Cut
import Derived.Deep.CutBlock
import Derived.Deep.DeepCutAuto
import Derived.Deep.LoopGhost
import Derived.Deep.QuietTactic
import Derived.Test.YtelfgobjnibooaaGreatDoorA0
import Derived.Test.YtelfgobjnibooaaGreatDoorA3
namespace Go.Proofs.YtelfgobjnibooaaGreatDoor
open Go.RowKit Go.Lib
def TR (p : Nat) (S : ByteArray) (a d : Nat) (bad : Int) (w : World) : Prop := w.heap[p]? = some (.cells #[.string S, .int .i64 (a : Int), .int .i64 (d : Int), .int .i64 bad] 45 (0, 0))
theorem heap_ltR {w : World} {b : Nat} {o : Obj} (h : w.heap[b]? = some o) : b < w.heap.size := by
 by_cases hl : b < w.heap.size
 ·exact hl
 ·rw [Array.getElem?_eq_none (Nat.le_of_not_lt hl)] at h; cases h
theorem TR.lt {p : Nat} {S : ByteArray} {a d : Nat} {bad : Int} {w : World} (h : TR p S a d bad w) : p < w.heap.size := heap_ltR h
theorem TR.cells {p : Nat} {S : ByteArray} {a d : Nat} {bad : Int} {w : World} (h : TR p S a d bad w) :
  (w.cell? ⟨p, 0, none⟩ = some (.string S) ∧ w.cell? ⟨p, 1, none⟩ = some (.int .i64 (a : Int)) ∧ w.cell? ⟨p, 2, none⟩ = some (.int .i64 (d : Int)) ∧ w.cell? ⟨p, 3, none⟩ = some (.int .i64 bad)) ∧ w.frozen? ⟨p, 1, none⟩ = false ∧ w.frozen? ⟨p, 2, none⟩ = false ∧ w.frozen? ⟨p, 3, none⟩ = false := by
 unfold TR at h
 exact ⟨⟨by rw [cell_of_heap h]; rfl, by rw [cell_of_heap h]; rfl, by rw [cell_of_heap h]; rfl, by rw [cell_of_heap h]; rfl⟩, frozen_of_heap h _, frozen_of_heap h _, frozen_of_heap h _⟩
theorem TR.at {p : Nat} {S : ByteArray} {a d : Nat} {bad : Int} {w : World} (h : TR p S a d bad w) (x : Nat) : TR p S x d bad (w.setCell ⟨p, 1, none⟩ (.int .i64 (x : Int))) := by
 have h := heap_setCell_same w p 1 _ _ (.int .i64 (x : Int)) h
 simpa [TR] using h
theorem TR.deep {p : Nat} {S : ByteArray} {a d : Nat} {bad : Int} {w : World} (h : TR p S a d bad w) (x : Nat) : TR p S a x bad (w.setCell ⟨p, 2, none⟩ (.int .i64 (x : Int))) := by
 have h := heap_setCell_same w p 2 _ _ (.int .i64 (x : Int)) h
 simpa [TR] using h
theorem TR.bad {p : Nat} {S : ByteArray} {a d : Nat} {bad : Int} {w : World} (h : TR p S a d bad w) (x : Int) : TR p S a d x (w.setCell ⟨p, 3, none⟩ (.int .i64 x)) := by
 have h := heap_setCell_same w p 3 _ _ (.int .i64 x) h
 simpa [TR] using h
theorem TR.same {p : Nat} {S : ByteArray} {a d : Nat} {bad : Int} {w w' : World} (h : TR p S a d bad w) (hb : w'.heap[p]? = w.heap[p]?) : TR p S a d bad w' := hb.trans h
theorem TR.below {p : Nat} {S : ByteArray} {a d : Nat} {bad : Int} {w w' : World} (h : TR p S a d bad w) (hb : Below w.heap.size w w') : TR p S a d bad w' := (hb.block p h.lt).trans h
structure Mvr (p : Nat) (w w' : World) : Prop where
 low : Below p w w'
 high : ∀ g, g ≠ p → g < w.heap.size → w'.heap[g]? = w.heap[g]?
theorem Mvr.refl (p : Nat) (w : World) : Mvr p w w := ⟨Below.refl _ _, fun _ _ _ => rfl⟩
theorem Mvr.trans {p : Nat} {a b c : World} (h : Mvr p a b) (k : Mvr p b c) : Mvr p a c := ⟨h.low.trans k.low, fun g hg hs => (k.high g hg (Nat.lt_of_lt_of_le hs h.low.size)).trans (h.high g hg hs)⟩
theorem Mvr.of {p : Nat} {w w' : World} (h : Below w.heap.size w w') (hp : p < w.heap.size) : Mvr p w w' := ⟨h.mono (Nat.le_of_lt hp), fun g _ hs => h.block g hs⟩
theorem Mvr.set (p i : Nat) (v : Value) (w : World) : Mvr p w (w.setCell ⟨p, i, none⟩ v) := ⟨(Below.refl _ w).setCell (p := ⟨p, i, none⟩) (Nat.le_refl _) v, fun _g hg _ => Below.heap_setCell _ _ _ _ hg⟩
theorem Mvr.size {p : Nat} {w w' : World} (h : Mvr p w w') : w.heap.size ≤ w'.heap.size := h.low.size
theorem Mvr.draw {p : Nat} {a w : World} (h : Mvr p a w) : Mvr p a w.drew := ⟨h.low.drew, h.high⟩
theorem Mvr.draws {p : Nat} {a w : World} (h : Mvr p a w) (n : Nat) : Mvr p a (w.drewN n) := ⟨below_draws h.low n, h.high⟩
theorem Mvr.new {p : Nat} {a w w' : World} (h : Mvr p a w) (hb : Below w.heap.size w w') (hp : p < a.heap.size) : Mvr p a w' := h.trans (Mvr.of hb (Nat.lt_of_lt_of_le hp h.size))
theorem Mvr.alloc {p : Nat} {a w : World} (h : Mvr p a w) (o : Obj) (hp : p < a.heap.size) : Mvr p a (w.alloc o) := h.new ((Below.refl _ w).alloc (Nat.le_refl _) _) hp
theorem Mvr.own {p g : Nat} {a w : World} (h : Mvr p a w) (hg : a.heap.size ≤ g) (hp : p < a.heap.size) (i : Nat) (v : Value) : Mvr p a (w.setCell ⟨g, i, none⟩ v) :=
 ⟨h.low.setCell (p := ⟨g, i, none⟩) (by show p ≤ g; omega) v, fun k hk hs => (Below.heap_setCell _ _ _ _ (by show k ≠ g; omega)).trans (h.high k hk hs)⟩
inductive Sx where
 | at (l : List UInt8)
 | bad (e : Int)
def Sx.run {α : Type} (s : Sx) (f : List UInt8 → Rr α) : Rr α := match s with
 | .at l => f l
 | .bad e => .bad e
def Rr.sx {α : Type} (r : Rr α) : Sx := match r with
 | .ok _ l => .at l
 | .bad e => .bad e
def TS (p : Nat) (S : ByteArray) (d : Nat) : Sx → World → Prop
 | .at l, w => ∃ a, TR p S a d 0 w ∧ a ≤ S.size ∧ S.data.toList.drop a = l
 | .bad e, w => e ≠ 0 ∧ ∃ a, TR p S a d e w ∧ a ≤ S.size
theorem TS.lt {p : Nat} {S : ByteArray} {d : Nat} {s : Sx} {w : World} (h : TS p S d s w) : p < w.heap.size := by
 cases s with
 | «at» l => obtain ⟨a, h, _⟩ := h; exact h.lt
 | bad e => obtain ⟨_, a, h, _⟩ := h; exact h.lt
theorem TS.same {p : Nat} {S : ByteArray} {d : Nat} {s : Sx} {w w' : World} (h : TS p S d s w) (hb : w'.heap[p]? = w.heap[p]?) : TS p S d s w' := by
 cases s with
 | «at» l => obtain ⟨a, h, h2⟩ := h; exact ⟨a, h.same hb, h2⟩
 | bad e => obtain ⟨h0, a, h, h2⟩ := h; exact ⟨h0, a, h.same hb, h2⟩
theorem TS.below {p : Nat} {S : ByteArray} {d : Nat} {s : Sx} {w w' : World} (h : TS p S d s w) (hb : Below w.heap.size w w') : TS p S d s w' := h.same (hb.block p h.lt)
theorem TS.draws {p : Nat} {S : ByteArray} {d : Nat} {s : Sx} {w : World} (h : TS p S d s w) (n : Nat) : TS p S d s (w.drewN n) := h.below (below_draws (Below.refl _ _) n)
def Sx.end : Sx → Bool
 | .at l => l.isEmpty
 | .bad _ => true
def Sx.c : Sx → UInt8
 | .at (c :: _) => c
 | _ => 0
theorem dropR_at (S : ByteArray) (a : Nat) (h : a < S.size) : S.data.toList.drop a = S[a] :: S.data.toList.drop (a + 1) := by
 have h2 : a < S.data.toList.length := by rw [Array.length_toList]; exact h
 rw [List.drop_eq_getElem_cons h2]
 rfl
theorem dropR_end (S : ByteArray) (a : Nat) (h : S.size ≤ a) : S.data.toList.drop a = [] := List.drop_eq_nil_of_le (by rw [Array.length_toList]; exact h)
theorem restR {S : ByteArray} {a : Nat} {c : UInt8} {r : List UInt8} (h : S.data.toList.drop a = c :: r) : ∃ ha : a < S.size, S[a] = c ∧ S.data.toList.drop (a + 1) = r := by
 by_cases ha : a < S.size
 ·rw [dropR_at S a ha] at h
  exact ⟨ha, (List.cons.inj h).1, (List.cons.inj h).2⟩
 ·rw [dropR_end S a (by omega)] at h; cases h
theorem restR_nil {S : ByteArray} {a : Nat} (ha : a ≤ S.size) (h : S.data.toList.drop a = []) : a = S.size := by
 by_cases h2 : a < S.size
 ·rw [dropR_at S a h2] at h; cases h
 ·omega
set_option maxHeartbeats 1000000 in
theorem fail_at (p : Nat) (S : ByteArray) (d : Nat) (l : List UInt8) (e : Int) (he : e ≠ 0) (w : World) (h : TS p S d (.at l) w) :
  Calls Tryz.prog 16 #[.pointer (some ⟨p, 0, none⟩), .int .i64 e] w fun x w' => x = .returned (.tuple #[]) ∧ TS p S d (.bad e) w' ∧ Mvr p w w' := by
 obtain ⟨a, h, ha, _⟩ := h
 obtain ⟨⟨c0, c1, c2, c3⟩, f1, f2, f3⟩ := h.cells
 have H := Lib.hid (h.bad e)
 clear h
 go_enter Tryz.func16, Tryz.ntmps16
 go_wp2
 go_end0
 exact ⟨rfl, ⟨he, a, H.out, ha⟩, Mvr.set p _ _ _⟩
set_option maxHeartbeats 1000000 in
theorem fail_bad (p : Nat) (S : ByteArray) (d : Nat) (b e : Int) (w : World) (h : TS p S d (.bad b) w) :
  Calls Tryz.prog 16 #[.pointer (some ⟨p, 0, none⟩), .int .i64 e] w fun x w' => x = .returned (.tuple #[]) ∧ TS p S d (.bad b) w' ∧ Mvr p w w' := by
 obtain ⟨hb, a, h, ha⟩ := h
 obtain ⟨⟨c0, c1, c2, c3⟩, f1, f2, f3⟩ := h.cells
 have H := Lib.hid h
 clear h
 have hb2 : (b == 0) = false := by rw [beq_eq_false_iff_ne]; exact hb
 go_enter Tryz.func16, Tryz.ntmps16
 go_wp2
 go_end0
 exact ⟨rfl, ⟨hb, a, H.out, ha⟩, Mvr.refl p _⟩
def Sx.fail (s : Sx) (e : Int) : Sx := match s with
 | .at _ => .bad e
 | .bad b => .bad b
theorem fail_any (p : Nat) (S : ByteArray) (d : Nat) (s : Sx) (e : Int) (he : e ≠ 0) (w : World) (h : TS p S d s w) :
  Calls Tryz.prog 16 #[.pointer (some ⟨p, 0, none⟩), .int .i64 e] w fun x w' => x = .returned (.tuple #[]) ∧ TS p S d (s.fail e) w' ∧ Mvr p w w' := by
 cases s with
 | «at» l => exact fail_at p S d l e he w h
 | bad b => exact fail_bad p S d b e w h
set_option maxHeartbeats 1000000 in
theorem end_bad (p : Nat) (S : ByteArray) (d : Nat) (b : Int) (w : World) (h : TS p S d (.bad b) w) :
  Calls Tryz.prog 32 #[.pointer (some ⟨p, 0, none⟩)] w fun x w' => x = .returned (.bool true) ∧ Below w.heap.size w w' := by
 obtain ⟨hb, a, h, ha⟩ := h
 obtain ⟨⟨c0, c1, c2, c3⟩, f1, f2, f3⟩ := h.cells
 have hb2 : (b != 0) = true := by simp [hb]
 have HB := Lib.hid (Below.refl w.heap.size w)
 clear h
 go_enter Tryz.func32, Tryz.ntmps32
 go_wp2_with fail
 go_quiet (fail)
 go_wp2
 go_ret
 exact ⟨rfl, below_draws HB.out _⟩
set_option maxHeartbeats 1000000 in
theorem end_at (p : Nat) (S : ByteArray) (d : Nat) (l : List UInt8) (w : World) (h : TS p S d (.at l) w) (_hS : S.size ≤ 1048576) :
  Calls Tryz.prog 32 #[.pointer (some ⟨p, 0, none⟩)] w fun x w' => x = .returned (.bool l.isEmpty) ∧ Below w.heap.size w w' := by
 obtain ⟨a, h, ha, hl⟩ := h
 obtain ⟨⟨c0, c1, c2, c3⟩, f1, f2, f3⟩ := h.cells
 have HB := Lib.hid (Below.refl w.heap.size w)
 clear h
 cases l with
 | nil =>
  have hn := restR_nil ha hl
  have hn1 : (S.size : Int) ≤ (a : Int) := by omega
  have hn2 : decide ((S.size : Int) ≤ (a : Int)) = true := decide_eq_true hn1
  have hn3 : decide (S.size ≤ a) = true := decide_eq_true (by omega)
  clear hn hl
  show Calls _ _ _ _ fun x w' => x = .returned (.bool true) ∧ _
  go_enter Tryz.func32, Tryz.ntmps32
  go_wp2_with fail
  go_quiet (fail)
  go_wp2
  go_ret
  exact ⟨rfl, below_draws HB.out _⟩
 | cons c r =>
  obtain ⟨hlt, q1, q2⟩ := restR hl
  have hn1 : ¬ (S.size : Int) ≤ (a : Int) := by omega
  have hn2 : decide ((S.size : Int) ≤ (a : Int)) = false := decide_eq_false hn1
  have hn3 : decide (S.size ≤ a) = false := decide_eq_false (by omega)
  have hn4 : ¬ S.size ≤ a := by omega
  clear q1 q2 hl ha hlt
  show Calls _ _ _ _ fun x w' => x = .returned (.bool false) ∧ _
  go_enter Tryz.func32, Tryz.ntmps32
  go_wp2_with fail
  go_quiet (fail)
  go_wp2
  go_ret
  exact ⟨rfl, below_draws HB.out _⟩
theorem end_any (p : Nat) (S : ByteArray) (d : Nat) (s : Sx) (w : World) (h : TS p S d s w) (hS : S.size ≤ 1048576) :
  Calls Tryz.prog 32 #[.pointer (some ⟨p, 0, none⟩)] w fun x w' => x = .returned (.bool s.end) ∧ Below w.heap.size w w' := by
 cases s with
 | «at» l => exact end_at p S d l w h hS
 | bad b => exact end_bad p S d b w h
set_option maxHeartbeats 1000000 in
theorem c_bad (p : Nat) (S : ByteArray) (d : Nat) (b : Int) (w : World) (h : TS p S d (.bad b) w) :
  Calls Tryz.prog 33 #[.pointer (some ⟨p, 0, none⟩)] w fun x w' => x = .returned (.int .u8 0) ∧ Below w.heap.size w w' := by
 obtain ⟨hb, a, h, ha⟩ := h
 obtain ⟨⟨c0, c1, c2, c3⟩, f1, f2, f3⟩ := h.cells
 have hb2 : (b != 0) = true := by simp [hb]
 have HB := Lib.hid (Below.refl w.heap.size w)
 clear h
 go_enter Tryz.func33, Tryz.ntmps33
 go_wp2_with fail
 go_quiet (fail)
 go_wp2
 go_ret
 exact ⟨rfl, below_draws HB.out _⟩
set_option maxHeartbeats 1000000 in
theorem c_at (p : Nat) (S : ByteArray) (d : Nat) (l : List UInt8) (w : World) (h : TS p S d (.at l) w) (_hS : S.size ≤ 1048576) :
  Calls Tryz.prog 33 #[.pointer (some ⟨p, 0, none⟩)] w fun x w' => x = .returned (.int .u8 ((Sx.at l).c.toNat : Int)) ∧ Below w.heap.size w w' := by
 obtain ⟨a, h, ha, hl⟩ := h
 obtain ⟨⟨c0, c1, c2, c3⟩, f1, f2, f3⟩ := h.cells
 have HB := Lib.hid (Below.refl w.heap.size w)
 clear h
 cases l with
 | nil =>
  have hn := restR_nil ha hl
  have hn1 : (S.size : Int) ≤ (a : Int) := by omega
  have hn2 : decide ((S.size : Int) ≤ (a : Int)) = true := decide_eq_true hn1
  have hn3 : decide (S.size ≤ a) = true := decide_eq_true (by omega)
  clear hn hl
  show Calls _ _ _ _ fun x w' => x = .returned (.int .u8 0) ∧ _
  go_enter Tryz.func33, Tryz.ntmps33
  go_wp2_with fail
  go_quiet (fail)
  go_wp2
  go_ret
  exact ⟨rfl, below_draws HB.out _⟩
 | cons c r =>
  obtain ⟨hlt, hc, _⟩ := restR hl
  have hn1 : ¬ (S.size : Int) ≤ (a : Int) := by omega
  have hn2 : decide ((S.size : Int) ≤ (a : Int)) = false := decide_eq_false hn1
  have hn3 : decide (S.size ≤ a) = false := decide_eq_false (by omega)
  have hn4 : ¬ S.size ≤ a := by omega
  clear hl ha
  show Calls _ _ _ _ fun x w' => x = .returned (.int .u8 (c.toNat : Int)) ∧ _
  go_enter Tryz.func33, Tryz.ntmps33
  go_wp2_with fail
  go_quiet (fail)
  go_wp2
  go_quiet (fail)
  go_wp2
  go_ret
  exact ⟨rfl, below_draws (below_draws HB.out _) _⟩
theorem c_any (p : Nat) (S : ByteArray) (d : Nat) (s : Sx) (w : World) (h : TS p S d s w) (hS : S.size ≤ 1048576) :
  Calls Tryz.prog 33 #[.pointer (some ⟨p, 0, none⟩)] w fun x w' => x = .returned (.int .u8 (s.c.toNat : Int)) ∧ Below w.heap.size w w' := by
 cases s with
 | «at» l => exact c_at p S d l w h hS
 | bad b => exact c_bad p S d b w h
end Go.Proofs.YtelfgobjnibooaaGreatDoor
namespace Go.Proofs.YtelfgobjnibooaaGreatDoor
open Go.RowKit Go.Lib
theorem any_take (O : ByteArray) (c : UInt8) (k : Nat) (h : k < O.size) : (O.data.toList.take (k + 1)).contains c = ((O.data.toList.take k).contains c || O[k] == c) := by
 rw [take_snoc O k h, List.contains_eq_any_beq, List.contains_eq_any_beq, List.any_append]
 simp [Bool.beq_comm]
set_option maxHeartbeats 2000000 in
theorem in_any (O : ByteArray) (c : UInt8) (w : World) (hO : O.size ≤ 1000) :
  Calls Tryz.prog 52 #[.int .u8 (c.toNat : Int), .string O] w fun x w' => x = .returned (.bool (O.data.toList.contains c)) ∧ w = w' := by
 obtain ⟨y, hy⟩ : ∃ y : Int, y = (c.toNat : Int) := ⟨_, rfl⟩
 have HY := Lib.hid hy
 rw [← hy]
 clear hy
 obtain ⟨q, hq⟩ : ∃ q, O.data.toList.contains c = q := ⟨_, rfl⟩
 have HQ := Lib.hid hq
 rw [hq]
 clear hq
 go_enter Tryz.func52, Tryz.ntmps52
 go_wp2
 go_loop [5] (fun i => ∃ k : Nat, k ≤ O.size ∧ i = .int .i64 k ∧ Hid ((O.data.toList.take k).contains c = false)) (fun i => O.size - (RowKit.intOf i).toNat)
 case atStart => exact ⟨0, Nat.zero_le _, rfl, Lib.hid (by rw [List.take_zero]; rfl)⟩
 case round =>
  obtain ⟨k, hk, rfl, HP⟩ := hrel
  by_cases hlt : k < O.size
  ·have ht := any_take O c k hlt
   rw [HP.out, Bool.false_or] at ht
   have hw : IntKind.i64.wrap ((k : Int) + 1) = ((k + 1 : Nat) : Int) := by rw [IntWalk.i64_in _ (by omega)]; omega
   obtain ⟨b, hb⟩ : ∃ b, O[k] = b := ⟨_, rfl⟩
   rw [hb] at ht
   by_cases hc : b = c
   ·have hyb : (((b.toNat : Int)) == y) = true := by rw [hc, HY.out]; simp
    have HT : Hid (O.data.toList.contains c = true) := by
     have h1 : (O.data.toList.take (k + 1)).contains c = true := by rw [ht, hc]; simp
     show _ = _
     rw [List.contains_iff_mem] at h1 ⊢
     exact List.mem_of_mem_take h1
    clear ht hc
    have hqt : q = true := by rw [← HQ.out]; exact HT.out
    subst hqt
    go_wp2
    go_ret
    exact ⟨rfl, rfl⟩
   ·have hyb : (((b.toNat : Int)) == y) = false := by
     rw [beq_eq_false_iff_ne, HY.out]
     intro e
     exact hc (UInt8.toNat_inj.1 (by omega))
    have HT : Hid ((O.data.toList.take (k + 1)).contains c = false) := by
     show _ = _
     rw [ht, beq_eq_false_iff_ne]
     exact hc
    clear ht hc
    go_wp2
    go_round
    case measure => show O.size - (k + 1) < O.size - k; omega
    case rel => exact ⟨k + 1, by omega, rfl, HT⟩
  ·have he : k = O.size := by omega
   have HT : Hid (O.data.toList.contains c = false) := by
    have h1 := HP.out
    rw [he, List.take_of_length_le (by rw [Array.length_toList]; exact Nat.le_refl _)] at h1
    exact h1
   clear he
   have hqt : q = false := by rw [← HQ.out]; exact HT.out
   subst hqt
   go_wp2
   go_ret
   exact ⟨rfl, rfl⟩
theorem plain_marks : ∀ d : Fin 256, ([32, 9, 10, 59, 124, 38, 60, 62, 40, 41, 34, 39, 96, 36, 92, 42, 63, 91, 93, 123, 125, 126] : List UInt8).contains (UInt8.ofNat d.val) = shMarks.contains (UInt8.ofNat d.val) := by decide +kernel
theorem plain_any (c : UInt8) (w : World) :
  Calls Tryz.prog 51 #[.int .u8 (c.toNat : Int)] w fun x w' => x = .returned (.bool (!shMarks.contains c)) ∧ w = w' := by
 have k := in_any ⟨#[32, 9, 10, 59, 124, 38, 60, 62, 40, 41, 34, 39, 96, 36, 92, 42, 63, 91, 93, 123, 125, 126]⟩ c w (by decide)
 have h := plain_marks ⟨c.toNat, UInt8.toNat_lt c⟩
 simp only [UInt8.ofNat_toNat] at h
 rw [show (⟨#[32, 9, 10, 59, 124, 38, 60, 62, 40, 41, 34, 39, 96, 36, 92, 42, 63, 91, 93, 123, 125, 126]⟩ : ByteArray).data.toList = [32, 9, 10, 59, 124, 38, 60, 62, 40, 41, 34, 39, 96, 36, 92, 42, 63, 91, 93, 123, 125, 126] from rfl, h] at k
 clear h
 obtain ⟨q, hq⟩ : ∃ q, shMarks.contains c = q := ⟨_, rfl⟩
 rw [hq] at k ⊢
 clear hq
 generalize (c.toNat : Int) = y at *
 go_enter Tryz.func51, Tryz.ntmps51
 go_wp2_with (go_at_call 52; (with_reducible refine k.mono ?_); rintro e w1 ⟨rfl, rfl⟩)
 go_ret
 exact ⟨rfl, rfl⟩
theorem byte_eq (c d : UInt8) : ((c.toNat : Int) == (d.toNat : Int)) = (c == d) := by
 rw [Bool.eq_iff_iff, beq_iff_eq, beq_iff_eq]
 exact ⟨fun h => UInt8.toNat_inj.1 (by omega), fun h => by rw [h]⟩
theorem byte_ne (c d : UInt8) : ((c.toNat : Int) != (d.toNat : Int)) = (c != d) := by rw [bne, bne, byte_eq]
theorem TS.next {p : Nat} {S : ByteArray} {a d : Nat} {c : UInt8} {r : List UInt8} {w : World} (h : TR p S a d 0 w) (hl : S.data.toList.drop a = c :: r) : TS p S d (.at r) (w.setCell ⟨p, 1, none⟩ (.int .i64 ((a + 1 : Nat) : Int))) := by
 obtain ⟨ha, _, h2⟩ := restR hl
 exact ⟨a + 1, h.at _, ha, h2⟩
theorem TR.next' {p : Nat} {S : ByteArray} {a d : Nat} {c : UInt8} {r : List UInt8} {w : World} (h : TR p S a d 0 w) (hl : S.data.toList.drop a = c :: r) : TS p S d (.at r) (w.setCell ⟨p, 1, none⟩ (.int .i64 ((a : Int) + 1))) := by
 have := TS.next h hl
 rw [show ((a + 1 : Nat) : Int) = (a : Int) + 1 by omega] at this
 exact this
theorem TS.skip {p : Nat} {S : ByteArray} {a d n : Nat} {l : List UInt8} {w : World} (h : TR p S a d 0 w) (hl : S.data.toList.drop a = l) (hn : n ≤ l.length) (ha : a ≤ S.size) : TS p S d (.at (l.drop n)) (w.setCell ⟨p, 1, none⟩ (.int .i64 ((a + n : Nat) : Int))) := by
 have h3 : S.data.toList.length = S.size := Array.length_toList
 have h4 : l.length = S.size - a := by rw [← hl, List.length_drop, h3]
 exact ⟨a + n, h.at _, by omega, by rw [← hl, List.drop_drop]⟩
theorem byteX_ok (c : UInt8) (r : List UInt8) : needS [c] (c :: r) = .ok () r := by unfold needS; rw [take_eq]
theorem byteX_no (c d : UInt8) (r : List UInt8) (h : c ≠ d) : needS [c] (d :: r) = .bad 9 := by unfold needS; rw [take_ne h]
set_option maxHeartbeats 2000000 in
theorem byte1_any (p : Nat) (S : ByteArray) (d : Nat) (s : Sx) (c : UInt8) (w : World) (h : TS p S d s w) (hS : S.size ≤ 1048576) :
  Calls Tryz.prog 171 #[.pointer (some ⟨p, 0, none⟩), .int .u8 (c.toNat : Int)] w fun x w' => x = .returned (.tuple #[]) ∧ TS p S d (s.run (needS [c])).sx w' ∧ Mvr p w w' := by
 have ke := end_any p S d s w h hS
 have kc := Lib.hid (fun w1 (hb : Below w.heap.size w w1) => c_any p S d s w1 (h.below hb) hS)
 have kf := Lib.hid (fun w1 (hb : Below w.heap.size w w1) => fail_any p S d s 9 (by decide) w1 (h.below hb))
 have MV := Lib.hid (fun w1 (hb : Below w.heap.size w w1) => Mvr.of hb h.lt)
 have HB := Lib.hid (fun w1 w2 (hb : Below w.heap.size w w1) (hb2 : Below w1.heap.size w1 w2) => hb.trans (hb2.mono hb.size))
 have other : ∀ (q : Bool), s.end = q → (q = false → (s.c == c) = false) → s.fail 9 = (s.run (needS [c])).sx → Calls Tryz.prog 171 #[.pointer (some ⟨p, 0, none⟩), .int .u8 (c.toNat : Int)] w fun x w' => x = .returned (.tuple #[]) ∧ TS p S d (s.run (needS [c])).sx w' ∧ Mvr p w w' := by
  intro q hq hc hf
  rw [← hf]
  rw [hq] at ke
  clear hf h
  cases q
  ·have hne : ((s.c.toNat : Int) != (c.toNat : Int)) = true := by rw [byte_ne, bne, hc rfl]; rfl
   clear hc hq
   generalize (s.c.toNat : Int) = y at *
   generalize (c.toNat : Int) = z at *
   go_enter Tryz.func171, Tryz.ntmps171
   go_wp2_with (first
    | (go_at_call 32; (with_reducible refine ke.mono ?_); rintro e w1 ⟨rfl, b1⟩; have k2 := kc.out w1 b1; have B1 := Lib.hid b1; clear b1 ke)
    | (go_at_call 33; (with_reducible refine k2.mono ?_); rintro e w2 ⟨rfl, b2⟩; have k3 := kf.out w2 (HB.out _ _ B1.out b2); have B2 := Lib.hid (HB.out _ _ B1.out b2); clear b2 k2)
    | (go_at_call 16; (with_reducible refine k3.mono ?_); rintro e w3 ⟨rfl, h3⟩; have H3 := Lib.hid h3; clear h3 k3))
   exact bodyPost_ret (results_none rfl _ _ _) rfl ⟨rfl, H3.out.1, (MV.out _ B2.out).trans H3.out.2⟩
  ·clear hc hq kc
   generalize (c.toNat : Int) = z at *
   go_enter Tryz.func171, Tryz.ntmps171
   go_wp2_with (first
    | (go_at_call 32; (with_reducible refine ke.mono ?_); rintro e w1 ⟨rfl, b1⟩; have k3 := kf.out w1 b1; have B1 := Lib.hid b1; clear b1 ke)
    | (go_at_call 16; (with_reducible refine k3.mono ?_); rintro e w3 ⟨rfl, h3⟩; have H3 := Lib.hid h3; clear h3 k3))
   exact bodyPost_ret (results_none rfl _ _ _) rfl ⟨rfl, H3.out.1, (MV.out _ B1.out).trans H3.out.2⟩
 cases s with
 | bad b => exact other true rfl (fun h => by cases h) rfl
 | «at» l =>
  cases l with
  | nil => exact other true rfl (fun h => by cases h) rfl
  | cons e r =>
   by_cases hc : e = c
   ·subst hc
    clear other kf
    rw [show ((Sx.at (e :: r)).run (needS [e])).sx = .at r by rw [show (Sx.at (e :: r)).run (needS [e]) = needS [e] (e :: r) from rfl, byteX_ok]; rfl]
    have hq : (Sx.at (e :: r)).end = false := rfl
    have hcc : (Sx.at (e :: r)).c = e := rfl
    rw [hq] at ke
    rw [hcc] at kc
    obtain ⟨a, h, ha, hl⟩ := h
    have ND := Lib.hid (fun w1 (hb : Below w.heap.size w w1) => (⟨(h.below hb).cells.1.2.1, (h.below hb).cells.2.1, (h.below hb).next' hl⟩ : w1.cell? ⟨p, 1, none⟩ = some (.int .i64 (a : Int)) ∧ w1.frozen? ⟨p, 1, none⟩ = false ∧ TS p S d (.at r) (w1.setCell ⟨p, 1, none⟩ (.int .i64 ((a : Int) + 1)))))
    have hwk : IntKind.i64.wrap ((a : Int) + 1) = (a : Int) + 1 := IntWalk.i64_in _ (by omega)
    have hne : ((e.toNat : Int) != (e.toNat : Int)) = false := by simp
    clear h hl hq hcc ha
    generalize (e.toNat : Int) = y at *
    go_enter Tryz.func171, Tryz.ntmps171
    go_wp2_with (first
     | (go_at_call 32; (with_reducible refine ke.mono ?_); rintro e w1 ⟨rfl, b1⟩; have k2 := kc.out w1 b1; have B1 := Lib.hid b1; clear b1 ke)
     | (go_at_call 33; (with_reducible refine k2.mono ?_); rintro e w2 ⟨rfl, b2⟩; obtain ⟨g1, g2, g3⟩ := ND.out w2 (HB.out _ _ B1.out b2); have G3 := Lib.hid g3; have B2 := Lib.hid (HB.out _ _ B1.out b2); clear b2 k2 g3))
    go_end0
    exact ⟨rfl, G3.out, (MV.out _ B2.out).trans (Mvr.set p _ _ _)⟩
   ·exact other false rfl (fun _ => by rw [show (Sx.at (e :: r)).c = e from rfl]; simpa using hc) (by
     rw [show (Sx.at (e :: r)).run (needS [c]) = needS [c] (e :: r) from rfl, byteX_no c e r (fun h => hc h.symm)]; rfl)
end Go.Proofs.YtelfgobjnibooaaGreatDoor
namespace Go.Proofs.YtelfgobjnibooaaGreatDoor
open Go.RowKit Go.Lib
def Sx.map (f : List UInt8 → List UInt8) : Sx → Sx
 | .at l => .at (f l)
 | .bad e => .bad e
def Sx.len : Sx → Nat
 | .at l => l.length
 | .bad _ => 0
theorem TS.size {p : Nat} {S : ByteArray} {d : Nat} {s : Sx} {w : World} (h : TS p S d s w) : s.len ≤ S.size := by
 cases s with
 | «at» l =>
  obtain ⟨a, _, _, hl⟩ := h
  have h3 : S.data.toList.length = S.size := Array.length_toList
  show l.length ≤ _
  rw [← hl, List.length_drop, h3]
  omega
 | bad e => exact Nat.zero_le _
theorem TS.step {p : Nat} {S : ByteArray} {d : Nat} {c : UInt8} {r : List UInt8} {w : World} (h : TS p S d (.at (c :: r)) w) (hS : S.size ≤ 1048576) : ∃ a : Nat, IntKind.i64.wrap ((a : Int) + 1) = (a : Int) + 1 ∧ ∀ w1, Below w.heap.size w w1 → w1.cell? ⟨p, 1, none⟩ = some (.int .i64 (a : Int)) ∧ w1.frozen? ⟨p, 1, none⟩ = false ∧ TS p S d (.at r) (w1.setCell ⟨p, 1, none⟩ (.int .i64 ((a : Int) + 1))) ∧ Mvr p w (w1.setCell ⟨p, 1, none⟩ (.int .i64 ((a : Int) + 1))) := by
 obtain ⟨a, h, ha, hl⟩ := h
 exact ⟨a, IntWalk.i64_in _ (by omega), fun w1 hb => ⟨(h.below hb).cells.1.2.1, (h.below hb).cells.2.1, (h.below hb).next' hl, (Mvr.of hb h.lt).trans (Mvr.set p _ _ _)⟩⟩
theorem white_cases (c : UInt8) : (c = 32 ∨ c = 9) ∧ whiteS c = true ∨ whiteS c = false ∧ ((c.toNat : Int) == 32) = false ∧ ((c.toNat : Int) == 9) = false := by
 have e1 := byte_eq c 32
 have e2 := byte_eq c 9
 by_cases h1 : c = 32
 ·exact .inl ⟨.inl h1, by rw [h1]; rfl⟩
 ·by_cases h2 : c = 9
  ·exact .inl ⟨.inr h2, by rw [h2]; rfl⟩
  ·refine .inr ⟨by simp [whiteS, h1, h2], ?_, ?_⟩
   ·show ((c.toNat : Int) == ((32 : UInt8).toNat : Int)) = false
    rw [e1]; simpa using h1
   ·show ((c.toNat : Int) == ((9 : UInt8).toNat : Int)) = false
    rw [e2]; simpa using h2
theorem below2 {w w1 w2 : World} (h : Below w.heap.size w w1) (k : Below w1.heap.size w1 w2) : Below w.heap.size w w2 := h.trans (k.mono h.size)
set_option maxHeartbeats 4000000 in
set_option maxRecDepth 20000 in
theorem white_any (p : Nat) (S : ByteArray) (d : Nat) (s : Sx) (w : World) (h : TS p S d s w) (hS : S.size ≤ 1048576) :
    Calls Tryz.prog 50 #[.pointer (some ⟨p, 0, none⟩)] w fun x w' => x = .returned (.tuple #[]) ∧ TS p S d (s.map gapS) w' ∧ Mvr p w w' := by
  obtain ⟨X1, hX1⟩ : ∃ X1, s.map (List.dropWhile whiteS) = X1 := ⟨_, rfl⟩
  obtain ⟨X2, hX2⟩ : ∃ X2, s.map gapS = X2 := ⟨_, rfl⟩
  have hX12 : X1.map remS = X2 := by rw [← hX1, ← hX2]; cases s <;> rfl
  rw [hX2]
  have H0 := Lib.hid (And.intro h (And.intro (Mvr.refl p w) hX1))
  have HX := Lib.hid hX12
  have hz := h.size
  have KE := Lib.hid (fun (t : Sx) (wr : World) (ht : TS p S d t wr) => end_any p S d t wr ht hS)
  have KC := Lib.hid (fun (t : Sx) (wr : World) (ht : TS p S d t wr) => c_any p S d t wr ht hS)
  clear h hX1 hX2 hX12
  go_enter Tryz.func50, Tryz.ntmps50
  go_upto_block 0 with fail
  go_cut [] (fun wx => Hid (TS p S d X1 wx) ∧ Hid (Mvr p w wx))
  case first =>
    go_wp2_with fail
    go_loopg [] (s.len + 1) (fun q wr => ∃ t : Sx, Hid (TS p S d t wr ∧ Mvr p w wr ∧ t.map (List.dropWhile whiteS) = X1) ∧ Hid (q = t.len + 1))
    case atStart => exact ⟨s, H0, rfl⟩
    case round =>
      obtain ⟨t, HT, HQ⟩ := hrel
      obtain ⟨ht, hm, hx⟩ := HT.out
      have ke := KE.out t wr ht
      have ENDS : t.end = true → Hid (t = X1) := fun h => by
        show _ = _
        rw [← hx]
        cases t with
        | bad e => rfl
        | «at» l => cases l with
          | nil => rfl
          | cons c r => cases h
      by_cases hq : t.end = true
      · have HE := ENDS hq
        have FIN := Lib.hid (fun w1 (hb : Below wr.heap.size wr w1) => (⟨by rw [← HE.out]; exact ht.below hb, hm.trans (Mvr.of hb ht.lt)⟩ : TS p S d X1 w1 ∧ Mvr p w w1))
        rw [hq] at ke
        clear ht hm hx ENDS HE hq HT
        go_wp2_with (first
          | (go_at_call 32; (with_reducible refine ke.mono ?_); rintro e w1 ⟨rfl, b1⟩; have F := Lib.hid (FIN.out w1 b1); clear b1 ke))
        go_meet
        case rel => exact ⟨F.out.1, F.out.2⟩
      · obtain ⟨c, r, rfl⟩ : ∃ c r, t = .at (c :: r) := by
          cases t with
          | bad e => exact absurd rfl hq
          | «at» l => cases l with
            | nil => exact absurd rfl hq
            | cons c r => exact ⟨c, r, rfl⟩
        have hq : (Sx.at (c :: r)).end = false := rfl
        rw [hq] at ke
        have kc := Lib.hid (fun w1 (hb : Below wr.heap.size wr w1) => KC.out _ w1 (ht.below hb))
        have hcc : (Sx.at (c :: r)).c = c := rfl
        rw [hcc] at kc
        rcases white_cases c with ⟨hc, hwt⟩ | ⟨hwt, hn1, hn2⟩
        · obtain ⟨a, hwk, hst⟩ := ht.step hS
          have ST := Lib.hid hst
          have HT2 := Lib.hid (fun wy (h1 : TS p S d (.at r) wy) (h2 : Mvr p wr wy) => (⟨h1, hm.trans h2, by rw [← hx]; show Sx.at (r.dropWhile whiteS) = Sx.at ((c :: r).dropWhile whiteS); rw [List.dropWhile_cons_of_pos hwt]⟩ : TS p S d (.at r) wy ∧ Mvr p w wy ∧ (Sx.at r).map (List.dropWhile whiteS) = X1))
          clear hst ht hm hx ENDS HT hcc hwt hq
          rcases hc with rfl | rfl
          · go_wp2_with (first
              | (go_at_call 32; (with_reducible refine ke.mono ?_); rintro e w1 ⟨rfl, b1⟩; have k2 := kc.out w1 b1; have B1 := Lib.hid b1; clear b1 ke)
              | (go_at_call 33; (with_reducible refine k2.mono ?_); rintro e w2 ⟨rfl, b2⟩; have B2 := Lib.hid (below2 B1.out b2); obtain ⟨g1, g2, g3, g4⟩ := ST.out w2 B2.out; have G := Lib.hid (HT2.out _ g3 g4); clear b2 k2 g3 g4))
            go_roundg (r.length + 1)
            case rel => exact ⟨.at r, G, rfl⟩
            case measure => have h1 : gk = (32 :: r).length + 1 := HQ.out; rw [List.length_cons] at h1; omega
          · have hn1 : (((9 : UInt8).toNat : Int) == 32) = false := rfl
            go_wp2_with (first
              | (go_at_call 32; (with_reducible refine ke.mono ?_); rintro e w1 ⟨rfl, b1⟩; have k2 := kc.out w1 b1; have B1 := Lib.hid b1; clear b1 ke)
              | (go_at_call 33; (with_reducible refine k2.mono ?_); rintro e w2 ⟨rfl, b2⟩; have B2 := Lib.hid (below2 B1.out b2); have k3 := kc.out w2 B2.out; clear b2 k2)
              | (go_at_call 33; (with_reducible refine k3.mono ?_); rintro e w3 ⟨rfl, b3⟩; obtain ⟨g1, g2, g3, g4⟩ := ST.out w3 (below2 B2.out b3); have G := Lib.hid (HT2.out _ g3 g4); clear b3 k3 g3 g4))
            go_roundg (r.length + 1)
            case rel => exact ⟨.at r, G, rfl⟩
            case measure => have h1 : gk = (9 :: r).length + 1 := HQ.out; rw [List.length_cons] at h1; omega
        · have hx2 : Sx.at (c :: r) = X1 := by rw [← hx]; show _ = Sx.at ((c :: r).dropWhile whiteS); rw [List.dropWhile_cons_of_neg (by simp [hwt])]
          have FIN := Lib.hid (fun w1 (hb : Below wr.heap.size wr w1) => (⟨by rw [← hx2]; exact ht.below hb, hm.trans (Mvr.of hb ht.lt)⟩ : TS p S d X1 w1 ∧ Mvr p w w1))
          clear ht hm hx ENDS hx2 HT hcc hwt hq
          generalize (c.toNat : Int) = y at *
          go_wp2_with (first
            | (go_at_call 32; (with_reducible refine ke.mono ?_); rintro e w1 ⟨rfl, b1⟩; have k2 := kc.out w1 b1; have B1 := Lib.hid b1; clear b1 ke)
            | (go_at_call 33; (with_reducible refine k2.mono ?_); rintro e w2 ⟨rfl, b2⟩; have B2 := Lib.hid (below2 B1.out b2); have k3 := kc.out w2 B2.out; clear b2 k2)
            | (go_at_call 33; (with_reducible refine k3.mono ?_); rintro e w3 ⟨rfl, b3⟩; have F := Lib.hid (FIN.out _ (below2 B2.out b3)); clear b3 k3))
          go_meet
          case rel => exact ⟨F.out.1, F.out.2⟩
  case rest =>
    obtain ⟨H1, HM1⟩ := hcut
    clear H0
    have ke := KE.out X1 wc H1.out
    have kc := Lib.hid (fun w1 (hb : Below wc.heap.size wc w1) => KC.out X1 w1 (H1.out.below hb))
    have FINX := Lib.hid (fun w1 (hb : Below wc.heap.size wc w1) => (⟨H1.out.below hb, HM1.out.trans (Mvr.of hb H1.out.lt)⟩ : TS p S d X1 w1 ∧ Mvr p w w1))
    by_cases hq : X1.end = true
    · have hx : X1 = X2 := by
        rw [← HX.out]
        cases X1 with
        | bad e => rfl
        | «at» l => cases l with
          | nil => rfl
          | cons c r => cases hq
      rw [hq] at ke
      rw [hx] at FINX
      clear kc hx hq
      go_wp2_with (first
        | (go_at_call 32; (with_reducible refine ke.mono ?_); rintro e w1 ⟨rfl, b1⟩; have F := Lib.hid (FINX.out w1 b1); clear b1 ke))
      go_end0
      exact ⟨rfl, F.out⟩
    · obtain ⟨c, r, rfl⟩ : ∃ c r, X1 = .at (c :: r) := by
        cases X1 with
        | bad e => exact absurd rfl hq
        | «at» l => cases l with
          | nil => exact absurd rfl hq
          | cons c r => exact ⟨c, r, rfl⟩
      have hq : (Sx.at (c :: r)).end = false := rfl
      rw [hq] at ke
      have hcc : (Sx.at (c :: r)).c = c := rfl
      rw [hcc] at kc
      clear hq hcc
      by_cases hc : c = 35
      · subst hc
        have hX2 : (Sx.at (35 :: r)).map (pastS [10]) = X2 := by rw [← HX.out]; rfl
        have hzz := (Mvr.size HM1.out)
        have HX2 := Lib.hid hX2
        have hz1 := H1.out.size
        clear hX2 HX hzz
        go_wp2_with (first
          | (go_at_call 32; (with_reducible refine ke.mono ?_); rintro e w1 ⟨rfl, b1⟩; have k2 := kc.out w1 b1; have B1 := Lib.hid b1; clear b1 ke)
          | (go_at_call 33; (with_reducible refine k2.mono ?_); rintro e w2 ⟨rfl, b2⟩; have F2 := Lib.hid (FINX.out _ (below2 B1.out b2)); clear b2 k2))
        clear kc
        go_loopg [] ((Sx.at (35 :: r)).len + 1) (fun q wr => ∃ t : Sx, Hid (TS p S d t wr ∧ Mvr p w wr ∧ t.map (pastS [10]) = X2) ∧ Hid (q = t.len + 1))
        case atStart => exact ⟨.at (35 :: r), ⟨F2.out.1, F2.out.2, HX2.out⟩, rfl⟩
        case round =>
          obtain ⟨t, HT, HQ⟩ := hrel
          obtain ⟨ht, hm, hx⟩ := HT.out
          have ke := KE.out t wr ht
          clear F2 HX2 FINX H1 HM1
          by_cases hq : t.end = true
          · have hE : t = X2 := by
              rw [← hx]
              cases t with
              | bad e => rfl
              | «at» l => cases l with
                | nil => rfl
                | cons c r => cases hq
            have FIN := Lib.hid (fun w1 (hb : Below wr.heap.size wr w1) => (⟨by rw [← hE]; exact ht.below hb, hm.trans (Mvr.of hb ht.lt)⟩ : TS p S d X2 w1 ∧ Mvr p w w1))
            rw [hq] at ke
            clear ht hm hx hE hq HT
            go_wp2_with (first
              | (go_at_call 32; (with_reducible refine ke.mono ?_); rintro e w1 ⟨rfl, b1⟩; have F := Lib.hid (FIN.out w1 b1); clear b1 ke))
            go_end0
            exact ⟨rfl, F.out⟩
          · obtain ⟨c, r2, rfl⟩ : ∃ c r, t = .at (c :: r) := by
              cases t with
              | bad e => exact absurd rfl hq
              | «at» l => cases l with
                | nil => exact absurd rfl hq
                | cons c r => exact ⟨c, r, rfl⟩
            have hq : (Sx.at (c :: r2)).end = false := rfl
            rw [hq] at ke
            have kc := Lib.hid (fun w1 (hb : Below wr.heap.size wr w1) => KC.out _ w1 (ht.below hb))
            have hcc : (Sx.at (c :: r2)).c = c := rfl
            rw [hcc] at kc
            by_cases hc : c = 10
            · subst hc
              have hE : Sx.at (10 :: r2) = X2 := by rw [← hx]; rfl
              have FIN := Lib.hid (fun w1 (hb : Below wr.heap.size wr w1) => (⟨by rw [← hE]; exact ht.below hb, hm.trans (Mvr.of hb ht.lt)⟩ : TS p S d X2 w1 ∧ Mvr p w w1))
              clear ht hm hx hE hq HT hcc
              go_wp2_with (first
                | (go_at_call 32; (with_reducible refine ke.mono ?_); rintro e w1 ⟨rfl, b1⟩; have k2 := kc.out w1 b1; have B1 := Lib.hid b1; clear b1 ke)
                | (go_at_call 33; (with_reducible refine k2.mono ?_); rintro e w2 ⟨rfl, b2⟩; have F := Lib.hid (FIN.out _ (below2 B1.out b2)); clear b2 k2))
              go_end0
              exact ⟨rfl, F.out⟩
            · have hn : ((c.toNat : Int) != 10) = true := by
                show ((c.toNat : Int) != ((10 : UInt8).toNat : Int)) = true
                rw [byte_ne]; simpa using hc
              obtain ⟨a, hwk, hst⟩ := ht.step hS
              have ST := Lib.hid hst
              have HT2 := Lib.hid (fun wy (h1 : TS p S d (.at r2) wy) (h2 : Mvr p wr wy) => (⟨h1, hm.trans h2, by rw [← hx]; show Sx.at (pastS [10] r2) = Sx.at (pastS [10] (c :: r2)); rw [(run_next (of := [10]) (by simpa using hc) r2).2]⟩ : TS p S d (.at r2) wy ∧ Mvr p w wy ∧ (Sx.at r2).map (pastS [10]) = X2))
              clear hst ht hm hx HT hcc hq hc
              have HC : Hid (gk = (c :: r2).length + 1) := HQ
              clear HQ
              generalize (c.toNat : Int) = y at *
              go_wp2_with (first
                | (go_at_call 32; (with_reducible refine ke.mono ?_); rintro e w1 ⟨rfl, b1⟩; have k2 := kc.out w1 b1; have B1 := Lib.hid b1; clear b1 ke)
                | (go_at_call 33; (with_reducible refine k2.mono ?_); rintro e w2 ⟨rfl, b2⟩; have B2 := Lib.hid (below2 B1.out b2); obtain ⟨g1, g2, g3, g4⟩ := ST.out w2 B2.out; have G := Lib.hid (HT2.out _ g3 g4); clear b2 k2 g3 g4))
              go_roundg (r2.length + 1)
              case rel => exact ⟨.at r2, G, rfl⟩
              case measure => have h1 := HC.out; rw [List.length_cons] at h1; omega
      · have hx : Sx.at (c :: r) = X2 := by
          rw [← HX.out]
          show _ = Sx.at (remS (c :: r))
          unfold remS
          rw [if_neg]
          intro e
          exact hc (by simpa [atS] using e)
        have hn : ((c.toNat : Int) == 35) = false := by
          show ((c.toNat : Int) == ((35 : UInt8).toNat : Int)) = false
          rw [byte_eq]; simpa using hc
        rw [hx] at FINX
        clear hx hc H1 HM1 HX
        generalize (c.toNat : Int) = y at *
        go_wp2_with (first
          | (go_at_call 32; (with_reducible refine ke.mono ?_); rintro e w1 ⟨rfl, b1⟩; have k2 := kc.out w1 b1; have B1 := Lib.hid b1; clear b1 ke)
          | (go_at_call 33; (with_reducible refine k2.mono ?_); rintro e w2 ⟨rfl, b2⟩; have F := Lib.hid (FINX.out _ (below2 B1.out b2)); clear b2 k2))
        go_end0
        exact ⟨rfl, F.out⟩
end Go.Proofs.YtelfgobjnibooaaGreatDoor
namespace Go.Proofs.YtelfgobjnibooaaGreatDoor
open Go.RowKit Go.Lib
theorem gap_head (l : List UInt8) : gapS l = [] ∨ ∃ c r, gapS l = c :: r ∧ whiteS c = false ∧ c ≠ 35 := by
 cases hl : gapS l with
 | nil => exact .inl rfl
 | cons c r =>
  refine .inr ⟨c, r, rfl, ?_⟩
  unfold gapS remS at hl
  split at hl
  ·unfold pastS at hl
   have h2 : [10].contains c = true := by
    have := List.head?_dropWhile_not (fun c => !([10] : List UInt8).contains c) (l.dropWhile whiteS)
    rw [hl] at this
    simpa using this
   have : c = 10 := by simpa using h2
   subst this
   exact ⟨rfl, by decide⟩
  ·rename_i h3
   have := List.head?_dropWhile_not whiteS l
   rw [hl] at this h3
   refine ⟨by simpa using this, fun e => ?_⟩
   subst e
   exact h3 rfl
theorem gap_gap (l : List UInt8) : gapS (gapS l) = gapS l := by
 rcases gap_head l with h | ⟨c, r, h, h1, h2⟩
 ·rw [h]; rfl
 ·rw [h]
  unfold gapS
  rw [List.dropWhile_cons, h1]
  unfold remS
  rw [if_neg (by simp [atS, h2]), if_neg (by simp)]
theorem skip_of_gap (of l : List UInt8) : skipS of (gapS l) = skipS of l := by
 rw [skipS_eq, skipS_eq of l, gap_gap]
def Sx.on (of : List UInt8) : Sx → Bool
 | .at l => atS of l
 | .bad _ => false
def ofL (lines : Bool) : List UInt8 := if lines then [10] else shEnds
theorem at_gapped {of : List UInt8} {c : UInt8} {r : List UInt8} (hg : gapS (c :: r) = c :: r) (h : of.contains c = true) : skipS of (c :: r) = skipS of r := by
 rw [skipS_eq, hg]
 exact if_pos h
theorem not_gapped {of l : List UInt8} (hg : gapS l = l) (h : atS of l = false) : skipS of l = l := by
 rw [skipS_eq, hg]
 cases l with
 | nil => rfl
 | cons c r => exact if_neg (by rw [show of.contains c = false from h]; simp)
theorem sep_cases (lines : Bool) (c : UInt8) : (c = 10 ∨ c = 59 ∧ lines = false) ∧ (ofL lines).contains c = true ∨ (ofL lines).contains c = false ∧ ((c.toNat : Int) == 10) = false ∧ (((c.toNat : Int) == 59) = false ∨ c = 59 ∧ lines = true) := by
 by_cases h1 : c = 10
 ·exact .inl ⟨.inl h1, by subst h1; cases lines <;> rfl⟩
 ·have hn : ((c.toNat : Int) == 10) = false := by
   show ((c.toNat : Int) == ((10 : UInt8).toNat : Int)) = false
   rw [byte_eq]; simpa using h1
  by_cases h2 : c = 59
  ·cases lines with
   | false => exact .inl ⟨.inr ⟨h2, rfl⟩, by subst h2; rfl⟩
   | true => exact .inr ⟨by subst h2; rfl, hn, .inr ⟨h2, rfl⟩⟩
  ·refine .inr ⟨?_, hn, .inl ?_⟩
   ·cases lines
    ·simp [ofL, shEnds, h1, h2]
    ·simp [ofL, h1]
   ·show ((c.toNat : Int) == ((59 : UInt8).toNat : Int)) = false
    rw [byte_eq]; simpa using h2
def SepI (p : Nat) (S : ByteArray) (d : Nat) (w : World) (of : List UInt8) (X : Sx) (W : Bool) (b : Bool) (t : Sx) (wr : World) : Prop :=
 TS p S d t wr ∧ Mvr p w wr ∧ t.map gapS = t ∧ t.map (skipS of) = X ∧ (b || t.on of) = W
set_option maxHeartbeats 4000000 in
set_option maxRecDepth 20000 in
theorem seps_any (p : Nat) (S : ByteArray) (d : Nat) (s : Sx) (lines : Bool) (w : World) (h : TS p S d s w) (hS : S.size ≤ 1048576) :
    Calls Tryz.prog 31 #[.pointer (some ⟨p, 0, none⟩), .bool lines] w fun x w' => x = .returned (.bool ((s.map gapS).on (ofL lines))) ∧ TS p S d (s.map (skipS (ofL lines))) w' ∧ Mvr p w w' := by
  obtain ⟨of, hof⟩ : ∃ of, ofL lines = of := ⟨_, rfl⟩
  have SC := Lib.hid (sep_cases lines)
  rw [hof] at SC ⊢
  obtain ⟨X, hX⟩ : ∃ X, s.map (skipS of) = X := ⟨_, rfl⟩
  obtain ⟨W, hW⟩ : ∃ W, (s.map gapS).on of = W := ⟨_, rfl⟩
  rw [hX, hW]
  have kw := white_any p S d s w h hS
  have IN0 := Lib.hid (fun w1 (h1 : TS p S d (s.map gapS) w1) (h2 : Mvr p w w1) => (⟨h1, h2, by cases s with | bad e => rfl | «at» l => exact congrArg Sx.at (gap_gap l), by rw [← hX]; cases s with | bad e => rfl | «at» l => exact congrArg Sx.at (skip_of_gap of l), by rw [← hW]; exact Bool.false_or _⟩ : SepI p S d w of X W false (s.map gapS) w1))
  have KE := Lib.hid (fun (t : Sx) (wr : World) (ht : TS p S d t wr) => end_any p S d t wr ht hS)
  have KC := Lib.hid (fun (t : Sx) (wr : World) (ht : TS p S d t wr) => c_any p S d t wr ht hS)
  have KW := Lib.hid (fun (t : Sx) (wr : World) (ht : TS p S d t wr) => white_any p S d t wr ht hS)
  obtain ⟨s1, hs1⟩ : ∃ s1, s.map gapS = s1 := ⟨_, rfl⟩
  rw [hs1] at kw IN0
  clear hof hX hW h hs1
  go_enter Tryz.func31, Tryz.ntmps31
  go_wp2_with (go_at_call 50; (with_reducible refine kw.mono ?_); rintro e w1 ⟨rfl, h1, h2⟩; have I1 := Lib.hid (IN0.out _ h1 h2); clear h1 h2 kw)
  go_loopg [5] (s1.len + 1) (fun q s5 wr => ∃ (b : Bool) (t : Sx), s5 = .bool b ∧ Hid (SepI p S d w of X W b t wr) ∧ t.len ≤ s1.len ∧ Hid (q = t.len + 1))
  case atStart => exact ⟨false, s1, rfl, I1, Nat.le_refl _, rfl⟩
  case round =>
    obtain ⟨b, t, rfl, HT, hlen, HQ⟩ := hrel
    obtain ⟨ht, hm, hg, hx, hw⟩ := HT.out
    have ke := KE.out t wr ht
    clear I1 IN0
    by_cases hq : t.end = true
    · have hE : t = X ∧ b = W := by
        rw [← hx, ← hw]
        cases t with
        | bad e => exact ⟨rfl, by simp [Sx.on]⟩
        | «at» l => cases l with
          | nil => exact ⟨rfl, by simp [Sx.on, atS]⟩
          | cons c r => cases hq
      obtain ⟨rfl, rfl⟩ := hE
      have FIN := Lib.hid (fun w1 (hb : Below wr.heap.size wr w1) => (⟨ht.below hb, hm.trans (Mvr.of hb ht.lt)⟩ : TS p S d t w1 ∧ Mvr p w w1))
      rw [hq] at ke
      clear ht hm hx hw hg hq HT
      go_wp2_with (first
        | (go_at_call 32; (with_reducible refine ke.mono ?_); rintro e w1 ⟨rfl, b1⟩; have F := Lib.hid (FIN.out w1 b1); clear b1 ke))
      go_ret
      exact ⟨rfl, F.out⟩
    · obtain ⟨c, r, rfl⟩ : ∃ c r, t = .at (c :: r) := by
        cases t with
        | bad e => exact absurd rfl hq
        | «at» l => cases l with
          | nil => exact absurd rfl hq
          | cons c r => exact ⟨c, r, rfl⟩
      have hq : (Sx.at (c :: r)).end = false := rfl
      rw [hq] at ke
      have kc := Lib.hid (fun w1 (hb : Below wr.heap.size wr w1) => KC.out _ w1 (ht.below hb))
      have hcc : (Sx.at (c :: r)).c = c := rfl
      rw [hcc] at kc
      have hg : gapS (c :: r) = c :: r := by injection hg
      rcases SC.out c with ⟨hc, hin⟩ | ⟨hin, hn1, hn2⟩
      · obtain ⟨a, hwk, hst⟩ := ht.step hS
        have ST := Lib.hid hst
        have hWt : W = true := by rw [← hw]; show (b || of.contains c) = true; rw [hin]; simp
        subst hWt
        have HT2 := Lib.hid (fun wy (h1 : TS p S d (.at (gapS r)) wy) (h2 : Mvr p wr wy) => (⟨h1, hm.trans h2, congrArg Sx.at (gap_gap r), by rw [← hx]; show Sx.at (skipS of (gapS r)) = Sx.at (skipS of (c :: r)); rw [skip_of_gap, at_gapped hg hin], rfl⟩ : SepI p S d w of X true true (.at (gapS r)) wy))
        have kwn := Lib.hid (fun wy (h1 : TS p S d (.at r) wy) => KW.out (.at r) wy h1)
        have hgl := gapS_len r
        clear hst ht hm hx HT hcc hq hw hg hin SC
        have HC : Hid (gk = (c :: r).length + 1) := HQ
        clear HQ
        have hlen2 : r.length + 1 ≤ s1.len := hlen
        clear hlen
        rcases hc with rfl | ⟨rfl, rfl⟩
        · go_wp2_with (first
            | (go_at_call 32; (with_reducible refine ke.mono ?_); rintro e w1 ⟨rfl, b1⟩; have k2 := kc.out w1 b1; have B1 := Lib.hid b1; clear b1 ke)
            | (go_at_call 33; (with_reducible refine k2.mono ?_); rintro e w2 ⟨rfl, b2⟩; have B2 := Lib.hid (below2 B1.out b2); obtain ⟨g1, g2, g3, g4⟩ := ST.out w2 B2.out; have k3 := kwn.out _ g3; have G4 := Lib.hid g4; clear b2 k2 g3 g4)
            | (go_at_call 50; (with_reducible refine k3.mono ?_); rintro e w3 ⟨rfl, h3, m3⟩; have G := Lib.hid (HT2.out _ h3 (G4.out.trans m3)); clear h3 m3 k3))
          go_roundg ((gapS r).length + 1)
          case rel => exact ⟨true, .at (gapS r), rfl, G, by show (gapS r).length ≤ _; omega, rfl⟩
          case measure => have h1 := HC.out; rw [List.length_cons] at h1; omega
        · have hn1 : (((59 : UInt8).toNat : Int) == 10) = false := rfl
          go_wp2_with (first
            | (go_at_call 32; (with_reducible refine ke.mono ?_); rintro e w1 ⟨rfl, b1⟩; have k2 := kc.out w1 b1; have B1 := Lib.hid b1; clear b1 ke)
            | (go_at_call 33; (with_reducible refine k2.mono ?_); rintro e w2 ⟨rfl, b2⟩; have B2 := Lib.hid (below2 B1.out b2); have k4 := kc.out w2 B2.out; clear b2 k2)
            | (go_at_call 33; (with_reducible refine k4.mono ?_); rintro e w2 ⟨rfl, b2⟩; have B3 := Lib.hid (below2 B2.out b2); obtain ⟨g1, g2, g3, g4⟩ := ST.out w2 B3.out; have k3 := kwn.out _ g3; have G4 := Lib.hid g4; clear b2 k4 g3 g4)
            | (go_at_call 50; (with_reducible refine k3.mono ?_); rintro e w3 ⟨rfl, h3, m3⟩; have G := Lib.hid (HT2.out _ h3 (G4.out.trans m3)); clear h3 m3 k3))
          go_roundg ((gapS r).length + 1)
          case rel => exact ⟨true, .at (gapS r), rfl, G, by show (gapS r).length ≤ _; omega, rfl⟩
          case measure => have h1 := HC.out; rw [List.length_cons] at h1; omega
      · have hE : Sx.at (c :: r) = X ∧ b = W := by
          rw [← hx, ← hw]
          exact ⟨(congrArg Sx.at (not_gapped hg hin)).symm, by show b = (b || of.contains c); rw [hin]; simp⟩
        obtain ⟨hE1, rfl⟩ := hE
        have FIN := Lib.hid (fun w1 (hb : Below wr.heap.size wr w1) => (⟨by rw [← hE1]; exact ht.below hb, hm.trans (Mvr.of hb ht.lt)⟩ : TS p S d X w1 ∧ Mvr p w w1))
        clear ht hm hx hw hg hq HT hE1 hcc hin SC
        rcases hn2 with hn2 | ⟨rfl, rfl⟩
        · generalize (c.toNat : Int) = y at *
          go_wp2_with (first
            | (go_at_call 32; (with_reducible refine ke.mono ?_); rintro e w1 ⟨rfl, b1⟩; have k2 := kc.out w1 b1; have B1 := Lib.hid b1; clear b1 ke)
            | (go_at_call 33; (with_reducible refine k2.mono ?_); rintro e w2 ⟨rfl, b2⟩; have B2 := Lib.hid (below2 B1.out b2); have k4 := kc.out w2 B2.out; clear b2 k2)
            | (go_at_call 33; (with_reducible refine k4.mono ?_); rintro e w2 ⟨rfl, b2⟩; have F := Lib.hid (FIN.out _ (below2 B2.out b2)); clear b2 k4))
          go_ret
          exact ⟨rfl, F.out⟩
        · go_wp2_with (first
            | (go_at_call 32; (with_reducible refine ke.mono ?_); rintro e w1 ⟨rfl, b1⟩; have k2 := kc.out w1 b1; have B1 := Lib.hid b1; clear b1 ke)
            | (go_at_call 33; (with_reducible refine k2.mono ?_); rintro e w2 ⟨rfl, b2⟩; have B2 := Lib.hid (below2 B1.out b2); have k4 := kc.out w2 B2.out; clear b2 k2)
            | (go_at_call 33; (with_reducible refine k4.mono ?_); rintro e w2 ⟨rfl, b2⟩; have F := Lib.hid (FIN.out _ (below2 B2.out b2)); clear b2 k4))
          go_ret
          exact ⟨rfl, F.out⟩
end Go.Proofs.YtelfgobjnibooaaGreatDoor
