/- The document's own reading of a class. No condition. What it leans on. (Written by gen_refread.py.) -/
import Derived.Test.YtojjjkicgbdknaaClsRefNot
import Derived.Test.YtojjjkicgbdknaaClsSign2
import Derived.Test.YtojjjkicgbdknaaClsReadAny
import Derived.Deep.RegionWith
namespace Go.Proofs.Ytojjjkicgbdknaa
open Go.RowKit Go.Lib

/-- The two blocks of a reading: the result's, and the class so far. -/
structure RI (w : World) (K : Cl) (Z : World) : Prop where
  res : ∃ R : Cl, Z.heap[w.heap.size]? = some (.cells (clsA R) 30 (0, 0))
  mine : Z.heap[w.heap.size + 1]? = some (.cells (clsA K) 30 (0, 0))
  low : Below w.heap.size w Z
theorem RI.later {w Z Z' : World} {K : Cl} (h : RI w K Z) (hb : Below Z.heap.size Z Z') : RI w K Z' :=
  ⟨h.res.imp fun R hR => (hb.block _ (block_at hR)).trans hR, (hb.block _ (block_at h.mine)).trans h.mine, h.low.trans (hb.mono h.low.size)⟩
theorem RI.store {w Z : World} {K : Cl} (h : RI w K Z) (L : Cl) : RI w L ((((Z.setCell ⟨w.heap.size + 1, 0, none⟩ (.int .u64 ((L 0).toNat : Int))).setCell ⟨w.heap.size + 1, 1, none⟩ (.int .u64 ((L 1).toNat : Int))).setCell ⟨w.heap.size + 1, 2, none⟩ (.int .u64 ((L 2).toNat : Int))).setCell ⟨w.heap.size + 1, 3, none⟩ (.int .u64 ((L 3).toNat : Int))) :=
  ⟨h.res.imp fun R hR => (four_other _ _ _ _ (by omega)).trans hR, set_four _ _ _ _ h.mine, below_four h.low (by omega) _ _ _ _⟩
theorem with_span (K : Cl) (x : Nat) : clsV (addK K x) = clsV (orK K (spanK x x)) := clsV_ext fun d _ => by
  rw [has_add, has_or, has_span]
  congr 1
  rw [Bool.eq_iff_iff]
  simp only [Bool.and_eq_true, decide_eq_true_eq]
  omega
theorem with_one (K : Cl) (x : Nat) : clsV (addK K x) = clsV (orK K (oneK x)) := clsV_ext fun d _ => by rw [has_add, has_or, has_one]
theorem item_end {l : List UInt8} {j : Nat} (h : l.length ≤ j) : itemD (l.drop j) = none := by
  rw [List.drop_eq_nil_of_le h]
  rfl

end Go.Proofs.Ytojjjkicgbdknaa
