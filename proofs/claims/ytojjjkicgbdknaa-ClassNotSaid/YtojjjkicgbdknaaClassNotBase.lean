/- ClassNot: at every two classes and every byte the call returns true. No condition. (Written by gen_classnot.py.) -/
import Derived.Test.YtojjjkicgbdknaaClsShown
import Derived.Test.YtojjjkicgbdknaaClsEql
import Derived.Deep.RegionHeld3
namespace Go.Proofs.Ytojjjkicgbdknaa
open Go.RowKit Go.Lib

theorem four_alloc (w : World) (k : Cl) : (w.alloc (.cells #[.int .u64 ((k 0).toNat : Int), .int .u64 ((k 1).toNat : Int), .int .u64 ((k 2).toNat : Int), .int .u64 ((k 3).toNat : Int)] 30)).heap[w.heap.size]? = some (.cells (clsA k) 30 (0, 0)) := heap_alloc_new w _
theorem four_wd {w : World} {g : Nat} {k : Cl} (h : w.heap[g]? = some (.cells (clsA k) 30 (0, 0))) : w.cell? ⟨g, 0, none⟩ = some (.int .u64 ((k 0).toNat : Int)) ∧ w.cell? ⟨g, 1, none⟩ = some (.int .u64 ((k 1).toNat : Int)) ∧ w.cell? ⟨g, 2, none⟩ = some (.int .u64 ((k 2).toNat : Int)) ∧ w.cell? ⟨g, 3, none⟩ = some (.int .u64 ((k 3).toNat : Int)) := (res_four h).1

end Go.Proofs.Ytojjjkicgbdknaa
