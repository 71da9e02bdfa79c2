/- The statement DecReckons, walked. Condition: the library's table of powers of ten holds what its text lays. -/
import Derived.Test.YtokfkckfclnoaaaGreatDoorDecRefSub
import Derived.Test.YtokfkckfclnoaaaGreatDoorDecRefMod
namespace Go.Proofs.YtokfkckfclnoaaaGreatDoor
open Go.RowKit

theorem refMod_any (a b : Int) (w : World) (ha : -9223372036854775808 ≤ a ∧ a ≤ 9223372036854775807) (hb : -9223372036854775808 ≤ b ∧ b ≤ 9223372036854775807) (h0 : b ≠ 0) :
    Calls Tryz.prog 19 #[.int .i64 a, .int .i64 b] w fun e w' => e = .returned (.tuple #[.int .i64 (a.tmod b), .int .i64 0]) ∧ Below w.heap.size w w' := by
  refine refMod_walk a b (a.tmod b) (a.natAbs : Int) (b.natAbs : Int) ((a.natAbs : Int) / (b.natAbs : Int)) ((a.natAbs : Int) / (b.natAbs : Int) * (b.natAbs : Int)) (decide (a < 0)) (decide (b < 0)) (decide (a < 0) != decide (b < 0)) w (beq_eq_false_iff_ne.2 h0)
    (fun w => ofC a w ha.1 ha.2) (fun w => ofC b w hb.1 hb.2) (fun w => divB _ _ _ _ w (by omega) (small_wide (by omega)) (by omega) (small_wide (by omega))) (fun w => mulV false false _ _ w (by omega) (by omega)) (fun w => minusB _ _ _ _ w) (fun w => ?_)
  have hv : (a.natAbs : Int) - (a.natAbs : Int) / (b.natAbs : Int) * (b.natAbs : Int) = ((a.natAbs % b.natAbs : Nat) : Int) := by
    have := Int.mul_ediv_add_emod (a.natAbs : Int) (b.natAbs : Int)
    rw [Int.natCast_emod, Int.mul_comm ((a.natAbs : Int) / (b.natAbs : Int))]
    omega
  rw [hv]
  have hlt : a.natAbs % b.natAbs ≤ a.natAbs := Nat.mod_le _ _
  have hm : (a.tmod b).natAbs = a.natAbs % b.natAbs := Int.natAbs_tmod a b
  have hs1 : 0 ≤ a → 0 ≤ a.tmod b := fun h => Int.tmod_nonneg _ h
  have hs2 : a < 0 → a.tmod b ≤ 0 := by
    intro h
    have := Int.tmod_nonneg b (show 0 ≤ -a by omega)
    rw [Int.neg_tmod] at this
    omega
  have hlb : a.natAbs % b.natAbs < b.natAbs := Nat.mod_lt _ (by omega)
  have hin : into (a.tmod b) = (a.tmod b, 0) := by unfold into; rw [if_pos (by omega)]
  have := backV (decide (a < 0)) (a.natAbs % b.natAbs) (a.tmod b) w (small_wide (by omega)) (by
    by_cases h : a < 0
    · rw [decide_eq_true h]; show -((a.natAbs % b.natAbs : Nat) : Int) = _; have := hs2 h; omega
    · rw [decide_eq_false h]; show ((a.natAbs % b.natAbs : Nat) : Int) = _; have := hs1 (by omega); omega)
  rw [hin] at this
  exact this

end Go.Proofs.YtokfkckfclnoaaaGreatDoor
