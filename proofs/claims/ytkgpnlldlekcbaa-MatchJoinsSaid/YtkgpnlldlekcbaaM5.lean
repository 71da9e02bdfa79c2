/- Packed texts: ClsEach, ClsRuns. What each of them proves stands above its theorems; the conditions stand in these. -/
import Derived.Test.YtkgpnlldlekcbaaM2
import Derived.Test.YtkgpnlldlekcbaaM4
namespace Go.Proofs.Ytkgpnlldlekcbaa
open Go.RowKit
attribute [local go_sem] Oper.semAt_some

theorem grown_of_below {w w' : World} (h : Below w.heap.size w w') (row : Option Nat) : w.grownBy w' row := ⟨h.os, h.tape, h.output, h.size, fun k hk _ => h.block k hk⟩
theorem has_nat (k : Cl) (m : Nat) (w : World) (hm : m < 256) (b : Bool) (hb : has k m = b) :
    Calls Try.prog 100 #[clsV k, .int .u8 (m : Int)] w fun e w' => e = .returned (.bool b) ∧ Below w.heap.size w w' := by
  have h := has_any k (m : Int) w (by omega) (by omega)
  rwa [Int.toNat_natCast, hb] at h

end Go.Proofs.Ytkgpnlldlekcbaa
namespace Go.Proofs.Ytkgpnlldlekcbaa
open Go.RowKit
attribute [local go_sem] Oper.semAt_some

theorem ne_int {x y : UInt8} (h : x ≠ y) : ((x.toNat : Int) == (y.toNat : Int)) = false := by
  rw [beq_eq_false_iff_ne]
  intro e
  apply h
  apply UInt8.toNat_inj.1
  omega
end Go.Proofs.Ytkgpnlldlekcbaa
