/- The document's own reading of a class, behind its [. No condition. (Written by gen_refread.py.) -/
import Derived.Test.YtojjjkicgbdknaaClsRefReadF
import Derived.Test.YtojjjkicgbdknaaClsRefReadT
namespace Go.Proofs.Ytojjjkicgbdknaa
open Go.RowKit Go.Lib

theorem refRead_walk (s : ByteArray) (nb : Bool) (E : Ending) (D : Option (Cl × Nat)) (i0 : Nat) (w : World) (hs : s.size ≤ 70000000000000) (hs0 : 0 < s.size) (hs1 : 1 < s.size) (x0 : ((s[0].toNat : Int) != 91) = false) (x1 : ((s[1].toNat : Int) == 94) = nb)
    (hi0 : i0 = if nb = true then 2 else 1) (hD : D = listedD (s.data.toList.drop i0) zeroK i0) (hbad : D = none → E = readE none) (hok : ∀ K n, D = some (K, n) → E = .returned (.tuple #[clsV (if nb = true then notK (orK K (oneK 10)) else K), .int .i64 (n : Int), .int .i64 0])) :
    Calls Try.prog 11 #[.string s] w fun e w' => e = E ∧ Below w.heap.size w w' := by
  cases nb with
  | false => exact refRead_walk_f s false E D i0 w hs hs0 hs1 x0 x1 hi0 hD hbad hok rfl
  | true => exact refRead_walk_t s true E D i0 w hs hs0 hs1 x0 x1 hi0 hD hbad hok rfl
end Go.Proofs.Ytojjjkicgbdknaa
