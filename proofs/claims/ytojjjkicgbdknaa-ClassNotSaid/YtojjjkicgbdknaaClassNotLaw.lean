/- ClassNot: the walk's hypotheses, out of package class's contracts. -/
import Derived.Test.YtojjjkicgbdknaaClassNotWalk
namespace Go.Proofs.Ytojjjkicgbdknaa
open Go.RowKit

theorem not_law (k l : Cl) (c : UInt8) (w : World) : Calls Try.prog 4 #[clsV k, clsV l, .int .u8 (c.toNat : Int)] w fun e w' => e = .returned (.bool true) ∧ Below w.heap.size w w' := by
  have hc := c.toNat_lt
  have hnn : clsV (notK (notK k)) = clsV k := clsV_ext fun d _ => by rw [has_not, has_not, Bool.not_not]
  have hall : cntK (orK k (notK k)) = 256 := cnt_all fun d => by rw [has_or, has_not]; cases has k d <;> rfl
  have hmo : cntK k ≤ cntK (orK k l) := cnt_mono fun d hd => by rw [has_or, hd]; rfl
  have q1 := fun Z => has_nat k _ Z hc _ rfl
  have q2 := fun Z => has_nat l _ Z hc _ rfl
  have q3 := fun Z => has_nat (notK k) _ Z hc _ (has_not k c.toNat)
  have q4 := fun Z => has_nat (orK k l) _ Z hc _ (has_or k l c.toNat)
  have q5 := fun Z => not_any k Z
  have q6 := fun Z => not_any (notK k) Z
  have q7 := fun Z => or_any k l Z
  have q8 := fun Z => or_any k (notK k) Z
  have q9 := fun Z => count_any (orK k (notK k)) Z
  have q10 := fun Z => count_any (orK k l) Z
  have q11 := fun Z => count_any k Z
  rw [hall] at q9
  rw [hnn] at q6
  generalize orK k (notK k) = M at q8 q9
  generalize notK k = N at q3 q5 q6 q8
  generalize orK k l = O at q4 q7 q10 hmo
  have hx := cnt_le O
  generalize cntK O = x at q10 hmo hx
  generalize cntK k = y at q11 hmo
  generalize has k c.toNat = a at q1 q3 q4
  generalize has l c.toNat = b at q2 q4
  exact not_walk4 k l M O N c a b x y w (by cases a <;> rfl) (beq_self_eq_true _) hx hmo q1 q2 q3 q4 q5 q6 q7 q8 q9 q10 q11
end Go.Proofs.Ytojjjkicgbdknaa
