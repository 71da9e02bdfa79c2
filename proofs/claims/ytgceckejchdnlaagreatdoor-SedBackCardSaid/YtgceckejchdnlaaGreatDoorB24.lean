/- Packed texts: ReNeq. What each of them proves stands above its theorems; the conditions stand in these. -/
import Derived.Test.YtgceckejchdnlaaGreatDoorB3
import Derived.Test.YtgceckejchdnlaaGreatDoorB19
namespace Go.Proofs.YtgceckejchdnlaaGreatDoor
open Go.RowKit Go.Lib

theorem run_neq_two (a b c d : Int) (w : World) : (binOp .neq 70 (.agg #[.int .i64 a, .int .i64 b]) (.agg #[.int .i64 c, .int .i64 d])).run Tryz.prog w = .ok (.bool (!(a == c && b == d))) w := by
  rw [run_neq_struct, eql_two]
  rfl
theorem run_neq_cls (a b c d e f g h : Int) (w : World) :
    (binOp .neq 69 (.agg #[.int .u64 a, .int .u64 b, .int .u64 c, .int .u64 d]) (.agg #[.int .u64 e, .int .u64 f, .int .u64 g, .int .u64 h])).run Tryz.prog w = .ok (.bool (!(a == e && (b == f && (c == g && d == h))))) w := by
  rw [run_neq_struct, eql_cls]
  rfl
set_option maxHeartbeats 1000000 in
set_option maxRecDepth 20000 in
theorem many_any (k : Int) (w : World) : Calls Tryz.prog 56 #[.int .i64 k] w fun e w' => e = .returned (.int .i64 (kidsN k)) ∧ w' = w := by
  rcases kinds_cases k with rfl | rfl | rfl | rfl | rfl | rfl | rfl | rfl | rfl | ⟨h0, h1, h2, h3, h4, h5, h6, h7, h8, hk⟩
  case inr.inr.inr.inr.inr.inr.inr.inr.inr =>
    rw [hk]
    clear hk
    have hc : decide (4 ≤ k) = false ∨ (decide (4 ≤ k) = true ∧ decide (k ≤ 6) = false) := by
      have a4 := beq_eq_false_iff_ne.1 h4
      have a5 := beq_eq_false_iff_ne.1 h5
      have a6 := beq_eq_false_iff_ne.1 h6
      by_cases h : 4 ≤ k
      · exact .inr ⟨decide_eq_true h, decide_eq_false (by omega)⟩
      · exact .inl (decide_eq_false h)
    rcases hc with c1 | ⟨c1, c2⟩
    · go_enter Tryz.func56, Tryz.ntmps56
      go_wp2
      exact bodyPost_ret (results_tmp rfl _ _ _) rfl ⟨rfl, rfl⟩
    · go_enter Tryz.func56, Tryz.ntmps56
      go_wp2
      exact bodyPost_ret (results_tmp rfl _ _ _) rfl ⟨rfl, rfl⟩
  all_goals
    go_enter Tryz.func56, Tryz.ntmps56
    go_wp2
    exact bodyPost_ret (results_tmp rfl _ _ _) rfl ⟨rfl, rfl⟩

end Go.Proofs.YtgceckejchdnlaaGreatDoor
