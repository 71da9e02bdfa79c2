/- ClassReads: at every text the call returns true. No condition. -/
import Derived.Test.YtojjjkicgbdknaaClsShown
import Derived.Test.YtojjjkicgbdknaaClsEql
import Derived.Test.YtojjjkicgbdknaaClsRefReadAny
namespace Go.Proofs.Ytojjjkicgbdknaa
open Go.RowKit Go.Lib

set_option maxHeartbeats 4000000 in
set_option maxRecDepth 100000 in
theorem reads_walk0 (s : ByteArray) (x n er m er2 : Int) (K : Cl) (w : World) (hs : ¬ 2000 < s.size)
    (k1 : ∀ Z, Calls Try.prog 8 #[.string s] Z fun e w' => e = .returned (.tuple #[.int .u8 x, .int .i64 n, .int .i64 er]) ∧ Below Z.heap.size Z w')
    (k2 : ∀ Z, Calls Try.prog 9 #[.string s] Z fun e w' => e = .returned (.tuple #[.int .u8 x, .int .i64 n, .int .i64 er]) ∧ Below Z.heap.size Z w')
    (k3 : ∀ Z, Calls Try.prog 10 #[.string s] Z fun e w' => e = .returned (.tuple #[.agg #[.int .u64 ((K 0).toNat : Int), .int .u64 ((K 1).toNat : Int), .int .u64 ((K 2).toNat : Int), .int .u64 ((K 3).toNat : Int)], .int .i64 m, .int .i64 er2]) ∧ Below Z.heap.size Z w')
    (k4 : ∀ Z, Calls Try.prog 11 #[.string s] Z fun e w' => e = .returned (.tuple #[.agg #[.int .u64 ((K 0).toNat : Int), .int .u64 ((K 1).toNat : Int), .int .u64 ((K 2).toNat : Int), .int .u64 ((K 3).toNat : Int)], .int .i64 m, .int .i64 er2]) ∧ Below Z.heap.size Z w') :
    Calls Try.prog 3 #[.string s] w fun e w' => e = .returned (.bool true) ∧ Below w.heap.size w w' := by
  have ks := shown_any
  have he := run_eql_cls
  have hm : Try.prog.eqGuardType Try.prog.depth 30 = false := by kernel_rfl
  go_enter Try.func3, Try.ntmps3
  go_wp2_with (first
    | (go_at_call 7; refine (ks _).mono ?_; clear ks; rintro e w1 ⟨rfl, hb1⟩)
    | (go_at_call 8; with_reducible refine (k1 _).mono ?_; clear k1; rintro e w2 ⟨rfl, hb2⟩)
    | (go_at_call 9; with_reducible refine (k2 _).mono ?_; clear k2; rintro e w3 ⟨rfl, hb3⟩)
    | (go_at_call 10; with_reducible refine (k3 _).mono ?_; clear k3; rintro e w4 ⟨rfl, hb4⟩)
    | (go_at_call 11; with_reducible refine (k4 _).mono ?_; clear k4; rintro e w5 ⟨rfl, hb5⟩
       have hk := (hb5.block _ (by simp)).trans (heap_alloc_new w4 (.cells (clsA K) 30))
       obtain ⟨⟨c0, c1, c2, c3⟩, e0, e1, e2, e3⟩ := cells_cls hk
       have hz := block_at hk
       clear hk))
  go_ret
  have q2 := below_up hb1 hb2 hb1.size
  have q3 := below_up q2 hb3 q2.size
  have q4 := below_up q3 hb4 q3.size
  have q5 := below_up (q4.alloc q4.size _) hb5 (q4.alloc q4.size _).size
  exact ⟨rfl, q5.alloc q5.size _⟩

theorem reads_walk (s : ByteArray) (_hs : s.size ≤ 140737488351232) (w : World) : Calls Try.prog 3 #[.string s] w fun e w' => e = .returned (.bool true) ∧ Below w.heap.size w w' := by
  by_cases hb : 2000 < s.size
  · have ks := shown_any
    go_enter Try.func3, Try.ntmps3
    go_wp2_with (first | (go_at_call 7; refine (ks _).mono ?_; clear ks; rintro e w1 ⟨rfl, hb1⟩))
    go_ret
    exact ⟨rfl, hb1⟩
  · have k1 := fun Z => sign_any s Z
    have k2 := fun Z => refSign_any s Z
    have k3 := fun Z => read_any s Z (by omega)
    have k4 := fun Z => refRead_any s Z (by omega)
    cases h1 : signD s.data.toList with
    | none =>
      rw [h1] at k1 k2
      cases h2 : readD s.data.toList with
      | none => rw [h2] at k3 k4; exact reads_walk0 s 0 0 2 0 2 zeroK w hb k1 k2 k3 k4
      | some r => obtain ⟨K, n⟩ := r; rw [h2] at k3 k4; exact reads_walk0 s 0 0 2 (n : Int) 0 K w hb k1 k2 k3 k4
    | some q =>
      obtain ⟨x, i⟩ := q
      rw [h1] at k1 k2
      cases h2 : readD s.data.toList with
      | none => rw [h2] at k3 k4; exact reads_walk0 s x i 0 0 2 zeroK w hb k1 k2 k3 k4
      | some r => obtain ⟨K, n⟩ := r; rw [h2] at k3 k4; exact reads_walk0 s x i 0 (n : Int) 0 K w hb k1 k2 k3 k4
end Go.Proofs.Ytojjjkicgbdknaa
