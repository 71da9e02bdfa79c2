/- Packed texts: ReNeq, ReRefRightAny. What each of them proves stands above its theorems; the conditions stand in these. -/
import Derived.Deep.LoopGhost
import Derived.Test.YtkgpnlldlekcbaaM0
import Derived.Test.YtkgpnlldlekcbaaM9
namespace Go.Proofs.Ytkgpnlldlekcbaa
open Go.RowKit Go.Lib

theorem run_neq_two (a b c d : Int) (w : World) : (binOp .neq 48 (.agg #[.int .i64 a, .int .i64 b]) (.agg #[.int .i64 c, .int .i64 d])).run Try.prog w = .ok (.bool (!(a == c && b == d))) w := by
  rw [run_neq_struct, eql_two]
  rfl
theorem run_neq_cls (a b c d e f g h : Int) (w : World) :
    (binOp .neq 47 (.agg #[.int .u64 a, .int .u64 b, .int .u64 c, .int .u64 d]) (.agg #[.int .u64 e, .int .u64 f, .int .u64 g, .int .u64 h])).run Try.prog w = .ok (.bool (!(a == e && (b == f && (c == g && d == h))))) w := by
  rw [run_neq_struct, eql_cls]
  rfl
set_option maxHeartbeats 1000000 in
set_option maxRecDepth 20000 in
theorem many_any (k : Int) (w : World) : Calls Try.prog 31 #[.int .i64 k] w fun e w' => e = .returned (.int .i64 (kidsN k)) ∧ w' = w := by
  rcases kinds_cases k with rfl | rfl | rfl | rfl | rfl | rfl | rfl | rfl | rfl | ⟨h0, h1, h2, h3, h4, h5, h6, h7, h8, hk⟩
  case inr.inr.inr.inr.inr.inr.inr.inr.inr =>
    rw [hk]
    clear hk
    have hc : decide (4 ≤ k) = false ∨ (decide (4 ≤ k) = true ∧ decide (k ≤ 6) = false) := by
      have a4 := beq_eq_false_iff_ne.1 h4
      have a5 := beq_eq_false_iff_ne.1 h5
      have a6 := beq_eq_false_iff_ne.1 h6
      by_cases h : 4 ≤ k
      · exact .inr ⟨decide_eq_true h, decide_eq_false (by omega)⟩
      · exact .inl (decide_eq_false h)
    rcases hc with c1 | ⟨c1, c2⟩
    · go_enter Try.func31, Try.ntmps31
      go_wp2
      exact bodyPost_ret (results_tmp rfl _ _ _) rfl ⟨rfl, rfl⟩
    · go_enter Try.func31, Try.ntmps31
      go_wp2
      exact bodyPost_ret (results_tmp rfl _ _ _) rfl ⟨rfl, rfl⟩
  all_goals
    go_enter Try.func31, Try.ntmps31
    go_wp2
    exact bodyPost_ret (results_tmp rfl _ _ _) rfl ⟨rfl, rfl⟩

end Go.Proofs.Ytkgpnlldlekcbaa
namespace Go.Proofs.Ytkgpnlldlekcbaa
open Go.RowKit Go.Lib


set_option maxHeartbeats 2000000 in
set_option maxRecDepth 20000 in
theorem begin_neg (u : Value) (w : World) : Calls Try.prog 20 #[u, .int .i64 (-1)] w fun e w' => e = .returned (.int .i64 (-1)) ∧ Below w.heap.size w w' := by
  go_enter Try.func20, Try.ntmps20
  go_wp2
  exact bodyPost_ret (results_tmp rfl _ _ _) rfl ⟨rfl, Below.refl _ _⟩

set_option maxHeartbeats 2000000 in
set_option maxRecDepth 20000 in
theorem bg_stray (N cap b o r : Nat) (k p q u v x y m : Int) (w : World) (hr : r < N) (_hN : N ≤ 2000)
    (c0 : w.cell? ⟨b, o + r * 7, none⟩ = some (.int .i64 k)) (c1 : w.cell? ⟨b, o + r * 7 + 1, none⟩ = some (.int .u64 p)) (c2 : w.cell? ⟨b, o + r * 7 + 2, none⟩ = some (.int .u64 q)) (c3 : w.cell? ⟨b, o + r * 7 + 3, none⟩ = some (.int .u64 u)) (c4 : w.cell? ⟨b, o + r * 7 + 4, none⟩ = some (.int .u64 v)) (c5 : w.cell? ⟨b, o + r * 7 + 5, none⟩ = some (.int .i64 x)) (c6 : w.cell? ⟨b, o + r * 7 + 6, none⟩ = some (.int .i64 y))
    (ts : List Nd) (_hL : Lies (.slice (some ⟨b, o, none⟩) N cap) ts w) (kk : ∀ w, Calls Try.prog 31 #[.int .i64 k] w fun e w' => e = .returned (.int .i64 m) ∧ w' = w)
    (hs : decide (m < 0) = true ∨ (decide (m < 0) = false ∧ (k != 1) = true ∧ (!(p == 0 && (q == 0 && (u == 0 && v == 0)))) = true)) :
    Calls Try.prog 20 #[.slice (some ⟨b, o, none⟩) N cap, .int .i64 (r : Int)] w fun e w' => e = .returned (.int .i64 (-1)) ∧ Below w.heap.size w w' := by
  have e3 := run_neq_cls p q u v 0 0 0 0
  generalize (!(p == 0 && (q == 0 && (u == 0 && v == 0)))) = s at e3 hs
  rcases hs with hm | ⟨hm, hk, rfl⟩
  all_goals
    go_enter Try.func20, Try.ntmps20
    go_wp2_with (first
      | (go_at_call 31; refine (kk _).mono ?_; rintro e w1 ⟨rfl, rfl⟩)
      | fail)
    exact bodyPost_ret (results_tmp rfl _ _ _) rfl ⟨rfl, (Below.refl _ w).alloc (Nat.le_refl _) _⟩

set_option maxHeartbeats 2000000 in
set_option maxRecDepth 20000 in
theorem bg_end (N cap b o r : Nat) (k p q u v x y m : Int) (w : World) (hr : r < N) (_hN : N ≤ 2000)
    (c0 : w.cell? ⟨b, o + r * 7, none⟩ = some (.int .i64 k)) (c1 : w.cell? ⟨b, o + r * 7 + 1, none⟩ = some (.int .u64 p)) (c2 : w.cell? ⟨b, o + r * 7 + 2, none⟩ = some (.int .u64 q)) (c3 : w.cell? ⟨b, o + r * 7 + 3, none⟩ = some (.int .u64 u)) (c4 : w.cell? ⟨b, o + r * 7 + 4, none⟩ = some (.int .u64 v)) (c5 : w.cell? ⟨b, o + r * 7 + 5, none⟩ = some (.int .i64 x)) (c6 : w.cell? ⟨b, o + r * 7 + 6, none⟩ = some (.int .i64 y))
    (ts : List Nd) (_hL : Lies (.slice (some ⟨b, o, none⟩) N cap) ts w) (kk : ∀ w, Calls Try.prog 31 #[.int .i64 k] w fun e w' => e = .returned (.int .i64 m) ∧ w' = w) (hm : m = 0) (hg : (k != 1) = false ∨ ((k != 1) = true ∧ p = 0 ∧ q = 0 ∧ u = 0 ∧ v = 0)) :
    Calls Try.prog 20 #[.slice (some ⟨b, o, none⟩) N cap, .int .i64 (r : Int)] w fun e w' => e = .returned (.int .i64 (if x = 0 ∧ y = 0 then (r : Int) else -1)) ∧ Below w.heap.size w w' := by
  have e3 := run_neq_cls p q u v 0 0 0 0
  have hg : (k != 1) = false ∨ ((k != 1) = true ∧ (!(p == 0 && (q == 0 && (u == 0 && v == 0)))) = false) := by
    rcases hg with h | ⟨h, rfl, rfl, rfl, rfl⟩
    · exact .inl h
    · exact .inr ⟨h, rfl⟩
  generalize (!(p == 0 && (q == 0 && (u == 0 && v == 0)))) = s at e3 hg
  have e2 := run_neq_two x y 0 0
  subst hm
  have hb : (x = 0 ∧ y = 0 ∧ (!(x == 0 && y == 0)) = false) ∨ (¬ (x = 0 ∧ y = 0) ∧ (!(x == 0 && y == 0)) = true) := by
    by_cases hx : x = 0 <;> by_cases hy : y = 0 <;> simp [hx, hy]
  generalize (!(x == 0 && y == 0)) = z at e2 hb
  rcases hb with ⟨hx, hy, rfl⟩ | ⟨hn, rfl⟩
  · rw [if_pos ⟨hx, hy⟩]
    clear hx hy
    rcases hg with hk | ⟨hk, rfl⟩
    all_goals
      go_enter Try.func20, Try.ntmps20
      go_wp2_with (first
        | (go_at_call 31; refine (kk _).mono ?_; rintro e w1 ⟨rfl, rfl⟩)
        | fail)
      exact bodyPost_ret (results_tmp rfl _ _ _) rfl ⟨rfl, (Below.refl _ w).alloc (Nat.le_refl _) _⟩
  · rw [if_neg hn]
    clear hn
    rcases hg with hk | ⟨hk, rfl⟩
    all_goals
      go_enter Try.func20, Try.ntmps20
      go_wp2_with (first
        | (go_at_call 31; refine (kk _).mono ?_; rintro e w1 ⟨rfl, rfl⟩)
        | fail)
      exact bodyPost_ret (results_tmp rfl _ _ _) rfl ⟨rfl, (Below.refl _ w).alloc (Nat.le_refl _) _⟩

set_option maxHeartbeats 2000000 in
set_option maxRecDepth 20000 in
theorem bg_one (N cap b o r : Nat) (k p q u v x y m : Int) (w : World) (hr : r < N) (hN : N ≤ 2000)
    (c0 : w.cell? ⟨b, o + r * 7, none⟩ = some (.int .i64 k)) (c1 : w.cell? ⟨b, o + r * 7 + 1, none⟩ = some (.int .u64 p)) (c2 : w.cell? ⟨b, o + r * 7 + 2, none⟩ = some (.int .u64 q)) (c3 : w.cell? ⟨b, o + r * 7 + 3, none⟩ = some (.int .u64 u)) (c4 : w.cell? ⟨b, o + r * 7 + 4, none⟩ = some (.int .u64 v)) (c5 : w.cell? ⟨b, o + r * 7 + 5, none⟩ = some (.int .i64 x)) (c6 : w.cell? ⟨b, o + r * 7 + 6, none⟩ = some (.int .i64 y))
    (ts : List Nd) (hL : Lies (.slice (some ⟨b, o, none⟩) N cap) ts w) (kk : ∀ w, Calls Try.prog 31 #[.int .i64 k] w fun e w' => e = .returned (.int .i64 m) ∧ w' = w) (hm : m = 1) (hg : (k != 1) = false ∨ ((k != 1) = true ∧ p = 0 ∧ q = 0 ∧ u = 0 ∧ v = 0)) (a : Int)
    (ka : ∀ w, Lies (.slice (some ⟨b, o, none⟩) N cap) ts w → Calls Try.prog 20 #[.slice (some ⟨b, o, none⟩) N cap, .int .i64 ((r : Int) - 1)] w fun e w' => e = .returned (.int .i64 a) ∧ Below w.heap.size w w') :
    Calls Try.prog 20 #[.slice (some ⟨b, o, none⟩) N cap, .int .i64 (r : Int)] w fun e w' => e = .returned (.int .i64 (if x = (r : Int) - 1 ∧ y = 0 then a else -1)) ∧ Below w.heap.size w w' := by
  have e3 := run_neq_cls p q u v 0 0 0 0
  have hg : (k != 1) = false ∨ ((k != 1) = true ∧ (!(p == 0 && (q == 0 && (u == 0 && v == 0)))) = false) := by
    rcases hg with h | ⟨h, rfl, rfl, rfl, rfl⟩
    · exact .inl h
    · exact .inr ⟨h, rfl⟩
  generalize (!(p == 0 && (q == 0 && (u == 0 && v == 0)))) = s at e3 hg
  have e2 := run_neq_two x y ((r : Int) - 1) 0
  have hI : IntKind.i64.wrap ((r : Int) - 1) = (r : Int) - 1 := IntWalk.i64_in _ (by omega)
  subst hm
  have HL := Lib.hid hL
  clear hL
  have hb : (x = (r : Int) - 1 ∧ y = 0 ∧ (!(x == (r : Int) - 1 && y == 0)) = false) ∨ (¬ (x = (r : Int) - 1 ∧ y = 0) ∧ (!(x == (r : Int) - 1 && y == 0)) = true) := by
    by_cases hx : x = (r : Int) - 1 <;> by_cases hy : y = 0 <;> simp [hx, hy]
  generalize (!(x == (r : Int) - 1 && y == 0)) = z at e2 hb
  rcases hb with ⟨hx, hy, rfl⟩ | ⟨hn, rfl⟩
  · rw [if_pos ⟨hx, hy⟩]
    clear hx hy
    rcases hg with hk | ⟨hk, rfl⟩
    all_goals
      go_enter Try.func20, Try.ntmps20
      go_wp2_with (first
        | (go_at_call 31; refine (kk _).mono ?_; rintro e w1 ⟨rfl, rfl⟩)
        | (go_at_call 20; refine (ka _ (HL.out.below ((Below.refl _ w).alloc (Nat.le_refl _) _))).mono ?_; rintro e w2 ⟨rfl, hb2⟩)
        | fail)
      exact bodyPost_ret (results_tmp rfl _ _ _) rfl ⟨rfl, ((Below.refl _ w).alloc (Nat.le_refl _) _).trans (hb2.mono (by simp))⟩
  · rw [if_neg hn]
    clear hn
    rcases hg with hk | ⟨hk, rfl⟩
    all_goals
      go_enter Try.func20, Try.ntmps20
      go_wp2_with (first
        | (go_at_call 31; refine (kk _).mono ?_; rintro e w1 ⟨rfl, rfl⟩)
        | fail)
      exact bodyPost_ret (results_tmp rfl _ _ _) rfl ⟨rfl, (Below.refl _ w).alloc (Nat.le_refl _) _⟩

set_option maxHeartbeats 2000000 in
set_option maxRecDepth 20000 in
theorem bg_two (N cap b o r : Nat) (k p q u v x y m : Int) (w : World) (hr : r < N) (hN : N ≤ 2000)
    (c0 : w.cell? ⟨b, o + r * 7, none⟩ = some (.int .i64 k)) (c1 : w.cell? ⟨b, o + r * 7 + 1, none⟩ = some (.int .u64 p)) (c2 : w.cell? ⟨b, o + r * 7 + 2, none⟩ = some (.int .u64 q)) (c3 : w.cell? ⟨b, o + r * 7 + 3, none⟩ = some (.int .u64 u)) (c4 : w.cell? ⟨b, o + r * 7 + 4, none⟩ = some (.int .u64 v)) (c5 : w.cell? ⟨b, o + r * 7 + 5, none⟩ = some (.int .i64 x)) (c6 : w.cell? ⟨b, o + r * 7 + 6, none⟩ = some (.int .i64 y))
    (ts : List Nd) (hL : Lies (.slice (some ⟨b, o, none⟩) N cap) ts w) (kk : ∀ w, Calls Try.prog 31 #[.int .i64 k] w fun e w' => e = .returned (.int .i64 m) ∧ w' = w) (hm : m = 2) (hg : (k != 1) = false ∨ ((k != 1) = true ∧ p = 0 ∧ q = 0 ∧ u = 0 ∧ v = 0)) (a a2 : Int) (ha0 : -1 ≤ a) (ha1 : a ≤ 2000)
    (ka : ∀ w, Lies (.slice (some ⟨b, o, none⟩) N cap) ts w → Calls Try.prog 20 #[.slice (some ⟨b, o, none⟩) N cap, .int .i64 ((r : Int) - 1)] w fun e w' => e = .returned (.int .i64 a) ∧ Below w.heap.size w w')
    (kb : 1 ≤ a → ∀ w, Lies (.slice (some ⟨b, o, none⟩) N cap) ts w → Calls Try.prog 20 #[.slice (some ⟨b, o, none⟩) N cap, .int .i64 (a - 1)] w fun e w' => e = .returned (.int .i64 a2) ∧ Below w.heap.size w w') :
    Calls Try.prog 20 #[.slice (some ⟨b, o, none⟩) N cap, .int .i64 (r : Int)] w fun e w' => e = .returned (.int .i64 (if 1 ≤ a ∧ x = a - 1 ∧ y = (r : Int) - 1 then a2 else -1)) ∧ Below w.heap.size w w' := by
  have e3 := run_neq_cls p q u v 0 0 0 0
  have hg : (k != 1) = false ∨ ((k != 1) = true ∧ (!(p == 0 && (q == 0 && (u == 0 && v == 0)))) = false) := by
    rcases hg with h | ⟨h, rfl, rfl, rfl, rfl⟩
    · exact .inl h
    · exact .inr ⟨h, rfl⟩
  generalize (!(p == 0 && (q == 0 && (u == 0 && v == 0)))) = s at e3 hg
  have e2 := run_neq_two x y (a - 1) ((r : Int) - 1)
  have hI : IntKind.i64.wrap ((r : Int) - 1) = (r : Int) - 1 := IntWalk.i64_in _ (by omega)
  have hJ : IntKind.i64.wrap (a - 1) = a - 1 := IntWalk.i64_in _ (by omega)
  subst hm
  have HL := Lib.hid hL
  clear hL
  have hb : (x = a - 1 ∧ y = (r : Int) - 1 ∧ (!(x == a - 1 && y == (r : Int) - 1)) = false) ∨ (¬ (x = a - 1 ∧ y = (r : Int) - 1) ∧ (!(x == a - 1 && y == (r : Int) - 1)) = true) := by
    by_cases hx : x = a - 1 <;> by_cases hy : y = (r : Int) - 1 <;> simp [hx, hy]
  generalize (!(x == a - 1 && y == (r : Int) - 1)) = z at e2 hb
  by_cases h1 : 1 ≤ a
  · have d1 : decide (a < 1) = false := decide_eq_false (by omega)
    rcases hb with ⟨hx, hy, rfl⟩ | ⟨hn, rfl⟩
    · rw [if_pos ⟨h1, hx, hy⟩]
      have kb := kb h1
      clear hx hy h1 ha0 ha1
      rcases hg with hk | ⟨hk, rfl⟩
      all_goals
        go_enter Try.func20, Try.ntmps20
        go_wp2_with (first
          | (go_at_call 31; refine (kk _).mono ?_; rintro e w1 ⟨rfl, rfl⟩)
          | (go_at_call 20; first
              | (with_reducible refine (ka _ (HL.out.below ((Below.refl _ w).alloc (Nat.le_refl _) _))).mono ?_; rintro e w2 ⟨rfl, hb2⟩
                 have HB2 := Lib.hid (((Below.refl _ w).alloc (Nat.le_refl _) _).trans (hb2.mono (by simp)))
                 have hgg := hb2.block w.heap.size (by simp)
                 rw [heap_alloc_new] at hgg
                 obtain ⟨q0, q1, q2, q3, q4, q5, q6⟩ := node_cells hgg
                 clear hgg hb2 ka)
              | (with_reducible refine (kb _ (HL.out.below HB2.out)).mono ?_; rintro e w3 ⟨rfl, hb3⟩))
          | fail)
        exact bodyPost_ret (results_tmp rfl _ _ _) rfl ⟨rfl, HB2.out.trans (hb3.mono HB2.out.size)⟩
    · rw [if_neg fun h => hn h.2]
      clear hn h1 ha0 ha1 kb
      rcases hg with hk | ⟨hk, rfl⟩
      all_goals
        go_enter Try.func20, Try.ntmps20
        go_wp2_with (first
          | (go_at_call 31; refine (kk _).mono ?_; rintro e w1 ⟨rfl, rfl⟩)
          | (go_at_call 20; first
              | (with_reducible refine (ka _ (HL.out.below ((Below.refl _ w).alloc (Nat.le_refl _) _))).mono ?_; rintro e w2 ⟨rfl, hb2⟩
                 have HB2 := Lib.hid (((Below.refl _ w).alloc (Nat.le_refl _) _).trans (hb2.mono (by simp)))
                 have hgg := hb2.block w.heap.size (by simp)
                 rw [heap_alloc_new] at hgg
                 obtain ⟨q0, q1, q2, q3, q4, q5, q6⟩ := node_cells hgg
                 clear hgg hb2 ka))
          | fail)
        exact bodyPost_ret (results_tmp rfl _ _ _) rfl ⟨rfl, HB2.out⟩
  · rw [if_neg fun h => h1 h.1]
    have d1 : decide (a < 1) = true := decide_eq_true (by omega)
    clear hb h1 ha0 ha1 kb
    rcases hg with hk | ⟨hk, rfl⟩
    all_goals
      go_enter Try.func20, Try.ntmps20
      go_wp2_with (first
        | (go_at_call 31; refine (kk _).mono ?_; rintro e w1 ⟨rfl, rfl⟩)
        | (go_at_call 20; first
            | (with_reducible refine (ka _ (HL.out.below ((Below.refl _ w).alloc (Nat.le_refl _) _))).mono ?_; rintro e w2 ⟨rfl, hb2⟩
               have HB2 := Lib.hid (((Below.refl _ w).alloc (Nat.le_refl _) _).trans (hb2.mono (by simp)))
               have hgg := hb2.block w.heap.size (by simp)
               rw [heap_alloc_new] at hgg
               obtain ⟨q0, q1, q2, q3, q4, q5, q6⟩ := node_cells hgg
               clear hgg hb2 ka))
        | fail)
      exact bodyPost_ret (results_tmp rfl _ _ _) rfl ⟨rfl, HB2.out⟩

theorem sub_rep {ts : List Nd} {j : Nat} {a : Tr} {n : Nat} (h : Sub ts a n) (hr : ts[n + a.size]? = some ⟨(j : Int), k0, (n : Int) + a.size - 1, 0⟩) : Sub ts (.rep j a) n := fun i hi => by
  have hi : i < a.size + 1 := hi
  show _ = (a.row n ++ [_])[i]?
  by_cases hlt : i < a.size
  · rw [List.getElem?_append_left (by rw [Tr.row_length]; exact hlt)]
    exact h i hlt
  · obtain rfl : i = a.size := by omega
    rw [hr, List.getElem?_append_right (by rw [Tr.row_length]; omega), Tr.row_length, Nat.sub_self]
    rfl
theorem sub_two {ts : List Nd} {j : Nat} {a b : Tr} {n : Nat} (h : Sub ts a n) (h2 : Sub ts b (n + a.size)) (hr : ts[n + a.size + b.size]? = some ⟨(j : Int), k0, (n : Int) + a.size - 1, (n : Int) + a.size + b.size - 1⟩) : Sub ts (.two j a b) n := fun i hi => by
  have hi : i < a.size + b.size + 1 := hi
  show _ = (a.row n ++ (b.row (n + a.size) ++ [_]))[i]?
  by_cases hlt : i < a.size
  · rw [List.getElem?_append_left (by rw [Tr.row_length]; exact hlt)]
    exact h i hlt
  · rw [List.getElem?_append_right (by rw [Tr.row_length]; omega), Tr.row_length]
    by_cases hlt2 : i < a.size + b.size
    · rw [List.getElem?_append_left (by rw [Tr.row_length]; omega)]
      have := h2 (i - a.size) (by omega)
      rwa [show n + a.size + (i - a.size) = n + i by omega] at this
    · obtain rfl : i = a.size + b.size := by omega
      rw [← Nat.add_assoc, hr, List.getElem?_append_right (by rw [Tr.row_length]; omega), Tr.row_length, show a.size + b.size - a.size - b.size = 0 by omega]
      rfl
theorem sub_all {ts : List Nd} {t : Tr} (h : Sub ts t 0) (hl : ts.length = t.size) : ts = t.row 0 := by
  apply List.ext_getElem?
  intro i
  by_cases hi : i < t.size
  · have := h i hi
    rwa [Nat.zero_add] at this
  · rw [List.getElem?_eq_none (by omega), List.getElem?_eq_none (by rw [Tr.row_length]; omega)]
theorem kidsN_cases (k : Int) : kidsN k = -1 ∨ (kidsN k = 0 ∧ (k = 0 ∨ k = 1 ∨ k = 7 ∨ k = 8)) ∨ (kidsN k = 1 ∧ (k = 4 ∨ k = 5 ∨ k = 6)) ∨ (kidsN k = 2 ∧ (k = 2 ∨ k = 3)) := by
  unfold kidsN
  by_cases h : k = 0 ∨ k = 1 ∨ k = 7 ∨ k = 8
  · rw [if_pos h]; exact .inr (.inl ⟨rfl, h⟩)
  · rw [if_neg h]
    by_cases h2 : k = 4 ∨ k = 5 ∨ k = 6
    · rw [if_pos h2]; exact .inr (.inr (.inl ⟨rfl, h2⟩))
    · rw [if_neg h2]
      by_cases h3 : k = 2 ∨ k = 3
      · rw [if_pos h3]; exact .inr (.inr (.inr ⟨rfl, h3⟩))
      · rw [if_neg h3]; exact .inl rfl
/-- Where a node's nodes begin, if they are a tree's. -/
def Root (ts : List Nd) (r : Nat) (x : Int) : Prop := x = -1 ∨ ∃ T n, x = ((n : Nat) : Int) ∧ Tr.ok T ∧ Sub ts T n ∧ r + 1 = n + T.size
theorem word_zero {a : BitVec 64} (h : (a.toNat : Int) = 0) : a = 0 := by
  apply BitVec.eq_of_toNat_eq
  show a.toNat = 0
  omega
theorem begin_any (ts : List Nd) (N cap b o : Nat) (hN : N = ts.length) (hN2 : N ≤ 2000) : ∀ (r : Nat), r < N → ∃ x : Int, Root ts r x ∧
    ∀ w, Lies (.slice (some ⟨b, o, none⟩) N cap) ts w → Calls Try.prog 20 #[.slice (some ⟨b, o, none⟩) N cap, .int .i64 (r : Int)] w fun e w' => e = .returned (.int .i64 x) ∧ Below w.heap.size w w' := by
  intro r
  induction r using Nat.strongRecOn with
  | ind r ih =>
    intro hr
    obtain ⟨n, hn⟩ : ∃ n, ts[r]? = some n := ⟨ts[r]'(by omega), List.getElem?_eq_getElem _⟩
    have hat : ∀ w, Lies (.slice (some ⟨b, o, none⟩) N cap) ts w → NdAt b (o + r * 7) n w := fun w hL => by
      obtain ⟨b', o', h1, _, h3⟩ := hL.at hn
      cases h1
      exact h3
    obtain ⟨k, ⟨s1, s2, s3, s4⟩, x, y⟩ := n
    have kk := fun w => many_any k w
    have hm := kidsN_cases k
    by_cases hst : kidsN k = -1 ∨ (k ≠ 1 ∧ (⟨s1, s2, s3, s4⟩ : K4) ≠ k0)
    · refine ⟨-1, .inl rfl, fun w hL => ?_⟩
      obtain ⟨a0, a1, a2, a3, a4, a5, a6⟩ := hat w hL
      refine bg_stray N cap b o r k _ _ _ _ x y (kidsN k) w hr hN2 a0 a1 a2 a3 a4 a5 a6 ts hL kk ?_
      by_cases hm1 : kidsN k = -1
      · exact .inl (decide_eq_true (by omega))
      · refine .inr ⟨decide_eq_false (by omega), ?_⟩
        rcases hst with h | ⟨h1, h2⟩
        · exact absurd h hm1
        · refine ⟨by simpa using h1, ?_⟩
          by_cases hz : (((s1.toNat : Int) == 0) && (((s2.toNat : Int) == 0) && (((s3.toNat : Int) == 0) && ((s4.toNat : Int) == 0)))) = true
          · exfalso
            simp only [Bool.and_eq_true, beq_iff_eq] at hz
            obtain ⟨z1, z2, z3, z4⟩ := hz
            apply h2
            rw [word_zero z1, word_zero z2, word_zero z3, word_zero z4]
            rfl
          · rw [Bool.eq_false_iff.2 hz]; rfl
    · have hgood : k = 1 ∨ (⟨s1, s2, s3, s4⟩ : K4) = k0 := by
        by_cases h1 : k = 1
        · exact .inl h1
        · by_cases h2 : (⟨s1, s2, s3, s4⟩ : K4) = k0
          · exact .inr h2
          · exact absurd (.inr ⟨h1, h2⟩) hst
      have hg : (k != 1) = false ∨ ((k != 1) = true ∧ (s1.toNat : Int) = 0 ∧ (s2.toNat : Int) = 0 ∧ (s3.toNat : Int) = 0 ∧ (s4.toNat : Int) = 0) := by
        by_cases h1 : k = 1
        · exact .inl (by simpa using h1)
        · refine .inr ⟨by simpa using h1, ?_⟩
          rcases hgood with h | h
          · exact absurd h h1
          · cases h
            exact ⟨rfl, rfl, rfl, rfl⟩
      rcases hm with hm | ⟨hm, hk⟩ | ⟨hm, hk⟩ | ⟨hm, hk⟩
      · exact absurd (.inl hm) hst
      · refine ⟨if x = 0 ∧ y = 0 then (r : Int) else -1, ?_, fun w hL => ?_⟩
        · by_cases hxy : x = 0 ∧ y = 0
          · rw [if_pos hxy]
            obtain ⟨rfl, rfl⟩ := hxy
            rcases hk with rfl | rfl | rfl | rfl
            · cases hgood.resolve_left (by omega)
              exact .inr ⟨.leaf 0, r, rfl, .inl rfl, fun j hj => by obtain rfl : j = 0 := Nat.lt_one_iff.1 hj; exact hn, rfl⟩
            · exact .inr ⟨.set ⟨s1, s2, s3, s4⟩, r, rfl, trivial, fun j hj => by obtain rfl : j = 0 := Nat.lt_one_iff.1 hj; exact hn, rfl⟩
            · cases hgood.resolve_left (by omega)
              exact .inr ⟨.leaf 7, r, rfl, .inr (.inl rfl), fun j hj => by obtain rfl : j = 0 := Nat.lt_one_iff.1 hj; exact hn, rfl⟩
            · cases hgood.resolve_left (by omega)
              exact .inr ⟨.leaf 8, r, rfl, .inr (.inr rfl), fun j hj => by obtain rfl : j = 0 := Nat.lt_one_iff.1 hj; exact hn, rfl⟩
          · rw [if_neg hxy]; exact .inl rfl
        · obtain ⟨a0, a1, a2, a3, a4, a5, a6⟩ := hat w hL
          exact bg_end N cap b o r k _ _ _ _ x y (kidsN k) w hr hN2 a0 a1 a2 a3 a4 a5 a6 ts hL kk hm hg
      · cases hgood.resolve_left (by omega)
        obtain ⟨a, ha, ka⟩ : ∃ a : Int, (a = -1 ∨ (1 ≤ r ∧ Root ts (r - 1) a)) ∧ ∀ w, Lies (.slice (some ⟨b, o, none⟩) N cap) ts w → Calls Try.prog 20 #[.slice (some ⟨b, o, none⟩) N cap, .int .i64 ((r : Int) - 1)] w fun e w' => e = .returned (.int .i64 a) ∧ Below w.heap.size w w' := by
          by_cases hr0 : r = 0
          · subst hr0
            exact ⟨-1, .inl rfl, fun w _ => begin_neg _ w⟩
          · obtain ⟨a, ha, k1⟩ := ih (r - 1) (by omega) (by omega)
            refine ⟨a, .inr ⟨by omega, ha⟩, fun w hL => ?_⟩
            have := k1 w hL
            rwa [show ((r - 1 : Nat) : Int) = (r : Int) - 1 by omega] at this
        refine ⟨if x = (r : Int) - 1 ∧ y = 0 then a else -1, ?_, fun w hL => ?_⟩
        · by_cases hxy : x = (r : Int) - 1 ∧ y = 0
          · rw [if_pos hxy]
            obtain ⟨rfl, rfl⟩ := hxy
            rcases ha with ha | ⟨hr1, ha | ⟨T, n, ha, hok, hs, hsz⟩⟩
            · exact .inl ha
            · exact .inl ha
            · obtain ⟨j, rfl⟩ : ∃ j : Nat, k = (j : Int) := ⟨k.toNat, by omega⟩
              refine .inr ⟨.rep j T, n, ha, ⟨by omega, hok⟩, sub_rep hs ?_, by show r + 1 = n + (T.size + 1); omega⟩
              rw [show n + T.size = r by omega, hn]
              congr 2
              omega
          · rw [if_neg hxy]; exact .inl rfl
        · obtain ⟨a0, a1, a2, a3, a4, a5, a6⟩ := hat w hL
          exact bg_one N cap b o r k _ _ _ _ x y (kidsN k) w hr hN2 a0 a1 a2 a3 a4 a5 a6 ts hL kk hm hg a ka
      · cases hgood.resolve_left (by omega)
        obtain ⟨a, ha, ka⟩ : ∃ a : Int, (a = -1 ∨ (1 ≤ r ∧ Root ts (r - 1) a)) ∧ ∀ w, Lies (.slice (some ⟨b, o, none⟩) N cap) ts w → Calls Try.prog 20 #[.slice (some ⟨b, o, none⟩) N cap, .int .i64 ((r : Int) - 1)] w fun e w' => e = .returned (.int .i64 a) ∧ Below w.heap.size w w' := by
          by_cases hr0 : r = 0
          · subst hr0
            exact ⟨-1, .inl rfl, fun w _ => begin_neg _ w⟩
          · obtain ⟨a, ha, k1⟩ := ih (r - 1) (by omega) (by omega)
            refine ⟨a, .inr ⟨by omega, ha⟩, fun w hL => ?_⟩
            have := k1 w hL
            rwa [show ((r - 1 : Nat) : Int) = (r : Int) - 1 by omega] at this
        have hab : -1 ≤ a ∧ a ≤ 2000 ∧ (1 ≤ a → ∃ T n, a = ((n : Nat) : Int) ∧ Tr.ok T ∧ Sub ts T n ∧ r = n + T.size) := by
          rcases ha with ha | ⟨hr1, ha | ⟨T, n, ha, hok, hs, hsz⟩⟩
          · exact ⟨by omega, by omega, fun h => by omega⟩
          · exact ⟨by omega, by omega, fun h => by omega⟩
          · have := T.size_pos
            exact ⟨by omega, by omega, fun _ => ⟨T, n, ha, hok, hs, by omega⟩⟩
        by_cases h1 : 1 ≤ a
        · obtain ⟨T, n, han, hok, hs, hsz⟩ := hab.2.2 h1
          have hp := T.size_pos
          obtain ⟨a2, ha2, kb⟩ := ih (n - 1) (by omega) (by omega)
          have kb : 1 ≤ a → ∀ w, Lies (.slice (some ⟨b, o, none⟩) N cap) ts w → Calls Try.prog 20 #[.slice (some ⟨b, o, none⟩) N cap, .int .i64 (a - 1)] w fun e w' => e = .returned (.int .i64 a2) ∧ Below w.heap.size w w' := fun _ w hL => by
            have := kb w hL
            rwa [show ((n - 1 : Nat) : Int) = a - 1 by omega] at this
          refine ⟨if 1 ≤ a ∧ x = a - 1 ∧ y = (r : Int) - 1 then a2 else -1, ?_, fun w hL => ?_⟩
          · by_cases hxy : 1 ≤ a ∧ x = a - 1 ∧ y = (r : Int) - 1
            · rw [if_pos hxy]
              obtain ⟨_, rfl, rfl⟩ := hxy
              rcases ha2 with ha2 | ⟨T2, n2, ha2, hok2, hs2, hsz2⟩
              · exact .inl ha2
              · obtain ⟨j, rfl⟩ : ∃ j : Nat, k = (j : Int) := ⟨k.toNat, by omega⟩
                have en : n = n2 + T2.size := by omega
                subst en
                refine .inr ⟨.two j T2 T, n2, ha2, ⟨by omega, hok2, hok⟩, sub_two hs2 hs ?_, by show r + 1 = n2 + (T2.size + T.size + 1); omega⟩
                rw [show n2 + T2.size + T.size = r by omega, hn]
                congr 2 <;> omega
            · rw [if_neg hxy]; exact .inl rfl
          · obtain ⟨a0, a1, a2', a3, a4, a5, a6⟩ := hat w hL
            exact bg_two N cap b o r k _ _ _ _ x y (kidsN k) w hr hN2 a0 a1 a2' a3 a4 a5 a6 ts hL kk hm hg a a2 hab.1 hab.2.1 ka kb
        · refine ⟨if 1 ≤ a ∧ x = a - 1 ∧ y = (r : Int) - 1 then 0 else -1, by rw [if_neg fun h => h1 h.1]; exact .inl rfl, fun w hL => ?_⟩
          obtain ⟨a0, a1, a2', a3, a4, a5, a6⟩ := hat w hL
          exact bg_two N cap b o r k _ _ _ _ x y (kidsN k) w hr hN2 a0 a1 a2' a3 a4 a5 a6 ts hL kk hm hg a 0 hab.1 hab.2.1 ka (fun h => absurd h h1)

set_option maxHeartbeats 1000000 in
set_option maxRecDepth 20000 in
theorem refRight_says (v : Value) (N cap r : Nat) (ao : Option Addr) (x : Int) (q : Bool) (w : World) (hv : v = .slice ao N cap) (hN : N ≤ 2000) (hr : r + 1 = N) (hq : (x == 0) = q) (k : Calls Try.prog 20 #[v, .int .i64 (r : Int)] w fun e w' => e = .returned (.int .i64 x) ∧ Below w.heap.size w w') :
    Calls Try.prog 6 #[v] w fun e w' => e = .returned (.bool q) ∧ Below w.heap.size w w' := by
  subst hv
  have hI : IntKind.i64.wrap ((N : Int) - 1) = (r : Int) := by rw [IntWalk.i64_in _ (by omega)]; omega
  have h1 : decide ((N : Int) ≤ 2000) = true := by simp; omega
  have h2 : decide ((0 : Int) < (N : Int)) = true := by simp; omega
  go_enter Try.func6, Try.ntmps6
  go_wp2_with (first
    | (go_at_call 20; refine k.mono ?_; rintro e w2 ⟨rfl, hb2⟩)
    | fail)
  exact bodyPost_ret (results_tmp rfl _ _ _) rfl ⟨rfl, hb2⟩
set_option maxHeartbeats 1000000 in
set_option maxRecDepth 20000 in
theorem refRight_none (ao : Option Addr) (cap : Nat) (w : World) : Calls Try.prog 6 #[.slice ao 0 cap] w fun e w' => e = .returned (.bool false) ∧ Below w.heap.size w w' := by
  go_enter Try.func6, Try.ntmps6
  go_wp2
  exact bodyPost_ret (results_tmp rfl _ _ _) rfl ⟨rfl, Below.refl _ _⟩
/-- The document's Right, of any row: if it says yes, the row is a tree's. -/
theorem refRight_any (v : Value) (ts : List Nd) (w0 : World) (hl : ts.length ≤ 2000) (hL : Lies v ts w0) : ∃ q : Bool, (q = true → ∃ T : Tr, T.ok ∧ ts = T.row 0 ∧ T.size = ts.length) ∧
    ∀ w, Lies v ts w → Calls Try.prog 6 #[v] w fun e w' => e = .returned (.bool q) ∧ Below w.heap.size w w' := by
  have hL' := hL
  obtain ⟨ao, cap, rfl, _⟩ := hL
  by_cases h0 : ts.length = 0
  · refine ⟨false, (fun h => by cases h), fun w _ => ?_⟩
    rw [h0]
    exact refRight_none ao cap w
  · obtain ⟨b, o, rfl, _⟩ := hL'.at (j := 0) (List.getElem?_eq_getElem (by omega))
    obtain ⟨x, hx, k⟩ := begin_any ts ts.length cap b o rfl hl (ts.length - 1) (by omega)
    refine ⟨x == 0, fun h => ?_, fun w hL => refRight_says _ ts.length cap (ts.length - 1) _ x _ w rfl hl (by omega) rfl (k w hL)⟩
    have h : x = 0 := by simpa using h
    rcases hx with hx | ⟨T, n, hx, hok, hs, hsz⟩
    · omega
    · obtain rfl : n = 0 := by omega
      exact ⟨T, hok, sub_all hs (by omega), by omega⟩
end Go.Proofs.Ytkgpnlldlekcbaa
