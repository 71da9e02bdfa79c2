/- dec.Read: the numeral that a text begins with, as the plain function 'readD' says it. Condition: the text is shorter than 2^45. -/
import Derived.Test.YtokfkckfclnoaaaDoorDecNumber
import Derived.Deep.RegionHeld3
namespace Go.Proofs.YtokfkckfclnoaaaDoor
open Go.RowKit

def readE (l : List UInt8) : Ending := .returned (.tuple #[.int .i64 (readD l).1, .int .i64 (readD l).2.1, .int .i64 (readD l).2.2])
theorem read_walk_none (s sg wh fr : ByteArray) (u : Int) (w : World) (h1 : wh.size + fr.size ≤ 9223372036854775807) (he : (wh ++ fr).toList.isEmpty = true)
    (k1 : ∀ w, Calls Tryd.prog 46 #[.string s] w fun e w' => e = .returned (.agg #[.string sg, .string wh, .string fr, .int .i64 u]) ∧ Below w.heap.size w w') :
    Calls Tryd.prog 13 #[.string s] w fun e w' => e = .returned (.tuple #[.int .i64 0, .int .i64 0, .int .i64 2]) ∧ Below w.heap.size w w' := by
  have hmf : ∀ (fn : Fn) (first cap : Array Value) (w : World), (Instr.makeFunc fn first cap).run Tryd.prog w = .ok (.func fn first cap) w := fun _ _ _ _ => rfl
  have n1 : ¬ 9223372036854775807 < wh.size + fr.size := by omega
  go_enter Tryd.func13, Tryd.ntmps13
  go_wp2_with (go_at_call 46; refine (k1 _).mono ?_; rintro e w1 ⟨rfl, hb1⟩)
  go_ret3
  exact ⟨rfl, hb1.alloc hb1.size _⟩
theorem form_new (w1 w2 : World) (a b c d : Value) (hb : Below (w1.alloc (.cells #[a, b, c, d] 62)).heap.size (w1.alloc (.cells #[a, b, c, d] 62)) w2) :
    w2.cell? ⟨w1.heap.size, 3, none⟩ = some d :=
  (stands4_cells (stands4_old (heap_alloc_new _ _) hb)).2.2.2.2.2.2.1
theorem read_walk_ok (s sg wh fr : ByteArray) (u n : Int) (w : World) (h1 : wh.size + fr.size ≤ 9223372036854775807) (he : (wh ++ fr).toList.isEmpty = false)
    (k1 : ∀ w, Calls Tryd.prog 46 #[.string s] w fun e w' => e = .returned (.agg #[.string sg, .string wh, .string fr, .int .i64 u]) ∧ Below w.heap.size w w')
    (k2 : ∀ w, Calls Tryd.prog 47 #[.func (.func 48) #[.agg #[.string sg, .string wh, .string fr, .int .i64 u]] #[]] w fun e w' => e = .returned (.tuple #[.int .i64 n, .int .i64 0]) ∧ Below w.heap.size w w') :
    Calls Tryd.prog 13 #[.string s] w fun e w' => e = .returned (.tuple #[.int .i64 n, .int .i64 u, .int .i64 0]) ∧ Below w.heap.size w w' := by
  have hmf : ∀ (fn : Fn) (first cap : Array Value) (w : World), (Instr.makeFunc fn first cap).run Tryd.prog w = .ok (.func fn first cap) w := fun _ _ _ _ => rfl
  have n1 : ¬ 9223372036854775807 < wh.size + fr.size := by omega
  go_enter Tryd.func13, Tryd.ntmps13
  go_wp2_with (first | (go_at_call 46; refine (k1 _).mono ?_; rintro e w1 ⟨rfl, hb1⟩) | (go_at_call 47; refine (k2 _).mono ?_; rintro e w2 ⟨rfl, hb2⟩; have hc := form_new _ _ _ _ _ _ hb2))
  go_region_held3 (fun w' => w'.cell? ⟨w1.heap.size, 3, none⟩ = some (.int .i64 u)) (first | assumption | exact hc) (fail)
  all_goals
    go_wp2
    go_ret3
    exact ⟨rfl, ((hb1.alloc hb1.size _).trans (hb2.mono (hb1.alloc hb1.size _).size)).drew⟩
theorem read_walk_bad (s sg wh fr : ByteArray) (u er : Int) (w : World) (h1 : wh.size + fr.size ≤ 9223372036854775807) (he : (wh ++ fr).toList.isEmpty = false) (her : er ≠ 0)
    (k1 : ∀ w, Calls Tryd.prog 46 #[.string s] w fun e w' => e = .returned (.agg #[.string sg, .string wh, .string fr, .int .i64 u]) ∧ Below w.heap.size w w')
    (k2 : ∀ w, Calls Tryd.prog 47 #[.func (.func 48) #[.agg #[.string sg, .string wh, .string fr, .int .i64 u]] #[]] w fun e w' => e = .returned (.tuple #[.int .i64 0, .int .i64 er]) ∧ Below w.heap.size w w') :
    Calls Tryd.prog 13 #[.string s] w fun e w' => e = .returned (.tuple #[.int .i64 0, .int .i64 0, .int .i64 er]) ∧ Below w.heap.size w w' := by
  have hmf : ∀ (fn : Fn) (first cap : Array Value) (w : World), (Instr.makeFunc fn first cap).run Tryd.prog w = .ok (.func fn first cap) w := fun _ _ _ _ => rfl
  have n1 : ¬ 9223372036854775807 < wh.size + fr.size := by omega
  have n2 : ((er : Int) == 0) = false := beq_eq_false_iff_ne.2 her
  go_enter Tryd.func13, Tryd.ntmps13
  go_wp2_with (first | (go_at_call 46; refine (k1 _).mono ?_; rintro e w1 ⟨rfl, hb1⟩) | (go_at_call 47; refine (k2 _).mono ?_; rintro e w2 ⟨rfl, hb2⟩; have hc := form_new _ _ _ _ _ _ hb2))
  go_ret3
  exact ⟨rfl, (hb1.alloc hb1.size _).trans (hb2.mono (hb1.alloc hb1.size _).size)⟩

theorem numD_into (b : Bool) (v : Nat) : numD b v = into (sgn b v) := by
  unfold numD into
  cases b
  · show (if v ≤ 9223372036854775807 then ((v : Int), 0) else (0, 3)) = if -9223372036854775808 ≤ (v : Int) ∧ (v : Int) ≤ 9223372036854775807 then ((v : Int), 0) else (0, 3)
    by_cases h : v ≤ 9223372036854775807
    · rw [if_pos h, if_pos (by omega)]
    · rw [if_neg h, if_neg (by omega)]
  · show (if v ≤ 9223372036854775808 then (-(v : Int), 0) else (0, 3)) = if -9223372036854775808 ≤ -(v : Int) ∧ -(v : Int) ≤ 9223372036854775807 then (-(v : Int), 0) else (0, 3)
    by_cases h : v ≤ 9223372036854775808
    · rw [if_pos h, if_pos (by omega)]
    · rw [if_neg h, if_neg (by omega)]
theorem signL_cases (l : List UInt8) : signL l = [] ∨ signL l = [45] ∨ signL l = [43] := by
  cases l with
  | nil => exact .inl rfl
  | cons c r =>
    show (if isSgn c then [c] else []) = [] ∨ (if isSgn c then [c] else []) = [45] ∨ (if isSgn c then [c] else []) = [43]
    by_cases h : isSgn c = true
    · rw [if_pos h]
      unfold isSgn at h
      rw [Bool.or_eq_true, beq_iff_eq, beq_iff_eq] at h
      rcases h with rfl | rfl
      · exact .inr (.inl rfl)
      · exact .inr (.inr rfl)
    · rw [if_neg h]; exact .inl rfl
theorem pointP_figs (l : List UInt8) : (pointP l).1.all isFig = true := by
  unfold pointP pointL
  split
  · exact figs_isFig _
  · rfl
theorem wholeP_le (l : List UInt8) : (wholeP l).length ≤ l.length := by
  have a1 := atSign_length l
  have a2 := unsign_length (atSign l)
  have a3 := figs_length_le (unsign (atSign l))
  show (figs (unsign (atSign l))).length ≤ _
  omega
theorem pointP_le (l : List UInt8) : (pointP l).1.length ≤ l.length := by
  have a1 := atSign_length l
  have a2 := unsign_length (atSign l)
  have a3 := rest1_le (unsign (atSign l))
  unfold pointP pointL
  split
  · have h1 := figs_length_le (rest1 (unsign (atSign l))).tail
    rw [List.length_tail] at h1
    show (figs (rest1 (unsign (atSign l))).tail).length ≤ _
    omega
  · exact Nat.zero_le _

theorem read_any (s : ByteArray) (w : World) (hs : s.size ≤ 30000000000000) :
    Calls Tryd.prog 13 #[.string s] w fun e w' => e = readE s.data.toList ∧ Below w.heap.size w w' := by
  have k1 := fun w => find_any s w (by omega)
  have hsz : s.size = s.data.toList.length := ba_size s
  generalize s.data.toList = l at k1 hsz ⊢
  have b1 := wholeP_le l
  have b2 := pointP_le l
  have hsum : (ba (wholeP l)).size + (ba (pointP l).1).size ≤ 9223372036854775807 := by rw [ba_len, ba_len]; omega
  have hemp : (ba (wholeP l) ++ ba (pointP l).1).toList.isEmpty = (wholeP l ++ (pointP l).1).isEmpty := by rw [ba_append, ba_empty]
  by_cases h0 : wholeP l ++ (pointP l).1 = []
  · have hE : readE l = .returned (.tuple #[.int .i64 0, .int .i64 0, .int .i64 2]) := by unfold readE readD; rw [if_pos h0]
    rw [hE]
    exact read_walk_none s (ba (signL (atSign l))) (ba (wholeP l)) (ba (pointP l).1) (usedP l) w hsum (by rw [hemp, h0]; rfl) k1
  · have hne : (ba (wholeP l) ++ ba (pointP l).1).toList.isEmpty = false := by
      rw [hemp]
      cases h : wholeP l ++ (pointP l).1 with
      | nil => exact absurd h h0
      | cons _ _ => rfl
    have k2 : ∀ w, Calls Tryd.prog 47 #[.func (.func 48) #[.agg #[.string (ba (signL (atSign l))), .string (ba (wholeP l)), .string (ba (pointP l).1), .int .i64 (usedP l)]] #[]] w fun e w' => e = intoE (sgn (signL (atSign l) == [45]) (natOf (wholeP l ++ ((pointP l).1 ++ zeros6).take 6))) ∧ Below w.heap.size w w' :=
      fun w => kept_any1 48 _ _ w (enters_of Tryd.func48 (by kernel_rfl) rfl) (fun w1 _ => number_any (signL (atSign l)) (wholeP l) (pointP l).1 (usedP l) w1 (signL_cases _) (figs_isFig _) (pointP_figs l) (by omega) (by omega))
    have hN : numP l = into (sgn (signL (atSign l) == [45]) (natOf (wholeP l ++ ((pointP l).1 ++ zeros6).take 6))) := numD_into _ _
    generalize sgn (signL (atSign l) == [45]) (natOf (wholeP l ++ ((pointP l).1 ++ zeros6).take 6)) = x at k2 hN
    by_cases hin : -9223372036854775808 ≤ x ∧ x ≤ 9223372036854775807
    · rw [intoE_in hin] at k2
      have hN2 : numP l = (x, 0) := by rw [hN]; unfold into; rw [if_pos hin]
      have hE : readE l = .returned (.tuple #[.int .i64 x, .int .i64 (usedP l), .int .i64 0]) := by unfold readE readD; rw [if_neg h0, hN2, if_pos rfl]
      rw [hE]
      exact read_walk_ok s _ _ _ _ _ w hsum hne k1 k2
    · rw [intoE_out hin] at k2
      have hN2 : numP l = (0, 3) := by rw [hN]; unfold into; rw [if_neg hin]
      have hE : readE l = .returned (.tuple #[.int .i64 0, .int .i64 0, .int .i64 3]) := by unfold readE readD; rw [if_neg h0, hN2, if_neg (by simp)]
      rw [hE]
      exact read_walk_bad s _ _ _ _ _ w hsum hne (by omega) k1 k2
end Go.Proofs.YtokfkckfclnoaaaDoor
