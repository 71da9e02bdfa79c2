/- Packed texts: MbFew, MaWhole, MatchApartWalk. What each of them proves stands above its theorems; the conditions stand in these. -/
import Derived.Test.YtgffmbdbjbhocaaShelf
import Derived.Test.YtgffmbdbjbhocaaP6
import Derived.Test.YtgffmbdbjbhocaaP8
import Derived.Test.YtgffmbdbjbhocaaP9
import Derived.Test.YtgffmbdbjbhocaaP11
namespace Go.Proofs.Ytgffmbdbjbhocaa
open Go.RowKit Go.Lib

set_option maxHeartbeats 1000000 in
set_option maxRecDepth 20000 in
theorem few06_walk (ao : Option Addr) (N cap : Nat) (s : ByteArray) (q : Bool) (w : World) (hN : N ≤ 60) (hs : s.size ≤ 30) (k : ∀ w', w = w' → Calls Try.prog 17 #[.slice ao N cap] w' fun e w'' => e = .returned (.bool q) ∧ Below w'.heap.size w' w'') :
    Calls Try.prog 27 #[.slice ao N cap, .string s] w fun e w' => e = .returned (.bool q) ∧ Below w.heap.size w w' := by
  have k := k w rfl
  have h1 : decide ((N : Int) ≤ 60) = true := by simp; omega
  have h2 : decide ((s.size : Int) ≤ 30) = true := by simp; omega
  go_enter Try.func27, Try.ntmps27
  go_wp2_with (first
    | (go_at_call 17; refine k.mono ?_; rintro e w1 ⟨rfl, hb1⟩)
    | fail)
  exact bodyPost_ret (results_tmp rfl _ _ _) rfl ⟨by cases q <;> rfl, hb1⟩
set_option maxHeartbeats 1000000 in
set_option maxRecDepth 20000 in
theorem few06_no (ao : Option Addr) (N cap : Nat) (s : ByteArray) (w : World) (h : ¬ N ≤ 60 ∨ (N ≤ 60 ∧ ¬ s.size ≤ 30)) :
    Calls Try.prog 27 #[.slice ao N cap, .string s] w fun e w' => e = .returned (.bool false) ∧ Below w.heap.size w w' := by
  rcases h with h | ⟨h, h2⟩
  · have h1 : decide ((N : Int) ≤ 60) = false := by simp; omega
    go_enter Try.func27, Try.ntmps27
    go_wp2
    exact bodyPost_ret (results_tmp rfl _ _ _) rfl ⟨rfl, Below.refl _ _⟩
  · have h1 : decide ((N : Int) ≤ 60) = true := by simp; omega
    have h3 : decide ((s.size : Int) ≤ 30) = false := by simp; omega
    go_enter Try.func27, Try.ntmps27
    go_wp2
    exact bodyPost_ret (results_tmp rfl _ _ _) rfl ⟨rfl, Below.refl _ _⟩
/-- Whether an argument is right, and short. -/
theorem few06_any (ao : Option Addr) (cap : Nat) (ts : List Nd) (s : ByteArray) (w0 : World) (hL : ts.length ≤ 140737488355328 → Lies (.slice ao ts.length cap) ts w0) : ∃ q : Bool, (q = true → ts.length ≤ 60 ∧ s.size ≤ 30 ∧ Lies (.slice ao ts.length cap) ts w0 ∧ ∃ T : Tr, T.ok ∧ ts = T.row 0) ∧
    ∀ w, Below w0.heap.size w0 w → Calls Try.prog 27 #[.slice ao ts.length cap, .string s] w fun e w' => e = .returned (.bool q) ∧ Below w.heap.size w w' := by
  by_cases hN : ts.length ≤ 60
  · by_cases hs : s.size ≤ 30
    · have hL := hL (by omega)
      obtain ⟨q, h1, h2⟩ := refRight_any _ ts w0 (by omega) hL
      exact ⟨q, fun hq => ⟨hN, hs, hL, (h1 hq).imp fun T h => ⟨h.1, h.2.1⟩⟩, fun w hb => few06_walk ao _ cap s q w hN hs fun w' e => by subst e; exact h2 w (hL.below hb)⟩
    · exact ⟨false, fun h => (by cases h), fun w _ => few06_no ao _ cap s w (.inr ⟨hN, hs⟩)⟩
  · exact ⟨false, fun h => (by cases h), fun w _ => few06_no ao _ cap s w (.inl hN)⟩
theorem own_zeroB {w : World} {B k : Nat} {e : TypeId} {v : Value} {xs : List Value} {n : Nat} (h : w.ownsRow B e k v n xs) : ∃ ao cap, v = .slice ao n cap := by
  rcases h.2 with ⟨hv, h0⟩ | ⟨g, cap, cur, hv, _⟩
  · exact ⟨_, _, by rw [hv, h0]⟩
  · exact ⟨_, _, hv⟩
theorem pairC_get : ∀ (L : List (Nat × Nat)) (j i : Nat) (x : Nat × Nat), L[j]? = some x → i < 2 → (pairC L)[j * 2 + i]? = [Value.int .i64 (x.1 : Int), .int .i64 (x.2 : Int)][i]?
  | [], j, i, x, h, _ => by simp at h
  | t :: L, 0, i, x, h, hi => by
    simp at h
    subst h
    show ([Value.int .i64 (t.1 : Int), .int .i64 (t.2 : Int)] ++ pairC L)[0 * 2 + i]? = _
    rw [List.getElem?_append_left (by show 0 * 2 + i < 2; omega)]
    congr 1
    omega
  | t :: L, j + 1, i, x, h, hi => by
    have h : L[j]? = some x := by simpa using h
    show ([Value.int .i64 (t.1 : Int), .int .i64 (t.2 : Int)] ++ pairC L)[(j + 1) * 2 + i]? = _
    rw [List.getElem?_append_right (by show 2 ≤ _; omega)]
    have e : (j + 1) * 2 + i - [Value.int .i64 (t.1 : Int), .int .i64 (t.2 : Int)].length = j * 2 + i := by show (j + 1) * 2 + i - 2 = _; omega
    rw [e, pairC_get L j i x h hi]
/-- A span of a row of spans, read. -/
theorem span_cells {w : World} {B N g cap : Nat} {L : List (Nat × Nat)} (h : w.ownsRow B 41 2 (.slice (some ⟨g, 0, none⟩) N cap) N (pairC L)) {j : Nat} {x : Nat × Nat} (hx : L[j]? = some x) : w.cell? ⟨g, j * 2, none⟩ = some (.int .i64 (x.1 : Int)) ∧ w.cell? ⟨g, j * 2 + 1, none⟩ = some (.int .i64 (x.2 : Int)) :=
  ⟨owns_cell2 h (by have := pairC_get L j 0 x hx (by omega); simpa using this), owns_cell2 h (by have := pairC_get L j 1 x hx (by omega); simpa using this)⟩
set_option maxHeartbeats 2000000 in
set_option maxRecDepth 20000 in
theorem sameSpans_any (B C : Nat) (u v : Value) (L : List (Nat × Nat)) (w : World) (hl : L.length ≤ 100000000) (h : w.ownsRow B 41 2 u L.length (pairC L)) (h2 : w.ownsRow C 41 2 v L.length (pairC L)) :
    Calls Try.prog 28 #[u, v] w fun e w' => e = .returned (.bool true) ∧ Below w.heap.size w w' := by
  obtain ⟨ao, cap, rfl⟩ := own_zeroB h
  obtain ⟨bo, cap2, rfl⟩ := own_zeroB h2
  obtain ⟨N, hN⟩ : ∃ N, N = L.length := ⟨_, rfl⟩
  rw [← hN] at h h2 hl ⊢
  have H := Lib.hid (And.intro hN (And.intro h h2))
  have h1 : ((N : Int) != (N : Int)) = false := by simp
  clear h h2 hN
  go_enter Try.func28, Try.ntmps28
  go_wp2
  go_loopg [5] (N + 1) (fun k i wr => ∃ (j : Nat), i = .int .i64 j ∧ j ≤ N ∧ Hid (k = N + 1 - j) ∧ Hid (Below w.heap.size w wr))
  case atStart => exact ⟨0, rfl, by omega, rfl, Below.refl _ _⟩
  case round =>
    obtain ⟨j, rfl, hj, HK, HB⟩ := hrel
    by_cases hlt : j < N
    · obtain ⟨⟨x, y⟩, hx⟩ : ∃ x, L[j]? = some x := ⟨L[j]'(by have := H.out.1; omega), List.getElem?_eq_getElem _⟩
      obtain ⟨g1, c1, e1⟩ := owned_slice H.out.2.1 (by omega)
      obtain ⟨g2, c2, e2⟩ := owned_slice H.out.2.2 (by omega)
      cases e1
      cases e2
      have k1 := owns_same H.out.2.1 fun q hq => HB.out.block q (own_block_lt H.out.2.1 hq)
      have k2 := owns_same H.out.2.2 fun q hq => HB.out.block q (own_block_lt H.out.2.2 hq)
      obtain ⟨a0, a1⟩ := span_cells k1 hx
      obtain ⟨b0, b1⟩ := span_cells k2 hx
      dsimp only at a0 a1 b0 b1
      have e := run_neq_two (x : Int) (y : Int) (x : Int) (y : Int)
      simp only [beq_self_eq_true, Bool.and_self, Bool.not_true] at e
      have hI : IntKind.i64.wrap ((j : Int) + 1) = ((j + 1 : Nat) : Int) := by rw [IntWalk.i64_in _ (by omega)]; omega
      clear k1 k2 hx
      go_wp2_with fail
      go_region
      all_goals
        go_wp2
        go_roundg (N - j)
        case rel => exact ⟨j + 1, by go_num, by omega, by show _ = _; omega, HB.out.drew⟩
        case measure => have := HK.out; omega
    · have hd : decide ((j : Int) < (N : Int)) = false := by simp; omega
      go_wp2
      exact bodyPost_ret (results_tmp rfl _ _ _) rfl ⟨rfl, HB.out⟩
end Go.Proofs.Ytgffmbdbjbhocaa
namespace Go.Proofs.Ytgffmbdbjbhocaa
open Go.RowKit Go.Lib

set_option maxHeartbeats 1000000 in
set_option maxRecDepth 20000 in
theorem isM_any (v : Value) (T : Tr) (ts : List Nd) (s : ByteArray) (w : World) (hts : ts = T.row 0) (hok : T.ok) (hsz : ts.length ≤ 2000) (hs : s.size ≤ 1000000) (hL : Lies v ts w) :
    Calls Try.prog 32 #[v, .string s] w fun e w' => e = .returned (.bool (!(spansL s.data.toList T 0).isEmpty)) ∧ Below w.heap.size w w' := by
  have k := span_first v 0 T ts s w hts hok hsz hs hL
  obtain ⟨b, o, cap, rfl⟩ := lies_ptr hts hL
  rw [show (0 : Int).toNat = 0 from rfl] at k
  generalize spansL s.data.toList T 0 = L at k ⊢
  clear hL hts hok hsz hs
  cases L with
  | nil =>
    unfold spanV at k
    go_enter Try.func32, Try.ntmps32
    go_wp2_with (first
      | (go_at_call 34; refine k.mono ?_; rintro e w1 ⟨rfl, hb⟩)
      | fail)
    exact bodyPost_ret (results_tmp rfl _ _ _) rfl ⟨rfl, hb⟩
  | cons x L =>
    unfold spanV at k
    go_enter Try.func32, Try.ntmps32
    go_wp2_with (first
      | (go_at_call 34; refine k.mono ?_; rintro e w1 ⟨rfl, hb⟩)
      | fail)
    exact bodyPost_ret (results_tmp rfl _ _ _) rfl ⟨rfl, hb⟩
end Go.Proofs.Ytgffmbdbjbhocaa
namespace Go.Proofs.Ytgffmbdbjbhocaa
open Go.RowKit Go.Lib

/-- Spans that stand one behind the other. -/
def Apart (s : List UInt8) (T : Tr) : Nat → Int → List (Nat × Nat) → Prop
  | _, _, [] => True
  | lo, e, (a, b) :: r => lo ≤ a ∧ a ≤ s.length ∧ farG s T a = ((b : Nat) : Int) ∧ a ≤ b ∧ b ≤ s.length ∧ ¬ (b = a ∧ e = a) ∧ Apart s T b b r
theorem Apart.mono {s : List UInt8} {T : Tr} {lo lo' : Nat} {e : Int} {l : List (Nat × Nat)} (h : Apart s T lo e l) (hlo : lo' ≤ lo) : Apart s T lo' e l := by
  cases l with
  | nil => trivial
  | cons x r => exact ⟨Nat.le_trans hlo h.1, h.2⟩
theorem goL_apart (s : List UInt8) (T : Tr) : ∀ (f a : Nat) (e : Int), Apart s T a e (goL (farG s T) s.length f a e)
  | 0, _, _ => trivial
  | f + 1, a, e => by
    unfold goL
    split
    · trivial
    · rename_i h1
      split
      · exact (goL_apart s T f (a + 1) e).mono (Nat.le_succ a)
      · rename_i h2
        rcases farG_cases s T a with h3 | ⟨b, h3, h4, h5, _⟩
        · exact absurd (.inl h3) h2
        · rw [h3, Int.toNat_natCast]
          exact ⟨Nat.le_refl _, by omega, h3, h4, h5, fun h => h2 (.inr ⟨by rw [h3, h.1], h.2⟩), goL_apart s T f b b⟩
theorem filter_last {p : Nat → Bool} {b : Nat} (hb : p b = true) : ∀ n, b ≤ n → (∀ c, b < c → c ≤ n → p c = false) → ∃ l, (List.range (n + 1)).filter p = l ++ [b] := by
  intro n
  induction n with
  | zero =>
    intro h1 _
    obtain rfl : b = 0 := by omega
    exact ⟨[], by simp [hb]⟩
  | succ n ih =>
    intro h1 h2
    rw [List.range_succ, List.filter_append]
    by_cases e : b = n + 1
    · subst e
      exact ⟨_, by rw [show [n + 1].filter p = [n + 1] by simp [hb]]⟩
    · obtain ⟨l, hl⟩ := ih (by omega) (fun c h3 h4 => h2 c h3 (by omega))
      exact ⟨l, by rw [hl, show [n + 1].filter p = [] by simp [h2 (n + 1) (by omega) (by omega)], List.append_nil]⟩
theorem ends_last {s : List UInt8} {T : Tr} {a b : Nat} (ha : a ≤ s.length) (h : farG s T a = (b : Int)) : ∃ l, endsL s T (a : Int) = l ++ [b] := by
  have h0 : St s T a b ∧ b ≤ s.length ∧ ∀ c, b < c → c ≤ s.length → ¬ St s T a c := by
    unfold farG at h
    split at h
    · rename_i hex
      have hc := Classical.choose_spec hex
      have e : Classical.choose hex = b := by omega
      rw [e] at hc
      exact ⟨hc.2.1, hc.1, hc.2.2⟩
    · omega
  unfold endsL
  rw [if_neg (by omega), Int.toNat_natCast]
  exact filter_last (p := fun b => @decide (St s T a b) (Classical.propDecidable _)) ((@decide_eq_true_iff _ (Classical.propDecidable _)).2 h0.1) _ h0.2.1 (fun c h1 h2 => (@decide_eq_false_iff_not _ (Classical.propDecidable _)).2 (h0.2.2 c h1 h2))
theorem apart_at {s : List UInt8} {T : Tr} : ∀ (l : List (Nat × Nat)) (lo : Nat) (e : Int), Apart s T lo e l → ∀ x r, l = x :: r → lo ≤ x.1 ∧ x.1 ≤ s.length ∧ farG s T x.1 = ((x.2 : Nat) : Int) ∧ x.1 ≤ x.2 ∧ x.2 ≤ s.length ∧ ¬ (x.2 = x.1 ∧ e = x.1) ∧ Apart s T x.2 x.2 r := by
  rintro l lo e h ⟨a, b⟩ r rfl
  exact h
set_option maxHeartbeats 4000000 in
set_option maxRecDepth 100000 in
theorem apart_in (ao : Option Addr) (N cap : Nat) (L : List (Nat × Nat)) (T : Tr) (s : ByteArray) (w : World) (ts : List Nd) (hs : s.size ≤ 30) (hl : L.length ≤ 100000000) (hL : Lies (.slice ao N cap) ts w) (hA : Apart s.data.toList T 0 (-1) L)
    (ks : ∀ w, Calls Try.prog 26 #[] w fun e w' => e = .returned (.bool true) ∧ Below w.heap.size w w')
    (kf : ∀ w', Below w.heap.size w w' → Calls Try.prog 27 #[.slice ao N cap, .string s] w' fun e w'' => e = .returned (.bool true) ∧ Below w'.heap.size w' w'')
    (k1 : ∀ w, Lies (.slice ao N cap) ts w → Calls Try.prog 29 #[.slice ao N cap, .string s] w fun e w' => ∃ v', e = .returned v' ∧ w'.ownsRow w.heap.size 41 2 v' L.length (pairC L) ∧ Below w.heap.size w w')
    (k2 : ∀ (a : Int) w, Lies (.slice ao N cap) ts w → Calls Try.prog 31 #[.slice ao N cap, .string s, .int .i64 a] w fun e w' => ∃ v', e = .returned v' ∧ w'.ownsRow w.heap.size 3 1 v' (endsL s.data.toList T a).length (natsV (endsL s.data.toList T a)) ∧ Below w.heap.size w w')
    (k3 : ∀ w, Lies (.slice ao N cap) ts w → Calls Try.prog 32 #[.slice ao N cap, .string s] w fun e w' => e = .returned (.bool (!L.isEmpty)) ∧ Below w.heap.size w w') :
    Calls Try.prog 5 #[.slice ao N cap, .string s] w fun e w' => e = .returned (.bool true) ∧ Below w.heap.size w w' := by
  have hlen : s.data.toList.length = s.size := Array.length_toList
  obtain ⟨K, hK⟩ : ∃ K, K = L.length := ⟨_, rfl⟩
  rw [← hK] at k1 hl
  have hem : (!L.isEmpty) = decide (0 < K) := by
    rw [hK]
    cases L <;> simp
  rw [hem] at k3
  have H := Lib.hid (And.intro hlen (And.intro hL (And.intro hA hK)))
  clear hlen hL hA hK hem
  go_enter Try.func5, Try.ntmps5
  go_wp2_with (first
    | (go_at_call 26; refine (ks _).mono ?_; rintro e w1 ⟨rfl, hb1⟩; have H1 := Lib.hid hb1; clear hb1 ks)
    | (go_at_call 27; refine (kf _ H1.out).mono ?_; rintro e w2 ⟨rfl, hb2⟩; have H2 := Lib.hid (H1.out.trans (hb2.mono H1.out.size)); clear hb2 kf)
    | (go_at_call 29; refine (k1 _ (H.out.2.1.below H2.out)).mono ?_; rintro e w3 ⟨v3, rfl, ho3, hb3⟩; obtain ⟨a3, c3, rfl⟩ := own_zeroB ho3; have H3 := Lib.hid (And.intro ho3 (H2.out.trans (hb3.mono H2.out.size))); clear hb3 k1 ho3)
    | fail)
  go_loopg [8, 9] (K + 1) (fun g v8 v9 wr => ∃ (lo i : Nat) (e : Int), v8 = .int .i64 lo ∧ v9 = .int .i64 i ∧ i ≤ K ∧ Hid (g = K + 1 - i ∧ Apart s.data.toList T lo e (L.drop i) ∧ (0 < i → e = lo) ∧ Below w3.heap.size w3 wr))
  case atStart => exact ⟨0, 0, -1, rfl, rfl, by omega, rfl, H.out.2.2.1, fun h => (by omega), Below.refl _ _⟩
  case round =>
    obtain ⟨lo, i, e, rfl, rfl, hi, HR⟩ := hrel
    by_cases hlt : i < K
    · obtain ⟨⟨x, y⟩, hx⟩ : ∃ x, L[i]? = some x := ⟨L[i]'(by have := H.out.2.2.2; omega), List.getElem?_eq_getElem _⟩
      have hd : L.drop i = (x, y) :: L.drop (i + 1) := by
        have hil : i < L.length := by have := H.out.2.2.2; omega
        rw [List.getElem?_eq_getElem hil] at hx
        rw [List.drop_eq_getElem_cons hil, Option.some.inj hx]
      obtain ⟨h1, h2, h3, h4, h5, h6, h7⟩ := apart_at _ _ _ HR.out.2.1 _ _ hd
      dsimp only at h1 h2 h3 h4 h5 h6 h7
      rw [H.out.1] at h2 h5
      obtain ⟨g1, c1, e1⟩ := owned_slice H3.out.1 (by omega)
      cases e1
      have kk := owns_same H3.out.1 fun q hq => HR.out.2.2.2.block q (own_block_lt H3.out.1 hq)
      obtain ⟨a0, a1⟩ := span_cells kk hx
      dsimp only at a0 a1
      obtain ⟨l, hl2⟩ := ends_last (by rw [H.out.1]; exact h2) h3
      have k2a := k2 (x : Int) wr (H.out.2.1.below (H3.out.2.trans (HR.out.2.2.2.mono H3.out.2.size)))
      rw [hl2] at k2a
      obtain ⟨m, hm⟩ : ∃ m, m = l.length := ⟨_, rfl⟩
      have hm2 : (l ++ [y]).length = m + 1 := by rw [hm]; simp
      rw [hm2, natsV_snoc] at k2a
      have hmb : m ≤ 31 := by
        have h8 : (endsL s.data.toList T (x : Int)).length ≤ s.data.toList.length + 1 := by
          unfold endsL
          split
          · simp
          · exact Nat.le_trans (List.length_filter_le _ _) (by rw [List.length_range]; exact Nat.le_refl _)
        rw [hl2, hm2, H.out.1] at h8
        omega
      have hcase : (i = 0) ∨ (0 < i ∧ ((x : Int) == (y : Int)) = false) ∨ (0 < i ∧ ((x : Int) == (y : Int)) = true ∧ ((x : Int) == (lo : Int)) = false) := by
        by_cases hi0 : i = 0
        · exact .inl hi0
        · by_cases hxy : x = y
          · refine .inr (.inr ⟨by omega, by simp; omega, ?_⟩)
            rw [beq_eq_false_iff_ne]
            intro h
            exact h6 ⟨hxy.symm, (HR.out.2.2.1 (by omega)).trans h.symm⟩
          · exact .inr (.inl ⟨by omega, by rw [beq_eq_false_iff_ne]; omega⟩)
      have t1 : decide (x < lo) = false := by simp; omega
      have t2 : decide (y < x) = false := by simp; omega
      have t3 : decide (s.size < y) = false := by simp; omega
      have t5 : ((((m + 1 : Nat) : Int)) == 0) = false := by rw [beq_eq_false_iff_ne]; omega
      have t6 : IntKind.i64.wrap (((m + 1 : Nat) : Int) - 1) = (m : Int) := by rw [IntWalk.i64_in _ (by omega)]; omega
      have t7 : ((y : Int) != (y : Int)) = false := by simp
      have t8 : (m : Int) < ((m + 1 : Nat) : Int) := by omega
      have m0 : (0 : Int) ≤ (m : Int) := by omega
      have hI : IntKind.i64.wrap ((i : Int) + 1) = ((i + 1 : Nat) : Int) := by rw [IntWalk.i64_in _ (by omega)]; omega
      obtain ⟨m1, hm1⟩ : ∃ m1, m1 = m + 1 := ⟨_, rfl⟩
      rw [← hm1] at k2a t5 t6 t8
      have HM := Lib.hid (And.intro hm1 (And.intro hm (And.intro h7 hd)))
      have hltI : (i : Int) < (K : Int) := by omega
      have hmb1 : m1 ≤ 100 := by omega
      clear hm1 hm h7 hd hl2 hm2 kk hx h1 h2 h3 h4 h5 h6 hmb
      rcases hcase with rfl | ⟨hi0, hc⟩ | ⟨hi0, hc, hc2⟩
      case inl =>
        rw [Nat.zero_mul] at a0 a1
        go_wp2_with (first
          | (go_at_call 31; refine k2a.mono ?_; rintro e w4 ⟨v4, rfl, ho4, hb4⟩
             obtain ⟨g4, c4, rfl⟩ := owned_slice ho4 (by omega)
             have q4 := owns_cell2 ho4 (j := m) (v := .int .i64 (y : Int)) (by rw [List.getElem?_append_right (by unfold natsV; rw [List.length_map, HM.out.2.1]; exact Nat.le_refl _)]; unfold natsV; rw [List.length_map, HM.out.2.1, Nat.sub_self]; rfl)
             have H4 := Lib.hid hb4
             clear hb4 ho4 k2a)
          | fail)
        go_roundg (K - 0)
        case rel =>
          obtain ⟨hg, hA, he, hb⟩ := HR.out
          exact ⟨y, 1, y, rfl, by go_num, by omega, by omega, HM.out.2.2.1, fun _ => rfl, hb.trans (H4.out.mono hb.size)⟩
        case measure => have := HR.out.1; omega
      all_goals
        have hi1 : (0 : Int) < (i : Int) := by omega
        go_wp2_with (first
          | (go_at_call 31; refine k2a.mono ?_; rintro e w4 ⟨v4, rfl, ho4, hb4⟩
             obtain ⟨g4, c4, rfl⟩ := owned_slice ho4 (by omega)
             have q4 := owns_cell2 ho4 (j := m) (v := .int .i64 (y : Int)) (by rw [List.getElem?_append_right (by unfold natsV; rw [List.length_map, HM.out.2.1]; exact Nat.le_refl _)]; unfold natsV; rw [List.length_map, HM.out.2.1, Nat.sub_self]; rfl)
             have H4 := Lib.hid hb4
             clear hb4 ho4 k2a)
          | fail)
        go_roundg (K - i)
        case rel =>
          obtain ⟨hg, hA, he, hb⟩ := HR.out
          exact ⟨y, i + 1, y, rfl, by go_num, by omega, by omega, HM.out.2.2.1, fun _ => rfl, hb.trans (H4.out.mono hb.size)⟩
        case measure => have := HR.out.1; omega
    · have hd : decide ((i : Int) < (K : Int)) = false := by simp; omega
      have k3a := k3 wr (H.out.2.1.below (H3.out.2.trans (HR.out.2.2.2.mono H3.out.2.size)))
      obtain ⟨q, hq⟩ : ∃ q, q = decide (0 < K) := ⟨_, rfl⟩
      rw [← hq] at k3a
      have e0 : decide (0 < K) = q := hq.symm
      clear hq
      cases q
      all_goals
        go_wp2_with (first
          | (go_at_call 32; refine k3a.mono ?_; rintro e w4 ⟨rfl, hb4⟩; have H4 := Lib.hid hb4; clear hb4 k3a)
          | fail)
        obtain ⟨hg, hA, he, hb⟩ := HR.out
        have hB := H3.out.2.trans (hb.mono H3.out.2.size)
        exact bodyPost_ret (results_tmp rfl _ _ _) rfl ⟨rfl, hB.trans (H4.out.mono hB.size)⟩
set_option maxHeartbeats 1000000 in
set_option maxRecDepth 20000 in
theorem apart_out (ao : Option Addr) (N cap : Nat) (s : ByteArray) (w : World)
    (ks : ∀ w, Calls Try.prog 26 #[] w fun e w' => e = .returned (.bool true) ∧ Below w.heap.size w w')
    (kf : ∀ w', Below w.heap.size w w' → Calls Try.prog 27 #[.slice ao N cap, .string s] w' fun e w'' => e = .returned (.bool false) ∧ Below w'.heap.size w' w'') :
    Calls Try.prog 5 #[.slice ao N cap, .string s] w fun e w' => e = .returned (.bool true) ∧ Below w.heap.size w w' := by
  go_enter Try.func5, Try.ntmps5
  go_wp2_with (first
    | (go_at_call 26; refine (ks _).mono ?_; rintro e w1 ⟨rfl, hb1⟩; have H1 := Lib.hid hb1; clear hb1 ks)
    | (go_at_call 27; refine (kf _ H1.out).mono ?_; rintro e w2 ⟨rfl, hb2⟩; have H2 := Lib.hid hb2; clear hb2 kf)
    | fail)
  exact bodyPost_ret (results_tmp rfl _ _ _) rfl ⟨rfl, H1.out.trans (H2.out.mono H1.out.size)⟩
/-- The statement's function, at every input. -/
theorem matchApart_walk (w : World) (ao : Option Addr) (cap : Nat) (ts : List Nd) (_h63 : ts.length ≤ 9223372036854775807) (hL : ts.length ≤ 140737488355328 → Lies (.slice ao ts.length cap) ts w) (s : ByteArray) (_hs : s.size ≤ 140737488351232) :
    Calls Try.prog 5 #[.slice ao ts.length cap, .string s] w fun e w' => e = .returned (.bool true) ∧ Below w.heap.size w w' := by
  obtain ⟨q, hq, kf⟩ := few06_any ao cap ts s w hL
  cases q
  · exact apart_out ao _ cap s w shownM_any kf
  · obtain ⟨hN, hs, hL, T, hok, hts⟩ := hq rfl
    have hLn : (spansL s.data.toList T 0).length ≤ 2000010 := by
      have := goL_length (farG s.data.toList T) s.data.toList.length (2 * (s.data.toList.length + 1 - 0) + 2) 0 (-1)
      have e : s.data.toList.length = s.size := Array.length_toList
      unfold spansL
      omega
    exact apart_in ao _ cap (spansL s.data.toList T 0) T s w ts hs (by omega) hL (goL_apart _ _ _ _ _) shownM_any kf
      (fun w h => spans_any _ T ts s w hts hok (by omega) (by omega) h) (fun a w h => ends_any _ T ts s a w hts hok (by omega) (by omega) h) (fun w h => isM_any _ T ts s w hts hok (by omega) (by omega) h)
end Go.Proofs.Ytgffmbdbjbhocaa
