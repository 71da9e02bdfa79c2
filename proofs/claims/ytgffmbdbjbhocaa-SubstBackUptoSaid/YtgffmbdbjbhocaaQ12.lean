/- Packed texts: SubstTextsWalk. What each of them proves stands above its theorems; the conditions stand in these. -/
import Derived.Test.YtgffmbdbjbhocaaQ9
import Derived.Test.YtgffmbdbjbhocaaQ10
import Derived.Test.YtgffmbdbjbhocaaQ11
namespace Go.Proofs.Ytgffmbdbjbhocaa
open Go.RowKit Go.Lib

theorem readR_count : ∀ (f : Nat) (l : List UInt8) (acc : List (List UInt8)) (now : List UInt8) (ys : List (List UInt8)), readR f l acc now = some ys → ys.length ≤ acc.length + f := by
  intro f
  induction f with
  | zero => intro l acc now ys h; cases h
  | succ f ih =>
    intro l acc now ys h
    by_cases hl : l = []
    · subst hl
      rw [readR_end] at h
      cases h
      rw [List.length_append]
      simp
    · cases hst : stepR l with
      | none => rw [readR_bad hl hst] at h; cases h
      | some p =>
        obtain ⟨o, n⟩ := p
        cases o with
        | none =>
          rw [readR_place hl hst] at h
          have := ih _ _ _ _ h
          rw [List.length_append] at this
          simp at this
          omega
        | some c =>
          rw [readR_byte hl hst] at h
          have := ih _ _ _ _ h
          omega
theorem read_count {l : List UInt8} {ys : List (List UInt8)} (h : readD' l = some ys) : ys.length ≤ l.length + 1 := by
  have := readR_count _ _ _ _ _ h
  simpa using this
theorem read_same (s : ByteArray) (hs : s.size ≤ 1000000000) : ∃ (M : Nat) (E : Int) (ys : List ByteArray),
    (∀ w, Calls Try.prog 39 #[.string s] w fun e w' => ∃ ao cap, e = .returned (.tuple #[.slice ao M cap, .int .i64 E]) ∧ Strs (.slice ao M cap) ys w' ∧ Below w.heap.size w w') ∧
    (∀ w, Calls Try.prog 40 #[.string s] w fun e w' => ∃ ao cap, e = .returned (.tuple #[.slice ao M cap, .int .i64 E]) ∧ Strs (.slice ao M cap) ys w' ∧ Below w.heap.size w w') := by
  have k1 := fun w => suRead_walk s w hs
  have k2 := fun w => refRead7_walk s w hs
  have hz : ∀ ys, readD' s.data.toList = some ys → ys.length ≤ 140737488355328 := fun ys h => by
    have := read_count h
    have hl : s.data.toList.length = s.size := Array.length_toList
    omega
  cases hr : readD' s.data.toList with
  | none =>
    rw [hr] at k1 k2
    exact ⟨0, 2, [], fun w => (k1 w).mono fun e w' h => ⟨none, 0, h.1, Strs.nil w', h.2⟩, fun w => (k2 w).mono fun e w' h => ⟨none, 0, h.1, Strs.nil w', h.2⟩⟩
  | some ys =>
    rw [hr] at k1 k2
    have hl := hz ys hr
    have go : ∀ (w w' : World) (e : Ending), ReadA w.heap.size (some ys) e w' ∧ Below w.heap.size w w' → ∃ ao cap, e = .returned (.tuple #[.slice ao ys.length cap, .int .i64 0]) ∧ Strs (.slice ao ys.length cap) (ys.map mkB) w' ∧ Below w.heap.size w w' := fun w w' e h => by
      obtain ⟨⟨v, rfl, ho⟩, hb⟩ := h
      obtain ⟨ao, cap, rfl⟩ := own_zeroB ho
      exact ⟨ao, cap, rfl, strs_of_owns ho (by rw [List.length_map]) hl, hb⟩
    exact ⟨ys.length, 0, ys.map mkB, fun w => (k1 w).mono fun e w' h => go w w' e h, fun w => (k2 w).mono fun e w' h => go w w' e h⟩
theorem flatB_size (x : ByteArray) : (flatB x).size ≤ 4 * x.size := by
  have h1 := (flatP_len x.data.toList).2
  have h2 : x.data.toList.length = x.size := Array.length_toList
  show (flatP x.data.toList).toArray.size ≤ _
  rw [List.size_toArray]
  omega
theorem flat_sum : ∀ xs : List ByteArray, ((xs.map flatB).map (·.size)).sum ≤ 4 * (xs.map (·.size)).sum
  | [] => by simp
  | x :: xs => by
    have h1 := flat_sum xs
    have h2 := flatB_size x
    rw [List.map_cons, List.map_cons, List.sum_cons, List.map_cons, List.sum_cons]
    omega
theorem size_sum {x : ByteArray} : ∀ {xs : List ByteArray}, x ∈ xs → x.size ≤ (xs.map (·.size)).sum
  | y :: xs, h => by
    rw [List.map_cons, List.sum_cons]
    rcases List.mem_cons.1 h with rfl | h
    · omega
    · have := size_sum h
      omega
theorem text_few {xs : List ByteArray} (h : longN xs ≤ 500) : (textB xs).size ≤ 3000 := by
  unfold longN at h
  have h1 := join_le (xs.map flatB) ⟨#[38]⟩
  have h2 := flat_sum xs
  rw [List.length_map] at h1
  have h3 : (⟨#[38]⟩ : ByteArray).size = 1 := rfl
  rw [h3] at h1
  unfold textB
  omega
theorem put_few {xs : List ByteArray} {what : ByteArray} (h : longN xs ≤ 500) (hw : what.size ≤ 2000) : (joinB xs what).size ≤ 2000000 := by
  unfold longN at h
  have h1 := join_le xs what
  have h2 : xs.length * what.size ≤ 500 * 2000 := Nat.mul_le_mul (by omega) hw
  omega
set_option maxHeartbeats 1000000 in
set_option maxRecDepth 20000 in
theorem texts_out (al : Option Addr) (M cl : Nat) (s what : ByteArray) (xs : List ByteArray) (w : World) (hs : s.size ≤ 140737488351232) (hw : what.size ≤ 140737488351232) (hX : Strs (.slice al M cl) xs w) (hz : longN xs ≤ 9223372036854775807)
    (h : 2000 < s.size + what.size ∨ (s.size + what.size ≤ 2000 ∧ 500 < longN xs)) :
    Calls Try.prog 9 #[.string s, .slice al M cl, .string what] w fun e w' => e = .returned (.bool true) ∧ Below w.heap.size w w' := by
  have ks := fun w => shownS_any w
  have kl := fun w h => refLong_any (.slice al M cl) xs w h hz
  obtain ⟨L, hL⟩ : ∃ L, L = longN xs := ⟨_, rfl⟩
  have hA : IntKind.i64.wrap ((s.size : Int) + (what.size : Int)) = ((s.size + what.size : Nat) : Int) := by rw [IntWalk.i64_in _ (by omega)]; omega
  rw [← hL] at kl h hz
  have H := Lib.hid hX
  clear hX hL
  obtain ⟨S, hS⟩ : ∃ S, S = s.size + what.size := ⟨_, rfl⟩
  rw [← hS] at hA h
  clear hS
  rcases h with h | ⟨h, h2⟩
  · have h1 : decide ((2000 : Int) < (S : Int)) = true := by simp; omega
    go_enter Try.func9, Try.ntmps9
    go_wp2_with (first
      | (go_at_call 37; refine (ks _).mono ?_; rintro e w1 ⟨rfl, hb1⟩; have H1 := Lib.hid hb1; clear hb1 ks)
      | fail)
    exact bodyPost_ret (results_tmp rfl _ _ _) rfl ⟨rfl, H1.out⟩
  · have h1 : decide ((2000 : Int) < (S : Int)) = false := by simp; omega
    have h3 : decide ((500 : Int) < (L : Int)) = true := by simp; omega
    go_enter Try.func9, Try.ntmps9
    go_wp2_with (first
      | (go_at_call 37; refine (ks _).mono ?_; rintro e w1 ⟨rfl, hb1⟩; have H1 := Lib.hid hb1; clear hb1 ks)
      | (go_at_call 38; refine (kl _ (H.out.below (by first | exact H1.out | exact H1.out.drew))).mono ?_; rintro e w2 ⟨rfl, rfl⟩; clear kl)
      | fail)
    exact bodyPost_ret (results_tmp rfl _ _ _) rfl ⟨rfl, by first | exact H1.out | exact H1.out.drew⟩
set_option maxHeartbeats 4000000 in
set_option maxRecDepth 100000 in
theorem texts_in (al : Option Addr) (M cl : Nat) (s what : ByteArray) (xs : List ByteArray) (w : World) (hX : Strs (.slice al M cl) xs w) (h : s.size + what.size ≤ 2000) (h2 : longN xs ≤ 500) :
    Calls Try.prog 9 #[.string s, .slice al M cl, .string what] w fun e w' => e = .returned (.bool true) ∧ Below w.heap.size w w' := by
  have ks := fun w => shownS_any w
  have kl := fun w h => refLong_any (.slice al M cl) xs w h (by omega)
  obtain ⟨m, E, ys, kr1, kr2⟩ := read_same s (by omega)
  have hlen : xs.length ≤ 500 := by unfold longN at h2; omega
  have hxs : ∀ x ∈ xs, x.size ≤ 1000000000 := fun x hx => by have := size_sum hx; unfold longN at h2; omega
  have kt1 := fun w h => text7_any (.slice al M cl) xs w h (by omega) hxs (by have := text_few h2; omega)
  have kt2 := fun w h => refText7_any (.slice al M cl) xs w h (by have := text_few h2; omega)
  have kp1 := fun w h => putS_any (.slice al M cl) xs what w h (by have := put_few h2 (show what.size ≤ 2000 by omega); omega)
  have kp2 := fun w h => refPut_any (.slice al M cl) xs what w h (by have := put_few h2 (show what.size ≤ 2000 by omega); omega)
  obtain ⟨L, hL⟩ : ∃ L, L = longN xs := ⟨_, rfl⟩
  have hA : IntKind.i64.wrap ((s.size : Int) + (what.size : Int)) = ((s.size + what.size : Nat) : Int) := by rw [IntWalk.i64_in _ (by omega)]; omega
  rw [← hL] at kl h2
  obtain ⟨T, hT⟩ : ∃ T, T = textB xs := ⟨_, rfl⟩
  obtain ⟨P, hP⟩ : ∃ P, P = joinB xs what := ⟨_, rfl⟩
  rw [← hT] at kt1 kt2
  rw [← hP] at kp1 kp2
  have H := Lib.hid hX
  clear hX hL hT hP hxs hlen
  obtain ⟨S, hS⟩ : ∃ S, S = s.size + what.size := ⟨_, rfl⟩
  rw [← hS] at hA h
  clear hS
  have h1 : decide ((2000 : Int) < (S : Int)) = false := by simp; omega
  have h3 : decide ((500 : Int) < (L : Int)) = false := by simp; omega
  have ksm := fun (a1 a2 : Option Addr) (c1 c2 : Nat) (w : World) (g1 : Strs (.slice a1 m c1) ys w) (g2 : Strs (.slice a2 m c2) ys w) => refSameS_any (.slice a1 m c1) (.slice a2 m c2) ys ys w g1 g2
  have hdec : decide (ys = ys) = true := decide_eq_true rfl
  rw [hdec] at ksm
  clear hdec
  go_enter Try.func9, Try.ntmps9
  go_wp2_with (first
    | (go_at_call 37; refine (ks _).mono ?_; rintro e w1 ⟨rfl, hb1⟩; have H1 := Lib.hid hb1; clear hb1 ks)
    | (go_at_call 38; refine (kl _ (H.out.below H1.out)).mono ?_; rintro e w2 ⟨rfl, rfl⟩; clear kl)
    | (go_at_call 39; refine (kr1 _).mono ?_; rintro e w3 ⟨a1, c1, rfl, hs3, hb3⟩; have H3 := Lib.hid (And.intro hs3 (H1.out.trans (hb3.mono H1.out.size))); clear hs3 hb3 kr1)
    | (go_at_call 40; refine (kr2 _).mono ?_; rintro e w4 ⟨a2, c2, rfl, hs4, hb4⟩; have H4 := Lib.hid (And.intro (H3.out.1.below hb4) (And.intro hs4 (H3.out.2.trans (hb4.mono H3.out.2.size)))); clear hs4 hb4 kr2)
    | (go_at_call 41; refine (ksm _ _ _ _ _ H4.out.1 H4.out.2.1).mono ?_; rintro e w5 ⟨rfl, hb5⟩; have H5 := Lib.hid (H4.out.2.2.trans (hb5.mono H4.out.2.2.size)); clear hb5 ksm)
    | (go_at_call 42; refine (kt1 _ (H.out.below H5.out)).mono ?_; rintro e w6 ⟨rfl, hb6⟩; have H6 := Lib.hid (H5.out.trans (hb6.mono H5.out.size)); clear hb6 kt1)
    | (go_at_call 43; refine (kt2 _ (H.out.below H6.out)).mono ?_; rintro e w7 ⟨rfl, hb7⟩; have H7 := Lib.hid (H6.out.trans (hb7.mono H6.out.size)); clear hb7 kt2)
    | (go_at_call 44; refine (kp1 _ (H.out.below H7.out)).mono ?_; rintro e w8 ⟨rfl, hb8⟩; have H8 := Lib.hid (H7.out.trans (hb8.mono H7.out.size)); clear hb8 kp1)
    | (go_at_call 45; refine (kp2 _ (H.out.below H8.out)).mono ?_; rintro e w9 ⟨rfl, rfl⟩; clear kp2)
    | fail)
  exact bodyPost_ret (results_tmp rfl _ _ _) rfl ⟨by simp, H8.out⟩
/-- The statement's function, where the replacement's bytes are not too many to be counted. -/
theorem substTexts_walk (w : World) (s : ByteArray) (hs : s.size ≤ 140737488351232) (al : Option Addr) (cl : Nat) (xs : List ByteArray) (hX : Strs (.slice al xs.length cl) xs w) (hz : longN xs ≤ 9223372036854775807) (what : ByteArray) (hw : what.size ≤ 140737488351232) :
    Calls Try.prog 9 #[.string s, .slice al xs.length cl, .string what] w fun e w' => e = .returned (.bool true) ∧ Below w.heap.size w w' := by
  by_cases h1 : s.size + what.size ≤ 2000
  · by_cases h2 : longN xs ≤ 500
    · exact texts_in al _ cl s what xs w hX h1 h2
    · exact texts_out al _ cl s what xs w hs hw hX hz (.inr ⟨h1, by omega⟩)
  · exact texts_out al _ cl s what xs w hs hw hX hz (.inl (by omega))
end Go.Proofs.Ytgffmbdbjbhocaa
