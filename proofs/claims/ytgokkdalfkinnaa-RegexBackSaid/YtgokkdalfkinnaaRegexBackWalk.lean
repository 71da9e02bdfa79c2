/- The statement RegexBack, walked: every text. Condition: the text is shorter than 2^47. -/
import Derived.Test.YtgokkdalfkinnaaReShown
import Derived.Test.YtgokkdalfkinnaaReRefRight
import Derived.Test.YtgokkdalfkinnaaReRefSame
namespace Go.Proofs.Ytgokkdalfkinnaa
open Go.RowKit Go.Lib

set_option maxHeartbeats 2000000 in
set_option maxRecDepth 20000 in
theorem back_long (s : ByteArray) (w : World) (h : 1500 < s.size) (hs : s.size ≤ 140737488351232) : Calls Try.prog 5 #[.string s] w fun e w' => e = .returned (.bool true) ∧ Below w.heap.size w w' := by
  have h1 : decide ((1500 : Int) < (s.size : Int)) = true := by simp; omega
  go_enter Try.func5, Try.ntmps5
  go_wp2_with (first
    | (go_at_call 9; refine (shownRe_any _).mono ?_; rintro e w1 ⟨rfl, hb1⟩)
    | fail)
  exact bodyPost_ret (results_tmp rfl _ _ _) rfl ⟨rfl, hb1⟩
set_option maxHeartbeats 2000000 in
set_option maxRecDepth 20000 in
theorem back_bad (s : ByteArray) (x : Int) (w : World) (h : ¬ 1500 < s.size) (hx : (x != 0) = true)
    (k1 : ∀ w, Calls Try.prog 10 #[.string s] w fun e w' => e = .returned (.tuple #[.slice none 0 0, .int .i64 x]) ∧ Below w.heap.size w w') :
    Calls Try.prog 5 #[.string s] w fun e w' => e = .returned (.bool true) ∧ Below w.heap.size w w' := by
  have h1 : decide ((1500 : Int) < (s.size : Int)) = false := by simp; omega
  go_enter Try.func5, Try.ntmps5
  go_wp2_with (first
    | (go_at_call 9; refine (shownRe_any _).mono ?_; rintro e w1 ⟨rfl, hb1⟩)
    | (go_at_call 10; refine (k1 _).mono ?_; rintro e w2 ⟨rfl, hb2⟩)
    | fail)
  exact bodyPost_ret (results_tmp rfl _ _ _) rfl ⟨rfl, hb1.trans (hb2.mono hb1.size)⟩
set_option maxHeartbeats 2000000 in
set_option maxRecDepth 20000 in
theorem back_deep (s X : ByteArray) (ys : List Nd) (w : World) (h : ¬ 1500 < s.size)
    (k1 : ∀ w, Calls Try.prog 10 #[.string s] w fun e w' => (∃ v, e = .returned (.tuple #[v, .int .i64 0]) ∧ Lies v ys w') ∧ Below w.heap.size w w')
    (k2 : ∀ v w, Lies v ys w → Calls Try.prog 19 #[v] w fun e w' => e = .returned (.string X) ∧ Below w.heap.size w w')
    (k3 : ∀ w, Calls Try.prog 10 #[.string X] w fun e w' => e = .returned (.tuple #[.slice none 0 0, .int .i64 7]) ∧ Below w.heap.size w w')
    (k4 : ∀ v w, Lies v ys w → Calls Try.prog 13 #[v] w fun e w' => e = .returned (.bool true) ∧ Below w.heap.size w w') :
    Calls Try.prog 5 #[.string s] w fun e w' => e = .returned (.bool true) ∧ Below w.heap.size w w' := by
  have h1 : decide ((1500 : Int) < (s.size : Int)) = false := by simp; omega
  go_enter Try.func5, Try.ntmps5
  go_wp2_with (first
    | (go_at_call 9; refine (shownRe_any _).mono ?_; rintro e w1 ⟨rfl, hb1⟩; have HB1 := Lib.hid hb1; clear hb1)
    | (go_at_call 10; first
        | (with_reducible refine (k1 _).mono ?_; rintro e w2 ⟨⟨v, rfl, hL⟩, hb2⟩; have HB2 := Lib.hid (HB1.out.trans (hb2.mono HB1.out.size)); have HL := Lib.hid hL; clear hb2 hL k1)
        | (with_reducible refine (k3 _).mono ?_; rintro e w4 ⟨rfl, hb4⟩; have HL4 := Lib.hid (HL3.out.below hb4); have HB4 := Lib.hid (HB3.out.trans (hb4.mono HB3.out.size)); clear hb4 k3))
    | (go_at_call 19; with_reducible refine (k2 _ _ HL.out).mono ?_; rintro e w3 ⟨rfl, hb3⟩; have HL3 := Lib.hid (HL.out.below hb3); have HB3 := Lib.hid (HB2.out.trans (hb3.mono HB2.out.size)); clear hb3 k2)
    | (go_at_call 13; with_reducible refine (k4 _ _ HL4.out).mono ?_; rintro e w5 ⟨rfl, hb5⟩; have HB5 := Lib.hid (HB4.out.trans (hb5.mono HB4.out.size)); clear hb5 k4)
    | fail)
  exact bodyPost_ret (results_tmp rfl _ _ _) rfl ⟨rfl, HB5.out⟩
set_option maxHeartbeats 2000000 in
set_option maxRecDepth 20000 in
theorem back_same (s X : ByteArray) (ys : List Nd) (w : World) (h : ¬ 1500 < s.size)
    (k1 : ∀ w, Calls Try.prog 10 #[.string s] w fun e w' => (∃ v, e = .returned (.tuple #[v, .int .i64 0]) ∧ Lies v ys w') ∧ Below w.heap.size w w')
    (k2 : ∀ v w, Lies v ys w → Calls Try.prog 19 #[v] w fun e w' => e = .returned (.string X) ∧ Below w.heap.size w w')
    (k3 : ∀ w, Calls Try.prog 10 #[.string X] w fun e w' => (∃ v, e = .returned (.tuple #[v, .int .i64 0]) ∧ Lies v ys w') ∧ Below w.heap.size w w')
    (k4 : ∀ v w, Lies v ys w → Calls Try.prog 13 #[v] w fun e w' => e = .returned (.bool true) ∧ Below w.heap.size w w')
    (k5 : ∀ u v w, Lies u ys w → Lies v ys w → Calls Try.prog 12 #[u, v] w fun e w' => e = .returned (.bool true) ∧ Below w.heap.size w w') :
    Calls Try.prog 5 #[.string s] w fun e w' => e = .returned (.bool true) ∧ Below w.heap.size w w' := by
  have h1 : decide ((1500 : Int) < (s.size : Int)) = false := by simp; omega
  go_enter Try.func5, Try.ntmps5
  go_wp2_with (first
    | (go_at_call 9; refine (shownRe_any _).mono ?_; rintro e w1 ⟨rfl, hb1⟩; have HB1 := Lib.hid hb1; clear hb1)
    | (go_at_call 10; first
        | (with_reducible refine (k1 _).mono ?_; rintro e w2 ⟨⟨v, rfl, hL⟩, hb2⟩; have HB2 := Lib.hid (HB1.out.trans (hb2.mono HB1.out.size)); have HL := Lib.hid hL; clear hb2 hL k1)
        | (with_reducible refine (k3 _).mono ?_; rintro e w4 ⟨⟨u, rfl, hL4⟩, hb4⟩; have HU4 := Lib.hid hL4; have HL4 := Lib.hid (HL3.out.below hb4); have HB4 := Lib.hid (HB3.out.trans (hb4.mono HB3.out.size)); clear hb4 hL4 k3))
    | (go_at_call 19; with_reducible refine (k2 _ _ HL.out).mono ?_; rintro e w3 ⟨rfl, hb3⟩; have HL3 := Lib.hid (HL.out.below hb3); have HB3 := Lib.hid (HB2.out.trans (hb3.mono HB2.out.size)); clear hb3 k2)
    | (go_at_call 13; with_reducible refine (k4 _ _ HL4.out).mono ?_; rintro e w5 ⟨rfl, hb5⟩; have HB5 := Lib.hid (HB4.out.trans (hb5.mono HB4.out.size)); have HL5 := Lib.hid (HL4.out.below hb5); have HU5 := Lib.hid (HU4.out.below hb5); clear hb5 k4)
    | (go_at_call 12; with_reducible refine (k5 _ _ _ HU5.out HL5.out).mono ?_; rintro e w6 ⟨rfl, hb6⟩; have HB6 := Lib.hid (HB5.out.trans (hb6.mono HB5.out.size)); clear hb6 k5)
    | fail)
  exact bodyPost_ret (results_tmp rfl _ _ _) rfl ⟨rfl, HB6.out⟩
theorem ev_pos {J : Job} {d n : Nat} {l : List UInt8} {r : Res} (h : Ev J d n l r) : ∀ e, r = .bad e → (e != 0) = true := by
  induction h with
  | all_ok _ _ _ ih => exact ih
  | allL_more _ _ _ _ ih => exact ih
  | cat_ok _ _ _ _ ih => exact ih
  | catL_more _ _ _ _ _ ih => exact ih
  | piece_ok _ _ _ ih => exact ih
  | pieceL_more _ _ _ ih => exact ih
  | all_bad _ ih => exact ih
  | allL_bad _ ih => exact ih
  | cat_bad _ _ ih => exact ih
  | catL_bad _ _ ih => exact ih
  | piece_bad _ ih => exact ih
  | atom_in _ _ ih => exact ih
  | _ => intro e he; cases he <;> rfl
theorem reads_pos {l : List UInt8} {r : Res} (h : Reads l r) : ∀ e, r = .bad e → (e != 0) = true := by
  cases h with
  | ok _ => intro e he; cases he
  | bad h => exact ev_pos h
  | more _ => intro e he; cases he; rfl
theorem regexBack_walk (s : ByteArray) (hs : s.size ≤ 140737488351232) (w : World) : Calls Try.prog 5 #[.string s] w fun e w' => e = .returned (.bool true) ∧ Below w.heap.size w w' := by
  by_cases h : 1500 < s.size
  · exact back_long s w h hs
  · obtain ⟨l, hl⟩ : ∃ l, s = ⟨l.toArray⟩ := ⟨s.data.toList, rfl⟩
    have hsz : s.size = l.length := by rw [hl]; simp [ByteArray.size]
    obtain ⟨r, hr, hgood⟩ := reads_tot l
    have k1 := fun w => readRe_any l r w (by omega) hr
    rw [← hl] at k1
    cases r with
    | bad e => exact back_bad s e w h (reads_pos hr e rfl) k1
    | ok t l' =>
      obtain ⟨hev, hok, hn⟩ := hgood t l' rfl
      have hlies : ∀ {B v w}, IsRow B (t.row 0) v w → Lies v (t.row 0) w := fun h => h.lies (by rw [Tr.row_length]; omega)
      have q1 : ∀ w, Calls Try.prog 10 #[.string s] w fun e w' => (∃ v, e = .returned (.tuple #[v, .int .i64 0]) ∧ Lies v (t.row 0) w') ∧ Below w.heap.size w w' := fun w => (k1 w).mono fun e w' ⟨⟨v, h1, h2⟩, h3⟩ => ⟨⟨v, h1, hlies h2⟩, h3⟩
      have q2 := fun v w (h : Lies v (t.row 0) w) => textRe_any v t w hok hn h (right_row t hok hn)
      have q4 := fun v w (h : Lies v (t.row 0) w) => refRight_tree v t w hok hn h
      have q5 : ∀ u v w, Lies u (t.row 0) w → Lies v (t.row 0) w → Calls Try.prog 12 #[u, v] w fun e w' => e = .returned (.bool true) ∧ Below w.heap.size w w' := fun u v w h1 h2 => by
        have h := same_any u v _ _ w h1 h2
        rwa [decide_eq_true rfl] at h
      have hlen := txtT_len t
      rcases back_reads t hok hn with h2 | h2
      · have k3 := fun w => readRe_any t.txt _ w (by omega) h2
        have q3 : ∀ w, Calls Try.prog 10 #[.string ⟨t.txt.toArray⟩] w fun e w' => (∃ v, e = .returned (.tuple #[v, .int .i64 0]) ∧ Lies v (t.row 0) w') ∧ Below w.heap.size w w' := fun w => (k3 w).mono fun e w' ⟨⟨v, h1, h2⟩, h3⟩ => ⟨⟨v, h1, hlies h2⟩, h3⟩
        exact back_same s _ _ w h q1 q2 q3 q4 q5
      · exact back_deep s _ _ w h q1 q2 (fun w => readRe_any t.txt _ w (by omega) h2) q4
end Go.Proofs.Ytgokkdalfkinnaa
