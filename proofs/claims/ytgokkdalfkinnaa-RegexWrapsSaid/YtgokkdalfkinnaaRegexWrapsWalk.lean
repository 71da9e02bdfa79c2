/- The statement RegexWraps, walked: every two texts. Condition: they are shorter than 2^47. -/
import Derived.Test.YtgokkdalfkinnaaReShown
import Derived.Test.YtgokkdalfkinnaaReRefJoin
import Derived.Test.YtgokkdalfkinnaaReRefSame
import Derived.Test.YtgokkdalfkinnaaReWrap
namespace Go.Proofs.Ytgokkdalfkinnaa
open Go.RowKit Go.Lib

theorem bytes_join (l m : List UInt8) : (⟨l.toArray⟩ : ByteArray) ++ ⟨m.toArray⟩ = ⟨(l ++ m).toArray⟩ := by
  apply ByteArray.ext
  rw [ByteArray.data_append]
  simp
/-- What Read answers: an error's number, or none, and a row that can be read. -/
def Answers (X : ByteArray) (x : Int) (R : List Nd) : Prop := ∀ w, Calls Try.prog 10 #[.string X] w fun e w' => (∃ v, e = .returned (.tuple #[v, .int .i64 x]) ∧ Lies v R w') ∧ Below w.heap.size w w'
def Res.num : Res → Int
  | .ok _ _ => 0
  | .bad x => x
def Res.row : Res → List Nd
  | .ok t _ => t.row 0
  | .bad _ => []
theorem nil_lies (w : World) : Lies (.slice none 0 0) [] w := ⟨_, _, rfl, Nat.zero_le _, fun j n h => by simp at h⟩
theorem answers_any (l : List UInt8) (r : Res) (hl : l.length ≤ 70000000000000) (hr : Reads l r) (hz : ∀ t l', r = .ok t l' → t.size ≤ 2000) : Answers ⟨l.toArray⟩ r.num r.row := fun w => by
  refine (readRe_any l r w hl hr).mono ?_
  rintro e w' ⟨h, hb⟩
  refine ⟨?_, hb⟩
  cases r with
  | ok t l' =>
    obtain ⟨v, h1, h2⟩ := h
    exact ⟨v, h1, h2.lies (by rw [Tr.row_length]; have := hz t l' rfl; omega)⟩
  | bad x => exact ⟨_, h, nil_lies w'⟩

set_option maxHeartbeats 2000000 in
set_option maxRecDepth 20000 in
theorem wraps_long (s t : ByteArray) (w : World) (h : 900 < s.size + t.size) (hs : s.size ≤ 140737488351232) (ht : t.size ≤ 140737488351232) :
    Calls Try.prog 7 #[.string s, .string t] w fun e w' => e = .returned (.bool true) ∧ Below w.heap.size w w' := by
  have hI : IntKind.i64.wrap ((s.size : Int) + (t.size : Int)) = (s.size : Int) + t.size := IntWalk.i64_in _ (by omega)
  have h1 : decide ((900 : Int) < (s.size : Int) + (t.size : Int)) = true := by simp; omega
  go_enter Try.func7, Try.ntmps7
  go_wp2_with (first
    | (go_at_call 9; refine (shownRe_any _).mono ?_; rintro e w1 ⟨rfl, hb1⟩)
    | fail)
  exact bodyPost_ret (results_tmp rfl _ _ _) rfl ⟨rfl, hb1⟩

set_option maxHeartbeats 4000000 in
set_option maxRecDepth 20000 in
theorem wraps_up (s t : ByteArray) (e1 e2 e3 e4 : Int) (R1 R2 R3 R4 : List Nd) (w : World) (h : s.size + t.size ≤ 900)
    (k1 : Answers s e1 R1) (k2 : Answers ((⟨#[40]⟩ ++ s) ++ ⟨#[41]⟩) e2 R2) (k3 : Answers t e3 R3) (k4 : Answers ((((⟨#[40]⟩ ++ s) ++ ⟨#[41, 124, 40]⟩) ++ t) ++ ⟨#[41]⟩) e4 R4)
    (hc : (e1 != 0) = true ∨ ((e1 != 0) = false ∧ (e3 != 0) = true) ∨ ((e1 != 0) = false ∧ (e3 != 0) = false ∧ (e2 == 7) = true) ∨ ((e1 != 0) = false ∧ (e3 != 0) = false ∧ (e2 == 7) = false ∧ (e4 == 7) = true)) :
    Calls Try.prog 7 #[.string s, .string t] w fun e w' => e = .returned (.bool true) ∧ Below w.heap.size w w' := by
  have hI : IntKind.i64.wrap ((s.size : Int) + (t.size : Int)) = (s.size : Int) + t.size := IntWalk.i64_in _ (by omega)
  have h1 : decide ((900 : Int) < (s.size : Int) + (t.size : Int)) = false := by simp; omega
  have n1 : ¬ 9223372036854775807 < 1 + s.size := by omega
  have n2 : ¬ 9223372036854775807 < 1 + s.size + 1 := by omega
  have n3 : ¬ 9223372036854775807 < 1 + s.size + 3 := by omega
  have n4 : ¬ 9223372036854775807 < 1 + s.size + 3 + t.size := by omega
  have n5 : ¬ 9223372036854775807 < 1 + s.size + 3 + t.size + 1 := by omega
  unfold Answers at k1 k2 k3 k4
  rcases hc with c1 | ⟨c1, c3⟩ | ⟨c1, c3, c2⟩ | ⟨c1, c3, c2, c4⟩
  all_goals
    go_enter Try.func7, Try.ntmps7
    go_wp2_with (first
      | (go_at_call 9; refine (shownRe_any _).mono ?_; rintro e w1 ⟨rfl, hb1⟩; have HB1 := Lib.hid hb1; clear hb1)
      | (go_at_call 10; first
          | (with_reducible refine (k1 _).mono ?_; rintro e w2 ⟨⟨v1, rfl, hL⟩, hb2⟩; have HB2 := Lib.hid (HB1.out.trans (hb2.mono HB1.out.size)); clear hb2 hL k1)
          | (with_reducible refine (k2 _).mono ?_; rintro e w3 ⟨⟨v2, rfl, hL⟩, hb3⟩; have HB3 := Lib.hid (HB2.out.trans (hb3.mono HB2.out.size)); clear hb3 hL k2)
          | (with_reducible refine (k3 _).mono ?_; rintro e w4 ⟨⟨v3, rfl, hL⟩, hb4⟩; have HB4 := Lib.hid (HB3.out.trans (hb4.mono HB3.out.size)); clear hb4 hL k3)
          | (with_reducible refine (k4 _).mono ?_; rintro e w5 ⟨⟨v4, rfl, hL⟩, hb5⟩; have HB5 := Lib.hid (HB4.out.trans (hb5.mono HB4.out.size)); clear hb5 hL k4))
      | fail)
    exact bodyPost_ret (results_tmp rfl _ _ _) rfl ⟨rfl, HB5.out⟩
theorem same_yes (ys : List Nd) (u v : Value) (w : World) (h1 : Lies u ys w) (h2 : Lies v ys w) : Calls Try.prog 12 #[u, v] w fun e w' => e = .returned (.bool true) ∧ Below w.heap.size w w' := by
  have h := same_any u v _ _ w h1 h2
  rwa [decide_eq_true rfl] at h

set_option maxHeartbeats 4000000 in
set_option maxRecDepth 20000 in
theorem wraps_good (s t : ByteArray) (S T : Tr) (hT : T.ok) (w : World)
    (h : s.size + t.size ≤ 900)
    (k1 : Answers s 0 (S.row 0)) (k2 : Answers ((⟨#[40]⟩ ++ s) ++ ⟨#[41]⟩) 0 (S.row 0)) (k3 : Answers t 0 (T.row 0)) (k4 : Answers ((((⟨#[40]⟩ ++ s) ++ ⟨#[41, 124, 40]⟩) ++ t) ++ ⟨#[41]⟩) 0 ((Tr.two 3 S T).row 0))
    (hn : S.size + T.size < 2000) :
    Calls Try.prog 7 #[.string s, .string t] w fun e w' => e = .returned (.bool true) ∧ Below w.heap.size w w' := by
  have j1 := fun u v w (h1 : Lies u (S.row 0) w) (h2 : Lies v (T.row 0) w) => refJoin_trees u v S T w hT hn h1 h2
  have s1 := fun u v w (h1 : Lies u (S.row 0) w) (h2 : Lies v (S.row 0) w) => same_yes _ u v w h1 h2
  have s2 := fun u v w (h1 : Lies u ((Tr.two 3 S T).row 0) w) (h2 : Lies v ((Tr.two 3 S T).row 0) w) => same_yes _ u v w h1 h2
  have hI : IntKind.i64.wrap ((s.size : Int) + (t.size : Int)) = (s.size : Int) + t.size := IntWalk.i64_in _ (by omega)
  have h1 : decide ((900 : Int) < (s.size : Int) + (t.size : Int)) = false := by simp; omega
  have n1 : ¬ 9223372036854775807 < 1 + s.size := by omega
  have n2 : ¬ 9223372036854775807 < 1 + s.size + 1 := by omega
  have n3 : ¬ 9223372036854775807 < 1 + s.size + 3 := by omega
  have n4 : ¬ 9223372036854775807 < 1 + s.size + 3 + t.size := by omega
  have n5 : ¬ 9223372036854775807 < 1 + s.size + 3 + t.size + 1 := by omega
  unfold Answers at k1 k2 k3 k4
  go_enter Try.func7, Try.ntmps7
  go_wp2_with (first
    | (go_at_call 9; refine (shownRe_any _).mono ?_; rintro e w1 ⟨rfl, hb1⟩; have HB1 := Lib.hid hb1; clear hb1)
    | (go_at_call 10; first
        | (with_reducible refine (k1 _).mono ?_; rintro e w2 ⟨⟨v1, rfl, hL⟩, hb2⟩; have HB2 := Lib.hid (HB1.out.trans (hb2.mono HB1.out.size)); have HLA := Lib.hid hL; clear hb2 hL k1)
        | (with_reducible refine (k2 _).mono ?_; rintro e w3 ⟨⟨v2, rfl, hL⟩, hb3⟩; have HB3 := Lib.hid (HB2.out.trans (hb3.mono HB2.out.size)); have HA3 := Lib.hid (HLA.out.below hb3); have HB := Lib.hid hL; clear hb3 hL k2 HLA)
        | (with_reducible refine (k3 _).mono ?_; rintro e w4 ⟨⟨v3, rfl, hL⟩, hb4⟩; have HB4 := Lib.hid (HB3.out.trans (hb4.mono HB3.out.size)); have HA4 := Lib.hid (HA3.out.below hb4); have HB4' := Lib.hid (HB.out.below hb4); have HC := Lib.hid hL; clear hb4 hL k3 HA3 HB)
        | (with_reducible refine (k4 _).mono ?_; rintro e w5 ⟨⟨v4, rfl, hL⟩, hb5⟩; have HB5 := Lib.hid (HB4.out.trans (hb5.mono HB4.out.size)); have HA5 := Lib.hid (HA4.out.below hb5); have HBB5 := Lib.hid (HB4'.out.below hb5); have HC5 := Lib.hid (HC.out.below hb5); have HD := Lib.hid hL; clear hb5 hL k4 HA4 HB4' HC))
    | (go_at_call 18; refine (j1 _ _ _ HA5.out HC5.out).mono ?_; rintro e w6 ⟨⟨v5, rfl, hL⟩, hb6⟩; have HB6 := Lib.hid (HB5.out.trans (hb6.mono HB5.out.size)); have HA6 := Lib.hid (HA5.out.below hb6); have HBB6 := Lib.hid (HBB5.out.below hb6); have HD6 := Lib.hid (HD.out.below hb6); have HJ6 := Lib.hid hL; clear hb6 hL j1)
    | (go_at_call 12; first
        | (with_reducible refine (s1 _ _ _ HA6.out HBB6.out).mono ?_; rintro e w7 ⟨rfl, hb7⟩; have HB7 := Lib.hid (HB6.out.trans (hb7.mono HB6.out.size)); have HD7 := Lib.hid (HD6.out.below hb7); have HJ7 := Lib.hid (HJ6.out.below hb7); clear hb7 s1)
        | (with_reducible refine (s2 _ _ _ HD7.out HJ7.out).mono ?_; rintro e w8 ⟨rfl, hb8⟩; have HB8 := Lib.hid (HB7.out.trans (hb8.mono HB7.out.size))))
    | fail)
  exact bodyPost_ret (results_tmp rfl _ _ _) rfl ⟨rfl, HB8.out⟩

set_option maxHeartbeats 4000000 in
set_option maxRecDepth 20000 in
theorem wraps_big (s t : ByteArray) (S T : Tr) (e4 : Int) (R4 : List Nd) (w : World)
    (h : s.size + t.size ≤ 900)
    (k1 : Answers s 0 (S.row 0)) (k2 : Answers ((⟨#[40]⟩ ++ s) ++ ⟨#[41]⟩) 0 (S.row 0)) (k3 : Answers t 0 (T.row 0)) (k4 : Answers ((((⟨#[40]⟩ ++ s) ++ ⟨#[41, 124, 40]⟩) ++ t) ++ ⟨#[41]⟩) e4 R4)
    (hn : 2000 ≤ S.size + T.size) (c4 : (e4 == 7) = false) :
    Calls Try.prog 7 #[.string s, .string t] w fun e w' => e = .returned (.bool true) ∧ Below w.heap.size w w' := by
  have j1 := fun u v w (h1 : Lies u (S.row 0) w) (h2 : Lies v (T.row 0) w) => refJoin_big u v _ _ w (by rw [Tr.row_length, Tr.row_length]; exact hn) h1 h2
  have s1 := fun u v w (h1 : Lies u (S.row 0) w) (h2 : Lies v (S.row 0) w) => same_yes _ u v w h1 h2
  have s2 : True := trivial
  have hI : IntKind.i64.wrap ((s.size : Int) + (t.size : Int)) = (s.size : Int) + t.size := IntWalk.i64_in _ (by omega)
  have h1 : decide ((900 : Int) < (s.size : Int) + (t.size : Int)) = false := by simp; omega
  have n1 : ¬ 9223372036854775807 < 1 + s.size := by omega
  have n2 : ¬ 9223372036854775807 < 1 + s.size + 1 := by omega
  have n3 : ¬ 9223372036854775807 < 1 + s.size + 3 := by omega
  have n4 : ¬ 9223372036854775807 < 1 + s.size + 3 + t.size := by omega
  have n5 : ¬ 9223372036854775807 < 1 + s.size + 3 + t.size + 1 := by omega
  unfold Answers at k1 k2 k3 k4
  go_enter Try.func7, Try.ntmps7
  go_wp2_with (first
    | (go_at_call 9; refine (shownRe_any _).mono ?_; rintro e w1 ⟨rfl, hb1⟩; have HB1 := Lib.hid hb1; clear hb1)
    | (go_at_call 10; first
        | (with_reducible refine (k1 _).mono ?_; rintro e w2 ⟨⟨v1, rfl, hL⟩, hb2⟩; have HB2 := Lib.hid (HB1.out.trans (hb2.mono HB1.out.size)); have HLA := Lib.hid hL; clear hb2 hL k1)
        | (with_reducible refine (k2 _).mono ?_; rintro e w3 ⟨⟨v2, rfl, hL⟩, hb3⟩; have HB3 := Lib.hid (HB2.out.trans (hb3.mono HB2.out.size)); have HA3 := Lib.hid (HLA.out.below hb3); have HB := Lib.hid hL; clear hb3 hL k2 HLA)
        | (with_reducible refine (k3 _).mono ?_; rintro e w4 ⟨⟨v3, rfl, hL⟩, hb4⟩; have HB4 := Lib.hid (HB3.out.trans (hb4.mono HB3.out.size)); have HA4 := Lib.hid (HA3.out.below hb4); have HB4' := Lib.hid (HB.out.below hb4); have HC := Lib.hid hL; clear hb4 hL k3 HA3 HB)
        | (with_reducible refine (k4 _).mono ?_; rintro e w5 ⟨⟨v4, rfl, hL⟩, hb5⟩; have HB5 := Lib.hid (HB4.out.trans (hb5.mono HB4.out.size)); have HA5 := Lib.hid (HA4.out.below hb5); have HBB5 := Lib.hid (HB4'.out.below hb5); have HC5 := Lib.hid (HC.out.below hb5); have HD := Lib.hid hL; clear hb5 hL k4 HA4 HB4' HC))
    | (go_at_call 18; refine (j1 _ _ _ HA5.out HC5.out).mono ?_; rintro e w6 ⟨rfl, rfl⟩; have HB6 := HB5; have HA6 := HA5; have HBB6 := HBB5; clear j1)
    | (go_at_call 12; first
        | (with_reducible refine (s1 _ _ _ HA6.out HBB6.out).mono ?_; rintro e w7 ⟨rfl, hb7⟩; have HB7 := Lib.hid (HB6.out.trans (hb7.mono HB6.out.size)); clear hb7 s1))
    | fail)
  exact bodyPost_ret (results_tmp rfl _ _ _) rfl ⟨rfl, HB7.out⟩

theorem ev_nz {J : Job} {d n : Nat} {l : List UInt8} {r : Res} (h : Ev J d n l r) : ∀ e, r = .bad e → (e != 0) = true := by
  induction h with
  | all_ok _ _ _ ih => exact ih
  | allL_more _ _ _ _ ih => exact ih
  | cat_ok _ _ _ _ ih => exact ih
  | catL_more _ _ _ _ _ ih => exact ih
  | piece_ok _ _ _ ih => exact ih
  | pieceL_more _ _ _ ih => exact ih
  | all_bad _ ih => exact ih
  | allL_bad _ ih => exact ih
  | cat_bad _ _ ih => exact ih
  | catL_bad _ _ ih => exact ih
  | piece_bad _ ih => exact ih
  | atom_in _ _ ih => exact ih
  | _ => intro e he; cases he <;> rfl
theorem reads_nz {l : List UInt8} {r : Res} (h : Reads l r) : ∀ e, r = .bad e → (e != 0) = true := by
  cases h with
  | ok _ => intro e he; cases he
  | bad h => exact ev_nz h
  | more _ => intro e he; cases he; rfl

theorem regexWraps_walk (s : ByteArray) (hs : s.size ≤ 140737488351232) (t : ByteArray) (ht : t.size ≤ 140737488351232) (w : World) : Calls Try.prog 7 #[.string s, .string t] w fun e w' => e = .returned (.bool true) ∧ Below w.heap.size w w' := by
  by_cases h : 900 < s.size + t.size
  · exact wraps_long s t w h hs ht
  have h : s.size + t.size ≤ 900 := by omega
  obtain ⟨l, hl⟩ : ∃ l, s = ⟨l.toArray⟩ := ⟨s.data.toList, rfl⟩
  obtain ⟨m, hm⟩ : ∃ m, t = ⟨m.toArray⟩ := ⟨t.data.toList, rfl⟩
  have hsz : s.size = l.length := by rw [hl]; simp [ByteArray.size]
  have hmz : t.size = m.length := by rw [hm]; simp [ByteArray.size]
  have x2 : (⟨(40 :: (l ++ [41])).toArray⟩ : ByteArray) = (⟨#[40]⟩ ++ s) ++ ⟨#[41]⟩ := by
    rw [hl, show (⟨#[40]⟩ : ByteArray) = ⟨[40].toArray⟩ from rfl, show (⟨#[41]⟩ : ByteArray) = ⟨[41].toArray⟩ from rfl, bytes_join, bytes_join]
    simp
  have x4 : (⟨(40 :: (l ++ (41 :: 124 :: 40 :: (m ++ [41])))).toArray⟩ : ByteArray) = (((⟨#[40]⟩ ++ s) ++ ⟨#[41, 124, 40]⟩) ++ t) ++ ⟨#[41]⟩ := by
    rw [hl, hm, show (⟨#[40]⟩ : ByteArray) = ⟨[40].toArray⟩ from rfl, show (⟨#[41]⟩ : ByteArray) = ⟨[41].toArray⟩ from rfl, show (⟨#[41, 124, 40]⟩ : ByteArray) = ⟨[41, 124, 40].toArray⟩ from rfl, bytes_join, bytes_join, bytes_join, bytes_join]
    simp
  have l2 : (40 :: (l ++ [41])).length ≤ 70000000000000 := by simp; omega
  have l4 : (40 :: (l ++ (41 :: 124 :: 40 :: (m ++ [41])))).length ≤ 70000000000000 := by simp; omega
  obtain ⟨r1, h1, g1⟩ := reads_tot l
  obtain ⟨r2, h2, g2⟩ := reads_tot (40 :: (l ++ [41]))
  obtain ⟨r3, h3, g3⟩ := reads_tot m
  obtain ⟨r4, h4, g4⟩ := reads_tot (40 :: (l ++ (41 :: 124 :: 40 :: (m ++ [41]))))
  have a1 := answers_any l r1 (by omega) h1 fun t l' e => (g1 t l' e).2.2
  have a2 := answers_any _ r2 l2 h2 fun t l' e => (g2 t l' e).2.2
  have a3 := answers_any m r3 (by omega) h3 fun t l' e => (g3 t l' e).2.2
  have a4 := answers_any _ r4 l4 h4 fun t l' e => (g4 t l' e).2.2
  rw [← hl] at a1
  rw [x2] at a2
  rw [← hm] at a3
  rw [x4] at a4
  by_cases c1 : (r1.num != 0) = true
  · exact wraps_up s t _ _ _ _ _ _ _ _ w h a1 a2 a3 a4 (.inl c1)
  have c1 : (r1.num != 0) = false := by simpa using c1
  by_cases c3 : (r3.num != 0) = true
  · exact wraps_up s t _ _ _ _ _ _ _ _ w h a1 a2 a3 a4 (.inr (.inl ⟨c1, c3⟩))
  have c3 : (r3.num != 0) = false := by simpa using c3
  obtain ⟨S, l', rfl⟩ : ∃ S l', r1 = .ok S l' := by
    cases r1 with
    | ok S l' => exact ⟨S, l', rfl⟩
    | bad x => have := reads_nz h1 x rfl; rw [show (Res.bad x).num = x from rfl, this] at c1; cases c1
  obtain ⟨T, m', rfl⟩ : ∃ T m', r3 = .ok T m' := by
    cases r3 with
    | ok S l' => exact ⟨S, l', rfl⟩
    | bad x => have := reads_nz h3 x rfl; rw [show (Res.bad x).num = x from rfl, this] at c3; cases c3
  obtain ⟨hS, oS, zS⟩ := g1 S l' rfl
  obtain ⟨hT, oT, zT⟩ := g3 T m' rfl
  rcases wrap_one hS zS with q2 | q2
  · have b2 := answers_any _ _ l2 q2 fun t l' e => by cases e; exact zS
    rw [x2] at b2
    by_cases hn : S.size + T.size < 2000
    · rcases wrap_two hS hT hn with q4 | q4
      · have b4 := answers_any _ _ l4 q4 fun t l' e => by cases e; show S.size + T.size + 1 ≤ 2000; omega
        rw [x4] at b4
        exact wraps_good s t S T oT w h a1 b2 a3 b4 hn
      · have b4 := answers_any _ _ l4 q4 fun t l' e => by cases e
        rw [x4] at b4
        exact wraps_up s t _ _ _ _ _ _ _ _ w h a1 b2 a3 b4 (.inr (.inr (.inr ⟨c1, c3, rfl, rfl⟩)))
    · by_cases c4 : (r4.num == 7) = true
      · exact wraps_up s t _ _ _ _ _ _ _ _ w h a1 b2 a3 a4 (.inr (.inr (.inr ⟨c1, c3, rfl, c4⟩)))
      · exact wraps_big s t S T _ _ w h a1 b2 a3 a4 (by omega) (by simpa using c4)
  · have b2 := answers_any _ _ l2 q2 fun t l' e => by cases e
    rw [x2] at b2
    exact wraps_up s t _ _ _ _ _ _ _ _ w h a1 b2 a3 a4 (.inr (.inr (.inl ⟨c1, c3, rfl⟩)))
end Go.Proofs.Ytgokkdalfkinnaa
