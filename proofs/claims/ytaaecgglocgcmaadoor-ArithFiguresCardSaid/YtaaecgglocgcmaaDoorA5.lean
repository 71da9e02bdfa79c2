/- Packed texts: ArithFiguresWalk. What each of them proves stands above its theorems; the conditions stand in these. -/
import Derived.Test.YtaaecgglocgcmaaDoorA3
namespace Go.Proofs.YtaaecgglocgcmaaDoor
open Go.RowKit Go.Lib

theorem rd_add : readA [97, 43, 98] = .ok (.bin .add (.name [97]) (.name [98])) [] := by rfl
theorem rd_sub : readA [97, 32, 45, 32, 98] = .ok (.bin .sub (.name [97]) (.name [98])) [] := by rfl
theorem rd_mul : readA [97, 42, 98] = .ok (.bin .mul (.name [97]) (.name [98])) [] := by rfl
theorem rd_lt : readA [97, 60, 98] = .ok (.bin .lt (.name [97]) (.name [98])) [] := by rfl
theorem rd_quo : readA [97, 47, 98] = .ok (.bin .quo (.name [97]) (.name [98])) [] := by rfl
theorem rd_rem : readA [97, 32, 37, 32, 98] = .ok (.bin .rem (.name [97]) (.name [98])) [] := by rfl
theorem ev_two (a b : Int) (m : Mk) (ha0 : -9223372036854775808 ≤ a) (ha1 : a ≤ 9223372036854775807) (hb0 : -9223372036854775808 ≤ b) (hb1 : b ≤ 9223372036854775807) (hm : idleA m a = false) : ev (valA (twoV a b)) (.bin m (.name [97]) (.name [98])) = opD m a b := by
  show (match valA (twoV a b) [97] with | .no x => Cm.no x | .is x => if idleA m x then opD m x 0 else match valA (twoV a b) [98] with | .no y => .no y | .is y => opD m x y) = _
  rw [two_a a b ha0 ha1, two_b a b hb0 hb1]
  simp only [hm]
  rfl
set_option maxHeartbeats 4000000 in
set_option maxRecDepth 100000 in
theorem arithFigures_walk (a : Int) (ha : -9223372036854775808 ≤ a ∧ a ≤ 9223372036854775807) (b : Int) (hb : -9223372036854775808 ≤ b ∧ b ≤ 9223372036854775807) (w : World) (hM : Marks w.heap.size w) :
    Calls Tryd.prog 7 #[.int .i64 a, .int .i64 b] w fun e w' => e = .returned (.bool true) ∧ Below w.heap.size w w' := by
  obtain ⟨ha0, ha1⟩ := ha
  obtain ⟨hb0, hb1⟩ := hb
  have kS := shownA_any w hM
  have kfa : ∀ w, Calls Tryd.prog 22 #[.int .i64 a] w fun e w' => e = .returned (.string (numB a)) ∧ Below w.heap.size w w' := fun w => figuresLaw_any a w ha0 ha1
  have kfb : ∀ w, Calls Tryd.prog 22 #[.int .i64 b] w fun e w' => e = .returned (.string (numB b)) ∧ Below w.heap.size w w' := fun w => figuresLaw_any b w hb0 hb1
  have START : Hid (∀ w1 : World, Below w.heap.size w w1 → StdA w w1.heap.size (twoC a b) (w1.alloc (.cells #[.string ⟨#[97]⟩, .string (numB a), .string ⟨#[98]⟩, .string (numB b)] 39))) := fun w1 hbl => std_start (xs := twoC a b) hM hbl rfl rfl
  have E := fun (g : Nat) (wr : World) (h : StdA w g (twoC a b) wr) => two_eval a b ha0 ha1 hb0 hb1 h
  have k1 : ∀ (g : Nat) (wr : World), StdA w g (twoC a b) wr → Calls Tryd.prog 13 #[.string ⟨#[97, 43, 98]⟩, .slice (some ⟨g, 0, none⟩) 2 2] wr fun e w' => e = .returned (.tuple #[.int .i64 (wrap64 (a + b)), .int .i64 0]) ∧ StdA w g (twoC a b) w' := fun g wr h => E g wr h [97, 43, 98] (wrap64 (a + b), 0) (eval_ok rd_add (ev_two a b .add ha0 ha1 hb0 hb1 rfl)) (by decide)
  have k2 : ∀ (g : Nat) (wr : World), StdA w g (twoC a b) wr → Calls Tryd.prog 13 #[.string ⟨#[97, 32, 45, 32, 98]⟩, .slice (some ⟨g, 0, none⟩) 2 2] wr fun e w' => e = .returned (.tuple #[.int .i64 (wrap64 (a - b)), .int .i64 0]) ∧ StdA w g (twoC a b) w' := fun g wr h => E g wr h [97, 32, 45, 32, 98] (wrap64 (a - b), 0) (eval_ok rd_sub (ev_two a b .sub ha0 ha1 hb0 hb1 rfl)) (by decide)
  have k3 : ∀ (g : Nat) (wr : World), StdA w g (twoC a b) wr → Calls Tryd.prog 13 #[.string ⟨#[97, 42, 98]⟩, .slice (some ⟨g, 0, none⟩) 2 2] wr fun e w' => e = .returned (.tuple #[.int .i64 (wrap64 (a * b)), .int .i64 0]) ∧ StdA w g (twoC a b) w' := fun g wr h => E g wr h [97, 42, 98] (wrap64 (a * b), 0) (eval_ok rd_mul (ev_two a b .mul ha0 ha1 hb0 hb1 rfl)) (by decide)
  obtain ⟨z, hz⟩ : ∃ z, z = tellA (decide (a < b)) := ⟨_, rfl⟩
  have k4 : ∀ (g : Nat) (wr : World), StdA w g (twoC a b) wr → Calls Tryd.prog 13 #[.string ⟨#[97, 60, 98]⟩, .slice (some ⟨g, 0, none⟩) 2 2] wr fun e w' => e = .returned (.tuple #[.int .i64 z, .int .i64 0]) ∧ StdA w g (twoC a b) w' := fun g wr h => E g wr h [97, 60, 98] (z, 0) (by rw [hz]; exact eval_ok rd_lt (ev_two a b .lt ha0 ha1 hb0 hb1 rfl)) (by decide)
  have hzb : (z == 1) = decide (a < b) := by rw [hz]; cases decide (a < b) <;> rfl
  clear hz
  by_cases hb00 : b = 0
  · have k5 : ∀ (g : Nat) (wr : World), StdA w g (twoC a b) wr → Calls Tryd.prog 13 #[.string ⟨#[97, 47, 98]⟩, .slice (some ⟨g, 0, none⟩) 2 2] wr fun e w' => e = .returned (.tuple #[.int .i64 0, .int .i64 4]) ∧ StdA w g (twoC a b) w' := fun g wr h => E g wr h [97, 47, 98] (0, 4) (eval_no rd_quo ((ev_two a b .quo ha0 ha1 hb0 hb1 rfl).trans (if_pos hb00))) (by decide)
    have k6 : ∀ (g : Nat) (wr : World), StdA w g (twoC a b) wr → Calls Tryd.prog 13 #[.string ⟨#[97, 32, 37, 32, 98]⟩, .slice (some ⟨g, 0, none⟩) 2 2] wr fun e w' => e = .returned (.tuple #[.int .i64 0, .int .i64 4]) ∧ StdA w g (twoC a b) w' := fun g wr h => E g wr h [97, 32, 37, 32, 98] (0, 4) (eval_no rd_rem ((ev_two a b .rem ha0 ha1 hb0 hb1 rfl).trans (if_pos hb00))) (by decide)
    have hbb : (b == 0) = true := by simpa using hb00
    generalize twoC a b = C at *
    generalize numB a = A at *
    generalize numB b = B at *
    clear E hb00 hM ha0 ha1 hb0 hb1
    go_enter Tryd.func7, Tryd.ntmps7
    go_wp2_with (first
      | (go_at_call 11; (with_reducible refine kS.mono ?_); rintro e w1 ⟨rfl, hbl⟩; have HB := Lib.hid hbl; clear hbl kS)
      | (go_at_call 22; first
          | ((with_reducible refine (kfa _).mono ?_); rintro e w2 ⟨rfl, hbl⟩; have HB2 := Lib.hid (HB.out.trans (hbl.mono HB.out.size)); clear hbl kfa)
          | ((with_reducible refine (kfb _).mono ?_); rintro e w3 ⟨rfl, hbl⟩; have hs := START.out w3 (HB2.out.trans (hbl.mono HB2.out.size)); clear hbl kfb))
      | (go_at_call 13; first
          | ((with_reducible refine (k1 _ _ (by assumption)).mono ?_); rintro e w4 ⟨rfl, hs2⟩; clear hs)
          | ((with_reducible refine (k2 _ _ (by assumption)).mono ?_); rintro e w5 ⟨rfl, hs3⟩; clear hs2)
          | ((with_reducible refine (k3 _ _ (by assumption)).mono ?_); rintro e w6 ⟨rfl, hs4⟩; clear hs3)
          | ((with_reducible refine (k4 _ _ (by assumption)).mono ?_); rintro e w7 ⟨rfl, hs5⟩; clear hs4)
          | ((with_reducible refine (k5 _ _ (by assumption)).mono ?_); rintro e w8 ⟨rfl, hs6⟩; clear hs5)
          | ((with_reducible refine (k6 _ _ (by assumption)).mono ?_); rintro e w9 ⟨rfl, hs7⟩; clear hs6)))
    go_ret
    exact ⟨rfl, hs7.2.2.2⟩
  · have k5 : ∀ (g : Nat) (wr : World), StdA w g (twoC a b) wr → Calls Tryd.prog 13 #[.string ⟨#[97, 47, 98]⟩, .slice (some ⟨g, 0, none⟩) 2 2] wr fun e w' => e = .returned (.tuple #[.int .i64 (wrap64 (a.tdiv b)), .int .i64 0]) ∧ StdA w g (twoC a b) w' := fun g wr h => E g wr h [97, 47, 98] (wrap64 (a.tdiv b), 0) (eval_ok rd_quo ((ev_two a b .quo ha0 ha1 hb0 hb1 rfl).trans (if_neg hb00))) (by decide)
    have k6 : ∀ (g : Nat) (wr : World), StdA w g (twoC a b) wr → Calls Tryd.prog 13 #[.string ⟨#[97, 32, 37, 32, 98]⟩, .slice (some ⟨g, 0, none⟩) 2 2] wr fun e w' => e = .returned (.tuple #[.int .i64 (a.tmod b), .int .i64 0]) ∧ StdA w g (twoC a b) w' := fun g wr h => E g wr h [97, 32, 37, 32, 98] (a.tmod b, 0) (eval_ok rd_rem ((ev_two a b .rem ha0 ha1 hb0 hb1 rfl).trans (if_neg hb00))) (by decide)
    have hbb : (b == 0) = false := by simpa using hb00
    generalize twoC a b = C at *
    generalize numB a = A at *
    generalize numB b = B at *
    clear E hM ha0 ha1 hb0 hb1
    go_enter Tryd.func7, Tryd.ntmps7
    go_wp2_with (first
      | (go_at_call 11; (with_reducible refine kS.mono ?_); rintro e w1 ⟨rfl, hbl⟩; have HB := Lib.hid hbl; clear hbl kS)
      | (go_at_call 22; first
          | ((with_reducible refine (kfa _).mono ?_); rintro e w2 ⟨rfl, hbl⟩; have HB2 := Lib.hid (HB.out.trans (hbl.mono HB.out.size)); clear hbl kfa)
          | ((with_reducible refine (kfb _).mono ?_); rintro e w3 ⟨rfl, hbl⟩; have hs := START.out w3 (HB2.out.trans (hbl.mono HB2.out.size)); clear hbl kfb))
      | (go_at_call 13; first
          | ((with_reducible refine (k1 _ _ (by assumption)).mono ?_); rintro e w4 ⟨rfl, hs2⟩; clear hs)
          | ((with_reducible refine (k2 _ _ (by assumption)).mono ?_); rintro e w5 ⟨rfl, hs3⟩; clear hs2)
          | ((with_reducible refine (k3 _ _ (by assumption)).mono ?_); rintro e w6 ⟨rfl, hs4⟩; clear hs3)
          | ((with_reducible refine (k4 _ _ (by assumption)).mono ?_); rintro e w7 ⟨rfl, hs5⟩; clear hs4)
          | ((with_reducible refine (k5 _ _ (by assumption)).mono ?_); rintro e w8 ⟨rfl, hs6⟩; clear hs5)
          | ((with_reducible refine (k6 _ _ (by assumption)).mono ?_); rintro e w9 ⟨rfl, hs7⟩; clear hs6)))
    go_ret
    exact ⟨rfl, hs7.2.2.2⟩
end Go.Proofs.YtaaecgglocgcmaaDoor
