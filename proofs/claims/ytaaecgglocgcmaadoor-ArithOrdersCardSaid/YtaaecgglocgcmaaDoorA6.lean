/- Packed texts: ArithOrdersWalk. What each of them proves stands above its theorems; the conditions stand in these. -/
import Derived.Test.YtaaecgglocgcmaaDoorA3
namespace Go.Proofs.YtaaecgglocgcmaaDoor
open Go.RowKit Go.Lib

theorem rd_o1 : readA [97, 43, 98, 42, 99] = .ok (.bin .add (.name [97]) (.bin .mul (.name [98]) (.name [99]))) [] := by rfl
theorem rd_o2 : readA [40, 97, 41, 43, 40, 98, 42, 99, 41] = .ok (.bin .add (.name [97]) (.bin .mul (.name [98]) (.name [99]))) [] := by rfl
theorem rd_o3 : readA [99, 42, 98, 43, 97] = .ok (.bin .add (.bin .mul (.name [99]) (.name [98])) (.name [97])) [] := by rfl
theorem rd_o4 : readA [97, 45, 98, 45, 99] = .ok (.bin .sub (.bin .sub (.name [97]) (.name [98])) (.name [99])) [] := by rfl
theorem three_a (a b c : Int) (h0 : -9223372036854775808 ≤ a) (h1 : a ≤ 9223372036854775807) : valA (threeV a b c) [97] = .is a := by
  show numA (numB a).data.toList = .is a
  exact numB_num a h0 h1
theorem three_b (a b c : Int) (h0 : -9223372036854775808 ≤ b) (h1 : b ≤ 9223372036854775807) : valA (threeV a b c) [98] = .is b := by
  show numA (numB b).data.toList = .is b
  exact numB_num b h0 h1
theorem three_c (a b c : Int) (h0 : -9223372036854775808 ≤ c) (h1 : c ≤ 9223372036854775807) : valA (threeV a b c) [99] = .is c := by
  show numA (numB c).data.toList = .is c
  exact numB_num c h0 h1
theorem ev_bin {V : List UInt8 → Cm} {m : Mk} {x y : Ex} {a b : Int} (hx : ev V x = .is a) (hy : ev V y = .is b) (hm : idleA m a = false) : ev V (.bin m x y) = opD m a b := by
  show (match ev V x with | .no x => Cm.no x | .is x => if idleA m x then opD m x 0 else match ev V y with | .no y => .no y | .is y => opD m x y) = _
  rw [hx, hy]
  simp only [hm]
  rfl
set_option maxHeartbeats 4000000 in
set_option maxRecDepth 100000 in
theorem arithOrders_walk (a : Int) (ha : -9223372036854775808 ≤ a ∧ a ≤ 9223372036854775807) (b : Int) (hb : -9223372036854775808 ≤ b ∧ b ≤ 9223372036854775807) (c : Int) (hc : -9223372036854775808 ≤ c ∧ c ≤ 9223372036854775807) (w : World) (hM : Marks w.heap.size w) :
    Calls Tryd.prog 8 #[.int .i64 a, .int .i64 b, .int .i64 c] w fun e w' => e = .returned (.bool true) ∧ Below w.heap.size w w' := by
  obtain ⟨ha0, ha1⟩ := ha
  obtain ⟨hb0, hb1⟩ := hb
  obtain ⟨hc0, hc1⟩ := hc
  have kS := shownA_any w hM
  have kfa : ∀ w, Calls Tryd.prog 22 #[.int .i64 a] w fun e w' => e = .returned (.string (numB a)) ∧ Below w.heap.size w w' := fun w => figuresLaw_any a w ha0 ha1
  have kfb : ∀ w, Calls Tryd.prog 22 #[.int .i64 b] w fun e w' => e = .returned (.string (numB b)) ∧ Below w.heap.size w w' := fun w => figuresLaw_any b w hb0 hb1
  have kfc : ∀ w, Calls Tryd.prog 22 #[.int .i64 c] w fun e w' => e = .returned (.string (numB c)) ∧ Below w.heap.size w w' := fun w => figuresLaw_any c w hc0 hc1
  have START : Hid (∀ w1 : World, Below w.heap.size w w1 → StdA w w1.heap.size (threeC a b c) (w1.alloc (.cells #[.string ⟨#[97]⟩, .string (numB a), .string ⟨#[98]⟩, .string (numB b), .string ⟨#[99]⟩, .string (numB c)] 39))) := fun w1 hbl => std_start (xs := threeC a b c) hM hbl rfl rfl
  have E := fun (g : Nat) (wr : World) (h : StdA w g (threeC a b c) wr) => three_eval a b c ha0 ha1 hb0 hb1 hc0 hc1 h
  have va := three_a a b c ha0 ha1
  have vb := three_b a b c hb0 hb1
  have vc := three_c a b c hc0 hc1
  obtain ⟨x, hx⟩ : ∃ x, x = wrap64 (a + wrap64 (b * c)) := ⟨_, rfl⟩
  have e1 : ev (valA (threeV a b c)) (.bin .add (.name [97]) (.bin .mul (.name [98]) (.name [99]))) = .is x := by
    rw [hx]; exact ev_bin (V := valA (threeV a b c)) va (ev_bin (V := valA (threeV a b c)) vb vc rfl) rfl
  have e3 : ev (valA (threeV a b c)) (.bin .add (.bin .mul (.name [99]) (.name [98])) (.name [97])) = .is x := by
    rw [hx, Int.mul_comm b c, Int.add_comm]; exact ev_bin (V := valA (threeV a b c)) (ev_bin (V := valA (threeV a b c)) vc vb rfl) va rfl
  have e4 : ev (valA (threeV a b c)) (.bin .sub (.bin .sub (.name [97]) (.name [98])) (.name [99])) = .is (wrap64 (wrap64 (a - b) - c)) :=
    ev_bin (V := valA (threeV a b c)) (ev_bin (V := valA (threeV a b c)) va vb rfl) vc rfl
  have k1 : ∀ (g : Nat) (wr : World), StdA w g (threeC a b c) wr → Calls Tryd.prog 13 #[.string ⟨#[97, 43, 98, 42, 99]⟩, .slice (some ⟨g, 0, none⟩) 3 3] wr fun e w' => e = .returned (.tuple #[.int .i64 x, .int .i64 0]) ∧ StdA w g (threeC a b c) w' := fun g wr h => E g wr h [97, 43, 98, 42, 99] (x, 0) (eval_ok rd_o1 e1) (by decide)
  have k2 : ∀ (g : Nat) (wr : World), StdA w g (threeC a b c) wr → Calls Tryd.prog 13 #[.string ⟨#[40, 97, 41, 43, 40, 98, 42, 99, 41]⟩, .slice (some ⟨g, 0, none⟩) 3 3] wr fun e w' => e = .returned (.tuple #[.int .i64 x, .int .i64 0]) ∧ StdA w g (threeC a b c) w' := fun g wr h => E g wr h [40, 97, 41, 43, 40, 98, 42, 99, 41] (x, 0) (eval_ok rd_o2 e1) (by decide)
  have k3 : ∀ (g : Nat) (wr : World), StdA w g (threeC a b c) wr → Calls Tryd.prog 13 #[.string ⟨#[99, 42, 98, 43, 97]⟩, .slice (some ⟨g, 0, none⟩) 3 3] wr fun e w' => e = .returned (.tuple #[.int .i64 x, .int .i64 0]) ∧ StdA w g (threeC a b c) w' := fun g wr h => E g wr h [99, 42, 98, 43, 97] (x, 0) (eval_ok rd_o3 e3) (by decide)
  have k4 : ∀ (g : Nat) (wr : World), StdA w g (threeC a b c) wr → Calls Tryd.prog 13 #[.string ⟨#[97, 45, 98, 45, 99]⟩, .slice (some ⟨g, 0, none⟩) 3 3] wr fun e w' => e = .returned (.tuple #[.int .i64 (wrap64 (wrap64 (a - b) - c)), .int .i64 0]) ∧ StdA w g (threeC a b c) w' := fun g wr h => E g wr h [97, 45, 98, 45, 99] (wrap64 (wrap64 (a - b) - c), 0) (eval_ok rd_o4 e4) (by decide)
  generalize threeC a b c = C at *
  generalize numB a = A at *
  generalize numB b = B at *
  generalize numB c = D at *
  clear E hM ha0 ha1 hb0 hb1 hc0 hc1 e1 e3 e4 va vb vc hx
  go_enter Tryd.func8, Tryd.ntmps8
  go_wp2_with (first
    | (go_at_call 11; (with_reducible refine kS.mono ?_); rintro e w1 ⟨rfl, hbl⟩; have HB := Lib.hid hbl; clear hbl kS)
    | (go_at_call 22; first
        | ((with_reducible refine (kfa _).mono ?_); rintro e w2 ⟨rfl, hbl⟩; have HB2 := Lib.hid (HB.out.trans (hbl.mono HB.out.size)); clear hbl kfa)
        | ((with_reducible refine (kfb _).mono ?_); rintro e w3 ⟨rfl, hbl⟩; have HB3 := Lib.hid (HB2.out.trans (hbl.mono HB2.out.size)); clear hbl kfb)
        | ((with_reducible refine (kfc _).mono ?_); rintro e w3 ⟨rfl, hbl⟩; have hs := START.out w3 (HB3.out.trans (hbl.mono HB3.out.size)); clear hbl kfc))
    | (go_at_call 13; first
        | ((with_reducible refine (k1 _ _ (by assumption)).mono ?_); rintro e w4 ⟨rfl, hs2⟩; clear hs)
        | ((with_reducible refine (k2 _ _ (by assumption)).mono ?_); rintro e w5 ⟨rfl, hs3⟩; clear hs2)
        | ((with_reducible refine (k3 _ _ (by assumption)).mono ?_); rintro e w6 ⟨rfl, hs4⟩; clear hs3)
        | ((with_reducible refine (k4 _ _ (by assumption)).mono ?_); rintro e w7 ⟨rfl, hs5⟩; clear hs4)))
  go_ret
  exact ⟨rfl, hs5.2.2.2⟩
end Go.Proofs.YtaaecgglocgcmaaDoor
