/- Packed texts: UtHeld, UtRef3. What each of them proves stands above its theorems; the conditions stand in these. -/
import Derived.Laws.IdiomStrings
import Derived.Test.YtbodnhpjfdnjfaaGreatDoorShelf
import Derived.Test.YtbodnhpjfdnjfaaGreatDoorE9
import Derived.Test.YtbodnhpjfdnjfaaGreatDoorE13
import Derived.Test.YtbodnhpjfdnjfaaGreatDoorE14
namespace Go.Proofs.YtbodnhpjfdnjfaaGreatDoor
open Go.RowKit Go.Lib

theorem wholeU_any (s : ByteArray) (x : Int) (w : World) (hs : s.size ≤ 1000000) (h : wholeD s.data.toList = (x, (s.size : Int), 0)) : Calls Tryz.prog 181 #[.string s] w fun e w' => e = .returned (.tuple #[.int .i64 x, .bool true]) ∧ w' = w := by
  have k := whole_any s w (by omega)
  unfold wholeE at k
  rw [h] at k
  have K := Lib.hid k
  clear k h
  go_enter Tryz.func181, Tryz.ntmps181
  go_wp2_with (first
    | (go_at_call 222; with_reducible refine (K.out).mono ?_; rintro e w1 ⟨rfl, rfl⟩))
  go_ret2
  exact ⟨rfl, rfl⟩
set_option maxHeartbeats 2000000 in
set_option maxRecDepth 20000 in
theorem held1_any (kq o : Nat) (a b : ByteArray) (x y : Int) (q : Bool) (w : World) (ho : w.cell? ⟨o, 0, none⟩ = some (fnU kq)) (ha : a.size ≤ 1000000) (hb : b.size ≤ 1000000) (hx : wholeD a.data.toList = (x, (a.size : Int), 0)) (hy : wholeD b.data.toList = (y, (b.size : Int), 0))
    (he : ∀ xs W, (callFunc kq xs).run Tryz.prog W = .ok (.enter kq xs) W) (hq : ∀ W, Calls Tryz.prog kq #[.int .i64 (cmpI x y)] W fun e w' => e = .returned (.bool q) ∧ w' = W) :
    Calls Tryz.prog 180 #[.string a, .string b, .pointer (some ⟨o, 0, none⟩)] w fun e w' => e = .returned (resV ⟨#[]⟩ (if q then 0 else 1) 0) ∧ Below w.heap.size w w' := by
  have HR := Lib.hid (RI.start w)
  unfold fnU at ho
  have c0 := cell_later HR.out.below ho
  have k1 := Lib.hid (fun W => wholeU_any a x W ha hx)
  have k2 := Lib.hid (fun W => wholeU_any b y W hb hy)
  have k3 := Lib.hid (fun W => cmpI_any x y W)
  have k4 := Lib.hid hq
  have k5 := Lib.hid (fun W => asked_any q W)
  obtain ⟨v, hv⟩ : ∃ v : Int, (if q then 0 else 1) = v := ⟨_, rfl⟩
  rw [hv] at k5 ⊢
  clear ho hx hy hq hv ha hb
  generalize cmpI x y = c at k3 k4
  go_enter Tryz.func180, Tryz.ntmps180
  go_upto_region 5 with (first
    | (go_at_call 181; first
        | (with_reducible refine (k1.out _).mono ?_; rintro e w1 ⟨rfl, rfl⟩)
        | (with_reducible refine (k2.out _).mono ?_; rintro e w1 ⟨rfl, rfl⟩)))
  go_region_law (first
    | (go_simp; go_at_call 126; with_reducible refine (k3.out _).mono ?_; rintro e w1 ⟨rfl, rfl⟩)
    | (go_simp; go_at_fn kq; with_reducible refine (k4.out _).mono ?_; rintro e w1 ⟨rfl, rfl⟩)
    | (go_simp; go_at_call 37; with_reducible refine (k5.out _).mono ?_; rintro e w1 ⟨rfl, hb1⟩; unfold resV; obtain ⟨⟨y0, y1, y2⟩, f0, f1, f2⟩ := (HR.out.drew.later hb1).cells; have HR := Lib.hid (HR.out.drew.later hb1); clear hb1))
  all_goals
    go_wp2
    exact res_end (HR.out.put3 _ v 0) Tryz.results180 _ rfl rfl _ (fun hb => ⟨rfl, hb⟩)
theorem ord5 (c : Int) (hc : c = -1 ∨ c = 0 ∨ c = 1) (w : World) : Calls Tryz.prog 141 #[.int .i64 c] w fun e w' => e = .returned (.bool (c == 0)) ∧ w' = w := by
  rcases hc with rfl | rfl | rfl
  all_goals
    go_enter Tryz.func141, Tryz.ntmps141
    go_wp2
    go_ret
    exact ⟨rfl, rfl⟩
theorem ord6 (c : Int) (hc : c = -1 ∨ c = 0 ∨ c = 1) (w : World) : Calls Tryz.prog 142 #[.int .i64 c] w fun e w' => e = .returned (.bool (!(c == 0))) ∧ w' = w := by
  rcases hc with rfl | rfl | rfl
  all_goals
    go_enter Tryz.func142, Tryz.ntmps142
    go_wp2
    go_ret
    exact ⟨rfl, rfl⟩
theorem ord7 (c : Int) (hc : c = -1 ∨ c = 0 ∨ c = 1) (w : World) : Calls Tryz.prog 143 #[.int .i64 c] w fun e w' => e = .returned (.bool (decide (c < 0))) ∧ w' = w := by
  rcases hc with rfl | rfl | rfl
  all_goals
    go_enter Tryz.func143, Tryz.ntmps143
    go_wp2
    go_ret
    exact ⟨rfl, rfl⟩
theorem ord8 (c : Int) (hc : c = -1 ∨ c = 0 ∨ c = 1) (w : World) : Calls Tryz.prog 144 #[.int .i64 c] w fun e w' => e = .returned (.bool (decide (c ≤ 0))) ∧ w' = w := by
  rcases hc with rfl | rfl | rfl
  all_goals
    go_enter Tryz.func144, Tryz.ntmps144
    go_wp2
    go_ret
    exact ⟨rfl, rfl⟩
theorem ord9 (c : Int) (hc : c = -1 ∨ c = 0 ∨ c = 1) (w : World) : Calls Tryz.prog 145 #[.int .i64 c] w fun e w' => e = .returned (.bool (decide (0 < c))) ∧ w' = w := by
  rcases hc with rfl | rfl | rfl
  all_goals
    go_enter Tryz.func145, Tryz.ntmps145
    go_wp2
    go_ret
    exact ⟨rfl, rfl⟩
theorem ord10 (c : Int) (hc : c = -1 ∨ c = 0 ∨ c = 1) (w : World) : Calls Tryz.prog 146 #[.int .i64 c] w fun e w' => e = .returned (.bool (decide (0 ≤ c))) ∧ w' = w := by
  rcases hc with rfl | rfl | rfl
  all_goals
    go_enter Tryz.func146, Tryz.ntmps146
    go_wp2
    go_ret
    exact ⟨rfl, rfl⟩
theorem cmpI_three (x y : Int) : cmpI x y = -1 ∨ cmpI x y = 0 ∨ cmpI x y = 1 := by
  unfold cmpI
  split
  · exact .inl rfl
  · split
    · exact .inr (.inr rfl)
    · exact .inr (.inl rfl)
theorem run_eqI (bk : Nat) (a b inp : ByteArray) (x y : Int) (fuel : Int) (w : World) (hr : RowW w bk [⟨#[116, 101, 115, 116]⟩, a, ⟨#[45, 101, 113]⟩, b]) (ha : a.size ≤ 1000000) (hb : b.size ≤ 1000000) (hx : wholeD a.data.toList = (x, (a.size : Int), 0)) (hy : wholeD b.data.toList = (y, (b.size : Int), 0)) :
    Calls Tryz.prog 7 #[.slice (some ⟨bk, 0, none⟩) 4 4, .string inp, .int .i64 fuel] w fun en w' => en = .returned (runV ⟨#[]⟩ (if (fun c : Int => c == 0) (cmpI x y) then 0 else 1) fuel 0) ∧ Below w.heap.size w w' := by
  refine run_known bk 0 3 4 ⟨#[116, 101, 115, 116]⟩ inp _ _ 0 fuel w (hr 0 _ rfl) (by decide) (by decide) (by decide) (some ⟨bk, 1, none⟩) rfl ?_
  intro W h u d t i f hW hk
  refine ⟨49, #[], rfl, enters_of Tryz.func49 (by kernel_rfl) rfl, fun W1 hW1 => ?_⟩
  have hr1 := (hr.later hW).later hW1
  refine test3_any bk 1 3 a ⟨#[45, 101, 113]⟩ b _ _ 0 W1 (hr1 1 _ rfl) (hr1 2 _ rfl) (hr1 3 _ rfl) (by decide) (by decide) ?_
  intro W2 g0 hr2
  refine tabP_questions W2 _ _ _ (by decide) ?_
  intro W3 a1 b1 c1 d1 e1 f1 g1 h1 i1 j1 e2 f2 g2 h2 i2 j2 hW3 hk3
  refine ⟨120, #[.pointer (some ⟨e1, 0, none⟩)], rfl, ?_⟩
  have hk4 := hk3 (e2, fnU 141) (by simp [quKs])
  exact fnp_two 180 e1 g0 1 2 #[.pointer (some ⟨e2, 0, none⟩)] a b _ _ 0 W3 (hk3 (e1, cloV 180 e2) (by simp [quKs])) (hr2.later hW3 1 _ rfl) (hr2.later hW3 2 _ rfl)
    ⟨enters_of Tryz.func180 (by kernel_rfl) rfl, fun W4 h4 => held1_any 141 e2 a b x y _ W4 (cell_later h4 hk4) ha hb hx hy (enters_of Tryz.func141 (by kernel_rfl) rfl) (fun W => ord5 _ (cmpI_three x y) W)⟩
theorem run_neI (bk : Nat) (a b inp : ByteArray) (x y : Int) (fuel : Int) (w : World) (hr : RowW w bk [⟨#[116, 101, 115, 116]⟩, a, ⟨#[45, 110, 101]⟩, b]) (ha : a.size ≤ 1000000) (hb : b.size ≤ 1000000) (hx : wholeD a.data.toList = (x, (a.size : Int), 0)) (hy : wholeD b.data.toList = (y, (b.size : Int), 0)) :
    Calls Tryz.prog 7 #[.slice (some ⟨bk, 0, none⟩) 4 4, .string inp, .int .i64 fuel] w fun en w' => en = .returned (runV ⟨#[]⟩ (if (fun c : Int => !(c == 0)) (cmpI x y) then 0 else 1) fuel 0) ∧ Below w.heap.size w w' := by
  refine run_known bk 0 3 4 ⟨#[116, 101, 115, 116]⟩ inp _ _ 0 fuel w (hr 0 _ rfl) (by decide) (by decide) (by decide) (some ⟨bk, 1, none⟩) rfl ?_
  intro W h u d t i f hW hk
  refine ⟨49, #[], rfl, enters_of Tryz.func49 (by kernel_rfl) rfl, fun W1 hW1 => ?_⟩
  have hr1 := (hr.later hW).later hW1
  refine test3_any bk 1 3 a ⟨#[45, 110, 101]⟩ b _ _ 0 W1 (hr1 1 _ rfl) (hr1 2 _ rfl) (hr1 3 _ rfl) (by decide) (by decide) ?_
  intro W2 g0 hr2
  refine tabP_questions W2 _ _ _ (by decide) ?_
  intro W3 a1 b1 c1 d1 e1 f1 g1 h1 i1 j1 e2 f2 g2 h2 i2 j2 hW3 hk3
  refine ⟨120, #[.pointer (some ⟨f1, 0, none⟩)], rfl, ?_⟩
  have hk4 := hk3 (f2, fnU 142) (by simp [quKs])
  exact fnp_two 180 f1 g0 1 2 #[.pointer (some ⟨f2, 0, none⟩)] a b _ _ 0 W3 (hk3 (f1, cloV 180 f2) (by simp [quKs])) (hr2.later hW3 1 _ rfl) (hr2.later hW3 2 _ rfl)
    ⟨enters_of Tryz.func180 (by kernel_rfl) rfl, fun W4 h4 => held1_any 142 f2 a b x y _ W4 (cell_later h4 hk4) ha hb hx hy (enters_of Tryz.func142 (by kernel_rfl) rfl) (fun W => ord6 _ (cmpI_three x y) W)⟩
theorem run_ltI (bk : Nat) (a b inp : ByteArray) (x y : Int) (fuel : Int) (w : World) (hr : RowW w bk [⟨#[116, 101, 115, 116]⟩, a, ⟨#[45, 108, 116]⟩, b]) (ha : a.size ≤ 1000000) (hb : b.size ≤ 1000000) (hx : wholeD a.data.toList = (x, (a.size : Int), 0)) (hy : wholeD b.data.toList = (y, (b.size : Int), 0)) :
    Calls Tryz.prog 7 #[.slice (some ⟨bk, 0, none⟩) 4 4, .string inp, .int .i64 fuel] w fun en w' => en = .returned (runV ⟨#[]⟩ (if (fun c : Int => decide (c < 0)) (cmpI x y) then 0 else 1) fuel 0) ∧ Below w.heap.size w w' := by
  refine run_known bk 0 3 4 ⟨#[116, 101, 115, 116]⟩ inp _ _ 0 fuel w (hr 0 _ rfl) (by decide) (by decide) (by decide) (some ⟨bk, 1, none⟩) rfl ?_
  intro W h u d t i f hW hk
  refine ⟨49, #[], rfl, enters_of Tryz.func49 (by kernel_rfl) rfl, fun W1 hW1 => ?_⟩
  have hr1 := (hr.later hW).later hW1
  refine test3_any bk 1 3 a ⟨#[45, 108, 116]⟩ b _ _ 0 W1 (hr1 1 _ rfl) (hr1 2 _ rfl) (hr1 3 _ rfl) (by decide) (by decide) ?_
  intro W2 g0 hr2
  refine tabP_questions W2 _ _ _ (by decide) ?_
  intro W3 a1 b1 c1 d1 e1 f1 g1 h1 i1 j1 e2 f2 g2 h2 i2 j2 hW3 hk3
  refine ⟨120, #[.pointer (some ⟨g1, 0, none⟩)], rfl, ?_⟩
  have hk4 := hk3 (g2, fnU 143) (by simp [quKs])
  exact fnp_two 180 g1 g0 1 2 #[.pointer (some ⟨g2, 0, none⟩)] a b _ _ 0 W3 (hk3 (g1, cloV 180 g2) (by simp [quKs])) (hr2.later hW3 1 _ rfl) (hr2.later hW3 2 _ rfl)
    ⟨enters_of Tryz.func180 (by kernel_rfl) rfl, fun W4 h4 => held1_any 143 g2 a b x y _ W4 (cell_later h4 hk4) ha hb hx hy (enters_of Tryz.func143 (by kernel_rfl) rfl) (fun W => ord7 _ (cmpI_three x y) W)⟩
theorem run_leI (bk : Nat) (a b inp : ByteArray) (x y : Int) (fuel : Int) (w : World) (hr : RowW w bk [⟨#[116, 101, 115, 116]⟩, a, ⟨#[45, 108, 101]⟩, b]) (ha : a.size ≤ 1000000) (hb : b.size ≤ 1000000) (hx : wholeD a.data.toList = (x, (a.size : Int), 0)) (hy : wholeD b.data.toList = (y, (b.size : Int), 0)) :
    Calls Tryz.prog 7 #[.slice (some ⟨bk, 0, none⟩) 4 4, .string inp, .int .i64 fuel] w fun en w' => en = .returned (runV ⟨#[]⟩ (if (fun c : Int => decide (c ≤ 0)) (cmpI x y) then 0 else 1) fuel 0) ∧ Below w.heap.size w w' := by
  refine run_known bk 0 3 4 ⟨#[116, 101, 115, 116]⟩ inp _ _ 0 fuel w (hr 0 _ rfl) (by decide) (by decide) (by decide) (some ⟨bk, 1, none⟩) rfl ?_
  intro W h u d t i f hW hk
  refine ⟨49, #[], rfl, enters_of Tryz.func49 (by kernel_rfl) rfl, fun W1 hW1 => ?_⟩
  have hr1 := (hr.later hW).later hW1
  refine test3_any bk 1 3 a ⟨#[45, 108, 101]⟩ b _ _ 0 W1 (hr1 1 _ rfl) (hr1 2 _ rfl) (hr1 3 _ rfl) (by decide) (by decide) ?_
  intro W2 g0 hr2
  refine tabP_questions W2 _ _ _ (by decide) ?_
  intro W3 a1 b1 c1 d1 e1 f1 g1 h1 i1 j1 e2 f2 g2 h2 i2 j2 hW3 hk3
  refine ⟨120, #[.pointer (some ⟨h1, 0, none⟩)], rfl, ?_⟩
  have hk4 := hk3 (h2, fnU 144) (by simp [quKs])
  exact fnp_two 180 h1 g0 1 2 #[.pointer (some ⟨h2, 0, none⟩)] a b _ _ 0 W3 (hk3 (h1, cloV 180 h2) (by simp [quKs])) (hr2.later hW3 1 _ rfl) (hr2.later hW3 2 _ rfl)
    ⟨enters_of Tryz.func180 (by kernel_rfl) rfl, fun W4 h4 => held1_any 144 h2 a b x y _ W4 (cell_later h4 hk4) ha hb hx hy (enters_of Tryz.func144 (by kernel_rfl) rfl) (fun W => ord8 _ (cmpI_three x y) W)⟩
theorem run_gtI (bk : Nat) (a b inp : ByteArray) (x y : Int) (fuel : Int) (w : World) (hr : RowW w bk [⟨#[116, 101, 115, 116]⟩, a, ⟨#[45, 103, 116]⟩, b]) (ha : a.size ≤ 1000000) (hb : b.size ≤ 1000000) (hx : wholeD a.data.toList = (x, (a.size : Int), 0)) (hy : wholeD b.data.toList = (y, (b.size : Int), 0)) :
    Calls Tryz.prog 7 #[.slice (some ⟨bk, 0, none⟩) 4 4, .string inp, .int .i64 fuel] w fun en w' => en = .returned (runV ⟨#[]⟩ (if (fun c : Int => decide (0 < c)) (cmpI x y) then 0 else 1) fuel 0) ∧ Below w.heap.size w w' := by
  refine run_known bk 0 3 4 ⟨#[116, 101, 115, 116]⟩ inp _ _ 0 fuel w (hr 0 _ rfl) (by decide) (by decide) (by decide) (some ⟨bk, 1, none⟩) rfl ?_
  intro W h u d t i f hW hk
  refine ⟨49, #[], rfl, enters_of Tryz.func49 (by kernel_rfl) rfl, fun W1 hW1 => ?_⟩
  have hr1 := (hr.later hW).later hW1
  refine test3_any bk 1 3 a ⟨#[45, 103, 116]⟩ b _ _ 0 W1 (hr1 1 _ rfl) (hr1 2 _ rfl) (hr1 3 _ rfl) (by decide) (by decide) ?_
  intro W2 g0 hr2
  refine tabP_questions W2 _ _ _ (by decide) ?_
  intro W3 a1 b1 c1 d1 e1 f1 g1 h1 i1 j1 e2 f2 g2 h2 i2 j2 hW3 hk3
  refine ⟨120, #[.pointer (some ⟨i1, 0, none⟩)], rfl, ?_⟩
  have hk4 := hk3 (i2, fnU 145) (by simp [quKs])
  exact fnp_two 180 i1 g0 1 2 #[.pointer (some ⟨i2, 0, none⟩)] a b _ _ 0 W3 (hk3 (i1, cloV 180 i2) (by simp [quKs])) (hr2.later hW3 1 _ rfl) (hr2.later hW3 2 _ rfl)
    ⟨enters_of Tryz.func180 (by kernel_rfl) rfl, fun W4 h4 => held1_any 145 i2 a b x y _ W4 (cell_later h4 hk4) ha hb hx hy (enters_of Tryz.func145 (by kernel_rfl) rfl) (fun W => ord9 _ (cmpI_three x y) W)⟩
theorem run_geI (bk : Nat) (a b inp : ByteArray) (x y : Int) (fuel : Int) (w : World) (hr : RowW w bk [⟨#[116, 101, 115, 116]⟩, a, ⟨#[45, 103, 101]⟩, b]) (ha : a.size ≤ 1000000) (hb : b.size ≤ 1000000) (hx : wholeD a.data.toList = (x, (a.size : Int), 0)) (hy : wholeD b.data.toList = (y, (b.size : Int), 0)) :
    Calls Tryz.prog 7 #[.slice (some ⟨bk, 0, none⟩) 4 4, .string inp, .int .i64 fuel] w fun en w' => en = .returned (runV ⟨#[]⟩ (if (fun c : Int => decide (0 ≤ c)) (cmpI x y) then 0 else 1) fuel 0) ∧ Below w.heap.size w w' := by
  refine run_known bk 0 3 4 ⟨#[116, 101, 115, 116]⟩ inp _ _ 0 fuel w (hr 0 _ rfl) (by decide) (by decide) (by decide) (some ⟨bk, 1, none⟩) rfl ?_
  intro W h u d t i f hW hk
  refine ⟨49, #[], rfl, enters_of Tryz.func49 (by kernel_rfl) rfl, fun W1 hW1 => ?_⟩
  have hr1 := (hr.later hW).later hW1
  refine test3_any bk 1 3 a ⟨#[45, 103, 101]⟩ b _ _ 0 W1 (hr1 1 _ rfl) (hr1 2 _ rfl) (hr1 3 _ rfl) (by decide) (by decide) ?_
  intro W2 g0 hr2
  refine tabP_questions W2 _ _ _ (by decide) ?_
  intro W3 a1 b1 c1 d1 e1 f1 g1 h1 i1 j1 e2 f2 g2 h2 i2 j2 hW3 hk3
  refine ⟨120, #[.pointer (some ⟨j1, 0, none⟩)], rfl, ?_⟩
  have hk4 := hk3 (j2, fnU 146) (by simp [quKs])
  exact fnp_two 180 j1 g0 1 2 #[.pointer (some ⟨j2, 0, none⟩)] a b _ _ 0 W3 (hk3 (j1, cloV 180 j2) (by simp [quKs])) (hr2.later hW3 1 _ rfl) (hr2.later hW3 2 _ rfl)
    ⟨enters_of Tryz.func180 (by kernel_rfl) rfl, fun W4 h4 => held1_any 146 j2 a b x y _ W4 (cell_later h4 hk4) ha hb hx hy (enters_of Tryz.func146 (by kernel_rfl) rfl) (fun W => ord10 _ (cmpI_three x y) W)⟩
end Go.Proofs.YtbodnhpjfdnjfaaGreatDoor
namespace Go.Proofs.YtbodnhpjfdnjfaaGreatDoor
open Go.RowKit Go.Lib

theorem byte_back1 (w : World) (z : Int) (d : UInt8) (h : z = (d.toNat : Int)) :
    (convert 37 9 (.slice (some ⟨w.heap.size, 0, none⟩) 1 1)).run Tryz.prog (w.alloc (.cells #[.int .u8 z] 5)) = .ok (.string ⟨#[d]⟩) (w.alloc (.cells #[.int .u8 z] 5)) := by
  subst h
  refine run_convert_bytes_back (P := Tryz.prog) _ 37 9 5 ⟨w.heap.size, 0, none⟩ 1 [d] Tryz.underlying37 Tryz.underlying5 Tryz.underlying9 (fun j hj => ?_)
  obtain rfl : j = 0 := by simpa using hj
  rw [show (⟨w.heap.size, 0, none⟩ : Addr).add 0 = ⟨w.heap.size, 0, none⟩ from rfl, World.cell?_alloc_at _ _ _ _ rfl]
  rfl
end Go.Proofs.YtbodnhpjfdnjfaaGreatDoor
