/- Packed texts: UtQuest, UtTruths. What each of them proves stands above its theorems; the conditions stand in these. -/
import Derived.Test.YtjdollmfjflkoaaGreatDoorA10
namespace Go.Proofs.YtjdollmfjflkoaaGreatDoor
open Go.RowKit Go.Lib

theorem heldU_any (k : Nat) (x y : Array Value) (w : World) : Calls Tryz.prog 102 #[.func (.func k) x y] w fun e w' => ∃ b o, e = .returned (cloV 87 b) ∧ Below w.heap.size w w' ∧
    (∀ z ∈ [(b, cloV 131 o), (o, .func (.func k) x y)], w.heap.size ≤ z.1 ∧ z.1 < w'.heap.size ∧ w'.cell? ⟨z.1, 0, none⟩ = some z.2) := by
  have hmf : ∀ (fn : Fn) (first cap : Array Value) (w : World), (Instr.makeFunc fn first cap).run Tryz.prog w = .ok (.func fn first cap) w := fun _ _ _ _ => rfl
  have n1 := Lib.hid (newC_mk w (.func (.func k) x y) 107)
  go_enter Tryz.func102, Tryz.ntmps102
  go_wp2_with (first
    | (go_at_call 60; refine (twoU_any _ _ _ _).mono ?_; rintro e w1 ⟨b1, rfl, hn1⟩; have HU := Lib.hid hn1; clear hn1))
  go_ret
  obtain ⟨_, a2, a3, a4⟩ := n1.out
  obtain ⟨hb, b2, b3, b4⟩ := HU.out
  refine ⟨b1, w.heap.size, rfl, below_at a2 b2 a2.size, fun z hz => ?_⟩
  rcases List.mem_cons.1 hz with rfl | hz
  · exact ⟨by rw [hb]; exact a2.size, b3, b4⟩
  · obtain rfl := List.mem_singleton.1 hz
    exact ⟨Nat.le_refl _, Nat.lt_of_lt_of_le a3 b2.size, by rw [b2.cell a3]; exact a4⟩
def quEs (a b c d e f g h i j : Nat) : List Ent :=
  [⟨[61], cloV 87 a⟩, ⟨[33, 61], cloV 87 b⟩, ⟨[45, 110], cloV 55 c⟩, ⟨[45, 122], cloV 55 d⟩, ⟨[45, 101, 113], cloV 87 e⟩, ⟨[45, 110, 101], cloV 87 f⟩, ⟨[45, 108, 116], cloV 87 g⟩,
   ⟨[45, 108, 101], cloV 87 h⟩, ⟨[45, 103, 116], cloV 87 i⟩, ⟨[45, 103, 101], cloV 87 j⟩]
def quKs (a b c d e f g h i j e' f' g' h' i' j' : Nat) : List (Nat × Value) :=
  [(j, cloV 131 j'), (j', fnU 108), (i, cloV 131 i'), (i', fnU 107), (h, cloV 131 h'), (h', fnU 106), (g, cloV 131 g'), (g', fnU 105),
   (f, cloV 131 f'), (f', fnU 104), (e, cloV 131 e'), (e', fnU 103), (d, fnU 101), (c, fnU 100), (b, fnU 99), (a, fnU 98)]
set_option maxRecDepth 20000 in
theorem questions_any (w : World) :
    Calls Tryz.prog 77 #[] w fun en w' => ∃ m a b c d e f g h i j e' f' g' h' i' j', en = .returned (.map (some m)) ∧ UI w m 10 (quEs a b c d e f g h i j) (quKs a b c d e f g h i j e' f' g' h' i' j') w' := by
  have hmm := @run_makeMap Tryz.prog
  have HU := Lib.hid (UI.made w w w.heap.size rfl [] (Below.refl _ w) (fun x hx => by cases hx))
  go_enter Tryz.func77, Tryz.ntmps77
  go_wp2_with (first
    | (go_at_call 102; refine (heldU_any _ _ _ _).mono ?_; rintro e w1 ⟨b1, o1, rfl, hb1, hk1⟩; have HU := Lib.hid (HU.out.more hb1 hk1); clear hb1 hk1)
    | (go_at_call 36; refine (oneU_any _ _ _ _).mono ?_; rintro e w1 ⟨b1, rfl, hn1⟩; have HU := Lib.hid (HU.out.new hn1); clear hn1)
    | (go_at_call 60; refine (twoU_any _ _ _ _).mono ?_; rintro e w1 ⟨b1, rfl, hn1⟩; have HU := Lib.hid (HU.out.new hn1); clear hn1)
    | (refine wpList_insert_U rfl _ _ _ rfl _ _ _ _ HU.out (by decide) rfl _ (cloV _ _) rfl rfl (by decide) ?_; intro w1 hu1; have HU := Lib.hid hu1; clear hu1))
  go_ret
  exact ⟨_, _, _, _, _, _, _, _, _, _, _, _, _, _, _, _, _, rfl, HU.out⟩
theorem tabP_questions (w : World) (x : ByteArray) (args : Array Value) (v : Value) (hx : x.size ≤ maxLen)
    (h : ∀ (W : World) (a b c d e f g i j k e' f' g' i' j' k' : Nat), Below w.heap.size w W → KsAt (quKs a b c d e f g i j k e' f' g' i' j' k') W → ∃ kf cc, look (quEs a b c d e f g i j k) x.data.toList = some (.func (.func kf) #[] cc) ∧ FnP W kf (args ++ cc) v) : TabP w 77 x args v := by
  refine ⟨enters_of Tryz.func77 (by kernel_rfl) rfl, fun W hW => (questions_any W).mono ?_⟩
  rintro en W' ⟨m, a, b, c, d, e, f, g, i, j, k, e', f', g', i', j', k', rfl, hU⟩
  obtain ⟨kf, cc, hl, hf⟩ := h W' a b c d e f g i j k e' f' g' i' j' k' (below_at hW hU.below hW.size) (fun y hy => (hU.cells y hy).2.2)
  exact ⟨m, rfl, hU.below, kf, cc, hU.run x hx _ true (by rw [hl]), hf⟩
theorem eqU_any (a b : ByteArray) (y : Bool) (hy : (a.toList == b.toList) = y) (w : World) : Calls Tryz.prog 98 #[.string a, .string b] w fun e w' => e = .returned (resV ⟨#[]⟩ (if y then 0 else 1) 0) ∧ Below w.heap.size w w' := by
  have HR := Lib.hid (RI.start w)
  cases y
  all_goals
    go_enter Tryz.func98, Tryz.ntmps98
    go_wp2_with (first
      | (go_at_call 33; refine (asked_any _ _).mono ?_; rintro e w1 ⟨rfl, hb1⟩; have HR := Lib.hid (HR.out.later hb1); clear hb1)
      | (refine wpList_store_res rfl _ _ rfl HR.out rfl _ _ _ rfl ?_; intro w1 hr1; have HD := Lib.hid hr1; clear hr1))
    exact res_end HD.out Tryz.results98 _ rfl rfl _ (fun hb => ⟨rfl, hb⟩)
theorem neU_any (a b : ByteArray) (y : Bool) (hy : (a.toList == b.toList) = y) (w : World) : Calls Tryz.prog 99 #[.string a, .string b] w fun e w' => e = .returned (resV ⟨#[]⟩ (if y then 1 else 0) 0) ∧ Below w.heap.size w w' := by
  have HR := Lib.hid (RI.start w)
  cases y
  all_goals
    go_enter Tryz.func99, Tryz.ntmps99
    go_wp2_with (first
      | (go_at_call 33; refine (asked_any _ _).mono ?_; rintro e w1 ⟨rfl, hb1⟩; have HR := Lib.hid (HR.out.later hb1); clear hb1)
      | (refine wpList_store_res rfl _ _ rfl HR.out rfl _ _ _ rfl ?_; intro w1 hr1; have HD := Lib.hid hr1; clear hr1))
    exact res_end HD.out Tryz.results99 _ rfl rfl _ (fun hb => ⟨rfl, hb⟩)
theorem someU_any (a : ByteArray) (y : Bool) (hy : a.toList.isEmpty = y) (w : World) : Calls Tryz.prog 100 #[.string a] w fun e w' => e = .returned (resV ⟨#[]⟩ (if y then 1 else 0) 0) ∧ Below w.heap.size w w' := by
  have HR := Lib.hid (RI.start w)
  cases y
  all_goals
    go_enter Tryz.func100, Tryz.ntmps100
    go_wp2_with (first
      | (go_at_call 33; refine (asked_any _ _).mono ?_; rintro e w1 ⟨rfl, hb1⟩; have HR := Lib.hid (HR.out.later hb1); clear hb1)
      | (refine wpList_store_res rfl _ _ rfl HR.out rfl _ _ _ rfl ?_; intro w1 hr1; have HD := Lib.hid hr1; clear hr1))
    exact res_end HD.out Tryz.results100 _ rfl rfl _ (fun hb => ⟨rfl, hb⟩)
theorem noneU_any (a : ByteArray) (y : Bool) (hy : a.toList.isEmpty = y) (w : World) : Calls Tryz.prog 101 #[.string a] w fun e w' => e = .returned (resV ⟨#[]⟩ (if y then 0 else 1) 0) ∧ Below w.heap.size w w' := by
  have HR := Lib.hid (RI.start w)
  cases y
  all_goals
    go_enter Tryz.func101, Tryz.ntmps101
    go_wp2_with (first
      | (go_at_call 33; refine (asked_any _ _).mono ?_; rintro e w1 ⟨rfl, hb1⟩; have HR := Lib.hid (HR.out.later hb1); clear hb1)
      | (refine wpList_store_res rfl _ _ rfl HR.out rfl _ _ _ rfl ?_; intro w1 hr1; have HD := Lib.hid hr1; clear hr1))
    exact res_end HD.out Tryz.results101 _ rfl rfl _ (fun hb => ⟨rfl, hb⟩)
/-- test of two words. -/
theorem test2_any (bk o c : Nat) (x s : ByteArray) (st e : Int) (w : World) (hx : w.cell? ⟨bk, o, none⟩ = some (.string x)) (hn : 2 ≤ c) (hc : c ≤ 1000000)
    (hT : TabP w 77 x #[.slice (some ⟨bk, o + 1, none⟩) 1 (c - 1)] (resV s st e)) :
    Calls Tryz.prog 45 #[.slice (some ⟨bk, o, none⟩) 2 c] w fun en w' => en = .returned (resV s st e) ∧ Below w.heap.size w w' := by
  have HR := Lib.hid (RI.start w)
  have HX := Lib.hid (fun W (h : Below w.heap.size w W) (b : Nat) (hb : W.cell? ⟨b, 0, none⟩ = some (fnU 77)) => by1_any 77 b bk o 1 c x s st e W hb (cell_later h hx) hn hc (some ⟨bk, o + 1, none⟩) (if_neg (by omega)) (hT.later h))
  clear hx hT
  go_enter Tryz.func45, Tryz.ntmps45
  go_wp2_with (first
    | (go_at_call 42; refine (byU_any _ _ _ _).mono ?_; rintro e w1 ⟨b1, rfl, hn1⟩; have HR := Lib.hid (HR.out.later hn1.2.1); have HN := Lib.hid hn1.2.2.2; clear hn1; unfold cloV)
    | (go_at_call 58; refine (HX.out _ HR.out.below _ HN.out).mono ?_; rintro e w2 ⟨rfl, hb1⟩; have HR := Lib.hid (HR.out.later hb1); clear hb1)
    | (refine wpList_store_res rfl _ _ rfl HR.out rfl _ _ _ rfl ?_; intro w3 hr1; have HD := Lib.hid hr1; clear hr1))
  exact res_end HD.out Tryz.results45 _ rfl rfl _ (fun hb => ⟨rfl, hb⟩)
theorem row3_later {w w1 : World} {b1 : Nat} {f : Value} {x a b : ByteArray} (h : NewC ((w.alloc (.cells #[.string ⟨#[]⟩, .int .i64 0, .int .i64 0] 49)).alloc (.cells #[.string x, .string a, .string b] 9)).drew w1 b1 f) : RowW w1 (w.heap.size + 1) [x, a, b] := by
  have h2 := (rowW_new (w.alloc (.cells #[.string ⟨#[]⟩, .int .i64 0, .int .i64 0] 49)) [x, a, b] 9).later (W := w1) (((Below.refl _ _).drew).trans h.2.1)
  rw [World.size_alloc] at h2
  exact h2
theorem ri_later3 {w w1 : World} {b1 g : Nat} {f : Value} {x a b : ByteArray} (hr : RI w g (w.alloc (.cells #[.string ⟨#[]⟩, .int .i64 0, .int .i64 0] 49))) (h : NewC ((w.alloc (.cells #[.string ⟨#[]⟩, .int .i64 0, .int .i64 0] 49)).alloc (.cells #[.string x, .string a, .string b] 9)).drew w1 b1 f) : RI w g w1 :=
  (((hr.later ((Below.refl _ _).alloc (Nat.le_refl _) (.cells #[.string x, .string a, .string b] 9))).drew).later h.2.1)
set_option maxHeartbeats 1000000 in
set_option maxRecDepth 20000 in
/-- test of three words: what it asks stands between them. -/
theorem test3_any (bk o c : Nat) (a x b s : ByteArray) (st e : Int) (w : World) (ha : w.cell? ⟨bk, o, none⟩ = some (.string a)) (hx : w.cell? ⟨bk, o + 1, none⟩ = some (.string x)) (hb : w.cell? ⟨bk, o + 2, none⟩ = some (.string b)) (_hn : 3 ≤ c) (_hc : c ≤ 1000000)
    (hT : ∀ W g, RowW W g [x, a, b] → TabP W 77 x #[.slice (some ⟨g, 1, none⟩) 2 2] (resV s st e)) :
    Calls Tryz.prog 45 #[.slice (some ⟨bk, o, none⟩) 3 c] w fun en w' => en = .returned (resV s st e) ∧ Below w.heap.size w w' := by
  have HR := Lib.hid (RI.start w)
  have c0 := cell_later HR.out.below ha
  have c1 := cell_later HR.out.below hx
  have c2 := cell_later HR.out.below hb
  have HX := Lib.hid (fun W g (hr : RowW W g [x, a, b]) (b' : Nat) (hb' : W.cell? ⟨b', 0, none⟩ = some (fnU 77)) => by1_any 77 b' g 0 2 3 x s st e W hb' (hr 0 x rfl) (by decide) (by decide) (some ⟨g, 1, none⟩) rfl (hT W g hr))
  clear ha hx hb hT
  go_enter Tryz.func45, Tryz.ntmps45
  go_upto_region 2 with fail
  go_region_law (fail)
  all_goals
    go_wp2_with (first
      | (go_at_call 42; refine (byU_any _ _ _ _).mono ?_; rintro e w1 ⟨b1, rfl, hn1⟩; have HN := Lib.hid hn1.2.2.2; have HRW := Lib.hid (row3_later hn1); have HR := Lib.hid (ri_later3 HR.out hn1); clear hn1; unfold cloV)
      | (go_at_call 58; refine (HX.out _ _ HRW.out _ HN.out).mono ?_; rintro e w2 ⟨rfl, hb1⟩; have HR := Lib.hid (HR.out.later hb1); clear hb1)
      | (refine wpList_store_res rfl _ _ rfl HR.out rfl _ _ _ rfl ?_; intro w3 hr1; have HD := Lib.hid hr1; clear hr1))
    exact res_end HD.out Tryz.results45 _ rfl rfl _ (fun hb => ⟨rfl, hb⟩)
end Go.Proofs.YtjdollmfjflkoaaGreatDoor
namespace Go.Proofs.YtjdollmfjflkoaaGreatDoor
open Go.RowKit Go.Lib

theorem numberU_any (n : Int) (w : World) (h0 : -9223372036854775808 ≤ n) (h1 : n ≤ 9223372036854775807) (ht : Tab w) : Calls Tryz.prog 64 #[.int .i64 n] w fun e w' => e = .returned (resV (ba (Lib.itoa n ++ [10])) 0 0) ∧ Below w.heap.size w w' := by
  have HR := Lib.hid (RI.start w)
  have HT := Lib.hid (ht.below HR.out.below)
  have k1 := Lib.hid (fun W (h : Tab W) => figures_any n W h0 h1 h)
  have k2 := Lib.hid (fun W => said_any (ba (Lib.itoa n)) W (by rw [ba_len]; have := Lib.itoa_length_le n h0 h1; omega))
  rw [lineB_ba] at k2
  have e0 : (⟨(Lib.itoa n).toArray⟩ : ByteArray) = ba (Lib.itoa n) := rfl
  rw [e0] at k1
  clear ht h0 h1 e0
  generalize ba (Lib.itoa n ++ [10]) = R at *
  generalize ba (Lib.itoa n) = R0 at *
  go_enter Tryz.func64, Tryz.ntmps64
  go_wp2_with (first
    | (go_at_call 91; with_reducible refine (k1.out _ HT.out).mono ?_; rintro e w1 ⟨rfl, hb1⟩; have HR := Lib.hid (HR.out.later hb1); clear hb1)
    | (go_at_call 30; with_reducible refine (k2.out _).mono ?_; rintro e w2 ⟨rfl, hb1⟩; have HR := Lib.hid (HR.out.later hb1); clear hb1)
    | (refine wpList_store_res rfl _ _ rfl HR.out rfl _ _ _ rfl ?_; intro w3 hr1; have HD := Lib.hid hr1; clear hr1))
  exact res_end HD.out Tryz.results64 _ rfl rfl _ (fun hb => ⟨rfl, hb⟩)
theorem lenU_any (s : ByteArray) (w : World) (hs : s.size ≤ 70368744177664) (ht : Tab w) : Calls Tryz.prog 69 #[.string s] w fun e w' => e = .returned (resV (ba (Lib.itoa (s.size : Int) ++ [10])) 0 0) ∧ Below w.heap.size w w' := by
  have HR := Lib.hid (RI.start w)
  have HT := Lib.hid (ht.below HR.out.below)
  have k1 := Lib.hid (fun W (h : Tab W) => numberU_any (s.size : Int) W (by omega) (by omega) h)
  clear ht
  generalize ba (Lib.itoa (s.size : Int) ++ [10]) = R at *
  go_enter Tryz.func69, Tryz.ntmps69
  go_wp2_with (first
    | (go_at_call 64; with_reducible refine (k1.out _ HT.out).mono ?_; rintro e w1 ⟨rfl, hb1⟩; have HR := Lib.hid (HR.out.later hb1); clear hb1)
    | (refine wpList_store_res rfl _ _ rfl HR.out rfl _ _ _ rfl ?_; intro w3 hr1; have HD := Lib.hid hr1; clear hr1))
  exact res_end HD.out Tryz.results69 _ rfl rfl _ (fun hb => ⟨rfl, hb⟩)

/-! ### Runs -/
theorem run_some (bk : Nat) (s inp : ByteArray) (y : Bool) (hy : s.toList.isEmpty = y) (fuel : Int) (w : World) (hr : RowW w bk [⟨#[116, 101, 115, 116]⟩, ⟨#[45, 110]⟩, s]) :
    Calls Tryz.prog 23 #[.slice (some ⟨bk, 0, none⟩) 3 3, .string inp, .int .i64 fuel] w fun en w' => en = .returned (runV ⟨#[]⟩ (if y then 1 else 0) fuel 0) ∧ Below w.heap.size w w' := by
  refine run_known bk 0 2 3 ⟨#[116, 101, 115, 116]⟩ inp _ _ 0 fuel w (hr 0 _ rfl) (by decide) (by decide) (by decide) (some ⟨bk, 1, none⟩) rfl ?_
  intro W h u d t i f hW hk
  refine ⟨45, #[], rfl, enters_of Tryz.func45 (by kernel_rfl) rfl, fun W1 hW1 => ?_⟩
  have hr1 := (hr.later hW).later hW1
  refine test2_any bk 1 2 ⟨#[45, 110]⟩ _ _ 0 W1 (hr1 1 _ rfl) (by decide) (by decide) ?_
  refine tabP_questions W1 _ _ _ (by decide) ?_
  intro W2 a b c d e f g i j k e' f' g' i' j' k' hW2 hk2
  refine ⟨55, #[.pointer (some ⟨c, 0, none⟩)], rfl, ?_⟩
  exact fnp_one 100 c bk 2 1 #[] s _ _ 0 W2 (hk2 (c, fnU 100) (by simp [quKs])) (hr1.later hW2 2 _ rfl) ⟨enters_of Tryz.func100 (by kernel_rfl) rfl, fun W3 _ => someU_any s y hy W3⟩
theorem run_empty (bk : Nat) (s inp : ByteArray) (y : Bool) (hy : s.toList.isEmpty = y) (fuel : Int) (w : World) (hr : RowW w bk [⟨#[116, 101, 115, 116]⟩, ⟨#[45, 122]⟩, s]) :
    Calls Tryz.prog 23 #[.slice (some ⟨bk, 0, none⟩) 3 3, .string inp, .int .i64 fuel] w fun en w' => en = .returned (runV ⟨#[]⟩ (if y then 0 else 1) fuel 0) ∧ Below w.heap.size w w' := by
  refine run_known bk 0 2 3 ⟨#[116, 101, 115, 116]⟩ inp _ _ 0 fuel w (hr 0 _ rfl) (by decide) (by decide) (by decide) (some ⟨bk, 1, none⟩) rfl ?_
  intro W h u d t i f hW hk
  refine ⟨45, #[], rfl, enters_of Tryz.func45 (by kernel_rfl) rfl, fun W1 hW1 => ?_⟩
  have hr1 := (hr.later hW).later hW1
  refine test2_any bk 1 2 ⟨#[45, 122]⟩ _ _ 0 W1 (hr1 1 _ rfl) (by decide) (by decide) ?_
  refine tabP_questions W1 _ _ _ (by decide) ?_
  intro W2 a b c d e f g i j k e' f' g' i' j' k' hW2 hk2
  refine ⟨55, #[.pointer (some ⟨d, 0, none⟩)], rfl, ?_⟩
  exact fnp_one 101 d bk 2 1 #[] s _ _ 0 W2 (hk2 (d, fnU 101) (by simp [quKs])) (hr1.later hW2 2 _ rfl) ⟨enters_of Tryz.func101 (by kernel_rfl) rfl, fun W3 _ => noneU_any s y hy W3⟩
theorem run_eq (bk : Nat) (a b inp : ByteArray) (y : Bool) (hy : (a.toList == b.toList) = y) (fuel : Int) (w : World) (hr : RowW w bk [⟨#[116, 101, 115, 116]⟩, a, ⟨#[61]⟩, b]) :
    Calls Tryz.prog 23 #[.slice (some ⟨bk, 0, none⟩) 4 4, .string inp, .int .i64 fuel] w fun en w' => en = .returned (runV ⟨#[]⟩ (if y then 0 else 1) fuel 0) ∧ Below w.heap.size w w' := by
  refine run_known bk 0 3 4 ⟨#[116, 101, 115, 116]⟩ inp _ _ 0 fuel w (hr 0 _ rfl) (by decide) (by decide) (by decide) (some ⟨bk, 1, none⟩) rfl ?_
  intro W h u d t i f hW hk
  refine ⟨45, #[], rfl, enters_of Tryz.func45 (by kernel_rfl) rfl, fun W1 hW1 => ?_⟩
  have hr1 := (hr.later hW).later hW1
  refine test3_any bk 1 3 a ⟨#[61]⟩ b _ _ 0 W1 (hr1 1 _ rfl) (hr1 2 _ rfl) (hr1 3 _ rfl) (by decide) (by decide) ?_
  intro W2 g hr2
  refine tabP_questions W2 _ _ _ (by decide) ?_
  intro W3 a1 b1 c1 d1 e1 f1 g1 i1 j1 k1 e' f' g' i' j' k' hW3 hk3
  refine ⟨87, #[.pointer (some ⟨a1, 0, none⟩)], rfl, ?_⟩
  exact fnp_two 98 a1 g 1 2 #[] a b _ _ 0 W3 (hk3 (a1, fnU 98) (by simp [quKs])) (hr2.later hW3 1 _ rfl) (hr2.later hW3 2 _ rfl) ⟨enters_of Tryz.func98 (by kernel_rfl) rfl, fun W4 _ => eqU_any a b y hy W4⟩
theorem run_ne (bk : Nat) (a b inp : ByteArray) (y : Bool) (hy : (a.toList == b.toList) = y) (fuel : Int) (w : World) (hr : RowW w bk [⟨#[116, 101, 115, 116]⟩, a, ⟨#[33, 61]⟩, b]) :
    Calls Tryz.prog 23 #[.slice (some ⟨bk, 0, none⟩) 4 4, .string inp, .int .i64 fuel] w fun en w' => en = .returned (runV ⟨#[]⟩ (if y then 1 else 0) fuel 0) ∧ Below w.heap.size w w' := by
  refine run_known bk 0 3 4 ⟨#[116, 101, 115, 116]⟩ inp _ _ 0 fuel w (hr 0 _ rfl) (by decide) (by decide) (by decide) (some ⟨bk, 1, none⟩) rfl ?_
  intro W h u d t i f hW hk
  refine ⟨45, #[], rfl, enters_of Tryz.func45 (by kernel_rfl) rfl, fun W1 hW1 => ?_⟩
  have hr1 := (hr.later hW).later hW1
  refine test3_any bk 1 3 a ⟨#[33, 61]⟩ b _ _ 0 W1 (hr1 1 _ rfl) (hr1 2 _ rfl) (hr1 3 _ rfl) (by decide) (by decide) ?_
  intro W2 g hr2
  refine tabP_questions W2 _ _ _ (by decide) ?_
  intro W3 a1 b1 c1 d1 e1 f1 g1 i1 j1 k1 e' f' g' i' j' k' hW3 hk3
  refine ⟨87, #[.pointer (some ⟨b1, 0, none⟩)], rfl, ?_⟩
  exact fnp_two 99 b1 g 1 2 #[] a b _ _ 0 W3 (hk3 (b1, fnU 99) (by simp [quKs])) (hr2.later hW3 1 _ rfl) (hr2.later hW3 2 _ rfl) ⟨enters_of Tryz.func99 (by kernel_rfl) rfl, fun W4 _ => neU_any a b y hy W4⟩
theorem run_len (bk : Nat) (s inp : ByteArray) (fuel : Int) (w : World) (hr : RowW w bk [⟨#[115, 116, 114]⟩, ⟨#[108, 101, 110]⟩, s]) (hs : s.size ≤ 70368744177664) (ht : Tab w) :
    Calls Tryz.prog 23 #[.slice (some ⟨bk, 0, none⟩) 3 3, .string inp, .int .i64 fuel] w fun en w' => en = .returned (runV (ba (Lib.itoa (s.size : Int) ++ [10])) 0 fuel 0) ∧ Below w.heap.size w w' := by
  refine run_known bk 0 2 3 ⟨#[115, 116, 114]⟩ inp _ _ 0 fuel w (hr 0 _ rfl) (by decide) (by decide) (by decide) (some ⟨bk, 1, none⟩) rfl ?_
  intro W h u d t i f' hW hk
  refine ⟨58, #[.pointer (some ⟨t, 0, none⟩)], rfl, ?_⟩
  have hr1 := hr.later hW
  have ht1 := ht.below hW
  refine fnp_by 44 t bk 1 1 2 ⟨#[108, 101, 110]⟩ _ _ 0 W (hk (t, fnU 44) (by simp [utKs])) (hr1 1 _ rfl) (by decide) (by decide) (some ⟨bk, 2, none⟩) rfl ?_
  refine tabP_texts W _ _ _ (by decide) ?_
  intro W2 a' b' c' d' e' f'' g' hW2 hk2
  refine ⟨55, #[.pointer (some ⟨a', 0, none⟩)], rfl, ?_⟩
  have ht2 := ht1.below hW2
  exact fnp_one 69 a' bk 2 1 #[] s _ _ 0 W2 (hk2 (a', fnU 69) (by simp [txKs])) (hr1.later hW2 2 _ rfl) ⟨enters_of Tryz.func69 (by kernel_rfl) rfl, fun W3 h3 => lenU_any s W3 hs (ht2.below h3)⟩
theorem dec_nought {n : Nat} (h : Lib.decDigits n = [48]) : n = 0 := by
  have h1 := (dec_figs n).2
  rw [h] at h1
  have h2 : natOf [48] = 0 := by decide
  omega
set_option maxHeartbeats 2000000 in
set_option maxRecDepth 20000 in
theorem utilTruths_walk (s : ByteArray) (hs : s.size ≤ 140737488351232) (w : World) (ht : Tab w) :
    Calls Tryz.prog 7 #[.string s] w fun e w' => e = .returned (.bool true) ∧ Below w.heap.size w w' := by
  have HT := Lib.hid ht
  clear ht
  by_cases hl : 500 < s.size
  · go_enter Tryz.func7, Tryz.ntmps7
    go_wp2_with (first
      | (go_at_call 9; refine (shown13_any _ HT.out).mono ?_; rintro e w1 ⟨rfl, hb1⟩; have HB1 := Lib.hid hb1; clear hb1))
    go_ret
    exact ⟨rfl, HB1.out⟩
  · obtain ⟨y, hy⟩ : ∃ y, s.toList.isEmpty = y := ⟨_, rfl⟩
    obtain ⟨R, hR⟩ : ∃ R, ba (Lib.itoa (s.size : Int) ++ [10]) = R := ⟨_, rfl⟩
    have hlen : s.toList.length = s.size := by rw [ByteArray.toList_eq, ← size_eq]
    have hr : (R.toList == [48, 10]) = y ∧ (y = true ↔ R.toList = [48, 10]) ∧ (y = true ↔ s.toList = []) := by
      have e1 : R.toList = Lib.itoa (s.size : Int) ++ [10] := by rw [← hR, ByteArray.toList_eq, ba_list]
      have e2 : (y = true ↔ s.toList = []) := by rw [← hy]; exact List.isEmpty_iff
      have e3 : (y = true ↔ R.toList = [48, 10]) := by
        rw [e2, e1, Lib.itoa_nonneg]
        constructor
        · intro h
          have h0 : s.size = 0 := by rw [← hlen, h]; rfl
          rw [h0]
          decide +kernel
        · intro h
          have h1 : Lib.decDigits s.size = [48] := List.append_cancel_right (bs := [10]) (by simpa using h)
          exact List.eq_nil_of_length_eq_zero (by rw [hlen]; exact dec_nought h1)
      refine ⟨?_, e3, e2⟩
      rw [Bool.eq_iff_iff, beq_iff_eq]
      exact e3.symm
    have K1 : Hid (∀ W : World, Tab W → Calls Tryz.prog 23 #[.slice (some ⟨W.heap.size, 0, none⟩) 3 3, .string ⟨#[]⟩, .int .i64 0] (W.alloc (.cells #[.string ⟨#[116, 101, 115, 116]⟩, .string ⟨#[45, 110]⟩, .string s] 9)) fun en w' => en = .returned (.tuple #[.string ⟨#[]⟩, .int .i64 (if y then 1 else 0), .int .i64 0, .int .i64 0]) ∧ Below W.heap.size W w') :=
      Lib.hid (fun W hT => (run_some W.heap.size s ⟨#[]⟩ y hy 0 _ (rowW_new W [⟨#[116, 101, 115, 116]⟩, ⟨#[45, 110]⟩, s] 9)).mono fun _ _ h => ⟨h.1, below_new h.2⟩)
    have K2 : Hid (∀ W : World, Tab W → Calls Tryz.prog 23 #[.slice (some ⟨W.heap.size, 0, none⟩) 3 3, .string ⟨#[]⟩, .int .i64 0] (W.alloc (.cells #[.string ⟨#[116, 101, 115, 116]⟩, .string ⟨#[45, 122]⟩, .string s] 9)) fun en w' => en = .returned (.tuple #[.string ⟨#[]⟩, .int .i64 (if y then 0 else 1), .int .i64 0, .int .i64 0]) ∧ Below W.heap.size W w') :=
      Lib.hid (fun W hT => (run_empty W.heap.size s ⟨#[]⟩ y hy 0 _ (rowW_new W [⟨#[116, 101, 115, 116]⟩, ⟨#[45, 122]⟩, s] 9)).mono fun _ _ h => ⟨h.1, below_new h.2⟩)
    have K3 : Hid (∀ W : World, Tab W → Calls Tryz.prog 23 #[.slice (some ⟨W.heap.size, 0, none⟩) 4 4, .string ⟨#[]⟩, .int .i64 0] (W.alloc (.cells #[.string ⟨#[116, 101, 115, 116]⟩, .string s, .string ⟨#[61]⟩, .string s] 9)) fun en w' => en = .returned (.tuple #[.string ⟨#[]⟩, .int .i64 0, .int .i64 0, .int .i64 0]) ∧ Below W.heap.size W w') :=
      Lib.hid (fun W hT => (run_eq W.heap.size s s ⟨#[]⟩ true (by simp) 0 _ (rowW_new W [⟨#[116, 101, 115, 116]⟩, s, ⟨#[61]⟩, s] 9)).mono fun _ _ h => ⟨h.1, below_new h.2⟩)
    have K4 : Hid (∀ W : World, Tab W → Calls Tryz.prog 23 #[.slice (some ⟨W.heap.size, 0, none⟩) 4 4, .string ⟨#[]⟩, .int .i64 0] (W.alloc (.cells #[.string ⟨#[116, 101, 115, 116]⟩, .string s, .string ⟨#[33, 61]⟩, .string s] 9)) fun en w' => en = .returned (.tuple #[.string ⟨#[]⟩, .int .i64 1, .int .i64 0, .int .i64 0]) ∧ Below W.heap.size W w') :=
      Lib.hid (fun W hT => (run_ne W.heap.size s s ⟨#[]⟩ true (by simp) 0 _ (rowW_new W [⟨#[116, 101, 115, 116]⟩, s, ⟨#[33, 61]⟩, s] 9)).mono fun _ _ h => ⟨h.1, below_new h.2⟩)
    have K5 : Hid (∀ W : World, Tab W → Calls Tryz.prog 23 #[.slice (some ⟨W.heap.size, 0, none⟩) 3 3, .string ⟨#[]⟩, .int .i64 0] (W.alloc (.cells #[.string ⟨#[115, 116, 114]⟩, .string ⟨#[108, 101, 110]⟩, .string s] 9)) fun en w' => en = .returned (.tuple #[.string R, .int .i64 0, .int .i64 0, .int .i64 0]) ∧ Below W.heap.size W w') :=
      Lib.hid (fun W hT => (hR ▸ run_len W.heap.size s ⟨#[]⟩ 0 _ (rowW_new W [⟨#[115, 116, 114]⟩, ⟨#[108, 101, 110]⟩, s] 9) (by omega) (hT.below ((Below.refl _ W).alloc (Nat.le_refl _) _))).mono fun _ _ h => ⟨h.1, below_new h.2⟩)
    clear hR hlen
    obtain ⟨r1, r2, r3⟩ := hr
    cases y
    · have r4 : ¬ R.toList = [48, 10] := fun h => by cases r2.2 h
      have r5 : ¬ s.toList = [] := fun h => by cases r3.2 h
      clear r2 r3
      go_enter Tryz.func7, Tryz.ntmps7
      go_wp2_with (first
        | (go_at_call 9; refine (shown13_any _ HT.out).mono ?_; rintro e w1 ⟨rfl, hb1⟩; have HB1 := Lib.hid hb1; clear hb1)
        | (go_at_call 23; first
          | (with_reducible refine (K1.out _ (HT.out.below HB1.out)).mono ?_; rintro e w2 ⟨rfl, hb2⟩; have HB1 := Lib.hid (below_at HB1.out hb2 HB1.out.size); clear hb2)
          | (with_reducible refine (K2.out _ (HT.out.below HB1.out)).mono ?_; rintro e w2 ⟨rfl, hb2⟩; have HB1 := Lib.hid (below_at HB1.out hb2 HB1.out.size); clear hb2)
          | (with_reducible refine (K3.out _ (HT.out.below HB1.out)).mono ?_; rintro e w2 ⟨rfl, hb2⟩; have HB1 := Lib.hid (below_at HB1.out hb2 HB1.out.size); clear hb2)
          | (with_reducible refine (K4.out _ (HT.out.below HB1.out)).mono ?_; rintro e w2 ⟨rfl, hb2⟩; have HB1 := Lib.hid (below_at HB1.out hb2 HB1.out.size); clear hb2)
          | (with_reducible refine (K5.out _ (HT.out.below HB1.out)).mono ?_; rintro e w2 ⟨rfl, hb2⟩; have HB1 := Lib.hid (below_at HB1.out hb2 HB1.out.size); clear hb2)))
      go_ret
      exact ⟨rfl, HB1.out⟩
    · have r4 := r2.1 rfl
      have r5 := r3.1 rfl
      clear r2 r3
      go_enter Tryz.func7, Tryz.ntmps7
      go_wp2_with (first
        | (go_at_call 9; refine (shown13_any _ HT.out).mono ?_; rintro e w1 ⟨rfl, hb1⟩; have HB1 := Lib.hid hb1; clear hb1)
        | (go_at_call 23; first
          | (with_reducible refine (K1.out _ (HT.out.below HB1.out)).mono ?_; rintro e w2 ⟨rfl, hb2⟩; have HB1 := Lib.hid (below_at HB1.out hb2 HB1.out.size); clear hb2)
          | (with_reducible refine (K2.out _ (HT.out.below HB1.out)).mono ?_; rintro e w2 ⟨rfl, hb2⟩; have HB1 := Lib.hid (below_at HB1.out hb2 HB1.out.size); clear hb2)
          | (with_reducible refine (K3.out _ (HT.out.below HB1.out)).mono ?_; rintro e w2 ⟨rfl, hb2⟩; have HB1 := Lib.hid (below_at HB1.out hb2 HB1.out.size); clear hb2)
          | (with_reducible refine (K4.out _ (HT.out.below HB1.out)).mono ?_; rintro e w2 ⟨rfl, hb2⟩; have HB1 := Lib.hid (below_at HB1.out hb2 HB1.out.size); clear hb2)
          | (with_reducible refine (K5.out _ (HT.out.below HB1.out)).mono ?_; rintro e w2 ⟨rfl, hb2⟩; have HB1 := Lib.hid (below_at HB1.out hb2 HB1.out.size); clear hb2)))
      go_ret
      exact ⟨rfl, HB1.out⟩
end Go.Proofs.YtjdollmfjflkoaaGreatDoor
