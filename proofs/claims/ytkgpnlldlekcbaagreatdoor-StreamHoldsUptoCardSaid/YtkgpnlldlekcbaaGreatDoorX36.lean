/- Packed texts: StreamQuitsWalk. What each of them proves stands above its theorems; the conditions stand in these. -/
import Derived.Test.YtkgpnlldlekcbaaGreatDoorX35
namespace Go.Proofs.YtkgpnlldlekcbaaGreatDoor
open Go.RowKit Go.Lib
attribute [local go_sem] Oper.semAt_some

theorem strs_take {ao : Option Addr} {N cap : Nat} {xs : List ByteArray} {w : World} (h : Strs (.slice ao N cap) xs w) (m : Nat) (hm : m ≤ N) : Strs (.slice ao m cap) (xs.take m) w := by
  have hl := h.len
  refine ⟨ao, cap, by rw [List.length_take]; congr 1; omega, by rw [List.length_take]; omega, by rw [List.length_take]; omega, fun j x hj => ?_⟩
  rw [List.getElem?_take] at hj
  split at hj
  · exact h.at hj
  · cases hj
set_option maxHeartbeats 8000000 in
set_option maxRecDepth 100000 in
theorem quits_out (ao : Option Addr) (cap : Nat) (xs : List ByteArray) (n : Int) (w : World) (hx : Strs (.slice ao xs.length cap) xs w) (hm : Mx w) (hl : longN xs ≤ 9223372036854775807) (hn : -9223372036854775808 ≤ n ∧ n ≤ 9223372036854775807) (h : 200 < longN xs ∨ longN xs ≤ 200 ∧ n < 1 ∨ longN xs ≤ 200 ∧ 1 ≤ n ∧ (xs.length : Int) < n) :
    Calls Tryz.prog 7 #[.slice ao xs.length cap, .int .i64 n] w fun e w' => e = .returned (.bool true) ∧ Below w.heap.size w w' := by
  have kS := shown9_any w hm
  have kl : ∀ w', Below w.heap.size w w' → Calls Tryz.prog 15 #[.slice ao xs.length cap] w' fun e w'' => e = .returned (.int .i64 (longN xs : Nat)) ∧ w' = w'' := fun w' hb => refLong_any _ xs w' (hx.below hb) hl
  have hlen : xs.length ≤ longN xs := Nat.le_add_right _ _
  generalize longN xs = L at kl h hl hlen
  generalize xs.length = N at kl h hlen ⊢
  clear hx hm
  rcases h with h | ⟨h, h2⟩ | ⟨h, h2, h3⟩
  · have h1 : decide ((200 : Int) < (L : Int)) = true := decide_eq_true (by omega)
    go_enter Tryz.func7, Tryz.ntmps7
    go_wp2_with (first
      | (go_at_call 9; (with_reducible refine kS.mono ?_); rintro e w1 ⟨rfl, hb1⟩; have H1 := Lib.hid hb1; clear hb1 kS)
      | (go_at_call 15; (with_reducible refine (kl _ H1.out).mono ?_); rintro e w2 ⟨rfl, rfl⟩; clear kl))
    exact bodyPost_ret (results_tmp rfl _ _ _) rfl ⟨rfl, H1.out⟩
  · have h1 : decide ((200 : Int) < (L : Int)) = false := decide_eq_false (by omega)
    have h3 : decide (n < (1 : Int)) = true := decide_eq_true h2
    have h4 : decide (n ≤ (0 : Int)) = true := decide_eq_true (by omega)
    go_enter Tryz.func7, Tryz.ntmps7
    go_wp2_with (first
      | (go_at_call 9; (with_reducible refine kS.mono ?_); rintro e w1 ⟨rfl, hb1⟩; have H1 := Lib.hid hb1; clear hb1 kS)
      | (go_at_call 15; (with_reducible refine (kl _ H1.out).mono ?_); rintro e w2 ⟨rfl, rfl⟩; clear kl))
    exact bodyPost_ret (results_tmp rfl _ _ _) rfl ⟨rfl, H1.out⟩
  · have h1 : decide ((200 : Int) < (L : Int)) = false := decide_eq_false (by omega)
    have h4 : decide (n < (1 : Int)) = false := decide_eq_false (by omega)
    have h5 : decide ((N : Int) < n) = true := decide_eq_true h3
    go_enter Tryz.func7, Tryz.ntmps7
    go_wp2_with (first
      | (go_at_call 9; (with_reducible refine kS.mono ?_); rintro e w1 ⟨rfl, hb1⟩; have H1 := Lib.hid hb1; clear hb1 kS)
      | (go_at_call 15; (with_reducible refine (kl _ H1.out).mono ?_); rintro e w2 ⟨rfl, rfl⟩; clear kl))
    exact bodyPost_ret (results_tmp rfl _ _ _) rfl ⟨rfl, H1.out⟩
theorem cell_new (w : World) (X : Array Value) (t : TypeId) (i : Nat) (v : Value) (h : X[i]? = some v) : (w.alloc (.cells X t)).cell? ⟨w.heap.size, i, none⟩ = some v := by
  unfold World.cell?
  rw [show (⟨w.heap.size, i, none⟩ : Addr).block = w.heap.size from rfl, heap_alloc_new w _]
  simpa using h
set_option maxHeartbeats 8000000 in
set_option maxRecDepth 100000 in
theorem quits_in (ao : Option Addr) (cap : Nat) (xs : List ByteArray) (n : Nat) (w : World) (hx : Strs (.slice ao xs.length cap) xs w) (hm : Mx w) (hl : longN xs ≤ 200) (hn : 1 ≤ n) (hn2 : n ≤ xs.length) :
    Calls Tryz.prog 7 #[.slice ao xs.length cap, .int .i64 (n : Int)] w fun e w' => e = .returned (.bool true) ∧ Below w.heap.size w w' := by
  have kS := shown9_any w hm
  have kl : ∀ w', Below w.heap.size w w' → Calls Tryz.prog 15 #[.slice ao xs.length cap] w' fun e w'' => e = .returned (.int .i64 (longN xs : Nat)) ∧ w' = w'' := fun w' hb => refLong_any _ xs w' (hx.below hb) (by omega)
  have hlen : xs.length ≤ longN xs := Nat.le_add_right _ _
  have hxz : ∀ x ∈ xs, x.size ≤ 140737488355328 := fun x h => by have := size_le_long h; omega
  obtain ⟨x, hxn⟩ : ∃ x, xs[n - 1]? = some x := ⟨xs[n - 1]'(by omega), List.getElem?_eq_getElem (by omega)⟩
  have hgd : xs.getD (n - 1) ⟨#[]⟩ = x := getD_of hxn
  obtain ⟨l1, r1⟩ := run_q O0 xs n (n - 1) 1000 (startD [cmO 113 (.line n) false]) rfl (by show 0 + (n - 1) + 1 = n; omega) hn2 (by omega) (by show 0 + (n - 1) + 1 < 8796093022208; omega)
  obtain ⟨l2, r2⟩ := run_dn O0 xs n hn xs.length 1000 (startD [cmO 100 (.line n) true]) rfl (by show 0 + _ = _; omega) hn2 (by omega) (by show 0 + 1 < 8796093022208; omega)
  obtain ⟨l3, r3⟩ := run_pn O0 xs n hn xs.length 1000 (startD [cmO 112 (.line n) false]) rfl (by show 0 + _ = _; omega) hn2 (by omega) (by show 0 + (if 0 < n then 1 else 0) < 8796093022208; rw [if_pos (by omega)]; omega)
  have r1 : runD O0 [cmO 113 (.line n) false] xs false (1000 : Int).toNat (startD [cmO 113 (.line n) false]) = some (xs.take n, l1, 0) := by
    rw [show (1000 : Int).toNat = 1000 from rfl, r1]
    show some ([] ++ (xs.drop 0).take (n - 1 + 1), l1, (0 : Int)) = _
    rw [List.drop_zero, List.nil_append, show n - 1 + 1 = n by omega]
  have r2 : runD O0 [cmO 100 (.line n) true] xs false (1000 : Int).toNat (startD [cmO 100 (.line n) true]) = some ([x], l2, 0) := by
    rw [show (1000 : Int).toNat = 1000 from rfl, r2]
    show some ([] ++ (if 0 < n then [xs.getD (n - 1) ⟨#[]⟩] else []), l2, (0 : Int)) = _
    rw [if_pos (by omega), hgd]
    rfl
  have r3 : runD O0 [cmO 112 (.line n) false] xs true (1000 : Int).toNat (startD [cmO 112 (.line n) false]) = some ([x], l3, 0) := by
    rw [show (1000 : Int).toNat = 1000 from rfl, r3]
    show some ([] ++ (if 0 < n then [xs.getD (n - 1) ⟨#[]⟩] else []), l3, (0 : Int)) = _
    rw [if_pos (by omega), hgd]
    rfl
  obtain ⟨N, hN⟩ : ∃ N, N = xs.length := ⟨_, rfl⟩
  have k1 := fun w' (hb : Below w.heap.size w w') => run_lit [cmO 113 (.line n) false] (by intro c hc; rw [List.mem_singleton] at hc; subst hc; exact ⟨⟨rfl, rfl, rfl, rfl⟩, (show (113 : UInt8) ≠ 115 by decide), rfl⟩) (show 1 ≤ 1000000 by omega) #[.int .u8 113, .int .i64 1, .int .i64 (n : Int), .slice none 0 0, .int .i64 0, .int .i64 0, .slice none 0 0, .bool false, .slice none 0 0, .slice none 0 0, .bool false, .bool false, .string ⟨#[]⟩] rfl xs (.slice ao xs.length cap) false 1000 w w' hb hx hxz (by omega) _ r1
  have k2 := fun w' (hb : Below w.heap.size w w') => run_lit [cmO 100 (.line n) true] (by intro c hc; rw [List.mem_singleton] at hc; subst hc; exact ⟨⟨rfl, rfl, rfl, rfl⟩, (show (100 : UInt8) ≠ 115 by decide), rfl⟩) (show 1 ≤ 1000000 by omega) #[.int .u8 100, .int .i64 1, .int .i64 (n : Int), .slice none 0 0, .int .i64 0, .int .i64 0, .slice none 0 0, .bool true, .slice none 0 0, .slice none 0 0, .bool false, .bool false, .string ⟨#[]⟩] rfl xs (.slice ao xs.length cap) false 1000 w w' hb hx hxz (by omega) _ r2
  have k3 := fun w' (hb : Below w.heap.size w w') => run_lit [cmO 112 (.line n) false] (by intro c hc; rw [List.mem_singleton] at hc; subst hc; exact ⟨⟨rfl, rfl, rfl, rfl⟩, (show (112 : UInt8) ≠ 115 by decide), rfl⟩) (show 1 ≤ 1000000 by omega) #[.int .u8 112, .int .i64 1, .int .i64 (n : Int), .slice none 0 0, .int .i64 0, .int .i64 0, .slice none 0 0, .bool false, .slice none 0 0, .slice none 0 0, .bool false, .bool false, .string ⟨#[]⟩] rfl xs (.slice ao xs.length cap) true 1000 w w' hb hx hxz (by omega) _ r3
  have kq : ∀ (B : Nat) (a : Option Addr) (c : Nat) (w1 w2 : World), w1.ownsRow B 9 1 (.slice a n c) n (strC (xs.take n)) → Below w1.heap.size w1 w2 → Below w.heap.size w w2 → Calls Tryz.prog 14 #[.slice a n c, .slice ao n cap] w2 fun e w' => e = .returned (.bool true) ∧ Below w2.heap.size w2 w' := fun B a c w1 w2 ho h12 hb => by
    have h1 : Strs (.slice a n c) (xs.take n) w2 := (strs_of_owns ho (by rw [List.length_take]; omega) (by omega)).below h12
    have := refSameS_any _ _ _ _ w2 h1 (strs_take (hx.below hb) n hn2)
    rw [decide_eq_true rfl] at this
    exact this
  have hcell : ∀ w', Below w.heap.size w w' → ∃ b o, ao = some ⟨b, o, none⟩ ∧ w'.cell? ⟨b, o + (n - 1), none⟩ = some (.string x) := fun w' hb => by
    obtain ⟨b, o, h1, _, h3⟩ := (hx.below hb).at hxn
    exact ⟨b, o, h1, h3⟩
  have hone : ∀ (B : Nat) (a : Option Addr) (c : Nat) (w1 w2 : World), w1.ownsRow B 9 1 (.slice a 1 c) 1 (strC [x]) → Below w1.heap.size w1 w2 → ∃ b, a = some ⟨b, 0, none⟩ ∧ w2.cell? ⟨b, 0, none⟩ = some (.string x) := fun B a c w1 w2 ho h12 => by
    obtain ⟨g, cp, hv⟩ := owned_slice ho (by omega)
    injection hv with hv _ _
    subst hv
    have h1 : Strs (.slice (some ⟨g, 0, none⟩) 1 c) [x] w2 := (strs_of_owns ho rfl (by omega)).below h12
    obtain ⟨b, o, e, _, h3⟩ := h1.at (j := 0) (x := x) rfl
    injection e with e
    injection e with e1 e2
    subst e1
    subst e2
    exact ⟨g, rfl, h3⟩
  simp only [List.length_cons, List.length_nil, Nat.zero_add, List.length_take, Nat.min_eq_left hn2] at k1 k2 k3
  have HX := Lib.hid (And.intro kq (And.intro hcell hone))
  have g1 : decide ((200 : Int) < ((longN xs : Nat) : Int)) = false := decide_eq_false (by omega)
  have g2 : decide ((n : Int) < (1 : Int)) = false := decide_eq_false (by omega)
  have g3 : decide ((xs.length : Int) < (n : Int)) = false := decide_eq_false (by omega)
  have hNs : xs.length ≤ 200 := by omega
  have hcp : n ≤ cap := by have := hx.len; omega
  clear hx hxz hm r1 r2 r3 kq hcell hone hgd hxn hl
  rw [← hN] at hn2 hlen g3 hNs kl k1 k2 k3 ⊢
  generalize longN xs = L at kl g1 hlen
  clear hN
  go_enter Tryz.func7, Tryz.ntmps7
  go_upto_region 5 with (first
    | (go_at_call 9; (with_reducible refine kS.mono ?_); rintro e w1 ⟨rfl, hb1⟩; have H1 := Lib.hid hb1; clear hb1 kS)
    | (go_at_call 15; (with_reducible refine (kl _ H1.out).mono ?_); rintro e w2 ⟨rfl, rfl⟩; clear kl))
  have hw2 : Below w.heap.size w (w1.alloc (.cells #[.int .i64 1, .int .i64 (n : Int), .slice none 0 0] 39)) := H1.out.alloc H1.out.size _
  have hlt : w1.heap.size < (w1.alloc (.cells #[.int .i64 1, .int .i64 (n : Int), .slice none 0 0] 39)).heap.size := by unfold World.alloc; simp
  have d0 := cell_new w1 #[.int .i64 1, .int .i64 (n : Int), .slice none 0 0] 39 0 _ rfl
  have d1 := cell_new w1 #[.int .i64 1, .int .i64 (n : Int), .slice none 0 0] 39 1 _ rfl
  have d2 := cell_new w1 #[.int .i64 1, .int .i64 (n : Int), .slice none 0 0] 39 2 _ rfl
  generalize w1.alloc (.cells #[.int .i64 1, .int .i64 (n : Int), .slice none 0 0] 39) = w2 at hw2 hlt d0 d1 d2 ⊢
  generalize w1.heap.size = g at hlt d0 d1 d2 ⊢
  clear H1
  have HD := Lib.hid (show ∀ w', Below w2.heap.size w2 w' → w'.cell? ⟨g, 0, none⟩ = some (.int .i64 1) ∧ w'.cell? ⟨g, 1, none⟩ = some (.int .i64 (n : Int)) ∧ w'.cell? ⟨g, 2, none⟩ = some (.slice none 0 0) from fun w' hb => ⟨cell_stays hb d0, cell_stays hb d1, cell_stays hb d2⟩)
  have H2 := Lib.hid hw2
  clear hw2 hlt
  go_upto_region 6 with (first
    | (go_at_call 13; (with_reducible refine (k1 _ H2.out).mono ?_); rintro e w3 ⟨a3, c3, rfl, ho3, hb3⟩; have O3 := Lib.hid ho3; have B3 := Lib.hid hb3; have H3 := Lib.hid (H2.out.trans (hb3.mono H2.out.size)); clear hb3 ho3 k1))
  clear d0 d1 d2
  obtain ⟨d0, d1, d2⟩ := HD.out w3 B3.out
  go_upto_region 7 with (first
    | (go_at_call 13; (with_reducible refine (k2 _ H3.out).mono ?_); rintro e w4 ⟨a4, c4, rfl, ho4, hb4⟩; have O4 := Lib.hid ho4; have B4 := Lib.hid hb4; have H4 := Lib.hid (H3.out.trans (hb4.mono H3.out.size)); clear hb4 ho4 k2))
  clear d0 d1 d2
  obtain ⟨d0, d1, d2⟩ := HD.out w4 (B3.out.trans (B4.out.mono B3.out.size))
  go_upto_region 8 with (first
    | (go_at_call 13; (with_reducible refine (k3 _ H4.out).mono ?_); rintro e w5 ⟨a5, c5, rfl, ho5, hb5⟩; have O5 := Lib.hid ho5; have B5 := Lib.hid hb5; have H5 := Lib.hid (H4.out.trans (hb5.mono H4.out.size)); clear hb5 ho5 k3))
  clear d0 d1 d2 HD
  go_upto_region 10 with fail
  obtain ⟨b4, rfl, e4⟩ := HX.out.2.2 _ a4 c4 w4 w5 O4.out B5.out
  obtain ⟨b5, rfl, e5⟩ := HX.out.2.2 _ a5 c5 w5 w5 O5.out (Below.refl _ _)
  obtain ⟨bo, oo, eao, e6⟩ := HX.out.2.1 w5 H5.out
  subst eao
  have b35 : Below w3.heap.size w3 w5 := B4.out.trans (B5.out.mono B4.out.size)
  have kA := fun Z (hb : Below w5.heap.size w5 Z) => HX.out.1 _ a3 c3 w3 Z O3.out (b35.trans (hb.mono b35.size)) (H5.out.trans (hb.mono H5.out.size))
  obtain ⟨m, hm1⟩ : ∃ m, n = m + 1 := ⟨n - 1, by omega⟩
  have e6 : w5.cell? ⟨bo, oo + m, none⟩ = some (.string x) := by rw [show m = n - 1 by omega]; exact e6
  have HS := Lib.hid (show ∀ Z, Below w5.heap.size w5 Z → (Z.cell? ⟨b4, 0, none⟩ = some (.string x) ∧ Z.cell? ⟨b5, 0, none⟩ = some (.string x) ∧ Z.cell? ⟨bo, oo + m, none⟩ = some (.string x)) from fun Z hb => ⟨cell_stays hb e4, cell_stays hb e5, cell_stays hb e6⟩)
  have j0 : (0 : Int) ≤ (n : Int) := by omega
  have j1 : (n : Int) ≤ (cap : Int) := by omega
  have j2 : (n : Int) ≤ (N : Int) := by omega
  have j3 : (0 : Int) ≤ (m : Int) := by omega
  have j4 : (m : Int) < (N : Int) := by omega
  have j5 : IntKind.i64.wrap ((n : Int) - 1) = (m : Int) := by rw [IntKind.wrap_i64]; omega
  clear hm1
  clear e4 e5 b35 HX O3 O4 O5 B3 B4 B5 H2 H3 H4 r1 r2 r3
  go_region_held3 (fun Z => Z.cell? ⟨b4, 0, none⟩ = some (.string x) ∧ Z.cell? ⟨b5, 0, none⟩ = some (.string x) ∧ Z.cell? ⟨bo, oo + m, none⟩ = some (.string x))
    (first | with_reducible exact HS.out _ (Below.refl _ w5).drew | with_reducible exact HS.out _ hb8)
    (first
      | (go_at_call 14; refine (kA _ (Below.refl _ _).drew).mono ?_; rintro e w7 ⟨rfl, hb7⟩; have hb8 : Below w5.heap.size w5 w7 := (Below.refl _ w5).drew.trans (hb7.mono (Nat.le_refl _))))
  go_wp2_with fail
  exact bodyPost_ret (results_tmp rfl _ _ _) rfl ⟨rfl, H5.out.trans (hb8.mono H5.out.size)⟩
/-- StreamQuits, at every input within the condition. -/
theorem quits9_any (W : World) (ao : Option Addr) (cap : Nat) (xs : List ByteArray) (hx : Strs (.slice ao xs.length cap) xs W) (hl : longN xs ≤ 1048576) (n : Int) (hn : -9223372036854775808 ≤ n ∧ n ≤ 9223372036854775807) (hm : Mx W) :
    Calls Tryz.prog 7 #[.slice ao xs.length cap, .int .i64 n] W fun e w' => e = .returned (.bool true) ∧ Below W.heap.size W w' := by
  by_cases h : 200 < longN xs ∨ longN xs ≤ 200 ∧ n < 1 ∨ longN xs ≤ 200 ∧ 1 ≤ n ∧ (xs.length : Int) < n
  · exact quits_out ao cap xs n W hx hm (by omega) hn h
  · obtain ⟨m, rfl⟩ : ∃ m : Nat, n = (m : Int) := ⟨n.toNat, by omega⟩
    exact quits_in ao cap xs m W hx hm (by omega) (by omega) (by omega)
end Go.Proofs.YtkgpnlldlekcbaaGreatDoor
