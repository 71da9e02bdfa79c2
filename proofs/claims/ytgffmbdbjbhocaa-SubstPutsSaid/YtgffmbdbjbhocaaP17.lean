/- Packed texts: SubstPutsWalk. What each of them proves stands above its theorems; the conditions stand in these. -/
import Derived.Test.YtgffmbdbjbhocaaP14
namespace Go.Proofs.Ytgffmbdbjbhocaa
open Go.RowKit Go.Lib

set_option maxHeartbeats 1000000 in
set_option maxRecDepth 20000 in
theorem puts_out (ao : Option Addr) (N cap : Nat) (what : ByteArray) (w : World) (_hN : N ≤ 9223372036854775807) (_hw : what.size ≤ 140737488351232) (h : 20 < N ∨ (N ≤ 20 ∧ 100 < what.size) ∨ (N = 0 ∧ what.size ≤ 100)) :
    Calls Try.prog 15 #[.slice ao N cap, .string what] w fun e w' => e = .returned (.bool true) ∧ Below w.heap.size w w' := by
  have ks := fun w => shownS_any w
  rcases h with h | ⟨h, h2⟩ | ⟨rfl, h2⟩
  · have h1 : decide ((20 : Int) < (N : Int)) = true := by simp; omega
    go_enter Try.func15, Try.ntmps15
    go_wp2_with (first
      | (go_at_call 37; refine (ks _).mono ?_; rintro e w1 ⟨rfl, hb1⟩; have H1 := Lib.hid hb1; clear hb1 ks)
      | fail)
    exact bodyPost_ret (results_tmp rfl _ _ _) rfl ⟨rfl, H1.out⟩
  · have h1 : decide ((20 : Int) < (N : Int)) = false := by simp; omega
    have h3 : decide ((100 : Int) < (what.size : Int)) = true := by simp; omega
    go_enter Try.func15, Try.ntmps15
    go_wp2_with (first
      | (go_at_call 37; refine (ks _).mono ?_; rintro e w1 ⟨rfl, hb1⟩; have H1 := Lib.hid hb1; clear hb1 ks)
      | fail)
    exact bodyPost_ret (results_tmp rfl _ _ _) rfl ⟨rfl, H1.out⟩
  · have h3 : decide ((100 : Int) < (what.size : Int)) = false := by simp; omega
    go_enter Try.func15, Try.ntmps15
    go_wp2_with (first
      | (go_at_call 37; refine (ks _).mono ?_; rintro e w1 ⟨rfl, hb1⟩; have H1 := Lib.hid hb1; clear hb1 ks)
      | fail)
    exact bodyPost_ret (results_tmp rfl _ _ _) rfl ⟨rfl, H1.out⟩
theorem sum_take {xs : List ByteArray} {k : Nat} {x : ByteArray} (h : xs[k]? = some x) : ((xs.take (k + 1)).map (·.size)).sum = ((xs.take k).map (·.size)).sum + x.size := long_take h
set_option maxHeartbeats 4000000 in
set_option maxRecDepth 100000 in
theorem puts_in (ao : Option Addr) (N cap : Nat) (xs : List ByteArray) (what R : ByteArray) (w : World) (hN : N = xs.length) (hN0 : 0 < N) (hN2 : N ≤ 20) (hw : what.size ≤ 100) (hx : Strs (.slice ao N cap) xs w) (hxs : ∀ x ∈ xs, x.size ≤ 9223372036854775807)
    (hR : (∀ x ∈ xs, x.size ≤ 100) → R.size = (N - 1) * what.size + (xs.map (·.size)).sum) (k1 : (∀ x ∈ xs, x.size ≤ 100) → ∀ w, Strs (.slice ao N cap) xs w → Calls Try.prog 44 #[.slice ao N cap, .string what] w fun e w' => e = .returned (.string R) ∧ Below w.heap.size w w')
    (k2 : ∀ x0, xs[0]? = some x0 → x0.size ≤ 100 → ∀ w, Strs (.slice ao 1 cap) [x0] w → Calls Try.prog 44 #[.slice ao 1 cap, .string what] w fun e w' => e = .returned (.string x0) ∧ Below w.heap.size w w') :
    Calls Try.prog 15 #[.slice ao N cap, .string what] w fun e w' => e = .returned (.bool true) ∧ Below w.heap.size w w' := by
  have ks := fun w => shownS_any w
  obtain ⟨P, hP⟩ : ∃ P, P = N - 1 := ⟨_, rfl⟩
  obtain ⟨Z, hZ⟩ : ∃ Z, Z = P * what.size := ⟨_, rfl⟩
  have hZb : Z ≤ 2000 := by rw [hZ]; exact Nat.mul_le_mul (show P ≤ 20 by omega) hw
  have h1 : decide ((20 : Int) < (N : Int)) = false := by simp; omega
  have h2 : decide ((100 : Int) < (what.size : Int)) = false := by simp; omega
  have h3 : ((N : Int) == 0) = false := by rw [beq_eq_false_iff_ne]; omega
  have hPw : IntKind.i64.wrap ((N : Int) - 1) = (P : Int) := by rw [IntWalk.i64_in _ (by omega)]; omega
  have hmul : (P : Int) * (what.size : Int) = (Z : Int) := by rw [hZ]; exact (Int.natCast_mul _ _).symm
  have hcap := hx.len.2.1
  have H := Lib.hid (And.intro hN (And.intro hx (And.intro hxs (And.intro hR (And.intro hP hZ)))))
  have hc1 : (1 : Int) ≤ (cap : Int) := by omega
  have hZw : IntKind.i64.wrap ((P : Int) * (what.size : Int)) = (Z : Int) ∧ wrap64 ((P : Int) * (what.size : Int)) = (Z : Int) := by
    rw [hmul]
    exact ⟨IntWalk.i64_in _ (by omega), IntWalk.wrap64_in _ ⟨by omega, by omega⟩⟩
  have HZ := Lib.hid hZw
  clear hN hx hxs hR hP hZ hZw
  go_enter Try.func15, Try.ntmps15
  go_wp2_with (first
    | (go_at_call 37; refine (ks _).mono ?_; rintro e w1 ⟨rfl, hb1⟩; have H1 := Lib.hid hb1; clear hb1 ks)
    | fail)
  clear hPw h1 h2 h3 hmul
  go_loop [6, 7] (fun v6 v7 => ∃ (i z : Nat), v6 = .int .i64 z ∧ v7 = .int .i64 i ∧ i ≤ N ∧ z ≤ 2000 + 100 * i ∧ Hid (z = Z + ((xs.take i).map (·.size)).sum ∧ ∀ x ∈ xs.take i, x.size ≤ 100)) (fun _ v7 => N - (RowKit.intOf v7).toNat)
  case atStart => exact ⟨0, Z, rfl, rfl, by omega, by omega, by simp, fun x hx => by simp at hx⟩
  case round =>
    obtain ⟨i, z, rfl, rfl, hi, hzb, HR⟩ := hrel
    by_cases hlt : i < N
    · obtain ⟨x, hx⟩ : ∃ x, xs[i]? = some x := ⟨xs[i]'(by have := H.out.1; omega), List.getElem?_eq_getElem _⟩
      obtain ⟨b, o, rfl, hb, cx⟩ := (H.out.2.1.below H1.out).at hx
      have hltI : (i : Int) < (N : Int) := by omega
      have hsx := H.out.2.2.1 x (List.mem_of_getElem? hx)
      by_cases hx1 : x.size ≤ 100
      · have t1 : decide ((100 : Int) < (x.size : Int)) = false := by simp; omega
        have HX := Lib.hid hx
        clear hx hb
        go_wp2
        go_round
        case rel =>
          refine ⟨i + 1, z + x.size, by go_num, by go_num, by omega, by omega, ?_, fun y hy => ?_⟩
          · rw [sum_take HX.out, HR.out.1]; omega
          · rw [List.take_add_one, HX.out] at hy
            rcases List.mem_append.1 hy with hy | hy
            · exact HR.out.2 y hy
            · have : y = x := by simpa using hy
              rw [this]; exact hx1
        case measure => simp [RowKit.intOf]; omega
      · have t1 : decide ((100 : Int) < (x.size : Int)) = true := by simp; omega
        clear hx hb
        go_wp2
        exact bodyPost_ret (results_tmp rfl _ _ _) rfl ⟨rfl, H1.out⟩
    · have hd0 : decide ((i : Int) < (N : Int)) = false := by simp; omega
      have hall : ∀ x ∈ xs, x.size ≤ 100 := by
        have e := HR.out.2
        rw [List.take_of_length_le (by have := H.out.1; omega)] at e
        exact e
      have hz : R.size = z := by
        have e := HR.out.1
        rw [List.take_of_length_le (by have := H.out.1; omega)] at e
        rw [H.out.2.2.2.1 hall, e, H.out.2.2.2.2.2, H.out.2.2.2.2.1]
      obtain ⟨x0, hx0⟩ : ∃ x, xs[0]? = some x := ⟨xs[0]'(by have := H.out.1; omega), List.getElem?_eq_getElem _⟩
      obtain ⟨b, o, rfl, hb, cx⟩ := (H.out.2.1.below H1.out).at hx0
      rw [Nat.add_zero] at cx
      have hx0s := hall x0 (List.mem_of_getElem? hx0)
      have k1 := k1 hall
      have k2 := k2 x0 hx0 hx0s
      have q1 : ((R.size : Int) == (z : Int)) = true := by rw [hz]; simp
      have q2 : (x0.toList == x0.toList) = true := by simp
      have hN1 : (0 : Int) < (N : Int) := by omega
      have st1 : ∀ w', Below w1.heap.size w1 w' → Strs (.slice (some ⟨b, o, none⟩) 1 cap) [x0] w' := fun w' hb' => by
        refine ⟨_, _, rfl, by show 1 ≤ cap; omega, by simp, fun j y hj => ⟨b, o, rfl, Nat.lt_of_lt_of_le hb hb'.size, ?_⟩⟩
        have hj0 : j = 0 ∧ y = x0 := by
          cases j with
          | zero => exact ⟨rfl, by simpa using hj.symm⟩
          | succ j => simp at hj
        obtain ⟨rfl, rfl⟩ := hj0
        rw [Nat.add_zero, ← cx]
        unfold World.cell?
        rw [hb'.block b hb]
      have ST1 := Lib.hid st1
      have HB0 := Lib.hid (And.intro hb cx)
      clear hall hz hx0 hb st1
      go_wp2_with fail
      have cxd : w1.drew.cell? ⟨b, o, none⟩ = some (.string x0) := cx
      go_region_held3 (fun W => W.cell? ⟨b, o, none⟩ = some (.string x0))
        (first | with_reducible exact cxd | with_reducible exact hc2 | with_reducible exact hc3 | fail)
        (first
          | (go_at_call 44; first
              | (with_reducible refine (k1 _ (H.out.2.1.below (by first | exact H1.out.drew | exact H1.out | exact H1.out.trans (hd2.mono H1.out.size)))).mono ?_; rintro e w2 ⟨rfl, hb2⟩
                 have hd2 : Below w1.heap.size w1 w2 := by first | exact ((Below.refl _ w1).drew).trans hb2 | exact hd3.trans (hb2.mono hd3.size)
                 have hc2 : w2.cell? ⟨b, o, none⟩ = some (.string x0) := by rw [← HB0.out.2]; unfold World.cell?; rw [hd2.block b HB0.out.1]
                 clear hb2)
              | (with_reducible refine (k2 _ (ST1.out _ (by first | exact (Below.refl _ w1).drew | exact hd2))).mono ?_; rintro e w3 ⟨rfl, hb3⟩
                 have hd3 : Below w1.heap.size w1 w3 := by first | exact hd2.trans (hb3.mono hd2.size) | exact ((Below.refl _ w1).drew).trans hb3
                 have hc3 : w3.cell? ⟨b, o, none⟩ = some (.string x0) := by rw [← HB0.out.2]; unfold World.cell?; rw [hd3.block b HB0.out.1]
                 clear hb3))
          | fail)
      all_goals
        go_wp2
        first
          | exact bodyPost_ret (results_tmp rfl _ _ _) rfl ⟨rfl, H1.out.trans (hd3.mono H1.out.size)⟩
          | exact bodyPost_ret (results_tmp rfl _ _ _) rfl ⟨rfl, H1.out.trans (hd2.mono H1.out.size)⟩
/-- The statement's function, at every input. -/
theorem substPuts_walk (w : World) (ao : Option Addr) (cap : Nat) (xs : List ByteArray) (hxs : xs.length ≤ 9223372036854775807 ∧ (∀ x ∈ xs, x.size ≤ 9223372036854775807) ∧ (xs.length ≤ 140737488355328 → Strs (.slice ao xs.length cap) xs w)) (what : ByteArray) (hw : what.size ≤ 140737488351232) :
    Calls Try.prog 15 #[.slice ao xs.length cap, .string what] w fun e w' => e = .returned (.bool true) ∧ Below w.heap.size w w' := by
  obtain ⟨h1, h2, h3⟩ := hxs
  by_cases c1 : 20 < xs.length
  · exact puts_out ao _ cap what w h1 hw (.inl c1)
  · by_cases c2 : 100 < what.size
    · exact puts_out ao _ cap what w h1 hw (.inr (.inl ⟨by omega, c2⟩))
    · by_cases c3 : xs.length = 0
      · exact puts_out ao _ cap what w h1 hw (.inr (.inr ⟨c3, by omega⟩))
      · have hS := h3 (by omega)
        have hsize : (joinB xs what).size = (xs.length - 1) * what.size + (xs.map (·.size)).sum := by
          cases xs with
          | nil => simp at c3
          | cons y r =>
            rw [joinB_size, List.map_cons, Lib.join_length, List.length_map]
            have e : Lib.lens (y.data.toList :: r.map (·.data.toList)) = ((y :: r).map (·.size)).sum := by
              unfold Lib.lens
              rw [List.map_cons, List.map_map, List.map_cons]
              rfl
            rw [e, show what.data.toList.length = what.size from Array.length_toList, List.length_cons, Nat.add_sub_cancel, Nat.mul_comm]
        refine puts_in ao _ cap xs what (joinB xs what) w rfl (by omega) (by omega) (by omega) hS h2 (fun _ => hsize) (fun hall w h => putS_any _ xs what w h ?_) (fun x0 h0 hx0 w h => ?_)
        · have hsum : ∀ l : List ByteArray, (∀ x ∈ l, x.size ≤ 100) → (l.map (·.size)).sum ≤ l.length * 100 := by
            intro l
            induction l with
            | nil => intro _; simp
            | cons y l ih =>
              intro h
              have h4 := ih fun x hx => h x (List.mem_cons_of_mem _ hx)
              have h5 := h y List.mem_cons_self
              rw [List.map_cons, List.sum_cons, List.length_cons, Nat.add_mul]
              omega
          have h4 := hsum xs hall
          have h5 : (xs.length - 1) * what.size ≤ 20 * 100 := Nat.mul_le_mul (by omega) (by omega)
          rw [hsize]
          omega
        · have e : joinB [x0] what = x0 := by
            apply ba_ext
            rw [joinB_list]
            simp [Lib.join_one]
          have := putS_any (.slice ao 1 cap) [x0] what w h (by rw [e]; omega)
          rwa [e] at this
end Go.Proofs.Ytgffmbdbjbhocaa
