/- Packed texts: StreamLinesWalk. What each of them proves stands above its theorems; the conditions stand in these. -/
import Derived.Test.YtkgpnlldlekcbaaGreatDoorX35
namespace Go.Proofs.YtkgpnlldlekcbaaGreatDoor
open Go.RowKit Go.Lib
attribute [local go_sem] Oper.semAt_some

def endB (xs : List ByteArray) : ByteArray := ⟨(endL (xs.map (·.data.toList))).toArray⟩
theorem cut_front9 (s : ByteArray) (n : Nat) : (s.extract 0 n).data.toList = s.data.toList.take n := by
  rw [ByteArray.data_extract, Array.toList_extract]
  simp
theorem endB_next (xs : List ByteArray) (k : Nat) (x : ByteArray) (h : xs[k]? = some x) : endB (xs.take k) ++ x ++ ⟨#[10]⟩ = endB (xs.take (k + 1)) := by
  apply ba_ext
  rw [ByteArray.data_append, ByteArray.data_append, Array.toList_append, Array.toList_append]
  show endL ((xs.take k).map _) ++ x.data.toList ++ [10] = endL ((xs.take (k + 1)).map _)
  rw [List.take_add_one, h]
  unfold endL
  simp
theorem endB_size (xs : List ByteArray) : (endB xs).size = longN xs := by
  show (endL (xs.map (·.data.toList))).toArray.size = _
  rw [List.size_toArray]
  unfold longN endL
  induction xs with
  | nil => rfl
  | cons x xs ih =>
    have hx : x.data.toList.length = x.size := Array.length_toList
    simp only [List.map_cons, List.flatMap_cons, List.length_append, List.length_cons, List.length_nil, List.sum_cons, ih, hx]
    omega
theorem endB_le (xs : List ByteArray) (k : Nat) : (endB (xs.take k)).size ≤ longN xs := by
  rw [endB_size]
  conv => rhs; rw [← List.take_append_drop k xs]
  unfold longN
  rw [List.length_append, List.map_append, List.sum_append]
  omega
/-- The last line's end left out. -/
theorem endB_mid (xs : List ByteArray) (x : ByteArray) (T : ByteArray) (h : T ++ ⟨#[10]⟩ = endB (xs ++ [x])) : T.data.toList = midL ((xs ++ [x]).map (·.data.toList)) := by
  have h1 := congrArg (fun a : ByteArray => a.data.toList) h
  simp only [ByteArray.data_append, Array.toList_append] at h1
  have h2 : (endB (xs ++ [x])).data.toList = midL ((xs ++ [x]).map (·.data.toList)) ++ [10] := end_mid _ (by simp)
  rw [h2] at h1
  exact List.append_cancel_right h1
/-- Lines, of what it answers. -/
theorem lines_call (s : ByteArray) (xs : List ByteArray) (w : World) (hs : s.size < 4294967281) (hm : Mx w) (hl : linesB s = xs) (hn : xs.length ≤ 140737488355328) :
    Calls Tryz.prog 16 #[.string s] w fun e w' => ∃ a c, e = .returned (.slice a xs.length c) ∧ Strs (.slice a xs.length c) xs w' ∧ Below w.heap.size w w' := by
  refine (lines9_any s w hs hm).mono ?_
  rintro e w' ⟨⟨v, rfl, ho⟩, hb⟩
  rw [hl] at ho
  obtain ⟨a, c, rfl⟩ := own_zeroB ho
  exact ⟨a, c, rfl, strs_own ho hn, hb⟩
set_option maxHeartbeats 8000000 in
set_option maxRecDepth 100000 in
theorem lines_out (ao : Option Addr) (cap : Nat) (xs : List ByteArray) (w : World) (hx : Strs (.slice ao xs.length cap) xs w) (hm : Mx w) (hl : longN xs ≤ 9223372036854775807) (h : 500 < longN xs) :
    Calls Tryz.prog 5 #[.slice ao xs.length cap] w fun e w' => e = .returned (.bool true) ∧ Below w.heap.size w w' := by
  have kS := shown9_any w hm
  have kl : ∀ w', Below w.heap.size w w' → Calls Tryz.prog 15 #[.slice ao xs.length cap] w' fun e w'' => e = .returned (.int .i64 (longN xs : Nat)) ∧ w' = w'' := fun w' hb => refLong_any _ xs w' (hx.below hb) hl
  generalize longN xs = L at kl h hl
  generalize xs.length = N at kl ⊢
  clear hx hm
  have h1 : decide ((500 : Int) < (L : Int)) = true := decide_eq_true (by omega)
  go_enter Tryz.func5, Tryz.ntmps5
  go_wp2_with (first
    | (go_at_call 9; (with_reducible refine kS.mono ?_); rintro e w1 ⟨rfl, hb1⟩; have H1 := Lib.hid hb1; clear hb1 kS)
    | (go_at_call 15; (with_reducible refine (kl _ H1.out).mono ?_); rintro e w2 ⟨rfl, rfl⟩; clear kl))
  exact bodyPost_ret (results_tmp rfl _ _ _) rfl ⟨rfl, H1.out⟩
set_option maxHeartbeats 8000000 in
set_option maxRecDepth 100000 in
theorem lines_in (ao : Option Addr) (cap : Nat) (xs : List ByteArray) (w : World) (hx : Strs (.slice ao xs.length cap) xs w) (hm : Mx w) (hl : longN xs ≤ 500) :
    Calls Tryz.prog 5 #[.slice ao xs.length cap] w fun e w' => e = .returned (.bool true) ∧ Below w.heap.size w w' := by
  have kS := shown9_any w hm
  have kl : ∀ w', Below w.heap.size w w' → Calls Tryz.prog 15 #[.slice ao xs.length cap] w' fun e w'' => e = .returned (.int .i64 (longN xs : Nat)) ∧ w' = w'' := fun w' hb => refLong_any _ xs w' (hx.below hb) (by omega)
  have hlen : xs.length ≤ longN xs := Nat.le_add_right _ _
  have hA : ∀ k, (endB (xs.take k)).size ≤ 500 := fun k => Nat.le_trans (endB_le xs k) hl
  have hA0 : endB (xs.take 0) = ⟨#[]⟩ := rfl
  have hnext := endB_next xs
  have hbd : ∀ x ∈ xs, x.size ≤ 500 := fun x h => by have := size_le_long h; omega
  -- behind the loop: no line has a line's end in it
  have kL1 : ∀ w', Below w.heap.size w w' → (∀ x ∈ xs, ∀ c ∈ x.data.toList, c ≠ 10) → Calls Tryz.prog 16 #[.string (endB (xs.take xs.length))] w' fun e w'' => ∃ a c, e = .returned (.slice a xs.length c) ∧ Strs (.slice a xs.length c) xs w'' ∧ Below w'.heap.size w' w'' := fun w' hb hn =>
    lines_call _ xs w' (by have := hA xs.length; omega) (hm.below hb) (by rw [List.take_length]; exact lines_end _ xs hn rfl) (by omega)
  have kL2 : ∀ w' (T x : ByteArray), Below w.heap.size w w' → (∀ x ∈ xs, ∀ c ∈ x.data.toList, c ≠ 10) → xs[xs.length - 1]? = some x → x.data.toList ≠ [] → T ++ ⟨#[10]⟩ = endB (xs.take xs.length) → Calls Tryz.prog 16 #[.string T] w' fun e w'' => ∃ a c, e = .returned (.slice a xs.length c) ∧ Strs (.slice a xs.length c) xs w'' ∧ Below w'.heap.size w' w'' := fun w' T x hb hn hlast hne hT => by
    have hxs : xs.take (xs.length - 1) ++ [x] = xs := by
      have h1 : xs.take (xs.length - 1 + 1) = xs.take (xs.length - 1) ++ xs[xs.length - 1]?.toList := List.take_add_one
      have h2 : xs ≠ [] := by rintro rfl; cases hlast
      have h3 : 0 < xs.length := List.length_pos_iff.2 h2
      rw [hlast, show xs.length - 1 + 1 = xs.length by omega, List.take_length] at h1
      exact h1.symm
    have hsz := congrArg ByteArray.size hT
    rw [ByteArray.size_append] at hsz
    refine lines_call T xs w' (by have := hA xs.length; omega) (hm.below hb) ?_ (by omega)
    rw [List.take_length] at hT
    have := lines_mid T (xs.take (xs.length - 1)) x (by rw [hxs]; exact hn) hne (endB_mid _ x T (by rw [hxs]; exact hT))
    rw [hxs] at this
    exact this
  have kq : ∀ (a : Option Addr) (c : Nat) (w' : World), Strs (.slice a xs.length c) xs w' → Below w.heap.size w w' → Calls Tryz.prog 14 #[.slice a xs.length c, .slice ao xs.length cap] w' fun e w'' => e = .returned (.bool true) ∧ Below w'.heap.size w' w'' := fun a c w' h1 hb => by
    have := refSameS_any _ _ xs xs w' h1 (hx.below hb)
    rw [decide_eq_true rfl] at this
    exact this
  have hat : ∀ k x w', xs[k]? = some x → Below w.heap.size w w' → ∃ b o, ao = some ⟨b, o, none⟩ ∧ w'.cell? ⟨b, o + k, none⟩ = some (.string x) := fun k x w' hk hb => by
    obtain ⟨b, o, h1, _, h3⟩ := (hx.below hb).at hk
    exact ⟨b, o, h1, h3⟩
  have h1 : decide ((500 : Int) < ((longN xs : Nat) : Int)) = false := decide_eq_false (by omega)
  obtain ⟨N, hN⟩ : ∃ N, N = xs.length := ⟨_, rfl⟩
  have hex : ∀ k, k < N → ∃ x, xs[k]? = some x := fun k hk => ⟨xs[k]'(by omega), List.getElem?_eq_getElem (by omega)⟩
  have hall : (∀ k, k < N → ∀ x, xs[k]? = some x → ∀ c ∈ x.data.toList, c ≠ 10) → ∀ x ∈ xs, ∀ c ∈ x.data.toList, c ≠ 10 := fun h x hx => by
    obtain ⟨k, hk⟩ := List.mem_iff_getElem?.1 hx
    obtain ⟨hk2, _⟩ := List.getElem?_eq_some_iff.1 hk
    exact h k (by omega) x hk
  have hN5 : N ≤ 500 := by omega
  rw [← hN] at kL1 kL2 kq kl ⊢
  generalize longN xs = L at kl h1
  clear hl hlen hN hm hx
  have HX := Lib.hid (And.intro hnext (And.intro hA (And.intro hbd (And.intro kL1 (And.intro kL2 (And.intro kq (And.intro hat (And.intro hex hall))))))))
  clear hnext hA hbd kL1 kL2 kq hat hex hall
  go_enter Tryz.func5, Tryz.ntmps5
  go_wp2_with (first
    | (go_at_call 9; (with_reducible refine kS.mono ?_); rintro e w1 ⟨rfl, hb1⟩; have H1 := Lib.hid hb1; clear hb1 kS)
    | (go_at_call 15; (with_reducible refine (kl _ H1.out).mono ?_); rintro e w2 ⟨rfl, rfl⟩; clear kl))
  go_loopg [4, 5] (N + 1) (fun g s i wr => ∃ k : Nat, s = .string (endB (xs.take k)) ∧ i = .int .i64 k ∧ k ≤ N ∧ Hid (g = N + 1 - k) ∧ Hid (Below w.heap.size w wr) ∧ Hid (∀ j, j < k → ∀ x, xs[j]? = some x → ∀ c ∈ x.data.toList, c ≠ 10))
  case atStart => exact ⟨0, by rw [hA0], rfl, by omega, rfl, H1.out, fun j hj => by omega⟩
  case round =>
    obtain ⟨k, rfl, rfl, hk, HK, HW, HT⟩ := hrel
    by_cases hlt : k < N
    · have hltI : (k : Int) < (N : Int) := by omega
      obtain ⟨x, hx⟩ := HX.out.2.2.2.2.2.2.2.1 k hlt
      have hxz := HX.out.2.2.1 x (List.mem_of_getElem? hx)
      have hnx := HX.out.1 k x hx
      have hz1 := HX.out.2.1 (k + 1)
      have hz0 := congrArg ByteArray.size hnx
      rw [ByteArray.size_append, ByteArray.size_append] at hz0
      have hz2 := HX.out.2.1 k
      obtain ⟨A1, hA1⟩ : ∃ A1, A1 = endB (xs.take (k + 1)) := ⟨_, rfl⟩
      obtain ⟨A, hAe⟩ : ∃ A, A = endB (xs.take k) := ⟨_, rfl⟩
      rw [← hA1] at hnx hz1 hz0
      rw [← hAe] at hnx hz0 hz2 ⊢
      have s1 : (⟨#[10]⟩ : ByteArray).size = 1 := rfl
      have n1 : ¬ 9223372036854775807 < A.size + x.size := by omega
      have n2 : ¬ 9223372036854775807 < (A ++ x).size + 1 := by rw [ByteArray.size_append]; omega
      have n3 : ¬ 9223372036854775807 < A.size + x.size + 1 := by omega
      have n4 : ¬ 9223372036854775807 < A.size + x.size + (⟨#[10]⟩ : ByteArray).size := by omega
      obtain ⟨b, o, rfl, cx⟩ := HX.out.2.2.2.2.2.2.1 k x _ hx HW.out
      have HH := Lib.hid (And.intro hx (And.intro hnx (And.intro hA1 hAe)))
      clear hx hnx hA1 hAe hz0 hz1 s1
      go_wp2
      go_loopg [6] (x.size + 1) (fun g v6 wr2 => ∃ j : Nat, v6 = .int .i64 j ∧ j ≤ x.size ∧ Hid (g = x.size + 1 - j) ∧ Hid (Below w.heap.size w wr2) ∧ Hid (∀ c ∈ x.data.toList.take j, c ≠ 10))
      case atStart => exact ⟨0, rfl, by omega, rfl, HW.out, fun c hc => by cases hc⟩
      case round =>
        obtain ⟨j, rfl, hj, HJ, HV, HC⟩ := hrel
        obtain ⟨b2, o2, he, cx2⟩ := HX.out.2.2.2.2.2.2.1 k x _ HH.out.1 HV.out
        cases he
        by_cases hjl : j < x.size
        · have hjI : (j : Int) < (x.size : Int) := by omega
          obtain ⟨c, hc⟩ : ∃ c, x[j] = c := ⟨_, rfl⟩
          by_cases h10 : c = 10
          · have hv : (c.toNat : Int) = 10 := by rw [h10]; rfl
            clear h10
            go_wp2
            exact bodyPost_ret (results_tmp rfl _ _ _) rfl ⟨rfl, HV.out⟩
          · have hv : ¬ (c.toNat : Int) = 10 := fun e => h10 (UInt8.toNat_inj.1 (show c.toNat = 10 by omega))
            have hJ : IntKind.i64.wrap ((j : Int) + 1) = ((j + 1 : Nat) : Int) := by rw [IntWalk.i64_in _ (by omega)]; omega
            have hmem : ∀ d ∈ x.data.toList.take (j + 1), d ≠ 10 := fun d hd => by
              rw [List.take_add_one, List.mem_append] at hd
              rcases hd with hd | hd
              · exact HC.out d hd
              · have hxl : x.data.toList[j]? = some c := by
                  rw [Array.getElem?_toList, Array.getElem?_eq_getElem hjl]
                  exact congrArg some hc
                rw [hxl] at hd
                have : d = c := by simpa using hd
                rw [this]
                exact h10
            have HM := Lib.hid hmem
            clear hmem h10
            go_wp2
            go_roundg (x.size - j)
            case rel => exact ⟨j + 1, by go_num, by omega, by show _ = _; omega, HV.out, HM.out⟩
            case measure => have := HJ.out; omega
        · obtain rfl : j = x.size := by omega
          have hdec : decide ((x.size : Int) < (x.size : Int)) = false := decide_eq_false (by omega)
          have hxall : ∀ c ∈ x.data.toList, c ≠ 10 := by
            have := HC.out
            rw [List.take_of_length_le (by rw [Array.length_toList]; exact Nat.le_refl _)] at this
            exact this
          have HD := Lib.hid hxall
          have hK : IntKind.i64.wrap ((k : Int) + 1) = ((k + 1 : Nat) : Int) := by rw [IntWalk.i64_in _ (by omega)]; omega
          clear hxall
          go_wp2
          go_roundg (N - k)
          case rel =>
            refine ⟨k + 1, ?_, by go_num, by omega, by show _ = _; omega, HV.out, fun i hi y hy => ?_⟩
            · rw [← HH.out.2.2.1, ← HH.out.2.1]
            · by_cases hik : i = k
              · subst hik
                have hxy := HH.out.1.symm.trans hy
                cases hxy
                exact HD.out
              · exact HT.out i (by omega) y hy
          case measure => have := HK.out; omega
    · have hkN : k = N := by omega
      subst hkN
      have hdk : decide ((k : Int) < (k : Int)) = false := decide_eq_false (by omega)
      have hn := HX.out.2.2.2.2.2.2.2.2 HT.out
      have k1 := fun w' hb => HX.out.2.2.2.1 w' hb hn
      by_cases h0 : k = 0
      · subst h0
        have hd0 : decide ((0 : Int) < ((0 : Nat) : Int)) = false := rfl
        generalize endB (xs.take 0) = S at k1 ⊢
        have kq := HX.out.2.2.2.2.2.1
        go_wp2_with (first
          | (go_at_call 16; (with_reducible refine (k1 _ HW.out).mono ?_); rintro e w3 ⟨a3, c3, rfl, hs3, hb3⟩; have H3 := Lib.hid (HW.out.trans (hb3.mono HW.out.size)); have k4 := kq a3 c3 w3 hs3 H3.out; clear hb3 hs3 k1 kq)
          | (go_at_call 14; (with_reducible refine k4.mono ?_); rintro e w4 ⟨rfl, hb4⟩))
        exact bodyPost_ret (results_tmp rfl _ _ _) rfl ⟨rfl, H3.out.trans (hb4.mono H3.out.size)⟩
      · obtain ⟨x, hx⟩ := HX.out.2.2.2.2.2.2.2.1 (k - 1) (by omega)
        obtain ⟨b, o, rfl, cx⟩ := HX.out.2.2.2.2.2.2.1 (k - 1) x _ hx HW.out
        have hd0 : decide ((0 : Int) < (k : Int)) = true := decide_eq_true (by omega)
        have i1 : ((k : Int) - 1).toNat = k - 1 := by omega
        have j3 : (0 : Int) ≤ (k : Int) - 1 := by omega
        have j4 : (k : Int) - 1 < (k : Int) := by omega
        have j5 : IntKind.i64.wrap ((k : Int) - 1) = (k : Int) - 1 := by rw [IntKind.wrap_i64]; omega
        have kq := HX.out.2.2.2.2.2.1
        by_cases hxe : x = ⟨#[]⟩
        · subst hxe
          clear hx hn
          generalize endB (xs.take k) = S at k1 ⊢
          go_wp2_with (first
            | (go_at_call 16; (with_reducible refine (k1 _ HW.out).mono ?_); rintro e w3 ⟨a3, c3, rfl, hs3, hb3⟩; have H3 := Lib.hid (HW.out.trans (hb3.mono HW.out.size)); have k4 := kq a3 c3 w3 hs3 H3.out; clear hb3 hs3 k1 kq)
            | (go_at_call 14; (with_reducible refine k4.mono ?_); rintro e w4 ⟨rfl, hb4⟩))
          exact bodyPost_ret (results_tmp rfl _ _ _) rfl ⟨rfl, H3.out.trans (hb4.mono H3.out.size)⟩
        · have hnx := HX.out.1 (k - 1) x hx
          rw [show k - 1 + 1 = k by omega] at hnx
          have hSz := HX.out.2.1 k
          generalize hT : endB (xs.take (k - 1)) ++ x = T at hnx
          have hxl : x.data.toList ≠ [] := fun h => hxe (ba_ext (by rw [h]))
          have hE : x.toList.isEmpty = false := by rw [Lib.toList_data]; simpa using hxl
          have k2 := fun w' hb => HX.out.2.2.2.2.1 w' T x hb hn hx hxl hnx
          generalize endB (xs.take k) = S at k1 k2 hnx hSz ⊢
          have hS1 : S.size = T.size + 1 := by rw [← hnx, ByteArray.size_append]; rfl
          have hcut : S.extract 0 T.size = T := by
            rw [← hnx]
            apply ba_ext
            rw [cut_front9, ByteArray.data_append, Array.toList_append]
            exact List.take_left' Array.length_toList
          have m1 : IntKind.i64.wrap ((S.size : Int) - 1) = (T.size : Int) := by rw [IntKind.wrap_i64]; omega
          have m2 : (T.size : Int) ≤ (S.size : Int) := by omega
          have m3 : (0 : Int) ≤ (T.size : Int) := by omega
          clear hn hx hT hnx hxl
          have m4 : ((S.size : Int) - 1).toNat = T.size := by omega
          have m5 : (0 : Int) ≤ (S.size : Int) - 1 := by omega
          go_wp2_with (first
            | (go_at_call 16; (with_reducible refine (k2 _ HW.out).mono ?_); rintro e w3 ⟨a3, c3, rfl, hs3, hb3⟩; have H3 := Lib.hid (HW.out.trans (hb3.mono HW.out.size)); have k4 := kq a3 c3 w3 hs3 H3.out; clear hb3 hs3 k2)
            | (go_at_call 14; (with_reducible refine k4.mono ?_); rintro e w4 ⟨rfl, hb4⟩; have H4 := Lib.hid (H3.out.trans (hb4.mono H3.out.size)); clear hb4 k4)
            | (go_at_call 16; (with_reducible refine (k1 _ H4.out).mono ?_); rintro e w5 ⟨a5, c5, rfl, hs5, hb5⟩; have H5 := Lib.hid (H4.out.trans (hb5.mono H4.out.size)); have k6 := kq a5 c5 w5 hs5 H5.out; clear hb5 hs5 k1 kq)
            | (go_at_call 14; (with_reducible refine k6.mono ?_); rintro e w6 ⟨rfl, hb6⟩))
          exact bodyPost_ret (results_tmp rfl _ _ _) rfl ⟨rfl, H5.out.trans (hb6.mono H5.out.size)⟩
/-- StreamLines, at every input within the condition. -/
theorem lines_law (W : World) (ao : Option Addr) (cap : Nat) (xs : List ByteArray) (hx : Strs (.slice ao xs.length cap) xs W) (hl : longN xs ≤ 1048576) (hm : Mx W) :
    Calls Tryz.prog 5 #[.slice ao xs.length cap] W fun e w' => e = .returned (.bool true) ∧ Below W.heap.size W w' := by
  by_cases h : 500 < longN xs
  · exact lines_out ao cap xs W hx hm (by omega) h
  · exact lines_in ao cap xs W hx hm (by omega)
end Go.Proofs.YtkgpnlldlekcbaaGreatDoor
