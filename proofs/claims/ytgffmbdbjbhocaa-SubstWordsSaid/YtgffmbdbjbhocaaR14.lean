/- Packed texts: SubstWordsWalk. What each of them proves stands above its theorems; the conditions stand in these. -/
import Derived.Test.YtgffmbdbjbhocaaR1
import Derived.Test.YtgffmbdbjbhocaaR11
import Derived.Test.YtgffmbdbjbhocaaR12
import Derived.Test.YtgffmbdbjbhocaaR13
namespace Go.Proofs.Ytgffmbdbjbhocaa
open Go.RowKit Go.Lib

theorem byte_atS (x : ByteArray) {i : Nat} (h : i < x.size) : x.data.toList[i]? = some x[i] := by
  rw [List.getElem?_eq_getElem (by rw [Array.length_toList]; exact h)]
  rfl
theorem joinB_lone (x sep : ByteArray) : joinB [x] sep = x := by
  apply ba_ext
  rw [joinB_list]
  simp [Lib.join_one]
theorem all_put (s what : ByteArray) : ∀ (L : List (Nat × Nat)) (d : Nat), (joinB (piecesB s [what] d L) ⟨#[]⟩).data.toList = putL s.data.toList what.data.toList d L
  | [], d => by
    show (joinB [s.extract d s.size] ⟨#[]⟩).data.toList = s.data.toList.drop d
    rw [joinB_lone, Lib.extract_data, List.take_of_length_le (by rw [List.length_drop, Array.length_toList]; exact Nat.le_refl _)]
  | (x, y) :: r, d => by
    show (joinB (s.extract d x :: joinB [what] (s.extract x y) :: piecesB s [what] y r) ⟨#[]⟩).data.toList = (s.data.toList.drop d).take (x - d) ++ (what.data.toList ++ putL s.data.toList what.data.toList y r)
    rw [catB_cons, catB_cons, joinB_lone, ByteArray.data_append, Array.toList_append, ByteArray.data_append, Array.toList_append, Lib.extract_data, all_put s what r y]
theorem good_count {s w : List UInt8} : ∀ (L : List (Nat × Nat)) (d : Nat), d ≤ s.length → Good s w d L → L.length * w.length + d ≤ s.length
  | [], d, h, _ => by simpa using h
  | (x, y) :: r, d, h, ⟨h1, h2, h3, h4, h5⟩ => by
    have := good_count r y h3 h5
    rw [List.length_cons, Nat.add_mul]
    omega
theorem litT_pos {l : List UInt8} (h : 0 < l.length) : litT l = litF l (l.length - 1) := by
  unfold litT
  rw [if_neg (by omega)]
theorem all_words (al : Option Addr) (cl : Nat) (v : Value) (l : List UInt8) (s what : ByteArray) (w : World) (h0 : 0 < l.length) (hl : l.length ≤ 10) (hs : s.size ≤ 700) (hwh : what.size ≤ 10) (hL : Lies v ((litT l).row 0) w) (hx : Strs (.slice al 1 cl) [what] w) :
    Calls Try.prog 49 #[v, .string s, .slice al 1 cl] w fun e w' => e = .returned (.tuple #[.string (allB s [what] (spansL s.data.toList (litT l) 0)), .int .i64 ((spansL s.data.toList (litT l) 0).length : Nat)]) ∧ Below w.heap.size w w' := by
  have hlen : s.data.toList.length = s.size := Array.length_toList
  have hne : l ≠ [] := fun e => by rw [e] at h0; simp at h0
  have hg := spans_good s.data.toList l hne
  have hc := good_count _ 0 (Nat.zero_le _) hg
  have hp := put_len (what := what.data.toList) _ 0 (Nat.zero_le _) hg
  rw [← all_put s what] at hp
  have hK : (spansL s.data.toList (litT l) 0).length ≤ 700 := by
    have : (spansL s.data.toList (litT l) 0).length * 1 ≤ (spansL s.data.toList (litT l) 0).length * l.length := Nat.mul_le_mul_left _ h0
    omega
  have hwl : what.data.toList.length = what.size := Array.length_toList
  have hsz : (allB s [what] (spansL s.data.toList (litT l) 0)).size ≤ 7700 := by
    have e : (joinB (piecesB s [what] 0 (spansL s.data.toList (litT l) 0)) ⟨#[]⟩).data.toList.length = (allB s [what] (spansL s.data.toList (litT l) 0)).size := Array.length_toList
    have : (spansL s.data.toList (litT l) 0).length * what.data.toList.length ≤ 700 * 10 := Nat.mul_le_mul hK (by omega)
    omega
  have hrow : ((litT l).row 0).length ≤ 2000 := by
    rw [(litT l).row_length 0]
    exact litT_size l (by omega)
  obtain ⟨ao, cap, rfl, _⟩ := id hL
  exact suAll_walk _ al 1 cl _ 0 ((litT l).row 0) (litT l) [what] _ s w ⟨_, _, _, rfl⟩ (by omega) rfl (by omega) (goL_apart s.data.toList (litT l) _ 0 (-1)) hL hx (fun a b => by rw [joinB_lone]; omega) (by omega)
    (fun w h => spans_any _ (litT l) _ s w rfl (litT_ok l) hrow (by omega) h)
set_option maxHeartbeats 1000000 in
set_option maxRecDepth 20000 in
theorem words_out (s word what : ByteArray) (w : World) (hs : s.size ≤ 140737488351232) (hwd : word.size ≤ 140737488351232) (hwh : what.size ≤ 140737488351232)
    (h : 60 < s.size ∨ (s.size ≤ 60 ∧ 10 < word.size) ∨ (s.size ≤ 60 ∧ word.size = 0) ∨ (s.size ≤ 60 ∧ 0 < word.size ∧ word.size ≤ 10 ∧ 10 < what.size)) :
    Calls Try.prog 14 #[.string s, .string word, .string what] w fun e w' => e = .returned (.bool true) ∧ Below w.heap.size w w' := by
  have ks := fun w => shownS_any w
  rcases h with h | ⟨h, h2⟩ | ⟨h, h2⟩ | ⟨h, h2, h3, h4⟩
  · have t1 : decide ((60 : Int) < (s.size : Int)) = true := by simp; omega
    go_enter Try.func14, Try.ntmps14
    go_wp2_with (first
      | (go_at_call 37; refine (ks _).mono ?_; rintro e w1 ⟨rfl, hb1⟩; have H1 := Lib.hid hb1; clear hb1 ks)
      | fail)
    exact bodyPost_ret (results_tmp rfl _ _ _) rfl ⟨rfl, H1.out⟩
  · have t1 : decide ((60 : Int) < (s.size : Int)) = false := by simp; omega
    have t2 : decide ((10 : Int) < (word.size : Int)) = true := by simp; omega
    go_enter Try.func14, Try.ntmps14
    go_wp2_with (first
      | (go_at_call 37; refine (ks _).mono ?_; rintro e w1 ⟨rfl, hb1⟩; have H1 := Lib.hid hb1; clear hb1 ks)
      | fail)
    exact bodyPost_ret (results_tmp rfl _ _ _) rfl ⟨rfl, H1.out⟩
  · have t1 : decide ((60 : Int) < (s.size : Int)) = false := by simp; omega
    have t2 : decide ((10 : Int) < (word.size : Int)) = false := by simp; omega
    have t3 : ((word.size : Int) == 0) = true := by rw [beq_iff_eq]; omega
    go_enter Try.func14, Try.ntmps14
    go_wp2_with (first
      | (go_at_call 37; refine (ks _).mono ?_; rintro e w1 ⟨rfl, hb1⟩; have H1 := Lib.hid hb1; clear hb1 ks)
      | fail)
    exact bodyPost_ret (results_tmp rfl _ _ _) rfl ⟨rfl, H1.out⟩
  · have t1 : decide ((60 : Int) < (s.size : Int)) = false := by simp; omega
    have t2 : decide ((10 : Int) < (word.size : Int)) = false := by simp; omega
    have t3 : ((word.size : Int) == 0) = false := by rw [beq_eq_false_iff_ne]; omega
    have t4 : decide ((10 : Int) < (what.size : Int)) = true := by simp; omega
    go_enter Try.func14, Try.ntmps14
    go_wp2_with (first
      | (go_at_call 37; refine (ks _).mono ?_; rintro e w1 ⟨rfl, hb1⟩; have H1 := Lib.hid hb1; clear hb1 ks)
      | fail)
    exact bodyPost_ret (results_tmp rfl _ _ _) rfl ⟨rfl, H1.out⟩
set_option maxHeartbeats 4000000 in
set_option maxRecDepth 100000 in
theorem words_in (s word what : ByteArray) (w : World) (hs : s.size ≤ 60) (h0 : 0 < word.size) (hwd : word.size ≤ 10) (hwh : what.size ≤ 10) :
    Calls Try.prog 14 #[.string s, .string word, .string what] w fun e w' => e = .returned (.bool true) ∧ Below w.heap.size w w' := by
  have ks := fun w => shownS_any w
  have kl := fun w => refLit_walk word w h0 (by omega)
  have hwl : word.data.toList.length = word.size := Array.length_toList
  have hvl : what.data.toList.length = what.size := Array.length_toList
  have hsl : s.data.toList.length = s.size := Array.length_toList
  have hTe : litF word.data.toList (word.size - 1) = litT word.data.toList := by rw [litT_pos (by omega), hwl]
  rw [hTe] at kl
  have hne : word.data.toList ≠ [] := fun e => by rw [e] at hwl; simp at hwl; omega
  have hg := spans_good s.data.toList word.data.toList hne
  have hc := good_count _ 0 (Nat.zero_le _) hg
  have hp := put_len (what := what.data.toList) _ 0 (Nat.zero_le _) hg
  have hno := fun hv hd => spans_none (s := s.data.toList) (what := what.data.toList) hne hv hd
  rw [← all_put s what] at hp hno
  have kA1 := fun al cl v w hL hx => all_words al cl v word.data.toList s what w (by omega) (by omega) (by omega) hwh hL hx
  have hRl : (joinB (piecesB s [what] 0 (spansL s.data.toList (litT word.data.toList) 0)) ⟨#[]⟩).data.toList.length = (allB s [what] (spansL s.data.toList (litT word.data.toList) 0)).size := Array.length_toList
  rw [hRl] at hp
  replace hno : what.data.toList ≠ [] → (∀ c ∈ what.data.toList, c ∉ word.data.toList) → spansL (allB s [what] (spansL s.data.toList (litT word.data.toList) 0)).data.toList (litT word.data.toList) 0 = [] := hno
  obtain ⟨K, hK⟩ : ∃ K, K = (spansL s.data.toList (litT word.data.toList) 0).length := ⟨_, rfl⟩
  obtain ⟨R, hR⟩ : ∃ R, R = allB s [what] (spansL s.data.toList (litT word.data.toList) 0) := ⟨_, rfl⟩
  rw [← hK, ← hR] at kA1
  rw [← hK] at hc
  rw [← hR, ← hK] at hp
  rw [← hR] at hno
  have hKb : K ≤ 60 := by
    have : K * 1 ≤ K * word.data.toList.length := Nat.mul_le_mul_left _ (by omega)
    omega
  rw [hwl, hvl, hsl] at hp
  have hKv : K * what.size ≤ 60 * 10 := Nat.mul_le_mul hKb hwh
  have hKw : K * word.size ≤ 60 * 10 := Nat.mul_le_mul hKb hwd
  have hRs : R.size ≤ 660 := by omega
  have kA2 := fun al cl v w hL hx => all_words al cl v word.data.toList R what w (by omega) (by omega) (by omega) hwh hL hx
  obtain ⟨K2, hK2⟩ : ∃ K2, K2 = (spansL R.data.toList (litT word.data.toList) 0).length := ⟨_, rfl⟩
  obtain ⟨R2, hR2⟩ : ∃ R2, R2 = allB R [what] (spansL R.data.toList (litT word.data.toList) 0) := ⟨_, rfl⟩
  rw [← hK2, ← hR2] at kA2
  have hno2 : 0 < what.size → (∀ i j : Nat, i < what.size → j < word.size → what.data.toList[i]? ≠ word.data.toList[j]?) → K2 = 0 := fun hv hd => by
    rw [hK2, hno (fun e => by rw [e] at hvl; simp at hvl; omega) (fun c h1 h2 => by
      obtain ⟨i, hi, e1⟩ := List.getElem_of_mem h1
      obtain ⟨j, hj, e2⟩ := List.getElem_of_mem h2
      exact hd i j (by omega) (by omega) (by rw [List.getElem?_eq_getElem hi, List.getElem?_eq_getElem hj, e1, e2]))]
    rfl
  obtain ⟨rw0, hrw0⟩ : ∃ r, r = (litT word.data.toList).row 0 := ⟨_, rfl⟩
  rw [← hrw0] at kl kA1 kA2
  have H := Lib.hid (And.intro hno2 hp)
  obtain ⟨Z, hZ⟩ : ∃ Z : Int, Z = (K : Int) * ((what.size : Int) - (word.size : Int)) := ⟨_, rfl⟩
  have hZe : Z = ((K * what.size : Nat) : Int) - ((K * word.size : Nat) : Int) := by rw [hZ, Int.mul_sub, Int.natCast_mul, Int.natCast_mul]
  have hZb : -600 ≤ Z ∧ Z ≤ 600 := by omega
  have hZ2 : (R.size : Int) = (s.size : Int) + Z := by omega
  have hsub : IntKind.i64.wrap ((what.size : Int) - (word.size : Int)) = (what.size : Int) - (word.size : Int) := IntWalk.i64_in _ (by omega)
  have hadd : IntKind.i64.wrap ((s.size : Int) + Z) = (s.size : Int) + Z := IntWalk.i64_in _ (by omega)
  have hfin : ((R.size : Int) == (s.size : Int) + Z) = true := by rw [beq_iff_eq]; exact hZ2
  have HZ := Lib.hid (And.intro hZ.symm (And.intro hsub (And.intro hadd (And.intro hfin hZb))))
  clear hwl hvl hsl hTe hne hg hc hp hno hRl hK hR hKv hKw hK2 hR2 hno2 hrw0 hZ hZe hZ2 hsub hadd hfin hZb
  have t1 : decide ((60 : Int) < (s.size : Int)) = false := by simp; omega
  have t2 : decide ((10 : Int) < (word.size : Int)) = false := by simp; omega
  have t3 : ((word.size : Int) == 0) = false := by rw [beq_eq_false_iff_ne]; omega
  have t4 : decide ((10 : Int) < (what.size : Int)) = false := by simp; omega
  go_enter Try.func14, Try.ntmps14
  go_wp2_with (first
    | (go_at_call 37; refine (ks _).mono ?_; rintro e w1 ⟨rfl, hb1⟩; have H1 := Lib.hid hb1; clear hb1 ks)
    | fail)
  clear t1 t2 t3 t4
  go_loopg [8] (what.size + 1) (fun g v8 wr => ∃ i : Nat, v8 = .int .i64 i ∧ i ≤ what.size ∧ Hid (g = what.size + 1 - i) ∧ Hid (Below w.heap.size w wr) ∧ Hid (∀ i' j' : Nat, i' < i → j' < word.size → what.data.toList[i']? ≠ word.data.toList[j']?))
  case atStart => exact ⟨0, rfl, by omega, rfl, H1.out, fun i' j' h => absurd h (Nat.not_lt_zero _)⟩
  case round =>
    obtain ⟨i, rfl, hi, HK, HB, HD⟩ := hrel
    by_cases hlt : i < what.size
    · have hltI : (i : Int) < (what.size : Int) := by omega
      obtain ⟨c, hc⟩ : ∃ c, what[i] = c := ⟨_, rfl⟩
      have hIi : IntKind.i64.wrap ((i : Int) + 1) = ((i + 1 : Nat) : Int) := by rw [IntWalk.i64_in _ (by omega)]; omega
      go_wp2
      go_loopg [9] (word.size + 1) (fun g v9 wr => ∃ j : Nat, v9 = .int .i64 j ∧ j ≤ word.size ∧ Hid (g = word.size + 1 - j) ∧ Hid (Below w.heap.size w wr) ∧ Hid (∀ j' : Nat, j' < j → what.data.toList[i]? ≠ word.data.toList[j']?))
      case atStart => exact ⟨0, rfl, by omega, rfl, HB.out, fun j' h => absurd h (Nat.not_lt_zero _)⟩
      case round =>
        obtain ⟨j, rfl, hj, HJ, HB2, HE⟩ := hrel
        by_cases hjl : j < word.size
        · have hjI : (j : Int) < (word.size : Int) := by omega
          obtain ⟨d, hd⟩ : ∃ d, word[j] = d := ⟨_, rfl⟩
          have hIj : IntKind.i64.wrap ((j : Int) + 1) = ((j + 1 : Nat) : Int) := by rw [IntWalk.i64_in _ (by omega)]; omega
          by_cases hcd : c = d
          · have hq : ((c.toNat : Int) == (d.toNat : Int)) = true := by rw [hcd]; simp
            clear hcd
            go_wp2
            go_region
            go_wp2
            exact bodyPost_ret (results_tmp rfl _ _ _) rfl ⟨rfl, by first | exact HB2.out.drew | exact HB2.out⟩
          · have hq : ((c.toNat : Int) == (d.toNat : Int)) = false := by
              rw [beq_eq_false_iff_ne]
              intro h
              exact hcd (UInt8.toNat_inj.1 (by omega))
            have HF : Hid (∀ j' : Nat, j' < j + 1 → what.data.toList[i]? ≠ word.data.toList[j']?) := Lib.hid fun j' h e => by
              by_cases hjj : j' = j
              · rw [hjj, byte_atS what hlt, byte_atS word hjl, hc, hd] at e
                exact hcd (Option.some.inj e)
              · exact HE.out j' (by omega) e
            clear hcd
            go_wp2
            go_region
            go_wp2
            go_roundg (word.size - j)
            case rel => exact ⟨j + 1, by go_num, by omega, by show _ = _; omega, by first | exact HB2.out.drew | exact HB2.out, HF.out⟩
            case measure => have := HJ.out; omega
        · obtain rfl : j = word.size := by omega
          have hdec : decide ((word.size : Int) < (word.size : Int)) = false := by simp
          go_wp2
          go_roundg (what.size - i)
          case rel =>
            refine ⟨i + 1, by go_num, by omega, by show _ = _; omega, HB2.out, fun i' j' h1 h2 => ?_⟩
            by_cases e : i' = i
            · rw [e]; exact HE.out j' h2
            · exact HD.out i' j' (by omega) h2
          case measure => have := HK.out; omega
    · obtain rfl : i = what.size := by omega
      have hdec : decide ((what.size : Int) < (what.size : Int)) = false := by simp
      by_cases hv0 : what.size = 0
      · have hv : ((what.size : Int) == 0) = true := by rw [beq_iff_eq]; omega
        go_wp2
        exact bodyPost_ret (results_tmp rfl _ _ _) rfl ⟨rfl, HB.out⟩
      · have hv : ((what.size : Int) == 0) = false := by rw [beq_eq_false_iff_ne]; omega
        have hk2 := H.out.1 (by omega) (fun i j h1 h2 => HD.out i j h1 h2)
        have hbz := HB.out.size
        subst hk2
        obtain ⟨z1, z2, z3, z4, z5, z6⟩ := HZ.out
        have z7 : wrap64 ((K : Int) * ((what.size : Int) - (word.size : Int))) = Z := by rw [z1]; exact IntWalk.wrap64_in _ ⟨by omega, by omega⟩
        have z8 : IntKind.i64.wrap ((K : Int) * ((what.size : Int) - (word.size : Int))) = Z := by rw [z1]; exact IntWalk.i64_in _ (by omega)
        clear z5 z6 z1
        go_wp2_with (first
          | (go_at_call 19; refine (kl _).mono ?_; rintro e w2 ⟨⟨v2, rfl, hl2⟩, hb2⟩; have H2 := Lib.hid (And.intro hl2 (HB.out.trans (hb2.mono HB.out.size))); clear hl2 hb2 kl)
          | (go_at_call 49; first
              | (with_reducible refine (kA1 _ _ _ _ (H2.out.1.below ((Below.refl _ w2).alloc (Nat.le_refl _) _)) (strs_one w2 what)).mono ?_; rintro e w3 ⟨rfl, hb3⟩
                 have H3 := Lib.hid (And.intro (H2.out.1.below (((Below.refl _ w2).alloc (Nat.le_refl _) _).trans (hb3.mono (by simp)))) ((H2.out.2.alloc H2.out.2.size _).trans (hb3.mono (by have := H2.out.2.size; simp; omega))))
                 clear hb3 kA1)
              | (with_reducible refine (kA2 _ _ _ _ (H3.out.1.below ((Below.refl _ w3).alloc (Nat.le_refl _) _)) (strs_one w3 what)).mono ?_; rintro e w4 ⟨rfl, hb4⟩
                 have H4 := Lib.hid ((H3.out.2.alloc H3.out.2.size _).trans (hb4.mono (by have := H3.out.2.size; simp; omega)))
                 clear hb4 kA2))
          | fail)
        exact bodyPost_ret (results_tmp rfl _ _ _) rfl ⟨by simp, H4.out⟩
/-- The statement's function, at every input. -/
theorem substWords_walk (w : World) (s : ByteArray) (hs : s.size ≤ 140737488351232) (word : ByteArray) (hwd : word.size ≤ 140737488351232) (what : ByteArray) (hwh : what.size ≤ 140737488351232) :
    Calls Try.prog 14 #[.string s, .string word, .string what] w fun e w' => e = .returned (.bool true) ∧ Below w.heap.size w w' := by
  by_cases h1 : s.size ≤ 60
  · by_cases h2 : word.size ≤ 10
    · by_cases h3 : word.size = 0
      · exact words_out s word what w hs hwd hwh (.inr (.inr (.inl ⟨h1, h3⟩)))
      · by_cases h4 : what.size ≤ 10
        · exact words_in s word what w h1 (by omega) h2 h4
        · exact words_out s word what w hs hwd hwh (.inr (.inr (.inr ⟨h1, by omega, h2, by omega⟩)))
    · exact words_out s word what w hs hwd hwh (.inr (.inl ⟨h1, by omega⟩))
  · exact words_out s word what w hs hwd hwh (.inl (by omega))
end Go.Proofs.Ytgffmbdbjbhocaa
