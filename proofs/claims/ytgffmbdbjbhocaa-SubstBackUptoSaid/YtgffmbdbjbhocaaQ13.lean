/- Packed texts: SuBackMath, SubstBackWalk. What each of them proves stands above its theorems; the conditions stand in these. -/
import Derived.Test.YtgffmbdbjbhocaaQ9
import Derived.Test.YtgffmbdbjbhocaaQ10
import Derived.Test.YtgffmbdbjbhocaaQ12
namespace Go.Proofs.Ytgffmbdbjbhocaa
open Go.RowKit Go.Lib

theorem plain_kind_fin : ∀ n : Fin 256, (((plainL (UInt8.ofNat n.val) == [UInt8.ofNat n.val] && UInt8.ofNat n.val != 38 && UInt8.ofNat n.val != 47 && UInt8.ofNat n.val != 10 && UInt8.ofNat n.val != 92) || (plainL (UInt8.ofNat n.val)).take 2 == [92, 120]) && (plainL (UInt8.ofNat n.val)).all (fun b => b != 47 && b != 10 && b != 39)) = true := by decide +kernel
theorem plain_kind (c : UInt8) : (((plainL c == [c] && c != 38 && c != 47 && c != 10 && c != 92) || (plainL c).take 2 == [92, 120]) && (plainL c).all (fun b => b != 47 && b != 10 && b != 39)) = true := by
  have h := plain_kind_fin ⟨c.toNat, c.toNat_lt⟩
  have e : UInt8.ofNat c.toNat = c := by simp
  rwa [e] at h
theorem plain_step (c : UInt8) (r : List UInt8) : stepR (plainL c ++ r) = some (some c, (plainL c).length) := by
  have hs := plain_sign c r
  have hu : signU (plainL c ++ r) = some (c, (plainL c).length) := by
    unfold signU
    rw [hs]
    simp
  have hk := plain_kind c
  rw [Bool.and_eq_true, Bool.or_eq_true] at hk
  rcases hk.1 with h | h
  · simp only [Bool.and_eq_true, beq_iff_eq, bne_iff_ne] at h
    obtain ⟨⟨⟨⟨h0, h1⟩, h2⟩, h3⟩, h4⟩ := h
    rw [h0]
    show (if c = 38 then some (none, 1) else if c = 47 ∨ c = 10 then none else if c ≠ 92 then some (some c, 1) else _) = _
    rw [if_neg h1, if_neg (by rintro (h | h); exact h2 h; exact h3 h), if_pos h4]
    rfl
  · obtain ⟨t, ht⟩ : ∃ t, plainL c = 92 :: 120 :: t := by
      rw [beq_iff_eq] at h
      match hp : plainL c, h with
      | a :: b :: t, h => cases h; exact ⟨t, rfl⟩
      | [a], h => cases h
      | [], h => cases h
    rw [ht] at hu ⊢
    show (if (92 : UInt8) = 38 then some (none, 1) else if (92 : UInt8) = 47 ∨ (92 : UInt8) = 10 then none else if (92 : UInt8) ≠ 92 then some (some 92, 1) else if (some (120 : UInt8)) = some 38 then some (some 38, 2) else (signU (92 :: 120 :: t ++ r)).map fun p => (some p.1, p.2)) = _
    rw [if_neg (by decide), if_neg (by decide), if_neg (by decide), if_neg (by decide), hu]
    rfl
theorem read_flat : ∀ (x r : List UInt8) (f : Nat) (acc : List (List UInt8)) (now : List UInt8), readR (f + x.length) (flatP x ++ r) acc now = readR f r acc (now ++ x)
  | [], r, f, acc, now => by simp [flatP]
  | c :: x, r, f, acc, now => by
    have e : flatP (c :: x) ++ r = plainL c ++ (flatP x ++ r) := by simp [flatP]
    have hne : plainL c ++ (flatP x ++ r) ≠ [] := by
      intro h
      have h1 := (plain_length c).1
      rw [List.append_eq_nil_iff] at h
      rw [h.1] at h1
      simp at h1
    rw [e, List.length_cons, show f + (x.length + 1) = (f + x.length) + 1 from rfl, readR_byte hne (plain_step c _), List.drop_left, read_flat x r f acc (now ++ [c]), List.append_assoc]
    rfl
theorem read_join : ∀ (r : List (List UInt8)) (x : List UInt8) (acc : List (List UInt8)) (f : Nat), (flatP x ++ joinTail [38] (r.map flatP)).length < f → readR f (flatP x ++ joinTail [38] (r.map flatP)) acc [] = some (acc ++ x :: r)
  | [], x, acc, f, h => by
    have h1 := (flatP_len x).1
    rw [List.length_append] at h
    obtain ⟨g, rfl⟩ : ∃ g, f = (g + 1) + x.length := ⟨f - x.length - 1, by omega⟩
    have e : joinTail [38] (([] : List (List UInt8)).map flatP) = [] := rfl
    rw [e, read_flat, readR_end]
    rfl
  | y :: r, x, acc, f, h => by
    have h1 := (flatP_len x).1
    have e : joinTail [38] ((y :: r).map flatP) = 38 :: (flatP y ++ joinTail [38] (r.map flatP)) := by simp [joinTail]
    rw [e] at h ⊢
    rw [List.length_append, List.length_cons] at h
    obtain ⟨g, rfl⟩ : ∃ g, f = (g + 1) + x.length := ⟨f - x.length - 1, by omega⟩
    have hst : stepR (38 :: (flatP y ++ joinTail [38] (r.map flatP))) = some (none, 1) := rfl
    rw [read_flat, readR_place (by simp) hst]
    show readR g (flatP y ++ joinTail [38] (r.map flatP)) (acc ++ [[] ++ x]) [] = _
    rw [read_join r y (acc ++ [[] ++ x]) g (by omega)]
    simp
theorem text_list (xs : List ByteArray) : (textB xs).data.toList = Lib.join (xs.map fun x => flatP x.data.toList) [38] := by
  unfold textB
  rw [joinB_list, List.map_map]
  rfl
theorem text_reread (xs : List ByteArray) (h : xs ≠ []) : readD' (textB xs).data.toList = some (xs.map (·.data.toList)) := by
  rw [text_list]
  cases xs with
  | nil => exact absurd rfl h
  | cons x r =>
    rw [List.map_cons, Lib.join_cons]
    have := read_join (r.map (·.data.toList)) x.data.toList [] ((flatP x.data.toList ++ joinTail [38] ((r.map (·.data.toList)).map flatP)).length + 1) (Nat.lt_succ_self _)
    rw [List.map_map] at this
    exact this
theorem flat_bytes (l : List UInt8) (b : UInt8) (h : b ∈ flatP l) : b ≠ 47 ∧ b ≠ 10 ∧ b ≠ 39 := by
  unfold flatP at h
  obtain ⟨c, _, hb⟩ := List.mem_flatMap.1 h
  have hk := plain_kind c
  rw [Bool.and_eq_true] at hk
  have := List.all_eq_true.1 hk.2 b hb
  simp only [Bool.and_eq_true, bne_iff_ne] at this
  exact ⟨this.1.1, this.1.2, this.2⟩
theorem text_bytes (xs : List ByteArray) (b : UInt8) (h : b ∈ (textB xs).data.toList) : b ≠ 47 ∧ b ≠ 10 ∧ b ≠ 39 := by
  rw [text_list] at h
  cases xs with
  | nil => simp [Lib.join_nil] at h
  | cons x r =>
    rw [List.map_cons, Lib.join_cons, List.mem_append] at h
    rcases h with h | h
    · exact flat_bytes _ b h
    · unfold joinTail at h
      obtain ⟨y, hy, hb⟩ := List.mem_flatten.1 h
      obtain ⟨z, hz, rfl⟩ := List.mem_map.1 hy
      obtain ⟨u, _, rfl⟩ := List.mem_map.1 hz
      rcases List.mem_append.1 hb with hb | hb
      · have : b = 38 := by simpa using hb
        rw [this]
        decide
      · exact flat_bytes _ b hb
theorem mkB_toList (xs : List ByteArray) : (xs.map (·.data.toList)).map mkB = xs := by
  rw [List.map_map]
  conv => rhs; rw [← List.map_id xs]
  exact List.map_congr_left fun x _ => ba_ext rfl
end Go.Proofs.Ytgffmbdbjbhocaa
namespace Go.Proofs.Ytgffmbdbjbhocaa
open Go.RowKit Go.Lib

theorem text_len {xs : List ByteArray} (h : longN xs ≤ 1000) : (textB xs).size ≤ 5000 := by
  unfold longN at h
  have h1 := join_le (xs.map flatB) ⟨#[38]⟩
  have h2 := flat_sum xs
  rw [List.length_map] at h1
  have h3 : (⟨#[38]⟩ : ByteArray).size = 1 := rfl
  rw [h3] at h1
  unfold textB
  omega
set_option maxHeartbeats 1000000 in
set_option maxRecDepth 20000 in
theorem back_out (al : Option Addr) (M cl : Nat) (xs : List ByteArray) (w : World) (hX : Strs (.slice al M cl) xs w) (hz : longN xs ≤ 9223372036854775807) (h : 1000 < longN xs ∨ (longN xs ≤ 1000 ∧ M = 0)) :
    Calls Try.prog 11 #[.slice al M cl] w fun e w' => e = .returned (.bool true) ∧ Below w.heap.size w w' := by
  have ks := fun w => shownS_any w
  have kl := fun w h => refLong_any (.slice al M cl) xs w h hz
  obtain ⟨L, hL⟩ : ∃ L, L = longN xs := ⟨_, rfl⟩
  rw [← hL] at kl h hz
  have H := Lib.hid hX
  clear hX hL
  rcases h with h | ⟨h, rfl⟩
  · have h3 : decide ((1000 : Int) < (L : Int)) = true := by simp; omega
    go_enter Try.func11, Try.ntmps11
    go_wp2_with (first
      | (go_at_call 37; refine (ks _).mono ?_; rintro e w1 ⟨rfl, hb1⟩; have H1 := Lib.hid hb1; clear hb1 ks)
      | (go_at_call 38; refine (kl _ (H.out.below H1.out)).mono ?_; rintro e w2 ⟨rfl, rfl⟩; clear kl)
      | fail)
    exact bodyPost_ret (results_tmp rfl _ _ _) rfl ⟨rfl, H1.out⟩
  · have h3 : decide ((1000 : Int) < (L : Int)) = false := by simp; omega
    go_enter Try.func11, Try.ntmps11
    go_wp2_with (first
      | (go_at_call 37; refine (ks _).mono ?_; rintro e w1 ⟨rfl, hb1⟩; have H1 := Lib.hid hb1; clear hb1 ks)
      | (go_at_call 38; refine (kl _ (H.out.below H1.out)).mono ?_; rintro e w2 ⟨rfl, rfl⟩; clear kl)
      | fail)
    exact bodyPost_ret (results_tmp rfl _ _ _) rfl ⟨rfl, H1.out⟩
set_option maxHeartbeats 4000000 in
set_option maxRecDepth 100000 in
theorem back_in (al : Option Addr) (M cl : Nat) (xs : List ByteArray) (w : World) (hX : Strs (.slice al M cl) xs w) (h : longN xs ≤ 1000) (hM : M ≠ 0) :
    Calls Try.prog 11 #[.slice al M cl] w fun e w' => e = .returned (.bool true) ∧ Below w.heap.size w w' := by
  have ks := fun w => shownS_any w
  have kl := fun w h => refLong_any (.slice al M cl) xs w h (by omega)
  have hlen : xs.length ≤ 1000 := by unfold longN at h; omega
  have hxs : ∀ x ∈ xs, x.size ≤ 1000000000 := fun x hx => by have := size_sum hx; unfold longN at h; omega
  have hT0 := text_len h
  have kt := fun w h => text7_any (.slice al M cl) xs w h (by omega) hxs (by omega)
  have hMl := hX.len.1
  have hne : xs ≠ [] := fun e => by rw [e] at hMl; exact hM hMl
  have kr0 := fun w => suRead_walk (textB xs) w (by omega)
  have hrd := text_reread xs hne
  rw [hrd] at kr0
  have kr : ∀ w, Calls Try.prog 39 #[.string (textB xs)] w fun e w' => ∃ ao cap, e = .returned (.tuple #[.slice ao M cap, .int .i64 0]) ∧ Strs (.slice ao M cap) xs w' ∧ Below w.heap.size w w' := fun w => (kr0 w).mono fun e w' hh => by
    obtain ⟨⟨v, rfl, ho⟩, hb⟩ := hh
    rw [List.length_map, ← hMl] at ho
    obtain ⟨ao, cap, rfl⟩ := own_zeroB ho
    refine ⟨ao, cap, rfl, ?_, hb⟩
    rw [mkB_toList] at ho
    exact strs_of_owns ho hMl (by omega)
  have hby : ∀ (Q : ByteArray), Q = textB xs → ∀ (j : Nat) (hj : j < Q.size), Q[j] ≠ 47 ∧ Q[j] ≠ 10 ∧ Q[j] ≠ 39 := fun Q hQ j hj => text_bytes xs _ (by
    rw [← hQ]
    show Q.data[j] ∈ _
    exact Array.getElem_mem_toList _)
  obtain ⟨L, hL⟩ : ∃ L, L = longN xs := ⟨_, rfl⟩
  obtain ⟨T, hT⟩ : ∃ T, T = textB xs := ⟨_, rfl⟩
  rw [← hL] at kl h
  rw [← hT] at kt kr hT0
  replace hby := hby T hT
  have ksm := fun (a1 a2 : Option Addr) (c1 c2 : Nat) (w : World) (g1 : Strs (.slice a1 M c1) xs w) (g2 : Strs (.slice a2 M c2) xs w) => refSameS_any (.slice a1 M c1) (.slice a2 M c2) xs xs w g1 g2
  have hdec : decide (xs = xs) = true := decide_eq_true rfl
  rw [hdec] at ksm
  have H := Lib.hid hX
  have HB := Lib.hid hby
  clear hX hL hT hxs hlen hne hrd kr0 hby hdec hMl
  have h3 : decide ((1000 : Int) < (L : Int)) = false := by simp; omega
  have h4 : ((M : Int) == 0) = false := by rw [beq_eq_false_iff_ne]; omega
  go_enter Try.func11, Try.ntmps11
  go_wp2_with (first
    | (go_at_call 37; refine (ks _).mono ?_; rintro e w1 ⟨rfl, hb1⟩; have H1 := Lib.hid hb1; clear hb1 ks)
    | (go_at_call 38; refine (kl _ (H.out.below H1.out)).mono ?_; rintro e w2 ⟨rfl, rfl⟩; clear kl)
    | (go_at_call 42; refine (kt _ (H.out.below H1.out)).mono ?_; rintro e w3 ⟨rfl, hb3⟩; have H3 := Lib.hid (H1.out.trans (hb3.mono H1.out.size)); clear hb3 kt)
    | (go_at_call 39; refine (kr _).mono ?_; rintro e w4 ⟨a4, c4, rfl, hs4, hb4⟩; have H4 := Lib.hid (And.intro hs4 (H3.out.trans (hb4.mono H3.out.size))); clear hs4 hb4 kr)
    | fail)
  go_loop [7] (fun v7 => ∃ k : Nat, v7 = .int .i64 k ∧ k ≤ T.size) (fun v7 => T.size - (RowKit.intOf v7).toNat)
  case atStart => exact ⟨0, rfl, by omega⟩
  case round =>
    obtain ⟨k, rfl, hk⟩ := hrel
    by_cases hlt : k < T.size
    · have hltI : (k : Int) < (T.size : Int) := by omega
      obtain ⟨c, hc⟩ : ∃ c, T[k] = c := ⟨_, rfl⟩
      obtain ⟨b1, b2, b3⟩ := HB.out k hlt
      rw [hc] at b1 b2 b3
      have cx : ∀ (d : UInt8), c ≠ d → ((c.toNat : Int) == (d.toNat : Int)) = false := fun d hd => by
        rw [beq_eq_false_iff_ne]
        intro h
        exact hd (UInt8.toNat_inj.1 (by omega))
      have c47 : ((c.toNat : Int) == 47) = false := cx 47 b1
      have c10 : ((c.toNat : Int) == 10) = false := cx 10 b2
      have c39 : ((c.toNat : Int) == 39) = false := cx 39 b3
      have hI : IntKind.i64.wrap ((k : Int) + 1) = ((k + 1 : Nat) : Int) := by rw [IntWalk.i64_in _ (by omega)]; omega
      clear cx b1 b2 b3
      go_wp2
      go_round
      case rel => exact ⟨k + 1, by go_num, by omega⟩
      case measure => simp [RowKit.intOf]; omega
    · obtain rfl : k = T.size := by omega
      have hdec : decide ((T.size : Int) < (T.size : Int)) = false := by simp
      go_wp2_with (first
        | (go_at_call 41; refine (ksm _ _ _ _ _ H4.out.1 (H.out.below H4.out.2)).mono ?_; rintro e w5 ⟨rfl, hb5⟩; have H5 := Lib.hid (H4.out.2.trans (hb5.mono H4.out.2.size)); clear hb5 ksm)
        | fail)
      exact bodyPost_ret (results_tmp rfl _ _ _) rfl ⟨rfl, H5.out⟩
/-- The statement's function, where the replacement's bytes are not too many to be counted. -/
theorem substBack_walk (w : World) (al : Option Addr) (cl : Nat) (xs : List ByteArray) (hX : Strs (.slice al xs.length cl) xs w) (hz : longN xs ≤ 9223372036854775807) :
    Calls Try.prog 11 #[.slice al xs.length cl] w fun e w' => e = .returned (.bool true) ∧ Below w.heap.size w w' := by
  by_cases h1 : longN xs ≤ 1000
  · by_cases h2 : xs.length = 0
    · exact back_out al _ cl xs w hX hz (.inr ⟨h1, h2⟩)
    · exact back_in al _ cl xs w hX h1 h2
  · exact back_out al _ cl xs w hX hz (.inl (by omega))
end Go.Proofs.Ytgffmbdbjbhocaa
