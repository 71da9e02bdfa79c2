/- Packed texts: SubstStaysWalk. What each of them proves stands above its theorems; the conditions stand in these. -/
import Derived.Test.YtgffmbdbjbhocaaP15
namespace Go.Proofs.Ytgffmbdbjbhocaa
open Go.RowKit Go.Lib

theorem extract_join (s : ByteArray) {a b c : Nat} (h1 : a ≤ b) (h2 : b ≤ c) : s.extract a b ++ s.extract b c = s.extract a c := by
  apply ba_ext
  rw [ByteArray.data_append, Array.toList_append, Lib.extract_data, Lib.extract_data, Lib.extract_data, show c - a = (b - a) + (c - b) by omega, List.take_add, List.drop_drop, show a + (b - a) = b by omega]
theorem extract_all (s : ByteArray) : s.extract 0 s.size = s := by
  apply ba_ext
  rw [Lib.extract_data, List.drop_zero, List.take_of_length_le (by rw [Array.length_toList]; exact Nat.le_refl _)]
theorem join_own (x : ByteArray) : joinB [⟨#[]⟩, ⟨#[]⟩] x = x := by
  apply ba_ext
  rw [joinB_list]
  simp [Lib.join_cons, Lib.joinTail]
theorem pieces_own (s : ByteArray) (T : Tr) : ∀ (L : List (Nat × Nat)) (d : Nat) (e : Int), Apart s.data.toList T d e L → d ≤ s.size → joinB (piecesB s [⟨#[]⟩, ⟨#[]⟩] d L) ⟨#[]⟩ = s.extract d s.size
  | [], d, _, _, _ => by
    show joinB [s.extract d s.size] ⟨#[]⟩ = _
    rw [catB_cons, catB_nil, ba_nil]
  | (a, b) :: r, d, e, h, hd => by
    have hlen : s.data.toList.length = s.size := Array.length_toList
    obtain ⟨h1, h2, _, h4, h5, _, h7⟩ := h
    rw [hlen] at h2 h5
    have ih := pieces_own s T r b b h7 h5
    show joinB (s.extract d a :: joinB [⟨#[]⟩, ⟨#[]⟩] (s.extract a b) :: piecesB s [⟨#[]⟩, ⟨#[]⟩] b r) ⟨#[]⟩ = _
    rw [catB_cons, catB_cons, ih, join_own, ba_assoc, extract_join s h1 h4, extract_join s (by omega) h5]
theorem all_own (s : ByteArray) (T : Tr) : allB s [⟨#[]⟩, ⟨#[]⟩] (spansL s.data.toList T 0) = s := by
  unfold allB
  have hA : Apart s.data.toList T 0 (-1) (spansL s.data.toList T 0) := goL_apart s.data.toList T _ 0 (-1)
  rw [pieces_own s T _ 0 (-1) hA (Nat.zero_le _), extract_all]
theorem first_own (s : ByteArray) (T : Tr) : firstB s [⟨#[]⟩, ⟨#[]⟩] (spansL s.data.toList T 0) = s := by
  have hlen : s.data.toList.length = s.size := Array.length_toList
  have hA : Apart s.data.toList T 0 (-1) (spansL s.data.toList T 0) := goL_apart s.data.toList T _ 0 (-1)
  cases hS : spansL s.data.toList T 0 with
  | nil => rfl
  | cons p rest =>
    obtain ⟨x, y⟩ := p
    rw [hS] at hA
    obtain ⟨_, h2, _, h4, h5, _⟩ := hA
    show joinB [s.extract 0 x, joinB [⟨#[]⟩, ⟨#[]⟩] (s.extract x y), s.extract y s.size] ⟨#[]⟩ = s
    rw [catB_cons, catB_cons, catB_cons, catB_nil, ba_nil, join_own, ba_assoc, extract_join s (Nat.zero_le _) h4, extract_join s (Nat.zero_le _) (by omega), extract_all]
theorem all_none (s : ByteArray) (xs : List ByteArray) : allB s xs [] = s := by
  show joinB [s.extract 0 s.size] ⟨#[]⟩ = s
  rw [catB_cons, catB_nil, ba_nil, extract_all]
set_option maxHeartbeats 2000000 in
set_option maxRecDepth 20000 in
theorem stays_in (ao al : Option Addr) (N cap M cl n K : Nat) (s R : ByteArray) (xs : List ByteArray) (w : World) (ts : List Nd) (hL : Lies (.slice ao N cap) ts w) (hX : Strs (.slice al M cl) xs w)
    (hcase : (K = 0 ∧ n = 0 ∧ R = s) ∨ (0 < K ∧ n = 1)) (hKb : K ≤ 100)
    (kf : ∀ w', Below w.heap.size w w' → Calls Try.prog 46 #[.slice ao N cap, .string s, .slice al M cl] w' fun e w'' => e = .returned (.bool true) ∧ Below w'.heap.size w' w'')
    (k1 : ∀ (al : Option Addr) (cl : Nat) w, Lies (.slice ao N cap) ts w → Strs (.slice al 2 cl) [⟨#[]⟩, ⟨#[]⟩] w → Calls Try.prog 47 #[.slice ao N cap, .string s, .slice al 2 cl] w fun e w' => e = .returned (.tuple #[.string s, .int .i64 (n : Int)]) ∧ Below w.heap.size w w')
    (k2 : ∀ (al : Option Addr) (cl : Nat) w, Lies (.slice ao N cap) ts w → Strs (.slice al 2 cl) [⟨#[]⟩, ⟨#[]⟩] w → Calls Try.prog 49 #[.slice ao N cap, .string s, .slice al 2 cl] w fun e w' => e = .returned (.tuple #[.string s, .int .i64 (K : Int)]) ∧ Below w.heap.size w w')
    (k3 : ∀ w, Lies (.slice ao N cap) ts w → Calls Try.prog 30 #[.slice ao N cap, .string s] w fun e w' => (∃ a c, e = .returned (.slice a K c)) ∧ Below w.heap.size w w')
    (k4 : ∀ w, Lies (.slice ao N cap) ts w → Strs (.slice al M cl) xs w → Calls Try.prog 49 #[.slice ao N cap, .string s, .slice al M cl] w fun e w' => e = .returned (.tuple #[.string R, .int .i64 (K : Int)]) ∧ Below w.heap.size w w') :
    Calls Try.prog 12 #[.slice ao N cap, .string s, .slice al M cl] w fun e w' => e = .returned (.bool true) ∧ Below w.heap.size w w' := by
  have ks := fun w => shownS_any w
  have H := Lib.hid (And.intro hL hX)
  clear hL hX
  have e0 : (s.toList == s.toList) = true := by simp
  rcases hcase with ⟨rfl, rfl, rfl⟩ | ⟨hK, rfl⟩
  case inr => have hK1 : decide (0 < K) = true := (by simp; omega)
              go_enter Try.func12, Try.ntmps12
              go_wp2_with (first
                | (go_at_call 37; refine (ks _).mono ?_; rintro e w1 ⟨rfl, hb1⟩; have H1 := Lib.hid hb1; clear hb1 ks)
                | (go_at_call 46; refine (kf _ H1.out).mono ?_; rintro e w2 ⟨rfl, hb2⟩; have H2 := Lib.hid (H1.out.trans (hb2.mono H1.out.size)); have HX2 := Lib.hid (strs_two w2 ⟨#[]⟩ ⟨#[]⟩); have HA2 := Lib.hid (H2.out.alloc H2.out.size (.cells #[.string ⟨#[]⟩, .string ⟨#[]⟩] 9)); clear hb2 kf)
                | (go_at_call 47; refine (k1 _ _ _ (H.out.1.below HA2.out) HX2.out).mono ?_; rintro e w3 ⟨rfl, hb3⟩; have HX3 := Lib.hid (HX2.out.below hb3); have H3 := Lib.hid (HA2.out.trans (hb3.mono HA2.out.size)); clear hb3 k1)
                | (go_at_call 49; first
                    | (with_reducible refine (k2 _ _ _ (H.out.1.below H3.out) HX3.out).mono ?_; rintro e w4 ⟨rfl, hb4⟩; have H4 := Lib.hid (H3.out.trans (hb4.mono H3.out.size)); clear hb4 k2)
                    | (with_reducible refine (k4 _ (H.out.1.below H5.out) (H.out.2.below H5.out)).mono ?_; rintro e w6 ⟨rfl, hb6⟩; have H6 := Lib.hid (H5.out.trans (hb6.mono H5.out.size)); clear hb6 k4))
                | (go_at_call 30; refine (k3 _ (H.out.1.below H4.out)).mono ?_; rintro e w5 ⟨⟨a5, c5, rfl⟩, hb5⟩; have H5 := Lib.hid (H4.out.trans (hb5.mono H4.out.size)); clear hb5 k3)
                | fail)
              exact bodyPost_ret (results_tmp rfl _ _ _) rfl ⟨by simp, H6.out⟩
  case inl =>
              go_enter Try.func12, Try.ntmps12
              go_wp2_with (first
                | (go_at_call 37; refine (ks _).mono ?_; rintro e w1 ⟨rfl, hb1⟩; have H1 := Lib.hid hb1; clear hb1 ks)
                | (go_at_call 46; refine (kf _ H1.out).mono ?_; rintro e w2 ⟨rfl, hb2⟩; have H2 := Lib.hid (H1.out.trans (hb2.mono H1.out.size)); have HX2 := Lib.hid (strs_two w2 ⟨#[]⟩ ⟨#[]⟩); have HA2 := Lib.hid (H2.out.alloc H2.out.size (.cells #[.string ⟨#[]⟩, .string ⟨#[]⟩] 9)); clear hb2 kf)
                | (go_at_call 47; refine (k1 _ _ _ (H.out.1.below HA2.out) HX2.out).mono ?_; rintro e w3 ⟨rfl, hb3⟩; have HX3 := Lib.hid (HX2.out.below hb3); have H3 := Lib.hid (HA2.out.trans (hb3.mono HA2.out.size)); clear hb3 k1)
                | (go_at_call 49; first
                    | (with_reducible refine (k2 _ _ _ (H.out.1.below H3.out) HX3.out).mono ?_; rintro e w4 ⟨rfl, hb4⟩; have H4 := Lib.hid (H3.out.trans (hb4.mono H3.out.size)); clear hb4 k2)
                    | (with_reducible refine (k4 _ (H.out.1.below H5.out) (H.out.2.below H5.out)).mono ?_; rintro e w6 ⟨rfl, hb6⟩; have H6 := Lib.hid (H5.out.trans (hb6.mono H5.out.size)); clear hb6 k4))
                | (go_at_call 30; refine (k3 _ (H.out.1.below H4.out)).mono ?_; rintro e w5 ⟨⟨a5, c5, rfl⟩, hb5⟩; have H5 := Lib.hid (H4.out.trans (hb5.mono H4.out.size)); clear hb5 k3)
                | fail)
              exact bodyPost_ret (results_tmp rfl _ _ _) rfl ⟨by simp, H6.out⟩
set_option maxHeartbeats 1000000 in
set_option maxRecDepth 20000 in
theorem stays_out (ao al : Option Addr) (N cap M cl : Nat) (s : ByteArray) (w : World)
    (kf : ∀ w', Below w.heap.size w w' → Calls Try.prog 46 #[.slice ao N cap, .string s, .slice al M cl] w' fun e w'' => e = .returned (.bool false) ∧ Below w'.heap.size w' w'') :
    Calls Try.prog 12 #[.slice ao N cap, .string s, .slice al M cl] w fun e w' => e = .returned (.bool true) ∧ Below w.heap.size w w' := by
  have ks := fun w => shownS_any w
  go_enter Try.func12, Try.ntmps12
  go_wp2_with (first
    | (go_at_call 37; refine (ks _).mono ?_; rintro e w1 ⟨rfl, hb1⟩; have H1 := Lib.hid hb1; clear hb1 ks)
    | (go_at_call 46; refine (kf _ H1.out).mono ?_; rintro e w2 ⟨rfl, hb2⟩; have H2 := Lib.hid (H1.out.trans (hb2.mono H1.out.size)); clear hb2 kf)
    | fail)
  exact bodyPost_ret (results_tmp rfl _ _ _) rfl ⟨rfl, H2.out⟩
/-- The statement's function, where the replacement's bytes are not too many to be counted. -/
theorem substStays_walk (w : World) (ao : Option Addr) (cap : Nat) (ts : List Nd) (_h63 : ts.length ≤ 9223372036854775807) (hL : ts.length ≤ 140737488355328 → Lies (.slice ao ts.length cap) ts w) (s : ByteArray) (_hs : s.size ≤ 140737488351232) (al : Option Addr) (cl : Nat) (xs : List ByteArray) (hX : Strs (.slice al xs.length cl) xs w) (hx : longN xs ≤ 9223372036854775807) :
    Calls Try.prog 12 #[.slice ao ts.length cap, .string s, .slice al xs.length cl] w fun e w' => e = .returned (.bool true) ∧ Below w.heap.size w w' := by
  obtain ⟨q, hq, kf⟩ := few07_any ao cap ts s xs w hL hx
  cases q
  · exact stays_out ao al _ cap _ cl s w fun w' hb => kf al _ cl w' hb (hX.below hb)
  · obtain ⟨hN, hs, hx2, hL, T, hok, hts⟩ := hq rfl
    have hlen : s.data.toList.length = s.size := Array.length_toList
    refine stays_in ao al _ cap _ cl (firstN (spansL s.data.toList T 0)) (spansL s.data.toList T 0).length s (allB s xs (spansL s.data.toList T 0)) xs w ts hL hX ?_ (spansL_few (by omega)) (fun w' hb => kf al _ cl w' hb (hX.below hb)) (fun al cl w h h2 => ?_) (fun al cl w h h2 => ?_) (fun w h => ?_) (fun w h h2 => all_few ao cap T ts s xs hts hok hN hs hx2 al _ cl w h h2)
    · cases hS : spansL s.data.toList T 0 with
      | nil => exact .inl ⟨rfl, rfl, all_none s xs⟩
      | cons p rest => exact .inr ⟨Nat.succ_pos _, rfl⟩
    · have h := first_few ao cap T ts s [⟨#[]⟩, ⟨#[]⟩] hts hok hN hs (by decide) al 2 cl w h h2
      rwa [first_own] at h
    · have h := all_few ao cap T ts s [⟨#[]⟩, ⟨#[]⟩] hts hok hN hs (by decide) al 2 cl w h h2
      rwa [all_own] at h
    · refine (refSpans_any _ T ts s w hts hok (by omega) (by omega) h).mono fun e w' hh => ?_
      obtain ⟨v, rfl, h2, h3⟩ := hh
      obtain ⟨a, c, hv⟩ := own_zeroB h2
      exact ⟨⟨a, c, by rw [hv]⟩, h3⟩
end Go.Proofs.Ytgffmbdbjbhocaa
