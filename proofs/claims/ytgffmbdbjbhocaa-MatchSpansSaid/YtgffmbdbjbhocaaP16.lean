/- Packed texts: MatchSpansWalk. What each of them proves stands above its theorems; the conditions stand in these. -/
import Derived.Test.YtgffmbdbjbhocaaP12
namespace Go.Proofs.Ytgffmbdbjbhocaa
open Go.RowKit Go.Lib

set_option maxHeartbeats 2000000 in
set_option maxRecDepth 20000 in
theorem matchSpans_walk (w : World) (ao : Option Addr) (cap : Nat) (ts : List Nd) (_h63 : ts.length ≤ 9223372036854775807) (hL : ts.length ≤ 140737488355328 → Lies (.slice ao ts.length cap) ts w) (s : ByteArray) (_hs : s.size ≤ 140737488351232) :
    Calls Try.prog 4 #[.slice ao ts.length cap, .string s] w fun e w' => e = .returned (.bool true) ∧ Below w.heap.size w w' := by
  have ks := fun w => shownM_any w
  obtain ⟨q, hq, kf⟩ := few06_any ao cap ts s w hL
  have HL := Lib.hid hL
  clear hL
  cases q
  · clear hq
    generalize ts.length = N at kf
    go_enter Try.func4, Try.ntmps4
    go_wp2_with (first
      | (go_at_call 26; refine (ks _).mono ?_; rintro e w1 ⟨rfl, hb1⟩; have H1 := Lib.hid hb1; clear hb1 ks)
      | (go_at_call 27; refine (kf _ H1.out).mono ?_; rintro e w2 ⟨rfl, hb2⟩; have H2 := Lib.hid hb2; clear hb2 kf)
      | fail)
    exact bodyPost_ret (results_tmp rfl _ _ _) rfl ⟨rfl, H1.out.trans (H2.out.mono H1.out.size)⟩
  · obtain ⟨hN, hs, hL, T, hok, hts⟩ := hq rfl
    have k1 := fun w h => spans_any (.slice ao ts.length cap) T ts s w hts hok (by omega) (by omega) h
    have k2 := fun w h => refSpans_any (.slice ao ts.length cap) T ts s w hts hok (by omega) (by omega) h
    have hLn : (spansL s.data.toList T 0).length ≤ 2000010 := by
      have := goL_length (farG s.data.toList T) s.data.toList.length (2 * (s.data.toList.length + 1 - 0) + 2) 0 (-1)
      have e : s.data.toList.length = s.size := Array.length_toList
      unfold spansL
      omega
    generalize spansL s.data.toList T 0 = L at k1 k2 hLn
    have k3 := fun B C u v w h1 h2 => sameSpans_any B C u v L w (by omega) h1 h2
    have HL := Lib.hid hL
    clear hL hq hts hok hN hs _h63 hLn
    generalize ts.length = N at HL kf k1 k2
    go_enter Try.func4, Try.ntmps4
    go_wp2_with (first
      | (go_at_call 26; refine (ks _).mono ?_; rintro e w1 ⟨rfl, hb1⟩; have H1 := Lib.hid hb1; clear hb1 ks)
      | (go_at_call 27; refine (kf _ H1.out).mono ?_; rintro e w2 ⟨rfl, hb2⟩; have H2 := Lib.hid (H1.out.trans (hb2.mono H1.out.size)); clear hb2 kf)
      | (go_at_call 29; refine (k1 _ (HL.out.below H2.out)).mono ?_; rintro e w3 ⟨v3, rfl, ho3, hb3⟩; obtain ⟨a3, c3, rfl⟩ := own_zeroB ho3; have H3 := Lib.hid (And.intro ho3 (H2.out.trans (hb3.mono H2.out.size))); clear hb3 k1 ho3)
      | (go_at_call 30; refine (k2 _ (HL.out.below H3.out.2)).mono ?_; rintro e w4 ⟨v4, rfl, ho4, hb4⟩; obtain ⟨a4, c4, rfl⟩ := own_zeroB ho4
         have ho5 := owns_same H3.out.1 fun q hq => hb4.block q (own_block_lt H3.out.1 hq)
         have H4 := Lib.hid (And.intro ho4 (And.intro ho5 (H3.out.2.trans (hb4.mono H3.out.2.size)))); clear hb4 k2 ho4 ho5)
      | (go_at_call 28; refine (k3 _ _ _ _ _ H4.out.2.1 H4.out.1).mono ?_; rintro e w5 ⟨rfl, hb5⟩; have H5 := Lib.hid hb5; clear hb5 k3)
      | fail)
    exact bodyPost_ret (results_tmp rfl _ _ _) rfl ⟨rfl, H4.out.2.2.trans (H5.out.mono H4.out.2.2.size)⟩
end Go.Proofs.Ytgffmbdbjbhocaa
