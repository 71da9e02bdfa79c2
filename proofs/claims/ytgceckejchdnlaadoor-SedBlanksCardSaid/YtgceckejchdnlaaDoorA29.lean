/- Packed texts: SedBlanksWalk. What each of them proves stands above its theorems; the conditions stand in these. -/
import Derived.Test.YtgceckejchdnlaaDoorA28
namespace Go.Proofs.YtgceckejchdnlaaDoor
open Go.RowKit Go.Lib

theorem around_list (s : ByteArray) : ((⟨#[32, 59, 10, 32]⟩ : ByteArray) ++ s ++ ⟨#[10, 59, 32]⟩).data.toList = [32, 59, 10, 32] ++ (s.data.toList ++ [10, 59, 32]) := by
  simp
set_option maxHeartbeats 4000000 in
set_option maxRecDepth 20000 in
theorem blanks_out (s : ByteArray) (w : World) (hs : s.size ≤ 140737488351232) (h : 1500 < s.size) :
    Calls Tryd.prog 5 #[.string s] w fun e w' => e = .returned (.bool true) ∧ Below w.heap.size w w' := by
  have kS := shown8_any w
  have hd : decide ((1500 : Int) < (s.size : Int)) = true := by simpa using (by omega : (1500 : Int) < (s.size : Int))
  go_enter Tryd.func5, Tryd.ntmps5
  go_wp2_with (go_at_call 6; refine kS.mono ?_; rintro e w1 ⟨rfl, hb⟩)
  exact bodyPost_ret (results_tmp rfl _ _ _) rfl ⟨rfl, hb⟩
set_option maxHeartbeats 4000000 in
set_option maxRecDepth 20000 in
theorem blanks_bad (s : ByteArray) (x : Int) (w : World) (h : s.size ≤ 1500) (hx : (x == 0) = false)
    (k1 : ∀ w, Calls Tryd.prog 7 #[.string s] w fun e w' => e = .returned (.tuple #[.slice none 0 0, .int .i64 x]) ∧ Below w.heap.size w w')
    (k2 : ∀ w, Calls Tryd.prog 7 #[.string ((⟨#[32, 59, 10, 32]⟩ : ByteArray) ++ s ++ ⟨#[10, 59, 32]⟩)] w fun e w' => (∃ v y, e = .returned (.tuple #[v, .int .i64 y])) ∧ Below w.heap.size w w') :
    Calls Tryd.prog 5 #[.string s] w fun e w' => e = .returned (.bool true) ∧ Below w.heap.size w w' := by
  have kS := shown8_any w
  have hd : decide ((1500 : Int) < (s.size : Int)) = false := by simp; omega
  go_enter Tryd.func5, Tryd.ntmps5
  go_wp2_with fail
  refine kS.mono ?_
  rintro e w1 ⟨rfl, hb1⟩
  go_wp2_with fail
  refine (k1 w1).mono ?_
  rintro e w2 ⟨rfl, hb2⟩
  go_wp2_with fail
  refine (k2 w2).mono ?_
  rintro e w3 ⟨⟨v, y, rfl⟩, hb3⟩
  have HB := Lib.hid ((hb1.trans (hb2.mono hb1.size)).trans (hb3.mono (by have := hb1.size; have := hb2.size; omega)))
  go_wp2_with fail
  exact bodyPost_ret (results_tmp rfl _ _ _) rfl ⟨rfl, HB.out⟩
set_option maxHeartbeats 4000000 in
set_option maxRecDepth 20000 in
theorem blanks_in (s : ByteArray) (cs : List Cm) (w : World) (h : s.size ≤ 1500) (hr : Rdy s.data.toList cs)
    (k1 : ∀ w, Calls Tryd.prog 7 #[.string s] w fun e w' => (∃ v, e = .returned (.tuple #[v, .int .i64 0]) ∧ ScrS w.heap.size cs v w') ∧ Below w.heap.size w w')
    (k2 : ∀ w, Calls Tryd.prog 7 #[.string ((⟨#[32, 59, 10, 32]⟩ : ByteArray) ++ s ++ ⟨#[10, 59, 32]⟩)] w fun e w' => (∃ v, e = .returned (.tuple #[v, .int .i64 0]) ∧ ScrS w.heap.size cs v w') ∧ Below w.heap.size w w') :
    Calls Tryd.prog 5 #[.string s] w fun e w' => e = .returned (.bool true) ∧ Below w.heap.size w w' := by
  have kS := shown8_any w
  have hd : decide ((1500 : Int) < (s.size : Int)) = false := by simp; omega
  have hz : s.data.toList.length = s.size := Array.length_toList
  have hlen := hr.len
  have kSame := fun B B' u v w (h1 : ScrS B cs u w) (h2 : ScrS B' cs v w) => same8_eq B B' cs u v w h1 h2 (by omega) hr.good (fun c hc => by have := hr.put c hc; omega)
  have HR := Lib.hid hr
  clear hr hz hlen
  go_enter Tryd.func5, Tryd.ntmps5
  go_wp2_with fail
  refine kS.mono ?_
  rintro e w1 ⟨rfl, hb1⟩
  go_wp2_with fail
  refine (k1 w1).mono ?_
  rintro e w2 ⟨⟨v, rfl, hs2⟩, hb2⟩
  go_wp2_with fail
  refine (k2 w2).mono ?_
  rintro e w3 ⟨⟨u, rfl, hs3⟩, hb3⟩
  have kq := kSame _ _ _ _ _ (hs2.below hb3) hs3
  have HB := Lib.hid ((hb1.trans (hb2.mono hb1.size)).trans (hb3.mono (by have := hb1.size; have := hb2.size; omega)))
  clear kSame k1 k2 hs2 hs3 hb1 hb2 hb3
  go_wp2_with (go_at_call 8; refine kq.mono ?_; rintro e w4 ⟨rfl, hb4⟩)
  exact bodyPost_ret (results_tmp rfl _ _ _) rfl ⟨rfl, HB.out.trans (hb4.mono HB.out.size)⟩
/-- The law's walk. -/
theorem sedBlanks_walk (s : ByteArray) (hs : s.size ≤ 140737488351232) (w : World) :
    Calls Tryd.prog 5 #[.string s] w fun e w' => e = .returned (.bool true) ∧ Below w.heap.size w w' := by
  by_cases h : 1500 < s.size
  · exact blanks_out s w hs h
  · have hz : s.data.toList.length = s.size := Array.length_toList
    have k1 := fun w => read8_any s w (by omega)
    have k2 := fun w => read8_any ((⟨#[32, 59, 10, 32]⟩ : ByteArray) ++ s ++ ⟨#[10, 59, 32]⟩) w (by rw [ByteArray.size_append, ByteArray.size_append]; show 4 + s.size + 3 ≤ _; omega)
    rw [around_list] at k2
    cases hr : sedR s.data.toList with
    | bad x =>
      rw [hr] at k1
      refine blanks_bad s x w (by omega) (sedR_bad0 hr) k1 fun w => (k2 w).mono ?_
      rintro e w' ⟨h1, h2⟩
      refine ⟨?_, h2⟩
      unfold Rd8 at h1
      split at h1
      · obtain ⟨v, rfl, _⟩ := h1; exact ⟨v, 0, rfl⟩
      · exact ⟨_, _, h1⟩
    | ok cs =>
      rw [hr] at k1
      rw [sedR_around hr (by omega)] at k2
      exact blanks_in s cs w (by omega) (sedR_ok hr) k1 k2
end Go.Proofs.YtgceckejchdnlaaDoor
