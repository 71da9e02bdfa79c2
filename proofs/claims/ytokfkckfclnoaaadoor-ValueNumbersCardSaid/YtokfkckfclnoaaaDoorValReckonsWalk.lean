/- The statement ValueReckons, walked. Condition: the library's table of powers of ten holds what its text lays. -/
import Derived.Test.YtokfkckfclnoaaaDoorValTurnsWalk
namespace Go.Proofs.YtokfkckfclnoaaaDoor
open Go.RowKit

theorem reckonD_cases (op : Int) (a b : List UInt8) : ((reckonD op a b).2 ≠ 0 ∧ (reckonD op a b).1 = []) ∨ ((reckonD op a b).2 = 0 ∧ ∃ r : Int, (-9223372036854775808 ≤ r ∧ r ≤ 9223372036854775807) ∧ (reckonD op a b).1 = textL r) := by
  unfold reckonD
  by_cases h : isOp op = true
  · rw [if_pos h]
    by_cases e1 : (numberD a).2 = 0
    · rw [if_neg (by rw [e1]; simp)]
      by_cases e2 : (numberD b).2 = 0
      · rw [if_neg (by rw [e2]; simp)]
        by_cases e3 : (opN op (numberD a).1 (numberD b).1).2 = 0
        · rw [if_neg (by rw [e3]; simp)]
          right
          refine ⟨rfl, _, opN_bounds op _ _ ?_ e3, rfl⟩
          rcases numberD_cases a with ⟨_, h⟩ | ⟨_, h⟩
          · exact h
          · rw [h]; omega
        · rw [if_pos e3]; left; exact ⟨e3, rfl⟩
      · rw [if_pos e2]; left; exact ⟨e2, rfl⟩
    · rw [if_pos e1]; left; exact ⟨e1, rfl⟩
  · rw [if_neg h]; left; exact ⟨by simp only; omega, rfl⟩
theorem reckon_add0 (r : Int) (hr : -9223372036854775808 ≤ r ∧ r ≤ 9223372036854775807) : reckonD 43 (textL r) [] = (textL r, 0) := by
  have h : opN 43 r 0 = (r, 0) := by
    show into (r + 0) = (r, 0)
    rw [Int.add_zero]; unfold into; rw [if_pos hr]
  unfold reckonD
  rw [number_text r hr, number_nil]
  simp only [h]
  rfl

theorem reckons_bad (a b : ByteArray) (op er : Int) (w : World) (h0 : ((er : Int) != 0) = true) (hs : (a.size : Int) + (b.size : Int) ≤ 2000)
    (c1 : Calls Tryd.prog 33 #[] w fun e w' => e = .returned (.bool true) ∧ Below w.heap.size w w')
    (k1 : ∀ w, Tab w → Calls Tryd.prog 45 #[.int .u8 op, .string a, .string b] w fun e w' => e = .returned (.tuple #[.string ⟨#[]⟩, .int .i64 er]) ∧ Below w.heap.size w w') (ht : Tab w) :
    Calls Tryd.prog 8 #[.string a, .string b, .int .u8 op] w fun e w' => e = .returned (.bool true) ∧ Below w.heap.size w w' := by
  have HT := Lib.hid ht
  clear ht
  go_enter Tryd.func8, Tryd.ntmps8
  go_wp2_with (first
    | (go_at_call 33; refine c1.mono ?_; rintro e w1 ⟨rfl, hb1⟩)
    | (go_at_call 45; refine (k1 _ (HT.out.below hb1)).mono ?_; rintro e w2 ⟨rfl, hb2⟩; have HB2 := below_at hb1 hb2 hb1.size))
  all_goals
    go_ret
    exact ⟨rfl, HB2⟩
theorem reckons_ok (a b S : ByteArray) (op r : Int) (z : Bool) (w : World) (hs : (a.size : Int) + (b.size : Int) ≤ 2000) (hz : (S.toList == (⟨#[48]⟩ : ByteArray).toList) = z)
    (c1 : Calls Tryd.prog 33 #[] w fun e w' => e = .returned (.bool true) ∧ Below w.heap.size w w')
    (k1 : ∀ w, Tab w → Calls Tryd.prog 45 #[.int .u8 op, .string a, .string b] w fun e w' => e = .returned (.tuple #[.string S, .int .i64 0]) ∧ Below w.heap.size w w')
    (k2 : ∀ w, Calls Tryd.prog 34 #[.string S] w fun e w' => e = .returned (.tuple #[.int .i64 r, .bool true]) ∧ Below w.heap.size w w')
    (k3 : ∀ w, Tab w → Calls Tryd.prog 45 #[.int .u8 43, .string S, .string ⟨#[]⟩] w fun e w' => e = .returned (.tuple #[.string S, .int .i64 0]) ∧ Below w.heap.size w w')
    (k4 : ∀ w, Calls Tryd.prog 40 #[.string S] w fun e w' => e = .returned (.bool (!z)) ∧ Below w.heap.size w w')
    (ht : Tab w) :
    Calls Tryd.prog 8 #[.string a, .string b, .int .u8 op] w fun e w' => e = .returned (.bool true) ∧ Below w.heap.size w w' := by
  have HT := Lib.hid ht
  clear ht
  go_enter Tryd.func8, Tryd.ntmps8
  go_wp2_with (first
    | (go_at_call 33; refine c1.mono ?_; rintro e w1 ⟨rfl, hb1⟩)
    | (go_at_call 45; (with_reducible refine (k1 _ (HT.out.below hb1)).mono ?_); rintro e w2 ⟨rfl, hb2⟩; have HB2 := below_at hb1 hb2 hb1.size)
    | (go_at_call 34; (with_reducible refine (k2 _).mono ?_); rintro e w3 ⟨rfl, hb3⟩; have HB3 := below_at HB2 hb3 HB2.size)
    | (go_at_call 45; (with_reducible refine (k3 _ (HT.out.below HB3)).mono ?_); rintro e w4 ⟨rfl, hb4⟩; have HB4 := below_at HB3 hb4 HB3.size)
    | (go_at_call 40; (with_reducible refine (k4 _).mono ?_); rintro e w5 ⟨rfl, hb5⟩; have HB5 := below_at HB4 hb5 HB4.size))
  all_goals
    go_ret
    exact ⟨by first | rfl | (cases z <;> simp_all), HB5⟩
theorem valueReckons_walk (a : ByteArray) (ha : a.size ≤ 140737488351232) (b : ByteArray) (hb : b.size ≤ 140737488351232) (c : UInt8) (w : World) (ht : Tab w) :
    Calls Tryd.prog 8 #[.string a, .string b, .int .u8 (c.toNat : Int)] w fun e w' => e = .returned (.bool true) ∧ Below w.heap.size w w' := by
  have c1 := shownV_any w
  by_cases hbig : (2000 : Int) < (a.size : Int) + (b.size : Int)
  · clear ht
    go_enter Tryd.func8, Tryd.ntmps8
    go_wp2_with (go_at_call 33; refine c1.mono ?_; rintro e w1 ⟨rfl, hb1⟩)
    go_ret
    exact ⟨rfl, hb1⟩
  · have hwf : (Lit.int .u8 (c.toNat : Int)).wf = true := by
      have hh : ∀ m : Fin 256, (Lit.int .u8 (m.val : Int)).wf = true := by decide +kernel
      exact hh ⟨c.toNat, c.toNat_lt⟩
    have k1 := fun w ht => reckon_any (c.toNat : Int) a b w (by omega) (by omega) hwf ht
    rcases reckonD_cases (c.toNat : Int) a.data.toList b.data.toList with ⟨h1, h2⟩ | ⟨h1, r, hr, h2⟩
    · refine reckons_bad a b _ _ w (bne_iff_ne.2 h1) (by omega) c1 (fun w ht => ?_) ht
      have := k1 w ht
      unfold reckonE at this
      rw [h2] at this
      exact this
    · refine reckons_ok a b (ba (textL r)) _ r (r == 0) w (by omega) ?_ c1 (fun w ht => ?_) (fun w => ?_) (fun w ht => ?_) (fun w => ?_) ht
      · rw [ba_toList, ba_list, ba_toList]; exact textL_zero r hr
      · have := k1 w ht
        unfold reckonE at this
        rw [h1, h2] at this
        exact this
      · have := looks_any (ba (textL r)) w (by have := ba_small r hr; omega)
        unfold looksE at this
        rw [ba_list, looks_text0 r hr] at this
        exact this
      · have := reckon_any 43 (ba (textL r)) ⟨#[]⟩ w (by have := ba_small r hr; omega) (by decide) (by decide) ht
        unfold reckonE at this
        rw [ba_list, show (⟨#[]⟩ : ByteArray).data.toList = [] from rfl, reckon_add0 r hr] at this
        exact this
      · have := truth_any (ba (textL r)) w (by have := ba_small r hr; omega)
        rw [ba_list, truth_text r hr] at this
        exact this
end Go.Proofs.YtokfkckfclnoaaaDoor
