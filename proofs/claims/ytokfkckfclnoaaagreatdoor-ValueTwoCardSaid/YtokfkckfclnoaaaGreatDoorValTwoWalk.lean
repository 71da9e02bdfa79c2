/- The statement ValueTwo, walked. Condition: the library's table of powers of ten holds what its text lays. -/
import Derived.Test.YtokfkckfclnoaaaGreatDoorValRefTwo
import Derived.Test.YtokfkckfclnoaaaGreatDoorValShown
namespace Go.Proofs.YtokfkckfclnoaaaGreatDoor
open Go.RowKit

theorem two_walk0 (a b O : ByteArray) (op c e : Int) (w : World) (ht : Tab w) (hs : (a.size : Int) + (b.size : Int) ≤ 2000)
    (c1 : Calls Tryz.prog 4 #[] w fun e w' => e = .returned (.bool true) ∧ Below w.heap.size w w')
    (k1 : ∀ w, Tab w → Calls Tryz.prog 5 #[.int .u8 op, .string a, .string b] w fun e' w' => e' = .returned (.tuple #[.string O, .int .i64 e]) ∧ Below w.heap.size w w')
    (q1 : ∀ w, Calls Tryz.prog 6 #[.int .u8 op, .string a, .string b] w fun e' w' => e' = .returned (.tuple #[.string O, .int .i64 e]) ∧ Below w.heap.size w w')
    (k2 : ∀ w, Calls Tryz.prog 7 #[.string a, .string b] w fun e w' => e = .returned (.int .i64 c) ∧ Below w.heap.size w w')
    (q2 : ∀ w, Calls Tryz.prog 8 #[.string a, .string b] w fun e w' => e = .returned (.int .i64 c) ∧ Below w.heap.size w w') :
    Calls Tryz.prog 3 #[.string a, .string b, .int .u8 op] w fun e w' => e = .returned (.bool true) ∧ Below w.heap.size w w' := by
  have HT := Lib.hid ht
  clear ht
  go_enter Tryz.func3, Tryz.ntmps3
  go_wp2_with (first
    | (go_at_call 4; refine c1.mono ?_; rintro e w1 ⟨rfl, hb1⟩)
    | (go_at_call 5; refine (k1 _ (HT.out.below hb1)).mono ?_; rintro e w2 ⟨rfl, hb2⟩; have HB2 := below_at hb1 hb2 hb1.size)
    | (go_at_call 6; refine (q1 _).mono ?_; rintro e w3 ⟨rfl, hb3⟩; have HB3 := below_at HB2 hb3 HB2.size)
    | (go_at_call 7; refine (k2 _).mono ?_; rintro e w4 ⟨rfl, hb4⟩; have HB4 := below_at HB3 hb4 HB3.size)
    | (go_at_call 8; refine (q2 _).mono ?_; rintro e w5 ⟨rfl, hb5⟩; have HB5 := below_at HB4 hb5 HB4.size))
  all_goals
    go_ret
    exact ⟨by first | rfl | simp, HB5⟩
theorem valueTwo_walk (a : ByteArray) (ha : a.size ≤ 140737488351232) (b : ByteArray) (hb : b.size ≤ 140737488351232) (c : UInt8) (w : World) (ht : Tab w) :
    Calls Tryz.prog 3 #[.string a, .string b, .int .u8 (c.toNat : Int)] w fun e w' => e = .returned (.bool true) ∧ Below w.heap.size w w' := by
  have c1 := shownV_any w
  by_cases hbig : (2000 : Int) < (a.size : Int) + (b.size : Int)
  · clear ht
    go_enter Tryz.func3, Tryz.ntmps3
    go_wp2_with (go_at_call 4; refine c1.mono ?_; rintro e w1 ⟨rfl, hb1⟩)
    go_ret
    exact ⟨rfl, hb1⟩
  · have hwf : (Lit.int .u8 (c.toNat : Int)).wf = true := by
      have hh : ∀ m : Fin 256, (Lit.int .u8 (m.val : Int)).wf = true := by decide +kernel
      exact hh ⟨c.toNat, c.toNat_lt⟩
    exact two_walk0 a b _ _ _ _ w ht (by omega) c1 (fun w ht => reckon_any _ a b w (by omega) (by omega) hwf ht) (fun w => refReckon_any _ a b w (by omega) (by omega)) (fun w => compare_any a b w (by omega) (by omega)) (fun w => refCompare_any a b w (by omega) (by omega))
end Go.Proofs.YtokfkckfclnoaaaGreatDoor
