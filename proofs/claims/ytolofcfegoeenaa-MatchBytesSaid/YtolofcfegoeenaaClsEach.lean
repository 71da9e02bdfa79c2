/- The bytes of a class, one behind the other: package class's iterator over them. No condition. -/
import Derived.Test.YtolofcfegoeenaaRange
import Derived.Test.YtolofcfegoeenaaClsCalls
namespace Go.Proofs.Ytolofcfegoeenaa
open Go.RowKit
attribute [local go_sem] Oper.semAt_some

/-- The bytes of a class below a number, rising. -/
def uptoL (k : Cl) (m : Nat) : List UInt8 := ((List.range m).filter (has k)).map Nat.toUInt8
theorem upto_succ (k : Cl) (m : Nat) : uptoL k (m + 1) = uptoL k m ++ if has k m then [m.toUInt8] else [] := by
  unfold uptoL
  rw [List.range_succ, List.filter_append, List.map_append]
  cases h : has k m
  · simp [h]
  · rw [show List.filter (has k) [m] = [m] by simp [h]]
    rfl
theorem upto_length (k : Cl) (m : Nat) : (uptoL k m).length ≤ m := by
  unfold uptoL
  rw [List.length_map]
  exact Nat.le_trans (List.length_filter_le _ _) (by simp)
theorem toUInt8_nat {m : Nat} (h : m < 256) : (m.toUInt8.toNat : Int) = (m : Int) := by
  rw [show m.toUInt8.toNat = m % 256 from rfl, Nat.mod_eq_of_lt h]
theorem grown_of_below {w w' : World} (h : Below w.heap.size w w') (row : Option Nat) : w.grownBy w' row := ⟨h.os, h.tape, h.output, h.size, fun k hk _ => h.block k hk⟩
theorem has_nat (k : Cl) (m : Nat) (w : World) (hm : m < 256) (b : Bool) (hb : has k m = b) :
    Calls Try.prog 115 #[clsV k, .int .u8 (m : Int)] w fun e w' => e = .returned (.bool b) ∧ Below w.heap.size w w' := by
  have h := has_any k (m : Int) w (by omega) (by omega)
  rwa [Int.toNat_natCast, hb] at h

theorem block_at {w : World} {b : Nat} {o : Obj} (h : w.heap[b]? = some o) : b < w.heap.size := (Array.getElem?_eq_some_iff.1 h).1
set_option maxHeartbeats 1000000 in
theorem each_any (a b c d : Int) (w : World) :
    Calls Try.prog 120 #[.agg #[.int .u64 a, .int .u64 b, .int .u64 c, .int .u64 d]] w fun e w' => e = .returned (.func (.func 129) #[] #[.pointer (some ⟨w.heap.size, 0, none⟩)]) ∧ w' = w.alloc (.cells #[.int .u64 a, .int .u64 b, .int .u64 c, .int .u64 d] 54) := by
  go_enter Try.func120, Try.ntmps120
  go_wp2
  go_ret
  exact ⟨rfl, rfl⟩

abbrev encB (c : UInt8) : Array Value := #[.int .u8 (c.toNat : Int)]

set_option maxHeartbeats 1000000 in
set_option maxRecDepth 20000 in
theorem each1 (k : Cl) (kb : Nat) (W : World) (hkb : W.heap[kb]? = some (.cells (clsA k) 54 (0, 0))) :
    SeqX Try.prog 129 #[.pointer (some ⟨kb, 0, none⟩)] encB 0 256 (fun xs => xs = uptoL k 256) (fun j => j = kb) W := fun l J Jx hJ hJx hY h0 => by
  refine callsIn_of_wp Try.func129 rfl trivial ?_ rfl
  simp only [Try.ntmps129, List.size_toArray, List.length_cons, List.length_nil, Nat.reduceAdd, Nat.reduceSub, Array.replicate_succ, Array.replicate_zero, List.push_toArray, List.append_toArray, List.nil_append, List.cons_append]
  gi_wp2
  gi_loopw [5] (fun i wr => ∃ m : Nat, m ≤ 256 ∧ i = .int .i64 m ∧ Hid (J (uptoL k m) wr) ∧ Hid (wr.heap[kb]? = some (.cells (clsA k) 54 (0, 0))) ∧ Hid (W.heap.size ≤ wr.heap.size))
    (fun i _ => 256 - (intOf i).toNat)
  case atStart => exact ⟨0, Nat.zero_le _, rfl, h0, hkb, Nat.le_refl _⟩
  case round =>
    obtain ⟨m, hm, rfl, HJ, HK, HS⟩ := hrel
    by_cases hlt : m < 256
    · obtain ⟨⟨c0, c1, c2, c3⟩, f0, f1, f2, f3⟩ := res_four HK.out
      clear f0 f1 f2 f3
      unfold wd at c0 c1 c2 c3
      cases hb : has k m with
      | false =>
        have k1 := fun w => callsIn_wide (n := 0).2 (has_nat k m w hlt _ hb)
        unfold clsV clsA wd at k1
        gi_wp2_with (refine ⟨trivial, rfl, ?_⟩; gi_at_call 115; refine (k1 _).mono ?_; rintro e w1 ⟨rfl, hb1⟩)
        have HJ1 : Hid (J (uptoL k m) w1) := hJ.grow HJ.out (grown_of_below hb1 none)
        have hsz1 := hb1.size
        have HK1 : Hid (w1.heap[kb]? = some (.cells (clsA k) 54 (0, 0))) := (hb1.block kb (block_at HK.out)).trans HK.out
        have HS1 : Hid (W.heap.size ≤ w1.heap.size) := Nat.le_trans HS.out hsz1
        clear hb1 hsz1
        refine ⟨fun _ h => (by cases h), ?_⟩
        gi_wp2
        go_roundw
        case rel => exact ⟨m + 1, by omega, by go_num, by show J _ _; rw [upto_succ, hb]; simpa using HJ1.out, HK1, HS1⟩
        case measure => simp [intOf]; omega
      | true =>
        have k1 := fun w => callsIn_wide (n := 0).2 (has_nat k m w hlt _ hb)
        unfold clsV clsA wd at k1
        have hm8 : (m.toUInt8.toNat : Int) = (m : Int) := toUInt8_nat hlt
        gi_wp2_with (refine ⟨trivial, rfl, ?_⟩; gi_at_call 115; refine (k1 _).mono ?_; rintro e w1 ⟨rfl, hb1⟩
                     have HJ1 : Hid (J (uptoL k m) w1) := hJ.grow HJ.out (grown_of_below hb1 none)
                     have hsz1 := hb1.size
                     have HK1 : Hid (w1.heap[kb]? = some (.cells (clsA k) 54 (0, 0))) := (hb1.block kb (block_at HK.out)).trans HK.out
                     have HS1 : Hid (W.heap.size ≤ w1.heap.size) := Nat.le_trans HS.out hsz1
                     obtain ⟨fn, tmps, assign, body, hy, hR⟩ := hY (uptoL k m) m.toUInt8 w1 HS1.out (fun r h1 h2 => absurd h2 (by omega)) HJ1.out (Nat.lt_of_le_of_lt (upto_length k m) hlt)
                     dsimp only [encB] at hy
                     rw [hm8] at hy
                     clear hb1 hsz1)
        refine ⟨rfl, hR.mono ?_⟩
        clear hy hR
        rintro e W3 ⟨hs3, hk3, ⟨rfl, hJ3⟩ | ⟨rfl, hJx3⟩⟩
        · have HJ3 := Lib.hid hJ3
          have HK3 : Hid (W3.heap[kb]? = some (.cells (clsA k) 54 (0, 0))) := (hk3 kb (.inl rfl)).trans HK1.out
          have HS3 : Hid (W.heap.size ≤ W3.heap.size) := Nat.le_trans HS1.out hs3
          clear hJ3 hs3 hk3
          gi_wp2
          go_roundw
          case rel => exact ⟨m + 1, by omega, by go_num, by show J _ _; rw [upto_succ, hb]; exact HJ3.out, HK3, HS3⟩
          case measure => simp [intOf]; omega
        · have HX := Lib.hid hJx3
          clear hJx3
          gi_wp2
          refine bodyPost_ret (results_none rfl _ _ _) rfl ?_
          exact ⟨⟨_, rfl⟩, .inr ⟨_, HX.out⟩⟩
    · obtain rfl : m = 256 := by omega
      gi_wp2
      go_end0
      exact ⟨⟨_, rfl⟩, .inl ⟨_, rfl, HJ.out⟩⟩
end Go.Proofs.Ytolofcfegoeenaa
