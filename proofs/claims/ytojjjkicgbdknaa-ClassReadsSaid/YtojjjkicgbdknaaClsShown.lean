/- The document's examples, which stand at the head of each statement of layer 4: the call answers true. No condition. -/
import Derived.Test.YtojjjkicgbdknaaClsReadAll
import Derived.Test.YtojjjkicgbdknaaClsText
namespace Go.Proofs.Ytojjjkicgbdknaa
open Go.RowKit Go.Lib

def exK : Cl := notK (orK (orK zeroK (spanK 97 97)) (oneK 10))
theorem ex_read : readD [91, 94, 97, 93, 120] = some (exK, 4) := by
  have h : listedD [97, 93, 120] zeroK 2 = some (orK zeroK (spanK 97 97), 4) := by
    rw [listed_end (a := 97) (b := 97) (n := 1) (by rfl) (by rfl)]
    rfl
  show (listedD [97, 93, 120] zeroK 2).map _ = _
  rw [h]
  rfl
def exT : Cl := orK (spanK 97 99) (oneK 47)
theorem ex_text : textL exT = [91, 92, 120, 50, 102, 97, 45, 99, 93] := by decide +kernel
theorem ex_in : has exK 98 = true := by decide +kernel
theorem ex_out : has exK 97 = false := by decide +kernel

set_option maxHeartbeats 4000000 in
set_option maxRecDepth 100000 in
theorem shown_any (w : World) : Calls Try.prog 7 #[] w fun e w' => e = .returned (.bool true) ∧ Below w.heap.size w w' := by
  have kr : ∀ Z, Calls Try.prog 10 #[.string ⟨#[91, 94, 97, 93, 120]⟩] Z fun e w' => e = .returned (.tuple #[.agg #[.int .u64 ((exK 0).toNat : Int), .int .u64 ((exK 1).toNat : Int), .int .u64 ((exK 2).toNat : Int), .int .u64 ((exK 3).toNat : Int)], .int .i64 4, .int .i64 0]) ∧ Below Z.heap.size Z w' := fun Z => by
    have h := read_any ⟨#[91, 94, 97, 93, 120]⟩ Z (by decide)
    rw [show (⟨#[91, 94, 97, 93, 120]⟩ : ByteArray).data.toList = [91, 94, 97, 93, 120] from rfl, ex_read] at h
    exact h
  have k1 : ∀ Z, Calls Try.prog 17 #[.int .u8 97, .int .u8 99] Z fun e w' => e = .returned (.agg #[.int .u64 ((spanK 97 99 0).toNat : Int), .int .u64 ((spanK 97 99 1).toNat : Int), .int .u64 ((spanK 97 99 2).toNat : Int), .int .u64 ((spanK 97 99 3).toNat : Int)]) ∧ Below Z.heap.size Z w' := fun Z => span_any 97 99 Z (by omega) (by omega) (by omega) (by omega)
  have k2 : ∀ Z, Calls Try.prog 18 #[.int .u8 47] Z fun e w' => e = .returned (.agg #[.int .u64 ((oneK 47 0).toNat : Int), .int .u64 ((oneK 47 1).toNat : Int), .int .u64 ((oneK 47 2).toNat : Int), .int .u64 ((oneK 47 3).toNat : Int)]) ∧ Below Z.heap.size Z w' := fun Z => one_any 47 Z (by omega) (by omega)
  have k3 : ∀ Z, Calls Try.prog 13 #[.agg #[.int .u64 ((spanK 97 99 0).toNat : Int), .int .u64 ((spanK 97 99 1).toNat : Int), .int .u64 ((spanK 97 99 2).toNat : Int), .int .u64 ((spanK 97 99 3).toNat : Int)], .agg #[.int .u64 ((oneK 47 0).toNat : Int), .int .u64 ((oneK 47 1).toNat : Int), .int .u64 ((oneK 47 2).toNat : Int), .int .u64 ((oneK 47 3).toNat : Int)]] Z fun e w' => e = .returned (.agg #[.int .u64 ((exT 0).toNat : Int), .int .u64 ((exT 1).toNat : Int), .int .u64 ((exT 2).toNat : Int), .int .u64 ((exT 3).toNat : Int)]) ∧ Below Z.heap.size Z w' := fun Z => or_any (spanK 97 99) (oneK 47) Z
  have k4 : ∀ Z, Calls Try.prog 19 #[.agg #[.int .u64 ((exT 0).toNat : Int), .int .u64 ((exT 1).toNat : Int), .int .u64 ((exT 2).toNat : Int), .int .u64 ((exT 3).toNat : Int)]] Z fun e w' => e = .returned (.string ⟨#[91, 92, 120, 50, 102, 97, 45, 99, 93]⟩) ∧ Below Z.heap.size Z w' := fun Z => by
    have h := text_any exT Z
    rw [ex_text] at h
    exact h
  have k5 : ∀ Z, Calls Try.prog 14 #[.agg #[.int .u64 ((exK 0).toNat : Int), .int .u64 ((exK 1).toNat : Int), .int .u64 ((exK 2).toNat : Int), .int .u64 ((exK 3).toNat : Int)], .int .u8 98] Z fun e w' => e = .returned (.bool true) ∧ Below Z.heap.size Z w' := fun Z => has_nat exK 98 Z (by omega) _ ex_in
  have k6 : ∀ Z, Calls Try.prog 14 #[.agg #[.int .u64 ((exK 0).toNat : Int), .int .u64 ((exK 1).toNat : Int), .int .u64 ((exK 2).toNat : Int), .int .u64 ((exK 3).toNat : Int)], .int .u8 97] Z fun e w' => e = .returned (.bool false) ∧ Below Z.heap.size Z w' := fun Z => has_nat exK 97 Z (by omega) _ ex_out
  -- the words as letters: what they are is of no matter from here on
  generalize exK = E at *
  generalize exT = T at *
  generalize spanK 97 99 = A at *
  generalize oneK 47 = B at *
  go_enter Try.func7, Try.ntmps7
  go_upto_region 2 with (first
    | (go_at_call 10; with_reducible refine (kr _).mono ?_; clear kr; rintro e w1 ⟨rfl, hb1⟩))
  obtain ⟨V, hV⟩ : ∃ V, V = w1.alloc (.cells #[.int .u64 ((E 0).toNat : Int), .int .u64 ((E 1).toNat : Int), .int .u64 ((E 2).toNat : Int), .int .u64 ((E 3).toNat : Int)] 30) := ⟨_, rfl⟩
  obtain ⟨g, hg⟩ : ∃ g, g = w1.heap.size := ⟨_, rfl⟩
  have hc : V.heap[g]? = some (.cells (clsA E) 30 (0, 0)) := by rw [hV, hg]; exact heap_alloc_new w1 _
  have HB : Below w.heap.size w V := by rw [hV]; exact hb1.alloc hb1.size _
  have hgz := lt_of_block hc
  rw [← hV, ← hg]
  clear hV hg hb1
  have HC := Lib.hid hc
  have HV := Lib.hid (Below.refl V.heap.size V)
  clear hc
  go_wp2_with (first
    | (go_at_call 17; with_reducible refine (k1 _).mono ?_; clear k1; rintro e w2 ⟨rfl, hb2⟩; replace HV := Lib.hid (below_up HV.out hb2 HV.out.size); clear hb2)
    | (go_at_call 18; with_reducible refine (k2 _).mono ?_; clear k2; rintro e w3 ⟨rfl, hb2⟩; replace HV := Lib.hid (below_up HV.out hb2 HV.out.size); clear hb2)
    | (go_at_call 13; with_reducible refine (k3 _).mono ?_; clear k3; rintro e w4 ⟨rfl, hb2⟩; replace HV := Lib.hid (below_up HV.out hb2 HV.out.size); clear hb2)
    | (go_at_call 19; with_reducible refine (k4 _).mono ?_; clear k4; rintro e w5 ⟨rfl, hb2⟩; replace HV := Lib.hid (below_up HV.out hb2 HV.out.size); clear hb2
       obtain ⟨⟨c0, c1, c2, c3⟩, _⟩ := res_four ((HV.out.block g hgz).trans HC.out); unfold wd at c0 c1 c2 c3)
    | (go_at_call 14; first
        | (with_reducible refine (k5 _).mono ?_; clear k5 c0 c1 c2 c3; rintro e w6 ⟨rfl, hb2⟩; replace HV := Lib.hid (below_up HV.out hb2 HV.out.size); clear hb2
           obtain ⟨⟨c0, c1, c2, c3⟩, _⟩ := res_four ((HV.out.block g hgz).trans HC.out); unfold wd at c0 c1 c2 c3)
        | (with_reducible refine (k6 _).mono ?_; clear k6 c0 c1 c2 c3; rintro e w7 ⟨rfl, hb2⟩; replace HV := Lib.hid (below_up HV.out hb2 HV.out.size); clear hb2)))
  go_ret
  exact ⟨rfl, HB.trans (HV.out.mono HB.size)⟩
end Go.Proofs.Ytojjjkicgbdknaa
