/- Packed texts: UtTests0, UtTests, UtAsks, UtTestsW. What each of them proves stands above its theorems; the conditions stand in these. -/
import Derived.Test.YtbodnhpjfdnjfaaGreatDoorE9
import Derived.Test.YtbodnhpjfdnjfaaGreatDoorE10
import Derived.Test.YtbodnhpjfdnjfaaGreatDoorE15
import Derived.Test.YtbodnhpjfdnjfaaGreatDoorE21
namespace Go.Proofs.YtbodnhpjfdnjfaaGreatDoor
open Go.RowKit Go.Lib

theorem refPart_any (s : ByteArray) (w : World) (hs : s.size ≤ 1000000) :
    Calls Tryz.prog 27 #[.string s] w fun e w' => e = .returned (.tuple #[.int .i64 ((numberD s.data.toList).1.tdiv 1000000), .bool ((numberD s.data.toList).2 == 0)]) ∧ Below w.heap.size w w' := by
  have k := Lib.hid (refNumber_any s w (by omega))
  have HF := Lib.hid (numberD_fits s.data.toList)
  unfold numberE at k
  generalize (numberD s.data.toList).1 = x at *
  generalize (numberD s.data.toList).2 = y at *
  go_enter Tryz.func27, Tryz.ntmps27
  go_wp2_with (first
    | (go_at_call 52; with_reducible refine k.out.mono ?_; rintro e w1 ⟨rfl, hb1⟩; have HB := Lib.hid hb1; clear hb1)
    | (go_at_call 53; refine (refTrunc_any _ _ HF.out).mono ?_; rintro e w2 ⟨rfl, hb2⟩; have HB := Lib.hid (below_at HB.out hb2 HB.out.size); clear hb2))
  go_ret2
  exact ⟨rfl, HB.out⟩
theorem refLine_any (s : ByteArray) (w : World) (hs : s.size ≤ 1000000) :
    Calls Tryz.prog 8 #[.string s] w fun e w' => e = .returned (.tuple #[.string (s ++ ⟨#[10]⟩), .int .i64 0]) ∧ w' = w := by
  have hz : (⟨#[10]⟩ : ByteArray).size = 1 := rfl
  go_enter Tryz.func8, Tryz.ntmps8
  go_wp2
  go_ret2
  exact ⟨rfl, rfl⟩
set_option maxHeartbeats 4000000 in
set_option maxRecDepth 20000 in
theorem refStrs_sub (bk : Nat) (w : World) (c1 : w.cell? ⟨bk, 1, none⟩ = some (.string ⟨#[115, 117, 98]⟩)) (c2 : w.cell? ⟨bk, 2, none⟩ = some (.string ⟨#[48, 49, 50, 51, 52, 53, 54, 55, 56, 57]⟩)) (c3 : w.cell? ⟨bk, 3, none⟩ = some (.string ⟨#[49]⟩)) (c4 : w.cell? ⟨bk, 4, none⟩ = some (.string ⟨#[49]⟩)) :
    Calls Tryz.prog 12 #[.slice (some ⟨bk, 1, none⟩) 4 4] w fun e w' => e = .returned (.tuple #[.string ⟨#[48, 10]⟩, .int .i64 0]) ∧ Below w.heap.size w w' := by
  have K1 := Lib.hid (fun W => by
    have h := refPart_any ⟨#[49]⟩ W (by decide)
    rw [show numberD (⟨#[49]⟩ : ByteArray).data.toList = (1000000, 0) by decide +kernel] at h
    exact (h : Calls Tryz.prog 27 #[.string ⟨#[49]⟩] W fun e w' => e = .returned (.tuple #[.int .i64 1, .bool true]) ∧ Below W.heap.size W w'))
  have K2 := Lib.hid (fun W => by
    have h := refSubU_any ⟨#[48, 49, 50, 51, 52, 53, 54, 55, 56, 57]⟩ 1 1 W (by decide) (by decide) (by decide)
    exact (h : Calls Tryz.prog 29 #[.string ⟨#[48, 49, 50, 51, 52, 53, 54, 55, 56, 57]⟩, .int .i64 1, .int .i64 1] W fun e w' => e = .returned (.string ⟨#[48]⟩) ∧ w' = W))
  have K3 := Lib.hid (fun W => refLine_any ⟨#[48]⟩ W (by decide))
  have HC := Lib.hid (fun W (h : Below w.heap.size w W) => And.intro (cell_later h c2) (And.intro (cell_later h c3) (cell_later h c4)))
  go_enter Tryz.func12, Tryz.ntmps12
  go_wp2_with (first
    | (go_at_call 27; refine (K1.out _).mono ?_; rintro e w1 ⟨rfl, hb1⟩; first
        | (have HB := Lib.hid (below_at HB.out hb1 HB.out.size); obtain ⟨d2, d3, d4⟩ := HC.out _ HB.out; clear hb1)
        | (have HB := Lib.hid hb1; obtain ⟨d2, d3, d4⟩ := HC.out _ HB.out; clear hb1))
    | (go_at_call 29; refine (K2.out _).mono ?_; rintro e w2 ⟨rfl, rfl⟩)
    | (go_at_call 8; refine (K3.out _).mono ?_; rintro e w2 ⟨rfl, rfl⟩))
  go_ret2
  exact ⟨rfl, HB.out⟩
set_option maxHeartbeats 4000000 in
set_option maxRecDepth 20000 in
theorem refRun_sub (bk : Nat) (w : World) (hr : RowW w bk [⟨#[115, 116, 114]⟩, ⟨#[115, 117, 98]⟩, ⟨#[48, 49, 50, 51, 52, 53, 54, 55, 56, 57]⟩, ⟨#[49]⟩, ⟨#[49]⟩]) :
    Calls Tryz.prog 5 #[.slice (some ⟨bk, 0, none⟩) 5 5, .string ⟨#[]⟩, .int .i64 0] w fun e w' => e = .returned (.tuple #[.string ⟨#[48, 10]⟩, .int .i64 0, .int .i64 0, .int .i64 0]) ∧ Below w.heap.size w w' := by
  have c0 := hr 0 _ rfl
  have K := Lib.hid (refStrs_sub bk w (hr 1 _ rfl) (hr 2 _ rfl) (hr 3 _ rfl) (hr 4 _ rfl))
  clear hr
  go_enter Tryz.func5, Tryz.ntmps5
  go_wp2_with (first
    | (go_at_call 12; refine K.out.mono ?_; rintro e w1 ⟨rfl, hb1⟩; have HB := Lib.hid hb1; clear hb1))
  refine bodyPost_ret (results_tmp4 rfl _ _ _) rfl ⟨rfl, HB.out⟩
/-- A small number's figures, not below 0. -/
theorem byte_fig (k : Nat) (h : k ≤ 9) : (48 : Int) + (k : Int) = (((UInt8.ofNat (48 + k)).toNat : Nat) : Int) := by
  have : (UInt8.ofNat (48 + k)).toNat = 48 + k := by simp; omega
  omega
end Go.Proofs.YtbodnhpjfdnjfaaGreatDoor
namespace Go.Proofs.YtbodnhpjfdnjfaaGreatDoor
open Go.RowKit Go.Lib

set_option maxHeartbeats 1000000 in
set_option maxRecDepth 20000 in
theorem whole8_p1 (k : Nat) (h1 : 0 ≤ k) (h2 : k ≤ 9) (w : World) : Calls Tryz.prog 6 #[.int .i8 (k : Int)] w fun e w' => e = .returned (.string (ba (w8 k))) ∧ Below w.heap.size w w' := by
  have g1 : (k : Int) / 100 ≤ 9 := by omega
  have g2 : (k : Int) / 10 % 10 ≤ 9 := by omega
  have g3 : (k : Int) % 10 ≤ 9 := by omega
  have g4 : (0 : Int) ≤ (k : Int) / 100 := by omega
  have g5 : (0 : Int) ≤ (k : Int) / 10 % 10 := by omega
  have g6 : (0 : Int) ≤ (k : Int) % 10 := by omega
  have b1 : (0 : Int) ≤ (k : Int) := by omega
  have b2 : (k : Int) ≤ 9 := by omega
  have hv0 := byte_back1 w ((48 : Int) + (k : Int) % 10) (UInt8.ofNat (48 + (k % 10))) (by have := byte_fig (k % 10) (by omega); omega)
  obtain ⟨d0, hd0⟩ : ∃ d, UInt8.ofNat (48 + (k % 10)) = d := ⟨_, rfl⟩
  rw [hd0] at hv0
  have hres : (⟨#[]⟩ : ByteArray) ++ ⟨#[d0]⟩ = ba (w8 k) := by
    unfold w8
    rw [if_neg (by omega), if_neg (by omega)]
    show ba [] ++ ba [d0] = _
    rw [ba_append]
    subst hd0
    rfl
  obtain ⟨R, hR⟩ : ∃ R, ba (w8 k) = R := ⟨_, rfl⟩
  rw [hR] at hres ⊢
  have HRR := Lib.hid hres
  clear hres hR hd0
  go_enter Tryz.func6, Tryz.ntmps6
  go_wp2
  go_ret
  refine ⟨?_, ((Below.refl _ w).alloc (Nat.le_refl _) _)⟩
  show Ending.returned (.string ((⟨#[]⟩ : ByteArray) ++ ⟨#[d0]⟩)) = _
  rw [HRR.out]
set_option maxHeartbeats 1000000 in
set_option maxRecDepth 20000 in
theorem whole8_p2 (k : Nat) (h1 : 10 ≤ k) (h2 : k ≤ 99) (w : World) : Calls Tryz.prog 6 #[.int .i8 (k : Int)] w fun e w' => e = .returned (.string (ba (w8 k))) ∧ Below w.heap.size w w' := by
  have g1 : (k : Int) / 100 ≤ 9 := by omega
  have g2 : (k : Int) / 10 % 10 ≤ 9 := by omega
  have g3 : (k : Int) % 10 ≤ 9 := by omega
  have g4 : (0 : Int) ≤ (k : Int) / 100 := by omega
  have g5 : (0 : Int) ≤ (k : Int) / 10 % 10 := by omega
  have g6 : (0 : Int) ≤ (k : Int) % 10 := by omega
  have b1 : (10 : Int) ≤ (k : Int) := by omega
  have b2 : (k : Int) ≤ 99 := by omega
  have hv0 := byte_back1 w ((48 : Int) + (k : Int) / 10 % 10) (UInt8.ofNat (48 + (k / 10 % 10))) (by have := byte_fig (k / 10 % 10) (by omega); omega)
  have hv1 := byte_back1 (w.alloc (.cells #[.int .u8 ((48 : Int) + (k : Int) / 10 % 10)] 5)) ((48 : Int) + (k : Int) % 10) (UInt8.ofNat (48 + (k % 10))) (by have := byte_fig (k % 10) (by omega); omega)
  simp only [World.size_alloc] at hv1
  obtain ⟨d0, hd0⟩ : ∃ d, UInt8.ofNat (48 + (k / 10 % 10)) = d := ⟨_, rfl⟩
  rw [hd0] at hv0
  obtain ⟨d1, hd1⟩ : ∃ d, UInt8.ofNat (48 + (k % 10)) = d := ⟨_, rfl⟩
  rw [hd1] at hv1
  have hres : (⟨#[]⟩ : ByteArray) ++ ⟨#[d0]⟩ ++ ⟨#[d1]⟩ = ba (w8 k) := by
    unfold w8
    rw [if_neg (by omega), if_pos (by omega)]
    show ba [] ++ ba [d0] ++ ba [d1] = _
    rw [ba_append, ba_append]
    subst hd0 hd1
    rfl
  obtain ⟨R, hR⟩ : ∃ R, ba (w8 k) = R := ⟨_, rfl⟩
  rw [hR] at hres ⊢
  have HRR := Lib.hid hres
  clear hres hR hd0 hd1
  go_enter Tryz.func6, Tryz.ntmps6
  go_wp2
  go_ret
  refine ⟨?_, (((Below.refl _ w).alloc (Nat.le_refl _) _).alloc (by simp only [World.size_alloc]; omega) _)⟩
  show Ending.returned (.string ((⟨#[]⟩ : ByteArray) ++ ⟨#[d0]⟩ ++ ⟨#[d1]⟩)) = _
  rw [HRR.out]
set_option maxHeartbeats 1000000 in
set_option maxRecDepth 20000 in
theorem whole8_p3 (k : Nat) (h1 : 100 ≤ k) (h2 : k ≤ 128) (w : World) : Calls Tryz.prog 6 #[.int .i8 (k : Int)] w fun e w' => e = .returned (.string (ba (w8 k))) ∧ Below w.heap.size w w' := by
  have g1 : (k : Int) / 100 ≤ 9 := by omega
  have g2 : (k : Int) / 10 % 10 ≤ 9 := by omega
  have g3 : (k : Int) % 10 ≤ 9 := by omega
  have g4 : (0 : Int) ≤ (k : Int) / 100 := by omega
  have g5 : (0 : Int) ≤ (k : Int) / 10 % 10 := by omega
  have g6 : (0 : Int) ≤ (k : Int) % 10 := by omega
  have b1 : (100 : Int) ≤ (k : Int) := by omega
  have b2 : (k : Int) ≤ 128 := by omega
  have hv0 := byte_back1 w ((48 : Int) + (k : Int) / 100) (UInt8.ofNat (48 + (k / 100))) (by have := byte_fig (k / 100) (by omega); omega)
  have hv1 := byte_back1 (w.alloc (.cells #[.int .u8 ((48 : Int) + (k : Int) / 100)] 5)) ((48 : Int) + (k : Int) / 10 % 10) (UInt8.ofNat (48 + (k / 10 % 10))) (by have := byte_fig (k / 10 % 10) (by omega); omega)
  simp only [World.size_alloc] at hv1
  have hv2 := byte_back1 ((w.alloc (.cells #[.int .u8 ((48 : Int) + (k : Int) / 100)] 5)).alloc (.cells #[.int .u8 ((48 : Int) + (k : Int) / 10 % 10)] 5)) ((48 : Int) + (k : Int) % 10) (UInt8.ofNat (48 + (k % 10))) (by have := byte_fig (k % 10) (by omega); omega)
  simp only [World.size_alloc] at hv2
  obtain ⟨d0, hd0⟩ : ∃ d, UInt8.ofNat (48 + (k / 100)) = d := ⟨_, rfl⟩
  rw [hd0] at hv0
  obtain ⟨d1, hd1⟩ : ∃ d, UInt8.ofNat (48 + (k / 10 % 10)) = d := ⟨_, rfl⟩
  rw [hd1] at hv1
  obtain ⟨d2, hd2⟩ : ∃ d, UInt8.ofNat (48 + (k % 10)) = d := ⟨_, rfl⟩
  rw [hd2] at hv2
  have hres : (⟨#[]⟩ : ByteArray) ++ ⟨#[d0]⟩ ++ ⟨#[d1]⟩ ++ ⟨#[d2]⟩ = ba (w8 k) := by
    unfold w8
    rw [if_pos (by omega), if_pos (by omega)]
    show ba [] ++ ba [d0] ++ ba [d1] ++ ba [d2] = _
    rw [ba_append, ba_append, ba_append]
    subst hd0 hd1 hd2
    rfl
  obtain ⟨R, hR⟩ : ∃ R, ba (w8 k) = R := ⟨_, rfl⟩
  rw [hR] at hres ⊢
  have HRR := Lib.hid hres
  clear hres hR hd0 hd1 hd2
  go_enter Tryz.func6, Tryz.ntmps6
  go_wp2
  go_ret
  refine ⟨?_, ((((Below.refl _ w).alloc (Nat.le_refl _) _).alloc (by simp only [World.size_alloc]; omega) _).alloc (by simp only [World.size_alloc]; omega) _)⟩
  show Ending.returned (.string ((⟨#[]⟩ : ByteArray) ++ ⟨#[d0]⟩ ++ ⟨#[d1]⟩ ++ ⟨#[d2]⟩)) = _
  rw [HRR.out]
set_option maxHeartbeats 1000000 in
set_option maxRecDepth 20000 in
theorem whole8_n1 (k : Nat) (n : Int) (hn : n < 0) (hk : 0 - n = (k : Int)) (_h1 : 0 ≤ k) (h2 : k ≤ 9) (w : World) : Calls Tryz.prog 6 #[.int .i8 n] w fun e w' => e = .returned (.string (ba (45 :: w8 k))) ∧ Below w.heap.size w w' := by
  have g1 : (k : Int) / 100 ≤ 9 := by omega
  have g2 : (k : Int) / 10 % 10 ≤ 9 := by omega
  have g3 : (k : Int) % 10 ≤ 9 := by omega
  have g4 : (0 : Int) ≤ (k : Int) / 100 := by omega
  have g5 : (0 : Int) ≤ (k : Int) / 10 % 10 := by omega
  have g6 : (0 : Int) ≤ (k : Int) % 10 := by omega
  have b1 : (0 : Int) ≤ (k : Int) := by omega
  have b2 : (k : Int) ≤ 9 := by omega
  have hv0 := byte_back1 w ((48 : Int) + (k : Int) % 10) (UInt8.ofNat (48 + (k % 10))) (by have := byte_fig (k % 10) (by omega); omega)
  obtain ⟨d0, hd0⟩ : ∃ d, UInt8.ofNat (48 + (k % 10)) = d := ⟨_, rfl⟩
  rw [hd0] at hv0
  have hres : (⟨#[45]⟩ : ByteArray) ++ ⟨#[d0]⟩ = ba (45 :: w8 k) := by
    unfold w8
    rw [if_neg (by omega), if_neg (by omega)]
    show ba [45] ++ ba [d0] = _
    rw [ba_append]
    subst hd0
    rfl
  obtain ⟨R, hR⟩ : ∃ R, ba (45 :: w8 k) = R := ⟨_, rfl⟩
  rw [hR] at hres ⊢
  have HRR := Lib.hid hres
  clear hres hR hd0
  go_enter Tryz.func6, Tryz.ntmps6
  go_wp2
  go_ret
  refine ⟨?_, ((Below.refl _ w).alloc (Nat.le_refl _) _)⟩
  show Ending.returned (.string ((⟨#[45]⟩ : ByteArray) ++ ⟨#[d0]⟩)) = _
  rw [HRR.out]
set_option maxHeartbeats 1000000 in
set_option maxRecDepth 20000 in
theorem whole8_n2 (k : Nat) (n : Int) (hn : n < 0) (hk : 0 - n = (k : Int)) (h1 : 10 ≤ k) (h2 : k ≤ 99) (w : World) : Calls Tryz.prog 6 #[.int .i8 n] w fun e w' => e = .returned (.string (ba (45 :: w8 k))) ∧ Below w.heap.size w w' := by
  have g1 : (k : Int) / 100 ≤ 9 := by omega
  have g2 : (k : Int) / 10 % 10 ≤ 9 := by omega
  have g3 : (k : Int) % 10 ≤ 9 := by omega
  have g4 : (0 : Int) ≤ (k : Int) / 100 := by omega
  have g5 : (0 : Int) ≤ (k : Int) / 10 % 10 := by omega
  have g6 : (0 : Int) ≤ (k : Int) % 10 := by omega
  have b1 : (10 : Int) ≤ (k : Int) := by omega
  have b2 : (k : Int) ≤ 99 := by omega
  have hv0 := byte_back1 w ((48 : Int) + (k : Int) / 10 % 10) (UInt8.ofNat (48 + (k / 10 % 10))) (by have := byte_fig (k / 10 % 10) (by omega); omega)
  have hv1 := byte_back1 (w.alloc (.cells #[.int .u8 ((48 : Int) + (k : Int) / 10 % 10)] 5)) ((48 : Int) + (k : Int) % 10) (UInt8.ofNat (48 + (k % 10))) (by have := byte_fig (k % 10) (by omega); omega)
  simp only [World.size_alloc] at hv1
  obtain ⟨d0, hd0⟩ : ∃ d, UInt8.ofNat (48 + (k / 10 % 10)) = d := ⟨_, rfl⟩
  rw [hd0] at hv0
  obtain ⟨d1, hd1⟩ : ∃ d, UInt8.ofNat (48 + (k % 10)) = d := ⟨_, rfl⟩
  rw [hd1] at hv1
  have hres : (⟨#[45]⟩ : ByteArray) ++ ⟨#[d0]⟩ ++ ⟨#[d1]⟩ = ba (45 :: w8 k) := by
    unfold w8
    rw [if_neg (by omega), if_pos (by omega)]
    show ba [45] ++ ba [d0] ++ ba [d1] = _
    rw [ba_append, ba_append]
    subst hd0 hd1
    rfl
  obtain ⟨R, hR⟩ : ∃ R, ba (45 :: w8 k) = R := ⟨_, rfl⟩
  rw [hR] at hres ⊢
  have HRR := Lib.hid hres
  clear hres hR hd0 hd1
  go_enter Tryz.func6, Tryz.ntmps6
  go_wp2
  go_ret
  refine ⟨?_, (((Below.refl _ w).alloc (Nat.le_refl _) _).alloc (by simp only [World.size_alloc]; omega) _)⟩
  show Ending.returned (.string ((⟨#[45]⟩ : ByteArray) ++ ⟨#[d0]⟩ ++ ⟨#[d1]⟩)) = _
  rw [HRR.out]
set_option maxHeartbeats 1000000 in
set_option maxRecDepth 20000 in
theorem whole8_n3 (k : Nat) (n : Int) (hn : n < 0) (hk : 0 - n = (k : Int)) (h1 : 100 ≤ k) (h2 : k ≤ 128) (w : World) : Calls Tryz.prog 6 #[.int .i8 n] w fun e w' => e = .returned (.string (ba (45 :: w8 k))) ∧ Below w.heap.size w w' := by
  have g1 : (k : Int) / 100 ≤ 9 := by omega
  have g2 : (k : Int) / 10 % 10 ≤ 9 := by omega
  have g3 : (k : Int) % 10 ≤ 9 := by omega
  have g4 : (0 : Int) ≤ (k : Int) / 100 := by omega
  have g5 : (0 : Int) ≤ (k : Int) / 10 % 10 := by omega
  have g6 : (0 : Int) ≤ (k : Int) % 10 := by omega
  have b1 : (100 : Int) ≤ (k : Int) := by omega
  have b2 : (k : Int) ≤ 128 := by omega
  have hv0 := byte_back1 w ((48 : Int) + (k : Int) / 100) (UInt8.ofNat (48 + (k / 100))) (by have := byte_fig (k / 100) (by omega); omega)
  have hv1 := byte_back1 (w.alloc (.cells #[.int .u8 ((48 : Int) + (k : Int) / 100)] 5)) ((48 : Int) + (k : Int) / 10 % 10) (UInt8.ofNat (48 + (k / 10 % 10))) (by have := byte_fig (k / 10 % 10) (by omega); omega)
  simp only [World.size_alloc] at hv1
  have hv2 := byte_back1 ((w.alloc (.cells #[.int .u8 ((48 : Int) + (k : Int) / 100)] 5)).alloc (.cells #[.int .u8 ((48 : Int) + (k : Int) / 10 % 10)] 5)) ((48 : Int) + (k : Int) % 10) (UInt8.ofNat (48 + (k % 10))) (by have := byte_fig (k % 10) (by omega); omega)
  simp only [World.size_alloc] at hv2
  obtain ⟨d0, hd0⟩ : ∃ d, UInt8.ofNat (48 + (k / 100)) = d := ⟨_, rfl⟩
  rw [hd0] at hv0
  obtain ⟨d1, hd1⟩ : ∃ d, UInt8.ofNat (48 + (k / 10 % 10)) = d := ⟨_, rfl⟩
  rw [hd1] at hv1
  obtain ⟨d2, hd2⟩ : ∃ d, UInt8.ofNat (48 + (k % 10)) = d := ⟨_, rfl⟩
  rw [hd2] at hv2
  have hres : (⟨#[45]⟩ : ByteArray) ++ ⟨#[d0]⟩ ++ ⟨#[d1]⟩ ++ ⟨#[d2]⟩ = ba (45 :: w8 k) := by
    unfold w8
    rw [if_pos (by omega), if_pos (by omega)]
    show ba [45] ++ ba [d0] ++ ba [d1] ++ ba [d2] = _
    rw [ba_append, ba_append, ba_append]
    subst hd0 hd1 hd2
    rfl
  obtain ⟨R, hR⟩ : ∃ R, ba (45 :: w8 k) = R := ⟨_, rfl⟩
  rw [hR] at hres ⊢
  have HRR := Lib.hid hres
  clear hres hR hd0 hd1 hd2
  go_enter Tryz.func6, Tryz.ntmps6
  go_wp2
  go_ret
  refine ⟨?_, ((((Below.refl _ w).alloc (Nat.le_refl _) _).alloc (by simp only [World.size_alloc]; omega) _).alloc (by simp only [World.size_alloc]; omega) _)⟩
  show Ending.returned (.string ((⟨#[45]⟩ : ByteArray) ++ ⟨#[d0]⟩ ++ ⟨#[d1]⟩ ++ ⟨#[d2]⟩)) = _
  rw [HRR.out]
theorem whole8_any (n : Int) (h : -128 ≤ n ∧ n ≤ 127) (w : World) : Calls Tryz.prog 6 #[.int .i8 n] w fun e w' => e = .returned (.string (ba (w8S n))) ∧ Below w.heap.size w w' := by
  unfold w8S
  obtain ⟨k, hk⟩ : ∃ k, n.natAbs = k := ⟨_, rfl⟩
  rw [hk]
  by_cases hn : n < 0
  · rw [if_pos hn]
    have h0 : 0 - n = (k : Int) := by omega
    by_cases h3 : 100 ≤ k
    · exact whole8_n3 k n hn h0 h3 (by omega) w
    · by_cases h2 : 10 ≤ k
      · exact whole8_n2 k n hn h0 h2 (by omega) w
      · exact whole8_n1 k n hn h0 (by omega) (by omega) w
  · rw [if_neg hn]
    obtain rfl : n = (k : Int) := by omega
    by_cases h3 : 100 ≤ k
    · exact whole8_p3 k h3 (by omega) w
    · by_cases h2 : 10 ≤ k
      · exact whole8_p2 k h2 (by omega) w
      · exact whole8_p1 k (by omega) (by omega) w
end Go.Proofs.YtbodnhpjfdnjfaaGreatDoor
namespace Go.Proofs.YtbodnhpjfdnjfaaGreatDoor
open Go.RowKit Go.Lib

def RowT (w : World) (bk : Nat) (ys : List Bool) : Prop := ∀ (j : Nat) y, ys[j]? = some y → w.cell? ⟨bk, j, none⟩ = some (.bool y)
theorem RowT.later {w W : World} {bk : Nat} {ys : List Bool} (h : RowT w bk ys) (hb : Below w.heap.size w W) : RowT W bk ys := fun j y hj => cell_later hb (h j y hj)
theorem rowT_new (w : World) (ys : List Bool) (t : TypeId) : RowT (w.alloc (.cells (ys.map Value.bool).toArray t)) w.heap.size ys := by
  intro j y hj
  rw [World.cell?_alloc_at _ _ _ _ rfl]
  simp [hj]
def opsB : List ByteArray := [⟨#[45, 101, 113]⟩, ⟨#[45, 110, 101]⟩, ⟨#[45, 108, 116]⟩, ⟨#[45, 103, 101]⟩, ⟨#[45, 103, 116]⟩, ⟨#[45, 108, 101]⟩]
def wantB (c : Int) : List Bool := [c == 0, !(c == 0), decide (c < 0), decide (0 ≤ c), decide (0 < c), decide (c ≤ 0)]
theorem run_asks (S T : ByteArray) (a b : Int) (hS : S.size ≤ 1000000) (hT : T.size ≤ 1000000) (hx : wholeD S.data.toList = (a, (S.size : Int), 0)) (hy : wholeD T.data.toList = (b, (T.size : Int), 0)) (j : Nat) (op : ByteArray) (y : Bool) (hj : opsB[j]? = some op) (hw : (wantB (cmpI a b))[j]? = some y) (W : World) :
    Calls Tryz.prog 7 #[.slice (some ⟨W.heap.size, 0, none⟩) 4 4, .string ⟨#[]⟩, .int .i64 0] (W.alloc (.cells #[.string ⟨#[116, 101, 115, 116]⟩, .string S, .string op, .string T] 9)) fun en w' =>
      en = .returned (.tuple #[.string ⟨#[]⟩, .int .i64 (if y then 0 else 1), .int .i64 0, .int .i64 0]) ∧ Below W.heap.size W w' := by
  have hr := rowW_new W [⟨#[116, 101, 115, 116]⟩, S, op, T] 9
  match j, hj, hw with
  | 0, hj, hw =>
    obtain rfl := Option.some.inj hj
    obtain rfl := Option.some.inj hw
    exact (run_eqI W.heap.size S T ⟨#[]⟩ a b 0 _ hr hS hT hx hy).mono fun _ _ h => ⟨h.1, below_new h.2⟩
  | 1, hj, hw =>
    obtain rfl := Option.some.inj hj
    obtain rfl := Option.some.inj hw
    exact (run_neI W.heap.size S T ⟨#[]⟩ a b 0 _ hr hS hT hx hy).mono fun _ _ h => ⟨h.1, below_new h.2⟩
  | 2, hj, hw =>
    obtain rfl := Option.some.inj hj
    obtain rfl := Option.some.inj hw
    exact (run_ltI W.heap.size S T ⟨#[]⟩ a b 0 _ hr hS hT hx hy).mono fun _ _ h => ⟨h.1, below_new h.2⟩
  | 3, hj, hw =>
    obtain rfl := Option.some.inj hj
    obtain rfl := Option.some.inj hw
    exact (run_geI W.heap.size S T ⟨#[]⟩ a b 0 _ hr hS hT hx hy).mono fun _ _ h => ⟨h.1, below_new h.2⟩
  | 4, hj, hw =>
    obtain rfl := Option.some.inj hj
    obtain rfl := Option.some.inj hw
    exact (run_gtI W.heap.size S T ⟨#[]⟩ a b 0 _ hr hS hT hx hy).mono fun _ _ h => ⟨h.1, below_new h.2⟩
  | 5, hj, hw =>
    obtain rfl := Option.some.inj hj
    obtain rfl := Option.some.inj hw
    exact (run_leI W.heap.size S T ⟨#[]⟩ a b 0 _ hr hS hT hx hy).mono fun _ _ h => ⟨h.1, below_new h.2⟩
  | j + 6, hj, _ => cases hj
end Go.Proofs.YtbodnhpjfdnjfaaGreatDoor
namespace Go.Proofs.YtbodnhpjfdnjfaaGreatDoor
open Go.RowKit Go.Lib

theorem ba_size_le {n : Int} (h : -128 ≤ n ∧ n ≤ 127) : (ba (w8S n)).size ≤ 1000000 := by
  have := (w8_whole n h.1 h.2).2
  rw [ba_len]
  omega
theorem ba_whole {n : Int} (h : -128 ≤ n ∧ n ≤ 127) : wholeD (ba (w8S n)).data.toList = (n, ((ba (w8S n)).size : Int), 0) := by
  have := (w8_whole n h.1 h.2).1
  rw [ba_len, ba_list]
  exact this
theorem rows_new (w : World) (xs : List ByteArray) (ys : List Bool) (t u : TypeId) : RowW ((w.alloc (.cells (xs.map Value.string).toArray t)).alloc (.cells (ys.map Value.bool).toArray u)) w.heap.size xs ∧ RowT ((w.alloc (.cells (xs.map Value.string).toArray t)).alloc (.cells (ys.map Value.bool).toArray u)) (w.heap.size + 1) ys := by
  have h := rowT_new (w.alloc (.cells (xs.map Value.string).toArray t)) ys u
  rw [World.size_alloc] at h
  exact ⟨(rowW_new w xs t).later ((Below.refl _ _).alloc (Nat.le_refl _) _), h⟩
theorem RowT.get {w : World} {bk : Nat} {ys : List Bool} (h : RowT w bk ys) {j : Nat} {y : Bool} (hj : ys[j]? = some y) : w.cell? ⟨bk, j, none⟩ = some (.bool y) := h j y hj
set_option maxHeartbeats 8000000 in
set_option maxRecDepth 20000 in
theorem utilTests_core (a b : Int) (B1 B2 B3 B4 B5 B6 : Bool) (ha : -128 ≤ a ∧ a ≤ 127) (hb : -128 ≤ b ∧ b ≤ 127) (q1 : (a == b) = B1) (q2 : (a != b) = B2) (q3 : decide (a < b) = B3) (q4 : decide (b ≤ a) = B4) (q5 : decide (b < a) = B5) (q6 : decide (a ≤ b) = B6)
    (hw : wantB (cmpI a b) = [B1, B2, B3, B4, B5, B6]) (hst : ((ba (w8S a)).toList == (ba (w8S b)).toList) = B1) (w : World) (ht : Tab w) :
    Calls Tryz.prog 3 #[.int .i8 a, .int .i8 b] w fun e w' => e = .returned (.bool true) ∧ Below w.heap.size w w' := by
  have HT := Lib.hid ht
  have K0 : Hid (∀ W : World, Calls Tryz.prog 5 #[.slice (some ⟨W.heap.size, 0, none⟩) 5 5, .string ⟨#[]⟩, .int .i64 0] (W.alloc (.cells #[.string ⟨#[115, 116, 114]⟩, .string ⟨#[115, 117, 98]⟩, .string ⟨#[48, 49, 50, 51, 52, 53, 54, 55, 56, 57]⟩, .string ⟨#[49]⟩, .string ⟨#[49]⟩] 9)) fun en w' =>
      en = .returned (.tuple #[.string ⟨#[48, 10]⟩, .int .i64 0, .int .i64 0, .int .i64 0]) ∧ Below W.heap.size W w') :=
    Lib.hid (fun W => (refRun_sub W.heap.size _ (rowW_new W [⟨#[115, 116, 114]⟩, ⟨#[115, 117, 98]⟩, ⟨#[48, 49, 50, 51, 52, 53, 54, 55, 56, 57]⟩, ⟨#[49]⟩, ⟨#[49]⟩] 9)).mono fun _ _ h => ⟨h.1, below_new h.2⟩)
  have k1 := Lib.hid (fun W => whole8_any a ha W)
  have k2 := Lib.hid (fun W => whole8_any b hb W)
  have KQ := Lib.hid (fun W j op y hj hy => run_asks (ba (w8S a)) (ba (w8S b)) a b (ba_size_le ha) (ba_size_le hb) (ba_whole ha) (ba_whole hb) j op y hj (by rw [hw]; exact hy) W)
  obtain ⟨S, hS⟩ : ∃ S, ba (w8S a) = S := ⟨_, rfl⟩
  obtain ⟨T, hT⟩ : ∃ T, ba (w8S b) = T := ⟨_, rfl⟩
  have KE : Hid (∀ W : World, Calls Tryz.prog 7 #[.slice (some ⟨W.heap.size, 0, none⟩) 4 4, .string ⟨#[]⟩, .int .i64 0] (W.alloc (.cells #[.string ⟨#[116, 101, 115, 116]⟩, .string S, .string ⟨#[61]⟩, .string T] 9)) fun en w' =>
      en = .returned (.tuple #[.string ⟨#[]⟩, .int .i64 (if B1 then 0 else 1), .int .i64 0, .int .i64 0]) ∧ Below W.heap.size W w') :=
    Lib.hid (fun W => (run_eq W.heap.size S T ⟨#[]⟩ B1 (by rw [← hS, ← hT]; exact hst) 0 _ (rowW_new W [⟨#[116, 101, 115, 116]⟩, S, ⟨#[61]⟩, T] 9)).mono fun _ _ h => ⟨h.1, below_new h.2⟩)
  rw [hS] at k1 KQ
  rw [hT] at k2 KQ
  have HROW := Lib.hid (fun W : World => (rows_new W opsB [B1, B2, B3, B4, B5, B6] 9 4))
  clear ht ha hb hw hst hS hT
  go_enter Tryz.func3, Tryz.ntmps3
  go_wp2_with (first
    | (go_at_call 4; refine (shown13_any _ HT.out).mono ?_; rintro e w1 ⟨rfl, hb1⟩; have HB := Lib.hid hb1; clear hb1)
    | (go_at_call 5; with_reducible refine (K0.out _).mono ?_; rintro e w1 ⟨rfl, hb1⟩; have HB := Lib.hid (below_at HB.out hb1 HB.out.size); clear hb1)
    | (go_at_call 6; first
        | (with_reducible refine (k1.out _).mono ?_; rintro e w2 ⟨rfl, hb1⟩; have HB := Lib.hid (below_at HB.out hb1 HB.out.size); clear hb1)
        | (with_reducible refine (k2.out _).mono ?_; rintro e w3 ⟨rfl, hb1⟩; have HB := Lib.hid (below_at HB.out hb1 HB.out.size); clear hb1)))
  go_loopw [14] (fun i wr => ∃ k : Nat, k ≤ 6 ∧ i = .int .i64 k ∧ Hid (RowW wr w3.heap.size opsB) ∧ Hid (RowT wr (w3.heap.size + 1) [B1, B2, B3, B4, B5, B6]) ∧ Hid (Below w.heap.size w wr)) (fun i _ => 6 - (RowKit.intOf i).toNat)
  case atStart => exact ⟨0, Nat.zero_le _, rfl, (HROW.out w3).1, (HROW.out w3).2, (HB.out.alloc HB.out.size _).alloc (by rw [World.size_alloc]; have := HB.out.size; omega) _⟩
  case round =>
    obtain ⟨k, hk, rfl, HR, HY, HBB⟩ := hrel
    clear HROW K0 k1 k2
    by_cases hlt : k < 6
    · have hltI : (k : Int) < 6 := by omega
      obtain ⟨op, hop⟩ : ∃ op, opsB[k]? = some op := ⟨_, List.getElem?_eq_getElem (by show k < 6; exact hlt)⟩
      obtain ⟨y, hy⟩ : ∃ y, [B1, B2, B3, B4, B5, B6][k]? = some y := ⟨_, List.getElem?_eq_getElem (by show k < 6; exact hlt)⟩
      have c1 := HR.out k op hop
      have kq := Lib.hid (KQ.out wr k op y hop hy)
      have HYK := Lib.hid hy
      clear hop hy
      cases y
      all_goals
        go_wp2_with (first
          | (go_at_call 7; with_reducible refine (kq.out).mono ?_; rintro e w5 ⟨rfl, hb5⟩; have HR5 := Lib.hid (HR.out.later hb5); have HY5 := Lib.hid (HY.out.later hb5); have c2 := RowT.get HY5.out HYK.out; have HB5 := Lib.hid (below_at HBB.out hb5 HBB.out.size); clear hb5))
        go_roundw
        case rel => exact ⟨k + 1, by omega, by go_num, HR5.out, HY5.out, HB5.out⟩
        case measure => simp [RowKit.intOf]; omega
    · obtain rfl : k = 6 := by omega
      cases B1
      all_goals
        go_wp2_with (first
          | (go_at_call 7; with_reducible refine (KE.out _).mono ?_; rintro e w5 ⟨rfl, hb5⟩; have HB5 := Lib.hid (below_at HBB.out hb5 HBB.out.size); clear hb5))
        go_ret
        exact ⟨rfl, HB5.out⟩
theorem utilTests_walk (a : Int) (ha : -128 ≤ a ∧ a ≤ 127) (b : Int) (hb : -128 ≤ b ∧ b ≤ 127) (w : World) (ht : Tab w) :
    Calls Tryz.prog 3 #[.int .i8 a, .int .i8 b] w fun e w' => e = .returned (.bool true) ∧ Below w.heap.size w w' := by
  have hst : ((ba (w8S a)).toList == (ba (w8S b)).toList) = (a == b) := by
    rw [Bool.eq_iff_iff, beq_iff_eq, beq_iff_eq, ByteArray.toList_eq, ByteArray.toList_eq, ba_list, ba_list]
    exact ⟨w8_inj ha hb, fun h => by rw [h]⟩
  refine utilTests_core a b _ _ _ _ _ _ ha hb rfl rfl rfl rfl rfl rfl ?_ hst w ht
  unfold wantB cmpI
  by_cases h1 : a < b
  · have h2 : ¬ b < a := by omega
    have h3 : (a == b) = false := beq_eq_false_iff_ne.2 (by omega)
    simp [h1, h2, h3, bne, show ¬ b ≤ a by omega, show a ≤ b by omega]
  · by_cases h2 : b < a
    · have h3 : (a == b) = false := beq_eq_false_iff_ne.2 (by omega)
      simp [h1, h2, h3, bne, show b ≤ a by omega, show ¬ a ≤ b by omega]
    · obtain rfl : a = b := by omega
      simp
end Go.Proofs.YtbodnhpjfdnjfaaGreatDoor
