/- What follows a node that is entered, or left: package match's enter and leave, as what they mark, in order. Conditions: 1000000 nodes. -/
import Derived.Test.YtolofcfegoeenaaMaWalk
namespace Go.Proofs.Ytolofcfegoeenaa
open Go.RowKit Go.Lib

def markV (br bs bf : Nat) : Value := .func (.func 80) #[] #[.pointer (some ⟨br, 0, none⟩), .pointer (some ⟨bs, 0, none⟩), .pointer (some ⟨bf, 0, none⟩)]
/-- A call of the closure that marks, from w on, whatever has been made meanwhile. -/
def Mark (br bs bf g p : Nat) (w : World) (P : World → Prop) : Prop :=
  ∀ w', Below w.heap.size w w' → Calls Try.prog 80 #[.int .i64 (g : Int), .int .i64 (p : Int), .pointer (some ⟨br, 0, none⟩), .pointer (some ⟨bs, 0, none⟩), .pointer (some ⟨bf, 0, none⟩)] w' fun e w'' => e = .returned (.tuple #[]) ∧ P w''
theorem Mark.below {br bs bf g p : Nat} {w w1 : World} {P : World → Prop} (h : Mark br bs bf g p w P) (hb : Below w.heap.size w w1) : Mark br bs bf g p w1 P := fun w' h' => h w' (hb.trans (h'.mono hb.size))

set_option maxHeartbeats 4000000 in
set_option maxRecDepth 20000 in
theorem enter_cat (bw b o r p x y br bs bf N cap : Nat) (bk : Bool) (w : World) (P : World → Prop) (hr : (r : Int) < (N : Int)) (hx : x ≤ 1000000) (hy : y ≤ 1000000)
    (c0 : w.cell? ⟨bw, 0, none⟩ = some (.slice (some ⟨b, o, none⟩) N cap)) (c2 : w.cell? ⟨bw, 2, none⟩ = some (.bool bk)) (c4 : w.cell? ⟨bw, 4, none⟩ = some (markV br bs bf))
    (a0 : w.cell? ⟨b, o + r * 7, none⟩ = some (.int .i64 2)) (a5 : w.cell? ⟨b, o + r * 7 + 5, none⟩ = some (.int .i64 (x : Int))) (a6 : w.cell? ⟨b, o + r * 7 + 6, none⟩ = some (.int .i64 (y : Int)))
    (km : Mark br bs bf (2 * (if bk = true then y else x)) p w P) (hP : ∀ w', P w' → w'.cell? ⟨bw, 4, none⟩ = some (markV br bs bf)) :
    Calls Try.prog 84 #[.pointer (some ⟨bw, 0, none⟩), .int .i64 (r : Int), .int .i64 (p : Int)] w fun e w' => e = .returned (.tuple #[]) ∧ P w' := by
  unfold markV at c4 hP
  have r0 : (0 : Int) ≤ (r : Int) := by omega
  have kk := wkids_any bw b (o + r * 7) bk x y w c2 a5 a6
  obtain ⟨z, hz⟩ : ∃ z : Nat, z = (if bk = true then y else x) := ⟨_, rfl⟩
  obtain ⟨z2, hz2⟩ : ∃ z2 : Nat, z2 = (if bk = true then x else y) := ⟨_, rfl⟩
  have e1 : (if bk = true then (y : Int) else (x : Int)) = (z : Int) := by rw [hz]; split <;> rfl
  have e2 : (if bk = true then (x : Int) else (y : Int)) = (z2 : Int) := by rw [hz2]; split <;> rfl
  rw [e1, e2] at kk
  rw [← hz] at km
  have hzl : z ≤ 1000000 := by rw [hz]; split <;> omega
  have ki := fun w => in_any z w hzl
  have C4 := Lib.hid c4
  have HP := Lib.hid hP
  clear e1 e2 hz hz2 hx hy a5 a6 c2 c4 hP
  go_enter Try.func84, Try.ntmps84
  go_wp2_with (first
    | (go_at_call 102; refine kk.mono ?_; rintro e w1 ⟨rfl, hb1⟩; have c4 := cell_kept hb1 C4.out; have km1 := km.below hb1; clear km kk c0 a0)
    | fail)
  have SB := Lib.hid (fun W' (hb : Below w1.heap.size w1 W') => (show W'.cell? ⟨bw, 4, none⟩ = some (.func (.func 80) #[] #[.pointer (some ⟨br, 0, none⟩), .pointer (some ⟨bs, 0, none⟩), .pointer (some ⟨bf, 0, none⟩)]) from cell_kept hb c4))
  clear c4
  go_region_held3 (fun W' => W'.cell? ⟨bw, 4, none⟩ = some (.func (.func 80) #[] #[.pointer (some ⟨br, 0, none⟩), .pointer (some ⟨bs, 0, none⟩), .pointer (some ⟨bf, 0, none⟩)]))
    (first | with_reducible exact SB.out _ (Below.refl _ w1).drew | with_reducible exact HP.out _ hP)
    (first
      | (go_at_call 83; refine (ki _).mono ?_; rintro e w2 ⟨rfl, rfl⟩)
      | (go_at_call 80; refine (km1 _ (Below.refl _ _).drew).mono ?_; rintro e w3 ⟨rfl, hP⟩))
  go_wp2
  go_end0
  exact ⟨rfl, hP⟩
set_option maxHeartbeats 4000000 in
set_option maxRecDepth 20000 in
theorem enter_alt (bw b o r p x y br bs bf N cap : Nat) (w : World) (P Q : World → Prop) (hr : (r : Int) < (N : Int)) (hx : x ≤ 1000000) (hy : y ≤ 1000000)
    (c0 : w.cell? ⟨bw, 0, none⟩ = some (.slice (some ⟨b, o, none⟩) N cap)) (c4 : w.cell? ⟨bw, 4, none⟩ = some (markV br bs bf))
    (a0 : w.cell? ⟨b, o + r * 7, none⟩ = some (.int .i64 3)) (a5 : w.cell? ⟨b, o + r * 7 + 5, none⟩ = some (.int .i64 (x : Int)))
    (km : Mark br bs bf (2 * x) p w Q)
    (hQ : ∀ w', Q w' → w'.cell? ⟨bw, 4, none⟩ = some (markV br bs bf) ∧ w'.cell? ⟨b, o + r * 7 + 5, none⟩ = some (.int .i64 (x : Int)) ∧ w'.cell? ⟨b, o + r * 7 + 6, none⟩ = some (.int .i64 (y : Int)) ∧ Mark br bs bf (2 * y) p w' P) (hP : ∀ w', P w' → w'.cell? ⟨bw, 4, none⟩ = some (markV br bs bf) ∧ w'.cell? ⟨b, o + r * 7 + 6, none⟩ = some (.int .i64 (y : Int))) :
    Calls Try.prog 84 #[.pointer (some ⟨bw, 0, none⟩), .int .i64 (r : Int), .int .i64 (p : Int)] w fun e w' => e = .returned (.tuple #[]) ∧ P w' := by
  have ki := fun w => in_any x w hx
  have kj := fun w => in_any y w hy
  clear hx hy
  unfold markV at c4 hP hQ
  have r0 : (0 : Int) ≤ (r : Int) := by omega
  have HP := Lib.hid hP
  have HQ := Lib.hid hQ
  have SB := Lib.hid (fun W' (hb : Below w.heap.size w W') => (show W'.cell? ⟨bw, 4, none⟩ = some (.func (.func 80) #[] #[.pointer (some ⟨br, 0, none⟩), .pointer (some ⟨bs, 0, none⟩), .pointer (some ⟨bf, 0, none⟩)]) ∧ W'.cell? ⟨b, o + r * 7 + 5, none⟩ = some (.int .i64 (x : Int)) from ⟨cell_kept hb c4, cell_kept hb a5⟩))
  clear hP hQ c4 a5
  go_enter Try.func84, Try.ntmps84
  go_wp2_with fail
  go_region_held3 (fun W' => W'.cell? ⟨bw, 4, none⟩ = some (.func (.func 80) #[] #[.pointer (some ⟨br, 0, none⟩), .pointer (some ⟨bs, 0, none⟩), .pointer (some ⟨bf, 0, none⟩)]) ∧ W'.cell? ⟨b, o + r * 7 + 5, none⟩ = some (.int .i64 (x : Int)))
    (first | with_reducible exact SB.out _ (Below.refl _ w).drew | with_reducible exact ⟨(HQ.out _ hq).1, (HQ.out _ hq).2.1⟩)
    (first
      | (go_at_call 83; refine (ki _).mono ?_; rintro e w2 ⟨rfl, rfl⟩)
      | (go_at_call 80; refine (km _ (Below.refl _ _).drew).mono ?_; rintro e w3 ⟨rfl, hq⟩))
  obtain ⟨c4, -, a6, km2⟩ := HQ.out _ hq
  clear SB
  have SB := Lib.hid (fun W' (hb : Below w3.heap.size w3 W') => (show W'.cell? ⟨bw, 4, none⟩ = some (.func (.func 80) #[] #[.pointer (some ⟨br, 0, none⟩), .pointer (some ⟨bs, 0, none⟩), .pointer (some ⟨bf, 0, none⟩)]) ∧ W'.cell? ⟨b, o + r * 7 + 6, none⟩ = some (.int .i64 (y : Int)) from ⟨cell_kept hb c4, cell_kept hb a6⟩))
  clear hq km c4 a6 c0 a0
  go_wp2_with fail
  go_region_held3 (fun W' => W'.cell? ⟨bw, 4, none⟩ = some (.func (.func 80) #[] #[.pointer (some ⟨br, 0, none⟩), .pointer (some ⟨bs, 0, none⟩), .pointer (some ⟨bf, 0, none⟩)]) ∧ W'.cell? ⟨b, o + r * 7 + 6, none⟩ = some (.int .i64 (y : Int)))
    (first | with_reducible exact SB.out _ (Below.refl _ w3).drew | with_reducible exact HP.out _ hP)
    (first
      | (go_at_call 83; refine (kj _).mono ?_; rintro e w2 ⟨rfl, rfl⟩)
      | (go_at_call 80; refine (km2 _ (Below.refl _ _).drew).mono ?_; rintro e w4 ⟨rfl, hP⟩))
  go_wp2
  go_end0
  exact ⟨rfl, hP⟩
set_option maxHeartbeats 4000000 in
set_option maxRecDepth 20000 in
theorem enter_rep (bw b o r p x br bs bf N cap : Nat) (k : Int) (hk : k = 4 ∨ k = 6) (w : World) (P Q : World → Prop) (hr : (r : Int) < (N : Int)) (hx : x ≤ 1000000) (hr2 : r ≤ 1000000)
    (c0 : w.cell? ⟨bw, 0, none⟩ = some (.slice (some ⟨b, o, none⟩) N cap)) (c4 : w.cell? ⟨bw, 4, none⟩ = some (markV br bs bf))
    (a0 : w.cell? ⟨b, o + r * 7, none⟩ = some (.int .i64 k))
    (km : Mark br bs bf (2 * r + 1) p w Q)
    (hQ : ∀ w', Q w' → w'.cell? ⟨bw, 4, none⟩ = some (markV br bs bf) ∧ w'.cell? ⟨b, o + r * 7 + 5, none⟩ = some (.int .i64 (x : Int)) ∧ Mark br bs bf (2 * x) p w' P) (hP : ∀ w', P w' → w'.cell? ⟨bw, 4, none⟩ = some (markV br bs bf) ∧ w'.cell? ⟨b, o + r * 7 + 5, none⟩ = some (.int .i64 (x : Int))) :
    Calls Try.prog 84 #[.pointer (some ⟨bw, 0, none⟩), .int .i64 (r : Int), .int .i64 (p : Int)] w fun e w' => e = .returned (.tuple #[]) ∧ P w' := by
  have ki := fun w => out_any r w hr2
  have kj := fun w => in_any x w hx
  clear hx hr2
  unfold markV at c4 hP hQ
  have r0 : (0 : Int) ≤ (r : Int) := by omega
  have HP := Lib.hid hP
  have HQ := Lib.hid hQ
  have SB := Lib.hid (fun W' (hb : Below w.heap.size w W') => (show W'.cell? ⟨bw, 4, none⟩ = some (.func (.func 80) #[] #[.pointer (some ⟨br, 0, none⟩), .pointer (some ⟨bs, 0, none⟩), .pointer (some ⟨bf, 0, none⟩)]) from cell_kept hb c4))
  clear hP hQ c4
  rcases hk with rfl | rfl
  · go_enter Try.func84, Try.ntmps84
    go_wp2_with fail
    go_region_held3 (fun W' => W'.cell? ⟨bw, 4, none⟩ = some (.func (.func 80) #[] #[.pointer (some ⟨br, 0, none⟩), .pointer (some ⟨bs, 0, none⟩), .pointer (some ⟨bf, 0, none⟩)]))
      (first | with_reducible exact SB.out _ (Below.refl _ w).drew | with_reducible exact (HQ.out _ hq).1)
      (first
        | (go_at_call 103; refine (ki _).mono ?_; rintro e w2 ⟨rfl, rfl⟩)
        | (go_at_call 80; refine (km _ (Below.refl _ _).drew).mono ?_; rintro e w3 ⟨rfl, hq⟩))
    obtain ⟨c4, a5, km2⟩ := HQ.out _ hq
    clear SB
    have SB := Lib.hid (fun W' (hb : Below w3.heap.size w3 W') => (show W'.cell? ⟨bw, 4, none⟩ = some (.func (.func 80) #[] #[.pointer (some ⟨br, 0, none⟩), .pointer (some ⟨bs, 0, none⟩), .pointer (some ⟨bf, 0, none⟩)]) ∧ W'.cell? ⟨b, o + r * 7 + 5, none⟩ = some (.int .i64 (x : Int)) from ⟨cell_kept hb c4, cell_kept hb a5⟩))
    clear hq km c4 a5 c0 a0
    go_wp2_with fail
    go_region_held3 (fun W' => W'.cell? ⟨bw, 4, none⟩ = some (.func (.func 80) #[] #[.pointer (some ⟨br, 0, none⟩), .pointer (some ⟨bs, 0, none⟩), .pointer (some ⟨bf, 0, none⟩)]) ∧ W'.cell? ⟨b, o + r * 7 + 5, none⟩ = some (.int .i64 (x : Int)))
      (first | with_reducible exact SB.out _ (Below.refl _ w3).drew | with_reducible exact HP.out _ hP)
      (first
        | (go_at_call 83; refine (kj _).mono ?_; rintro e w2 ⟨rfl, rfl⟩)
        | (go_at_call 80; refine (km2 _ (Below.refl _ _).drew).mono ?_; rintro e w4 ⟨rfl, hP⟩))
    go_wp2
    go_end0
    exact ⟨rfl, hP⟩
  · go_enter Try.func84, Try.ntmps84
    go_wp2_with fail
    go_region_held3 (fun W' => W'.cell? ⟨bw, 4, none⟩ = some (.func (.func 80) #[] #[.pointer (some ⟨br, 0, none⟩), .pointer (some ⟨bs, 0, none⟩), .pointer (some ⟨bf, 0, none⟩)]))
      (first | with_reducible exact SB.out _ (Below.refl _ w).drew | with_reducible exact (HQ.out _ hq).1)
      (first
        | (go_at_call 103; refine (ki _).mono ?_; rintro e w2 ⟨rfl, rfl⟩)
        | (go_at_call 80; refine (km _ (Below.refl _ _).drew).mono ?_; rintro e w3 ⟨rfl, hq⟩))
    obtain ⟨c4, a5, km2⟩ := HQ.out _ hq
    clear SB
    have SB := Lib.hid (fun W' (hb : Below w3.heap.size w3 W') => (show W'.cell? ⟨bw, 4, none⟩ = some (.func (.func 80) #[] #[.pointer (some ⟨br, 0, none⟩), .pointer (some ⟨bs, 0, none⟩), .pointer (some ⟨bf, 0, none⟩)]) ∧ W'.cell? ⟨b, o + r * 7 + 5, none⟩ = some (.int .i64 (x : Int)) from ⟨cell_kept hb c4, cell_kept hb a5⟩))
    clear hq km c4 a5 c0 a0
    go_wp2_with fail
    go_region_held3 (fun W' => W'.cell? ⟨bw, 4, none⟩ = some (.func (.func 80) #[] #[.pointer (some ⟨br, 0, none⟩), .pointer (some ⟨bs, 0, none⟩), .pointer (some ⟨bf, 0, none⟩)]) ∧ W'.cell? ⟨b, o + r * 7 + 5, none⟩ = some (.int .i64 (x : Int)))
      (first | with_reducible exact SB.out _ (Below.refl _ w3).drew | with_reducible exact HP.out _ hP)
      (first
        | (go_at_call 83; refine (kj _).mono ?_; rintro e w2 ⟨rfl, rfl⟩)
        | (go_at_call 80; refine (km2 _ (Below.refl _ _).drew).mono ?_; rintro e w4 ⟨rfl, hP⟩))
    go_wp2
    go_end0
    exact ⟨rfl, hP⟩
set_option maxHeartbeats 4000000 in
set_option maxRecDepth 20000 in
theorem enter_plus (bw b o r p x br bs bf N cap : Nat) (w : World) (P : World → Prop) (hr : (r : Int) < (N : Int)) (hx : x ≤ 1000000)
    (c0 : w.cell? ⟨bw, 0, none⟩ = some (.slice (some ⟨b, o, none⟩) N cap)) (c4 : w.cell? ⟨bw, 4, none⟩ = some (markV br bs bf))
    (a0 : w.cell? ⟨b, o + r * 7, none⟩ = some (.int .i64 5)) (a5 : w.cell? ⟨b, o + r * 7 + 5, none⟩ = some (.int .i64 (x : Int)))
    (km : Mark br bs bf (2 * x) p w P) (hP : ∀ w', P w' → w'.cell? ⟨bw, 4, none⟩ = some (markV br bs bf) ∧ w'.cell? ⟨b, o + r * 7 + 5, none⟩ = some (.int .i64 (x : Int))) :
    Calls Try.prog 84 #[.pointer (some ⟨bw, 0, none⟩), .int .i64 (r : Int), .int .i64 (p : Int)] w fun e w' => e = .returned (.tuple #[]) ∧ P w' := by
  unfold markV at c4 hP
  have r0 : (0 : Int) ≤ (r : Int) := by omega
  have ki := fun w => in_any x w hx
  have HP := Lib.hid hP
  have SB := Lib.hid (fun W' (hb : Below w.heap.size w W') => (show W'.cell? ⟨bw, 4, none⟩ = some (.func (.func 80) #[] #[.pointer (some ⟨br, 0, none⟩), .pointer (some ⟨bs, 0, none⟩), .pointer (some ⟨bf, 0, none⟩)]) ∧ W'.cell? ⟨b, o + r * 7 + 5, none⟩ = some (.int .i64 (x : Int)) from ⟨cell_kept hb c4, cell_kept hb a5⟩))
  clear hx hP c4 a5
  go_enter Try.func84, Try.ntmps84
  go_wp2_with fail
  go_region_held3 (fun W' => W'.cell? ⟨bw, 4, none⟩ = some (.func (.func 80) #[] #[.pointer (some ⟨br, 0, none⟩), .pointer (some ⟨bs, 0, none⟩), .pointer (some ⟨bf, 0, none⟩)]) ∧ W'.cell? ⟨b, o + r * 7 + 5, none⟩ = some (.int .i64 (x : Int)))
    (first | with_reducible exact SB.out _ (Below.refl _ w).drew | with_reducible exact HP.out _ hP)
    (first
      | (go_at_call 83; refine (ki _).mono ?_; rintro e w2 ⟨rfl, rfl⟩)
      | (go_at_call 80; refine (km _ (Below.refl _ _).drew).mono ?_; rintro e w3 ⟨rfl, hP⟩))
  go_wp2
  go_end0
  exact ⟨rfl, hP⟩
set_option maxHeartbeats 4000000 in
set_option maxRecDepth 20000 in
theorem enter_leafW (bw b o r p br bs bf N cap : Nat) (k : Int) (hk : k = 0 ∨ k = 1 ∨ k = 7 ∨ k = 8) (R : Option Nat) (w : World) (P : World → Prop) (hr : (r : Int) < (N : Int)) (hr2 : r ≤ 1000000)
    (c0 : w.cell? ⟨bw, 0, none⟩ = some (.slice (some ⟨b, o, none⟩) N cap)) (c4 : w.cell? ⟨bw, 4, none⟩ = some (markV br bs bf))
    (a0 : w.cell? ⟨b, o + r * 7, none⟩ = some (.int .i64 k))
    (ks : Calls Try.prog 104 #[.pointer (some ⟨bw, 0, none⟩), .pointer (some ⟨b, o + r * 7, none⟩), .int .i64 (p : Int)] w fun e w' => (∃ (q : Int) (is : Bool), e = .returned (.tuple #[.int .i64 q, .bool is]) ∧ (is = true → ∃ q' : Nat, q = (q' : Int) ∧ R = some q') ∧ (is = false → R = none)) ∧ Below w.heap.size w w')
    (hno : R = none → ∀ w', Below w.heap.size w w' → P w') (km : ∀ q', R = some q' → Mark br bs bf (2 * r + 1) q' w P) (hP : ∀ w', P w' → w'.cell? ⟨bw, 4, none⟩ = some (markV br bs bf)) :
    Calls Try.prog 84 #[.pointer (some ⟨bw, 0, none⟩), .int .i64 (r : Int), .int .i64 (p : Int)] w fun e w' => e = .returned (.tuple #[]) ∧ P w' := by
  unfold markV at c4 hP
  have r0 : (0 : Int) ≤ (r : Int) := by omega
  have ki := fun w => out_any r w hr2
  have C4 := Lib.hid c4
  have HP := Lib.hid hP
  clear hr2 c4 hP
  rcases hk with rfl | rfl | rfl | rfl
  · go_enter Try.func84, Try.ntmps84
    go_wp2_with (first
      | (go_at_call 104; refine ks.mono ?_; rintro e w1 ⟨⟨q, is, rfl, hyes, hnot⟩, hb1⟩; clear ks c0 a0)
      | fail)
    rotate_left
    · go_end0
      exact ⟨rfl, hno (hnot (by assumption)) _ hb1⟩
    · obtain ⟨q', rfl, hR⟩ := hyes (by assumption)
      have km1 := (km q' hR).below hb1
      have c4 := cell_kept hb1 C4.out
      have SB := Lib.hid (fun W' (hb : Below w1.heap.size w1 W') => (show W'.cell? ⟨bw, 4, none⟩ = some (.func (.func 80) #[] #[.pointer (some ⟨br, 0, none⟩), .pointer (some ⟨bs, 0, none⟩), .pointer (some ⟨bf, 0, none⟩)]) from cell_kept hb c4))
      clear hyes hnot hno km c4
      go_wp2_with fail
      go_region_held3 (fun W' => W'.cell? ⟨bw, 4, none⟩ = some (.func (.func 80) #[] #[.pointer (some ⟨br, 0, none⟩), .pointer (some ⟨bs, 0, none⟩), .pointer (some ⟨bf, 0, none⟩)]))
        (first | with_reducible exact SB.out _ (Below.refl _ w1).drew | with_reducible exact HP.out _ hP)
        (first
          | (go_at_call 103; refine (ki _).mono ?_; rintro e w2 ⟨rfl, rfl⟩)
          | (go_at_call 80; refine (km1 _ (Below.refl _ _).drew).mono ?_; rintro e w3 ⟨rfl, hP⟩))
      go_wp2
      go_end0
      exact ⟨rfl, hP⟩
  · go_enter Try.func84, Try.ntmps84
    go_wp2_with (first
      | (go_at_call 104; refine ks.mono ?_; rintro e w1 ⟨⟨q, is, rfl, hyes, hnot⟩, hb1⟩; clear ks c0 a0)
      | fail)
    rotate_left
    · go_end0
      exact ⟨rfl, hno (hnot (by assumption)) _ hb1⟩
    · obtain ⟨q', rfl, hR⟩ := hyes (by assumption)
      have km1 := (km q' hR).below hb1
      have c4 := cell_kept hb1 C4.out
      have SB := Lib.hid (fun W' (hb : Below w1.heap.size w1 W') => (show W'.cell? ⟨bw, 4, none⟩ = some (.func (.func 80) #[] #[.pointer (some ⟨br, 0, none⟩), .pointer (some ⟨bs, 0, none⟩), .pointer (some ⟨bf, 0, none⟩)]) from cell_kept hb c4))
      clear hyes hnot hno km c4
      go_wp2_with fail
      go_region_held3 (fun W' => W'.cell? ⟨bw, 4, none⟩ = some (.func (.func 80) #[] #[.pointer (some ⟨br, 0, none⟩), .pointer (some ⟨bs, 0, none⟩), .pointer (some ⟨bf, 0, none⟩)]))
        (first | with_reducible exact SB.out _ (Below.refl _ w1).drew | with_reducible exact HP.out _ hP)
        (first
          | (go_at_call 103; refine (ki _).mono ?_; rintro e w2 ⟨rfl, rfl⟩)
          | (go_at_call 80; refine (km1 _ (Below.refl _ _).drew).mono ?_; rintro e w3 ⟨rfl, hP⟩))
      go_wp2
      go_end0
      exact ⟨rfl, hP⟩
  · go_enter Try.func84, Try.ntmps84
    go_wp2_with (first
      | (go_at_call 104; refine ks.mono ?_; rintro e w1 ⟨⟨q, is, rfl, hyes, hnot⟩, hb1⟩; clear ks c0 a0)
      | fail)
    rotate_left
    · go_end0
      exact ⟨rfl, hno (hnot (by assumption)) _ hb1⟩
    · obtain ⟨q', rfl, hR⟩ := hyes (by assumption)
      have km1 := (km q' hR).below hb1
      have c4 := cell_kept hb1 C4.out
      have SB := Lib.hid (fun W' (hb : Below w1.heap.size w1 W') => (show W'.cell? ⟨bw, 4, none⟩ = some (.func (.func 80) #[] #[.pointer (some ⟨br, 0, none⟩), .pointer (some ⟨bs, 0, none⟩), .pointer (some ⟨bf, 0, none⟩)]) from cell_kept hb c4))
      clear hyes hnot hno km c4
      go_wp2_with fail
      go_region_held3 (fun W' => W'.cell? ⟨bw, 4, none⟩ = some (.func (.func 80) #[] #[.pointer (some ⟨br, 0, none⟩), .pointer (some ⟨bs, 0, none⟩), .pointer (some ⟨bf, 0, none⟩)]))
        (first | with_reducible exact SB.out _ (Below.refl _ w1).drew | with_reducible exact HP.out _ hP)
        (first
          | (go_at_call 103; refine (ki _).mono ?_; rintro e w2 ⟨rfl, rfl⟩)
          | (go_at_call 80; refine (km1 _ (Below.refl _ _).drew).mono ?_; rintro e w3 ⟨rfl, hP⟩))
      go_wp2
      go_end0
      exact ⟨rfl, hP⟩
  · go_enter Try.func84, Try.ntmps84
    go_wp2_with (first
      | (go_at_call 104; refine ks.mono ?_; rintro e w1 ⟨⟨q, is, rfl, hyes, hnot⟩, hb1⟩; clear ks c0 a0)
      | fail)
    rotate_left
    · go_end0
      exact ⟨rfl, hno (hnot (by assumption)) _ hb1⟩
    · obtain ⟨q', rfl, hR⟩ := hyes (by assumption)
      have km1 := (km q' hR).below hb1
      have c4 := cell_kept hb1 C4.out
      have SB := Lib.hid (fun W' (hb : Below w1.heap.size w1 W') => (show W'.cell? ⟨bw, 4, none⟩ = some (.func (.func 80) #[] #[.pointer (some ⟨br, 0, none⟩), .pointer (some ⟨bs, 0, none⟩), .pointer (some ⟨bf, 0, none⟩)]) from cell_kept hb c4))
      clear hyes hnot hno km c4
      go_wp2_with fail
      go_region_held3 (fun W' => W'.cell? ⟨bw, 4, none⟩ = some (.func (.func 80) #[] #[.pointer (some ⟨br, 0, none⟩), .pointer (some ⟨bs, 0, none⟩), .pointer (some ⟨bf, 0, none⟩)]))
        (first | with_reducible exact SB.out _ (Below.refl _ w1).drew | with_reducible exact HP.out _ hP)
        (first
          | (go_at_call 103; refine (ki _).mono ?_; rintro e w2 ⟨rfl, rfl⟩)
          | (go_at_call 80; refine (km1 _ (Below.refl _ _).drew).mono ?_; rintro e w3 ⟨rfl, hP⟩))
      go_wp2
      go_end0
      exact ⟨rfl, hP⟩
end Go.Proofs.Ytolofcfegoeenaa
