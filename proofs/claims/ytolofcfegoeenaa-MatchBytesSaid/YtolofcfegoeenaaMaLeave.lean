/- What follows a node that is left: package match's leave, as what it marks, in order. Conditions: 1000000 nodes. -/
import Derived.Test.YtolofcfegoeenaaMaEnter
namespace Go.Proofs.Ytolofcfegoeenaa
open Go.RowKit Go.Lib

set_option maxHeartbeats 4000000 in
set_option maxRecDepth 20000 in
theorem leave_cat (bw b o r u p x y br bs bf N cap bu Lu Cu : Nat) (bk : Bool) (w : World) (P : World → Prop) (hr : (r : Int) < (Lu : Int)) (hu : (u : Int) < (N : Int)) (hu2 : u ≤ 1000000) (hx : x ≤ 1000000) (hy : y ≤ 1000000)
    (c0 : w.cell? ⟨bw, 0, none⟩ = some (.slice (some ⟨b, o, none⟩) N cap)) (c2 : w.cell? ⟨bw, 2, none⟩ = some (.bool bk)) (c3 : w.cell? ⟨bw, 3, none⟩ = some (.slice (some ⟨bu, 0, none⟩) Lu Cu)) (c4 : w.cell? ⟨bw, 4, none⟩ = some (markV br bs bf))
    (cu : w.cell? ⟨bu, r, none⟩ = some (.int .i64 (u : Int)))
    (a0 : w.cell? ⟨b, o + u * 7, none⟩ = some (.int .i64 2)) (a5 : w.cell? ⟨b, o + u * 7 + 5, none⟩ = some (.int .i64 (x : Int))) (a6 : w.cell? ⟨b, o + u * 7 + 6, none⟩ = some (.int .i64 (y : Int)))
    (k1 : (r : Int) = (if bk = true then (y : Int) else (x : Int)) → Mark br bs bf (2 * (if bk = true then x else y)) p w P) (k2 : ¬ (r : Int) = (if bk = true then (y : Int) else (x : Int)) → Mark br bs bf (2 * u + 1) p w P) (hP : ∀ w', P w' → w'.cell? ⟨bw, 4, none⟩ = some (markV br bs bf)) :
    Calls Try.prog 85 #[.pointer (some ⟨bw, 0, none⟩), .int .i64 (r : Int), .int .i64 (p : Int)] w fun e w' => e = .returned (.tuple #[]) ∧ P w' := by
  unfold markV at c4 hP
  have HP := Lib.hid hP
  clear hP
  have r0 : (0 : Int) ≤ (r : Int) := by omega
  have u0 : (0 : Int) ≤ (u : Int) := by omega
  have kk := wkids_any bw b (o + u * 7) bk x y w c2 a5 a6
  obtain ⟨z, hz⟩ : ∃ z : Nat, z = (if bk = true then y else x) := ⟨_, rfl⟩
  obtain ⟨z2, hz2⟩ : ∃ z2 : Nat, z2 = (if bk = true then x else y) := ⟨_, rfl⟩
  have e1 : (if bk = true then (y : Int) else (x : Int)) = (z : Int) := by rw [hz]; split <;> rfl
  have e2 : (if bk = true then (x : Int) else (y : Int)) = (z2 : Int) := by rw [hz2]; split <;> rfl
  rw [e1, e2] at kk
  rw [e1, ← hz2] at k1
  rw [e1] at k2
  have hzl : z2 ≤ 1000000 := by rw [hz2]; split <;> omega
  have ki := fun w => in_any z2 w hzl
  have ko := fun w => out_any u w hu2
  have C4 := Lib.hid c4
  clear e1 e2 hz hz2 hx hy a5 a6 c2 c4 hu2
  by_cases he : (r : Int) = (z : Int)
  · have km := k1 he
    have hd : ((r : Int) == (z : Int)) = true := by simpa using he
    clear k1 k2 he
    go_enter Try.func85, Try.ntmps85
    go_wp2_with (first
      | (go_at_call 102; refine kk.mono ?_; rintro e w1 ⟨rfl, hb1⟩; have d4 := cell_kept hb1 C4.out; have SB := Lib.hid (fun W' (hb : Below w1.heap.size w1 W') => (show W'.cell? ⟨bw, 4, none⟩ = some (.func (.func 80) #[] #[.pointer (some ⟨br, 0, none⟩), .pointer (some ⟨bs, 0, none⟩), .pointer (some ⟨bf, 0, none⟩)]) from cell_kept hb (cell_kept hb1 C4.out))); have km1 := km.below hb1; clear km kk c0 c3 cu a0)
      | fail)
    clear d4
    go_region_held3 (fun W' => W'.cell? ⟨bw, 4, none⟩ = some (.func (.func 80) #[] #[.pointer (some ⟨br, 0, none⟩), .pointer (some ⟨bs, 0, none⟩), .pointer (some ⟨bf, 0, none⟩)]))
      (first | with_reducible exact SB.out _ (Below.refl _ w1).drew | with_reducible exact HP.out _ hP)
      (first
        | (go_at_call 83; refine (ki _).mono ?_; rintro e w2 ⟨rfl, rfl⟩)
        | (go_at_call 80; refine (km1 _ (Below.refl _ _).drew).mono ?_; rintro e w3 ⟨rfl, hP⟩))
    go_wp2
    exact bodyPost_ret (results_none rfl _ _ _) rfl ⟨rfl, hP⟩
  · have km := k2 he
    have hd : ((r : Int) == (z : Int)) = false := by simpa using he
    clear k1 k2 he
    go_enter Try.func85, Try.ntmps85
    go_wp2_with (first
      | (go_at_call 102; refine kk.mono ?_; rintro e w1 ⟨rfl, hb1⟩; have d4 := cell_kept hb1 C4.out; have SB := Lib.hid (fun W' (hb : Below w1.heap.size w1 W') => (show W'.cell? ⟨bw, 4, none⟩ = some (.func (.func 80) #[] #[.pointer (some ⟨br, 0, none⟩), .pointer (some ⟨bs, 0, none⟩), .pointer (some ⟨bf, 0, none⟩)]) from cell_kept hb (cell_kept hb1 C4.out))); have km1 := km.below hb1; clear km kk c0 c3 cu a0)
      | fail)
    clear d4
    go_region_held3 (fun W' => W'.cell? ⟨bw, 4, none⟩ = some (.func (.func 80) #[] #[.pointer (some ⟨br, 0, none⟩), .pointer (some ⟨bs, 0, none⟩), .pointer (some ⟨bf, 0, none⟩)]))
      (first | with_reducible exact SB.out _ (Below.refl _ w1).drew | with_reducible exact HP.out _ hP)
      (first
        | (go_at_call 103; refine (ko _).mono ?_; rintro e w2 ⟨rfl, rfl⟩)
        | (go_at_call 80; refine (km1 _ (Below.refl _ _).drew).mono ?_; rintro e w3 ⟨rfl, hP⟩))
    go_wp2
    go_end0
    exact ⟨rfl, hP⟩
set_option maxHeartbeats 4000000 in
set_option maxRecDepth 20000 in
theorem leave_loop (bw b o r u p br bs bf N cap bu Lu Cu : Nat) (k : Int) (hk : k = 4 ∨ k = 5) (w : World) (P Q : World → Prop) (hr : (r : Int) < (Lu : Int)) (hu : (u : Int) < (N : Int)) (hu2 : u ≤ 1000000) (hr2 : r ≤ 1000000)
    (c0 : w.cell? ⟨bw, 0, none⟩ = some (.slice (some ⟨b, o, none⟩) N cap)) (c3 : w.cell? ⟨bw, 3, none⟩ = some (.slice (some ⟨bu, 0, none⟩) Lu Cu)) (c4 : w.cell? ⟨bw, 4, none⟩ = some (markV br bs bf))
    (cu : w.cell? ⟨bu, r, none⟩ = some (.int .i64 (u : Int)))
    (a0 : w.cell? ⟨b, o + u * 7, none⟩ = some (.int .i64 k))
    (km : Mark br bs bf (2 * r) p w Q)
    (hQ : ∀ w', Q w' → w'.cell? ⟨bw, 4, none⟩ = some (markV br bs bf) ∧ Mark br bs bf (2 * u + 1) p w' P) (hP : ∀ w', P w' → w'.cell? ⟨bw, 4, none⟩ = some (markV br bs bf)) :
    Calls Try.prog 85 #[.pointer (some ⟨bw, 0, none⟩), .int .i64 (r : Int), .int .i64 (p : Int)] w fun e w' => e = .returned (.tuple #[]) ∧ P w' := by
  unfold markV at c4 hQ hP
  have HP := Lib.hid hP
  have HQ := Lib.hid hQ
  have SB := Lib.hid (fun W' (hb : Below w.heap.size w W') => (show W'.cell? ⟨bw, 4, none⟩ = some (.func (.func 80) #[] #[.pointer (some ⟨br, 0, none⟩), .pointer (some ⟨bs, 0, none⟩), .pointer (some ⟨bf, 0, none⟩)]) from cell_kept hb c4))
  clear hP hQ c4
  have r0 : (0 : Int) ≤ (r : Int) := by omega
  have u0 : (0 : Int) ≤ (u : Int) := by omega
  have ki := fun w => in_any r w hr2
  have ko := fun w => out_any u w hu2
  clear hr2 hu2
  rcases hk with rfl | rfl
  · go_enter Try.func85, Try.ntmps85
    go_wp2_with fail
    go_region_held3 (fun W' => W'.cell? ⟨bw, 4, none⟩ = some (.func (.func 80) #[] #[.pointer (some ⟨br, 0, none⟩), .pointer (some ⟨bs, 0, none⟩), .pointer (some ⟨bf, 0, none⟩)]))
      (first | with_reducible exact SB.out _ (Below.refl _ w).drew | with_reducible exact (HQ.out _ hq).1)
      (first
        | (go_at_call 83; refine (ki _).mono ?_; rintro e w2 ⟨rfl, rfl⟩)
        | (go_at_call 80; refine (km _ (Below.refl _ _).drew).mono ?_; rintro e w3 ⟨rfl, hq⟩))
    obtain ⟨c4, km2⟩ := HQ.out _ hq
    clear SB
    have SB := Lib.hid (fun W' (hb : Below w3.heap.size w3 W') => (show W'.cell? ⟨bw, 4, none⟩ = some (.func (.func 80) #[] #[.pointer (some ⟨br, 0, none⟩), .pointer (some ⟨bs, 0, none⟩), .pointer (some ⟨bf, 0, none⟩)]) from cell_kept hb c4))
    clear hq km c0 c3 c4 cu a0
    go_wp2_with fail
    go_region_held3 (fun W' => W'.cell? ⟨bw, 4, none⟩ = some (.func (.func 80) #[] #[.pointer (some ⟨br, 0, none⟩), .pointer (some ⟨bs, 0, none⟩), .pointer (some ⟨bf, 0, none⟩)]))
      (first | with_reducible exact SB.out _ (Below.refl _ w3).drew | with_reducible exact HP.out _ hP)
      (first
        | (go_at_call 103; refine (ko _).mono ?_; rintro e w2 ⟨rfl, rfl⟩)
        | (go_at_call 80; refine (km2 _ (Below.refl _ _).drew).mono ?_; rintro e w4 ⟨rfl, hP⟩))
    go_wp2
    go_end0
    exact ⟨rfl, hP⟩
  · go_enter Try.func85, Try.ntmps85
    go_wp2_with fail
    go_region_held3 (fun W' => W'.cell? ⟨bw, 4, none⟩ = some (.func (.func 80) #[] #[.pointer (some ⟨br, 0, none⟩), .pointer (some ⟨bs, 0, none⟩), .pointer (some ⟨bf, 0, none⟩)]))
      (first | with_reducible exact SB.out _ (Below.refl _ w).drew | with_reducible exact (HQ.out _ hq).1)
      (first
        | (go_at_call 83; refine (ki _).mono ?_; rintro e w2 ⟨rfl, rfl⟩)
        | (go_at_call 80; refine (km _ (Below.refl _ _).drew).mono ?_; rintro e w3 ⟨rfl, hq⟩))
    obtain ⟨c4, km2⟩ := HQ.out _ hq
    clear SB
    have SB := Lib.hid (fun W' (hb : Below w3.heap.size w3 W') => (show W'.cell? ⟨bw, 4, none⟩ = some (.func (.func 80) #[] #[.pointer (some ⟨br, 0, none⟩), .pointer (some ⟨bs, 0, none⟩), .pointer (some ⟨bf, 0, none⟩)]) from cell_kept hb c4))
    clear hq km c0 c3 c4 cu a0
    go_wp2_with fail
    go_region_held3 (fun W' => W'.cell? ⟨bw, 4, none⟩ = some (.func (.func 80) #[] #[.pointer (some ⟨br, 0, none⟩), .pointer (some ⟨bs, 0, none⟩), .pointer (some ⟨bf, 0, none⟩)]))
      (first | with_reducible exact SB.out _ (Below.refl _ w3).drew | with_reducible exact HP.out _ hP)
      (first
        | (go_at_call 103; refine (ko _).mono ?_; rintro e w2 ⟨rfl, rfl⟩)
        | (go_at_call 80; refine (km2 _ (Below.refl _ _).drew).mono ?_; rintro e w4 ⟨rfl, hP⟩))
    go_wp2
    go_end0
    exact ⟨rfl, hP⟩
set_option maxHeartbeats 4000000 in
set_option maxRecDepth 20000 in
theorem leave_up (bw b o r u p br bs bf N cap bu Lu Cu : Nat) (k : Int) (hk : k = 3 ∨ k = 6) (w : World) (P : World → Prop) (hr : (r : Int) < (Lu : Int)) (hu : (u : Int) < (N : Int)) (hu2 : u ≤ 1000000)
    (c0 : w.cell? ⟨bw, 0, none⟩ = some (.slice (some ⟨b, o, none⟩) N cap)) (c3 : w.cell? ⟨bw, 3, none⟩ = some (.slice (some ⟨bu, 0, none⟩) Lu Cu)) (c4 : w.cell? ⟨bw, 4, none⟩ = some (markV br bs bf))
    (cu : w.cell? ⟨bu, r, none⟩ = some (.int .i64 (u : Int)))
    (a0 : w.cell? ⟨b, o + u * 7, none⟩ = some (.int .i64 k))
    (km : Mark br bs bf (2 * u + 1) p w P) (hP : ∀ w', P w' → w'.cell? ⟨bw, 4, none⟩ = some (markV br bs bf)) :
    Calls Try.prog 85 #[.pointer (some ⟨bw, 0, none⟩), .int .i64 (r : Int), .int .i64 (p : Int)] w fun e w' => e = .returned (.tuple #[]) ∧ P w' := by
  unfold markV at c4 hP
  have HP := Lib.hid hP
  clear hP
  have r0 : (0 : Int) ≤ (r : Int) := by omega
  have u0 : (0 : Int) ≤ (u : Int) := by omega
  have ko := fun w => out_any u w hu2
  clear hu2
  have SB := Lib.hid (fun W' (hb : Below w.heap.size w W') => (show W'.cell? ⟨bw, 4, none⟩ = some (.func (.func 80) #[] #[.pointer (some ⟨br, 0, none⟩), .pointer (some ⟨bs, 0, none⟩), .pointer (some ⟨bf, 0, none⟩)]) from cell_kept hb c4))
  clear c4
  rcases hk with rfl | rfl
  · go_enter Try.func85, Try.ntmps85
    go_wp2_with fail
    go_region_held3 (fun W' => W'.cell? ⟨bw, 4, none⟩ = some (.func (.func 80) #[] #[.pointer (some ⟨br, 0, none⟩), .pointer (some ⟨bs, 0, none⟩), .pointer (some ⟨bf, 0, none⟩)]))
      (first | with_reducible exact SB.out _ (Below.refl _ w).drew | with_reducible exact HP.out _ hP)
      (first
        | (go_at_call 103; refine (ko _).mono ?_; rintro e w2 ⟨rfl, rfl⟩)
        | (go_at_call 80; refine (km _ (Below.refl _ _).drew).mono ?_; rintro e w3 ⟨rfl, hP⟩))
    go_wp2
    go_end0
    exact ⟨rfl, hP⟩
  · go_enter Try.func85, Try.ntmps85
    go_wp2_with fail
    go_region_held3 (fun W' => W'.cell? ⟨bw, 4, none⟩ = some (.func (.func 80) #[] #[.pointer (some ⟨br, 0, none⟩), .pointer (some ⟨bs, 0, none⟩), .pointer (some ⟨bf, 0, none⟩)]))
      (first | with_reducible exact SB.out _ (Below.refl _ w).drew | with_reducible exact HP.out _ hP)
      (first
        | (go_at_call 103; refine (ko _).mono ?_; rintro e w2 ⟨rfl, rfl⟩)
        | (go_at_call 80; refine (km _ (Below.refl _ _).drew).mono ?_; rintro e w3 ⟨rfl, hP⟩))
    go_wp2
    go_end0
    exact ⟨rfl, hP⟩
end Go.Proofs.Ytolofcfegoeenaa
