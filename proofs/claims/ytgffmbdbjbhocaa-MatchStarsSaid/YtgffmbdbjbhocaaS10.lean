/- Packed texts: MaRead2, MaShown, MbFew, MaStars, ReRefJoin, MatchStarsWalk. What each of them proves stands above its theorems; the conditions stand in these. -/
import Derived.BigQuiet
import Derived.Deep.Cut
import Derived.Deep.DeepCutAuto
import Derived.Deep.LoopGhost
import Derived.Deep.RegionWith
import Derived.Defers
import Derived.Laws.AppendOwnNone
import Derived.Laws.CopyOwn
import Derived.Laws.Pointers
import Derived.Laws.ResultCell
import Derived.Lib.Hide
import Derived.Recover
import Derived.Shelf.Abstract
import Derived.StillTailTactics
import Derived.Test.YtgffmbdbjbhocaaShelf
import Derived.Test.YtgffmbdbjbhocaaS0
import Derived.Test.YtgffmbdbjbhocaaS5
import Derived.Test.YtgffmbdbjbhocaaS7
import Derived.Test.YtgffmbdbjbhocaaS8
import Derived.Test.YtgffmbdbjbhocaaS9
namespace Go.Proofs.Ytgffmbdbjbhocaa
open Go.RowKit Go.Lib

set_option maxHeartbeats 8000000 in
set_option maxRecDepth 20000 in
theorem row_any (B pb : Nat) (c q : UInt8) (k : Int) (K : K4) (s : ByteArray) (w : World) (hs : s = ⟨#[c, q]⟩) (h : Ps B pb s 0 [] w) (h124 : c ≠ 124) (h41 : c ≠ 41)
    (kp : ∀ w, Ps B pb s 0 [] w → Calls Try.prog 147 #[.pointer (some ⟨pb, 0, none⟩)] w fun e w' => e = .returned (.int .i64 1) ∧ Ps B pb s 2 [⟨1, K, 0, 0⟩, ⟨k, k0, 0, 0⟩] w' ∧ Below B w w') :
    Calls Try.prog 123 #[.pointer (some ⟨pb, 0, none⟩)] w fun e w' => e = .returned (.int .i64 1) ∧ Ps B pb s 2 [⟨1, K, 0, 0⟩, ⟨k, k0, 0, 0⟩] w' ∧ Below B w w' := by
  have hl : s.data.toList = [c, q] := by rw [hs]
  have hz : s.size = 2 := by rw [hs]; rfl
  have no : ∀ (ch : UInt8), c ≠ ch → ¬ s.data.toList[0]? = some ch := fun ch hne he => by rw [hl] at he; exact hne (by simpa using he)
  have k124 := is_no B pb 0 s [] 124 124 rfl (no _ h124)
  have k41 := is_no B pb 0 s [] 41 41 rfl (no _ h41)
  have HP := Lib.hid h
  have HB := Lib.hid (Below.refl B w)
  clear h hs hl no h124 h41
  go_enter Try.func123, Try.ntmps123
  go_wp2_with fail
  obtain ⟨g0, g1, g4⟩ := HP.out.cells
  have HPd := Lib.hid (HP.out.below ((Below.refl _ w).drew))
  have HBd := Lib.hid (HB.out.trans ((Below.refl _ w).drew.mono HP.out.hB.2))
  refine wp_region_held_drew (S := fun W' => W'.cell? ⟨pb, 0, none⟩ = some (.string s) ∧ W'.cell? ⟨pb, 1, none⟩ = some (.int .i64 ((0 : Nat) : Int))) (by kernel_rfl) ⟨g0, g1⟩ (fun hHeld => ?_)
  refine wpAnyH_take (i := 0) (v := ?_) rfl (by kernel_rfl) (by kernel_rfl) (by kernel_rfl) (fun _ _ _ h => h) ?_ hHeld ?_; rotate_left; · (simp only [List.getElem_toArray, List.getElem_cons_zero]; refine Or.inl ⟨by rfl, ?_⟩; intro w hSw; (try dsimp only at hSw); obtain ⟨s1, s2⟩ := hSw; go_simp; try with_reducible rfl)
  try simp only [List.getElem_toArray, List.getElem_cons_zero, Act.put, List.setIfInBounds_toArray, List.set_cons_zero, List.set_cons_succ]
  refine wpAnyH_take (i := 1) (v := ?_) rfl (by kernel_rfl) (by kernel_rfl) (by kernel_rfl) (fun _ _ _ h => h) ?_ hHeld ?_; rotate_left; · (simp only [List.getElem_toArray, List.getElem_cons_succ, List.getElem_cons_zero]; refine Or.inl ⟨by rfl, ?_⟩; intro w hSw; (try dsimp only at hSw); obtain ⟨s1, s2⟩ := hSw; go_simp; try with_reducible rfl)
  try simp only [List.getElem_toArray, List.getElem_cons_succ, List.getElem_cons_zero, Act.put, List.setIfInBounds_toArray, List.set_cons_zero, List.set_cons_succ]
  refine wpAnyH_take (i := 2) (v := ?_) rfl (by kernel_rfl) (by kernel_rfl) (by kernel_rfl) (fun _ _ _ h => h) ?_ hHeld ?_; rotate_left; · (simp only [List.getElem_toArray, List.getElem_cons_succ, List.getElem_cons_zero]; refine Or.inl ⟨by rfl, ?_⟩; intro w hSw; (try dsimp only at hSw); obtain ⟨s1, s2⟩ := hSw; go_simp; try with_reducible rfl)
  try simp only [List.getElem_toArray, List.getElem_cons_succ, List.getElem_cons_zero, Act.put, List.setIfInBounds_toArray, List.set_cons_zero, List.set_cons_succ]
  refine wpAnyH_take (i := 3) (v := ?_) rfl (by kernel_rfl) (by kernel_rfl) (by kernel_rfl) (fun _ _ _ h => h) ?_ hHeld ?_; rotate_left; · (simp only [List.getElem_toArray, List.getElem_cons_succ, List.getElem_cons_zero]; refine Or.inl ⟨by rfl, ?_⟩; intro w hSw; (try dsimp only at hSw); obtain ⟨s1, s2⟩ := hSw; go_simp; try with_reducible rfl)
  try simp only [List.getElem_toArray, List.getElem_cons_succ, List.getElem_cons_zero, Act.put, List.setIfInBounds_toArray, List.set_cons_zero, List.set_cons_succ]
  refine wpAnyH_take (i := 4) (v := ?_) rfl (by kernel_rfl) (by kernel_rfl) (by kernel_rfl) (fun _ _ _ h => h) ?_ hHeld ?_; rotate_left; · (simp only [List.getElem_toArray, List.getElem_cons_succ, List.getElem_cons_zero]; refine Or.inl ⟨by rfl, ?_⟩; intro w hSw; (try dsimp only at hSw); obtain ⟨s1, s2⟩ := hSw; go_simp; try with_reducible rfl)
  try simp only [List.getElem_toArray, List.getElem_cons_succ, List.getElem_cons_zero, Act.put, List.setIfInBounds_toArray, List.set_cons_zero, List.set_cons_succ]
  refine wpAnyH_take (i := 5) (v := ?_) rfl (by kernel_rfl) (by kernel_rfl) (by kernel_rfl) (fun _ _ _ h => h) ?_ hHeld ?_; rotate_left; · (simp only [List.getElem_toArray, List.getElem_cons_succ, List.getElem_cons_zero]; refine Or.inl ⟨by rfl, ?_⟩; intro w hSw; (try dsimp only at hSw); obtain ⟨s1, s2⟩ := hSw; go_simp; try with_reducible rfl)
  try simp only [List.getElem_toArray, List.getElem_cons_succ, List.getElem_cons_zero, Act.put, List.setIfInBounds_toArray, List.set_cons_zero, List.set_cons_succ]
  refine wpAnyH_take (i := 6) (v := ?_) rfl (by kernel_rfl) (by kernel_rfl) (by kernel_rfl) (fun _ _ _ h => h) ?_ hHeld ?_; rotate_left; · (simp only [List.getElem_toArray, List.getElem_cons_succ, List.getElem_cons_zero]; refine Or.inl ⟨by rfl, ?_⟩; intro w hSw; (try dsimp only at hSw); obtain ⟨s1, s2⟩ := hSw; go_simp; try with_reducible rfl)
  try simp only [List.getElem_toArray, List.getElem_cons_succ, List.getElem_cons_zero, Act.put, List.setIfInBounds_toArray, List.set_cons_zero, List.set_cons_succ]
  refine wpAnyH_take (i := 7) (v := ?_) rfl (by kernel_rfl) (by kernel_rfl) (by kernel_rfl) (fun _ _ _ h => h) ?_ hHeld ?_; rotate_left; · (simp only [List.getElem_toArray, List.getElem_cons_succ, List.getElem_cons_zero]; refine Or.inl ⟨by rfl, ?_⟩; intro w hSw; (try dsimp only at hSw); obtain ⟨s1, s2⟩ := hSw; go_simp; try with_reducible rfl)
  try simp only [List.getElem_toArray, List.getElem_cons_succ, List.getElem_cons_zero, Act.put, List.setIfInBounds_toArray, List.set_cons_zero, List.set_cons_succ]
  refine wpAnyH_take (i := 8) (v := ?_) rfl (by kernel_rfl) (by kernel_rfl) (by kernel_rfl) (fun _ _ _ h => h) ?_ hHeld ?_; rotate_left; · (simp only [List.getElem_toArray, List.getElem_cons_succ, List.getElem_cons_zero]; refine Or.inl ⟨by rfl, ?_⟩; intro w hSw; (try dsimp only at hSw); obtain ⟨s1, s2⟩ := hSw; go_simp; try with_reducible rfl)
  try simp only [List.getElem_toArray, List.getElem_cons_succ, List.getElem_cons_zero, Act.put, List.setIfInBounds_toArray, List.set_cons_zero, List.set_cons_succ]
  refine wpAnyH_take (i := 9) (v := ?_) rfl (by kernel_rfl) (by kernel_rfl) (by kernel_rfl) (fun _ _ _ h => h) ?_ hHeld ?_; rotate_left; · (simp only [List.getElem_toArray, List.getElem_cons_succ, List.getElem_cons_zero]; refine Or.inl ⟨by rfl, ?_⟩; intro w hSw; (try dsimp only at hSw); obtain ⟨s1, s2⟩ := hSw; go_simp; try with_reducible rfl)
  try simp only [List.getElem_toArray, List.getElem_cons_succ, List.getElem_cons_zero, Act.put, List.setIfInBounds_toArray, List.set_cons_zero, List.set_cons_succ]
  refine wpAnyH_take (i := 10) (v := ?_) rfl (by kernel_rfl) (by kernel_rfl) (by kernel_rfl) (fun _ _ _ h => h) ?_ hHeld ?_; rotate_left; · (simp only [List.getElem_toArray, List.getElem_cons_succ, List.getElem_cons_zero]; refine Or.inl ⟨by rfl, ?_⟩; intro w hSw; (try dsimp only at hSw); obtain ⟨s1, s2⟩ := hSw; go_simp; try with_reducible rfl)
  try simp only [List.getElem_toArray, List.getElem_cons_succ, List.getElem_cons_zero, Act.put, List.setIfInBounds_toArray, List.set_cons_zero, List.set_cons_succ]
  refine wpAnyH_take (i := 11) (v := ?_) rfl (by kernel_rfl) (by kernel_rfl) (by kernel_rfl) (fun _ _ _ h => h) ?_ hHeld ?_; rotate_left; · (simp only [List.getElem_toArray, List.getElem_cons_succ, List.getElem_cons_zero]; refine Or.inl ⟨by rfl, ?_⟩; intro w hSw; (try dsimp only at hSw); obtain ⟨s1, s2⟩ := hSw; go_simp; try with_reducible rfl)
  try simp only [List.getElem_toArray, List.getElem_cons_succ, List.getElem_cons_zero, Act.put, List.setIfInBounds_toArray, List.set_cons_zero, List.set_cons_succ]
  refine wpAnyH_ready (rs := [12]) (by kernel_rfl) (by simp) ?_
  refine AllReadyH.cons rfl (fun K' hK => ?_) AllReadyH.nil
  simp only [List.getElem_toArray, List.getElem_cons_succ, List.getElem_cons_zero]
  rw [if_pos (by rfl)]
  go_simp
  (go_at_call 124; refine (k124 _ HPd.out).mono ?_; rintro e w1 ⟨rfl, hb1⟩)
  have HP1 := Lib.hid (HPd.out.below hb1)
  have HB1 := Lib.hid (HBd.out.trans (hb1.mono HPd.out.hB.2))
  refine hK.out _ _ ⟨HP1.out.cells.1, HP1.out.cells.2.1⟩ (fun hHeld2 => ?_)
  clear hHeld hK K'
  have hHeld := hHeld2
  clear hHeld2
  try simp only [List.getElem_toArray, List.getElem_cons_succ, List.getElem_cons_zero, Act.put, List.setIfInBounds_toArray, List.set_cons_zero, List.set_cons_succ]
  refine wpAnyH_take (i := 13) (v := ?_) rfl (by kernel_rfl) (by kernel_rfl) (by kernel_rfl) (fun _ _ _ h => h) ?_ hHeld ?_; rotate_left; · (simp only [List.getElem_toArray, List.getElem_cons_succ, List.getElem_cons_zero]; refine Or.inl ⟨by rfl, ?_⟩; intro w hSw; (try dsimp only at hSw); obtain ⟨s1, s2⟩ := hSw; go_simp; try with_reducible rfl)
  try simp only [List.getElem_toArray, List.getElem_cons_succ, List.getElem_cons_zero, Act.put, List.setIfInBounds_toArray, List.set_cons_zero, List.set_cons_succ]
  refine wpAnyH_take (i := 14) (v := ?_) rfl (by kernel_rfl) (by kernel_rfl) (by kernel_rfl) (fun _ _ _ h => h) ?_ hHeld ?_; rotate_left; · (simp only [List.getElem_toArray, List.getElem_cons_succ, List.getElem_cons_zero]; refine Or.inl ⟨by rfl, ?_⟩; intro w hSw; (try dsimp only at hSw); obtain ⟨s1, s2⟩ := hSw; go_simp; try with_reducible rfl)
  try simp only [List.getElem_toArray, List.getElem_cons_succ, List.getElem_cons_zero, Act.put, List.setIfInBounds_toArray, List.set_cons_zero, List.set_cons_succ]
  refine wpAnyH_take (i := 15) (v := ?_) rfl (by kernel_rfl) (by kernel_rfl) (by kernel_rfl) (fun _ _ _ h => h) ?_ hHeld ?_; rotate_left; · (simp only [List.getElem_toArray, List.getElem_cons_succ, List.getElem_cons_zero]; refine Or.inl ⟨by rfl, ?_⟩; intro w hSw; (try dsimp only at hSw); obtain ⟨s1, s2⟩ := hSw; go_simp; try with_reducible rfl)
  try simp only [List.getElem_toArray, List.getElem_cons_succ, List.getElem_cons_zero, Act.put, List.setIfInBounds_toArray, List.set_cons_zero, List.set_cons_succ]
  refine wpAnyH_ready (rs := [16]) (by kernel_rfl) (by simp) ?_
  refine AllReadyH.cons rfl (fun K' hK => ?_) AllReadyH.nil
  simp only [List.getElem_toArray, List.getElem_cons_succ, List.getElem_cons_zero]
  rw [if_pos (by rfl)]
  go_simp
  (go_at_call 124; refine (k41 _ HP1.out).mono ?_; rintro e w2 ⟨rfl, hb2⟩)
  have HP2 := Lib.hid (HP1.out.below hb2)
  have HB2 := Lib.hid (HB1.out.trans (hb2.mono HP1.out.hB.2))
  refine hK.out _ _ ⟨HP2.out.cells.1, HP2.out.cells.2.1⟩ (fun hHeld2 => ?_)
  clear hHeld hK K'
  have hHeld := hHeld2
  clear hHeld2
  try simp only [List.getElem_toArray, List.getElem_cons_succ, List.getElem_cons_zero, Act.put, List.setIfInBounds_toArray, List.set_cons_zero, List.set_cons_succ]
  refine wpAnyH_take (i := 17) (v := ?_) rfl (by kernel_rfl) (by kernel_rfl) (by kernel_rfl) (fun _ _ _ h => h) ?_ hHeld ?_; rotate_left; · (simp only [List.getElem_toArray, List.getElem_cons_succ, List.getElem_cons_zero]; refine Or.inl ⟨by rfl, ?_⟩; intro w hSw; (try dsimp only at hSw); obtain ⟨s1, s2⟩ := hSw; go_simp; try with_reducible rfl)
  try simp only [List.getElem_toArray, List.getElem_cons_succ, List.getElem_cons_zero, Act.put, List.setIfInBounds_toArray, List.set_cons_zero, List.set_cons_succ]
  refine wpAnyH_done (by kernel_rfl) ?_ _
  clear hHeld g0 g1 g4 k124 k41 hb1 hb2
  go_wp2_with (first
    | (go_at_call 147; refine (kp _ HP2.out).mono ?_; rintro e w3 ⟨rfl, hp3, hb3⟩
       have HP3 := Lib.hid hp3
       have HB3 := Lib.hid (HB2.out.trans hb3)
       clear kp hp3 hb3)
    | fail)
  refine wp_loop_rounds 1 ?_
  rw [rounds_succ]
  go_wp2_with fail
  obtain ⟨g0, g1, g4⟩ := HP3.out.cells
  refine wp_region_held_drew (S := fun W' => W'.cell? ⟨pb, 0, none⟩ = some (.string s) ∧ W'.cell? ⟨pb, 1, none⟩ = some (.int .i64 ((2 : Nat) : Int)) ∧ W'.cell? ⟨pb, 4, none⟩ = some (.int .i64 0)) (by kernel_rfl) ⟨g0, g1, g4⟩ (fun hHeld => ?_)
  refine wpAnyH_take (i := 0) (v := ?_) rfl (by kernel_rfl) (by kernel_rfl) (by kernel_rfl) (fun _ _ _ h => h) ?_ hHeld ?_; rotate_left; · (simp only [List.getElem_toArray, List.getElem_cons_zero]; refine Or.inl ⟨by rfl, ?_⟩; intro w hSw; (try dsimp only at hSw); obtain ⟨s1, s2, s3⟩ := hSw; go_simp; try with_reducible rfl)
  try simp only [List.getElem_toArray, List.getElem_cons_zero, Act.put, List.setIfInBounds_toArray, List.set_cons_zero, List.set_cons_succ]
  refine wpAnyH_take (i := 1) (v := ?_) rfl (by kernel_rfl) (by kernel_rfl) (by kernel_rfl) (fun _ _ _ h => h) ?_ hHeld ?_; rotate_left; · (simp only [List.getElem_toArray, List.getElem_cons_succ, List.getElem_cons_zero]; refine Or.inl ⟨by rfl, ?_⟩; intro w hSw; (try dsimp only at hSw); obtain ⟨s1, s2, s3⟩ := hSw; go_simp; try with_reducible rfl)
  try simp only [List.getElem_toArray, List.getElem_cons_succ, List.getElem_cons_zero, Act.put, List.setIfInBounds_toArray, List.set_cons_zero, List.set_cons_succ]
  refine wpAnyH_take (i := 2) (v := ?_) rfl (by kernel_rfl) (by kernel_rfl) (by kernel_rfl) (fun _ _ _ h => h) ?_ hHeld ?_; rotate_left; · (simp only [List.getElem_toArray, List.getElem_cons_succ, List.getElem_cons_zero]; refine Or.inl ⟨by rfl, ?_⟩; intro w hSw; (try dsimp only at hSw); obtain ⟨s1, s2, s3⟩ := hSw; go_simp; try with_reducible rfl)
  try simp only [List.getElem_toArray, List.getElem_cons_succ, List.getElem_cons_zero, Act.put, List.setIfInBounds_toArray, List.set_cons_zero, List.set_cons_succ]
  refine wpAnyH_take (i := 3) (v := ?_) rfl (by kernel_rfl) (by kernel_rfl) (by kernel_rfl) (fun _ _ _ h => h) ?_ hHeld ?_; rotate_left; · (simp only [List.getElem_toArray, List.getElem_cons_succ, List.getElem_cons_zero]; refine Or.inl ⟨by rfl, ?_⟩; intro w hSw; (try dsimp only at hSw); obtain ⟨s1, s2, s3⟩ := hSw; go_simp; try with_reducible rfl)
  try simp only [List.getElem_toArray, List.getElem_cons_succ, List.getElem_cons_zero, Act.put, List.setIfInBounds_toArray, List.set_cons_zero, List.set_cons_succ]
  refine wpAnyH_take (i := 4) (v := ?_) rfl (by kernel_rfl) (by kernel_rfl) (by kernel_rfl) (fun _ _ _ h => h) ?_ hHeld ?_; rotate_left; · (simp only [List.getElem_toArray, List.getElem_cons_succ, List.getElem_cons_zero]; refine Or.inl ⟨by rfl, ?_⟩; intro w hSw; (try dsimp only at hSw); obtain ⟨s1, s2, s3⟩ := hSw; go_simp; try with_reducible rfl)
  try simp only [List.getElem_toArray, List.getElem_cons_succ, List.getElem_cons_zero, Act.put, List.setIfInBounds_toArray, List.set_cons_zero, List.set_cons_succ]
  refine wpAnyH_take (i := 5) (v := ?_) rfl (by kernel_rfl) (by kernel_rfl) (by kernel_rfl) (fun _ _ _ h => h) ?_ hHeld ?_; rotate_left; · (simp only [List.getElem_toArray, List.getElem_cons_succ, List.getElem_cons_zero]; refine Or.inl ⟨by rfl, ?_⟩; intro w hSw; (try dsimp only at hSw); obtain ⟨s1, s2, s3⟩ := hSw; go_simp; try with_reducible rfl)
  try simp only [List.getElem_toArray, List.getElem_cons_succ, List.getElem_cons_zero, Act.put, List.setIfInBounds_toArray, List.set_cons_zero, List.set_cons_succ]
  refine wpAnyH_take (i := 6) (v := ?_) rfl (by kernel_rfl) (by kernel_rfl) (by kernel_rfl) (fun _ _ _ h => h) ?_ hHeld ?_; rotate_left; · (simp only [List.getElem_toArray, List.getElem_cons_succ, List.getElem_cons_zero]; refine Or.inl ⟨by rfl, ?_⟩; intro w hSw; (try dsimp only at hSw); obtain ⟨s1, s2, s3⟩ := hSw; go_simp; try with_reducible rfl)
  try simp only [List.getElem_toArray, List.getElem_cons_succ, List.getElem_cons_zero, Act.put, List.setIfInBounds_toArray, List.set_cons_zero, List.set_cons_succ]
  refine wpAnyH_take (i := 7) (v := ?_) rfl (by kernel_rfl) (by kernel_rfl) (by kernel_rfl) (fun _ _ _ h => h) ?_ hHeld ?_; rotate_left; · (simp only [List.getElem_toArray, List.getElem_cons_succ, List.getElem_cons_zero]; refine Or.inl ⟨by rfl, ?_⟩; intro w hSw; (try dsimp only at hSw); obtain ⟨s1, s2, s3⟩ := hSw; go_simp; try with_reducible rfl)
  try simp only [List.getElem_toArray, List.getElem_cons_succ, List.getElem_cons_zero, Act.put, List.setIfInBounds_toArray, List.set_cons_zero, List.set_cons_succ]
  refine wpAnyH_take (i := 8) (v := ?_) rfl (by kernel_rfl) (by kernel_rfl) (by kernel_rfl) (fun _ _ _ h => h) ?_ hHeld ?_; rotate_left; · (simp only [List.getElem_toArray, List.getElem_cons_succ, List.getElem_cons_zero]; refine Or.inl ⟨by rfl, ?_⟩; intro w hSw; (try dsimp only at hSw); obtain ⟨s1, s2, s3⟩ := hSw; go_simp; try with_reducible rfl)
  try simp only [List.getElem_toArray, List.getElem_cons_succ, List.getElem_cons_zero, Act.put, List.setIfInBounds_toArray, List.set_cons_zero, List.set_cons_succ]
  refine wpAnyH_take (i := 9) (v := ?_) rfl (by kernel_rfl) (by kernel_rfl) (by kernel_rfl) (fun _ _ _ h => h) ?_ hHeld ?_; rotate_left; · (simp only [List.getElem_toArray, List.getElem_cons_succ, List.getElem_cons_zero]; refine Or.inl ⟨by rfl, ?_⟩; intro w hSw; (try dsimp only at hSw); obtain ⟨s1, s2, s3⟩ := hSw; go_simp; try with_reducible rfl)
  try simp only [List.getElem_toArray, List.getElem_cons_succ, List.getElem_cons_zero, Act.put, List.setIfInBounds_toArray, List.set_cons_zero, List.set_cons_succ]
  refine wpAnyH_take (i := 10) (v := ?_) rfl (by kernel_rfl) (by kernel_rfl) (by kernel_rfl) (fun _ _ _ h => h) ?_ hHeld ?_; rotate_left; · (simp only [List.getElem_toArray, List.getElem_cons_succ, List.getElem_cons_zero]; refine Or.inl ⟨by rfl, ?_⟩; intro w hSw; (try dsimp only at hSw); obtain ⟨s1, s2, s3⟩ := hSw; go_simp; try with_reducible rfl)
  try simp only [List.getElem_toArray, List.getElem_cons_succ, List.getElem_cons_zero, Act.put, List.setIfInBounds_toArray, List.set_cons_zero, List.set_cons_succ]
  refine wpAnyH_take (i := 11) (v := ?_) rfl (by kernel_rfl) (by kernel_rfl) (by kernel_rfl) (fun _ _ _ h => h) ?_ hHeld ?_; rotate_left; · (simp only [List.getElem_toArray, List.getElem_cons_succ, List.getElem_cons_zero]; refine Or.inl ⟨by rfl, ?_⟩; intro w hSw; (try dsimp only at hSw); obtain ⟨s1, s2, s3⟩ := hSw; go_simp; try with_reducible rfl)
  try simp only [List.getElem_toArray, List.getElem_cons_succ, List.getElem_cons_zero, Act.put, List.setIfInBounds_toArray, List.set_cons_zero, List.set_cons_succ]
  refine wpAnyH_take (i := 12) (v := ?_) rfl (by kernel_rfl) (by kernel_rfl) (by kernel_rfl) (fun _ _ _ h => h) ?_ hHeld ?_; rotate_left; · (simp only [List.getElem_toArray, List.getElem_cons_succ, List.getElem_cons_zero]; refine Or.inl ⟨by rfl, ?_⟩; intro w hSw; (try dsimp only at hSw); obtain ⟨s1, s2, s3⟩ := hSw; go_simp; try with_reducible rfl)
  try simp only [List.getElem_toArray, List.getElem_cons_succ, List.getElem_cons_zero, Act.put, List.setIfInBounds_toArray, List.set_cons_zero, List.set_cons_succ]
  refine wpAnyH_take (i := 13) (v := ?_) rfl (by kernel_rfl) (by kernel_rfl) (by kernel_rfl) (fun _ _ _ h => h) ?_ hHeld ?_; rotate_left; · (simp only [List.getElem_toArray, List.getElem_cons_succ, List.getElem_cons_zero]; refine Or.inl ⟨by rfl, ?_⟩; intro w hSw; (try dsimp only at hSw); obtain ⟨s1, s2, s3⟩ := hSw; go_simp; try with_reducible rfl)
  try simp only [List.getElem_toArray, List.getElem_cons_succ, List.getElem_cons_zero, Act.put, List.setIfInBounds_toArray, List.set_cons_zero, List.set_cons_succ]
  refine wpAnyH_take (i := 14) (v := ?_) rfl (by kernel_rfl) (by kernel_rfl) (by kernel_rfl) (fun _ _ _ h => h) ?_ hHeld ?_; rotate_left; · (simp only [List.getElem_toArray, List.getElem_cons_succ, List.getElem_cons_zero]; refine Or.inl ⟨by rfl, ?_⟩; intro w hSw; (try dsimp only at hSw); obtain ⟨s1, s2, s3⟩ := hSw; go_simp; try with_reducible rfl)
  try simp only [List.getElem_toArray, List.getElem_cons_succ, List.getElem_cons_zero, Act.put, List.setIfInBounds_toArray, List.set_cons_zero, List.set_cons_succ]
  refine wpAnyH_take (i := 15) (v := ?_) rfl (by kernel_rfl) (by kernel_rfl) (by kernel_rfl) (fun _ _ _ h => h) ?_ hHeld ?_; rotate_left; · (simp only [List.getElem_toArray, List.getElem_cons_succ, List.getElem_cons_zero]; refine Or.inl ⟨by rfl, ?_⟩; intro w hSw; (try dsimp only at hSw); obtain ⟨s1, s2, s3⟩ := hSw; go_simp; try with_reducible rfl)
  try simp only [List.getElem_toArray, List.getElem_cons_succ, List.getElem_cons_zero, Act.put, List.setIfInBounds_toArray, List.set_cons_zero, List.set_cons_succ]
  refine wpAnyH_take (i := 16) (v := ?_) rfl (by kernel_rfl) (by kernel_rfl) (by kernel_rfl) (fun _ _ _ h => h) ?_ hHeld ?_; rotate_left; · (simp only [List.getElem_toArray, List.getElem_cons_succ, List.getElem_cons_zero]; refine Or.inl ⟨by rfl, ?_⟩; intro w hSw; (try dsimp only at hSw); obtain ⟨s1, s2, s3⟩ := hSw; go_simp; try with_reducible rfl)
  try simp only [List.getElem_toArray, List.getElem_cons_succ, List.getElem_cons_zero, Act.put, List.setIfInBounds_toArray, List.set_cons_zero, List.set_cons_succ]
  refine wpAnyH_take (i := 17) (v := ?_) rfl (by kernel_rfl) (by kernel_rfl) (by kernel_rfl) (fun _ _ _ h => h) ?_ hHeld ?_; rotate_left; · (simp only [List.getElem_toArray, List.getElem_cons_succ, List.getElem_cons_zero]; refine Or.inl ⟨by rfl, ?_⟩; intro w hSw; (try dsimp only at hSw); obtain ⟨s1, s2, s3⟩ := hSw; go_simp; try with_reducible rfl)
  try simp only [List.getElem_toArray, List.getElem_cons_succ, List.getElem_cons_zero, Act.put, List.setIfInBounds_toArray, List.set_cons_zero, List.set_cons_succ]
  refine wpAnyH_take (i := 18) (v := undef) rfl (by kernel_rfl) (by kernel_rfl) (by kernel_rfl) (fun _ _ _ h => h) ?_ hHeld ?_; · (simp only [List.getElem_toArray, List.getElem_cons_succ, List.getElem_cons_zero]; exact Or.inr ⟨by rfl, rfl⟩)
  try simp only [List.getElem_toArray, List.getElem_cons_succ, List.getElem_cons_zero, Act.put, List.setIfInBounds_toArray, List.set_cons_zero, List.set_cons_succ]
  refine wpAnyH_take (i := 19) (v := undef) rfl (by kernel_rfl) (by kernel_rfl) (by kernel_rfl) (fun _ _ _ h => h) ?_ hHeld ?_; · (simp only [List.getElem_toArray, List.getElem_cons_succ, List.getElem_cons_zero]; exact Or.inr ⟨by rfl, rfl⟩)
  try simp only [List.getElem_toArray, List.getElem_cons_succ, List.getElem_cons_zero, Act.put, List.setIfInBounds_toArray, List.set_cons_zero, List.set_cons_succ]
  refine wpAnyH_take (i := 20) (v := undef) rfl (by kernel_rfl) (by kernel_rfl) (by kernel_rfl) (fun _ _ _ h => h) ?_ hHeld ?_; · (simp only [List.getElem_toArray, List.getElem_cons_succ, List.getElem_cons_zero]; exact Or.inr ⟨by rfl, rfl⟩)
  try simp only [List.getElem_toArray, List.getElem_cons_succ, List.getElem_cons_zero, Act.put, List.setIfInBounds_toArray, List.set_cons_zero, List.set_cons_succ]
  refine wpAnyH_take (i := 21) (v := undef) rfl (by kernel_rfl) (by kernel_rfl) (by kernel_rfl) (fun _ _ _ h => h) ?_ hHeld ?_; · (simp only [List.getElem_toArray, List.getElem_cons_succ, List.getElem_cons_zero]; exact Or.inr ⟨by rfl, rfl⟩)
  try simp only [List.getElem_toArray, List.getElem_cons_succ, List.getElem_cons_zero, Act.put, List.setIfInBounds_toArray, List.set_cons_zero, List.set_cons_succ]
  refine wpAnyH_take (i := 22) (v := undef) rfl (by kernel_rfl) (by kernel_rfl) (by kernel_rfl) (fun _ _ _ h => h) ?_ hHeld ?_; · (simp only [List.getElem_toArray, List.getElem_cons_succ, List.getElem_cons_zero]; exact Or.inr ⟨by rfl, rfl⟩)
  try simp only [List.getElem_toArray, List.getElem_cons_succ, List.getElem_cons_zero, Act.put, List.setIfInBounds_toArray, List.set_cons_zero, List.set_cons_succ]
  refine wpAnyH_take (i := 23) (v := undef) rfl (by kernel_rfl) (by kernel_rfl) (by kernel_rfl) (fun _ _ _ h => h) ?_ hHeld ?_; · (simp only [List.getElem_toArray, List.getElem_cons_succ, List.getElem_cons_zero]; exact Or.inr ⟨by rfl, rfl⟩)
  try simp only [List.getElem_toArray, List.getElem_cons_succ, List.getElem_cons_zero, Act.put, List.setIfInBounds_toArray, List.set_cons_zero, List.set_cons_succ]
  refine wpAnyH_take (i := 24) (v := undef) rfl (by kernel_rfl) (by kernel_rfl) (by kernel_rfl) (fun _ _ _ h => h) ?_ hHeld ?_; · (simp only [List.getElem_toArray, List.getElem_cons_succ, List.getElem_cons_zero]; exact Or.inr ⟨by rfl, rfl⟩)
  try simp only [List.getElem_toArray, List.getElem_cons_succ, List.getElem_cons_zero, Act.put, List.setIfInBounds_toArray, List.set_cons_zero, List.set_cons_succ]
  refine wpAnyH_take (i := 25) (v := undef) rfl (by kernel_rfl) (by kernel_rfl) (by kernel_rfl) (fun _ _ _ h => h) ?_ hHeld ?_; · (simp only [List.getElem_toArray, List.getElem_cons_succ, List.getElem_cons_zero]; exact Or.inr ⟨by rfl, rfl⟩)
  try simp only [List.getElem_toArray, List.getElem_cons_succ, List.getElem_cons_zero, Act.put, List.setIfInBounds_toArray, List.set_cons_zero, List.set_cons_succ]
  refine wpAnyH_take (i := 26) (v := undef) rfl (by kernel_rfl) (by kernel_rfl) (by kernel_rfl) (fun _ _ _ h => h) ?_ hHeld ?_; · (simp only [List.getElem_toArray, List.getElem_cons_succ, List.getElem_cons_zero]; exact Or.inr ⟨by rfl, rfl⟩)
  try simp only [List.getElem_toArray, List.getElem_cons_succ, List.getElem_cons_zero, Act.put, List.setIfInBounds_toArray, List.set_cons_zero, List.set_cons_succ]
  refine wpAnyH_take (i := 27) (v := undef) rfl (by kernel_rfl) (by kernel_rfl) (by kernel_rfl) (fun _ _ _ h => h) ?_ hHeld ?_; · (simp only [List.getElem_toArray, List.getElem_cons_succ, List.getElem_cons_zero]; exact Or.inr ⟨by rfl, rfl⟩)
  try simp only [List.getElem_toArray, List.getElem_cons_succ, List.getElem_cons_zero, Act.put, List.setIfInBounds_toArray, List.set_cons_zero, List.set_cons_succ]
  refine wpAnyH_take (i := 28) (v := ?_) rfl (by kernel_rfl) (by kernel_rfl) (by kernel_rfl) (fun _ _ _ h => h) ?_ hHeld ?_; rotate_left; · (simp only [List.getElem_toArray, List.getElem_cons_succ, List.getElem_cons_zero]; refine Or.inl ⟨by rfl, ?_⟩; intro w hSw; (try dsimp only at hSw); obtain ⟨s1, s2, s3⟩ := hSw; go_simp; try with_reducible rfl)
  try simp only [List.getElem_toArray, List.getElem_cons_succ, List.getElem_cons_zero, Act.put, List.setIfInBounds_toArray, List.set_cons_zero, List.set_cons_succ]
  refine wpAnyH_take (i := 29) (v := ?_) rfl (by kernel_rfl) (by kernel_rfl) (by kernel_rfl) (fun _ _ _ h => h) ?_ hHeld ?_; rotate_left; · (simp only [List.getElem_toArray, List.getElem_cons_succ, List.getElem_cons_zero]; refine Or.inl ⟨by rfl, ?_⟩; intro w hSw; (try dsimp only at hSw); obtain ⟨s1, s2, s3⟩ := hSw; go_simp; try with_reducible rfl)
  try simp only [List.getElem_toArray, List.getElem_cons_succ, List.getElem_cons_zero, Act.put, List.setIfInBounds_toArray, List.set_cons_zero, List.set_cons_succ]
  refine wpAnyH_take (i := 30) (v := undef) rfl (by kernel_rfl) (by kernel_rfl) (by kernel_rfl) (fun _ _ _ h => h) ?_ hHeld ?_; · (simp only [List.getElem_toArray, List.getElem_cons_succ, List.getElem_cons_zero]; exact Or.inr ⟨by rfl, rfl⟩)
  try simp only [List.getElem_toArray, List.getElem_cons_succ, List.getElem_cons_zero, Act.put, List.setIfInBounds_toArray, List.set_cons_zero, List.set_cons_succ]
  refine wpAnyH_take (i := 31) (v := undef) rfl (by kernel_rfl) (by kernel_rfl) (by kernel_rfl) (fun _ _ _ h => h) ?_ hHeld ?_; · (simp only [List.getElem_toArray, List.getElem_cons_succ, List.getElem_cons_zero]; exact Or.inr ⟨by rfl, rfl⟩)
  try simp only [List.getElem_toArray, List.getElem_cons_succ, List.getElem_cons_zero, Act.put, List.setIfInBounds_toArray, List.set_cons_zero, List.set_cons_succ]
  refine wpAnyH_take (i := 32) (v := undef) rfl (by kernel_rfl) (by kernel_rfl) (by kernel_rfl) (fun _ _ _ h => h) ?_ hHeld ?_; · (simp only [List.getElem_toArray, List.getElem_cons_succ, List.getElem_cons_zero]; exact Or.inr ⟨by rfl, rfl⟩)
  try simp only [List.getElem_toArray, List.getElem_cons_succ, List.getElem_cons_zero, Act.put, List.setIfInBounds_toArray, List.set_cons_zero, List.set_cons_succ]
  refine wpAnyH_take (i := 33) (v := undef) rfl (by kernel_rfl) (by kernel_rfl) (by kernel_rfl) (fun _ _ _ h => h) ?_ hHeld ?_; · (simp only [List.getElem_toArray, List.getElem_cons_succ, List.getElem_cons_zero]; exact Or.inr ⟨by rfl, rfl⟩)
  try simp only [List.getElem_toArray, List.getElem_cons_succ, List.getElem_cons_zero, Act.put, List.setIfInBounds_toArray, List.set_cons_zero, List.set_cons_succ]
  refine wpAnyH_take (i := 34) (v := undef) rfl (by kernel_rfl) (by kernel_rfl) (by kernel_rfl) (fun _ _ _ h => h) ?_ hHeld ?_; · (simp only [List.getElem_toArray, List.getElem_cons_succ, List.getElem_cons_zero]; exact Or.inr ⟨by rfl, rfl⟩)
  try simp only [List.getElem_toArray, List.getElem_cons_succ, List.getElem_cons_zero, Act.put, List.setIfInBounds_toArray, List.set_cons_zero, List.set_cons_succ]
  refine wpAnyH_take (i := 35) (v := undef) rfl (by kernel_rfl) (by kernel_rfl) (by kernel_rfl) (fun _ _ _ h => h) ?_ hHeld ?_; · (simp only [List.getElem_toArray, List.getElem_cons_succ, List.getElem_cons_zero]; exact Or.inr ⟨by rfl, rfl⟩)
  try simp only [List.getElem_toArray, List.getElem_cons_succ, List.getElem_cons_zero, Act.put, List.setIfInBounds_toArray, List.set_cons_zero, List.set_cons_succ]
  refine wpAnyH_take (i := 36) (v := undef) rfl (by kernel_rfl) (by kernel_rfl) (by kernel_rfl) (fun _ _ _ h => h) ?_ hHeld ?_; · (simp only [List.getElem_toArray, List.getElem_cons_succ, List.getElem_cons_zero]; exact Or.inr ⟨by rfl, rfl⟩)
  try simp only [List.getElem_toArray, List.getElem_cons_succ, List.getElem_cons_zero, Act.put, List.setIfInBounds_toArray, List.set_cons_zero, List.set_cons_succ]
  refine wpAnyH_take (i := 37) (v := undef) rfl (by kernel_rfl) (by kernel_rfl) (by kernel_rfl) (fun _ _ _ h => h) ?_ hHeld ?_; · (simp only [List.getElem_toArray, List.getElem_cons_succ, List.getElem_cons_zero]; exact Or.inr ⟨by rfl, rfl⟩)
  try simp only [List.getElem_toArray, List.getElem_cons_succ, List.getElem_cons_zero, Act.put, List.setIfInBounds_toArray, List.set_cons_zero, List.set_cons_succ]
  refine wpAnyH_take (i := 38) (v := undef) rfl (by kernel_rfl) (by kernel_rfl) (by kernel_rfl) (fun _ _ _ h => h) ?_ hHeld ?_; · (simp only [List.getElem_toArray, List.getElem_cons_succ, List.getElem_cons_zero]; exact Or.inr ⟨by rfl, rfl⟩)
  try simp only [List.getElem_toArray, List.getElem_cons_succ, List.getElem_cons_zero, Act.put, List.setIfInBounds_toArray, List.set_cons_zero, List.set_cons_succ]
  refine wpAnyH_take (i := 39) (v := undef) rfl (by kernel_rfl) (by kernel_rfl) (by kernel_rfl) (fun _ _ _ h => h) ?_ hHeld ?_; · (simp only [List.getElem_toArray, List.getElem_cons_succ, List.getElem_cons_zero]; exact Or.inr ⟨by rfl, rfl⟩)
  try simp only [List.getElem_toArray, List.getElem_cons_succ, List.getElem_cons_zero, Act.put, List.setIfInBounds_toArray, List.set_cons_zero, List.set_cons_succ]
  refine wpAnyH_take (i := 40) (v := ?_) rfl (by kernel_rfl) (by kernel_rfl) (by kernel_rfl) (fun _ _ _ h => h) ?_ hHeld ?_; rotate_left; · (simp only [List.getElem_toArray, List.getElem_cons_succ, List.getElem_cons_zero]; refine Or.inl ⟨by rfl, ?_⟩; intro w hSw; (try dsimp only at hSw); obtain ⟨s1, s2, s3⟩ := hSw; go_simp; try with_reducible rfl)
  try simp only [List.getElem_toArray, List.getElem_cons_succ, List.getElem_cons_zero, Act.put, List.setIfInBounds_toArray, List.set_cons_zero, List.set_cons_succ]
  refine wpAnyH_done (by kernel_rfl) ?_ _
  have HP4 := Lib.hid (HP3.out.below ((Below.refl _ w3).drew))
  have HB4 := Lib.hid (HB3.out.trans ((Below.refl _ w3).drew.mono HP3.out.hB.2))
  clear hHeld g0 g1 g4
  go_wp2
  exact bodyPost_ret (results_tmp rfl _ _ _) rfl ⟨rfl, HP4.out, HB4.out⟩
set_option maxHeartbeats 4000000 in
set_option maxRecDepth 20000 in
theorem wholeRe_any (B pb : Nat) (c q : UInt8) (ts : List Nd) (s : ByteArray) (w : World) (hs : s = ⟨#[c, q]⟩)
    (kr : Calls Try.prog 123 #[.pointer (some ⟨pb, 0, none⟩)] w fun e w' => e = .returned (.int .i64 1) ∧ Ps B pb s 2 ts w' ∧ Below B w w') :
    Calls Try.prog 97 #[.pointer (some ⟨pb, 0, none⟩)] w fun e w' => e = .returned (.int .i64 1) ∧ Ps B pb s 2 ts w' ∧ Below B w w' := by
  have hl : s.data.toList = [c, q] := by rw [hs]
  have k124 := is_no B pb 2 s ts 124 124 rfl (by rw [hl]; simp)
  clear hs hl
  go_enter Try.func97, Try.ntmps97
  go_wp2_with (first
    | (go_at_call 123; refine kr.mono ?_; rintro e w3 ⟨rfl, hp3, hb3⟩
       have HP3 := Lib.hid hp3
       have HB3 := Lib.hid hb3
       clear kr hp3 hb3)
    | fail)
  refine wp_loop_rounds 1 ?_
  rw [rounds_succ]
  go_wp2_with (first
    | (go_at_call 124; refine (k124 _ HP3.out).mono ?_; rintro e w4 ⟨rfl, hb4⟩)
    | fail)
  exact bodyPost_ret (results_tmp rfl _ _ _) rfl ⟨rfl, HP3.out.below hb4, HB3.out.trans (hb4.mono HP3.out.hB.2)⟩
set_option maxHeartbeats 4000000 in
set_option maxRecDepth 20000 in
theorem readRe_two (c q : UInt8) (k : Int) (s : ByteArray) (w : World) (hs : s = ⟨#[c, q]⟩) (hx : c ≠ 40 ∧ c ≠ 46 ∧ c ≠ 94 ∧ c ≠ 36 ∧ c ≠ 91) (hy : (c.toNat : Int) ≠ 42 ∧ (c.toNat : Int) ≠ 43 ∧ (c.toNat : Int) ≠ 63 ∧ (c.toNat : Int) ≠ 41 ∧ (c.toNat : Int) ≠ 124 ∧ (c.toNat : Int) ≠ 123 ∧ (c.toNat : Int) ≠ 125 ∧ (c.toNat : Int) ≠ 47)
    (hsig : signD [c, q] = some ((c.toNat : Int), 1)) (hq : (q = 42 ∧ k = 4) ∨ (q = 43 ∧ k = 5)) :
    Calls Try.prog 73 #[.string s] w fun e w' => ∃ v, e = .returned (.tuple #[v, .int .i64 0]) ∧ w'.ownsRow w.heap.size 56 7 v 2 (ndC [⟨1, k4 (oneK c.toNat), 0, 0⟩, ⟨k, k0, 0, 0⟩]) ∧ Below w.heap.size w w' := by
  have hz : s.size = 2 := by rw [hs]; rfl
  have h124 : c ≠ 124 := fun e => by rw [e] at hy; exact hy.2.2.2.2.1 rfl
  have h41 : c ≠ 41 := fun e => by rw [e] at hy; exact hy.2.2.2.1 rfl
  have hP : ∀ W, W = w.alloc (.cells #[.string s, .int .i64 0, .int .i64 0, .slice none 0 0, .int .i64 0] 129) → Ps w.heap.size w.heap.size s 0 [] W := fun W hW => by
    rw [hW]
    exact ⟨⟨_, heap_alloc_new w _, World.ownsRow_nil _ _ _ _⟩, ⟨Nat.le_refl _, by simp⟩, ⟨by decide, by omega⟩⟩
  have kw := fun W h => wholeRe_any w.heap.size w.heap.size c q _ s W hs (row_any w.heap.size w.heap.size c q k (k4 (oneK c.toNat)) s W hs h h124 h41 (fun w1 h1 => piece_any w.heap.size w.heap.size c q k (k4 (oneK c.toNat)) s w1 hs hq (atom_any w.heap.size w.heap.size c q s w1 hs h1 hx hy hsig)))
  have hb0 : Below w.heap.size w (w.alloc (.cells #[.string s, .int .i64 0, .int .i64 0, .slice none 0 0, .int .i64 0] 129)) := (Below.refl _ w).alloc (Nat.le_refl _) _
  have HB0 := Lib.hid hb0
  have HP0 := Lib.hid (hP _ rfl)
  clear hP hb0 hs hx hy hsig hq h124 h41
  go_enter Try.func73, Try.ntmps73
  go_wp2_with (first
    | (go_at_call 97; refine (kw _ HP0.out).mono ?_; rintro e w3 ⟨rfl, hp3, hb3⟩
       obtain ⟨v, hv, hown⟩ := hp3.blk
       obtain ⟨c0, c1, c2, c3, c4⟩ := five_cells hv
       have H3 := Lib.hid (And.intro hown (HB0.out.trans hb3))
       clear kw hp3 hb3 hv hown)
    | fail)
  exact bodyPost_ret (results_tmp2 rfl _ _ _) rfl ⟨_, rfl, H3.out.1, H3.out.2⟩
end Go.Proofs.Ytgffmbdbjbhocaa
namespace Go.Proofs.Ytgffmbdbjbhocaa
open Go.RowKit Go.Lib

theorem run_eql_twoM (a b c d : Int) (w : World) : (binOp .eql 41 (.agg #[.int .i64 a, .int .i64 b]) (.agg #[.int .i64 c, .int .i64 d])).run Try.prog w = .ok (.bool (a == c && b == d)) w := by
  rw [run_eql_struct, eql_two]
  rfl
theorem owns_lies {w : World} {B n : Nat} {v : Value} {ts : List Nd} (h : w.ownsRow B 56 7 v n (ndC ts)) (hn : n = ts.length) (hl : ts.length ≤ 2000) : Lies v ts w := by
  subst hn
  rcases h.2 with ⟨hv, h0⟩ | ⟨g, cap, cur, hv, _, hg, _, _, hz, htk⟩
  · have e : ts = [] := List.eq_nil_of_length_eq_zero h0
    subst e
    exact ⟨none, 0, hv, by simp, fun j n hj => by simp at hj⟩
  · refine ⟨some ⟨g, 0, none⟩, cap, hv, by omega, fun j n hj => ⟨g, 0, rfl, block_lt hg, ?_⟩⟩
    have hjl : j < ts.length := by
      by_cases h : j < ts.length
      · exact h
      · rw [List.getElem?_eq_none (by omega)] at hj; cases hj
    have key : ∀ i u, i < 7 → n.cells[i]? = some u → w.cell? ⟨g, 0 + j * 7 + i, none⟩ = some u := fun i u hi hu => by
      have e := ndC_get ts j i n hj hi
      rw [hu, ← htk, List.getElem?_take_of_lt (by omega)] at e
      rw [cell_of_heap hg, Nat.zero_add]
      simpa using e
    exact ⟨by simpa using key 0 _ (by omega) rfl, key 1 _ (by omega) rfl, key 2 _ (by omega) rfl, key 3 _ (by omega) rfl, key 4 _ (by omega) rfl, key 5 _ (by omega) rfl, key 6 _ (by omega) rfl⟩
theorem owns_cell2 {w : World} {B L cp g k : Nat} {e : TypeId} {xs : List Value} (h : w.ownsRow B e k (.slice (some ⟨g, 0, none⟩) L cp) L xs) {j : Nat} {v : Value} (hj : xs[j]? = some v) : w.cell? ⟨g, j, none⟩ = some v := by
  obtain ⟨h1, h2⟩ := h
  rcases h2 with ⟨hv, _⟩ | ⟨g', cap, cur, hv, hB, hg, hc, hm, hs, htk⟩
  · cases hv
  · cases hv
    have hjl : j < L * k := by
      by_cases hl : j < xs.length
      · omega
      · rw [List.getElem?_eq_none (by omega)] at hj; cases hj
    rw [cell_of_heap hg]
    rw [← htk, List.getElem?_take_of_lt (by omega)] at hj
    simpa using hj
set_option maxHeartbeats 4000000 in
set_option maxRecDepth 20000 in
theorem shownM_any (w : World) : Calls Try.prog 26 #[] w fun e w' => e = .returned (.bool true) ∧ Below w.heap.size w w' := by
  have kA := fun w => readRe_two 97 43 5 ⟨#[97, 43]⟩ w rfl (by decide) (by decide) rfl (.inr ⟨rfl, rfl⟩)
  have kB := fun w => readRe_two 98 42 4 ⟨#[98, 42]⟩ w rfl (by decide) (by decide) rfl (.inl ⟨rfl, rfl⟩)
  have kS : ∀ (v : Value) (w : World), Lies v (tA.row 0) w → Calls Try.prog 34 #[v, .string ⟨#[120, 97, 97, 121]⟩, .int .i64 0] w fun e w' => e = .returned (.tuple #[.int .i64 1, .int .i64 3, .bool true]) ∧ Below w.heap.size w w' := fun v w h => by
    have hh := span_first v 0 tA (tA.row 0) ⟨#[120, 97, 97, 121]⟩ w rfl ⟨.inr (.inl rfl), trivial⟩ (by decide) (by decide) h
    have e : spansL (⟨#[120, 97, 97, 121]⟩ : ByteArray).data.toList tA (0 : Int).toNat = [(1, 3)] := spans_A
    rw [e] at hh
    exact hh
  have kP : ∀ (v : Value) (w : World), Lies v (tB.row 0) w → Calls Try.prog 29 #[v, .string ⟨#[97, 98, 98]⟩] w fun e w' => ∃ v', e = .returned v' ∧ w'.ownsRow w.heap.size 41 2 v' 2 [.int .i64 0, .int .i64 0, .int .i64 1, .int .i64 3] ∧ Below w.heap.size w w' := fun v w h => by
    have hh := spans_any v tB (tB.row 0) ⟨#[97, 98, 98]⟩ w rfl ⟨.inl rfl, trivial⟩ (by decide) (by decide) h
    have e : spansL (⟨#[97, 98, 98]⟩ : ByteArray).data.toList tB 0 = [(0, 0), (1, 3)] := spans_B
    rw [e] at hh
    exact hh
  have e1 := run_eql_twoM 0 0 0 0
  have e2 := run_eql_twoM 1 3 1 3
  go_enter Try.func26, Try.ntmps26
  go_wp2_with (first
    | (go_at_call 73; first
        | (with_reducible refine (kA _).mono ?_; rintro e w1 ⟨v1, rfl, ho1, hb1⟩; have HA := Lib.hid (And.intro (owns_lies (ts := tA.row 0) ho1 rfl (by decide)) hb1); clear kA ho1 hb1)
        | (with_reducible refine (kB _).mono ?_; rintro e w2 ⟨v2, rfl, ho2, hb2⟩; have HB := Lib.hid (And.intro (owns_lies (ts := tB.row 0) ho2 rfl (by decide)) hb2); clear kB ho2 hb2))
    | (go_at_call 34; refine (kS _ _ (HA.out.1.below HB.out.2)).mono ?_; rintro e w3 ⟨rfl, hb3⟩; have H3 := Lib.hid hb3; clear kS hb3)
    | (go_at_call 29; refine (kP _ _ (HB.out.1.below H3.out)).mono ?_; rintro e w4 ⟨v4, rfl, ho4, hb4⟩
       obtain ⟨g4, cap4, rfl⟩ := owned_slice ho4 (by omega)
       have q0 := owns_cell2 ho4 (j := 0) rfl
       have q1 := owns_cell2 ho4 (j := 1) rfl
       have q2 := owns_cell2 ho4 (j := 2) rfl
       have q3 := owns_cell2 ho4 (j := 3) rfl
       have H4 := Lib.hid hb4
       clear kP ho4 hb4)
    | fail)
  have z1 := HA.out.2.size
  have z2 := HB.out.2.size
  have z3 := H3.out.size
  exact bodyPost_ret (results_tmp rfl _ _ _) rfl ⟨rfl, HA.out.2.trans ((HB.out.2.mono z1).trans ((H3.out.mono (by omega)).trans (H4.out.mono (by omega))))⟩
end Go.Proofs.Ytgffmbdbjbhocaa
namespace Go.Proofs.Ytgffmbdbjbhocaa
open Go.RowKit Go.Lib

set_option maxHeartbeats 1000000 in
set_option maxRecDepth 20000 in
theorem few06_walk (ao : Option Addr) (N cap : Nat) (s : ByteArray) (q : Bool) (w : World) (hN : N ≤ 60) (hs : s.size ≤ 30) (k : ∀ w', w = w' → Calls Try.prog 17 #[.slice ao N cap] w' fun e w'' => e = .returned (.bool q) ∧ Below w'.heap.size w' w'') :
    Calls Try.prog 27 #[.slice ao N cap, .string s] w fun e w' => e = .returned (.bool q) ∧ Below w.heap.size w w' := by
  have k := k w rfl
  have h1 : decide ((N : Int) ≤ 60) = true := by simp; omega
  have h2 : decide ((s.size : Int) ≤ 30) = true := by simp; omega
  go_enter Try.func27, Try.ntmps27
  go_wp2_with (first
    | (go_at_call 17; refine k.mono ?_; rintro e w1 ⟨rfl, hb1⟩)
    | fail)
  exact bodyPost_ret (results_tmp rfl _ _ _) rfl ⟨by cases q <;> rfl, hb1⟩
set_option maxHeartbeats 1000000 in
set_option maxRecDepth 20000 in
theorem few06_no (ao : Option Addr) (N cap : Nat) (s : ByteArray) (w : World) (h : ¬ N ≤ 60 ∨ (N ≤ 60 ∧ ¬ s.size ≤ 30)) :
    Calls Try.prog 27 #[.slice ao N cap, .string s] w fun e w' => e = .returned (.bool false) ∧ Below w.heap.size w w' := by
  rcases h with h | ⟨h, h2⟩
  · have h1 : decide ((N : Int) ≤ 60) = false := by simp; omega
    go_enter Try.func27, Try.ntmps27
    go_wp2
    exact bodyPost_ret (results_tmp rfl _ _ _) rfl ⟨rfl, Below.refl _ _⟩
  · have h1 : decide ((N : Int) ≤ 60) = true := by simp; omega
    have h3 : decide ((s.size : Int) ≤ 30) = false := by simp; omega
    go_enter Try.func27, Try.ntmps27
    go_wp2
    exact bodyPost_ret (results_tmp rfl _ _ _) rfl ⟨rfl, Below.refl _ _⟩
/-- Whether an argument is right, and short. -/
theorem few06_any (ao : Option Addr) (cap : Nat) (ts : List Nd) (s : ByteArray) (w0 : World) (hL : ts.length ≤ 140737488355328 → Lies (.slice ao ts.length cap) ts w0) : ∃ q : Bool, (q = true → ts.length ≤ 60 ∧ s.size ≤ 30 ∧ Lies (.slice ao ts.length cap) ts w0 ∧ ∃ T : Tr, T.ok ∧ ts = T.row 0) ∧
    ∀ w, Below w0.heap.size w0 w → Calls Try.prog 27 #[.slice ao ts.length cap, .string s] w fun e w' => e = .returned (.bool q) ∧ Below w.heap.size w w' := by
  by_cases hN : ts.length ≤ 60
  · by_cases hs : s.size ≤ 30
    · have hL := hL (by omega)
      obtain ⟨q, h1, h2⟩ := refRight_any _ ts w0 (by omega) hL
      exact ⟨q, fun hq => ⟨hN, hs, hL, (h1 hq).imp fun T h => ⟨h.1, h.2.1⟩⟩, fun w hb => few06_walk ao _ cap s q w hN hs fun w' e => by subst e; exact h2 w (hL.below hb)⟩
    · exact ⟨false, fun h => (by cases h), fun w _ => few06_no ao _ cap s w (.inr ⟨hN, hs⟩)⟩
  · exact ⟨false, fun h => (by cases h), fun w _ => few06_no ao _ cap s w (.inl hN)⟩
theorem own_zeroB {w : World} {B k : Nat} {e : TypeId} {v : Value} {xs : List Value} {n : Nat} (h : w.ownsRow B e k v n xs) : ∃ ao cap, v = .slice ao n cap := by
  rcases h.2 with ⟨hv, h0⟩ | ⟨g, cap, cur, hv, _⟩
  · exact ⟨_, _, by rw [hv, h0]⟩
  · exact ⟨_, _, hv⟩
end Go.Proofs.Ytgffmbdbjbhocaa
namespace Go.Proofs.Ytgffmbdbjbhocaa
open Go.RowKit Go.Lib

theorem mem_ends {s : List UInt8} {T : Tr} {a b : Nat} (ha : a ≤ s.length) : b ∈ endsL s T (a : Int) ↔ b ≤ s.length ∧ St s T a b := by
  unfold endsL
  rw [if_neg (by omega), List.mem_filter, List.mem_range]
  refine (and_congr Iff.rfl (@decide_eq_true_iff _ (Classical.propDecidable _))).trans ?_
  show b < s.length + 1 ∧ St s T a b ↔ _
  rw [Nat.lt_succ_iff]
theorem ends_le {s : List UInt8} {T : Tr} {a : Nat} (ha : a ≤ s.length) {b : Nat} (h : b ∈ endsL s T (a : Int)) : b ≤ s.length := ((mem_ends ha).1 h).1
theorem star_from {s : List UInt8} {T : Tr} {a : Nat} (ha : a ≤ s.length) : a ∈ endsL s (.rep 4 T) (a : Int) := (mem_ends ha).2 ⟨ha, Many.refl a⟩
theorem star_on {s : List UInt8} {T : Tr} {a b c : Nat} (ha : a ≤ s.length) (hb : b ∈ endsL s (.rep 4 T) (a : Int)) (hc : c ∈ endsL s T (b : Int)) : c ∈ endsL s (.rep 4 T) (a : Int) := by
  obtain ⟨h1, h2⟩ := (mem_ends ha).1 hb
  obtain ⟨h3, h4⟩ := (mem_ends h1).1 hc
  have h5 : Many (St s T) a b := h2
  exact (mem_ends ha).2 ⟨h3, h5.tail h4⟩
theorem dots_whole (s : List UInt8) : (endsL s (.rep 4 (.set (k4 (notK zeroK)))) ((0 : Nat) : Int)).contains s.length = true := by
  rw [List.contains_iff_mem]
  refine (mem_ends (Nat.zero_le _)).2 ⟨Nat.le_refl _, ?_⟩
  show Many (St s (.set (k4 (notK zeroK)))) 0 s.length
  have key : ∀ n, n ≤ s.length → Many (St s (.set (k4 (notK zeroK)))) 0 n := by
    intro n
    induction n with
    | zero => intro _; exact Many.refl 0
    | succ n ih =>
      intro hn
      refine (ih (by omega)).tail ⟨rfl, ?_⟩
      unfold inSet
      rw [List.getElem?_eq_getElem (show n < s.length by omega)]
      dsimp only
      rw [has_k4 _ (UInt8.toNat_lt _), has_not]
      simp [has, zeroK]
  exact key _ (Nat.le_refl _)
/-- A row of marks: some are made. -/
def BoS (E : List Nat) (n hb : Nat) (W : World) : Prop := ∃ cs : Array Value, W.heap[hb]? = some (.cells cs 4 (0, 0)) ∧ cs.size = n ∧ ∀ e ∈ E, cs[e]? = some (.bool true)
theorem BoS.start (n : Nat) (W : World) : BoS [] n W.heap.size (W.alloc (.cells (madeCells #[.bool false] n) 4)) := ⟨_, heap_alloc_new W _, size_madeCells _ _, fun e h => by simp at h⟩
theorem BoS.below {E : List Nat} {n g : Nat} {W W' : World} (h : BoS E n g W) (hb : Below W.heap.size W W') : BoS E n g W' := by
  obtain ⟨cs, h1, h2⟩ := h
  exact ⟨cs, (hb.block _ (block_lt h1)).trans h1, h2⟩
theorem BoS.at {E : List Nat} {n hb : Nat} {W : World} (h : BoS E n hb W) {e : Nat} (he : e ∈ E) : W.cell? ⟨hb, e, none⟩ = some (.bool true) := by
  obtain ⟨cs, h1, h2, h3⟩ := h
  rw [cell_of_heap h1]
  exact h3 e he
theorem BoS.any {E : List Nat} {n hb : Nat} {W : World} (h : BoS E n hb W) {e : Nat} (he : e < n) : (∃ u, W.cell? ⟨hb, e, none⟩ = some u) ∧ W.frozen? ⟨hb, e, none⟩ = false := by
  obtain ⟨cs, h1, h2, h3⟩ := h
  refine ⟨⟨cs[e]'(by omega), ?_⟩, frozen_of_heap h1 e⟩
  rw [cell_of_heap h1]
  simp [h2, he]
theorem BoS.put {E : List Nat} {n hb : Nat} {W : World} (h : BoS E n hb W) {e : Nat} (he : e < n) : BoS (E ++ [e]) n hb (W.setCell ⟨hb, e, none⟩ (.bool true)) := by
  obtain ⟨cs, h1, h2, h3⟩ := h
  refine ⟨_, Go.Lib.heap_setCell_same (i := e) h1 _, by simp [h2], fun x hx => ?_⟩
  by_cases c : x = e
  · subst c
    simp [h2, he]
  · rw [Array.getElem?_setIfInBounds_ne (by omega)]
    rcases List.mem_append.1 hx with hx | hx
    · exact h3 x hx
    · exact absurd (by simpa using hx) c
theorem lies_twoS (K : K4) (w : World) : Lies (.slice (some ⟨w.heap.size, 0, none⟩) 2 2) [⟨1, K, 0, 0⟩, ⟨4, k0, 0, 0⟩] (w.alloc (.cells #[.int .i64 1, .int .u64 (K.a.toNat : Int), .int .u64 (K.b.toNat : Int), .int .u64 (K.c.toNat : Int), .int .u64 (K.d.toNat : Int), .int .i64 0, .int .i64 0,
    .int .i64 4, .int .u64 0, .int .u64 0, .int .u64 0, .int .u64 0, .int .i64 0, .int .i64 0] 56)) := by
  refine ⟨_, _, rfl, by simp, fun j n hj => ⟨w.heap.size, 0, rfl, by simp, ?_⟩⟩
  have h := heap_alloc_new w (.cells #[.int .i64 1, .int .u64 (K.a.toNat : Int), .int .u64 (K.b.toNat : Int), .int .u64 (K.c.toNat : Int), .int .u64 (K.d.toNat : Int), .int .i64 0, .int .i64 0,
    .int .i64 4, .int .u64 0, .int .u64 0, .int .u64 0, .int .u64 0, .int .i64 0, .int .i64 0] 56)
  match j, hj with
  | 0, hj =>
    simp at hj
    subst hj
    exact ⟨cell_of_row _ _ 0 _ _ _ h, cell_of_row _ _ 1 _ _ _ h, cell_of_row _ _ 2 _ _ _ h, cell_of_row _ _ 3 _ _ _ h, cell_of_row _ _ 4 _ _ _ h, cell_of_row _ _ 5 _ _ _ h, cell_of_row _ _ 6 _ _ _ h⟩
  | 1, hj =>
    simp at hj
    subst hj
    exact ⟨cell_of_row _ _ 7 _ _ _ h, cell_of_row _ _ 8 _ _ _ h, cell_of_row _ _ 9 _ _ _ h, cell_of_row _ _ 10 _ _ _ h, cell_of_row _ _ 11 _ _ _ h, cell_of_row _ _ 12 _ _ _ h, cell_of_row _ _ 13 _ _ _ h⟩
end Go.Proofs.Ytgffmbdbjbhocaa
namespace Go.Proofs.Ytgffmbdbjbhocaa
open Go.RowKit Go.Lib

/-- The cells of a row that lies, from its beginning. -/
theorem lies_cells {b o N cap : Nat} {ts : List Nd} {w : World} (h : Lies (.slice (some ⟨b, o, none⟩) N cap) ts w) : ∀ j u, (ndC ts)[j]? = some u → w.cell? ((⟨b, o, none⟩ : Addr).add j) = some u := by
  intro j u hj
  have hl : j < (ndC ts).length := by
    by_cases hlt : j < (ndC ts).length
    · exact hlt
    · rw [List.getElem?_eq_none (by omega)] at hj; cases hj
  rw [ndC_length] at hl
  have hq : j / 7 < ts.length := by omega
  have hm : j % 7 < 7 := by omega
  have e : j = j / 7 * 7 + j % 7 := by omega
  have hn : ts[j / 7]? = some (ts[j / 7]'hq) := List.getElem?_eq_getElem _
  generalize (ts[j / 7]'hq) = n at hn
  rw [e, ndC_get ts (j / 7) (j % 7) n hn hm] at hj
  obtain ⟨b', o', h1, _, a0, a1, a2, a3, a4, a5, a6⟩ := h.at hn
  cases h1
  have ea : (⟨b, o, none⟩ : Addr).add j = ⟨b, o + j / 7 * 7 + j % 7, none⟩ := by
    by_cases h0 : j = 0
    · subst h0; rfl
    · show (if j = 0 then _ else _) = _
      rw [if_neg h0]
      show (⟨b, o + j, none⟩ : Addr) = _
      rw [show o + j / 7 * 7 + j % 7 = o + j by omega]
  rw [ea]
  have hk : j % 7 = 0 ∨ j % 7 = 1 ∨ j % 7 = 2 ∨ j % 7 = 3 ∨ j % 7 = 4 ∨ j % 7 = 5 ∨ j % 7 = 6 := by omega
  rcases hk with h | h | h | h | h | h | h <;> rw [h] at hj ⊢ <;> cases hj
  · exact a0
  · exact a1
  · exact a2
  · exact a3
  · exact a4
  · exact a5
  · exact a6
theorem ndC_one : ∀ (ts : List Nd), ∀ u ∈ ndC ts, u.oneCell' = true
  | [], u, h => by cases h
  | t :: ts, u, h => by
    rcases List.mem_append.1 (show u ∈ t.cells ++ ndC ts from h) with h | h
    · unfold Nd.cells wd at h
      simp at h
      rcases h with rfl | rfl | rfl | rfl | rfl | rfl | rfl <;> rfl
    · exact ndC_one ts u h
theorem owns_empty (w : World) (B : Nat) (hB : B ≤ w.heap.size) : (w.alloc (.cells #[] 56)).ownsRow B 56 7 (.slice (some ⟨w.heap.size, 0, none⟩) 0 0) 0 [] :=
  ⟨rfl, .inr ⟨w.heap.size, 0, #[], rfl, hB, heap_alloc_new w _, Nat.le_refl _, Nat.zero_le _, rfl, rfl⟩⟩

theorem cells_seven_at (w : World) (h : Nat) (hw : w.heap.size = h) (t : TypeId) (p q r s u v z : Value) : ∀ j x, [p, q, r, s, u, v, z][j]? = some x → (w.alloc (.cells #[p, q, r, s, u, v, z] t)).cell? ((⟨h, 0, none⟩ : Addr).add j) = some x := by
  subst hw
  exact cells_seven w t p q r s u v z
theorem below_put {w0 w W w5 : World} {B N : Nat} {v : Value} {xs : List Value} (hb : Below B w0 w) (h : w.ownsRow B 56 7 v N xs) (hB : B ≤ w.heap.size) (hW : Below w.heap.size w W) (hg : W.grownBy w5 v.ownBlock) : Below B w0 w5 :=
  (hb.trans (hW.mono hB)).grown hg (Nat.le_trans hB hW.size) (fun _r hr => own_base h hr)

end Go.Proofs.Ytgffmbdbjbhocaa
namespace Go.Proofs.Ytgffmbdbjbhocaa
open Go.RowKit Go.Lib

set_option maxHeartbeats 1000000 in
set_option maxRecDepth 20000 in
theorem stars_few (ao : Option Addr) (N cap : Nat) (s : ByteArray) (f : Int) (w : World)
    (kf : ∀ w', Below w.heap.size w w' → Calls Try.prog 27 #[.slice ao N cap, .string s] w' fun e w'' => e = .returned (.bool false) ∧ Below w'.heap.size w' w'') :
    Calls Try.prog 8 #[.slice ao N cap, .string s, .int .i64 f] w fun e w' => e = .returned (.bool true) ∧ Below w.heap.size w w' := by
  have ks := fun w => shownM_any w
  go_enter Try.func8, Try.ntmps8
  go_wp2_with (first
    | (go_at_call 26; refine (ks _).mono ?_; rintro e w1 ⟨rfl, hb1⟩; have H1 := Lib.hid hb1; clear hb1 ks)
    | (go_at_call 27; refine (kf _ H1.out).mono ?_; rintro e w2 ⟨rfl, hb2⟩; have H2 := Lib.hid (H1.out.trans (hb2.mono H1.out.size)); clear hb2 kf)
    | fail)
  exact bodyPost_ret (results_tmp rfl _ _ _) rfl ⟨rfl, H2.out⟩
set_option maxHeartbeats 1000000 in
set_option maxRecDepth 20000 in
theorem stars_out (ao : Option Addr) (N cap : Nat) (s : ByteArray) (f : Int) (w : World) (_hN : N ≤ 60) (_hs : s.size ≤ 30) (h : 58 < N ∨ (N ≤ 58 ∧ f < 0) ∨ (N ≤ 58 ∧ 0 ≤ f ∧ (s.size : Int) < f))
    (kf : ∀ w', Below w.heap.size w w' → Calls Try.prog 27 #[.slice ao N cap, .string s] w' fun e w'' => e = .returned (.bool true) ∧ Below w'.heap.size w' w'') :
    Calls Try.prog 8 #[.slice ao N cap, .string s, .int .i64 f] w fun e w' => e = .returned (.bool true) ∧ Below w.heap.size w w' := by
  have ks := fun w => shownM_any w
  rcases h with h | ⟨h, h2⟩ | ⟨h, h2, h3⟩
  · have t1 : decide ((58 : Int) < (N : Int)) = true := by simp; omega
    go_enter Try.func8, Try.ntmps8
    go_wp2_with (first
      | (go_at_call 26; refine (ks _).mono ?_; rintro e w1 ⟨rfl, hb1⟩; have H1 := Lib.hid hb1; clear hb1 ks)
      | (go_at_call 27; refine (kf _ H1.out).mono ?_; rintro e w2 ⟨rfl, hb2⟩; have H2 := Lib.hid (H1.out.trans (hb2.mono H1.out.size)); clear hb2 kf)
      | fail)
    exact bodyPost_ret (results_tmp rfl _ _ _) rfl ⟨rfl, H2.out⟩
  · have t1 : decide ((58 : Int) < (N : Int)) = false := by simp; omega
    have t2 : decide (f < 0) = true := by simp; omega
    go_enter Try.func8, Try.ntmps8
    go_wp2_with (first
      | (go_at_call 26; refine (ks _).mono ?_; rintro e w1 ⟨rfl, hb1⟩; have H1 := Lib.hid hb1; clear hb1 ks)
      | (go_at_call 27; refine (kf _ H1.out).mono ?_; rintro e w2 ⟨rfl, hb2⟩; have H2 := Lib.hid (H1.out.trans (hb2.mono H1.out.size)); clear hb2 kf)
      | fail)
    exact bodyPost_ret (results_tmp rfl _ _ _) rfl ⟨rfl, H2.out⟩
  · have t1 : decide ((58 : Int) < (N : Int)) = false := by simp; omega
    have t2 : decide (f < 0) = false := by simp; omega
    have t3 : decide ((s.size : Int) < f) = true := by simp; omega
    go_enter Try.func8, Try.ntmps8
    go_wp2_with (first
      | (go_at_call 26; refine (ks _).mono ?_; rintro e w1 ⟨rfl, hb1⟩; have H1 := Lib.hid hb1; clear hb1 ks)
      | (go_at_call 27; refine (kf _ H1.out).mono ?_; rintro e w2 ⟨rfl, hb2⟩; have H2 := Lib.hid (H1.out.trans (hb2.mono H1.out.size)); clear hb2 kf)
      | fail)
    exact bodyPost_ret (results_tmp rfl _ _ _) rfl ⟨rfl, H2.out⟩
set_option maxHeartbeats 4000000 in
set_option maxRecDepth 100000 in
theorem stars_in (b o N cap f : Nat) (T : Tr) (s : ByteArray) (w : World) (ts : List Nd) (hN : N = ts.length) (hN58 : N ≤ 58) (hs : s.size ≤ 30) (hf : f ≤ s.size) (hts : ts = T.row 0) (hok : T.ok) (hL : Lies (.slice (some ⟨b, o, none⟩) N cap) ts w)
    (kf : ∀ w', Below w.heap.size w w' → Calls Try.prog 27 #[.slice (some ⟨b, o, none⟩) N cap, .string s] w' fun e w'' => e = .returned (.bool true) ∧ Below w'.heap.size w' w'') :
    Calls Try.prog 8 #[.slice (some ⟨b, o, none⟩) N cap, .string s, .int .i64 (f : Int)] w fun e w' => e = .returned (.bool true) ∧ Below w.heap.size w w' := by
  have ks := fun w => shownM_any w
  have hl : s.data.toList.length = s.size := Array.length_toList
  have hrl := T.row_length 0
  obtain ⟨i0, hi, hz0, hz1, hz2⟩ := info_parts Try.infoRe
  obtain ⟨cs, hcs⟩ : ∃ cs, cs = ndC ts := ⟨_, rfl⟩
  have hcl : cs.length = N * 7 := by rw [hcs, ndC_length]; omega
  have HC1 := Lib.hid (show ∀ u ∈ cs, u.oneCell' = true by rw [hcs]; exact ndC_one ts)
  obtain ⟨st, hst⟩ : ∃ st : List Nd, st = ts ++ [⟨4, k0, (N : Int) - 1, 0⟩] := ⟨_, rfl⟩
  have hst2 : st = (Tr.rep 4 T).row 0 := by
    rw [hst, hN, hts, hrl]
    show _ = T.row 0 ++ [⟨((4 : Nat) : Int), k0, ((0 : Nat) : Int) + T.size - 1, 0⟩]
    simp
  have hstl : st.length = N + 1 := by rw [hst, List.length_append, hN]; rfl
  have hokS : (Tr.rep 4 T).ok := ⟨.inl rfl, hok⟩
  have kE := fun (v : Value) (W : World) (h : Lies v st W) => ends_any v (.rep 4 T) st s (f : Int) W hst2 hokS (by omega) (by omega) h
  have kM := fun (a : Int) (W : World) (h : Lies (.slice (some ⟨b, o, none⟩) N cap) ts W) => ends_any (.slice (some ⟨b, o, none⟩) N cap) T ts s a W hts hok (by omega) (by omega) h
  obtain ⟨E, hE⟩ : ∃ E, E = endsL s.data.toList (.rep 4 T) (f : Int) := ⟨_, rfl⟩
  have hEle : ∀ e ∈ E, e < s.size + 1 := fun e he => by rw [hE] at he; have := ends_le (by omega) he; omega
  have hEf : f ∈ E := by rw [hE]; exact star_from (by omega)
  have hEc : ∀ e ∈ E, ∀ c ∈ endsL s.data.toList T (e : Int), c ∈ E := fun e he c hc => by rw [hE] at he ⊢; exact star_on (by omega) he hc
  rw [← hE] at kE
  obtain ⟨K, hK⟩ : ∃ K, K = E.length := ⟨_, rfl⟩
  have hKb : K ≤ 31 := by
    have : E.length ≤ s.data.toList.length + 1 := by
      rw [hE]
      unfold endsL
      split
      · exact Nat.zero_le _
      · exact Nat.le_trans (List.length_filter_le _ _) (by rw [List.length_range]; exact Nat.le_refl _)
    omega
  rw [← hK] at kE
  have hMb : ∀ e : Int, (endsL s.data.toList T e).length ≤ 31 := fun e => by
    unfold endsL
    split
    · exact Nat.zero_le _
    · exact Nat.le_trans (List.length_filter_le _ _) (by rw [List.length_range]; omega)
  have kN0 := fun w => refNot_any zeroK w
  obtain ⟨C, hC⟩ : ∃ C, C = k4 (notK zeroK) := ⟨_, rfl⟩
  have hO : clsV (notK zeroK) = .agg #[.int .u64 (C.a.toNat : Int), .int .u64 (C.b.toNat : Int), .int .u64 (C.c.toNat : Int), .int .u64 (C.d.toNat : Int)] := by rw [hC]; rfl
  have kN : ∀ w, Calls Try.prog 36 #[.agg #[.int .u64 0, .int .u64 0, .int .u64 0, .int .u64 0]] w fun e w' => e = .returned (.agg #[.int .u64 (C.a.toNat : Int), .int .u64 (C.b.toNat : Int), .int .u64 (C.c.toNat : Int), .int .u64 (C.d.toNat : Int)]) ∧ Below w.heap.size w w' := by
    intro w
    have := kN0 w
    rw [hO] at this
    exact this
  have kW := fun (W : World) (h : Lies (.slice (some ⟨W.heap.size, 0, none⟩) 2 2) [⟨1, C, 0, 0⟩, ⟨4, k0, 0, 0⟩] W) => True
  have kW2 : ∀ (v : Value) (W : World), Lies v [⟨1, C, 0, 0⟩, ⟨4, k0, 0, 0⟩] W → Calls Try.prog 35 #[v, .string s] W fun e w' => e = .returned (.bool true) ∧ Below W.heap.size W w' := fun v W h => by
    have h1 := whole_any v (.rep 4 (.set C)) [⟨1, C, 0, 0⟩, ⟨4, k0, 0, 0⟩] s W rfl ⟨.inl rfl, trivial⟩ (by simp) (by omega) h
    have h2 := dots_whole s.data.toList
    rw [hl, ← hC] at h2
    rw [show ((0 : Nat) : Int) = 0 from rfl] at h2
    rw [h2] at h1
    exact h1
  obtain ⟨n1, hn1⟩ : ∃ n1, n1 = s.size + 1 := ⟨_, rfl⟩
  have hI1 : IntKind.i64.wrap ((s.size : Int) + 1) = (n1 : Int) := by rw [IntWalk.i64_in _ (by omega)]; omega
  have hI : IntKind.i64.wrap ((N : Int) - 1) = (N : Int) - 1 := IntWalk.i64_in _ (by omega)
  have kmk := fun (w : World) => run_make_row' (P := Try.prog) 46 4 (.bool false) 1 Try.underlying46 Try.infoBool rfl .i64 .i64 n1 (by omega) (by omega) w
  have hS1 : ((n1 : Nat) : Int) = (s.size : Int) + 1 := by omega
  simp only [hS1] at kmk
  obtain ⟨X, hX⟩ : ∃ X, X = Obj.cells (madeCells #[.bool false] n1) 4 := ⟨_, rfl⟩
  rw [← hX] at kmk
  have HX := Lib.hid hX
  rw [← hn1] at hEle
  have H := Lib.hid (And.intro hL (And.intro hcs (And.intro hst (And.intro hstl (And.intro hEle (And.intro hEf (And.intro hEc (And.intro hK hMb))))))))
  have t1 : decide ((58 : Int) < (N : Int)) = false := by simp; omega
  have t2 : decide ((f : Int) < 0) = false := by simp
  have t3 : decide ((s.size : Int) < (f : Int)) = false := by simp; omega
  clear hL hN hts hok hl hrl hcs hst hst2 hstl hokS hE hEle hEf hEc hK hMb kN0 hC hO kW hX hS1
  go_enter Try.func8, Try.ntmps8
  go_wp2_with (first
    | (go_at_call 26; refine (ks _).mono ?_; rintro e w1 ⟨rfl, hb1⟩; have H1 := Lib.hid hb1; clear hb1 ks)
    | (go_at_call 27; refine (kf _ H1.out).mono ?_; rintro e w2 ⟨rfl, hb2⟩; have H2 := Lib.hid (H1.out.trans (hb2.mono H1.out.size))
       have hc2 : ∀ j u, cs[j]? = some u → w2.cell? ((⟨b, o, none⟩ : Addr).add j) = some u := by rw [H.out.2.1]; exact lies_cells (H.out.1.below H2.out)
       have HC := Lib.hid hc2
       clear hb2 kf hc2)
    | (at_builtin; refine wpList_append_own _ rfl (.tmp 39) (.tmp 40) 22 rfl w2.heap.size 56 i0 _ 7 56 Try.underlying22 hi hz0 hz1 hz2 rfl (by decide) _ 0 [] rfl (owns_empty w2 _ (Nat.le_refl _)) ⟨b, o, none⟩ N cap cs rfl hcl (fun j u hj => World.cell?_alloc_some w2 _ _ (by rw [HC.out j u hj]; rfl) |>.trans (HC.out j u hj)) HC1.out (by unfold maxLen; omega) (by omega) (by simp) ?_; intro v3 w3 hown3 hgrow3 _
       have hb3 : Below w2.heap.size w2 w3 := ((Below.refl _ w2).alloc (Nat.le_refl _) _).grown hgrow3 (by simp) (fun q hq => own_base (owns_empty w2 _ (Nat.le_refl _)) hq)
       rw [Nat.zero_add, List.nil_append] at hown3
       have H3 := Lib.hid (And.intro hown3 hb3)
       clear hown3 hb3 hgrow3)
    | (at_builtin; refine wpList_append_own _ rfl (.tmp 41) (.tmp 47) 22 rfl w2.heap.size 56 i0 _ 7 56 Try.underlying22 hi hz0 hz1 hz2 rfl (by decide) _ N cs rfl (owns_alloc H3.out.1) ⟨w3.heap.size, 0, none⟩ 1 1 [.int .i64 4, .int .u64 0, .int .u64 0, .int .u64 0, .int .u64 0, .int .i64 ((N : Int) - 1), .int .i64 0] rfl rfl (cells_seven_at _ _ rfl _ _ _ _ _ _ _ _) (by simp [Value.oneCell']) (by unfold maxLen; omega) (by omega) (by have := H3.out.2.size; simp; omega) ?_; intro v4 w4 hown4 hgrow4 _
       have hb4 : Below w2.heap.size w2 w4 := below_put H3.out.2 H3.out.1 H3.out.2.size ((Below.refl _ w3).alloc (Nat.le_refl _) _) hgrow4
       have hl4 : Lies v4 st w4 := by
         refine owns_lies (n := N + 1) (B := w2.heap.size) ?_ H.out.2.2.2.1.symm (by rw [H.out.2.2.2.1]; omega)
         rw [H.out.2.2.1, ndC_append, ← H.out.2.1]
         exact hown4
       have H4 := Lib.hid (And.intro hl4 (H2.out.trans (hb4.mono H2.out.size)))
       clear hown4 hb4 hgrow4 hl4)
    | (go_at_call 31; refine (kE _ _ H4.out.1).mono ?_; rintro e w5 ⟨v5, rfl, ho5, hb5⟩; obtain ⟨a5, c5, rfl⟩ := own_zeroB ho5; have H5 := Lib.hid (And.intro ho5 (H4.out.2.trans (hb5.mono H4.out.2.size))); clear ho5 hb5 kE)
    | fail)
  go_loopg [12] (K + 1) (fun g v12 wr => ∃ i : Nat, v12 = .int .i64 i ∧ i ≤ K ∧ Hid (g = K + 1 - i) ∧ Hid (BoS (E.take i) n1 w5.heap.size wr ∧ Below w5.heap.size w5 wr))
  case atStart => exact ⟨0, rfl, by omega, rfl, by rw [HX.out]; exact BoS.start n1 w5, (Below.refl _ w5).alloc (Nat.le_refl _) _⟩
  case round =>
    obtain ⟨i, rfl, hi, HK, HS⟩ := hrel
    by_cases hlt : i < K
    · have hltI : (i : Int) < (K : Int) := by omega
      obtain ⟨e, he⟩ : ∃ e, E[i]? = some e := ⟨E[i]'(by have := H.out.2.2.2.2.2.2.2.1; omega), List.getElem?_eq_getElem _⟩
      have hen := H.out.2.2.2.2.1 e (List.mem_of_getElem? he)
      obtain ⟨g5, cc5, e5⟩ := owned_slice H5.out.1 (by omega)
      cases e5
      have kk := owns_same H5.out.1 fun q hq => HS.out.2.block q (own_block_lt H5.out.1 hq)
      have ce := owns_cell2 kk (j := i) (v := .int .i64 (e : Int)) (by unfold natsV; rw [List.getElem?_map, he]; rfl)
      obtain ⟨⟨u, cu⟩, fu⟩ := HS.out.1.any hen
      have e0 : (0 : Int) ≤ (e : Int) := by omega
      have e1 : (e : Int) < (n1 : Int) := by omega
      have hIi : IntKind.i64.wrap ((i : Int) + 1) = ((i + 1 : Nat) : Int) := by rw [IntWalk.i64_in _ (by omega)]; omega
      have HE := Lib.hid (And.intro he hen)
      clear he hen kk
      go_wp2
      go_roundg (K - i)
      case rel =>
        refine ⟨i + 1, by go_num, by omega, by show _ = _; omega, ?_, HS.out.2.setCell (p := ⟨w5.heap.size, e, none⟩) (Nat.le_refl _) _⟩
        rw [List.take_add_one, HE.out.1]
        exact HS.out.1.put HE.out.2
      case measure => have := HK.out; omega
    · obtain rfl : i = K := by omega
      have hd0 : decide ((i : Int) < (i : Int)) = false := by simp
      have hbo := HS.out.1
      rw [List.take_of_length_le (by rw [← H.out.2.2.2.2.2.2.2.1]; exact Nat.le_refl _)] at hbo
      have H6 := Lib.hid (And.intro hbo HS.out.2)
      clear hbo
      go_wp2
      go_loopg [13] (i + 1) (fun g v13 wq => ∃ j : Nat, v13 = .int .i64 j ∧ j ≤ i ∧ Hid (g = i + 1 - j) ∧ Hid (BoS E n1 w5.heap.size wq ∧ Below w5.heap.size w5 wq))
      case atStart => exact ⟨0, rfl, by omega, rfl, H6.out⟩
      case round =>
        obtain ⟨j, rfl, hj, HJ, HQ⟩ := hrel
        by_cases hjl : j < i
        · have hjI : (j : Int) < (i : Int) := by omega
          obtain ⟨e, he⟩ : ∃ e, E[j]? = some e := ⟨E[j]'(by have := H.out.2.2.2.2.2.2.2.1; omega), List.getElem?_eq_getElem _⟩
          have hem := List.mem_of_getElem? he
          obtain ⟨g5, cc5, e5⟩ := owned_slice H5.out.1 (by omega)
          cases e5
          have ce := fun (W : World) (hb : Below w5.heap.size w5 W) => owns_cell2 (owns_same H5.out.1 fun q hq => hb.block q (own_block_lt H5.out.1 hq)) (j := j) (v := .int .i64 (e : Int)) (by unfold natsV; rw [List.getElem?_map, he]; rfl)
          have ce1 := ce _ HQ.out.2
          have hIj : IntKind.i64.wrap ((j : Int) + 1) = ((j + 1 : Nat) : Int) := by rw [IntWalk.i64_in _ (by omega)]; omega
          obtain ⟨M, hM⟩ : ∃ M, M = endsL s.data.toList T (e : Int) := ⟨_, rfl⟩
          obtain ⟨m, hm⟩ : ∃ m, m = M.length := ⟨_, rfl⟩
          have kMe := fun W h => kM (e : Int) W h
          rw [← hM, ← hm] at kMe
          have hmb : m ≤ 31 := by rw [hm, hM]; exact H.out.2.2.2.2.2.2.2.2 _
          have hMc : ∀ c ∈ M, c ∈ E := fun c hc => H.out.2.2.2.2.2.2.1 e hem c (by rw [← hM]; exact hc)
          have HM := Lib.hid (And.intro hm hMc)
          clear he hem ce hM hm hMc
          go_wp2_with (first
            | (go_at_call 31; refine (kMe _ (H.out.1.below (H5.out.2.trans (HQ.out.2.mono H5.out.2.size)))).mono ?_; rintro e w7 ⟨v7, rfl, ho7, hb7⟩; obtain ⟨a7, c7, rfl⟩ := own_zeroB ho7
               have H7 := Lib.hid (And.intro ho7 (And.intro (HQ.out.1.below hb7) (HQ.out.2.trans (hb7.mono HQ.out.2.size))))
               clear ho7 hb7 kMe)
            | fail)
          go_loopg [15] (m + 1) (fun g v15 wt => ∃ k : Nat, v15 = .int .i64 k ∧ k ≤ m ∧ Hid (g = m + 1 - k) ∧ Hid (wt = w7))
          case atStart => exact ⟨0, rfl, by omega, rfl, rfl⟩
          case round =>
            obtain ⟨k, rfl, hk, HKk, HW⟩ := hrel
            have hwt := HW.out
            subst hwt
            by_cases hkl : k < m
            · have hkI : (k : Int) < (m : Int) := by omega
              obtain ⟨c, hc⟩ : ∃ c, M[k]? = some c := ⟨M[k]'(by have := HM.out.1; omega), List.getElem?_eq_getElem _⟩
              have hcE := HM.out.2 c (List.mem_of_getElem? hc)
              have hcn := H.out.2.2.2.2.1 c hcE
              obtain ⟨g7, cc7, e7⟩ := owned_slice H7.out.1 (by omega)
              cases e7
              have cc := owns_cell2 H7.out.1 (j := k) (v := .int .i64 (c : Int)) (by unfold natsV; rw [List.getElem?_map, hc]; rfl)
              have cb := H7.out.2.1.at hcE
              have c0 : (0 : Int) ≤ (c : Int) := by omega
              have c1 : (c : Int) < (n1 : Int) := by omega
              have hIk : IntKind.i64.wrap ((k : Int) + 1) = ((k + 1 : Nat) : Int) := by rw [IntWalk.i64_in _ (by omega)]; omega
              clear hc hcE hcn
              go_wp2
              go_roundg (m - k)
              case rel => exact ⟨k + 1, by go_num, by omega, by show _ = _; omega, rfl⟩
              case measure => have := HKk.out; omega
            · obtain rfl : k = m := by omega
              have hd1 : decide ((k : Int) < (k : Int)) = false := by simp
              go_wp2
              go_roundg (i - j)
              case rel => exact ⟨j + 1, by go_num, by omega, by show _ = _; omega, H7.out.2⟩
              case measure => have := HJ.out; omega
        · obtain rfl : j = i := by omega
          have hd2 : decide ((j : Int) < (j : Int)) = false := by simp
          have f0 : (0 : Int) ≤ (f : Int) := by omega
          have f1 : (f : Int) < (n1 : Int) := by omega
          go_wp2_with (first
            | (go_at_call 36; refine (kN _).mono ?_; rintro e w8 ⟨rfl, hb8⟩
               have cf := (HQ.out.1.below hb8).at H.out.2.2.2.2.2.1
               have cfa : ∀ X : Obj, (w8.alloc X).cell? ⟨w5.heap.size, f, none⟩ = some (.bool true) := fun X => (World.cell?_alloc_some w8 _ _ (by rw [cf]; rfl)).trans cf
               have H8 := Lib.hid (H5.out.2.trans ((HQ.out.2.trans (hb8.mono HQ.out.2.size)).mono H5.out.2.size))
               clear hb8 kN)
            | (go_at_call 35; refine (kW2 _ _ (lies_twoS C w8)).mono ?_; rintro e w9 ⟨rfl, hb9⟩
               have H9 := Lib.hid ((H8.out.alloc H8.out.size _).trans (hb9.mono (by have := H8.out.size; simp; omega)))
               clear hb9 kW2)
            | fail)
          exact bodyPost_ret (results_tmp rfl _ _ _) rfl ⟨rfl, H9.out⟩
/-- The statement's function, at every input. -/
theorem matchStars_walk (w : World) (ao : Option Addr) (cap : Nat) (ts : List Nd) (_h63 : ts.length ≤ 9223372036854775807) (hL : ts.length ≤ 140737488355328 → Lies (.slice ao ts.length cap) ts w) (s : ByteArray) (_hs : s.size ≤ 140737488351232) (f : Int) (_hf : -9223372036854775808 ≤ f ∧ f ≤ 9223372036854775807) :
    Calls Try.prog 8 #[.slice ao ts.length cap, .string s, .int .i64 f] w fun e w' => e = .returned (.bool true) ∧ Below w.heap.size w w' := by
  obtain ⟨q, hq, kf⟩ := few06_any ao cap ts s w hL
  cases q
  · exact stars_few ao _ cap s f w kf
  · obtain ⟨hN, hs, hL, T, hok, hts⟩ := hq rfl
    by_cases h1 : ts.length ≤ 58
    · by_cases h2 : 0 ≤ f
      · by_cases h3 : f ≤ (s.size : Int)
        · obtain ⟨n, rfl⟩ : ∃ n : Nat, f = (n : Int) := ⟨f.toNat, by omega⟩
          obtain ⟨b, o, cap', e⟩ := lies_ptr hts hL
          cases e
          exact stars_in b o _ cap n T s w ts rfl h1 hs (by omega) hts hok hL kf
        · exact stars_out ao _ cap s f w hN hs (.inr (.inr ⟨h1, h2, by omega⟩)) kf
      · exact stars_out ao _ cap s f w hN hs (.inr (.inl ⟨h1, by omega⟩)) kf
    · exact stars_out ao _ cap s f w hN hs (.inl (by omega)) kf
end Go.Proofs.Ytgffmbdbjbhocaa
