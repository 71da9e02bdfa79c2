/- Packed texts: MaPs, ClsRefWith, ReRefOne, MaAtom, MaShown, MbFew, MatchApartWalk. What each of them proves stands above its theorems; the conditions stand in these. -/
import Derived.Deep.LoopGhost
import Derived.Laws.StructEq
import Derived.Test.YtgffmbdbjbhocaaShelf
import Derived.WalkLawsBesides
import Derived.WalkSpells
import Derived.Test.YtgffmbdbjbhocaaQ0
import Derived.Test.YtgffmbdbjbhocaaQ1
import Derived.Test.YtgffmbdbjbhocaaQ4
import Derived.Test.YtgffmbdbjbhocaaQ6
import Derived.Test.YtgffmbdbjbhocaaQ7
namespace Go.Proofs.Ytgffmbdbjbhocaa
open Go.RowKit Go.Lib

/-- The reader's memory, when nothing is wrong, outside of brackets. -/
structure Ps (B pb : Nat) (s : ByteArray) (at_ : Nat) (ts : List Nd) (w : World) : Prop where
  blk : ∃ v, w.heap[pb]? = some (.cells #[.string s, .int .i64 (at_ : Int), .int .i64 0, v, .int .i64 0] 129 (0, 0)) ∧ w.ownsRow B 56 7 v ts.length (ndC ts)
  hB : B ≤ pb ∧ B ≤ w.heap.size
  sml : ts.length < 2000 ∧ s.size ≤ 1000000
theorem Ps.below {B pb : Nat} {s : ByteArray} {a : Nat} {ts : List Nd} {w w' : World} (h : Ps B pb s a ts w) (hb : Below w.heap.size w w') : Ps B pb s a ts w' := by
  obtain ⟨v, h1, h2⟩ := h.blk
  exact ⟨⟨v, (hb.block _ (block_lt h1)).trans h1, owns_same h2 fun q hq => hb.block q (own_block_lt h2 hq)⟩, ⟨h.hB.1, Nat.le_trans h.hB.2 hb.size⟩, h.sml⟩
theorem five_cells {w : World} {b : Nat} {t : TypeId} {x0 x1 x2 x3 x4 : Value} (h : w.heap[b]? = some (.cells #[x0, x1, x2, x3, x4] t (0, 0))) :
    w.cell? ⟨b, 0, none⟩ = some x0 ∧ w.cell? ⟨b, 1, none⟩ = some x1 ∧ w.cell? ⟨b, 2, none⟩ = some x2 ∧ w.cell? ⟨b, 3, none⟩ = some x3 ∧ w.cell? ⟨b, 4, none⟩ = some x4 :=
  ⟨cell_of_row w b 0 _ _ _ h, cell_of_row w b 1 _ _ _ h, cell_of_row w b 2 _ _ _ h, cell_of_row w b 3 _ _ _ h, cell_of_row w b 4 _ _ _ h⟩
set_option maxHeartbeats 8000000 in
set_option maxRecDepth 20000 in
theorem is_any (B pb a : Nat) (s : ByteArray) (ts : List Nd) (c : UInt8) (w : World) (h : Ps B pb s a ts w) :
    Calls Try.prog 124 #[.pointer (some ⟨pb, 0, none⟩), .int .u8 (c.toNat : Int)] w fun e w' => e = .returned (.bool (decide (s.data.toList[a]? = some c))) ∧ Below w.heap.size w w' := by
  obtain ⟨v, hb, -⟩ := h.blk
  obtain ⟨c0, c1, c2, c3, c4⟩ := five_cells hb
  clear hb c2 c3
  have a0 : (0 : Int) ≤ (a : Int) := by omega
  have SB := Lib.hid (And.intro c0 (And.intro c1 c4))
  by_cases hlt : a < s.size
  · have hat := at_byte hlt
    obtain ⟨d, hd⟩ : ∃ d, s[a] = d := ⟨_, rfl⟩
    rw [hd] at hat
    rw [hat]
    have hl2 : decide ((a : Int) < (s.size : Int)) = true := decide_eq_true (by omega)
    have hl3 : (a : Int) < (s.size : Int) := by omega
    obtain ⟨r, hr⟩ : ∃ r, r = decide (some d = some c) := ⟨_, rfl⟩
    have hr2 : ((d.toNat : Int) == (c.toNat : Int)) = r := by
      rw [hr]
      by_cases hdc : d = c
      · subst hdc; simp
      · rw [ne_int hdc]; simp [hdc]
    rw [← hr]
    clear hat hr h c0 c1 c4
    go_enter Try.func124, Try.ntmps124
    go_wp2_with fail
    refine wp_region_held_drew (S := fun W' => W'.cell? ⟨pb, 0, none⟩ = some (.string s) ∧ W'.cell? ⟨pb, 1, none⟩ = some (.int .i64 (a : Int)) ∧ W'.cell? ⟨pb, 4, none⟩ = some (.int .i64 0)) (by kernel_rfl) SB.out (fun hHeld => ?_)
    refine wpAnyH_take (i := 0) (v := ?_) rfl (by kernel_rfl) (by kernel_rfl) (by kernel_rfl) (fun _ _ _ h => h) ?_ hHeld ?_; rotate_left; · (simp only [List.getElem_toArray, List.getElem_cons_zero]; refine Or.inl ⟨by rfl, ?_⟩; intro w hSw; (try dsimp only at hSw); obtain ⟨s1, s2, s3⟩ := hSw; go_simp; try with_reducible rfl)
    try simp only [List.getElem_toArray, List.getElem_cons_zero, Act.put, List.setIfInBounds_toArray, List.set_cons_zero, List.set_cons_succ]
    refine wpAnyH_take (i := 1) (v := ?_) rfl (by kernel_rfl) (by kernel_rfl) (by kernel_rfl) (fun _ _ _ h => h) ?_ hHeld ?_; rotate_left; · (simp only [List.getElem_toArray, List.getElem_cons_succ, List.getElem_cons_zero]; refine Or.inl ⟨by rfl, ?_⟩; intro w hSw; (try dsimp only at hSw); obtain ⟨s1, s2, s3⟩ := hSw; go_simp; try with_reducible rfl)
    try simp only [List.getElem_toArray, List.getElem_cons_succ, List.getElem_cons_zero, Act.put, List.setIfInBounds_toArray, List.set_cons_zero, List.set_cons_succ]
    refine wpAnyH_take (i := 2) (v := ?_) rfl (by kernel_rfl) (by kernel_rfl) (by kernel_rfl) (fun _ _ _ h => h) ?_ hHeld ?_; rotate_left; · (simp only [List.getElem_toArray, List.getElem_cons_succ, List.getElem_cons_zero]; refine Or.inl ⟨by rfl, ?_⟩; intro w hSw; (try dsimp only at hSw); obtain ⟨s1, s2, s3⟩ := hSw; go_simp; try with_reducible rfl)
    try simp only [List.getElem_toArray, List.getElem_cons_succ, List.getElem_cons_zero, Act.put, List.setIfInBounds_toArray, List.set_cons_zero, List.set_cons_succ]
    refine wpAnyH_take (i := 3) (v := ?_) rfl (by kernel_rfl) (by kernel_rfl) (by kernel_rfl) (fun _ _ _ h => h) ?_ hHeld ?_; rotate_left; · (simp only [List.getElem_toArray, List.getElem_cons_succ, List.getElem_cons_zero]; refine Or.inl ⟨by rfl, ?_⟩; intro w hSw; (try dsimp only at hSw); obtain ⟨s1, s2, s3⟩ := hSw; go_simp; try with_reducible rfl)
    try simp only [List.getElem_toArray, List.getElem_cons_succ, List.getElem_cons_zero, Act.put, List.setIfInBounds_toArray, List.set_cons_zero, List.set_cons_succ]
    refine wpAnyH_take (i := 4) (v := ?_) rfl (by kernel_rfl) (by kernel_rfl) (by kernel_rfl) (fun _ _ _ h => h) ?_ hHeld ?_; rotate_left; · (simp only [List.getElem_toArray, List.getElem_cons_succ, List.getElem_cons_zero]; refine Or.inl ⟨by rfl, ?_⟩; intro w hSw; (try dsimp only at hSw); obtain ⟨s1, s2, s3⟩ := hSw; go_simp; try with_reducible rfl)
    try simp only [List.getElem_toArray, List.getElem_cons_succ, List.getElem_cons_zero, Act.put, List.setIfInBounds_toArray, List.set_cons_zero, List.set_cons_succ]
    refine wpAnyH_take (i := 5) (v := ?_) rfl (by kernel_rfl) (by kernel_rfl) (by kernel_rfl) (fun _ _ _ h => h) ?_ hHeld ?_; rotate_left; · (simp only [List.getElem_toArray, List.getElem_cons_succ, List.getElem_cons_zero]; refine Or.inl ⟨by rfl, ?_⟩; intro w hSw; (try dsimp only at hSw); obtain ⟨s1, s2, s3⟩ := hSw; go_simp; try with_reducible rfl)
    try simp only [List.getElem_toArray, List.getElem_cons_succ, List.getElem_cons_zero, Act.put, List.setIfInBounds_toArray, List.set_cons_zero, List.set_cons_succ]
    refine wpAnyH_take (i := 6) (v := ?_) rfl (by kernel_rfl) (by kernel_rfl) (by kernel_rfl) (fun _ _ _ h => h) ?_ hHeld ?_; rotate_left; · (simp only [List.getElem_toArray, List.getElem_cons_succ, List.getElem_cons_zero]; refine Or.inl ⟨by rfl, ?_⟩; intro w hSw; (try dsimp only at hSw); obtain ⟨s1, s2, s3⟩ := hSw; go_simp; try with_reducible rfl)
    try simp only [List.getElem_toArray, List.getElem_cons_succ, List.getElem_cons_zero, Act.put, List.setIfInBounds_toArray, List.set_cons_zero, List.set_cons_succ]
    refine wpAnyH_take (i := 7) (v := ?_) rfl (by kernel_rfl) (by kernel_rfl) (by kernel_rfl) (fun _ _ _ h => h) ?_ hHeld ?_; rotate_left; · (simp only [List.getElem_toArray, List.getElem_cons_succ, List.getElem_cons_zero]; refine Or.inl ⟨by rfl, ?_⟩; intro w hSw; (try dsimp only at hSw); obtain ⟨s1, s2, s3⟩ := hSw; go_simp; try with_reducible rfl)
    try simp only [List.getElem_toArray, List.getElem_cons_succ, List.getElem_cons_zero, Act.put, List.setIfInBounds_toArray, List.set_cons_zero, List.set_cons_succ]
    refine wpAnyH_take (i := 8) (v := ?_) rfl (by kernel_rfl) (by kernel_rfl) (by kernel_rfl) (fun _ _ _ h => h) ?_ hHeld ?_; rotate_left; · (simp only [List.getElem_toArray, List.getElem_cons_succ, List.getElem_cons_zero]; refine Or.inl ⟨by rfl, ?_⟩; intro w hSw; (try dsimp only at hSw); obtain ⟨s1, s2, s3⟩ := hSw; go_simp; try with_reducible rfl)
    try simp only [List.getElem_toArray, List.getElem_cons_succ, List.getElem_cons_zero, Act.put, List.setIfInBounds_toArray, List.set_cons_zero, List.set_cons_succ]
    refine wpAnyH_take (i := 9) (v := ?_) rfl (by kernel_rfl) (by kernel_rfl) (by kernel_rfl) (fun _ _ _ h => h) ?_ hHeld ?_; rotate_left; · (simp only [List.getElem_toArray, List.getElem_cons_succ, List.getElem_cons_zero]; refine Or.inl ⟨by rfl, ?_⟩; intro w hSw; (try dsimp only at hSw); obtain ⟨s1, s2, s3⟩ := hSw; go_simp; try with_reducible rfl)
    try simp only [List.getElem_toArray, List.getElem_cons_succ, List.getElem_cons_zero, Act.put, List.setIfInBounds_toArray, List.set_cons_zero, List.set_cons_succ]
    refine wpAnyH_take (i := 10) (v := ?_) rfl (by kernel_rfl) (by kernel_rfl) (by kernel_rfl) (fun _ _ _ h => h) ?_ hHeld ?_; rotate_left; · (simp only [List.getElem_toArray, List.getElem_cons_succ, List.getElem_cons_zero]; refine Or.inl ⟨by rfl, ?_⟩; intro w hSw; (try dsimp only at hSw); obtain ⟨s1, s2, s3⟩ := hSw; go_simp; try with_reducible rfl)
    try simp only [List.getElem_toArray, List.getElem_cons_succ, List.getElem_cons_zero, Act.put, List.setIfInBounds_toArray, List.set_cons_zero, List.set_cons_succ]
    refine wpAnyH_take (i := 11) (v := ?_) rfl (by kernel_rfl) (by kernel_rfl) (by kernel_rfl) (fun _ _ _ h => h) ?_ hHeld ?_; rotate_left; · (simp only [List.getElem_toArray, List.getElem_cons_succ, List.getElem_cons_zero]; refine Or.inl ⟨by rfl, ?_⟩; intro w hSw; (try dsimp only at hSw); obtain ⟨s1, s2, s3⟩ := hSw; go_simp; try with_reducible rfl)
    try simp only [List.getElem_toArray, List.getElem_cons_succ, List.getElem_cons_zero, Act.put, List.setIfInBounds_toArray, List.set_cons_zero, List.set_cons_succ]
    refine wpAnyH_take (i := 12) (v := ?_) rfl (by kernel_rfl) (by kernel_rfl) (by kernel_rfl) (fun _ _ _ h => h) ?_ hHeld ?_; rotate_left; · (simp only [List.getElem_toArray, List.getElem_cons_succ, List.getElem_cons_zero]; refine Or.inl ⟨by rfl, ?_⟩; intro w hSw; (try dsimp only at hSw); obtain ⟨s1, s2, s3⟩ := hSw; go_simp; try with_reducible rfl)
    try simp only [List.getElem_toArray, List.getElem_cons_succ, List.getElem_cons_zero, Act.put, List.setIfInBounds_toArray, List.set_cons_zero, List.set_cons_succ]
    refine wpAnyH_take (i := 13) (v := ?_) rfl (by kernel_rfl) (by kernel_rfl) (by kernel_rfl) (fun _ _ _ h => h) ?_ hHeld ?_; rotate_left; · (simp only [List.getElem_toArray, List.getElem_cons_succ, List.getElem_cons_zero]; refine Or.inl ⟨by rfl, ?_⟩; intro w hSw; (try dsimp only at hSw); obtain ⟨s1, s2, s3⟩ := hSw; go_simp; try with_reducible rfl)
    try simp only [List.getElem_toArray, List.getElem_cons_succ, List.getElem_cons_zero, Act.put, List.setIfInBounds_toArray, List.set_cons_zero, List.set_cons_succ]
    refine wpAnyH_take (i := 14) (v := ?_) rfl (by kernel_rfl) (by kernel_rfl) (by kernel_rfl) (fun _ _ _ h => h) ?_ hHeld ?_; rotate_left; · (simp only [List.getElem_toArray, List.getElem_cons_succ, List.getElem_cons_zero]; refine Or.inl ⟨by rfl, ?_⟩; intro w hSw; (try dsimp only at hSw); obtain ⟨s1, s2, s3⟩ := hSw; go_simp; try with_reducible rfl)
    try simp only [List.getElem_toArray, List.getElem_cons_succ, List.getElem_cons_zero, Act.put, List.setIfInBounds_toArray, List.set_cons_zero, List.set_cons_succ]
    refine wpAnyH_take (i := 15) (v := ?_) rfl (by kernel_rfl) (by kernel_rfl) (by kernel_rfl) (fun _ _ _ h => h) ?_ hHeld ?_; rotate_left; · (simp only [List.getElem_toArray, List.getElem_cons_succ, List.getElem_cons_zero]; refine Or.inl ⟨by rfl, ?_⟩; intro w hSw; (try dsimp only at hSw); obtain ⟨s1, s2, s3⟩ := hSw; go_simp; try with_reducible rfl)
    try simp only [List.getElem_toArray, List.getElem_cons_succ, List.getElem_cons_zero, Act.put, List.setIfInBounds_toArray, List.set_cons_zero, List.set_cons_succ]
    refine wpAnyH_take (i := 16) (v := ?_) rfl (by kernel_rfl) (by kernel_rfl) (by kernel_rfl) (fun _ _ _ h => h) ?_ hHeld ?_; rotate_left; · (simp only [List.getElem_toArray, List.getElem_cons_succ, List.getElem_cons_zero]; refine Or.inl ⟨by rfl, ?_⟩; intro w hSw; (try dsimp only at hSw); obtain ⟨s1, s2, s3⟩ := hSw; go_simp; try with_reducible rfl)
    try simp only [List.getElem_toArray, List.getElem_cons_succ, List.getElem_cons_zero, Act.put, List.setIfInBounds_toArray, List.set_cons_zero, List.set_cons_succ]
    refine wpAnyH_take (i := 17) (v := ?_) rfl (by kernel_rfl) (by kernel_rfl) (by kernel_rfl) (fun _ _ _ h => h) ?_ hHeld ?_; rotate_left; · (simp only [List.getElem_toArray, List.getElem_cons_succ, List.getElem_cons_zero]; refine Or.inl ⟨by rfl, ?_⟩; intro w hSw; (try dsimp only at hSw); obtain ⟨s1, s2, s3⟩ := hSw; go_simp; try with_reducible rfl)
    try simp only [List.getElem_toArray, List.getElem_cons_succ, List.getElem_cons_zero, Act.put, List.setIfInBounds_toArray, List.set_cons_zero, List.set_cons_succ]
    refine wpAnyH_take (i := 18) (v := ?_) rfl (by kernel_rfl) (by kernel_rfl) (by kernel_rfl) (fun _ _ _ h => h) ?_ hHeld ?_; rotate_left; · (simp only [List.getElem_toArray, List.getElem_cons_succ, List.getElem_cons_zero]; refine Or.inl ⟨by rfl, ?_⟩; intro w hSw; (try dsimp only at hSw); obtain ⟨s1, s2, s3⟩ := hSw; go_simp; try with_reducible rfl)
    try simp only [List.getElem_toArray, List.getElem_cons_succ, List.getElem_cons_zero, Act.put, List.setIfInBounds_toArray, List.set_cons_zero, List.set_cons_succ]
    refine wpAnyH_take (i := 19) (v := ?_) rfl (by kernel_rfl) (by kernel_rfl) (by kernel_rfl) (fun _ _ _ h => h) ?_ hHeld ?_; rotate_left; · (simp only [List.getElem_toArray, List.getElem_cons_succ, List.getElem_cons_zero]; refine Or.inl ⟨by rfl, ?_⟩; intro w hSw; (try dsimp only at hSw); obtain ⟨s1, s2, s3⟩ := hSw; go_simp; try with_reducible rfl)
    try simp only [List.getElem_toArray, List.getElem_cons_succ, List.getElem_cons_zero, Act.put, List.setIfInBounds_toArray, List.set_cons_zero, List.set_cons_succ]
    refine wpAnyH_take (i := 20) (v := ?_) rfl (by kernel_rfl) (by kernel_rfl) (by kernel_rfl) (fun _ _ _ h => h) ?_ hHeld ?_; rotate_left; · (simp only [List.getElem_toArray, List.getElem_cons_succ, List.getElem_cons_zero]; refine Or.inl ⟨by rfl, ?_⟩; intro w hSw; (try dsimp only at hSw); obtain ⟨s1, s2, s3⟩ := hSw; go_simp; try with_reducible rfl)
    try simp only [List.getElem_toArray, List.getElem_cons_succ, List.getElem_cons_zero, Act.put, List.setIfInBounds_toArray, List.set_cons_zero, List.set_cons_succ]
    refine wpAnyH_take (i := 21) (v := ?_) rfl (by kernel_rfl) (by kernel_rfl) (by kernel_rfl) (fun _ _ _ h => h) ?_ hHeld ?_; rotate_left; · (simp only [List.getElem_toArray, List.getElem_cons_succ, List.getElem_cons_zero]; refine Or.inl ⟨by rfl, ?_⟩; intro w hSw; (try dsimp only at hSw); obtain ⟨s1, s2, s3⟩ := hSw; go_simp; try with_reducible rfl)
    try simp only [List.getElem_toArray, List.getElem_cons_succ, List.getElem_cons_zero, Act.put, List.setIfInBounds_toArray, List.set_cons_zero, List.set_cons_succ]
    refine wpAnyH_take (i := 22) (v := ?_) rfl (by kernel_rfl) (by kernel_rfl) (by kernel_rfl) (fun _ _ _ h => h) ?_ hHeld ?_; rotate_left; · (simp only [List.getElem_toArray, List.getElem_cons_succ, List.getElem_cons_zero]; refine Or.inl ⟨by rfl, ?_⟩; intro w hSw; (try dsimp only at hSw); obtain ⟨s1, s2, s3⟩ := hSw; go_simp; try with_reducible rfl)
    try simp only [List.getElem_toArray, List.getElem_cons_succ, List.getElem_cons_zero, Act.put, List.setIfInBounds_toArray, List.set_cons_zero, List.set_cons_succ]
    refine wpAnyH_take (i := 23) (v := ?_) rfl (by kernel_rfl) (by kernel_rfl) (by kernel_rfl) (fun _ _ _ h => h) ?_ hHeld ?_; rotate_left; · (simp only [List.getElem_toArray, List.getElem_cons_succ, List.getElem_cons_zero]; refine Or.inl ⟨by rfl, ?_⟩; intro w hSw; (try dsimp only at hSw); obtain ⟨s1, s2, s3⟩ := hSw; go_simp; try with_reducible rfl)
    try simp only [List.getElem_toArray, List.getElem_cons_succ, List.getElem_cons_zero, Act.put, List.setIfInBounds_toArray, List.set_cons_zero, List.set_cons_succ]
    refine wpAnyH_take (i := 24) (v := ?_) rfl (by kernel_rfl) (by kernel_rfl) (by kernel_rfl) (fun _ _ _ h => h) ?_ hHeld ?_; rotate_left; · (simp only [List.getElem_toArray, List.getElem_cons_succ, List.getElem_cons_zero]; refine Or.inl ⟨by rfl, ?_⟩; intro w hSw; (try dsimp only at hSw); obtain ⟨s1, s2, s3⟩ := hSw; go_simp; try with_reducible rfl)
    try simp only [List.getElem_toArray, List.getElem_cons_succ, List.getElem_cons_zero, Act.put, List.setIfInBounds_toArray, List.set_cons_zero, List.set_cons_succ]
    refine wpAnyH_take (i := 25) (v := ?_) rfl (by kernel_rfl) (by kernel_rfl) (by kernel_rfl) (fun _ _ _ h => h) ?_ hHeld ?_; rotate_left; · (simp only [List.getElem_toArray, List.getElem_cons_succ, List.getElem_cons_zero]; refine Or.inl ⟨by rfl, ?_⟩; intro w hSw; (try dsimp only at hSw); obtain ⟨s1, s2, s3⟩ := hSw; go_simp; try with_reducible rfl)
    try simp only [List.getElem_toArray, List.getElem_cons_succ, List.getElem_cons_zero, Act.put, List.setIfInBounds_toArray, List.set_cons_zero, List.set_cons_succ]
    refine wpAnyH_take (i := 26) (v := ?_) rfl (by kernel_rfl) (by kernel_rfl) (by kernel_rfl) (fun _ _ _ h => h) ?_ hHeld ?_; rotate_left; · (simp only [List.getElem_toArray, List.getElem_cons_succ, List.getElem_cons_zero]; refine Or.inl ⟨by rfl, ?_⟩; intro w hSw; (try dsimp only at hSw); obtain ⟨s1, s2, s3⟩ := hSw; go_simp; try with_reducible rfl)
    try simp only [List.getElem_toArray, List.getElem_cons_succ, List.getElem_cons_zero, Act.put, List.setIfInBounds_toArray, List.set_cons_zero, List.set_cons_succ]
    refine wpAnyH_take (i := 27) (v := ?_) rfl (by kernel_rfl) (by kernel_rfl) (by kernel_rfl) (fun _ _ _ h => h) ?_ hHeld ?_; rotate_left; · (simp only [List.getElem_toArray, List.getElem_cons_succ, List.getElem_cons_zero]; refine Or.inl ⟨by rfl, ?_⟩; intro w hSw; (try dsimp only at hSw); obtain ⟨s1, s2, s3⟩ := hSw; go_simp; try with_reducible rfl)
    try simp only [List.getElem_toArray, List.getElem_cons_succ, List.getElem_cons_zero, Act.put, List.setIfInBounds_toArray, List.set_cons_zero, List.set_cons_succ]
    refine wpAnyH_take (i := 28) (v := ?_) rfl (by kernel_rfl) (by kernel_rfl) (by kernel_rfl) (fun _ _ _ h => h) ?_ hHeld ?_; rotate_left; · (simp only [List.getElem_toArray, List.getElem_cons_succ, List.getElem_cons_zero]; refine Or.inl ⟨by rfl, ?_⟩; intro w hSw; (try dsimp only at hSw); obtain ⟨s1, s2, s3⟩ := hSw; go_simp; try with_reducible rfl)
    try simp only [List.getElem_toArray, List.getElem_cons_succ, List.getElem_cons_zero, Act.put, List.setIfInBounds_toArray, List.set_cons_zero, List.set_cons_succ]
    refine wpAnyH_take (i := 29) (v := ?_) rfl (by kernel_rfl) (by kernel_rfl) (by kernel_rfl) (fun _ _ _ h => h) ?_ hHeld ?_; rotate_left; · (simp only [List.getElem_toArray, List.getElem_cons_succ, List.getElem_cons_zero]; refine Or.inl ⟨by rfl, ?_⟩; intro w hSw; (try dsimp only at hSw); obtain ⟨s1, s2, s3⟩ := hSw; go_simp; try with_reducible rfl)
    try simp only [List.getElem_toArray, List.getElem_cons_succ, List.getElem_cons_zero, Act.put, List.setIfInBounds_toArray, List.set_cons_zero, List.set_cons_succ]
    refine wpAnyH_take (i := 30) (v := ?_) rfl (by kernel_rfl) (by kernel_rfl) (by kernel_rfl) (fun _ _ _ h => h) ?_ hHeld ?_; rotate_left; · (simp only [List.getElem_toArray, List.getElem_cons_succ, List.getElem_cons_zero]; refine Or.inl ⟨by rfl, ?_⟩; intro w hSw; (try dsimp only at hSw); obtain ⟨s1, s2, s3⟩ := hSw; go_simp; try with_reducible rfl)
    try simp only [List.getElem_toArray, List.getElem_cons_succ, List.getElem_cons_zero, Act.put, List.setIfInBounds_toArray, List.set_cons_zero, List.set_cons_succ]
    refine wpAnyH_done (by kernel_rfl) ?_ _
    go_wp2
    exact bodyPost_ret (results_tmp rfl _ _ _) rfl ⟨rfl, (Below.refl _ w).drew⟩
  · have hno : s.data.toList[a]? = none := List.getElem?_eq_none (by rw [Array.length_toList]; exact Nat.le_of_not_lt hlt)
    rw [hno]
    have hl2 : decide ((a : Int) < (s.size : Int)) = false := decide_eq_false (by omega)
    clear h c0 c1 c4 hno
    go_enter Try.func124, Try.ntmps124
    go_wp2_with fail
    refine wp_region_held_drew (S := fun W' => W'.cell? ⟨pb, 0, none⟩ = some (.string s) ∧ W'.cell? ⟨pb, 1, none⟩ = some (.int .i64 (a : Int)) ∧ W'.cell? ⟨pb, 4, none⟩ = some (.int .i64 0)) (by kernel_rfl) SB.out (fun hHeld => ?_)
    refine wpAnyH_take (i := 0) (v := ?_) rfl (by kernel_rfl) (by kernel_rfl) (by kernel_rfl) (fun _ _ _ h => h) ?_ hHeld ?_; rotate_left; · (simp only [List.getElem_toArray, List.getElem_cons_zero]; refine Or.inl ⟨by rfl, ?_⟩; intro w hSw; (try dsimp only at hSw); obtain ⟨s1, s2, s3⟩ := hSw; go_simp; try with_reducible rfl)
    try simp only [List.getElem_toArray, List.getElem_cons_zero, Act.put, List.setIfInBounds_toArray, List.set_cons_zero, List.set_cons_succ]
    refine wpAnyH_take (i := 1) (v := ?_) rfl (by kernel_rfl) (by kernel_rfl) (by kernel_rfl) (fun _ _ _ h => h) ?_ hHeld ?_; rotate_left; · (simp only [List.getElem_toArray, List.getElem_cons_succ, List.getElem_cons_zero]; refine Or.inl ⟨by rfl, ?_⟩; intro w hSw; (try dsimp only at hSw); obtain ⟨s1, s2, s3⟩ := hSw; go_simp; try with_reducible rfl)
    try simp only [List.getElem_toArray, List.getElem_cons_succ, List.getElem_cons_zero, Act.put, List.setIfInBounds_toArray, List.set_cons_zero, List.set_cons_succ]
    refine wpAnyH_take (i := 2) (v := ?_) rfl (by kernel_rfl) (by kernel_rfl) (by kernel_rfl) (fun _ _ _ h => h) ?_ hHeld ?_; rotate_left; · (simp only [List.getElem_toArray, List.getElem_cons_succ, List.getElem_cons_zero]; refine Or.inl ⟨by rfl, ?_⟩; intro w hSw; (try dsimp only at hSw); obtain ⟨s1, s2, s3⟩ := hSw; go_simp; try with_reducible rfl)
    try simp only [List.getElem_toArray, List.getElem_cons_succ, List.getElem_cons_zero, Act.put, List.setIfInBounds_toArray, List.set_cons_zero, List.set_cons_succ]
    refine wpAnyH_take (i := 3) (v := ?_) rfl (by kernel_rfl) (by kernel_rfl) (by kernel_rfl) (fun _ _ _ h => h) ?_ hHeld ?_; rotate_left; · (simp only [List.getElem_toArray, List.getElem_cons_succ, List.getElem_cons_zero]; refine Or.inl ⟨by rfl, ?_⟩; intro w hSw; (try dsimp only at hSw); obtain ⟨s1, s2, s3⟩ := hSw; go_simp; try with_reducible rfl)
    try simp only [List.getElem_toArray, List.getElem_cons_succ, List.getElem_cons_zero, Act.put, List.setIfInBounds_toArray, List.set_cons_zero, List.set_cons_succ]
    refine wpAnyH_take (i := 4) (v := ?_) rfl (by kernel_rfl) (by kernel_rfl) (by kernel_rfl) (fun _ _ _ h => h) ?_ hHeld ?_; rotate_left; · (simp only [List.getElem_toArray, List.getElem_cons_succ, List.getElem_cons_zero]; refine Or.inl ⟨by rfl, ?_⟩; intro w hSw; (try dsimp only at hSw); obtain ⟨s1, s2, s3⟩ := hSw; go_simp; try with_reducible rfl)
    try simp only [List.getElem_toArray, List.getElem_cons_succ, List.getElem_cons_zero, Act.put, List.setIfInBounds_toArray, List.set_cons_zero, List.set_cons_succ]
    refine wpAnyH_take (i := 5) (v := ?_) rfl (by kernel_rfl) (by kernel_rfl) (by kernel_rfl) (fun _ _ _ h => h) ?_ hHeld ?_; rotate_left; · (simp only [List.getElem_toArray, List.getElem_cons_succ, List.getElem_cons_zero]; refine Or.inl ⟨by rfl, ?_⟩; intro w hSw; (try dsimp only at hSw); obtain ⟨s1, s2, s3⟩ := hSw; go_simp; try with_reducible rfl)
    try simp only [List.getElem_toArray, List.getElem_cons_succ, List.getElem_cons_zero, Act.put, List.setIfInBounds_toArray, List.set_cons_zero, List.set_cons_succ]
    refine wpAnyH_take (i := 6) (v := ?_) rfl (by kernel_rfl) (by kernel_rfl) (by kernel_rfl) (fun _ _ _ h => h) ?_ hHeld ?_; rotate_left; · (simp only [List.getElem_toArray, List.getElem_cons_succ, List.getElem_cons_zero]; refine Or.inl ⟨by rfl, ?_⟩; intro w hSw; (try dsimp only at hSw); obtain ⟨s1, s2, s3⟩ := hSw; go_simp; try with_reducible rfl)
    try simp only [List.getElem_toArray, List.getElem_cons_succ, List.getElem_cons_zero, Act.put, List.setIfInBounds_toArray, List.set_cons_zero, List.set_cons_succ]
    refine wpAnyH_take (i := 7) (v := ?_) rfl (by kernel_rfl) (by kernel_rfl) (by kernel_rfl) (fun _ _ _ h => h) ?_ hHeld ?_; rotate_left; · (simp only [List.getElem_toArray, List.getElem_cons_succ, List.getElem_cons_zero]; refine Or.inl ⟨by rfl, ?_⟩; intro w hSw; (try dsimp only at hSw); obtain ⟨s1, s2, s3⟩ := hSw; go_simp; try with_reducible rfl)
    try simp only [List.getElem_toArray, List.getElem_cons_succ, List.getElem_cons_zero, Act.put, List.setIfInBounds_toArray, List.set_cons_zero, List.set_cons_succ]
    refine wpAnyH_take (i := 8) (v := ?_) rfl (by kernel_rfl) (by kernel_rfl) (by kernel_rfl) (fun _ _ _ h => h) ?_ hHeld ?_; rotate_left; · (simp only [List.getElem_toArray, List.getElem_cons_succ, List.getElem_cons_zero]; refine Or.inl ⟨by rfl, ?_⟩; intro w hSw; (try dsimp only at hSw); obtain ⟨s1, s2, s3⟩ := hSw; go_simp; try with_reducible rfl)
    try simp only [List.getElem_toArray, List.getElem_cons_succ, List.getElem_cons_zero, Act.put, List.setIfInBounds_toArray, List.set_cons_zero, List.set_cons_succ]
    refine wpAnyH_take (i := 9) (v := ?_) rfl (by kernel_rfl) (by kernel_rfl) (by kernel_rfl) (fun _ _ _ h => h) ?_ hHeld ?_; rotate_left; · (simp only [List.getElem_toArray, List.getElem_cons_succ, List.getElem_cons_zero]; refine Or.inl ⟨by rfl, ?_⟩; intro w hSw; (try dsimp only at hSw); obtain ⟨s1, s2, s3⟩ := hSw; go_simp; try with_reducible rfl)
    try simp only [List.getElem_toArray, List.getElem_cons_succ, List.getElem_cons_zero, Act.put, List.setIfInBounds_toArray, List.set_cons_zero, List.set_cons_succ]
    refine wpAnyH_take (i := 10) (v := ?_) rfl (by kernel_rfl) (by kernel_rfl) (by kernel_rfl) (fun _ _ _ h => h) ?_ hHeld ?_; rotate_left; · (simp only [List.getElem_toArray, List.getElem_cons_succ, List.getElem_cons_zero]; refine Or.inl ⟨by rfl, ?_⟩; intro w hSw; (try dsimp only at hSw); obtain ⟨s1, s2, s3⟩ := hSw; go_simp; try with_reducible rfl)
    try simp only [List.getElem_toArray, List.getElem_cons_succ, List.getElem_cons_zero, Act.put, List.setIfInBounds_toArray, List.set_cons_zero, List.set_cons_succ]
    refine wpAnyH_take (i := 11) (v := ?_) rfl (by kernel_rfl) (by kernel_rfl) (by kernel_rfl) (fun _ _ _ h => h) ?_ hHeld ?_; rotate_left; · (simp only [List.getElem_toArray, List.getElem_cons_succ, List.getElem_cons_zero]; refine Or.inl ⟨by rfl, ?_⟩; intro w hSw; (try dsimp only at hSw); obtain ⟨s1, s2, s3⟩ := hSw; go_simp; try with_reducible rfl)
    try simp only [List.getElem_toArray, List.getElem_cons_succ, List.getElem_cons_zero, Act.put, List.setIfInBounds_toArray, List.set_cons_zero, List.set_cons_succ]
    refine wpAnyH_take (i := 12) (v := ?_) rfl (by kernel_rfl) (by kernel_rfl) (by kernel_rfl) (fun _ _ _ h => h) ?_ hHeld ?_; rotate_left; · (simp only [List.getElem_toArray, List.getElem_cons_succ, List.getElem_cons_zero]; refine Or.inl ⟨by rfl, ?_⟩; intro w hSw; (try dsimp only at hSw); obtain ⟨s1, s2, s3⟩ := hSw; go_simp; try with_reducible rfl)
    try simp only [List.getElem_toArray, List.getElem_cons_succ, List.getElem_cons_zero, Act.put, List.setIfInBounds_toArray, List.set_cons_zero, List.set_cons_succ]
    refine wpAnyH_take (i := 13) (v := ?_) rfl (by kernel_rfl) (by kernel_rfl) (by kernel_rfl) (fun _ _ _ h => h) ?_ hHeld ?_; rotate_left; · (simp only [List.getElem_toArray, List.getElem_cons_succ, List.getElem_cons_zero]; refine Or.inl ⟨by rfl, ?_⟩; intro w hSw; (try dsimp only at hSw); obtain ⟨s1, s2, s3⟩ := hSw; go_simp; try with_reducible rfl)
    try simp only [List.getElem_toArray, List.getElem_cons_succ, List.getElem_cons_zero, Act.put, List.setIfInBounds_toArray, List.set_cons_zero, List.set_cons_succ]
    refine wpAnyH_take (i := 14) (v := ?_) rfl (by kernel_rfl) (by kernel_rfl) (by kernel_rfl) (fun _ _ _ h => h) ?_ hHeld ?_; rotate_left; · (simp only [List.getElem_toArray, List.getElem_cons_succ, List.getElem_cons_zero]; refine Or.inl ⟨by rfl, ?_⟩; intro w hSw; (try dsimp only at hSw); obtain ⟨s1, s2, s3⟩ := hSw; go_simp; try with_reducible rfl)
    try simp only [List.getElem_toArray, List.getElem_cons_succ, List.getElem_cons_zero, Act.put, List.setIfInBounds_toArray, List.set_cons_zero, List.set_cons_succ]
    refine wpAnyH_take (i := 15) (v := ?_) rfl (by kernel_rfl) (by kernel_rfl) (by kernel_rfl) (fun _ _ _ h => h) ?_ hHeld ?_; rotate_left; · (simp only [List.getElem_toArray, List.getElem_cons_succ, List.getElem_cons_zero]; refine Or.inl ⟨by rfl, ?_⟩; intro w hSw; (try dsimp only at hSw); obtain ⟨s1, s2, s3⟩ := hSw; go_simp; try with_reducible rfl)
    try simp only [List.getElem_toArray, List.getElem_cons_succ, List.getElem_cons_zero, Act.put, List.setIfInBounds_toArray, List.set_cons_zero, List.set_cons_succ]
    refine wpAnyH_take (i := 16) (v := ?_) rfl (by kernel_rfl) (by kernel_rfl) (by kernel_rfl) (fun _ _ _ h => h) ?_ hHeld ?_; rotate_left; · (simp only [List.getElem_toArray, List.getElem_cons_succ, List.getElem_cons_zero]; refine Or.inl ⟨by rfl, ?_⟩; intro w hSw; (try dsimp only at hSw); obtain ⟨s1, s2, s3⟩ := hSw; go_simp; try with_reducible rfl)
    try simp only [List.getElem_toArray, List.getElem_cons_succ, List.getElem_cons_zero, Act.put, List.setIfInBounds_toArray, List.set_cons_zero, List.set_cons_succ]
    refine wpAnyH_take (i := 17) (v := ?_) rfl (by kernel_rfl) (by kernel_rfl) (by kernel_rfl) (fun _ _ _ h => h) ?_ hHeld ?_; rotate_left; · (simp only [List.getElem_toArray, List.getElem_cons_succ, List.getElem_cons_zero]; refine Or.inl ⟨by rfl, ?_⟩; intro w hSw; (try dsimp only at hSw); obtain ⟨s1, s2, s3⟩ := hSw; go_simp; try with_reducible rfl)
    try simp only [List.getElem_toArray, List.getElem_cons_succ, List.getElem_cons_zero, Act.put, List.setIfInBounds_toArray, List.set_cons_zero, List.set_cons_succ]
    refine wpAnyH_take (i := 18) (v := undef) rfl (by kernel_rfl) (by kernel_rfl) (by kernel_rfl) (fun _ _ _ h => h) ?_ hHeld ?_; · (simp only [List.getElem_toArray, List.getElem_cons_succ, List.getElem_cons_zero]; exact Or.inr ⟨by rfl, rfl⟩)
    try simp only [List.getElem_toArray, List.getElem_cons_succ, List.getElem_cons_zero, Act.put, List.setIfInBounds_toArray, List.set_cons_zero, List.set_cons_succ]
    refine wpAnyH_take (i := 19) (v := undef) rfl (by kernel_rfl) (by kernel_rfl) (by kernel_rfl) (fun _ _ _ h => h) ?_ hHeld ?_; · (simp only [List.getElem_toArray, List.getElem_cons_succ, List.getElem_cons_zero]; exact Or.inr ⟨by rfl, rfl⟩)
    try simp only [List.getElem_toArray, List.getElem_cons_succ, List.getElem_cons_zero, Act.put, List.setIfInBounds_toArray, List.set_cons_zero, List.set_cons_succ]
    refine wpAnyH_take (i := 20) (v := undef) rfl (by kernel_rfl) (by kernel_rfl) (by kernel_rfl) (fun _ _ _ h => h) ?_ hHeld ?_; · (simp only [List.getElem_toArray, List.getElem_cons_succ, List.getElem_cons_zero]; exact Or.inr ⟨by rfl, rfl⟩)
    try simp only [List.getElem_toArray, List.getElem_cons_succ, List.getElem_cons_zero, Act.put, List.setIfInBounds_toArray, List.set_cons_zero, List.set_cons_succ]
    refine wpAnyH_take (i := 21) (v := undef) rfl (by kernel_rfl) (by kernel_rfl) (by kernel_rfl) (fun _ _ _ h => h) ?_ hHeld ?_; · (simp only [List.getElem_toArray, List.getElem_cons_succ, List.getElem_cons_zero]; exact Or.inr ⟨by rfl, rfl⟩)
    try simp only [List.getElem_toArray, List.getElem_cons_succ, List.getElem_cons_zero, Act.put, List.setIfInBounds_toArray, List.set_cons_zero, List.set_cons_succ]
    refine wpAnyH_take (i := 22) (v := undef) rfl (by kernel_rfl) (by kernel_rfl) (by kernel_rfl) (fun _ _ _ h => h) ?_ hHeld ?_; · (simp only [List.getElem_toArray, List.getElem_cons_succ, List.getElem_cons_zero]; exact Or.inr ⟨by rfl, rfl⟩)
    try simp only [List.getElem_toArray, List.getElem_cons_succ, List.getElem_cons_zero, Act.put, List.setIfInBounds_toArray, List.set_cons_zero, List.set_cons_succ]
    refine wpAnyH_take (i := 23) (v := undef) rfl (by kernel_rfl) (by kernel_rfl) (by kernel_rfl) (fun _ _ _ h => h) ?_ hHeld ?_; · (simp only [List.getElem_toArray, List.getElem_cons_succ, List.getElem_cons_zero]; exact Or.inr ⟨by rfl, rfl⟩)
    try simp only [List.getElem_toArray, List.getElem_cons_succ, List.getElem_cons_zero, Act.put, List.setIfInBounds_toArray, List.set_cons_zero, List.set_cons_succ]
    refine wpAnyH_take (i := 24) (v := undef) rfl (by kernel_rfl) (by kernel_rfl) (by kernel_rfl) (fun _ _ _ h => h) ?_ hHeld ?_; · (simp only [List.getElem_toArray, List.getElem_cons_succ, List.getElem_cons_zero]; exact Or.inr ⟨by rfl, rfl⟩)
    try simp only [List.getElem_toArray, List.getElem_cons_succ, List.getElem_cons_zero, Act.put, List.setIfInBounds_toArray, List.set_cons_zero, List.set_cons_succ]
    refine wpAnyH_take (i := 25) (v := undef) rfl (by kernel_rfl) (by kernel_rfl) (by kernel_rfl) (fun _ _ _ h => h) ?_ hHeld ?_; · (simp only [List.getElem_toArray, List.getElem_cons_succ, List.getElem_cons_zero]; exact Or.inr ⟨by rfl, rfl⟩)
    try simp only [List.getElem_toArray, List.getElem_cons_succ, List.getElem_cons_zero, Act.put, List.setIfInBounds_toArray, List.set_cons_zero, List.set_cons_succ]
    refine wpAnyH_take (i := 26) (v := undef) rfl (by kernel_rfl) (by kernel_rfl) (by kernel_rfl) (fun _ _ _ h => h) ?_ hHeld ?_; · (simp only [List.getElem_toArray, List.getElem_cons_succ, List.getElem_cons_zero]; exact Or.inr ⟨by rfl, rfl⟩)
    try simp only [List.getElem_toArray, List.getElem_cons_succ, List.getElem_cons_zero, Act.put, List.setIfInBounds_toArray, List.set_cons_zero, List.set_cons_succ]
    refine wpAnyH_take (i := 27) (v := undef) rfl (by kernel_rfl) (by kernel_rfl) (by kernel_rfl) (fun _ _ _ h => h) ?_ hHeld ?_; · (simp only [List.getElem_toArray, List.getElem_cons_succ, List.getElem_cons_zero]; exact Or.inr ⟨by rfl, rfl⟩)
    try simp only [List.getElem_toArray, List.getElem_cons_succ, List.getElem_cons_zero, Act.put, List.setIfInBounds_toArray, List.set_cons_zero, List.set_cons_succ]
    refine wpAnyH_take (i := 28) (v := undef) rfl (by kernel_rfl) (by kernel_rfl) (by kernel_rfl) (fun _ _ _ h => h) ?_ hHeld ?_; · (simp only [List.getElem_toArray, List.getElem_cons_succ, List.getElem_cons_zero]; exact Or.inr ⟨by rfl, rfl⟩)
    try simp only [List.getElem_toArray, List.getElem_cons_succ, List.getElem_cons_zero, Act.put, List.setIfInBounds_toArray, List.set_cons_zero, List.set_cons_succ]
    refine wpAnyH_take (i := 29) (v := ?_) rfl (by kernel_rfl) (by kernel_rfl) (by kernel_rfl) (fun _ _ _ h => h) ?_ hHeld ?_; rotate_left; · (simp only [List.getElem_toArray, List.getElem_cons_succ, List.getElem_cons_zero]; refine Or.inl ⟨by rfl, ?_⟩; intro w hSw; (try dsimp only at hSw); obtain ⟨s1, s2, s3⟩ := hSw; go_simp; try with_reducible rfl)
    try simp only [List.getElem_toArray, List.getElem_cons_succ, List.getElem_cons_zero, Act.put, List.setIfInBounds_toArray, List.set_cons_zero, List.set_cons_succ]
    refine wpAnyH_take (i := 30) (v := ?_) rfl (by kernel_rfl) (by kernel_rfl) (by kernel_rfl) (fun _ _ _ h => h) ?_ hHeld ?_; rotate_left; · (simp only [List.getElem_toArray, List.getElem_cons_succ, List.getElem_cons_zero]; refine Or.inl ⟨by rfl, ?_⟩; intro w hSw; (try dsimp only at hSw); obtain ⟨s1, s2, s3⟩ := hSw; go_simp; try with_reducible rfl)
    try simp only [List.getElem_toArray, List.getElem_cons_succ, List.getElem_cons_zero, Act.put, List.setIfInBounds_toArray, List.set_cons_zero, List.set_cons_succ]
    refine wpAnyH_done (by kernel_rfl) ?_ _
    go_wp2
    exact bodyPost_ret (results_tmp rfl _ _ _) rfl ⟨by simp, (Below.refl _ w).drew⟩
set_option maxHeartbeats 8000000 in
set_option maxRecDepth 20000 in
theorem lay_walk (B pb n at_ : Nat) (s : ByteArray) (v : Value) (ys : List Value) (k a b c d x y : Int) (w : World) (hb : w.heap[pb]? = some (.cells #[.string s, .int .i64 (at_ : Int), .int .i64 0, v, .int .i64 0] 129 (0, 0))) (h5 : w.ownsRow B 56 7 v n ys) (h1 : B ≤ pb) (h2 : B ≤ w.heap.size) (hl : n + 1 < 2000) :
    Calls Try.prog 125 #[.pointer (some ⟨pb, 0, none⟩), .int .i64 k, .agg #[.int .u64 a, .int .u64 b, .int .u64 c, .int .u64 d], .int .i64 x, .int .i64 y] w fun e w' => e = .returned (.int .i64 (n : Int)) ∧
      (∃ v', w'.heap[pb]? = some (.cells #[.string s, .int .i64 (at_ : Int), .int .i64 0, v', .int .i64 0] 129 (0, 0)) ∧ w'.ownsRow B 56 7 v' (n + 1) (ys ++ [.int .i64 k, .int .u64 a, .int .u64 b, .int .u64 c, .int .u64 d, .int .i64 x, .int .i64 y])) ∧ Below B w w' := by
  obtain ⟨ao, cap, hv⟩ : ∃ ao cap, v = .slice ao n cap := by
    rcases h5.2 with ⟨hv, h0⟩ | ⟨g, cap, cur, hv, _⟩
    · exact ⟨_, _, by rw [hv, h0]⟩
    · exact ⟨_, _, hv⟩
  subst hv
  obtain ⟨c0, c1, c2, c3, c4⟩ := five_cells hb
  have hplt := block_lt hb
  have hnp : (Value.slice ao n cap).ownBlock ≠ some pb := fun e => by
    rcases h5.2 with ⟨hv, _⟩ | ⟨g', _, cur, hv, _, hh, _⟩
    · rw [hv] at e; cases e
    · rw [hv] at e
      cases e
      rw [hb] at hh
      injection hh with hh
      injection hh with _ hh _
      exact absurd hh (by decide)
  have H4 := Lib.hid hb
  have H5 := Lib.hid h5
  have H6 := Lib.hid hnp
  have n0 := World.new_ne w ⟨pb, 3, none⟩ c3
  have n1 := World.new_ne w ⟨pb, 4, none⟩ c4
  clear hb h5 hnp c0 c1 c2
  have hnb : ((n : Int) == 2000) = false := by rw [beq_eq_false_iff_ne]; omega
  have hIn : IntKind.i64.wrap (((n + 1 : Nat) : Int) - 1) = (n : Int) := by rw [IntWalk.i64_in _ (by omega)]; omega
  obtain ⟨i0, hi, hz0, hz1, hz2⟩ := info_parts Try.infoRe
  go_enter Try.func125, Try.ntmps125
  go_wp2_with fail
  obtain ⟨⟨d0, d1, d2, d3⟩, -⟩ := res_four (heap_alloc_new w (.cells #[.int .u64 a, .int .u64 b, .int .u64 c, .int .u64 d] 54))
  obtain ⟨W, hW⟩ : ∃ W, W = w.alloc (.cells #[.int .u64 a, .int .u64 b, .int .u64 c, .int .u64 d] 54) := ⟨_, rfl⟩
  have hWz : W.heap.size = w.heap.size + 1 := by rw [hW]; simp
  have hold : ∀ j, j < w.heap.size → W.heap[j]? = w.heap[j]? := fun j hj => by rw [hW]; exact Below.heap_alloc _ _ _ hj
  have hbW : Below B w W := by rw [hW]; exact (Below.refl _ w).alloc h2 _
  rw [← hW] at d0 d1 d2 d3 ⊢
  clear hW n0 n1 c3 c4
  have H4' := Lib.hid ((hold pb hplt).trans H4.out)
  obtain ⟨e0, e1, e2, c0', e4⟩ := five_cells H4'.out
  clear e0 e1 e2
  have hown : W.ownsRow B 56 7 (.slice ao n cap) n ys := owns_same H5.out fun g hg => hold g (own_block_lt H5.out hg)
  obtain ⟨g0, hg0⟩ : ∃ g0, g0 = w.heap.size := ⟨_, rfl⟩
  rw [← hg0] at d0 d1 d2 d3 hWz ⊢
  have HG0 := Lib.hid hg0
  clear hg0
  have hpW : pb < W.heap.size := by have := HG0.out; omega
  have hgW : g0 < W.heap.size := by omega
  have hBg : B ≤ W.heap.size := by have := HG0.out; omega
  have hpo : ∀ r, (Value.slice ao n cap).ownBlock = some r → r ≠ pb := fun r hr e => H6.out (by rw [hr, e])
  have hgo : ∀ r, (Value.slice ao n cap).ownBlock = some r → r ≠ g0 := fun r hr e => by have := own_block_lt H5.out hr; have := HG0.out; omega
  have SW : ∀ W' : World, W'.heap[pb]? = W.heap[pb]? → W'.heap[g0]? = W.heap[g0]? → (W'.cell? ⟨pb, 3, none⟩ = some (.slice ao n cap) ∧ W'.cell? ⟨g0, 0, none⟩ = some (.int .u64 a) ∧ W'.cell? ⟨g0, 1, none⟩ = some (.int .u64 b) ∧ W'.cell? ⟨g0, 2, none⟩ = some (.int .u64 c) ∧ W'.cell? ⟨g0, 3, none⟩ = some (.int .u64 d)) := fun W' hb1 hb2 => by
    have e1 : ∀ o, W'.cell? ⟨pb, o, none⟩ = W.cell? ⟨pb, o, none⟩ := fun o => by unfold World.cell?; rw [hb1]
    have e2 : ∀ o, W'.cell? ⟨g0, o, none⟩ = W.cell? ⟨g0, o, none⟩ := fun o => by unfold World.cell?; rw [hb2]
    rw [e1, e2, e2, e2, e2]
    exact ⟨c0', d0, d1, d2, d3⟩
  have SWH := Lib.hid SW
  clear SW
  have ca : (W.alloc (.cells #[.int .i64 k, .int .u64 a, .int .u64 b, .int .u64 c, .int .u64 d, .int .i64 x, .int .i64 y] 56)).cell? ⟨pb, 3, none⟩ = some (.slice ao n cap) := (World.cell?_alloc_some W _ _ (by rw [c0']; rfl)).trans c0'
  go_region_law
    (first
      | (refine step_append_own rfl (.tmp 35) (.tmp 42) 22 rfl B 56 i0 _ 7 56 Try.underlying22 hi hz0 hz1 hz2 rfl (by decide) _ n ys (by simp [Act.eval]) (hown.drew.alloc _) ⟨W.heap.size, 0, none⟩ 1 1 [.int .i64 k, .int .u64 a, .int .u64 b, .int .u64 c, .int .u64 d, .int .i64 x, .int .i64 y] (by simp [Act.eval]) rfl (cells_seven _ _ _ _ _ _ _ _ _) (by simp [Value.oneCell']) (by unfold maxLen; omega) (by omega) (by simp; omega) ?_; intro v2 w2 hown2 hgrow2; have hp2 : w2.heap[pb]? = W.heap[pb]? := (hgrow2.block pb (by simp; omega) (fun e => hpo pb e.symm rfl)).trans (Below.heap_alloc _ _ _ hpW); have hg2 : w2.heap[g0]? = W.heap[g0]? := (hgrow2.block g0 (by simp; omega) (fun e => hgo g0 e.symm rfl)).trans (Below.heap_alloc _ _ _ hgW); have hS2 := SWH.out w2 hp2 hg2; have hp3 : w2.heap[pb]? = _ := hp2.trans H4'.out; have cp2 : w2.cell? ⟨pb, 3, none⟩ = some (.slice ao n cap) := hS2.1; have fp2 : w2.frozen? ⟨pb, 3, none⟩ = false := frozen_of_heap hp3 3; obtain ⟨g2, cap2, rfl⟩ := owned_slice hown2 (by omega)))
  all_goals
    obtain ⟨Z, hZ⟩ : ∃ Z, Z = w2.setCell ⟨pb, 3, none⟩ (.slice (some ⟨g2, 0, none⟩) (n + 1) cap2) := ⟨_, rfl⟩
    rw [← hZ]
    have hnew : Z.heap[pb]? = some (.cells #[.string s, .int .i64 (at_ : Int), .int .i64 0, .slice (some ⟨g2, 0, none⟩) (n + 1) cap2, .int .i64 0] 129 (0, 0)) := by
      rw [hZ]
      simpa using heap_setCell_same w2 pb 3 _ _ (Value.slice (some ⟨g2, 0, none⟩) (n + 1) cap2) hp3
    have hne : (Value.slice (some ⟨g2, 0, none⟩) (n + 1) cap2).ownBlock ≠ some pb := fun e => by
      rcases hown2.2 with ⟨hv, _⟩ | ⟨g', _, cur, hv, _, hh, _⟩
      · cases hv
      · cases hv
        cases e
        rw [hp3] at hh
        injection hh with hh
        injection hh with _ hh _
        exact absurd hh (by decide)
    have hownZ : Z.ownsRow B 56 7 (.slice (some ⟨g2, 0, none⟩) (n + 1) cap2) (n + 1) (ys ++ [.int .i64 k, .int .u64 a, .int .u64 b, .int .u64 c, .int .u64 d, .int .i64 x, .int .i64 y]) := owns_same hown2 fun q hq => by rw [hZ]; exact Below.heap_setCell _ _ _ _ (fun e => hne (by rw [hq]; exact congrArg some e))
    have hlow : Below B w Z := by
      rw [hZ]
      refine hbW.trans (Below.setCell (p := ⟨pb, 3, none⟩) ?_ h1 _)
      first
        | exact ((Below.refl B W).drew.alloc hBg _).grown hgrow2 (by simp; omega) (fun r hr => own_base H5.out hr)
        | exact (((Below.refl B W).alloc hBg _).drew).grown hgrow2 (by simp; omega) (fun r hr => own_base H5.out hr)
    have cz := (five_cells hnew).2.2.2.1
    have HZ := Lib.hid (And.intro hnew (And.intro hownZ hlow))
    clear hZ hnew hne hownZ hlow hown2 hgrow2 hp2 hg2 hS2 hp3 cp2 fp2 d0 d1 d2 d3 e4 c0' ca
    go_wp2
    exact bodyPost_ret (results_tmp rfl _ _ _) rfl ⟨rfl, ⟨_, HZ.out.1, HZ.out.2.1⟩, HZ.out.2.2⟩
theorem lay_any (B pb at_ : Nat) (s : ByteArray) (ts : List Nd) (k x y : Int) (K : K4) (w : World) (h : Ps B pb s at_ ts w) (hl : ts.length + 1 < 2000) :
    Calls Try.prog 125 #[.pointer (some ⟨pb, 0, none⟩), .int .i64 k, .agg #[.int .u64 (K.a.toNat : Int), .int .u64 (K.b.toNat : Int), .int .u64 (K.c.toNat : Int), .int .u64 (K.d.toNat : Int)], .int .i64 x, .int .i64 y] w fun e w' => e = .returned (.int .i64 (ts.length : Int)) ∧ Ps B pb s at_ (ts ++ [⟨k, K, x, y⟩]) w' ∧ Below B w w' := by
  obtain ⟨v, h1, h2⟩ := h.blk
  refine (lay_walk B pb ts.length at_ s v (ndC ts) k _ _ _ _ x y w h1 h2 h.hB.1 h.hB.2 hl).mono ?_
  rintro e w' ⟨rfl, ⟨v', g1, g2⟩, g3⟩
  refine ⟨rfl, ⟨⟨v', g1, ?_⟩, ⟨h.hB.1, Nat.le_trans h.hB.2 g3.size⟩, ⟨by rw [List.length_append]; exact hl, h.sml.2⟩⟩, g3⟩
  rw [ndC_append, List.length_append]
  exact g2
end Go.Proofs.Ytgffmbdbjbhocaa
namespace Go.Proofs.Ytgffmbdbjbhocaa
open Go.RowKit Go.Lib

/-- A class with a byte. -/
def addK (k : Cl) (x : Nat) : Cl := fun i => if i = x / 64 then k i ||| BitVec.twoPow 64 (x % 64) else k i
theorem has_add (k : Cl) (x d : Nat) : has (addK k x) d = (has k d || decide (d = x)) := by
  unfold has addK
  split
  · rename_i h
    rw [BitVec.getLsbD_or, BitVec.getLsbD_twoPow]
    congr 1
    rw [Bool.eq_iff_iff]
    simp only [Bool.and_eq_true, decide_eq_true_eq]
    omega
  · rename_i h
    rw [show decide (d = x) = false by rw [decide_eq_false_iff_not]; intro e; exact h (by rw [e]), Bool.or_false]
theorem add_word (y : BitVec 64) (n : Nat) (hn : n < 64) (h : y.getLsbD n = false) : IntKind.u64.wrap ((y.toNat : Int) + ((2 ^ n : Nat) : Int)) = ((y ||| BitVec.twoPow 64 n).toNat : Int) := by
  have h1 : y &&& BitVec.twoPow 64 n = 0#64 := by rw [BitVec.and_twoPow, h]; rfl
  have h2 : 2 ^ n < 2 ^ 64 := Nat.pow_lt_pow_right (by omega) hn
  have h3 : (2 : Nat) ^ 64 = 18446744073709551616 := by decide
  rw [← BitVec.add_eq_or_of_and_eq_zero _ _ h1, BitVec.toNat_add, BitVec.toNat_twoPow, IntKind.wrap_u64, Nat.mod_eq_of_lt h2]
  generalize 2 ^ n = p at h2
  rw [h3]
  omega
theorem add_on (k : Cl) (x i : Nat) (hi : i = x / 64) (h : has k x = false) : IntKind.u64.wrap (((k i).toNat : Int) + ((2 ^ (x % 64) : Nat) : Int)) = ((addK k x i).toNat : Int) := by
  unfold has at h
  rw [← hi] at h
  rw [add_word _ _ (Nat.mod_lt _ (by omega)) h]
  unfold addK
  rw [if_pos hi]
theorem add_at (k : Cl) (x i : Nat) (hi : ¬ i = x / 64) : ((k i).toNat : Int) = ((addK k x i).toNat : Int) := by
  unfold addK
  rw [if_neg hi]
theorem add_same (k : Cl) (x : Nat) (h : has k x = true) : clsV (addK k x) = clsV k := clsV_ext fun d _ => by
  rw [has_add]
  by_cases hd : d = x
  · subst hd
    rw [h]
    rfl
  · rw [decide_eq_false hd, Bool.or_false]

theorem two_boxes {w w1 : World} {A B : Array Value} {t u : TypeId} (h : Below ((w.alloc (.cells A t)).alloc (.cells B u)).heap.size ((w.alloc (.cells A t)).alloc (.cells B u)) w1) :
    w1.heap[w.heap.size]? = some (.cells A t (0, 0)) ∧ w1.heap[w.heap.size + 1]? = some (.cells B u (0, 0)) ∧ Below w.heap.size w w1 := by
  refine ⟨(h.block _ (by simp; omega)).trans ((Below.heap_alloc (w.alloc (.cells A t)) _ (w.heap.size) (by simp)).trans (heap_alloc_new w _)), (h.block _ (by simp)).trans ?_, (((Below.refl _ w).alloc (Nat.le_refl _) _).alloc (by simp) _).trans (h.mono (by simp; omega))⟩
  have := heap_alloc_new (w.alloc (.cells A t)) (.cells B u)
  rwa [World.size_alloc] at this

set_option maxHeartbeats 2000000 in
set_option maxRecDepth 20000 in
theorem with_any (k : Cl) (x : Int) (w : World) (hx0 : 0 ≤ x) (hx1 : x ≤ 255) :
    Calls Try.prog 79 #[clsV k, .int .u8 x] w fun e w' => e = .returned (clsV (addK k x.toNat)) ∧ Below w.heap.size w w' := by
  have k1 : ∀ Z, Calls Try.prog 78 #[.agg #[.int .u64 ((k 0).toNat : Int), .int .u64 ((k 1).toNat : Int), .int .u64 ((k 2).toNat : Int), .int .u64 ((k 3).toNat : Int)], .int .u8 x] Z fun e w' => e = .returned (.bool (has k x.toNat)) ∧ Below Z.heap.size Z w' := fun Z => refHas_any k x Z hx0 hx1
  cases hr : has k x.toNat
  · rw [hr] at k1
    obtain ⟨q, hq⟩ : ∃ q, q = x / 64 := ⟨_, rfl⟩
    have hq4 : q = 0 ∨ q = 1 ∨ q = 2 ∨ q = 3 := by omega
    obtain ⟨P, hP⟩ : ∃ P, P = IntKind.u64.wrap (2 ^ (x % 64).toNat) := ⟨_, rfl⟩
    have HP := Lib.hid (hP.trans (bit_wrap x hx0))
    have hP' := hP.symm
    have HR := Lib.hid hr
    obtain ⟨E, hE⟩ : ∃ E : Ending, E = .returned (clsV (addK k x.toNat)) := ⟨_, rfl⟩
    have HE := Lib.hid hE
    rw [← hE]
    unfold clsV clsA wd
    clear hP hr hE
    rcases hq4 with h | h | h | h
    all_goals
      rw [h] at hq
      have hq' := hq.symm
      have hn : x.toNat / 64 = q.toNat := by omega
      rw [h] at hn
      have HN := Lib.hid hn
      clear hq hn
      go_enter Try.func79, Try.ntmps79
      go_wp2_with (first
        | (go_at_call 78; refine (k1 _).mono ?_; rintro en w1 ⟨rfl, hb1⟩; clear k1
           obtain ⟨hg0, hg1, hb1⟩ := two_boxes hb1
           obtain ⟨⟨c0, c1, c2, c3⟩, f0, f1, f2, f3⟩ := res_four hg0
           obtain ⟨⟨d0, d1, d2, d3⟩, e0, e1, e2, e3⟩ := res_four hg1
           have HG := Lib.hid hg0
           have HG1 := Lib.hid hg1
           have H1 := Lib.hid hb1
           clear hg0 hg1 hb1))
      refine bodyPost_ret (v := .agg _) (results_cell_row (p := 4) (ty := 54) Try.results79 _ _ (w.heap.size + 1) 54 _ (0, 0) _ rfl
        (set_four _ _ _ _ ((Below.heap_setCell w1 _ _ _ (by simp)).trans HG1.out)) Try.underlying54 rfl Try.infoCls) rfl ⟨?_, below_four (H1.out.setCell (Nat.le_refl _) _) (by omega) _ _ _ _⟩
      rw [HE.out, HP.out]
      refine ret_four ?_ ?_ ?_ ?_
      all_goals first | exact add_on k _ _ (by rw [HN.out]; rfl) HR.out | exact add_at k _ _ (by rw [HN.out]; decide)
  · rw [hr] at k1
    obtain ⟨E, hE⟩ : ∃ E : Ending, E = .returned (clsV (addK k x.toNat)) := ⟨_, rfl⟩
    have HE := Lib.hid (hE.trans (by rw [add_same k _ hr]))
    rw [← hE]
    unfold clsV clsA wd
    clear hE
    go_enter Try.func79, Try.ntmps79
    go_wp2_with (first
      | (go_at_call 78; refine (k1 _).mono ?_; rintro en w1 ⟨rfl, hb1⟩; clear k1
         obtain ⟨hg0, hg1, hb1⟩ := two_boxes hb1
         obtain ⟨⟨c0, c1, c2, c3⟩, f0, f1, f2, f3⟩ := res_four hg0
         obtain ⟨⟨d0, d1, d2, d3⟩, e0, e1, e2, e3⟩ := res_four hg1
         have HG := Lib.hid hg0
         have HG1 := Lib.hid hg1
         have H1 := Lib.hid hb1
         clear hg0 hg1 hb1))
    refine bodyPost_ret (v := .agg _) (results_cell_row (p := 4) (ty := 54) Try.results79 _ _ (w.heap.size + 1) 54 _ (0, 0) _ rfl
      (set_four _ _ _ _ HG1.out) Try.underlying54 rfl Try.infoCls) rfl ⟨?_, below_four H1.out (by omega) _ _ _ _⟩
    rw [HE.out]
    rfl
end Go.Proofs.Ytgffmbdbjbhocaa
namespace Go.Proofs.Ytgffmbdbjbhocaa
open Go.RowKit Go.Lib

theorem four_staysR {w w1 w2 : World} {p q r s : Value} {t : TypeId} (hw : w1 = w.alloc (.cells #[p, q, r, s] t)) (hb : Below w1.heap.size w1 w2) : w2.heap[w.heap.size]? = some (.cells #[p, q, r, s] t (0, 0)) := by
  subst hw
  exact (hb.block _ (by simp)).trans (heap_alloc_new w _)
theorem has_zeroK (d : Nat) : has zeroK d = false := by simp [has, zeroK]
set_option maxHeartbeats 1000000 in
set_option maxRecDepth 20000 in
theorem refOne_any (x : Int) (w : World) (hx0 : 0 ≤ x) (hx1 : x ≤ 255) :
    Calls Try.prog 60 #[.int .u8 x] w fun e w' => e = .returned (clsV (oneK x.toNat)) ∧ Below w.heap.size w w' := by
  have k0 := fun w => with_any zeroK x w hx0 hx1
  have e1 : clsV (addK zeroK x.toNat) = clsV (oneK x.toNat) := clsV_ext fun d hd => by
    rw [has_add, has_one, has_zeroK, Bool.false_or]
  rw [e1] at k0
  have k : ∀ w, Calls Try.prog 79 #[.agg #[.int .u64 0, .int .u64 0, .int .u64 0, .int .u64 0], .int .u8 x] w fun e w' => e = .returned (four ((oneK x.toNat 0).toNat : Int) ((oneK x.toNat 1).toNat : Int) ((oneK x.toNat 2).toNat : Int) ((oneK x.toNat 3).toNat : Int)) ∧ Below w.heap.size w w' := k0
  clear k0 e1
  rw [four_cls]
  obtain ⟨a, ha⟩ : ∃ a, a = ((oneK x.toNat 0).toNat : Int) := ⟨_, rfl⟩
  obtain ⟨b, hb⟩ : ∃ a, a = ((oneK x.toNat 1).toNat : Int) := ⟨_, rfl⟩
  obtain ⟨c, hc⟩ : ∃ a, a = ((oneK x.toNat 2).toNat : Int) := ⟨_, rfl⟩
  obtain ⟨d, hd⟩ : ∃ a, a = ((oneK x.toNat 3).toNat : Int) := ⟨_, rfl⟩
  rw [← ha, ← hb, ← hc, ← hd] at k ⊢
  clear ha hb hc hd
  unfold four at k ⊢
  go_enter Try.func60, Try.ntmps60
  go_wp2_with (first
    | (go_at_call 79; refine (k _).mono ?_; rintro en w1 ⟨rfl, hb1⟩; clear k
       have hg0 := four_staysR rfl hb1
       obtain ⟨⟨c0, c1, c2, c3⟩, f0, f1, f2, f3⟩ := res_four hg0
       have HG := Lib.hid hg0
       have H1 := Lib.hid hb1
       clear hg0 hb1))
  have hh := set_four (.int .u64 a) (.int .u64 b) (.int .u64 c) (.int .u64 d) HG.out
  have hB := below_four (((Below.refl _ w).alloc (Nat.le_refl _) _).trans (H1.out.mono (by simp))) (Nat.le_refl _) (.int .u64 a) (.int .u64 b) (.int .u64 c) (.int .u64 d)
  exact bodyPost_ret (v := .agg _) (results_cell_row (p := 2) (ty := 54) Try.results60 _ _ w.heap.size 54 _ (0, 0) _ rfl hh Try.underlying54 rfl Try.infoCls) rfl ⟨rfl, hB⟩

end Go.Proofs.Ytgffmbdbjbhocaa
namespace Go.Proofs.Ytgffmbdbjbhocaa
open Go.RowKit Go.Lib

theorem is_no (B pb a : Nat) (s : ByteArray) (ts : List Nd) (ch : UInt8) (n : Int) (hn : (ch.toNat : Int) = n) (hno : ¬ s.data.toList[a]? = some ch) (w : World) (h : Ps B pb s a ts w) :
    Calls Try.prog 124 #[.pointer (some ⟨pb, 0, none⟩), .int .u8 n] w fun e w' => e = .returned (.bool false) ∧ Below w.heap.size w w' := by
  have := is_any B pb a s ts ch w h
  rw [decide_eq_false hno, hn] at this
  exact this
theorem Ps.cells {B pb a : Nat} {s : ByteArray} {ts : List Nd} {w : World} (h : Ps B pb s a ts w) : w.cell? ⟨pb, 0, none⟩ = some (.string s) ∧ w.cell? ⟨pb, 1, none⟩ = some (.int .i64 (a : Int)) ∧ w.cell? ⟨pb, 4, none⟩ = some (.int .i64 0) := by
  obtain ⟨v, hb, -⟩ := h.blk
  obtain ⟨c0, c1, c2, c3, c4⟩ := five_cells hb
  exact ⟨c0, c1, c4⟩
theorem Ps.froz {B pb a : Nat} {s : ByteArray} {ts : List Nd} {w : World} (h : Ps B pb s a ts w) : w.frozen? ⟨pb, 1, none⟩ = false := by
  obtain ⟨v, hb, -⟩ := h.blk
  exact frozen_of_heap hb 1
theorem Ps.set {B pb a : Nat} {s : ByteArray} {ts : List Nd} {w : World} (h : Ps B pb s a ts w) (a' : Nat) : Ps B pb s a' ts (w.setCell ⟨pb, 1, none⟩ (.int .i64 (a' : Int))) ∧ Below B w (w.setCell ⟨pb, 1, none⟩ (.int .i64 (a' : Int))) := by
  obtain ⟨v, hb, ho⟩ := h.blk
  refine ⟨⟨⟨v, by simpa using heap_setCell_same w pb 1 _ _ (Value.int .i64 (a' : Int)) hb, owns_same ho fun q hq => Below.heap_setCell _ _ _ _ (fun e => ?_)⟩, ⟨h.hB.1, by simpa [World.setCell] using h.hB.2⟩, h.sml⟩, (Below.refl _ w).setCell (p := ⟨pb, 1, none⟩) h.hB.1 _⟩
  have e : q = pb := e
  subst e
  rcases ho.2 with ⟨hv, _⟩ | ⟨g', _, cur, hv, _, hh, _⟩
  · rw [hv] at hq; cases hq
  · rw [hv] at hq
    cases hq
    have e2 := hb.symm.trans hh
    injection e2 with e2
    injection e2 with _ e2 _
    exact absurd e2 (by decide)
end Go.Proofs.Ytgffmbdbjbhocaa
namespace Go.Proofs.Ytgffmbdbjbhocaa
open Go.RowKit Go.Lib

theorem owns_lies {w : World} {B n : Nat} {v : Value} {ts : List Nd} (h : w.ownsRow B 56 7 v n (ndC ts)) (hn : n = ts.length) (hl : ts.length ≤ 2000) : Lies v ts w := by
  subst hn
  rcases h.2 with ⟨hv, h0⟩ | ⟨g, cap, cur, hv, _, hg, _, _, hz, htk⟩
  · have e : ts = [] := List.eq_nil_of_length_eq_zero h0
    subst e
    exact ⟨none, 0, hv, by simp, fun j n hj => by simp at hj⟩
  · refine ⟨some ⟨g, 0, none⟩, cap, hv, by omega, fun j n hj => ⟨g, 0, rfl, block_lt hg, ?_⟩⟩
    have hjl : j < ts.length := by
      by_cases h : j < ts.length
      · exact h
      · rw [List.getElem?_eq_none (by omega)] at hj; cases hj
    have key : ∀ i u, i < 7 → n.cells[i]? = some u → w.cell? ⟨g, 0 + j * 7 + i, none⟩ = some u := fun i u hi hu => by
      have e := ndC_get ts j i n hj hi
      rw [hu, ← htk, List.getElem?_take_of_lt (by omega)] at e
      rw [cell_of_heap hg, Nat.zero_add]
      simpa using e
    exact ⟨by simpa using key 0 _ (by omega) rfl, key 1 _ (by omega) rfl, key 2 _ (by omega) rfl, key 3 _ (by omega) rfl, key 4 _ (by omega) rfl, key 5 _ (by omega) rfl, key 6 _ (by omega) rfl⟩
theorem owns_cell2 {w : World} {B L cp g k : Nat} {e : TypeId} {xs : List Value} (h : w.ownsRow B e k (.slice (some ⟨g, 0, none⟩) L cp) L xs) {j : Nat} {v : Value} (hj : xs[j]? = some v) : w.cell? ⟨g, j, none⟩ = some v := by
  obtain ⟨h1, h2⟩ := h
  rcases h2 with ⟨hv, _⟩ | ⟨g', cap, cur, hv, hB, hg, hc, hm, hs, htk⟩
  · cases hv
  · cases hv
    have hjl : j < L * k := by
      by_cases hl : j < xs.length
      · omega
      · rw [List.getElem?_eq_none (by omega)] at hj; cases hj
    rw [cell_of_heap hg]
    rw [← htk, List.getElem?_take_of_lt (by omega)] at hj
    simpa using hj
end Go.Proofs.Ytgffmbdbjbhocaa
namespace Go.Proofs.Ytgffmbdbjbhocaa
open Go.RowKit Go.Lib

theorem own_zeroB {w : World} {B k : Nat} {e : TypeId} {v : Value} {xs : List Value} {n : Nat} (h : w.ownsRow B e k v n xs) : ∃ ao cap, v = .slice ao n cap := by
  rcases h.2 with ⟨hv, h0⟩ | ⟨g, cap, cur, hv, _⟩
  · exact ⟨_, _, by rw [hv, h0]⟩
  · exact ⟨_, _, hv⟩
theorem pairC_get : ∀ (L : List (Nat × Nat)) (j i : Nat) (x : Nat × Nat), L[j]? = some x → i < 2 → (pairC L)[j * 2 + i]? = [Value.int .i64 (x.1 : Int), .int .i64 (x.2 : Int)][i]?
  | [], j, i, x, h, _ => by simp at h
  | t :: L, 0, i, x, h, hi => by
    simp at h
    subst h
    show ([Value.int .i64 (t.1 : Int), .int .i64 (t.2 : Int)] ++ pairC L)[0 * 2 + i]? = _
    rw [List.getElem?_append_left (by show 0 * 2 + i < 2; omega)]
    congr 1
    omega
  | t :: L, j + 1, i, x, h, hi => by
    have h : L[j]? = some x := by simpa using h
    show ([Value.int .i64 (t.1 : Int), .int .i64 (t.2 : Int)] ++ pairC L)[(j + 1) * 2 + i]? = _
    rw [List.getElem?_append_right (by show 2 ≤ _; omega)]
    have e : (j + 1) * 2 + i - [Value.int .i64 (t.1 : Int), .int .i64 (t.2 : Int)].length = j * 2 + i := by show (j + 1) * 2 + i - 2 = _; omega
    rw [e, pairC_get L j i x h hi]
/-- A span of a row of spans, read. -/
theorem span_cells {w : World} {B N g cap : Nat} {L : List (Nat × Nat)} (h : w.ownsRow B 41 2 (.slice (some ⟨g, 0, none⟩) N cap) N (pairC L)) {j : Nat} {x : Nat × Nat} (hx : L[j]? = some x) : w.cell? ⟨g, j * 2, none⟩ = some (.int .i64 (x.1 : Int)) ∧ w.cell? ⟨g, j * 2 + 1, none⟩ = some (.int .i64 (x.2 : Int)) :=
  ⟨owns_cell2 h (by have := pairC_get L j 0 x hx (by omega); simpa using this), owns_cell2 h (by have := pairC_get L j 1 x hx (by omega); simpa using this)⟩
end Go.Proofs.Ytgffmbdbjbhocaa
namespace Go.Proofs.Ytgffmbdbjbhocaa
open Go.RowKit Go.Lib

/-- Spans that stand one behind the other. -/
def Apart (s : List UInt8) (T : Tr) : Nat → Int → List (Nat × Nat) → Prop
  | _, _, [] => True
  | lo, e, (a, b) :: r => lo ≤ a ∧ a ≤ s.length ∧ farG s T a = ((b : Nat) : Int) ∧ a ≤ b ∧ b ≤ s.length ∧ ¬ (b = a ∧ e = a) ∧ Apart s T b b r
theorem Apart.mono {s : List UInt8} {T : Tr} {lo lo' : Nat} {e : Int} {l : List (Nat × Nat)} (h : Apart s T lo e l) (hlo : lo' ≤ lo) : Apart s T lo' e l := by
  cases l with
  | nil => trivial
  | cons x r => exact ⟨Nat.le_trans hlo h.1, h.2⟩
theorem goL_apart (s : List UInt8) (T : Tr) : ∀ (f a : Nat) (e : Int), Apart s T a e (goL (farG s T) s.length f a e)
  | 0, _, _ => trivial
  | f + 1, a, e => by
    unfold goL
    split
    · trivial
    · rename_i h1
      split
      · exact (goL_apart s T f (a + 1) e).mono (Nat.le_succ a)
      · rename_i h2
        rcases farG_cases s T a with h3 | ⟨b, h3, h4, h5, _⟩
        · exact absurd (.inl h3) h2
        · rw [h3, Int.toNat_natCast]
          exact ⟨Nat.le_refl _, by omega, h3, h4, h5, fun h => h2 (.inr ⟨by rw [h3, h.1], h.2⟩), goL_apart s T f b b⟩
theorem apart_at {s : List UInt8} {T : Tr} : ∀ (l : List (Nat × Nat)) (lo : Nat) (e : Int), Apart s T lo e l → ∀ x r, l = x :: r → lo ≤ x.1 ∧ x.1 ≤ s.length ∧ farG s T x.1 = ((x.2 : Nat) : Int) ∧ x.1 ≤ x.2 ∧ x.2 ≤ s.length ∧ ¬ (x.2 = x.1 ∧ e = x.1) ∧ Apart s T x.2 x.2 r := by
  rintro l lo e h ⟨a, b⟩ r rfl
  exact h
end Go.Proofs.Ytgffmbdbjbhocaa
