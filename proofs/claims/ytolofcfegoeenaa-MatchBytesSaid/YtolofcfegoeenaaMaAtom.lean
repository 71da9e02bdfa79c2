/- The document's reader of expressions, on a plain byte with one sign behind it: the atom. No condition. -/
import Derived.Test.YtolofcfegoeenaaMaPs
import Derived.Test.YtolofcfegoeenaaClsSign2
import Derived.Test.YtolofcfegoeenaaReRefOne
namespace Go.Proofs.Ytolofcfegoeenaa
open Go.RowKit Go.Lib

theorem is_no (B pb a : Nat) (s : ByteArray) (ts : List Nd) (ch : UInt8) (n : Int) (hn : (ch.toNat : Int) = n) (hno : ¬ s.data.toList[a]? = some ch) (w : World) (h : Ps B pb s a ts w) :
    Calls Try.prog 95 #[.pointer (some ⟨pb, 0, none⟩), .int .u8 n] w fun e w' => e = .returned (.bool false) ∧ Below w.heap.size w w' := by
  have := is_any B pb a s ts ch w h
  rw [decide_eq_false hno, hn] at this
  exact this
theorem is_yes (B pb a : Nat) (s : ByteArray) (ts : List Nd) (ch : UInt8) (n : Int) (hn : (ch.toNat : Int) = n) (hyes : s.data.toList[a]? = some ch) (w : World) (h : Ps B pb s a ts w) :
    Calls Try.prog 95 #[.pointer (some ⟨pb, 0, none⟩), .int .u8 n] w fun e w' => e = .returned (.bool true) ∧ Below w.heap.size w w' := by
  have := is_any B pb a s ts ch w h
  rw [decide_eq_true hyes, hn] at this
  exact this
theorem Ps.cells {B pb a : Nat} {s : ByteArray} {ts : List Nd} {w : World} (h : Ps B pb s a ts w) : w.cell? ⟨pb, 0, none⟩ = some (.string s) ∧ w.cell? ⟨pb, 1, none⟩ = some (.int .i64 (a : Int)) ∧ w.cell? ⟨pb, 4, none⟩ = some (.int .i64 0) := by
  obtain ⟨v, hb, -⟩ := h.blk
  obtain ⟨c0, c1, c2, c3, c4⟩ := five_cells hb
  exact ⟨c0, c1, c4⟩
theorem Ps.froz {B pb a : Nat} {s : ByteArray} {ts : List Nd} {w : World} (h : Ps B pb s a ts w) : w.frozen? ⟨pb, 1, none⟩ = false := by
  obtain ⟨v, hb, -⟩ := h.blk
  exact frozen_of_heap hb 1
theorem Ps.set {B pb a : Nat} {s : ByteArray} {ts : List Nd} {w : World} (h : Ps B pb s a ts w) (a' : Nat) : Ps B pb s a' ts (w.setCell ⟨pb, 1, none⟩ (.int .i64 (a' : Int))) ∧ Below B w (w.setCell ⟨pb, 1, none⟩ (.int .i64 (a' : Int))) := by
  obtain ⟨v, hb, ho⟩ := h.blk
  refine ⟨⟨⟨v, by simpa using heap_setCell_same w pb 1 _ _ (Value.int .i64 (a' : Int)) hb, owns_same ho fun q hq => Below.heap_setCell _ _ _ _ (fun e => ?_)⟩, ⟨h.hB.1, by simpa [World.setCell] using h.hB.2⟩, h.sml⟩, (Below.refl _ w).setCell (p := ⟨pb, 1, none⟩) h.hB.1 _⟩
  have e : q = pb := e
  subst e
  rcases ho.2 with ⟨hv, _⟩ | ⟨g', _, cur, hv, _, hh, _⟩
  · rw [hv] at hq; cases hq
  · rw [hv] at hq
    cases hq
    have e2 := hb.symm.trans hh
    injection e2 with e2
    injection e2 with _ e2 _
    exact absurd e2 (by decide)
set_option maxHeartbeats 8000000 in
set_option maxRecDepth 20000 in
theorem atom_any (B pb : Nat) (c q : UInt8) (s : ByteArray) (w : World) (hs : s = ⟨#[c, q]⟩) (h : Ps B pb s 0 [] w) (hx : c ≠ 40 ∧ c ≠ 46 ∧ c ≠ 94 ∧ c ≠ 36 ∧ c ≠ 91) (hy : (c.toNat : Int) ≠ 42 ∧ (c.toNat : Int) ≠ 43 ∧ (c.toNat : Int) ≠ 63 ∧ (c.toNat : Int) ≠ 41 ∧ (c.toNat : Int) ≠ 124 ∧ (c.toNat : Int) ≠ 123 ∧ (c.toNat : Int) ≠ 125 ∧ (c.toNat : Int) ≠ 47)
    (hsig : signD [c, q] = some ((c.toNat : Int), 1)) :
    Calls Try.prog 123 #[.pointer (some ⟨pb, 0, none⟩)] w fun e w' => e = .returned (.int .i64 0) ∧ Ps B pb s 1 [⟨1, k4 (oneK c.toNat), 0, 0⟩] w' ∧ Below B w w' := by
  have hl : s.data.toList = [c, q] := by rw [hs]
  have hz : s.size = 2 := by rw [hs]; rfl
  have no : ∀ (ch : UInt8), c ≠ ch → ¬ s.data.toList[0]? = some ch := fun ch hne he => by rw [hl] at he; exact hne (by simpa using he)
  have k40 := is_no B pb 0 s [] 40 40 rfl (no _ hx.1)
  have k46 := is_no B pb 0 s [] 46 46 rfl (no _ hx.2.1)
  have k94 := is_no B pb 0 s [] 94 94 rfl (no _ hx.2.2.1)
  have k36 := is_no B pb 0 s [] 36 36 rfl (no _ hx.2.2.2.1)
  have k91 := is_no B pb 0 s [] 91 91 rfl (no _ hx.2.2.2.2)
  obtain ⟨y1, y2, y3, y4, y5, y6, y7, y8⟩ := hy
  have f1 : ((c.toNat : Int) == 42) = false := beq_eq_false_iff_ne.2 y1
  have f2 : ((c.toNat : Int) == 43) = false := beq_eq_false_iff_ne.2 y2
  have f3 : ((c.toNat : Int) == 63) = false := beq_eq_false_iff_ne.2 y3
  have f4 : ((c.toNat : Int) == 41) = false := beq_eq_false_iff_ne.2 y4
  have f5 : ((c.toNat : Int) == 124) = false := beq_eq_false_iff_ne.2 y5
  have f6 : ((c.toNat : Int) == 123) = false := beq_eq_false_iff_ne.2 y6
  have f7 : ((c.toNat : Int) == 125) = false := beq_eq_false_iff_ne.2 y7
  have f8 : ((c.toNat : Int) == 47) = false := beq_eq_false_iff_ne.2 y8
  have hat : ∀ h : 0 < s.size, s[0] = c := fun h => by subst hs; rfl
  have hex : s.extract 0 2 = s := by subst hs; rfl
  have ks := fun w => refSign_any s w
  rw [hl, hsig] at ks
  have ko : ∀ w, Calls Try.prog 41 #[.int .u8 (c.toNat : Int)] w fun e w' => e = .returned (.agg #[.int .u64 ((k4 (oneK c.toNat)).a.toNat : Int), .int .u64 ((k4 (oneK c.toNat)).b.toNat : Int), .int .u64 ((k4 (oneK c.toNat)).c.toNat : Int), .int .u64 ((k4 (oneK c.toNat)).d.toNat : Int)]) ∧ Below w.heap.size w w' := fun w => refOne_any (c.toNat : Int) w (by omega) (by have := c.toNat_lt; omega)
  obtain ⟨K, hK⟩ : ∃ K, K = k4 (oneK c.toNat) := ⟨_, rfl⟩
  rw [← hK] at ko ⊢
  have kl := fun w h => lay_any B pb 1 s [] 1 0 0 K w h (by decide)
  unfold signE at ks
  have HP := Lib.hid h
  have HB := Lib.hid (Below.refl B w)
  have hs0 : (0 : Int) < (s.size : Int) := by omega
  have hs0' : 0 < s.size := by omega
  clear h hs no hx y1 y2 y3 y4 y5 y6 y7 y8 hl hsig hK
  have hat0 := hat hs0'
  go_enter Try.func123, Try.ntmps123
  go_wp2_with (first
    | (go_at_call 95; first
          | (with_reducible refine (k40 _ HP.out).mono ?_; rintro e w40 ⟨rfl, hb40⟩; replace HB := Lib.hid (HB.out.trans (hb40.mono HP.out.hB.2)); replace HP := Lib.hid (HP.out.below hb40); clear k40 hb40)
          | (with_reducible refine (k46 _ HP.out).mono ?_; rintro e w46 ⟨rfl, hb46⟩; replace HB := Lib.hid (HB.out.trans (hb46.mono HP.out.hB.2)); replace HP := Lib.hid (HP.out.below hb46); clear k46 hb46)
          | (with_reducible refine (k94 _ HP.out).mono ?_; rintro e w94 ⟨rfl, hb94⟩; replace HB := Lib.hid (HB.out.trans (hb94.mono HP.out.hB.2)); replace HP := Lib.hid (HP.out.below hb94); clear k94 hb94)
          | (with_reducible refine (k36 _ HP.out).mono ?_; rintro e w36 ⟨rfl, hb36⟩; replace HB := Lib.hid (HB.out.trans (hb36.mono HP.out.hB.2)); replace HP := Lib.hid (HP.out.below hb36); clear k36 hb36)
          | (with_reducible refine (k91 _ HP.out).mono ?_; rintro e w91 ⟨rfl, hb91⟩; replace HB := Lib.hid (HB.out.trans (hb91.mono HP.out.hB.2)); replace HP := Lib.hid (HP.out.below hb91); clear k91 hb91))
    | fail)
  obtain ⟨g0, g1, g4⟩ := HP.out.cells
  refine wp_region_held_drew (S := fun W' => W'.cell? ⟨pb, 0, none⟩ = some (.string s) ∧ W'.cell? ⟨pb, 1, none⟩ = some (.int .i64 ((0 : Nat) : Int))) (by kernel_rfl) ⟨g0, g1⟩ (fun hHeld => ?_)
  refine wpAnyH_take (i := 0) (v := ?_) rfl (by kernel_rfl) (by kernel_rfl) (by kernel_rfl) (fun _ _ _ h => h) ?_ hHeld ?_; rotate_left; · (simp only [List.getElem_toArray, List.getElem_cons_zero]; refine Or.inl ⟨by rfl, ?_⟩; intro w hSw; (try dsimp only at hSw); obtain ⟨s1, s2⟩ := hSw; go_simp; try with_reducible rfl)
  try simp only [List.getElem_toArray, List.getElem_cons_zero, Act.put, List.setIfInBounds_toArray, List.set_cons_zero, List.set_cons_succ]
  refine wpAnyH_take (i := 1) (v := ?_) rfl (by kernel_rfl) (by kernel_rfl) (by kernel_rfl) (fun _ _ _ h => h) ?_ hHeld ?_; rotate_left; · (simp only [List.getElem_toArray, List.getElem_cons_succ, List.getElem_cons_zero]; refine Or.inl ⟨by rfl, ?_⟩; intro w hSw; (try dsimp only at hSw); obtain ⟨s1, s2⟩ := hSw; go_simp; try with_reducible rfl)
  try simp only [List.getElem_toArray, List.getElem_cons_succ, List.getElem_cons_zero, Act.put, List.setIfInBounds_toArray, List.set_cons_zero, List.set_cons_succ]
  refine wpAnyH_take (i := 2) (v := ?_) rfl (by kernel_rfl) (by kernel_rfl) (by kernel_rfl) (fun _ _ _ h => h) ?_ hHeld ?_; rotate_left; · (simp only [List.getElem_toArray, List.getElem_cons_succ, List.getElem_cons_zero]; refine Or.inl ⟨by rfl, ?_⟩; intro w hSw; (try dsimp only at hSw); obtain ⟨s1, s2⟩ := hSw; go_simp; try with_reducible rfl)
  try simp only [List.getElem_toArray, List.getElem_cons_succ, List.getElem_cons_zero, Act.put, List.setIfInBounds_toArray, List.set_cons_zero, List.set_cons_succ]
  refine wpAnyH_take (i := 3) (v := ?_) rfl (by kernel_rfl) (by kernel_rfl) (by kernel_rfl) (fun _ _ _ h => h) ?_ hHeld ?_; rotate_left; · (simp only [List.getElem_toArray, List.getElem_cons_succ, List.getElem_cons_zero]; refine Or.inl ⟨by rfl, ?_⟩; intro w hSw; (try dsimp only at hSw); obtain ⟨s1, s2⟩ := hSw; go_simp; try with_reducible rfl)
  try simp only [List.getElem_toArray, List.getElem_cons_succ, List.getElem_cons_zero, Act.put, List.setIfInBounds_toArray, List.set_cons_zero, List.set_cons_succ]
  refine wpAnyH_take (i := 4) (v := ?_) rfl (by kernel_rfl) (by kernel_rfl) (by kernel_rfl) (fun _ _ _ h => h) ?_ hHeld ?_; rotate_left; · (simp only [List.getElem_toArray, List.getElem_cons_succ, List.getElem_cons_zero]; refine Or.inl ⟨by rfl, ?_⟩; intro w hSw; (try dsimp only at hSw); obtain ⟨s1, s2⟩ := hSw; go_simp; try with_reducible rfl)
  try simp only [List.getElem_toArray, List.getElem_cons_succ, List.getElem_cons_zero, Act.put, List.setIfInBounds_toArray, List.set_cons_zero, List.set_cons_succ]
  refine wpAnyH_take (i := 5) (v := ?_) rfl (by kernel_rfl) (by kernel_rfl) (by kernel_rfl) (fun _ _ _ h => h) ?_ hHeld ?_; rotate_left; · (simp only [List.getElem_toArray, List.getElem_cons_succ, List.getElem_cons_zero]; refine Or.inl ⟨by rfl, ?_⟩; intro w hSw; (try dsimp only at hSw); obtain ⟨s1, s2⟩ := hSw; go_simp; try with_reducible rfl)
  try simp only [List.getElem_toArray, List.getElem_cons_succ, List.getElem_cons_zero, Act.put, List.setIfInBounds_toArray, List.set_cons_zero, List.set_cons_succ]
  refine wpAnyH_take (i := 6) (v := ?_) rfl (by kernel_rfl) (by kernel_rfl) (by kernel_rfl) (fun _ _ _ h => h) ?_ hHeld ?_; rotate_left; · (simp only [List.getElem_toArray, List.getElem_cons_succ, List.getElem_cons_zero]; refine Or.inl ⟨by rfl, ?_⟩; intro w hSw; (try dsimp only at hSw); obtain ⟨s1, s2⟩ := hSw; go_simp; try with_reducible rfl)
  try simp only [List.getElem_toArray, List.getElem_cons_succ, List.getElem_cons_zero, Act.put, List.setIfInBounds_toArray, List.set_cons_zero, List.set_cons_succ]
  refine wpAnyH_take (i := 7) (v := ?_) rfl (by kernel_rfl) (by kernel_rfl) (by kernel_rfl) (fun _ _ _ h => h) ?_ hHeld ?_; rotate_left; · (simp only [List.getElem_toArray, List.getElem_cons_succ, List.getElem_cons_zero]; refine Or.inl ⟨by rfl, ?_⟩; intro w hSw; (try dsimp only at hSw); obtain ⟨s1, s2⟩ := hSw; go_simp; try with_reducible rfl)
  try simp only [List.getElem_toArray, List.getElem_cons_succ, List.getElem_cons_zero, Act.put, List.setIfInBounds_toArray, List.set_cons_zero, List.set_cons_succ]
  refine wpAnyH_take (i := 8) (v := ?_) rfl (by kernel_rfl) (by kernel_rfl) (by kernel_rfl) (fun _ _ _ h => h) ?_ hHeld ?_; rotate_left; · (simp only [List.getElem_toArray, List.getElem_cons_succ, List.getElem_cons_zero]; refine Or.inl ⟨by rfl, ?_⟩; intro w hSw; (try dsimp only at hSw); obtain ⟨s1, s2⟩ := hSw; go_simp; try with_reducible rfl)
  try simp only [List.getElem_toArray, List.getElem_cons_succ, List.getElem_cons_zero, Act.put, List.setIfInBounds_toArray, List.set_cons_zero, List.set_cons_succ]
  refine wpAnyH_take (i := 9) (v := ?_) rfl (by kernel_rfl) (by kernel_rfl) (by kernel_rfl) (fun _ _ _ h => h) ?_ hHeld ?_; rotate_left; · (simp only [List.getElem_toArray, List.getElem_cons_succ, List.getElem_cons_zero]; refine Or.inl ⟨by rfl, ?_⟩; intro w hSw; (try dsimp only at hSw); obtain ⟨s1, s2⟩ := hSw; go_simp; try with_reducible rfl)
  try simp only [List.getElem_toArray, List.getElem_cons_succ, List.getElem_cons_zero, Act.put, List.setIfInBounds_toArray, List.set_cons_zero, List.set_cons_succ]
  refine wpAnyH_done (by kernel_rfl) ?_ _
  have HP2 := Lib.hid (HP.out.below ((Below.refl _ w91).drew))
  have HB2 := Lib.hid (HB.out.trans ((Below.refl _ w91).drew.mono HP.out.hB.2))
  clear hHeld g0 g1 g4
  obtain ⟨V, hV⟩ : ∃ V, V = w91.drew := ⟨_, rfl⟩
  rw [← hV] at HP2 HB2 ⊢
  clear hV HP HB
  go_wp2_with fail
  obtain ⟨g0, g1, g4⟩ := HP2.out.cells
  refine wp_region_held_drew (S := fun W' => W'.cell? ⟨pb, 0, none⟩ = some (.string s) ∧ W'.cell? ⟨pb, 1, none⟩ = some (.int .i64 ((0 : Nat) : Int))) (by kernel_rfl) ⟨g0, g1⟩ (fun hHeld => ?_)
  refine wpAnyH_take (i := 0) (v := ?_) rfl (by kernel_rfl) (by kernel_rfl) (by kernel_rfl) (fun _ _ _ h => h) ?_ hHeld ?_; rotate_left; · (simp only [List.getElem_toArray, List.getElem_cons_zero]; refine Or.inl ⟨by rfl, ?_⟩; intro w hSw; (try dsimp only at hSw); obtain ⟨s1, s2⟩ := hSw; go_simp; try with_reducible rfl)
  try simp only [List.getElem_toArray, List.getElem_cons_zero, Act.put, List.setIfInBounds_toArray, List.set_cons_zero, List.set_cons_succ]
  refine wpAnyH_take (i := 1) (v := ?_) rfl (by kernel_rfl) (by kernel_rfl) (by kernel_rfl) (fun _ _ _ h => h) ?_ hHeld ?_; rotate_left; · (simp only [List.getElem_toArray, List.getElem_cons_succ, List.getElem_cons_zero]; refine Or.inl ⟨by rfl, ?_⟩; intro w hSw; (try dsimp only at hSw); obtain ⟨s1, s2⟩ := hSw; go_simp; try with_reducible rfl)
  try simp only [List.getElem_toArray, List.getElem_cons_succ, List.getElem_cons_zero, Act.put, List.setIfInBounds_toArray, List.set_cons_zero, List.set_cons_succ]
  refine wpAnyH_take (i := 2) (v := ?_) rfl (by kernel_rfl) (by kernel_rfl) (by kernel_rfl) (fun _ _ _ h => h) ?_ hHeld ?_; rotate_left; · (simp only [List.getElem_toArray, List.getElem_cons_succ, List.getElem_cons_zero]; refine Or.inl ⟨by rfl, ?_⟩; intro w hSw; (try dsimp only at hSw); obtain ⟨s1, s2⟩ := hSw; go_simp; try with_reducible rfl)
  try simp only [List.getElem_toArray, List.getElem_cons_succ, List.getElem_cons_zero, Act.put, List.setIfInBounds_toArray, List.set_cons_zero, List.set_cons_succ]
  refine wpAnyH_take (i := 3) (v := ?_) rfl (by kernel_rfl) (by kernel_rfl) (by kernel_rfl) (fun _ _ _ h => h) ?_ hHeld ?_; rotate_left; · (simp only [List.getElem_toArray, List.getElem_cons_succ, List.getElem_cons_zero]; refine Or.inl ⟨by rfl, ?_⟩; intro w hSw; (try dsimp only at hSw); obtain ⟨s1, s2⟩ := hSw; go_simp; try with_reducible rfl)
  try simp only [List.getElem_toArray, List.getElem_cons_succ, List.getElem_cons_zero, Act.put, List.setIfInBounds_toArray, List.set_cons_zero, List.set_cons_succ]
  refine wpAnyH_take (i := 4) (v := ?_) rfl (by kernel_rfl) (by kernel_rfl) (by kernel_rfl) (fun _ _ _ h => h) ?_ hHeld ?_; rotate_left; · (simp only [List.getElem_toArray, List.getElem_cons_succ, List.getElem_cons_zero]; refine Or.inl ⟨by rfl, ?_⟩; intro w hSw; (try dsimp only at hSw); obtain ⟨s1, s2⟩ := hSw; go_simp; try with_reducible rfl)
  try simp only [List.getElem_toArray, List.getElem_cons_succ, List.getElem_cons_zero, Act.put, List.setIfInBounds_toArray, List.set_cons_zero, List.set_cons_succ]
  refine wpAnyH_take (i := 5) (v := ?_) rfl (by kernel_rfl) (by kernel_rfl) (by kernel_rfl) (fun _ _ _ h => h) ?_ hHeld ?_; rotate_left; · (simp only [List.getElem_toArray, List.getElem_cons_succ, List.getElem_cons_zero]; refine Or.inl ⟨by rfl, ?_⟩; intro w hSw; (try dsimp only at hSw); obtain ⟨s1, s2⟩ := hSw; go_simp; try with_reducible rfl)
  try simp only [List.getElem_toArray, List.getElem_cons_succ, List.getElem_cons_zero, Act.put, List.setIfInBounds_toArray, List.set_cons_zero, List.set_cons_succ]
  refine wpAnyH_take (i := 6) (v := ?_) rfl (by kernel_rfl) (by kernel_rfl) (by kernel_rfl) (fun _ _ _ h => h) ?_ hHeld ?_; rotate_left; · (simp only [List.getElem_toArray, List.getElem_cons_succ, List.getElem_cons_zero]; refine Or.inl ⟨by rfl, ?_⟩; intro w hSw; (try dsimp only at hSw); obtain ⟨s1, s2⟩ := hSw; go_simp; try with_reducible rfl)
  try simp only [List.getElem_toArray, List.getElem_cons_succ, List.getElem_cons_zero, Act.put, List.setIfInBounds_toArray, List.set_cons_zero, List.set_cons_succ]
  refine wpAnyH_take (i := 7) (v := ?_) rfl (by kernel_rfl) (by kernel_rfl) (by kernel_rfl) (fun _ _ _ h => h) ?_ hHeld ?_; rotate_left; · (simp only [List.getElem_toArray, List.getElem_cons_succ, List.getElem_cons_zero]; refine Or.inl ⟨by rfl, ?_⟩; intro w hSw; (try dsimp only at hSw); obtain ⟨s1, s2⟩ := hSw; go_simp; try with_reducible rfl)
  try simp only [List.getElem_toArray, List.getElem_cons_succ, List.getElem_cons_zero, Act.put, List.setIfInBounds_toArray, List.set_cons_zero, List.set_cons_succ]
  refine wpAnyH_take (i := 8) (v := ?_) rfl (by kernel_rfl) (by kernel_rfl) (by kernel_rfl) (fun _ _ _ h => h) ?_ hHeld ?_; rotate_left; · (simp only [List.getElem_toArray, List.getElem_cons_succ, List.getElem_cons_zero]; refine Or.inl ⟨by rfl, ?_⟩; intro w hSw; (try dsimp only at hSw); obtain ⟨s1, s2⟩ := hSw; go_simp; try with_reducible rfl)
  try simp only [List.getElem_toArray, List.getElem_cons_succ, List.getElem_cons_zero, Act.put, List.setIfInBounds_toArray, List.set_cons_zero, List.set_cons_succ]
  refine wpAnyH_ready (rs := [9]) (by kernel_rfl) (by simp) ?_
  refine AllReadyH.cons rfl (fun K' hK => ?_) AllReadyH.nil
  simp only [List.getElem_toArray, List.getElem_cons_succ, List.getElem_cons_zero]
  rw [if_pos (by rfl)]
  go_simp
  (go_at_call 134; refine (ks _).mono ?_; rintro e w6 ⟨rfl, hb6⟩)
  have HP6 := Lib.hid ((HP2.out.below ((Below.refl _ V).drew)).below hb6)
  have HB6 := Lib.hid ((HB2.out.trans ((Below.refl _ V).drew.mono HP2.out.hB.2)).trans (hb6.mono (HP2.out.below ((Below.refl _ V).drew)).hB.2))
  obtain ⟨u0, u1, u4⟩ := HP6.out.cells
  refine hK.out _ _ ⟨u0, u1⟩ (fun hHeld2 => ?_)
  clear hK K' hHeld g0 g1 g4 hb6
  try simp only [List.getElem_toArray, List.getElem_cons_succ, List.getElem_cons_zero, Act.put, List.setIfInBounds_toArray, List.set_cons_zero, List.set_cons_succ]
  refine wpAnyH_take (i := 10) (v := ?_) rfl (by kernel_rfl) (by kernel_rfl) (by kernel_rfl) (fun _ _ _ h => h) ?_ hHeld2 ?_; rotate_left; · (simp only [List.getElem_toArray, List.getElem_cons_succ, List.getElem_cons_zero]; refine Or.inl ⟨by rfl, ?_⟩; intro w hSw; (try dsimp only at hSw); go_simp; try with_reducible rfl)
  try simp only [List.getElem_toArray, List.getElem_cons_succ, List.getElem_cons_zero, Act.put, List.setIfInBounds_toArray, List.set_cons_zero, List.set_cons_succ]
  refine wpAnyH_take (i := 11) (v := ?_) rfl (by kernel_rfl) (by kernel_rfl) (by kernel_rfl) (fun _ _ _ h => h) ?_ hHeld2 ?_; rotate_left; · (simp only [List.getElem_toArray, List.getElem_cons_succ, List.getElem_cons_zero]; refine Or.inl ⟨by rfl, ?_⟩; intro w hSw; (try dsimp only at hSw); go_simp; try with_reducible rfl)
  try simp only [List.getElem_toArray, List.getElem_cons_succ, List.getElem_cons_zero, Act.put, List.setIfInBounds_toArray, List.set_cons_zero, List.set_cons_succ]
  refine wpAnyH_take (i := 12) (v := ?_) rfl (by kernel_rfl) (by kernel_rfl) (by kernel_rfl) (fun _ _ _ h => h) ?_ hHeld2 ?_; rotate_left; · (simp only [List.getElem_toArray, List.getElem_cons_succ, List.getElem_cons_zero]; refine Or.inl ⟨by rfl, ?_⟩; intro w hSw; (try dsimp only at hSw); go_simp; try with_reducible rfl)
  try simp only [List.getElem_toArray, List.getElem_cons_succ, List.getElem_cons_zero, Act.put, List.setIfInBounds_toArray, List.set_cons_zero, List.set_cons_succ]
  refine wpAnyH_take (i := 13) (v := ?_) rfl (by kernel_rfl) (by kernel_rfl) (by kernel_rfl) (fun _ _ _ h => h) ?_ hHeld2 ?_; rotate_left; · (simp only [List.getElem_toArray, List.getElem_cons_succ, List.getElem_cons_zero]; refine Or.inl ⟨by rfl, ?_⟩; intro w hSw; (try dsimp only at hSw); go_simp; try with_reducible rfl)
  try simp only [List.getElem_toArray, List.getElem_cons_succ, List.getElem_cons_zero, Act.put, List.setIfInBounds_toArray, List.set_cons_zero, List.set_cons_succ]
  refine wpAnyH_take (i := 14) (v := ?_) rfl (by kernel_rfl) (by kernel_rfl) (by kernel_rfl) (fun _ _ _ h => h) ?_ hHeld2 ?_; rotate_left; · (simp only [List.getElem_toArray, List.getElem_cons_succ, List.getElem_cons_zero]; refine Or.inl ⟨by rfl, ?_⟩; intro w hSw; (try dsimp only at hSw); go_simp; try with_reducible rfl)
  try simp only [List.getElem_toArray, List.getElem_cons_succ, List.getElem_cons_zero, Act.put, List.setIfInBounds_toArray, List.set_cons_zero, List.set_cons_succ]
  refine wpAnyH_take (i := 15) (v := ?_) rfl (by kernel_rfl) (by kernel_rfl) (by kernel_rfl) (fun _ _ _ h => h) ?_ hHeld2 ?_; rotate_left; · (simp only [List.getElem_toArray, List.getElem_cons_succ, List.getElem_cons_zero]; refine Or.inl ⟨by rfl, ?_⟩; intro w hSw; (try dsimp only at hSw); go_simp; try with_reducible rfl)
  try simp only [List.getElem_toArray, List.getElem_cons_succ, List.getElem_cons_zero, Act.put, List.setIfInBounds_toArray, List.set_cons_zero, List.set_cons_succ]
  refine wpAnyH_take (i := 16) (v := ?_) rfl (by kernel_rfl) (by kernel_rfl) (by kernel_rfl) (fun _ _ _ h => h) ?_ hHeld2 ?_; rotate_left; · (simp only [List.getElem_toArray, List.getElem_cons_succ, List.getElem_cons_zero]; refine Or.inl ⟨by rfl, ?_⟩; intro w hSw; (try dsimp only at hSw); go_simp; try with_reducible rfl)
  try simp only [List.getElem_toArray, List.getElem_cons_succ, List.getElem_cons_zero, Act.put, List.setIfInBounds_toArray, List.set_cons_zero, List.set_cons_succ]
  refine wpAnyH_done (by kernel_rfl) ?_ _
  have fz := HP6.out.froz
  clear HP2 HB2 ks hHeld2
  go_wp2_with (first
    | (go_at_call 41; refine (ko _).mono ?_; rintro e w7 ⟨rfl, hb7⟩
       have HP7 := Lib.hid ((HP6.out.set 1).1.below hb7)
       have HB7 := Lib.hid ((HB6.out.trans (HP6.out.set 1).2).trans (hb7.mono (HP6.out.set 1).1.hB.2))
       clear ko hb7)
    | (go_at_call 96; refine (kl _ HP7.out).mono ?_; rintro e w8 ⟨rfl, hp8, hb8⟩)
    | fail)
  exact bodyPost_ret (results_tmp rfl _ _ _) rfl ⟨rfl, hp8, HB7.out.trans hb8⟩
end Go.Proofs.Ytolofcfegoeenaa
