/- Packed texts: MaAtom, MaPiece, MaRead2, MaShown. What each of them proves stands above its theorems; the conditions stand in these. -/
import Derived.Test.YtkgpnlldlekcbaaM24
import Derived.Test.YtkgpnlldlekcbaaM26
import Derived.Test.YtkgpnlldlekcbaaM27
import Derived.Test.YtkgpnlldlekcbaaM28
namespace Go.Proofs.Ytkgpnlldlekcbaa
open Go.RowKit Go.Lib

theorem is_no (B pb a : Nat) (s : ByteArray) (ts : List Nd) (ch : UInt8) (n : Int) (hn : (ch.toNat : Int) = n) (hno : ¬ s.data.toList[a]? = some ch) (w : World) (h : Ps B pb s a ts w) :
    Calls Try.prog 82 #[.pointer (some ⟨pb, 0, none⟩), .int .u8 n] w fun e w' => e = .returned (.bool false) ∧ Below w.heap.size w w' := by
  have := is_any B pb a s ts ch w h
  rw [decide_eq_false hno, hn] at this
  exact this
theorem is_yes (B pb a : Nat) (s : ByteArray) (ts : List Nd) (ch : UInt8) (n : Int) (hn : (ch.toNat : Int) = n) (hyes : s.data.toList[a]? = some ch) (w : World) (h : Ps B pb s a ts w) :
    Calls Try.prog 82 #[.pointer (some ⟨pb, 0, none⟩), .int .u8 n] w fun e w' => e = .returned (.bool true) ∧ Below w.heap.size w w' := by
  have := is_any B pb a s ts ch w h
  rw [decide_eq_true hyes, hn] at this
  exact this
theorem Ps.cells {B pb a : Nat} {s : ByteArray} {ts : List Nd} {w : World} (h : Ps B pb s a ts w) : w.cell? ⟨pb, 0, none⟩ = some (.string s) ∧ w.cell? ⟨pb, 1, none⟩ = some (.int .i64 (a : Int)) ∧ w.cell? ⟨pb, 4, none⟩ = some (.int .i64 0) := by
  obtain ⟨v, hb, -⟩ := h.blk
  obtain ⟨c0, c1, c2, c3, c4⟩ := five_cells hb
  exact ⟨c0, c1, c4⟩
theorem Ps.froz {B pb a : Nat} {s : ByteArray} {ts : List Nd} {w : World} (h : Ps B pb s a ts w) : w.frozen? ⟨pb, 1, none⟩ = false := by
  obtain ⟨v, hb, -⟩ := h.blk
  exact frozen_of_heap hb 1
theorem Ps.set {B pb a : Nat} {s : ByteArray} {ts : List Nd} {w : World} (h : Ps B pb s a ts w) (a' : Nat) : Ps B pb s a' ts (w.setCell ⟨pb, 1, none⟩ (.int .i64 (a' : Int))) ∧ Below B w (w.setCell ⟨pb, 1, none⟩ (.int .i64 (a' : Int))) := by
  obtain ⟨v, hb, ho⟩ := h.blk
  refine ⟨⟨⟨v, by simpa using heap_setCell_same w pb 1 _ _ (Value.int .i64 (a' : Int)) hb, owns_same ho fun q hq => Below.heap_setCell _ _ _ _ (fun e => ?_)⟩, ⟨h.hB.1, by simpa [World.setCell] using h.hB.2⟩, h.sml⟩, (Below.refl _ w).setCell (p := ⟨pb, 1, none⟩) h.hB.1 _⟩
  have e : q = pb := e
  subst e
  rcases ho.2 with ⟨hv, _⟩ | ⟨g', _, cur, hv, _, hh, _⟩
  · rw [hv] at hq; cases hq
  · rw [hv] at hq
    cases hq
    have e2 := hb.symm.trans hh
    injection e2 with e2
    injection e2 with _ e2 _
    exact absurd e2 (by decide)
set_option maxHeartbeats 8000000 in
set_option maxRecDepth 20000 in
theorem atom_any (B pb : Nat) (c q : UInt8) (s : ByteArray) (w : World) (hs : s = ⟨#[c, q]⟩) (h : Ps B pb s 0 [] w) (hx : c ≠ 40 ∧ c ≠ 46 ∧ c ≠ 94 ∧ c ≠ 36 ∧ c ≠ 91) (hy : (c.toNat : Int) ≠ 42 ∧ (c.toNat : Int) ≠ 43 ∧ (c.toNat : Int) ≠ 63 ∧ (c.toNat : Int) ≠ 41 ∧ (c.toNat : Int) ≠ 124 ∧ (c.toNat : Int) ≠ 123 ∧ (c.toNat : Int) ≠ 125 ∧ (c.toNat : Int) ≠ 47)
    (hsig : signD [c, q] = some ((c.toNat : Int), 1)) :
    Calls Try.prog 108 #[.pointer (some ⟨pb, 0, none⟩)] w fun e w' => e = .returned (.int .i64 0) ∧ Ps B pb s 1 [⟨1, k4 (oneK c.toNat), 0, 0⟩] w' ∧ Below B w w' := by
  have hl : s.data.toList = [c, q] := by rw [hs]
  have hz : s.size = 2 := by rw [hs]; rfl
  have no : ∀ (ch : UInt8), c ≠ ch → ¬ s.data.toList[0]? = some ch := fun ch hne he => by rw [hl] at he; exact hne (by simpa using he)
  have k40 := is_no B pb 0 s [] 40 40 rfl (no _ hx.1)
  have k46 := is_no B pb 0 s [] 46 46 rfl (no _ hx.2.1)
  have k94 := is_no B pb 0 s [] 94 94 rfl (no _ hx.2.2.1)
  have k36 := is_no B pb 0 s [] 36 36 rfl (no _ hx.2.2.2.1)
  have k91 := is_no B pb 0 s [] 91 91 rfl (no _ hx.2.2.2.2)
  obtain ⟨y1, y2, y3, y4, y5, y6, y7, y8⟩ := hy
  have f1 : ((c.toNat : Int) == 42) = false := beq_eq_false_iff_ne.2 y1
  have f2 : ((c.toNat : Int) == 43) = false := beq_eq_false_iff_ne.2 y2
  have f3 : ((c.toNat : Int) == 63) = false := beq_eq_false_iff_ne.2 y3
  have f4 : ((c.toNat : Int) == 41) = false := beq_eq_false_iff_ne.2 y4
  have f5 : ((c.toNat : Int) == 124) = false := beq_eq_false_iff_ne.2 y5
  have f6 : ((c.toNat : Int) == 123) = false := beq_eq_false_iff_ne.2 y6
  have f7 : ((c.toNat : Int) == 125) = false := beq_eq_false_iff_ne.2 y7
  have f8 : ((c.toNat : Int) == 47) = false := beq_eq_false_iff_ne.2 y8
  have hat : ∀ h : 0 < s.size, s[0] = c := fun h => by subst hs; rfl
  have hex : s.extract 0 2 = s := by subst hs; rfl
  have ks := fun w => refSign_any s w
  rw [hl, hsig] at ks
  have ko : ∀ w, Calls Try.prog 28 #[.int .u8 (c.toNat : Int)] w fun e w' => e = .returned (.agg #[.int .u64 ((k4 (oneK c.toNat)).a.toNat : Int), .int .u64 ((k4 (oneK c.toNat)).b.toNat : Int), .int .u64 ((k4 (oneK c.toNat)).c.toNat : Int), .int .u64 ((k4 (oneK c.toNat)).d.toNat : Int)]) ∧ Below w.heap.size w w' := fun w => refOne_any (c.toNat : Int) w (by omega) (by have := c.toNat_lt; omega)
  obtain ⟨K, hK⟩ : ∃ K, K = k4 (oneK c.toNat) := ⟨_, rfl⟩
  rw [← hK] at ko ⊢
  have kl := fun w h => lay_any B pb 1 s [] 1 0 0 K w h (by decide)
  unfold signE at ks
  have HP := Lib.hid h
  have HB := Lib.hid (Below.refl B w)
  have hs0 : (0 : Int) < (s.size : Int) := by omega
  have hs0' : 0 < s.size := by omega
  clear h hs no hx y1 y2 y3 y4 y5 y6 y7 y8 hl hsig hK
  have hat0 := hat hs0'
  go_enter Try.func108, Try.ntmps108
  go_wp2_with (first
    | (go_at_call 82; first
          | (with_reducible refine (k40 _ HP.out).mono ?_; rintro e w40 ⟨rfl, hb40⟩; replace HB := Lib.hid (HB.out.trans (hb40.mono HP.out.hB.2)); replace HP := Lib.hid (HP.out.below hb40); clear k40 hb40)
          | (with_reducible refine (k46 _ HP.out).mono ?_; rintro e w46 ⟨rfl, hb46⟩; replace HB := Lib.hid (HB.out.trans (hb46.mono HP.out.hB.2)); replace HP := Lib.hid (HP.out.below hb46); clear k46 hb46)
          | (with_reducible refine (k94 _ HP.out).mono ?_; rintro e w94 ⟨rfl, hb94⟩; replace HB := Lib.hid (HB.out.trans (hb94.mono HP.out.hB.2)); replace HP := Lib.hid (HP.out.below hb94); clear k94 hb94)
          | (with_reducible refine (k36 _ HP.out).mono ?_; rintro e w36 ⟨rfl, hb36⟩; replace HB := Lib.hid (HB.out.trans (hb36.mono HP.out.hB.2)); replace HP := Lib.hid (HP.out.below hb36); clear k36 hb36)
          | (with_reducible refine (k91 _ HP.out).mono ?_; rintro e w91 ⟨rfl, hb91⟩; replace HB := Lib.hid (HB.out.trans (hb91.mono HP.out.hB.2)); replace HP := Lib.hid (HP.out.below hb91); clear k91 hb91))
    | fail)
  obtain ⟨g0, g1, g4⟩ := HP.out.cells
  refine wp_region_held_drew (S := fun W' => W'.cell? ⟨pb, 0, none⟩ = some (.string s) ∧ W'.cell? ⟨pb, 1, none⟩ = some (.int .i64 ((0 : Nat) : Int))) (by kernel_rfl) ⟨g0, g1⟩ (fun hHeld => ?_)
  refine wpAnyH_take (i := 0) (v := ?_) rfl (by kernel_rfl) (by kernel_rfl) (by kernel_rfl) (fun _ _ _ h => h) ?_ hHeld ?_; rotate_left; · (simp only [List.getElem_toArray, List.getElem_cons_zero]; refine Or.inl ⟨by rfl, ?_⟩; intro w hSw; (try dsimp only at hSw); obtain ⟨s1, s2⟩ := hSw; go_simp; try with_reducible rfl)
  try simp only [List.getElem_toArray, List.getElem_cons_zero, Act.put, List.setIfInBounds_toArray, List.set_cons_zero, List.set_cons_succ]
  refine wpAnyH_take (i := 1) (v := ?_) rfl (by kernel_rfl) (by kernel_rfl) (by kernel_rfl) (fun _ _ _ h => h) ?_ hHeld ?_; rotate_left; · (simp only [List.getElem_toArray, List.getElem_cons_succ, List.getElem_cons_zero]; refine Or.inl ⟨by rfl, ?_⟩; intro w hSw; (try dsimp only at hSw); obtain ⟨s1, s2⟩ := hSw; go_simp; try with_reducible rfl)
  try simp only [List.getElem_toArray, List.getElem_cons_succ, List.getElem_cons_zero, Act.put, List.setIfInBounds_toArray, List.set_cons_zero, List.set_cons_succ]
  refine wpAnyH_take (i := 2) (v := ?_) rfl (by kernel_rfl) (by kernel_rfl) (by kernel_rfl) (fun _ _ _ h => h) ?_ hHeld ?_; rotate_left; · (simp only [List.getElem_toArray, List.getElem_cons_succ, List.getElem_cons_zero]; refine Or.inl ⟨by rfl, ?_⟩; intro w hSw; (try dsimp only at hSw); obtain ⟨s1, s2⟩ := hSw; go_simp; try with_reducible rfl)
  try simp only [List.getElem_toArray, List.getElem_cons_succ, List.getElem_cons_zero, Act.put, List.setIfInBounds_toArray, List.set_cons_zero, List.set_cons_succ]
  refine wpAnyH_take (i := 3) (v := ?_) rfl (by kernel_rfl) (by kernel_rfl) (by kernel_rfl) (fun _ _ _ h => h) ?_ hHeld ?_; rotate_left; · (simp only [List.getElem_toArray, List.getElem_cons_succ, List.getElem_cons_zero]; refine Or.inl ⟨by rfl, ?_⟩; intro w hSw; (try dsimp only at hSw); obtain ⟨s1, s2⟩ := hSw; go_simp; try with_reducible rfl)
  try simp only [List.getElem_toArray, List.getElem_cons_succ, List.getElem_cons_zero, Act.put, List.setIfInBounds_toArray, List.set_cons_zero, List.set_cons_succ]
  refine wpAnyH_take (i := 4) (v := ?_) rfl (by kernel_rfl) (by kernel_rfl) (by kernel_rfl) (fun _ _ _ h => h) ?_ hHeld ?_; rotate_left; · (simp only [List.getElem_toArray, List.getElem_cons_succ, List.getElem_cons_zero]; refine Or.inl ⟨by rfl, ?_⟩; intro w hSw; (try dsimp only at hSw); obtain ⟨s1, s2⟩ := hSw; go_simp; try with_reducible rfl)
  try simp only [List.getElem_toArray, List.getElem_cons_succ, List.getElem_cons_zero, Act.put, List.setIfInBounds_toArray, List.set_cons_zero, List.set_cons_succ]
  refine wpAnyH_take (i := 5) (v := ?_) rfl (by kernel_rfl) (by kernel_rfl) (by kernel_rfl) (fun _ _ _ h => h) ?_ hHeld ?_; rotate_left; · (simp only [List.getElem_toArray, List.getElem_cons_succ, List.getElem_cons_zero]; refine Or.inl ⟨by rfl, ?_⟩; intro w hSw; (try dsimp only at hSw); obtain ⟨s1, s2⟩ := hSw; go_simp; try with_reducible rfl)
  try simp only [List.getElem_toArray, List.getElem_cons_succ, List.getElem_cons_zero, Act.put, List.setIfInBounds_toArray, List.set_cons_zero, List.set_cons_succ]
  refine wpAnyH_take (i := 6) (v := ?_) rfl (by kernel_rfl) (by kernel_rfl) (by kernel_rfl) (fun _ _ _ h => h) ?_ hHeld ?_; rotate_left; · (simp only [List.getElem_toArray, List.getElem_cons_succ, List.getElem_cons_zero]; refine Or.inl ⟨by rfl, ?_⟩; intro w hSw; (try dsimp only at hSw); obtain ⟨s1, s2⟩ := hSw; go_simp; try with_reducible rfl)
  try simp only [List.getElem_toArray, List.getElem_cons_succ, List.getElem_cons_zero, Act.put, List.setIfInBounds_toArray, List.set_cons_zero, List.set_cons_succ]
  refine wpAnyH_take (i := 7) (v := ?_) rfl (by kernel_rfl) (by kernel_rfl) (by kernel_rfl) (fun _ _ _ h => h) ?_ hHeld ?_; rotate_left; · (simp only [List.getElem_toArray, List.getElem_cons_succ, List.getElem_cons_zero]; refine Or.inl ⟨by rfl, ?_⟩; intro w hSw; (try dsimp only at hSw); obtain ⟨s1, s2⟩ := hSw; go_simp; try with_reducible rfl)
  try simp only [List.getElem_toArray, List.getElem_cons_succ, List.getElem_cons_zero, Act.put, List.setIfInBounds_toArray, List.set_cons_zero, List.set_cons_succ]
  refine wpAnyH_take (i := 8) (v := ?_) rfl (by kernel_rfl) (by kernel_rfl) (by kernel_rfl) (fun _ _ _ h => h) ?_ hHeld ?_; rotate_left; · (simp only [List.getElem_toArray, List.getElem_cons_succ, List.getElem_cons_zero]; refine Or.inl ⟨by rfl, ?_⟩; intro w hSw; (try dsimp only at hSw); obtain ⟨s1, s2⟩ := hSw; go_simp; try with_reducible rfl)
  try simp only [List.getElem_toArray, List.getElem_cons_succ, List.getElem_cons_zero, Act.put, List.setIfInBounds_toArray, List.set_cons_zero, List.set_cons_succ]
  refine wpAnyH_take (i := 9) (v := ?_) rfl (by kernel_rfl) (by kernel_rfl) (by kernel_rfl) (fun _ _ _ h => h) ?_ hHeld ?_; rotate_left; · (simp only [List.getElem_toArray, List.getElem_cons_succ, List.getElem_cons_zero]; refine Or.inl ⟨by rfl, ?_⟩; intro w hSw; (try dsimp only at hSw); obtain ⟨s1, s2⟩ := hSw; go_simp; try with_reducible rfl)
  try simp only [List.getElem_toArray, List.getElem_cons_succ, List.getElem_cons_zero, Act.put, List.setIfInBounds_toArray, List.set_cons_zero, List.set_cons_succ]
  refine wpAnyH_done (by kernel_rfl) ?_ _
  have HP2 := Lib.hid (HP.out.below ((Below.refl _ w91).drew))
  have HB2 := Lib.hid (HB.out.trans ((Below.refl _ w91).drew.mono HP.out.hB.2))
  clear hHeld g0 g1 g4
  obtain ⟨V, hV⟩ : ∃ V, V = w91.drew := ⟨_, rfl⟩
  rw [← hV] at HP2 HB2 ⊢
  clear hV HP HB
  go_wp2_with fail
  obtain ⟨g0, g1, g4⟩ := HP2.out.cells
  refine wp_region_held_drew (S := fun W' => W'.cell? ⟨pb, 0, none⟩ = some (.string s) ∧ W'.cell? ⟨pb, 1, none⟩ = some (.int .i64 ((0 : Nat) : Int))) (by kernel_rfl) ⟨g0, g1⟩ (fun hHeld => ?_)
  refine wpAnyH_take (i := 0) (v := ?_) rfl (by kernel_rfl) (by kernel_rfl) (by kernel_rfl) (fun _ _ _ h => h) ?_ hHeld ?_; rotate_left; · (simp only [List.getElem_toArray, List.getElem_cons_zero]; refine Or.inl ⟨by rfl, ?_⟩; intro w hSw; (try dsimp only at hSw); obtain ⟨s1, s2⟩ := hSw; go_simp; try with_reducible rfl)
  try simp only [List.getElem_toArray, List.getElem_cons_zero, Act.put, List.setIfInBounds_toArray, List.set_cons_zero, List.set_cons_succ]
  refine wpAnyH_take (i := 1) (v := ?_) rfl (by kernel_rfl) (by kernel_rfl) (by kernel_rfl) (fun _ _ _ h => h) ?_ hHeld ?_; rotate_left; · (simp only [List.getElem_toArray, List.getElem_cons_succ, List.getElem_cons_zero]; refine Or.inl ⟨by rfl, ?_⟩; intro w hSw; (try dsimp only at hSw); obtain ⟨s1, s2⟩ := hSw; go_simp; try with_reducible rfl)
  try simp only [List.getElem_toArray, List.getElem_cons_succ, List.getElem_cons_zero, Act.put, List.setIfInBounds_toArray, List.set_cons_zero, List.set_cons_succ]
  refine wpAnyH_take (i := 2) (v := ?_) rfl (by kernel_rfl) (by kernel_rfl) (by kernel_rfl) (fun _ _ _ h => h) ?_ hHeld ?_; rotate_left; · (simp only [List.getElem_toArray, List.getElem_cons_succ, List.getElem_cons_zero]; refine Or.inl ⟨by rfl, ?_⟩; intro w hSw; (try dsimp only at hSw); obtain ⟨s1, s2⟩ := hSw; go_simp; try with_reducible rfl)
  try simp only [List.getElem_toArray, List.getElem_cons_succ, List.getElem_cons_zero, Act.put, List.setIfInBounds_toArray, List.set_cons_zero, List.set_cons_succ]
  refine wpAnyH_take (i := 3) (v := ?_) rfl (by kernel_rfl) (by kernel_rfl) (by kernel_rfl) (fun _ _ _ h => h) ?_ hHeld ?_; rotate_left; · (simp only [List.getElem_toArray, List.getElem_cons_succ, List.getElem_cons_zero]; refine Or.inl ⟨by rfl, ?_⟩; intro w hSw; (try dsimp only at hSw); obtain ⟨s1, s2⟩ := hSw; go_simp; try with_reducible rfl)
  try simp only [List.getElem_toArray, List.getElem_cons_succ, List.getElem_cons_zero, Act.put, List.setIfInBounds_toArray, List.set_cons_zero, List.set_cons_succ]
  refine wpAnyH_take (i := 4) (v := ?_) rfl (by kernel_rfl) (by kernel_rfl) (by kernel_rfl) (fun _ _ _ h => h) ?_ hHeld ?_; rotate_left; · (simp only [List.getElem_toArray, List.getElem_cons_succ, List.getElem_cons_zero]; refine Or.inl ⟨by rfl, ?_⟩; intro w hSw; (try dsimp only at hSw); obtain ⟨s1, s2⟩ := hSw; go_simp; try with_reducible rfl)
  try simp only [List.getElem_toArray, List.getElem_cons_succ, List.getElem_cons_zero, Act.put, List.setIfInBounds_toArray, List.set_cons_zero, List.set_cons_succ]
  refine wpAnyH_take (i := 5) (v := ?_) rfl (by kernel_rfl) (by kernel_rfl) (by kernel_rfl) (fun _ _ _ h => h) ?_ hHeld ?_; rotate_left; · (simp only [List.getElem_toArray, List.getElem_cons_succ, List.getElem_cons_zero]; refine Or.inl ⟨by rfl, ?_⟩; intro w hSw; (try dsimp only at hSw); obtain ⟨s1, s2⟩ := hSw; go_simp; try with_reducible rfl)
  try simp only [List.getElem_toArray, List.getElem_cons_succ, List.getElem_cons_zero, Act.put, List.setIfInBounds_toArray, List.set_cons_zero, List.set_cons_succ]
  refine wpAnyH_take (i := 6) (v := ?_) rfl (by kernel_rfl) (by kernel_rfl) (by kernel_rfl) (fun _ _ _ h => h) ?_ hHeld ?_; rotate_left; · (simp only [List.getElem_toArray, List.getElem_cons_succ, List.getElem_cons_zero]; refine Or.inl ⟨by rfl, ?_⟩; intro w hSw; (try dsimp only at hSw); obtain ⟨s1, s2⟩ := hSw; go_simp; try with_reducible rfl)
  try simp only [List.getElem_toArray, List.getElem_cons_succ, List.getElem_cons_zero, Act.put, List.setIfInBounds_toArray, List.set_cons_zero, List.set_cons_succ]
  refine wpAnyH_take (i := 7) (v := ?_) rfl (by kernel_rfl) (by kernel_rfl) (by kernel_rfl) (fun _ _ _ h => h) ?_ hHeld ?_; rotate_left; · (simp only [List.getElem_toArray, List.getElem_cons_succ, List.getElem_cons_zero]; refine Or.inl ⟨by rfl, ?_⟩; intro w hSw; (try dsimp only at hSw); obtain ⟨s1, s2⟩ := hSw; go_simp; try with_reducible rfl)
  try simp only [List.getElem_toArray, List.getElem_cons_succ, List.getElem_cons_zero, Act.put, List.setIfInBounds_toArray, List.set_cons_zero, List.set_cons_succ]
  refine wpAnyH_take (i := 8) (v := ?_) rfl (by kernel_rfl) (by kernel_rfl) (by kernel_rfl) (fun _ _ _ h => h) ?_ hHeld ?_; rotate_left; · (simp only [List.getElem_toArray, List.getElem_cons_succ, List.getElem_cons_zero]; refine Or.inl ⟨by rfl, ?_⟩; intro w hSw; (try dsimp only at hSw); obtain ⟨s1, s2⟩ := hSw; go_simp; try with_reducible rfl)
  try simp only [List.getElem_toArray, List.getElem_cons_succ, List.getElem_cons_zero, Act.put, List.setIfInBounds_toArray, List.set_cons_zero, List.set_cons_succ]
  refine wpAnyH_ready (rs := [9]) (by kernel_rfl) (by simp) ?_
  refine AllReadyH.cons rfl (fun K' hK => ?_) AllReadyH.nil
  simp only [List.getElem_toArray, List.getElem_cons_succ, List.getElem_cons_zero]
  rw [if_pos (by rfl)]
  go_simp
  (go_at_call 118; refine (ks _).mono ?_; rintro e w6 ⟨rfl, hb6⟩)
  have HP6 := Lib.hid ((HP2.out.below ((Below.refl _ V).drew)).below hb6)
  have HB6 := Lib.hid ((HB2.out.trans ((Below.refl _ V).drew.mono HP2.out.hB.2)).trans (hb6.mono (HP2.out.below ((Below.refl _ V).drew)).hB.2))
  obtain ⟨u0, u1, u4⟩ := HP6.out.cells
  refine hK.out _ _ ⟨u0, u1⟩ (fun hHeld2 => ?_)
  clear hK K' hHeld g0 g1 g4 hb6
  try simp only [List.getElem_toArray, List.getElem_cons_succ, List.getElem_cons_zero, Act.put, List.setIfInBounds_toArray, List.set_cons_zero, List.set_cons_succ]
  refine wpAnyH_take (i := 10) (v := ?_) rfl (by kernel_rfl) (by kernel_rfl) (by kernel_rfl) (fun _ _ _ h => h) ?_ hHeld2 ?_; rotate_left; · (simp only [List.getElem_toArray, List.getElem_cons_succ, List.getElem_cons_zero]; refine Or.inl ⟨by rfl, ?_⟩; intro w hSw; (try dsimp only at hSw); go_simp; try with_reducible rfl)
  try simp only [List.getElem_toArray, List.getElem_cons_succ, List.getElem_cons_zero, Act.put, List.setIfInBounds_toArray, List.set_cons_zero, List.set_cons_succ]
  refine wpAnyH_take (i := 11) (v := ?_) rfl (by kernel_rfl) (by kernel_rfl) (by kernel_rfl) (fun _ _ _ h => h) ?_ hHeld2 ?_; rotate_left; · (simp only [List.getElem_toArray, List.getElem_cons_succ, List.getElem_cons_zero]; refine Or.inl ⟨by rfl, ?_⟩; intro w hSw; (try dsimp only at hSw); go_simp; try with_reducible rfl)
  try simp only [List.getElem_toArray, List.getElem_cons_succ, List.getElem_cons_zero, Act.put, List.setIfInBounds_toArray, List.set_cons_zero, List.set_cons_succ]
  refine wpAnyH_take (i := 12) (v := ?_) rfl (by kernel_rfl) (by kernel_rfl) (by kernel_rfl) (fun _ _ _ h => h) ?_ hHeld2 ?_; rotate_left; · (simp only [List.getElem_toArray, List.getElem_cons_succ, List.getElem_cons_zero]; refine Or.inl ⟨by rfl, ?_⟩; intro w hSw; (try dsimp only at hSw); go_simp; try with_reducible rfl)
  try simp only [List.getElem_toArray, List.getElem_cons_succ, List.getElem_cons_zero, Act.put, List.setIfInBounds_toArray, List.set_cons_zero, List.set_cons_succ]
  refine wpAnyH_take (i := 13) (v := ?_) rfl (by kernel_rfl) (by kernel_rfl) (by kernel_rfl) (fun _ _ _ h => h) ?_ hHeld2 ?_; rotate_left; · (simp only [List.getElem_toArray, List.getElem_cons_succ, List.getElem_cons_zero]; refine Or.inl ⟨by rfl, ?_⟩; intro w hSw; (try dsimp only at hSw); go_simp; try with_reducible rfl)
  try simp only [List.getElem_toArray, List.getElem_cons_succ, List.getElem_cons_zero, Act.put, List.setIfInBounds_toArray, List.set_cons_zero, List.set_cons_succ]
  refine wpAnyH_take (i := 14) (v := ?_) rfl (by kernel_rfl) (by kernel_rfl) (by kernel_rfl) (fun _ _ _ h => h) ?_ hHeld2 ?_; rotate_left; · (simp only [List.getElem_toArray, List.getElem_cons_succ, List.getElem_cons_zero]; refine Or.inl ⟨by rfl, ?_⟩; intro w hSw; (try dsimp only at hSw); go_simp; try with_reducible rfl)
  try simp only [List.getElem_toArray, List.getElem_cons_succ, List.getElem_cons_zero, Act.put, List.setIfInBounds_toArray, List.set_cons_zero, List.set_cons_succ]
  refine wpAnyH_take (i := 15) (v := ?_) rfl (by kernel_rfl) (by kernel_rfl) (by kernel_rfl) (fun _ _ _ h => h) ?_ hHeld2 ?_; rotate_left; · (simp only [List.getElem_toArray, List.getElem_cons_succ, List.getElem_cons_zero]; refine Or.inl ⟨by rfl, ?_⟩; intro w hSw; (try dsimp only at hSw); go_simp; try with_reducible rfl)
  try simp only [List.getElem_toArray, List.getElem_cons_succ, List.getElem_cons_zero, Act.put, List.setIfInBounds_toArray, List.set_cons_zero, List.set_cons_succ]
  refine wpAnyH_take (i := 16) (v := ?_) rfl (by kernel_rfl) (by kernel_rfl) (by kernel_rfl) (fun _ _ _ h => h) ?_ hHeld2 ?_; rotate_left; · (simp only [List.getElem_toArray, List.getElem_cons_succ, List.getElem_cons_zero]; refine Or.inl ⟨by rfl, ?_⟩; intro w hSw; (try dsimp only at hSw); go_simp; try with_reducible rfl)
  try simp only [List.getElem_toArray, List.getElem_cons_succ, List.getElem_cons_zero, Act.put, List.setIfInBounds_toArray, List.set_cons_zero, List.set_cons_succ]
  refine wpAnyH_done (by kernel_rfl) ?_ _
  have fz := HP6.out.froz
  clear HP2 HB2 ks hHeld2
  go_wp2_with (first
    | (go_at_call 28; refine (ko _).mono ?_; rintro e w7 ⟨rfl, hb7⟩
       have HP7 := Lib.hid ((HP6.out.set 1).1.below hb7)
       have HB7 := Lib.hid ((HB6.out.trans (HP6.out.set 1).2).trans (hb7.mono (HP6.out.set 1).1.hB.2))
       clear ko hb7)
    | (go_at_call 83; refine (kl _ HP7.out).mono ?_; rintro e w8 ⟨rfl, hp8, hb8⟩)
    | fail)
  exact bodyPost_ret (results_tmp rfl _ _ _) rfl ⟨rfl, hp8, HB7.out.trans hb8⟩
end Go.Proofs.Ytkgpnlldlekcbaa
namespace Go.Proofs.Ytkgpnlldlekcbaa
open Go.RowKit Go.Lib

set_option maxHeartbeats 8000000 in
set_option maxRecDepth 20000 in
theorem piece_any (B pb : Nat) (c q : UInt8) (k : Int) (K : K4) (s : ByteArray) (w : World) (hs : s = ⟨#[c, q]⟩) (hq : (q = 42 ∧ k = 4) ∨ (q = 43 ∧ k = 5))
    (ka : Calls Try.prog 108 #[.pointer (some ⟨pb, 0, none⟩)] w fun e w' => e = .returned (.int .i64 0) ∧ Ps B pb s 1 [⟨1, K, 0, 0⟩] w' ∧ Below B w w') :
    Calls Try.prog 97 #[.pointer (some ⟨pb, 0, none⟩)] w fun e w' => e = .returned (.int .i64 1) ∧ Ps B pb s 2 [⟨1, K, 0, 0⟩, ⟨k, k0, 0, 0⟩] w' ∧ Below B w w' := by
  rcases hq with ⟨rfl, rfl⟩ | ⟨rfl, rfl⟩
  · have hl : s.data.toList = [c, 42] := by rw [hs]
    have no1 : ∀ (ch : UInt8), ch ≠ 42 → ¬ s.data.toList[1]? = some ch := fun ch hne he => by rw [hl] at he; exact hne (by simpa using he.symm)
    have no2 : ∀ (ch : UInt8), ¬ s.data.toList[2]? = some ch := fun ch he => by rw [hl] at he; simp at he
    have yes1 : s.data.toList[1]? = some 42 := by rw [hl]; rfl
    have k42 := is_yes B pb 1 s [⟨1, K, 0, 0⟩] 42 42 rfl yes1
    have k43 := is_no B pb 1 s [⟨1, K, 0, 0⟩] 43 43 rfl (no1 _ (by decide))
    have k63 := is_no B pb 1 s [⟨1, K, 0, 0⟩] 63 63 rfl (no1 _ (by decide))
    have l42 := is_no B pb 2 s [⟨1, K, 0, 0⟩, ⟨4, k0, 0, 0⟩] 42 42 rfl (no2 _)
    have l43 := is_no B pb 2 s [⟨1, K, 0, 0⟩, ⟨4, k0, 0, 0⟩] 43 43 rfl (no2 _)
    have l63 := is_no B pb 2 s [⟨1, K, 0, 0⟩, ⟨4, k0, 0, 0⟩] 63 63 rfl (no2 _)
    have kl := fun w h => lay_any B pb 2 s [⟨1, K, 0, 0⟩] 4 0 0 k0 w h (by simp)
    have z0 : ((k0.a).toNat : Int) = 0 := rfl
    unfold k0 at kl
    dsimp only at kl
    clear hl no1 no2 yes1 hs
    go_enter Try.func97, Try.ntmps97
    go_wp2_with (first
      | (go_at_call 108; refine ka.mono ?_; rintro e w0 ⟨rfl, hp0, hb0⟩; have HP := Lib.hid hp0; have HB := Lib.hid hb0; clear hp0 hb0 ka)
      | fail)
    refine wp_loop_rounds 3 ?_
    rw [rounds_succ]
    go_wp2_with (first
      | (go_at_call 82; first
          | (with_reducible refine (k42 _ HP.out).mono ?_; rintro e w1 ⟨rfl, hb1⟩; replace HB := Lib.hid (HB.out.trans (hb1.mono HP.out.hB.2)); replace HP := Lib.hid (HP.out.below hb1); clear k42 hb1)
          | (with_reducible refine (k43 _ HP.out).mono ?_; rintro e w1 ⟨rfl, hb1⟩; replace HB := Lib.hid (HB.out.trans (hb1.mono HP.out.hB.2)); replace HP := Lib.hid (HP.out.below hb1); clear k43 hb1)
          | (with_reducible refine (k63 _ HP.out).mono ?_; rintro e w1 ⟨rfl, hb1⟩; replace HB := Lib.hid (HB.out.trans (hb1.mono HP.out.hB.2)); replace HP := Lib.hid (HP.out.below hb1); clear k63 hb1; have c1 := HP.out.cells.2.1; have f1 := HP.out.froz))
      | (go_at_call 83; refine (kl _ (HP.out.set 2).1).mono ?_; rintro e w8 ⟨rfl, hp8, hb8⟩
         replace HB := Lib.hid ((HB.out.trans (HP.out.set 2).2).trans hb8)
         have HQ := Lib.hid (show Ps B pb s 2 [⟨1, K, 0, 0⟩, ⟨4, k0, 0, 0⟩] w8 from hp8)
         clear hp8 hb8 kl c1 f1)
      | fail)
    rw [rounds_succ]
    go_wp2_with (first
      | (go_at_call 82; first
          | (with_reducible refine (l42 _ HQ.out).mono ?_; rintro e w1 ⟨rfl, hb1⟩; replace HB := Lib.hid (HB.out.trans (hb1.mono HQ.out.hB.2)); replace HQ := Lib.hid (HQ.out.below hb1); clear l42 hb1)
          | (with_reducible refine (l43 _ HQ.out).mono ?_; rintro e w1 ⟨rfl, hb1⟩; replace HB := Lib.hid (HB.out.trans (hb1.mono HQ.out.hB.2)); replace HQ := Lib.hid (HQ.out.below hb1); clear l43 hb1)
          | (with_reducible refine (l63 _ HQ.out).mono ?_; rintro e w1 ⟨rfl, hb1⟩; replace HB := Lib.hid (HB.out.trans (hb1.mono HQ.out.hB.2)); replace HQ := Lib.hid (HQ.out.below hb1); clear l63 hb1))
      | fail)
    rw [rounds_succ]
    go_wp2
    exact bodyPost_ret (results_tmp rfl _ _ _) rfl ⟨rfl, HQ.out, HB.out⟩
  · have hl : s.data.toList = [c, 43] := by rw [hs]
    have no1 : ∀ (ch : UInt8), ch ≠ 43 → ¬ s.data.toList[1]? = some ch := fun ch hne he => by rw [hl] at he; exact hne (by simpa using he.symm)
    have no2 : ∀ (ch : UInt8), ¬ s.data.toList[2]? = some ch := fun ch he => by rw [hl] at he; simp at he
    have yes1 : s.data.toList[1]? = some 43 := by rw [hl]; rfl
    have k42 := is_no B pb 1 s [⟨1, K, 0, 0⟩] 42 42 rfl (no1 _ (by decide))
    have k43 := is_yes B pb 1 s [⟨1, K, 0, 0⟩] 43 43 rfl yes1
    have k63 := is_no B pb 1 s [⟨1, K, 0, 0⟩] 63 63 rfl (no1 _ (by decide))
    have l42 := is_no B pb 2 s [⟨1, K, 0, 0⟩, ⟨5, k0, 0, 0⟩] 42 42 rfl (no2 _)
    have l43 := is_no B pb 2 s [⟨1, K, 0, 0⟩, ⟨5, k0, 0, 0⟩] 43 43 rfl (no2 _)
    have l63 := is_no B pb 2 s [⟨1, K, 0, 0⟩, ⟨5, k0, 0, 0⟩] 63 63 rfl (no2 _)
    have kl := fun w h => lay_any B pb 2 s [⟨1, K, 0, 0⟩] 5 0 0 k0 w h (by simp)
    have z0 : ((k0.a).toNat : Int) = 0 := rfl
    unfold k0 at kl
    dsimp only at kl
    clear hl no1 no2 yes1 hs
    go_enter Try.func97, Try.ntmps97
    go_wp2_with (first
      | (go_at_call 108; refine ka.mono ?_; rintro e w0 ⟨rfl, hp0, hb0⟩; have HP := Lib.hid hp0; have HB := Lib.hid hb0; clear hp0 hb0 ka)
      | fail)
    refine wp_loop_rounds 3 ?_
    rw [rounds_succ]
    go_wp2_with (first
      | (go_at_call 82; first
          | (with_reducible refine (k42 _ HP.out).mono ?_; rintro e w1 ⟨rfl, hb1⟩; replace HB := Lib.hid (HB.out.trans (hb1.mono HP.out.hB.2)); replace HP := Lib.hid (HP.out.below hb1); clear k42 hb1)
          | (with_reducible refine (k43 _ HP.out).mono ?_; rintro e w1 ⟨rfl, hb1⟩; replace HB := Lib.hid (HB.out.trans (hb1.mono HP.out.hB.2)); replace HP := Lib.hid (HP.out.below hb1); clear k43 hb1)
          | (with_reducible refine (k63 _ HP.out).mono ?_; rintro e w1 ⟨rfl, hb1⟩; replace HB := Lib.hid (HB.out.trans (hb1.mono HP.out.hB.2)); replace HP := Lib.hid (HP.out.below hb1); clear k63 hb1; have c1 := HP.out.cells.2.1; have f1 := HP.out.froz))
      | (go_at_call 83; refine (kl _ (HP.out.set 2).1).mono ?_; rintro e w8 ⟨rfl, hp8, hb8⟩
         replace HB := Lib.hid ((HB.out.trans (HP.out.set 2).2).trans hb8)
         have HQ := Lib.hid (show Ps B pb s 2 [⟨1, K, 0, 0⟩, ⟨5, k0, 0, 0⟩] w8 from hp8)
         clear hp8 hb8 kl c1 f1)
      | fail)
    rw [rounds_succ]
    go_wp2_with (first
      | (go_at_call 82; first
          | (with_reducible refine (l42 _ HQ.out).mono ?_; rintro e w1 ⟨rfl, hb1⟩; replace HB := Lib.hid (HB.out.trans (hb1.mono HQ.out.hB.2)); replace HQ := Lib.hid (HQ.out.below hb1); clear l42 hb1)
          | (with_reducible refine (l43 _ HQ.out).mono ?_; rintro e w1 ⟨rfl, hb1⟩; replace HB := Lib.hid (HB.out.trans (hb1.mono HQ.out.hB.2)); replace HQ := Lib.hid (HQ.out.below hb1); clear l43 hb1)
          | (with_reducible refine (l63 _ HQ.out).mono ?_; rintro e w1 ⟨rfl, hb1⟩; replace HB := Lib.hid (HB.out.trans (hb1.mono HQ.out.hB.2)); replace HQ := Lib.hid (HQ.out.below hb1); clear l63 hb1))
      | fail)
    rw [rounds_succ]
    go_wp2
    exact bodyPost_ret (results_tmp rfl _ _ _) rfl ⟨rfl, HQ.out, HB.out⟩
end Go.Proofs.Ytkgpnlldlekcbaa
namespace Go.Proofs.Ytkgpnlldlekcbaa
open Go.RowKit Go.Lib

set_option maxHeartbeats 8000000 in
set_option maxRecDepth 20000 in
theorem row_any (B pb : Nat) (c q : UInt8) (k : Int) (K : K4) (s : ByteArray) (w : World) (hs : s = ⟨#[c, q]⟩) (h : Ps B pb s 0 [] w) (h124 : c ≠ 124) (h41 : c ≠ 41)
    (kp : ∀ w, Ps B pb s 0 [] w → Calls Try.prog 97 #[.pointer (some ⟨pb, 0, none⟩)] w fun e w' => e = .returned (.int .i64 1) ∧ Ps B pb s 2 [⟨1, K, 0, 0⟩, ⟨k, k0, 0, 0⟩] w' ∧ Below B w w') :
    Calls Try.prog 81 #[.pointer (some ⟨pb, 0, none⟩)] w fun e w' => e = .returned (.int .i64 1) ∧ Ps B pb s 2 [⟨1, K, 0, 0⟩, ⟨k, k0, 0, 0⟩] w' ∧ Below B w w' := by
  have hl : s.data.toList = [c, q] := by rw [hs]
  have hz : s.size = 2 := by rw [hs]; rfl
  have no : ∀ (ch : UInt8), c ≠ ch → ¬ s.data.toList[0]? = some ch := fun ch hne he => by rw [hl] at he; exact hne (by simpa using he)
  have k124 := is_no B pb 0 s [] 124 124 rfl (no _ h124)
  have k41 := is_no B pb 0 s [] 41 41 rfl (no _ h41)
  have HP := Lib.hid h
  have HB := Lib.hid (Below.refl B w)
  clear h hs hl no h124 h41
  go_enter Try.func81, Try.ntmps81
  go_wp2_with fail
  obtain ⟨g0, g1, g4⟩ := HP.out.cells
  have HPd := Lib.hid (HP.out.below ((Below.refl _ w).drew))
  have HBd := Lib.hid (HB.out.trans ((Below.refl _ w).drew.mono HP.out.hB.2))
  refine wp_region_held_drew (S := fun W' => W'.cell? ⟨pb, 0, none⟩ = some (.string s) ∧ W'.cell? ⟨pb, 1, none⟩ = some (.int .i64 ((0 : Nat) : Int))) (by kernel_rfl) ⟨g0, g1⟩ (fun hHeld => ?_)
  refine wpAnyH_take (i := 0) (v := ?_) rfl (by kernel_rfl) (by kernel_rfl) (by kernel_rfl) (fun _ _ _ h => h) ?_ hHeld ?_; rotate_left; · (simp only [List.getElem_toArray, List.getElem_cons_zero]; refine Or.inl ⟨by rfl, ?_⟩; intro w hSw; (try dsimp only at hSw); obtain ⟨s1, s2⟩ := hSw; go_simp; try with_reducible rfl)
  try simp only [List.getElem_toArray, List.getElem_cons_zero, Act.put, List.setIfInBounds_toArray, List.set_cons_zero, List.set_cons_succ]
  refine wpAnyH_take (i := 1) (v := ?_) rfl (by kernel_rfl) (by kernel_rfl) (by kernel_rfl) (fun _ _ _ h => h) ?_ hHeld ?_; rotate_left; · (simp only [List.getElem_toArray, List.getElem_cons_succ, List.getElem_cons_zero]; refine Or.inl ⟨by rfl, ?_⟩; intro w hSw; (try dsimp only at hSw); obtain ⟨s1, s2⟩ := hSw; go_simp; try with_reducible rfl)
  try simp only [List.getElem_toArray, List.getElem_cons_succ, List.getElem_cons_zero, Act.put, List.setIfInBounds_toArray, List.set_cons_zero, List.set_cons_succ]
  refine wpAnyH_take (i := 2) (v := ?_) rfl (by kernel_rfl) (by kernel_rfl) (by kernel_rfl) (fun _ _ _ h => h) ?_ hHeld ?_; rotate_left; · (simp only [List.getElem_toArray, List.getElem_cons_succ, List.getElem_cons_zero]; refine Or.inl ⟨by rfl, ?_⟩; intro w hSw; (try dsimp only at hSw); obtain ⟨s1, s2⟩ := hSw; go_simp; try with_reducible rfl)
  try simp only [List.getElem_toArray, List.getElem_cons_succ, List.getElem_cons_zero, Act.put, List.setIfInBounds_toArray, List.set_cons_zero, List.set_cons_succ]
  refine wpAnyH_take (i := 3) (v := ?_) rfl (by kernel_rfl) (by kernel_rfl) (by kernel_rfl) (fun _ _ _ h => h) ?_ hHeld ?_; rotate_left; · (simp only [List.getElem_toArray, List.getElem_cons_succ, List.getElem_cons_zero]; refine Or.inl ⟨by rfl, ?_⟩; intro w hSw; (try dsimp only at hSw); obtain ⟨s1, s2⟩ := hSw; go_simp; try with_reducible rfl)
  try simp only [List.getElem_toArray, List.getElem_cons_succ, List.getElem_cons_zero, Act.put, List.setIfInBounds_toArray, List.set_cons_zero, List.set_cons_succ]
  refine wpAnyH_take (i := 4) (v := ?_) rfl (by kernel_rfl) (by kernel_rfl) (by kernel_rfl) (fun _ _ _ h => h) ?_ hHeld ?_; rotate_left; · (simp only [List.getElem_toArray, List.getElem_cons_succ, List.getElem_cons_zero]; refine Or.inl ⟨by rfl, ?_⟩; intro w hSw; (try dsimp only at hSw); obtain ⟨s1, s2⟩ := hSw; go_simp; try with_reducible rfl)
  try simp only [List.getElem_toArray, List.getElem_cons_succ, List.getElem_cons_zero, Act.put, List.setIfInBounds_toArray, List.set_cons_zero, List.set_cons_succ]
  refine wpAnyH_take (i := 5) (v := ?_) rfl (by kernel_rfl) (by kernel_rfl) (by kernel_rfl) (fun _ _ _ h => h) ?_ hHeld ?_; rotate_left; · (simp only [List.getElem_toArray, List.getElem_cons_succ, List.getElem_cons_zero]; refine Or.inl ⟨by rfl, ?_⟩; intro w hSw; (try dsimp only at hSw); obtain ⟨s1, s2⟩ := hSw; go_simp; try with_reducible rfl)
  try simp only [List.getElem_toArray, List.getElem_cons_succ, List.getElem_cons_zero, Act.put, List.setIfInBounds_toArray, List.set_cons_zero, List.set_cons_succ]
  refine wpAnyH_take (i := 6) (v := ?_) rfl (by kernel_rfl) (by kernel_rfl) (by kernel_rfl) (fun _ _ _ h => h) ?_ hHeld ?_; rotate_left; · (simp only [List.getElem_toArray, List.getElem_cons_succ, List.getElem_cons_zero]; refine Or.inl ⟨by rfl, ?_⟩; intro w hSw; (try dsimp only at hSw); obtain ⟨s1, s2⟩ := hSw; go_simp; try with_reducible rfl)
  try simp only [List.getElem_toArray, List.getElem_cons_succ, List.getElem_cons_zero, Act.put, List.setIfInBounds_toArray, List.set_cons_zero, List.set_cons_succ]
  refine wpAnyH_take (i := 7) (v := ?_) rfl (by kernel_rfl) (by kernel_rfl) (by kernel_rfl) (fun _ _ _ h => h) ?_ hHeld ?_; rotate_left; · (simp only [List.getElem_toArray, List.getElem_cons_succ, List.getElem_cons_zero]; refine Or.inl ⟨by rfl, ?_⟩; intro w hSw; (try dsimp only at hSw); obtain ⟨s1, s2⟩ := hSw; go_simp; try with_reducible rfl)
  try simp only [List.getElem_toArray, List.getElem_cons_succ, List.getElem_cons_zero, Act.put, List.setIfInBounds_toArray, List.set_cons_zero, List.set_cons_succ]
  refine wpAnyH_take (i := 8) (v := ?_) rfl (by kernel_rfl) (by kernel_rfl) (by kernel_rfl) (fun _ _ _ h => h) ?_ hHeld ?_; rotate_left; · (simp only [List.getElem_toArray, List.getElem_cons_succ, List.getElem_cons_zero]; refine Or.inl ⟨by rfl, ?_⟩; intro w hSw; (try dsimp only at hSw); obtain ⟨s1, s2⟩ := hSw; go_simp; try with_reducible rfl)
  try simp only [List.getElem_toArray, List.getElem_cons_succ, List.getElem_cons_zero, Act.put, List.setIfInBounds_toArray, List.set_cons_zero, List.set_cons_succ]
  refine wpAnyH_take (i := 9) (v := ?_) rfl (by kernel_rfl) (by kernel_rfl) (by kernel_rfl) (fun _ _ _ h => h) ?_ hHeld ?_; rotate_left; · (simp only [List.getElem_toArray, List.getElem_cons_succ, List.getElem_cons_zero]; refine Or.inl ⟨by rfl, ?_⟩; intro w hSw; (try dsimp only at hSw); obtain ⟨s1, s2⟩ := hSw; go_simp; try with_reducible rfl)
  try simp only [List.getElem_toArray, List.getElem_cons_succ, List.getElem_cons_zero, Act.put, List.setIfInBounds_toArray, List.set_cons_zero, List.set_cons_succ]
  refine wpAnyH_take (i := 10) (v := ?_) rfl (by kernel_rfl) (by kernel_rfl) (by kernel_rfl) (fun _ _ _ h => h) ?_ hHeld ?_; rotate_left; · (simp only [List.getElem_toArray, List.getElem_cons_succ, List.getElem_cons_zero]; refine Or.inl ⟨by rfl, ?_⟩; intro w hSw; (try dsimp only at hSw); obtain ⟨s1, s2⟩ := hSw; go_simp; try with_reducible rfl)
  try simp only [List.getElem_toArray, List.getElem_cons_succ, List.getElem_cons_zero, Act.put, List.setIfInBounds_toArray, List.set_cons_zero, List.set_cons_succ]
  refine wpAnyH_take (i := 11) (v := ?_) rfl (by kernel_rfl) (by kernel_rfl) (by kernel_rfl) (fun _ _ _ h => h) ?_ hHeld ?_; rotate_left; · (simp only [List.getElem_toArray, List.getElem_cons_succ, List.getElem_cons_zero]; refine Or.inl ⟨by rfl, ?_⟩; intro w hSw; (try dsimp only at hSw); obtain ⟨s1, s2⟩ := hSw; go_simp; try with_reducible rfl)
  try simp only [List.getElem_toArray, List.getElem_cons_succ, List.getElem_cons_zero, Act.put, List.setIfInBounds_toArray, List.set_cons_zero, List.set_cons_succ]
  refine wpAnyH_ready (rs := [12]) (by kernel_rfl) (by simp) ?_
  refine AllReadyH.cons rfl (fun K' hK => ?_) AllReadyH.nil
  simp only [List.getElem_toArray, List.getElem_cons_succ, List.getElem_cons_zero]
  rw [if_pos (by rfl)]
  go_simp
  (go_at_call 82; refine (k124 _ HPd.out).mono ?_; rintro e w1 ⟨rfl, hb1⟩)
  have HP1 := Lib.hid (HPd.out.below hb1)
  have HB1 := Lib.hid (HBd.out.trans (hb1.mono HPd.out.hB.2))
  refine hK.out _ _ ⟨HP1.out.cells.1, HP1.out.cells.2.1⟩ (fun hHeld2 => ?_)
  clear hHeld hK K'
  have hHeld := hHeld2
  clear hHeld2
  try simp only [List.getElem_toArray, List.getElem_cons_succ, List.getElem_cons_zero, Act.put, List.setIfInBounds_toArray, List.set_cons_zero, List.set_cons_succ]
  refine wpAnyH_take (i := 13) (v := ?_) rfl (by kernel_rfl) (by kernel_rfl) (by kernel_rfl) (fun _ _ _ h => h) ?_ hHeld ?_; rotate_left; · (simp only [List.getElem_toArray, List.getElem_cons_succ, List.getElem_cons_zero]; refine Or.inl ⟨by rfl, ?_⟩; intro w hSw; (try dsimp only at hSw); obtain ⟨s1, s2⟩ := hSw; go_simp; try with_reducible rfl)
  try simp only [List.getElem_toArray, List.getElem_cons_succ, List.getElem_cons_zero, Act.put, List.setIfInBounds_toArray, List.set_cons_zero, List.set_cons_succ]
  refine wpAnyH_take (i := 14) (v := ?_) rfl (by kernel_rfl) (by kernel_rfl) (by kernel_rfl) (fun _ _ _ h => h) ?_ hHeld ?_; rotate_left; · (simp only [List.getElem_toArray, List.getElem_cons_succ, List.getElem_cons_zero]; refine Or.inl ⟨by rfl, ?_⟩; intro w hSw; (try dsimp only at hSw); obtain ⟨s1, s2⟩ := hSw; go_simp; try with_reducible rfl)
  try simp only [List.getElem_toArray, List.getElem_cons_succ, List.getElem_cons_zero, Act.put, List.setIfInBounds_toArray, List.set_cons_zero, List.set_cons_succ]
  refine wpAnyH_take (i := 15) (v := ?_) rfl (by kernel_rfl) (by kernel_rfl) (by kernel_rfl) (fun _ _ _ h => h) ?_ hHeld ?_; rotate_left; · (simp only [List.getElem_toArray, List.getElem_cons_succ, List.getElem_cons_zero]; refine Or.inl ⟨by rfl, ?_⟩; intro w hSw; (try dsimp only at hSw); obtain ⟨s1, s2⟩ := hSw; go_simp; try with_reducible rfl)
  try simp only [List.getElem_toArray, List.getElem_cons_succ, List.getElem_cons_zero, Act.put, List.setIfInBounds_toArray, List.set_cons_zero, List.set_cons_succ]
  refine wpAnyH_ready (rs := [16]) (by kernel_rfl) (by simp) ?_
  refine AllReadyH.cons rfl (fun K' hK => ?_) AllReadyH.nil
  simp only [List.getElem_toArray, List.getElem_cons_succ, List.getElem_cons_zero]
  rw [if_pos (by rfl)]
  go_simp
  (go_at_call 82; refine (k41 _ HP1.out).mono ?_; rintro e w2 ⟨rfl, hb2⟩)
  have HP2 := Lib.hid (HP1.out.below hb2)
  have HB2 := Lib.hid (HB1.out.trans (hb2.mono HP1.out.hB.2))
  refine hK.out _ _ ⟨HP2.out.cells.1, HP2.out.cells.2.1⟩ (fun hHeld2 => ?_)
  clear hHeld hK K'
  have hHeld := hHeld2
  clear hHeld2
  try simp only [List.getElem_toArray, List.getElem_cons_succ, List.getElem_cons_zero, Act.put, List.setIfInBounds_toArray, List.set_cons_zero, List.set_cons_succ]
  refine wpAnyH_take (i := 17) (v := ?_) rfl (by kernel_rfl) (by kernel_rfl) (by kernel_rfl) (fun _ _ _ h => h) ?_ hHeld ?_; rotate_left; · (simp only [List.getElem_toArray, List.getElem_cons_succ, List.getElem_cons_zero]; refine Or.inl ⟨by rfl, ?_⟩; intro w hSw; (try dsimp only at hSw); obtain ⟨s1, s2⟩ := hSw; go_simp; try with_reducible rfl)
  try simp only [List.getElem_toArray, List.getElem_cons_succ, List.getElem_cons_zero, Act.put, List.setIfInBounds_toArray, List.set_cons_zero, List.set_cons_succ]
  refine wpAnyH_done (by kernel_rfl) ?_ _
  clear hHeld g0 g1 g4 k124 k41 hb1 hb2
  go_wp2_with (first
    | (go_at_call 97; refine (kp _ HP2.out).mono ?_; rintro e w3 ⟨rfl, hp3, hb3⟩
       have HP3 := Lib.hid hp3
       have HB3 := Lib.hid (HB2.out.trans hb3)
       clear kp hp3 hb3)
    | fail)
  refine wp_loop_rounds 1 ?_
  rw [rounds_succ]
  go_wp2_with fail
  obtain ⟨g0, g1, g4⟩ := HP3.out.cells
  refine wp_region_held_drew (S := fun W' => W'.cell? ⟨pb, 0, none⟩ = some (.string s) ∧ W'.cell? ⟨pb, 1, none⟩ = some (.int .i64 ((2 : Nat) : Int)) ∧ W'.cell? ⟨pb, 4, none⟩ = some (.int .i64 0)) (by kernel_rfl) ⟨g0, g1, g4⟩ (fun hHeld => ?_)
  refine wpAnyH_take (i := 0) (v := ?_) rfl (by kernel_rfl) (by kernel_rfl) (by kernel_rfl) (fun _ _ _ h => h) ?_ hHeld ?_; rotate_left; · (simp only [List.getElem_toArray, List.getElem_cons_zero]; refine Or.inl ⟨by rfl, ?_⟩; intro w hSw; (try dsimp only at hSw); obtain ⟨s1, s2, s3⟩ := hSw; go_simp; try with_reducible rfl)
  try simp only [List.getElem_toArray, List.getElem_cons_zero, Act.put, List.setIfInBounds_toArray, List.set_cons_zero, List.set_cons_succ]
  refine wpAnyH_take (i := 1) (v := ?_) rfl (by kernel_rfl) (by kernel_rfl) (by kernel_rfl) (fun _ _ _ h => h) ?_ hHeld ?_; rotate_left; · (simp only [List.getElem_toArray, List.getElem_cons_succ, List.getElem_cons_zero]; refine Or.inl ⟨by rfl, ?_⟩; intro w hSw; (try dsimp only at hSw); obtain ⟨s1, s2, s3⟩ := hSw; go_simp; try with_reducible rfl)
  try simp only [List.getElem_toArray, List.getElem_cons_succ, List.getElem_cons_zero, Act.put, List.setIfInBounds_toArray, List.set_cons_zero, List.set_cons_succ]
  refine wpAnyH_take (i := 2) (v := ?_) rfl (by kernel_rfl) (by kernel_rfl) (by kernel_rfl) (fun _ _ _ h => h) ?_ hHeld ?_; rotate_left; · (simp only [List.getElem_toArray, List.getElem_cons_succ, List.getElem_cons_zero]; refine Or.inl ⟨by rfl, ?_⟩; intro w hSw; (try dsimp only at hSw); obtain ⟨s1, s2, s3⟩ := hSw; go_simp; try with_reducible rfl)
  try simp only [List.getElem_toArray, List.getElem_cons_succ, List.getElem_cons_zero, Act.put, List.setIfInBounds_toArray, List.set_cons_zero, List.set_cons_succ]
  refine wpAnyH_take (i := 3) (v := ?_) rfl (by kernel_rfl) (by kernel_rfl) (by kernel_rfl) (fun _ _ _ h => h) ?_ hHeld ?_; rotate_left; · (simp only [List.getElem_toArray, List.getElem_cons_succ, List.getElem_cons_zero]; refine Or.inl ⟨by rfl, ?_⟩; intro w hSw; (try dsimp only at hSw); obtain ⟨s1, s2, s3⟩ := hSw; go_simp; try with_reducible rfl)
  try simp only [List.getElem_toArray, List.getElem_cons_succ, List.getElem_cons_zero, Act.put, List.setIfInBounds_toArray, List.set_cons_zero, List.set_cons_succ]
  refine wpAnyH_take (i := 4) (v := ?_) rfl (by kernel_rfl) (by kernel_rfl) (by kernel_rfl) (fun _ _ _ h => h) ?_ hHeld ?_; rotate_left; · (simp only [List.getElem_toArray, List.getElem_cons_succ, List.getElem_cons_zero]; refine Or.inl ⟨by rfl, ?_⟩; intro w hSw; (try dsimp only at hSw); obtain ⟨s1, s2, s3⟩ := hSw; go_simp; try with_reducible rfl)
  try simp only [List.getElem_toArray, List.getElem_cons_succ, List.getElem_cons_zero, Act.put, List.setIfInBounds_toArray, List.set_cons_zero, List.set_cons_succ]
  refine wpAnyH_take (i := 5) (v := ?_) rfl (by kernel_rfl) (by kernel_rfl) (by kernel_rfl) (fun _ _ _ h => h) ?_ hHeld ?_; rotate_left; · (simp only [List.getElem_toArray, List.getElem_cons_succ, List.getElem_cons_zero]; refine Or.inl ⟨by rfl, ?_⟩; intro w hSw; (try dsimp only at hSw); obtain ⟨s1, s2, s3⟩ := hSw; go_simp; try with_reducible rfl)
  try simp only [List.getElem_toArray, List.getElem_cons_succ, List.getElem_cons_zero, Act.put, List.setIfInBounds_toArray, List.set_cons_zero, List.set_cons_succ]
  refine wpAnyH_take (i := 6) (v := ?_) rfl (by kernel_rfl) (by kernel_rfl) (by kernel_rfl) (fun _ _ _ h => h) ?_ hHeld ?_; rotate_left; · (simp only [List.getElem_toArray, List.getElem_cons_succ, List.getElem_cons_zero]; refine Or.inl ⟨by rfl, ?_⟩; intro w hSw; (try dsimp only at hSw); obtain ⟨s1, s2, s3⟩ := hSw; go_simp; try with_reducible rfl)
  try simp only [List.getElem_toArray, List.getElem_cons_succ, List.getElem_cons_zero, Act.put, List.setIfInBounds_toArray, List.set_cons_zero, List.set_cons_succ]
  refine wpAnyH_take (i := 7) (v := ?_) rfl (by kernel_rfl) (by kernel_rfl) (by kernel_rfl) (fun _ _ _ h => h) ?_ hHeld ?_; rotate_left; · (simp only [List.getElem_toArray, List.getElem_cons_succ, List.getElem_cons_zero]; refine Or.inl ⟨by rfl, ?_⟩; intro w hSw; (try dsimp only at hSw); obtain ⟨s1, s2, s3⟩ := hSw; go_simp; try with_reducible rfl)
  try simp only [List.getElem_toArray, List.getElem_cons_succ, List.getElem_cons_zero, Act.put, List.setIfInBounds_toArray, List.set_cons_zero, List.set_cons_succ]
  refine wpAnyH_take (i := 8) (v := ?_) rfl (by kernel_rfl) (by kernel_rfl) (by kernel_rfl) (fun _ _ _ h => h) ?_ hHeld ?_; rotate_left; · (simp only [List.getElem_toArray, List.getElem_cons_succ, List.getElem_cons_zero]; refine Or.inl ⟨by rfl, ?_⟩; intro w hSw; (try dsimp only at hSw); obtain ⟨s1, s2, s3⟩ := hSw; go_simp; try with_reducible rfl)
  try simp only [List.getElem_toArray, List.getElem_cons_succ, List.getElem_cons_zero, Act.put, List.setIfInBounds_toArray, List.set_cons_zero, List.set_cons_succ]
  refine wpAnyH_take (i := 9) (v := ?_) rfl (by kernel_rfl) (by kernel_rfl) (by kernel_rfl) (fun _ _ _ h => h) ?_ hHeld ?_; rotate_left; · (simp only [List.getElem_toArray, List.getElem_cons_succ, List.getElem_cons_zero]; refine Or.inl ⟨by rfl, ?_⟩; intro w hSw; (try dsimp only at hSw); obtain ⟨s1, s2, s3⟩ := hSw; go_simp; try with_reducible rfl)
  try simp only [List.getElem_toArray, List.getElem_cons_succ, List.getElem_cons_zero, Act.put, List.setIfInBounds_toArray, List.set_cons_zero, List.set_cons_succ]
  refine wpAnyH_take (i := 10) (v := ?_) rfl (by kernel_rfl) (by kernel_rfl) (by kernel_rfl) (fun _ _ _ h => h) ?_ hHeld ?_; rotate_left; · (simp only [List.getElem_toArray, List.getElem_cons_succ, List.getElem_cons_zero]; refine Or.inl ⟨by rfl, ?_⟩; intro w hSw; (try dsimp only at hSw); obtain ⟨s1, s2, s3⟩ := hSw; go_simp; try with_reducible rfl)
  try simp only [List.getElem_toArray, List.getElem_cons_succ, List.getElem_cons_zero, Act.put, List.setIfInBounds_toArray, List.set_cons_zero, List.set_cons_succ]
  refine wpAnyH_take (i := 11) (v := ?_) rfl (by kernel_rfl) (by kernel_rfl) (by kernel_rfl) (fun _ _ _ h => h) ?_ hHeld ?_; rotate_left; · (simp only [List.getElem_toArray, List.getElem_cons_succ, List.getElem_cons_zero]; refine Or.inl ⟨by rfl, ?_⟩; intro w hSw; (try dsimp only at hSw); obtain ⟨s1, s2, s3⟩ := hSw; go_simp; try with_reducible rfl)
  try simp only [List.getElem_toArray, List.getElem_cons_succ, List.getElem_cons_zero, Act.put, List.setIfInBounds_toArray, List.set_cons_zero, List.set_cons_succ]
  refine wpAnyH_take (i := 12) (v := ?_) rfl (by kernel_rfl) (by kernel_rfl) (by kernel_rfl) (fun _ _ _ h => h) ?_ hHeld ?_; rotate_left; · (simp only [List.getElem_toArray, List.getElem_cons_succ, List.getElem_cons_zero]; refine Or.inl ⟨by rfl, ?_⟩; intro w hSw; (try dsimp only at hSw); obtain ⟨s1, s2, s3⟩ := hSw; go_simp; try with_reducible rfl)
  try simp only [List.getElem_toArray, List.getElem_cons_succ, List.getElem_cons_zero, Act.put, List.setIfInBounds_toArray, List.set_cons_zero, List.set_cons_succ]
  refine wpAnyH_take (i := 13) (v := ?_) rfl (by kernel_rfl) (by kernel_rfl) (by kernel_rfl) (fun _ _ _ h => h) ?_ hHeld ?_; rotate_left; · (simp only [List.getElem_toArray, List.getElem_cons_succ, List.getElem_cons_zero]; refine Or.inl ⟨by rfl, ?_⟩; intro w hSw; (try dsimp only at hSw); obtain ⟨s1, s2, s3⟩ := hSw; go_simp; try with_reducible rfl)
  try simp only [List.getElem_toArray, List.getElem_cons_succ, List.getElem_cons_zero, Act.put, List.setIfInBounds_toArray, List.set_cons_zero, List.set_cons_succ]
  refine wpAnyH_take (i := 14) (v := ?_) rfl (by kernel_rfl) (by kernel_rfl) (by kernel_rfl) (fun _ _ _ h => h) ?_ hHeld ?_; rotate_left; · (simp only [List.getElem_toArray, List.getElem_cons_succ, List.getElem_cons_zero]; refine Or.inl ⟨by rfl, ?_⟩; intro w hSw; (try dsimp only at hSw); obtain ⟨s1, s2, s3⟩ := hSw; go_simp; try with_reducible rfl)
  try simp only [List.getElem_toArray, List.getElem_cons_succ, List.getElem_cons_zero, Act.put, List.setIfInBounds_toArray, List.set_cons_zero, List.set_cons_succ]
  refine wpAnyH_take (i := 15) (v := ?_) rfl (by kernel_rfl) (by kernel_rfl) (by kernel_rfl) (fun _ _ _ h => h) ?_ hHeld ?_; rotate_left; · (simp only [List.getElem_toArray, List.getElem_cons_succ, List.getElem_cons_zero]; refine Or.inl ⟨by rfl, ?_⟩; intro w hSw; (try dsimp only at hSw); obtain ⟨s1, s2, s3⟩ := hSw; go_simp; try with_reducible rfl)
  try simp only [List.getElem_toArray, List.getElem_cons_succ, List.getElem_cons_zero, Act.put, List.setIfInBounds_toArray, List.set_cons_zero, List.set_cons_succ]
  refine wpAnyH_take (i := 16) (v := ?_) rfl (by kernel_rfl) (by kernel_rfl) (by kernel_rfl) (fun _ _ _ h => h) ?_ hHeld ?_; rotate_left; · (simp only [List.getElem_toArray, List.getElem_cons_succ, List.getElem_cons_zero]; refine Or.inl ⟨by rfl, ?_⟩; intro w hSw; (try dsimp only at hSw); obtain ⟨s1, s2, s3⟩ := hSw; go_simp; try with_reducible rfl)
  try simp only [List.getElem_toArray, List.getElem_cons_succ, List.getElem_cons_zero, Act.put, List.setIfInBounds_toArray, List.set_cons_zero, List.set_cons_succ]
  refine wpAnyH_take (i := 17) (v := ?_) rfl (by kernel_rfl) (by kernel_rfl) (by kernel_rfl) (fun _ _ _ h => h) ?_ hHeld ?_; rotate_left; · (simp only [List.getElem_toArray, List.getElem_cons_succ, List.getElem_cons_zero]; refine Or.inl ⟨by rfl, ?_⟩; intro w hSw; (try dsimp only at hSw); obtain ⟨s1, s2, s3⟩ := hSw; go_simp; try with_reducible rfl)
  try simp only [List.getElem_toArray, List.getElem_cons_succ, List.getElem_cons_zero, Act.put, List.setIfInBounds_toArray, List.set_cons_zero, List.set_cons_succ]
  refine wpAnyH_take (i := 18) (v := undef) rfl (by kernel_rfl) (by kernel_rfl) (by kernel_rfl) (fun _ _ _ h => h) ?_ hHeld ?_; · (simp only [List.getElem_toArray, List.getElem_cons_succ, List.getElem_cons_zero]; exact Or.inr ⟨by rfl, rfl⟩)
  try simp only [List.getElem_toArray, List.getElem_cons_succ, List.getElem_cons_zero, Act.put, List.setIfInBounds_toArray, List.set_cons_zero, List.set_cons_succ]
  refine wpAnyH_take (i := 19) (v := undef) rfl (by kernel_rfl) (by kernel_rfl) (by kernel_rfl) (fun _ _ _ h => h) ?_ hHeld ?_; · (simp only [List.getElem_toArray, List.getElem_cons_succ, List.getElem_cons_zero]; exact Or.inr ⟨by rfl, rfl⟩)
  try simp only [List.getElem_toArray, List.getElem_cons_succ, List.getElem_cons_zero, Act.put, List.setIfInBounds_toArray, List.set_cons_zero, List.set_cons_succ]
  refine wpAnyH_take (i := 20) (v := undef) rfl (by kernel_rfl) (by kernel_rfl) (by kernel_rfl) (fun _ _ _ h => h) ?_ hHeld ?_; · (simp only [List.getElem_toArray, List.getElem_cons_succ, List.getElem_cons_zero]; exact Or.inr ⟨by rfl, rfl⟩)
  try simp only [List.getElem_toArray, List.getElem_cons_succ, List.getElem_cons_zero, Act.put, List.setIfInBounds_toArray, List.set_cons_zero, List.set_cons_succ]
  refine wpAnyH_take (i := 21) (v := undef) rfl (by kernel_rfl) (by kernel_rfl) (by kernel_rfl) (fun _ _ _ h => h) ?_ hHeld ?_; · (simp only [List.getElem_toArray, List.getElem_cons_succ, List.getElem_cons_zero]; exact Or.inr ⟨by rfl, rfl⟩)
  try simp only [List.getElem_toArray, List.getElem_cons_succ, List.getElem_cons_zero, Act.put, List.setIfInBounds_toArray, List.set_cons_zero, List.set_cons_succ]
  refine wpAnyH_take (i := 22) (v := undef) rfl (by kernel_rfl) (by kernel_rfl) (by kernel_rfl) (fun _ _ _ h => h) ?_ hHeld ?_; · (simp only [List.getElem_toArray, List.getElem_cons_succ, List.getElem_cons_zero]; exact Or.inr ⟨by rfl, rfl⟩)
  try simp only [List.getElem_toArray, List.getElem_cons_succ, List.getElem_cons_zero, Act.put, List.setIfInBounds_toArray, List.set_cons_zero, List.set_cons_succ]
  refine wpAnyH_take (i := 23) (v := undef) rfl (by kernel_rfl) (by kernel_rfl) (by kernel_rfl) (fun _ _ _ h => h) ?_ hHeld ?_; · (simp only [List.getElem_toArray, List.getElem_cons_succ, List.getElem_cons_zero]; exact Or.inr ⟨by rfl, rfl⟩)
  try simp only [List.getElem_toArray, List.getElem_cons_succ, List.getElem_cons_zero, Act.put, List.setIfInBounds_toArray, List.set_cons_zero, List.set_cons_succ]
  refine wpAnyH_take (i := 24) (v := undef) rfl (by kernel_rfl) (by kernel_rfl) (by kernel_rfl) (fun _ _ _ h => h) ?_ hHeld ?_; · (simp only [List.getElem_toArray, List.getElem_cons_succ, List.getElem_cons_zero]; exact Or.inr ⟨by rfl, rfl⟩)
  try simp only [List.getElem_toArray, List.getElem_cons_succ, List.getElem_cons_zero, Act.put, List.setIfInBounds_toArray, List.set_cons_zero, List.set_cons_succ]
  refine wpAnyH_take (i := 25) (v := undef) rfl (by kernel_rfl) (by kernel_rfl) (by kernel_rfl) (fun _ _ _ h => h) ?_ hHeld ?_; · (simp only [List.getElem_toArray, List.getElem_cons_succ, List.getElem_cons_zero]; exact Or.inr ⟨by rfl, rfl⟩)
  try simp only [List.getElem_toArray, List.getElem_cons_succ, List.getElem_cons_zero, Act.put, List.setIfInBounds_toArray, List.set_cons_zero, List.set_cons_succ]
  refine wpAnyH_take (i := 26) (v := undef) rfl (by kernel_rfl) (by kernel_rfl) (by kernel_rfl) (fun _ _ _ h => h) ?_ hHeld ?_; · (simp only [List.getElem_toArray, List.getElem_cons_succ, List.getElem_cons_zero]; exact Or.inr ⟨by rfl, rfl⟩)
  try simp only [List.getElem_toArray, List.getElem_cons_succ, List.getElem_cons_zero, Act.put, List.setIfInBounds_toArray, List.set_cons_zero, List.set_cons_succ]
  refine wpAnyH_take (i := 27) (v := undef) rfl (by kernel_rfl) (by kernel_rfl) (by kernel_rfl) (fun _ _ _ h => h) ?_ hHeld ?_; · (simp only [List.getElem_toArray, List.getElem_cons_succ, List.getElem_cons_zero]; exact Or.inr ⟨by rfl, rfl⟩)
  try simp only [List.getElem_toArray, List.getElem_cons_succ, List.getElem_cons_zero, Act.put, List.setIfInBounds_toArray, List.set_cons_zero, List.set_cons_succ]
  refine wpAnyH_take (i := 28) (v := ?_) rfl (by kernel_rfl) (by kernel_rfl) (by kernel_rfl) (fun _ _ _ h => h) ?_ hHeld ?_; rotate_left; · (simp only [List.getElem_toArray, List.getElem_cons_succ, List.getElem_cons_zero]; refine Or.inl ⟨by rfl, ?_⟩; intro w hSw; (try dsimp only at hSw); obtain ⟨s1, s2, s3⟩ := hSw; go_simp; try with_reducible rfl)
  try simp only [List.getElem_toArray, List.getElem_cons_succ, List.getElem_cons_zero, Act.put, List.setIfInBounds_toArray, List.set_cons_zero, List.set_cons_succ]
  refine wpAnyH_take (i := 29) (v := ?_) rfl (by kernel_rfl) (by kernel_rfl) (by kernel_rfl) (fun _ _ _ h => h) ?_ hHeld ?_; rotate_left; · (simp only [List.getElem_toArray, List.getElem_cons_succ, List.getElem_cons_zero]; refine Or.inl ⟨by rfl, ?_⟩; intro w hSw; (try dsimp only at hSw); obtain ⟨s1, s2, s3⟩ := hSw; go_simp; try with_reducible rfl)
  try simp only [List.getElem_toArray, List.getElem_cons_succ, List.getElem_cons_zero, Act.put, List.setIfInBounds_toArray, List.set_cons_zero, List.set_cons_succ]
  refine wpAnyH_take (i := 30) (v := undef) rfl (by kernel_rfl) (by kernel_rfl) (by kernel_rfl) (fun _ _ _ h => h) ?_ hHeld ?_; · (simp only [List.getElem_toArray, List.getElem_cons_succ, List.getElem_cons_zero]; exact Or.inr ⟨by rfl, rfl⟩)
  try simp only [List.getElem_toArray, List.getElem_cons_succ, List.getElem_cons_zero, Act.put, List.setIfInBounds_toArray, List.set_cons_zero, List.set_cons_succ]
  refine wpAnyH_take (i := 31) (v := undef) rfl (by kernel_rfl) (by kernel_rfl) (by kernel_rfl) (fun _ _ _ h => h) ?_ hHeld ?_; · (simp only [List.getElem_toArray, List.getElem_cons_succ, List.getElem_cons_zero]; exact Or.inr ⟨by rfl, rfl⟩)
  try simp only [List.getElem_toArray, List.getElem_cons_succ, List.getElem_cons_zero, Act.put, List.setIfInBounds_toArray, List.set_cons_zero, List.set_cons_succ]
  refine wpAnyH_take (i := 32) (v := undef) rfl (by kernel_rfl) (by kernel_rfl) (by kernel_rfl) (fun _ _ _ h => h) ?_ hHeld ?_; · (simp only [List.getElem_toArray, List.getElem_cons_succ, List.getElem_cons_zero]; exact Or.inr ⟨by rfl, rfl⟩)
  try simp only [List.getElem_toArray, List.getElem_cons_succ, List.getElem_cons_zero, Act.put, List.setIfInBounds_toArray, List.set_cons_zero, List.set_cons_succ]
  refine wpAnyH_take (i := 33) (v := undef) rfl (by kernel_rfl) (by kernel_rfl) (by kernel_rfl) (fun _ _ _ h => h) ?_ hHeld ?_; · (simp only [List.getElem_toArray, List.getElem_cons_succ, List.getElem_cons_zero]; exact Or.inr ⟨by rfl, rfl⟩)
  try simp only [List.getElem_toArray, List.getElem_cons_succ, List.getElem_cons_zero, Act.put, List.setIfInBounds_toArray, List.set_cons_zero, List.set_cons_succ]
  refine wpAnyH_take (i := 34) (v := undef) rfl (by kernel_rfl) (by kernel_rfl) (by kernel_rfl) (fun _ _ _ h => h) ?_ hHeld ?_; · (simp only [List.getElem_toArray, List.getElem_cons_succ, List.getElem_cons_zero]; exact Or.inr ⟨by rfl, rfl⟩)
  try simp only [List.getElem_toArray, List.getElem_cons_succ, List.getElem_cons_zero, Act.put, List.setIfInBounds_toArray, List.set_cons_zero, List.set_cons_succ]
  refine wpAnyH_take (i := 35) (v := undef) rfl (by kernel_rfl) (by kernel_rfl) (by kernel_rfl) (fun _ _ _ h => h) ?_ hHeld ?_; · (simp only [List.getElem_toArray, List.getElem_cons_succ, List.getElem_cons_zero]; exact Or.inr ⟨by rfl, rfl⟩)
  try simp only [List.getElem_toArray, List.getElem_cons_succ, List.getElem_cons_zero, Act.put, List.setIfInBounds_toArray, List.set_cons_zero, List.set_cons_succ]
  refine wpAnyH_take (i := 36) (v := undef) rfl (by kernel_rfl) (by kernel_rfl) (by kernel_rfl) (fun _ _ _ h => h) ?_ hHeld ?_; · (simp only [List.getElem_toArray, List.getElem_cons_succ, List.getElem_cons_zero]; exact Or.inr ⟨by rfl, rfl⟩)
  try simp only [List.getElem_toArray, List.getElem_cons_succ, List.getElem_cons_zero, Act.put, List.setIfInBounds_toArray, List.set_cons_zero, List.set_cons_succ]
  refine wpAnyH_take (i := 37) (v := undef) rfl (by kernel_rfl) (by kernel_rfl) (by kernel_rfl) (fun _ _ _ h => h) ?_ hHeld ?_; · (simp only [List.getElem_toArray, List.getElem_cons_succ, List.getElem_cons_zero]; exact Or.inr ⟨by rfl, rfl⟩)
  try simp only [List.getElem_toArray, List.getElem_cons_succ, List.getElem_cons_zero, Act.put, List.setIfInBounds_toArray, List.set_cons_zero, List.set_cons_succ]
  refine wpAnyH_take (i := 38) (v := undef) rfl (by kernel_rfl) (by kernel_rfl) (by kernel_rfl) (fun _ _ _ h => h) ?_ hHeld ?_; · (simp only [List.getElem_toArray, List.getElem_cons_succ, List.getElem_cons_zero]; exact Or.inr ⟨by rfl, rfl⟩)
  try simp only [List.getElem_toArray, List.getElem_cons_succ, List.getElem_cons_zero, Act.put, List.setIfInBounds_toArray, List.set_cons_zero, List.set_cons_succ]
  refine wpAnyH_take (i := 39) (v := undef) rfl (by kernel_rfl) (by kernel_rfl) (by kernel_rfl) (fun _ _ _ h => h) ?_ hHeld ?_; · (simp only [List.getElem_toArray, List.getElem_cons_succ, List.getElem_cons_zero]; exact Or.inr ⟨by rfl, rfl⟩)
  try simp only [List.getElem_toArray, List.getElem_cons_succ, List.getElem_cons_zero, Act.put, List.setIfInBounds_toArray, List.set_cons_zero, List.set_cons_succ]
  refine wpAnyH_take (i := 40) (v := ?_) rfl (by kernel_rfl) (by kernel_rfl) (by kernel_rfl) (fun _ _ _ h => h) ?_ hHeld ?_; rotate_left; · (simp only [List.getElem_toArray, List.getElem_cons_succ, List.getElem_cons_zero]; refine Or.inl ⟨by rfl, ?_⟩; intro w hSw; (try dsimp only at hSw); obtain ⟨s1, s2, s3⟩ := hSw; go_simp; try with_reducible rfl)
  try simp only [List.getElem_toArray, List.getElem_cons_succ, List.getElem_cons_zero, Act.put, List.setIfInBounds_toArray, List.set_cons_zero, List.set_cons_succ]
  refine wpAnyH_done (by kernel_rfl) ?_ _
  have HP4 := Lib.hid (HP3.out.below ((Below.refl _ w3).drew))
  have HB4 := Lib.hid (HB3.out.trans ((Below.refl _ w3).drew.mono HP3.out.hB.2))
  clear hHeld g0 g1 g4
  go_wp2
  exact bodyPost_ret (results_tmp rfl _ _ _) rfl ⟨rfl, HP4.out, HB4.out⟩
set_option maxHeartbeats 4000000 in
set_option maxRecDepth 20000 in
theorem wholeRe_any (B pb : Nat) (c q : UInt8) (ts : List Nd) (s : ByteArray) (w : World) (hs : s = ⟨#[c, q]⟩)
    (kr : Calls Try.prog 81 #[.pointer (some ⟨pb, 0, none⟩)] w fun e w' => e = .returned (.int .i64 1) ∧ Ps B pb s 2 ts w' ∧ Below B w w') :
    Calls Try.prog 61 #[.pointer (some ⟨pb, 0, none⟩)] w fun e w' => e = .returned (.int .i64 1) ∧ Ps B pb s 2 ts w' ∧ Below B w w' := by
  have hl : s.data.toList = [c, q] := by rw [hs]
  have k124 := is_no B pb 2 s ts 124 124 rfl (by rw [hl]; simp)
  clear hs hl
  go_enter Try.func61, Try.ntmps61
  go_wp2_with (first
    | (go_at_call 81; refine kr.mono ?_; rintro e w3 ⟨rfl, hp3, hb3⟩
       have HP3 := Lib.hid hp3
       have HB3 := Lib.hid hb3
       clear kr hp3 hb3)
    | fail)
  refine wp_loop_rounds 1 ?_
  rw [rounds_succ]
  go_wp2_with (first
    | (go_at_call 82; refine (k124 _ HP3.out).mono ?_; rintro e w4 ⟨rfl, hb4⟩)
    | fail)
  exact bodyPost_ret (results_tmp rfl _ _ _) rfl ⟨rfl, HP3.out.below hb4, HB3.out.trans (hb4.mono HP3.out.hB.2)⟩
set_option maxHeartbeats 4000000 in
set_option maxRecDepth 20000 in
theorem readRe_two (c q : UInt8) (k : Int) (s : ByteArray) (w : World) (hs : s = ⟨#[c, q]⟩) (hx : c ≠ 40 ∧ c ≠ 46 ∧ c ≠ 94 ∧ c ≠ 36 ∧ c ≠ 91) (hy : (c.toNat : Int) ≠ 42 ∧ (c.toNat : Int) ≠ 43 ∧ (c.toNat : Int) ≠ 63 ∧ (c.toNat : Int) ≠ 41 ∧ (c.toNat : Int) ≠ 124 ∧ (c.toNat : Int) ≠ 123 ∧ (c.toNat : Int) ≠ 125 ∧ (c.toNat : Int) ≠ 47)
    (hsig : signD [c, q] = some ((c.toNat : Int), 1)) (hq : (q = 42 ∧ k = 4) ∨ (q = 43 ∧ k = 5)) :
    Calls Try.prog 41 #[.string s] w fun e w' => ∃ v, e = .returned (.tuple #[v, .int .i64 0]) ∧ w'.ownsRow w.heap.size 50 7 v 2 (ndC [⟨1, k4 (oneK c.toNat), 0, 0⟩, ⟨k, k0, 0, 0⟩]) ∧ Below w.heap.size w w' := by
  have hz : s.size = 2 := by rw [hs]; rfl
  have h124 : c ≠ 124 := fun e => by rw [e] at hy; exact hy.2.2.2.2.1 rfl
  have h41 : c ≠ 41 := fun e => by rw [e] at hy; exact hy.2.2.2.1 rfl
  have hP : ∀ W, W = w.alloc (.cells #[.string s, .int .i64 0, .int .i64 0, .slice none 0 0, .int .i64 0] 100) → Ps w.heap.size w.heap.size s 0 [] W := fun W hW => by
    rw [hW]
    exact ⟨⟨_, heap_alloc_new w _, World.ownsRow_nil _ _ _ _⟩, ⟨Nat.le_refl _, by simp⟩, ⟨by decide, by omega⟩⟩
  have kw := fun W h => wholeRe_any w.heap.size w.heap.size c q _ s W hs (row_any w.heap.size w.heap.size c q k (k4 (oneK c.toNat)) s W hs h h124 h41 (fun w1 h1 => piece_any w.heap.size w.heap.size c q k (k4 (oneK c.toNat)) s w1 hs hq (atom_any w.heap.size w.heap.size c q s w1 hs h1 hx hy hsig)))
  have hb0 : Below w.heap.size w (w.alloc (.cells #[.string s, .int .i64 0, .int .i64 0, .slice none 0 0, .int .i64 0] 100)) := (Below.refl _ w).alloc (Nat.le_refl _) _
  have HB0 := Lib.hid hb0
  have HP0 := Lib.hid (hP _ rfl)
  clear hP hb0 hs hx hy hsig hq h124 h41
  go_enter Try.func41, Try.ntmps41
  go_wp2_with (first
    | (go_at_call 61; refine (kw _ HP0.out).mono ?_; rintro e w3 ⟨rfl, hp3, hb3⟩
       obtain ⟨v, hv, hown⟩ := hp3.blk
       obtain ⟨c0, c1, c2, c3, c4⟩ := five_cells hv
       have H3 := Lib.hid (And.intro hown (HB0.out.trans hb3))
       clear kw hp3 hb3 hv hown)
    | fail)
  exact bodyPost_ret (results_tmp2 rfl _ _ _) rfl ⟨_, rfl, H3.out.1, H3.out.2⟩
end Go.Proofs.Ytkgpnlldlekcbaa
namespace Go.Proofs.Ytkgpnlldlekcbaa
open Go.RowKit Go.Lib

theorem run_eql_twoM (a b c d : Int) (w : World) : (binOp .eql 48 (.agg #[.int .i64 a, .int .i64 b]) (.agg #[.int .i64 c, .int .i64 d])).run Try.prog w = .ok (.bool (a == c && b == d)) w := by
  rw [run_eql_struct, eql_two]
  rfl
theorem owns_lies {w : World} {B n : Nat} {v : Value} {ts : List Nd} (h : w.ownsRow B 50 7 v n (ndC ts)) (hn : n = ts.length) (hl : ts.length ≤ 2000) : Lies v ts w := by
  subst hn
  rcases h.2 with ⟨hv, h0⟩ | ⟨g, cap, cur, hv, _, hg, _, _, hz, htk⟩
  · have e : ts = [] := List.eq_nil_of_length_eq_zero h0
    subst e
    exact ⟨none, 0, hv, by simp, fun j n hj => by simp at hj⟩
  · refine ⟨some ⟨g, 0, none⟩, cap, hv, by omega, fun j n hj => ⟨g, 0, rfl, block_lt hg, ?_⟩⟩
    have hjl : j < ts.length := by
      by_cases h : j < ts.length
      · exact h
      · rw [List.getElem?_eq_none (by omega)] at hj; cases hj
    have key : ∀ i u, i < 7 → n.cells[i]? = some u → w.cell? ⟨g, 0 + j * 7 + i, none⟩ = some u := fun i u hi hu => by
      have e := ndC_get ts j i n hj hi
      rw [hu, ← htk, List.getElem?_take_of_lt (by omega)] at e
      rw [cell_of_heap hg, Nat.zero_add]
      simpa using e
    exact ⟨by simpa using key 0 _ (by omega) rfl, key 1 _ (by omega) rfl, key 2 _ (by omega) rfl, key 3 _ (by omega) rfl, key 4 _ (by omega) rfl, key 5 _ (by omega) rfl, key 6 _ (by omega) rfl⟩
theorem owns_cell2 {w : World} {B L cp g k : Nat} {e : TypeId} {xs : List Value} (h : w.ownsRow B e k (.slice (some ⟨g, 0, none⟩) L cp) L xs) {j : Nat} {v : Value} (hj : xs[j]? = some v) : w.cell? ⟨g, j, none⟩ = some v := by
  obtain ⟨h1, h2⟩ := h
  rcases h2 with ⟨hv, _⟩ | ⟨g', cap, cur, hv, hB, hg, hc, hm, hs, htk⟩
  · cases hv
  · cases hv
    have hjl : j < L * k := by
      by_cases hl : j < xs.length
      · omega
      · rw [List.getElem?_eq_none (by omega)] at hj; cases hj
    rw [cell_of_heap hg]
    rw [← htk, List.getElem?_take_of_lt (by omega)] at hj
    simpa using hj
set_option maxHeartbeats 4000000 in
set_option maxRecDepth 20000 in
theorem shownM_any (w : World) : Calls Try.prog 15 #[] w fun e w' => e = .returned (.bool true) ∧ Below w.heap.size w w' := by
  have kA := fun w => readRe_two 97 43 5 ⟨#[97, 43]⟩ w rfl (by decide) (by decide) rfl (.inr ⟨rfl, rfl⟩)
  have kB := fun w => readRe_two 98 42 4 ⟨#[98, 42]⟩ w rfl (by decide) (by decide) rfl (.inl ⟨rfl, rfl⟩)
  have kS : ∀ (v : Value) (w : World), Lies v (tA.row 0) w → Calls Try.prog 42 #[v, .string ⟨#[120, 97, 97, 121]⟩, .int .i64 0] w fun e w' => e = .returned (.tuple #[.int .i64 1, .int .i64 3, .bool true]) ∧ Below w.heap.size w w' := fun v w h => by
    have hh := span_first v 0 tA (tA.row 0) ⟨#[120, 97, 97, 121]⟩ w rfl ⟨.inr (.inl rfl), trivial⟩ (by decide) (by decide) h
    have e : spansL (⟨#[120, 97, 97, 121]⟩ : ByteArray).data.toList tA (0 : Int).toNat = [(1, 3)] := spans_A
    rw [e] at hh
    exact hh
  have kP : ∀ (v : Value) (w : World), Lies v (tB.row 0) w → Calls Try.prog 43 #[v, .string ⟨#[97, 98, 98]⟩] w fun e w' => ∃ v', e = .returned v' ∧ w'.ownsRow w.heap.size 48 2 v' 2 [.int .i64 0, .int .i64 0, .int .i64 1, .int .i64 3] ∧ Below w.heap.size w w' := fun v w h => by
    have hh := spans_any v tB (tB.row 0) ⟨#[97, 98, 98]⟩ w rfl ⟨.inl rfl, trivial⟩ (by decide) (by decide) h
    have e : spansL (⟨#[97, 98, 98]⟩ : ByteArray).data.toList tB 0 = [(0, 0), (1, 3)] := spans_B
    rw [e] at hh
    exact hh
  have e1 := run_eql_twoM 0 0 0 0
  have e2 := run_eql_twoM 1 3 1 3
  go_enter Try.func15, Try.ntmps15
  go_wp2_with (first
    | (go_at_call 41; first
        | (with_reducible refine (kA _).mono ?_; rintro e w1 ⟨v1, rfl, ho1, hb1⟩; have HA := Lib.hid (And.intro (owns_lies (ts := tA.row 0) ho1 rfl (by decide)) hb1); clear kA ho1 hb1)
        | (with_reducible refine (kB _).mono ?_; rintro e w2 ⟨v2, rfl, ho2, hb2⟩; have HB := Lib.hid (And.intro (owns_lies (ts := tB.row 0) ho2 rfl (by decide)) hb2); clear kB ho2 hb2))
    | (go_at_call 42; refine (kS _ _ (HA.out.1.below HB.out.2)).mono ?_; rintro e w3 ⟨rfl, hb3⟩; have H3 := Lib.hid hb3; clear kS hb3)
    | (go_at_call 43; refine (kP _ _ (HB.out.1.below H3.out)).mono ?_; rintro e w4 ⟨v4, rfl, ho4, hb4⟩
       obtain ⟨g4, cap4, rfl⟩ := owned_slice ho4 (by omega)
       have q0 := owns_cell2 ho4 (j := 0) rfl
       have q1 := owns_cell2 ho4 (j := 1) rfl
       have q2 := owns_cell2 ho4 (j := 2) rfl
       have q3 := owns_cell2 ho4 (j := 3) rfl
       have H4 := Lib.hid hb4
       clear kP ho4 hb4)
    | fail)
  have z1 := HA.out.2.size
  have z2 := HB.out.2.size
  have z3 := H3.out.size
  exact bodyPost_ret (results_tmp rfl _ _ _) rfl ⟨rfl, HA.out.2.trans ((HB.out.2.mono z1).trans ((H3.out.mono (by omega)).trans (H4.out.mono (by omega))))⟩
end Go.Proofs.Ytkgpnlldlekcbaa
