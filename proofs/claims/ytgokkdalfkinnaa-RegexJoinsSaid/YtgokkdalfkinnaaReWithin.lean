/- The reader's methods within and atom. Condition: the text is shorter than 2^46. -/
import Derived.Test.YtgokkdalfkinnaaReListed
namespace Go.Proofs.Ytgokkdalfkinnaa
open Go.RowKit Go.Lib

/-- What a method of the reader comes to. -/
def ResP (B p : Nat) (xs : List Nd) (d : Nat) : Res → Ending → World → Prop
  | .ok t l, e, w => e = .returned (.tuple #[]) ∧ Rdr B p (xs ++ t.row xs.length) l d w
  | .bad x, e, _ => e = errV x
/-- A method reads as the rules say. -/
def Does (B p : Nat) (f : FuncId) (J : Job) (m : Nat) : Prop := ∀ (xs : List Nd) (l : List UInt8) (d : Nat) (r : Res) (w : World), l.length ≤ m → Rdr B p xs l d w → Ev J d xs.length l r →
  Calls Try.prog f #[.pointer (some ⟨p, 0, none⟩)] w fun e w' => ResP B p xs d r e w' ∧ Below B w w'

theorem Own.two {B p : Nat} {T : TypeId} {a b : Value} {xs : List Nd} {w : World} (h : Own B p T [a, b] xs w) (u : Value) : Own B p T [a, u] xs (w.setCell ⟨p, 2, none⟩ u) := h.put 1 u

set_option maxHeartbeats 1000000 in
set_option maxRecDepth 20000 in
theorem within_deep (B p : Nat) (xs : List Nd) (l : List UInt8) (w : World) (h : Rdr B p xs l 30 w) :
    Calls Try.prog 84 #[.pointer (some ⟨p, 0, none⟩)] w fun e w' => e = errV 7 ∧ Below B w w' := by
  obtain ⟨c2, f2⟩ := h.cell (i := 1) rfl
  clear h
  unfold errV
  go_enter Try.func84, Try.ntmps84
  go_wp2
  exact ⟨rfl, rfl, Below.refl _ _⟩

set_option maxHeartbeats 1000000 in
set_option maxRecDepth 20000 in
theorem within_bad (B p : Nat) (xs : List Nd) (l : List UInt8) (d : Nat) (x : Int) (w : World) (h : Rdr B p xs l d w) (hd : d < 30)
    (k1 : ∀ w, Rdr B p xs l (d + 1) w → Calls Try.prog 25 #[.pointer (some ⟨p, 0, none⟩)] w fun e w' => e = errV x ∧ Below B w w') :
    Calls Try.prog 84 #[.pointer (some ⟨p, 0, none⟩)] w fun e w' => e = errV x ∧ Below B w w' := by
  obtain ⟨c2, f2⟩ := h.cell (i := 1) rfl
  have H := Lib.hid h
  have hI : IntKind.i64.wrap ((d : Int) + 1) = ((d + 1 : Nat) : Int) := by rw [IntWalk.i64_in _ (by omega)]; omega
  have h30 : ((d : Int) == 30) = false := by rw [beq_eq_false_iff_ne]; omega
  clear h
  unfold errV at k1 ⊢
  go_enter Try.func84, Try.ntmps84
  go_wp2_with (first | (go_at_call 25; refine (k1 _ (H.out.two _)).mono ?_; rintro e w1 ⟨rfl, hb1⟩))
  exact ⟨rfl, rfl, ((Below.refl _ w).setCell (p := ⟨p, 2, none⟩) H.out.1 _).trans hb1⟩

set_option maxHeartbeats 1000000 in
set_option maxRecDepth 20000 in
theorem within_open (B p : Nat) (xs ys : List Nd) (l l' : List UInt8) (d : Nat) (w : World) (h : Rdr B p xs l d w) (hd : d < 30) (hl : l'.head? ≠ some 41)
    (k1 : ∀ w, Rdr B p xs l (d + 1) w → Calls Try.prog 25 #[.pointer (some ⟨p, 0, none⟩)] w fun e w' => (e = .returned (.tuple #[]) ∧ Rdr B p ys l' (d + 1) w') ∧ Below B w w') :
    Calls Try.prog 84 #[.pointer (some ⟨p, 0, none⟩)] w fun e w' => e = errV 9 ∧ Below B w w' := by
  obtain ⟨c2, f2⟩ := h.cell (i := 1) rfl
  have H := Lib.hid h
  have hI : IntKind.i64.wrap ((d : Int) + 1) = ((d + 1 : Nat) : Int) := by rw [IntWalk.i64_in _ (by omega)]; omega
  have hJ : IntKind.i64.wrap (((d + 1 : Nat) : Int) - 1) = (d : Int) := by rw [IntWalk.i64_in _ (by omega)]; omega
  have h30 : ((d : Int) == 30) = false := by rw [beq_eq_false_iff_ne]; omega
  have k2 := fun w (h : Rdr B p ys l' d w) => take_no B p ys 41 l' d w h hl
  obtain ⟨D, hD⟩ : ∃ D : Nat, D = d + 1 := ⟨_, rfl⟩
  rw [← hD] at hI hJ k1
  clear h hD
  unfold errV
  go_enter Try.func84, Try.ntmps84
  go_wp2_with (first
    | (go_at_call 25; refine (k1 _ (H.out.two _)).mono ?_; rintro e w1 ⟨⟨rfl, h1⟩, hb1⟩; have H1 := Lib.hid h1; clear h1 c2 f2; obtain ⟨d2, g2⟩ := H1.out.cell (i := 1) rfl)
    | (go_at_call 51; refine (k2 _ (H1.out.two _)).mono ?_; rintro e w2 ⟨rfl, rfl⟩))
  exact ⟨rfl, rfl, (((Below.refl _ w).setCell (p := ⟨p, 2, none⟩) H.out.1 _).trans hb1).setCell (p := ⟨p, 2, none⟩) H.out.1 _⟩

set_option maxHeartbeats 1000000 in
set_option maxRecDepth 20000 in
theorem within_ok (B p : Nat) (xs ys : List Nd) (l l' : List UInt8) (d : Nat) (w : World) (h : Rdr B p xs l d w) (hd : d < 30) (hl : l'.length ≤ 70000000000000)
    (k1 : ∀ w, Rdr B p xs l (d + 1) w → Calls Try.prog 25 #[.pointer (some ⟨p, 0, none⟩)] w fun e w' => (e = .returned (.tuple #[]) ∧ Rdr B p ys (41 :: l') (d + 1) w') ∧ Below B w w') :
    Calls Try.prog 84 #[.pointer (some ⟨p, 0, none⟩)] w fun e w' => (e = .returned (.tuple #[]) ∧ Rdr B p ys l' d w') ∧ Below B w w' := by
  obtain ⟨c2, f2⟩ := h.cell (i := 1) rfl
  have H := Lib.hid h
  have hI : IntKind.i64.wrap ((d : Int) + 1) = ((d + 1 : Nat) : Int) := by rw [IntWalk.i64_in _ (by omega)]; omega
  have hJ : IntKind.i64.wrap (((d + 1 : Nat) : Int) - 1) = (d : Int) := by rw [IntWalk.i64_in _ (by omega)]; omega
  have h30 : ((d : Int) == 30) = false := by rw [beq_eq_false_iff_ne]; omega
  have k2 := fun w (h : Rdr B p ys (41 :: l') d w) => take_yes B p ys 41 l' d w h (by omega)
  obtain ⟨D, hD⟩ : ∃ D : Nat, D = d + 1 := ⟨_, rfl⟩
  rw [← hD] at hI hJ k1
  clear h hD
  go_enter Try.func84, Try.ntmps84
  go_wp2_with (first
    | (go_at_call 25; refine (k1 _ (H.out.two _)).mono ?_; rintro e w1 ⟨⟨rfl, h1⟩, hb1⟩; have H1 := Lib.hid h1; clear h1 c2 f2; obtain ⟨d2, g2⟩ := H1.out.cell (i := 1) rfl)
    | (go_at_call 51; refine (k2 _ (H1.out.two _)).mono ?_; rintro e w2 ⟨rfl, h2, hb2⟩))
  go_end0
  exact ⟨⟨rfl, h2⟩, ((((Below.refl _ w).setCell (p := ⟨p, 2, none⟩) H.out.1 _).trans hb1).setCell (p := ⟨p, 2, none⟩) H.out.1 _).trans hb2⟩
end Go.Proofs.Ytgokkdalfkinnaa
