/- Packed texts: RePiece, ReAll, ReKept, ReFrame. What each of them proves stands above its theorems; the conditions stand in these. -/
import Derived.Deep.Cut
import Derived.Deep.DeepCutAuto
import Derived.Deep.LoopGhost
import Derived.Deep.Strs
import Derived.Defers
import Derived.Laws.Pointers
import Derived.Laws.StructEq
import Derived.Recover
import Derived.Shelf.Abstract
import Derived.WalkLawsBesides
import Derived.WalkSpells
import Derived.WideKeyArgs
import Derived.Test.YtkgpnlldlekcbaaGreatDoorX0
import Derived.Test.YtkgpnlldlekcbaaGreatDoorX3
import Derived.Test.YtkgpnlldlekcbaaGreatDoorX12
namespace Go.Proofs.YtkgpnlldlekcbaaGreatDoor
open Go.RowKit Go.Lib

theorem Ev.le {J : Job} {d n : Nat} {l : List UInt8} {r : Res} (h : Ev J d n l r) : ∀ t l', r = .ok t l' → l'.length ≤ l.length := by
  induction h with
  | all_bad _ _ => intro t l' e; cases e
  | all_ok _ _ ih1 ih2 => intro t l' e; exact Nat.le_trans (ih2 _ _ e) (ih1 _ _ rfl)
  | allL_end _ => intro t l' e; cases e; exact Nat.le_refl _
  | allL_bad _ _ => intro t l' e; cases e
  | allL_big _ _ _ => intro t l' e; cases e
  | allL_more _ _ _ ih1 ih2 => intro t l' e; have := ih2 _ _ e; have := ih1 _ _ rfl; rw [List.length_cons]; omega
  | cat_none _ _ => intro t l' e; cases e; exact Nat.le_refl _
  | cat_nbig _ _ => intro t l' e; cases e
  | cat_bad _ _ _ => intro t l' e; cases e
  | cat_ok _ _ _ ih1 ih2 => intro t l' e; exact Nat.le_trans (ih2 _ _ e) (ih1 _ _ rfl)
  | catL_end _ => intro t l' e; cases e; exact Nat.le_refl _
  | catL_bad _ _ _ => intro t l' e; cases e
  | catL_big _ _ _ _ => intro t l' e; cases e
  | catL_more _ _ _ _ ih1 ih2 => intro t l' e; exact Nat.le_trans (ih2 _ _ e) (ih1 _ _ rfl)
  | piece_bad _ _ => intro t l' e; cases e
  | piece_ok _ _ ih1 ih2 => intro t l' e; exact Nat.le_trans (ih2 _ _ e) (ih1 _ _ rfl)
  | pieceL_end _ => intro t l' e; cases e; exact Nat.le_refl _
  | pieceL_big _ _ => intro t l' e; cases e
  | pieceL_more _ _ _ ih => intro t l' e; have := ih _ _ e; rw [List.length_cons]; omega
  | atom_deep _ => intro t l' e; cases e
  | atom_in _ _ _ => intro t l' e; cases e
  | atom_open _ _ _ _ => intro t l' e; cases e
  | atom_ok _ _ ih => intro t l' e; cases e; have := ih _ _ rfl; rw [List.length_cons] at this ⊢; omega
  | atom_leaf _ _ => intro t l' e; cases e; rw [List.length_cons]; omega
  | atom_lbig _ _ => intro t l' e; cases e
  | atom_set _ _ _ _ => intro t l' e; cases e; rw [List.length_drop]; omega
  | atom_sbig _ _ _ _ => intro t l' e; cases e
  | atom_no _ _ _ => intro t l' e; cases e
/-- An atom takes a byte at least, and so does a piece. -/
theorem Ev.lt {J : Job} {d n : Nat} {l : List UInt8} {r : Res} (h : Ev J d n l r) : (J = .atom ∨ J = .piece) → ∀ t l', r = .ok t l' → l'.length < l.length := by
  induction h with
  | piece_ok _ h2 ih1 _ => intro _ t l' e; exact Nat.lt_of_le_of_lt (h2.le _ _ e) (ih1 (.inl rfl) _ _ rfl)
  | atom_ok _ h1 _ => intro _ t l' e; cases e; have := h1.le _ _ rfl; rw [List.length_cons] at this ⊢; omega
  | atom_leaf _ _ => intro _ t l' e; cases e; rw [List.length_cons]; omega
  | atom_set _ _ h _ => intro _ t l' e; cases e; have := listD_le h; rw [List.length_drop]; omega
  | _ => intro hJ t l' e; first | (cases e; done) | (rcases hJ with hJ | hJ <;> cases hJ)

theorem row_rep (xs : List Nd) (a : Tr) (j : Nat) : (xs ++ a.row xs.length) ++ [⟨(j : Int), k0, ((xs ++ a.row xs.length).length : Int) - 1, 0⟩] = xs ++ (Tr.rep j a).row xs.length := by
  show _ = xs ++ (a.row xs.length ++ [⟨(j : Int), k0, (xs.length : Int) + a.size - 1, 0⟩])
  rw [List.length_append, Tr.row_length, List.append_assoc, Int.natCast_add]
theorem row_len (xs : List Nd) (a : Tr) : (xs ++ a.row xs.length).length = xs.length + a.size := by rw [List.length_append, Tr.row_length]
theorem sign_none {l : List UInt8} (h : signH l = none) : l.head? ≠ some 42 ∧ l.head? ≠ some 43 ∧ l.head? ≠ some 63 := by
  cases l with
  | nil => simp
  | cons c l =>
    have h : signK c = none := h
    unfold signK at h
    refine ⟨fun e => ?_, fun e => ?_, fun e => ?_⟩
    all_goals
      simp only [List.head?_cons, Option.some.injEq] at e
      subst e
      revert h
      decide
theorem sign_some {c : UInt8} {j : Nat} (h : signK c = some j) : (c = 42 ∧ j = 4) ∨ (c = 43 ∧ j = 5) ∨ (c = 63 ∧ j = 6) := by
  unfold signK at h
  split at h
  · cases h; exact .inl ⟨by assumption, rfl⟩
  · split at h
    · cases h; exact .inr (.inl ⟨by assumption, rfl⟩)
    · split at h
      · cases h; exact .inr (.inr ⟨by assumption, rfl⟩)
      · cases h

/-- What lies between two rounds of a loop of the reader. -/
structure Between (B p : Nat) (xs : List Nd) (d m : Nat) (w : World) (J : Tr → Job) (r : Res) (k : Nat) (a : Tr) (l : List UInt8) (Z : World) : Prop where
  rdr : Rdr B p (xs ++ a.row xs.length) l d Z
  ev : Ev (J a) d xs.length l r
  le : l.length ≤ m
  k : k = l.length
  below : Below B w Z

set_option maxHeartbeats 1000000 in
set_option maxRecDepth 20000 in
theorem piece_bad' (B p : Nat) (xs : List Nd) (l : List UInt8) (d : Nat) (x : Int) (w : World) (h : Rdr B p xs l d w)
    (k1 : ∀ w, Rdr B p xs l d w → Calls Tryz.prog 200 #[.pointer (some ⟨p, 0, none⟩)] w fun e w' => e = errV x ∧ Below B w w') :
    Calls Tryz.prog 184 #[.pointer (some ⟨p, 0, none⟩)] w fun e w' => e = errV x ∧ Below B w w' := by
  have H := Lib.hid h
  clear h
  unfold errV at k1 ⊢
  go_enter Tryz.func184, Tryz.ntmps184
  go_wp2_with (first
    | (go_at_call 200; refine (k1 _ H.out).mono ?_; rintro e w1 ⟨rfl, hb1⟩))
  exact ⟨rfl, rfl, hb1⟩

set_option maxHeartbeats 2000000 in
set_option maxRecDepth 20000 in
theorem piece_does (B p m : Nat) (hm : m ≤ 70000000000000) (k0 : Does B p 200 .atom m) : Does B p 184 .piece m := by
  intro xs l d r w hl h hev
  cases hev with
  | piece_bad h1 => exact piece_bad' B p xs l d _ w h fun w h => k0 xs l d _ w hl h h1
  | @piece_ok _ _ _ t l' _ h1 h2 =>
    have k1 := fun w (h : Rdr B p xs l d w) => k0 xs l d _ w hl h h1
    have hl' := h1.le _ _ rfl
    have H := Lib.hid h
    have HE := Lib.hid h2
    clear h h1 h2 k0
    unfold ResP at k1
    go_enter Tryz.func184, Tryz.ntmps184
    go_wp2_with (first
      | (go_at_call 200; refine (k1 _ H.out).mono ?_; rintro e w1 ⟨⟨rfl, h1⟩, hb1⟩))
    have H1 := Lib.hid h1
    clear h1 k1
    go_loopg [] (l'.length) (fun k wr => ∃ (a : Tr) (l : List UInt8), Hid (Between B p xs d m w .pieceL r k a l wr))
    case atStart => exact ⟨t, l', ⟨H1.out, HE.out, by omega, rfl, hb1⟩⟩
    case round =>
      obtain ⟨a, s, HI⟩ := hrel
      have hk := HI.out.k
      have hsm := HI.out.le
      have hev := HI.out.ev
      cases hev with
      | pieceL_end hs =>
        obtain ⟨s1, s2, s3⟩ := sign_none hs
        have k42 := fun w (h : Rdr B p (xs ++ a.row xs.length) s d w) => take_noN B p _ 42 42 rfl s d w h s1
        have k43 := fun w (h : Rdr B p (xs ++ a.row xs.length) s d w) => take_noN B p _ 43 43 rfl s d w h s2
        have k63 := fun w (h : Rdr B p (xs ++ a.row xs.length) s d w) => take_noN B p _ 63 63 rfl s d w h s3
        clear hs s1 s2 s3 H HE H1
        go_wp2_with (first
          | (go_at_call 169; first
              | (with_reducible refine (k42 _ HI.out.rdr).mono ?_; rintro e w2 ⟨rfl, rfl⟩)
              | (with_reducible refine (k43 _ HI.out.rdr).mono ?_; rintro e w2 ⟨rfl, rfl⟩)
              | (with_reducible refine (k63 _ HI.out.rdr).mono ?_; rintro e w2 ⟨rfl, rfl⟩)))
        exact bodyPost_ret (results_none rfl _ _ _) rfl ⟨⟨rfl, HI.out.rdr⟩, HI.out.below⟩
      | @pieceL_big _ _ _ c l j hs hn =>
        rw [List.length_cons] at hk hsm
        rcases sign_some hs with ⟨rfl, rfl⟩ | ⟨rfl, rfl⟩ | ⟨rfl, rfl⟩
        · clear hs H HE H1
          have k42 := fun w (h : Rdr B p (xs ++ a.row xs.length) (42 :: l) d w) => take_yesN B p _ 42 42 rfl l d w h (by omega)
          have k3 := fun w (h : Rdr B p (xs ++ a.row xs.length) l d w) => over_big B p _ _ _ 4 w h (by rw [row_len]; exact hn)
          unfold errV at k3
          go_wp2_with (first
            | (go_at_call 169; first
                | (with_reducible refine (k42 _ HI.out.rdr).mono ?_; rintro e w2 ⟨rfl, h2, hb2⟩; have H2 := Lib.hid h2; clear h2))
            | (go_at_call 201; refine (k3 _ H2.out).mono ?_; rintro e w3 ⟨rfl, hb3⟩))
          exact ⟨rfl, rfl, (HI.out.below.trans hb2).trans hb3⟩
        · clear hs H HE H1
          have k42 := fun w (h : Rdr B p (xs ++ a.row xs.length) (43 :: l) d w) => take_noN B p _ 42 42 rfl (43 :: l) d w h (by simp)
          have k43 := fun w (h : Rdr B p (xs ++ a.row xs.length) (43 :: l) d w) => take_yesN B p _ 43 43 rfl l d w h (by omega)
          have k3 := fun w (h : Rdr B p (xs ++ a.row xs.length) l d w) => over_big B p _ _ _ 5 w h (by rw [row_len]; exact hn)
          unfold errV at k3
          go_wp2_with (first
            | (go_at_call 169; first
                | (with_reducible refine (k42 _ HI.out.rdr).mono ?_; rintro e w2 ⟨rfl, rfl⟩)
                | (with_reducible refine (k43 _ HI.out.rdr).mono ?_; rintro e w2 ⟨rfl, h2, hb2⟩; have H2 := Lib.hid h2; clear h2))
            | (go_at_call 201; refine (k3 _ H2.out).mono ?_; rintro e w3 ⟨rfl, hb3⟩))
          exact ⟨rfl, rfl, (HI.out.below.trans hb2).trans hb3⟩
        · clear hs H HE H1
          have k42 := fun w (h : Rdr B p (xs ++ a.row xs.length) (63 :: l) d w) => take_noN B p _ 42 42 rfl (63 :: l) d w h (by simp)
          have k43 := fun w (h : Rdr B p (xs ++ a.row xs.length) (63 :: l) d w) => take_noN B p _ 43 43 rfl (63 :: l) d w h (by simp)
          have k63 := fun w (h : Rdr B p (xs ++ a.row xs.length) (63 :: l) d w) => take_yesN B p _ 63 63 rfl l d w h (by omega)
          have k3 := fun w (h : Rdr B p (xs ++ a.row xs.length) l d w) => over_big B p _ _ _ 6 w h (by rw [row_len]; exact hn)
          unfold errV at k3
          go_wp2_with (first
            | (go_at_call 169; first
                | (with_reducible refine (k42 _ HI.out.rdr).mono ?_; rintro e w2 ⟨rfl, rfl⟩)
                | (with_reducible refine (k43 _ HI.out.rdr).mono ?_; rintro e w2 ⟨rfl, rfl⟩)
                | (with_reducible refine (k63 _ HI.out.rdr).mono ?_; rintro e w2 ⟨rfl, h2, hb2⟩; have H2 := Lib.hid h2; clear h2))
            | (go_at_call 201; refine (k3 _ H2.out).mono ?_; rintro e w3 ⟨rfl, hb3⟩))
          exact ⟨rfl, rfl, (HI.out.below.trans hb2).trans hb3⟩
      | @pieceL_more _ _ _ c l j _ hs hn hev =>
        rw [List.length_cons] at hk hsm
        rcases sign_some hs with ⟨rfl, rfl⟩ | ⟨rfl, rfl⟩ | ⟨rfl, rfl⟩
        · clear hs H HE H1
          have k42 := fun w (h : Rdr B p (xs ++ a.row xs.length) (42 :: l) d w) => take_yesN B p _ 42 42 rfl l d w h (by omega)
          have k3 := fun w (h : Rdr B p (xs ++ a.row xs.length) l d w) => over_ok B p _ _ _ 4 w h (by rw [row_len]; exact hn)
          have HV := Lib.hid hev
          clear hev
          go_wp2_with (first
            | (go_at_call 169; first
                | (with_reducible refine (k42 _ HI.out.rdr).mono ?_; rintro e w2 ⟨rfl, h2, hb2⟩; have H2 := Lib.hid h2; clear h2))
            | (go_at_call 201; refine (k3 _ H2.out).mono ?_; rintro e w3 ⟨rfl, h3, hb3⟩))
          go_roundg (l.length)
          case rel => exact ⟨.rep 4 a, l, ⟨by rw [← row_rep]; exact h3, HV.out, by omega, rfl, (HI.out.below.trans hb2).trans hb3⟩⟩
          case measure => omega
        · clear hs H HE H1
          have k42 := fun w (h : Rdr B p (xs ++ a.row xs.length) (43 :: l) d w) => take_noN B p _ 42 42 rfl (43 :: l) d w h (by simp)
          have k43 := fun w (h : Rdr B p (xs ++ a.row xs.length) (43 :: l) d w) => take_yesN B p _ 43 43 rfl l d w h (by omega)
          have k3 := fun w (h : Rdr B p (xs ++ a.row xs.length) l d w) => over_ok B p _ _ _ 5 w h (by rw [row_len]; exact hn)
          have HV := Lib.hid hev
          clear hev
          go_wp2_with (first
            | (go_at_call 169; first
                | (with_reducible refine (k42 _ HI.out.rdr).mono ?_; rintro e w2 ⟨rfl, rfl⟩)
                | (with_reducible refine (k43 _ HI.out.rdr).mono ?_; rintro e w2 ⟨rfl, h2, hb2⟩; have H2 := Lib.hid h2; clear h2))
            | (go_at_call 201; refine (k3 _ H2.out).mono ?_; rintro e w3 ⟨rfl, h3, hb3⟩))
          go_roundg (l.length)
          case rel => exact ⟨.rep 5 a, l, ⟨by rw [← row_rep]; exact h3, HV.out, by omega, rfl, (HI.out.below.trans hb2).trans hb3⟩⟩
          case measure => omega
        · clear hs H HE H1
          have k42 := fun w (h : Rdr B p (xs ++ a.row xs.length) (63 :: l) d w) => take_noN B p _ 42 42 rfl (63 :: l) d w h (by simp)
          have k43 := fun w (h : Rdr B p (xs ++ a.row xs.length) (63 :: l) d w) => take_noN B p _ 43 43 rfl (63 :: l) d w h (by simp)
          have k63 := fun w (h : Rdr B p (xs ++ a.row xs.length) (63 :: l) d w) => take_yesN B p _ 63 63 rfl l d w h (by omega)
          have k3 := fun w (h : Rdr B p (xs ++ a.row xs.length) l d w) => over_ok B p _ _ _ 6 w h (by rw [row_len]; exact hn)
          have HV := Lib.hid hev
          clear hev
          go_wp2_with (first
            | (go_at_call 169; first
                | (with_reducible refine (k42 _ HI.out.rdr).mono ?_; rintro e w2 ⟨rfl, rfl⟩)
                | (with_reducible refine (k43 _ HI.out.rdr).mono ?_; rintro e w2 ⟨rfl, rfl⟩)
                | (with_reducible refine (k63 _ HI.out.rdr).mono ?_; rintro e w2 ⟨rfl, h2, hb2⟩; have H2 := Lib.hid h2; clear h2))
            | (go_at_call 201; refine (k3 _ H2.out).mono ?_; rintro e w3 ⟨rfl, h3, hb3⟩))
          go_roundg (l.length)
          case rel => exact ⟨.rep 6 a, l, ⟨by rw [← row_rep]; exact h3, HV.out, by omega, rfl, (HI.out.below.trans hb2).trans hb3⟩⟩
          case measure => omega
end Go.Proofs.YtkgpnlldlekcbaaGreatDoor
namespace Go.Proofs.YtkgpnlldlekcbaaGreatDoor
open Go.RowKit Go.Lib

theorem row_len2 (xs : List Nd) (a b : Tr) : ((xs ++ a.row xs.length) ++ b.row (xs ++ a.row xs.length).length).length = xs.length + a.size + b.size := by rw [List.length_append, Tr.row_length, row_len]
theorem row_two (xs : List Nd) (a b : Tr) (j : Nat) : ((xs ++ a.row xs.length) ++ b.row (xs ++ a.row xs.length).length) ++ [⟨(j : Int), k0, ((xs ++ a.row xs.length).length : Int) - 1, ((((xs ++ a.row xs.length) ++ b.row (xs ++ a.row xs.length).length)).length : Int) - 1⟩] = xs ++ (Tr.two j a b).row xs.length := by
  show _ = xs ++ (a.row xs.length ++ (b.row (xs.length + a.size) ++ [⟨j, k0, (xs.length : Int) + a.size - 1, (xs.length : Int) + a.size + b.size - 1⟩]))
  have e1 := row_len2 xs a b
  rw [e1, row_len, Int.natCast_add (xs.length + a.size), Int.natCast_add xs.length, List.append_assoc, List.append_assoc]
set_option maxHeartbeats 1000000 in
set_option maxRecDepth 20000 in
theorem cat_bad' (B p : Nat) (xs : List Nd) (l : List UInt8) (d : Nat) (x : Int) (w : World) (h : Rdr B p xs l d w) (hb : begins l = true)
    (k1 : ∀ w, Rdr B p xs l d w → Calls Tryz.prog 184 #[.pointer (some ⟨p, 0, none⟩)] w fun e w' => e = errV x ∧ Below B w w') :
    Calls Tryz.prog 168 #[.pointer (some ⟨p, 0, none⟩)] w fun e w' => e = errV x ∧ Below B w w' := by
  have kb := fun w (h : Rdr B p xs l d w) => begins_any B p xs l d w h
  rw [hb] at kb
  have H := Lib.hid h
  clear h
  unfold errV at k1 ⊢
  go_enter Tryz.func168, Tryz.ntmps168
  go_wp2_with (first
    | (go_at_call 182; refine (kb _ H.out).mono ?_; rintro e w1 ⟨rfl, rfl⟩)
    | (go_at_call 184; refine (k1 _ H.out).mono ?_; rintro e w1 ⟨rfl, hb1⟩))
  exact ⟨rfl, rfl, hb1⟩
set_option maxHeartbeats 1000000 in
set_option maxRecDepth 20000 in
theorem cat_none_ok (B p : Nat) (xs : List Nd) (l : List UInt8) (d : Nat) (w : World) (h : Rdr B p xs l d w) (hb : begins l = false) (hn : xs.length < 2000) :
    Calls Tryz.prog 168 #[.pointer (some ⟨p, 0, none⟩)] w fun e w' => (e = .returned (.tuple #[]) ∧ Rdr B p (xs ++ (Tr.leaf 0).row xs.length) l d w') ∧ Below B w w' := by
  have kb := fun w (h : Rdr B p xs l d w) => begins_any B p xs l d w h
  rw [hb] at kb
  have k3 := fun w (h : Rdr B p xs l d w) => leaf_ok B p _ _ xs 0 w h hn
  have H := Lib.hid h
  clear h
  go_enter Tryz.func168, Tryz.ntmps168
  go_wp2_with (first
    | (go_at_call 182; refine (kb _ H.out).mono ?_; rintro e w1 ⟨rfl, rfl⟩)
    | (go_at_call 183; refine (k3 _ H.out).mono ?_; rintro e w2 ⟨rfl, h2, hb2⟩))
  exact bodyPost_ret (results_none rfl _ _ _) rfl ⟨⟨rfl, h2⟩, hb2⟩
set_option maxHeartbeats 1000000 in
set_option maxRecDepth 20000 in
theorem cat_none_big (B p : Nat) (xs : List Nd) (l : List UInt8) (d : Nat) (w : World) (h : Rdr B p xs l d w) (hb : begins l = false) (hn : 2000 ≤ xs.length) :
    Calls Tryz.prog 168 #[.pointer (some ⟨p, 0, none⟩)] w fun e w' => e = errV 6 ∧ Below B w w' := by
  have kb := fun w (h : Rdr B p xs l d w) => begins_any B p xs l d w h
  rw [hb] at kb
  have k3 := fun w (h : Rdr B p xs l d w) => leaf_big B p _ _ xs 0 w h hn
  have H := Lib.hid h
  clear h
  unfold errV at k3 ⊢
  go_enter Tryz.func168, Tryz.ntmps168
  go_wp2_with (first
    | (go_at_call 182; refine (kb _ H.out).mono ?_; rintro e w1 ⟨rfl, rfl⟩)
    | (go_at_call 183; refine (k3 _ H.out).mono ?_; rintro e w2 ⟨rfl, hb2⟩))
  exact ⟨rfl, rfl, hb2⟩

set_option maxHeartbeats 2000000 in
set_option maxRecDepth 20000 in
theorem cat_does (B p m : Nat) (_hm : m ≤ 70000000000000) (k0 : Does B p 184 .piece m) : Does B p 168 .cat m := by
  intro xs l d r w hl h hev
  cases hev with
  | cat_none hb hn => exact cat_none_ok B p xs l d w h hb hn
  | cat_nbig hb hn => exact cat_none_big B p xs l d w h hb hn
  | cat_bad hb h1 => exact cat_bad' B p xs l d _ w h hb fun w h => k0 xs l d _ w hl h h1
  | @cat_ok _ _ _ t l' _ hb h1 h2 =>
    have kb := fun w (h : Rdr B p xs l d w) => begins_any B p xs l d w h
    rw [hb] at kb
    have k1 := fun w (h : Rdr B p xs l d w) => k0 xs l d _ w hl h h1
    have hl' := h1.le _ _ rfl
    have H := Lib.hid h
    have HE := Lib.hid h2
    have HK0 := Lib.hid k0
    clear h h1 h2 k0
    unfold ResP at k1
    go_enter Tryz.func168, Tryz.ntmps168
    go_wp2_with (first
      | (go_at_call 182; refine (kb _ H.out).mono ?_; rintro e w1 ⟨rfl, hw1⟩; replace hw1 := hw1.symm; subst hw1)
      | (go_at_call 184; refine (k1 _ H.out).mono ?_; rintro e w1 ⟨⟨rfl, h1⟩, hb1⟩))
    have H1 := Lib.hid h1
    clear h1 k1 kb
    go_loopg [] (l'.length) (fun k wr => ∃ (a : Tr) (l : List UInt8), Hid (Between B p xs d m w .catL r k a l wr))
    case atStart => exact ⟨t, l', ⟨H1.out, HE.out, by omega, rfl, hb1⟩⟩
    case round =>
      obtain ⟨a, s, HI⟩ := hrel
      have hk := HI.out.k
      have hsm := HI.out.le
      have hev := HI.out.ev
      have hrd := HI.out.rdr
      have hbl := HI.out.below
      obtain ⟨ys, hys⟩ : ∃ ys, ys = xs ++ a.row xs.length := ⟨_, rfl⟩
      have hyl : ys.length = xs.length + a.size := by rw [hys, row_len]
      obtain ⟨left, hleft⟩ : ∃ left : Int, left = (ys.length : Int) - 1 := ⟨_, rfl⟩
      rw [← hys] at hrd
      have HR := Lib.hid hrd
      have HB := Lib.hid hbl
      have HY := Lib.hid hys
      have HYL := Lib.hid hyl
      have HL := Lib.hid hleft
      have ka : ∀ w, Rdr B p ys s d w → Calls Tryz.prog 170 #[.pointer (some ⟨p, 0, none⟩)] w fun e w' => e = .returned (.int .i64 left) ∧ w' = w := fun w h => by
        rw [hleft]
        exact last_any B p _ _ ys w h
      clear hrd hbl hys hyl hleft
      cases hev with
      | catL_end hs =>
        have kb := fun w (h : Rdr B p ys s d w) => begins_any B p _ s d w h
        rw [hs] at kb
        clear H HE H1
        go_wp2_with (first
          | (go_at_call 182; refine (kb _ HR.out).mono ?_; rintro e w2 ⟨rfl, rfl⟩))
        go_end0
        exact ⟨⟨rfl, by have h := HR.out; rw [HY.out] at h; exact h⟩, HB.out⟩
      | @catL_bad _ _ _ _ _ hs hp =>
        have kb := fun w (h : Rdr B p ys s d w) => begins_any B p _ s d w h
        rw [hs] at kb
        have kp := fun w (h : Rdr B p ys s d w) => HK0.out ys s d _ w (by omega) h (by rw [HYL.out]; exact hp)
        unfold ResP errV at kp
        clear H HE H1 hp
        go_wp2_with (first
          | (go_at_call 182; refine (kb _ HR.out).mono ?_; rintro e w2 ⟨rfl, rfl⟩; have H2 := HR; have HB2 := HB.out)
          | (go_at_call 170; refine (ka _ H2.out).mono ?_; rintro e w3 ⟨rfl, rfl⟩)
          | (go_at_call 184; refine (kp _ H2.out).mono ?_; rintro e w4 ⟨rfl, hb4⟩))
        exact ⟨rfl, rfl, HB2.trans hb4⟩
      | @catL_big _ _ _ _ b l2 hs hp hn =>
        have kb := fun w (h : Rdr B p ys s d w) => begins_any B p _ s d w h
        rw [hs] at kb
        have hlt := hp.lt (.inr rfl) _ _ rfl
        have kp : ∀ w, Rdr B p ys s d w → Calls Tryz.prog 184 #[.pointer (some ⟨p, 0, none⟩)] w fun e w' => (e = .returned (.tuple #[]) ∧ Rdr B p (ys ++ b.row ys.length) l2 d w') ∧ Below B w w' := fun w h => HK0.out ys s d (.ok b l2) w (by omega) h (by rw [HYL.out]; exact hp)
        obtain ⟨zs, hzs⟩ : ∃ zs, zs = ys ++ b.row ys.length := ⟨_, rfl⟩
        have hzl : zs.length = xs.length + a.size + b.size := by rw [hzs, List.length_append, Tr.row_length, HYL.out]
        rw [← hzs] at kp
        have HZ := Lib.hid hzs
        have kq := fun w (h : Rdr B p zs l2 d w) => pair_big B p _ _ zs 2 left w h (by rw [hzl]; exact hn)
        clear hzs hzl
        clear H HE H1 hp
        unfold errV at kq
        go_wp2_with (first
          | (go_at_call 182; refine (kb _ HR.out).mono ?_; rintro e w2 ⟨rfl, rfl⟩; have H2 := HR; have HB2 := HB.out)
          | (go_at_call 170; refine (ka _ H2.out).mono ?_; rintro e w3 ⟨rfl, rfl⟩)
          | (go_at_call 184; refine (kp _ H2.out).mono ?_; rintro e w4 ⟨⟨rfl, h4⟩, hb4⟩; have H4 := Lib.hid h4; clear h4)
          | (go_at_call 171; refine (kq _ H4.out).mono ?_; rintro e w5 ⟨rfl, hb5⟩))
        exact ⟨rfl, rfl, (HB2.trans hb4).trans hb5⟩
      | @catL_more _ _ _ _ b l2 _ hs hp hn hev =>
        have kb := fun w (h : Rdr B p ys s d w) => begins_any B p _ s d w h
        rw [hs] at kb
        have hlt := hp.lt (.inr rfl) _ _ rfl
        have kp : ∀ w, Rdr B p ys s d w → Calls Tryz.prog 184 #[.pointer (some ⟨p, 0, none⟩)] w fun e w' => (e = .returned (.tuple #[]) ∧ Rdr B p (ys ++ b.row ys.length) l2 d w') ∧ Below B w w' := fun w h => HK0.out ys s d (.ok b l2) w (by omega) h (by rw [HYL.out]; exact hp)
        obtain ⟨zs, hzs⟩ : ∃ zs, zs = ys ++ b.row ys.length := ⟨_, rfl⟩
        have hzl : zs.length = xs.length + a.size + b.size := by rw [hzs, List.length_append, Tr.row_length, HYL.out]
        rw [← hzs] at kp
        have HZ := Lib.hid hzs
        have kq := fun w (h : Rdr B p zs l2 d w) => pair_ok B p _ _ zs 2 left w h (by rw [hzl]; exact hn)
        clear hzs hzl
        clear H HE H1 hp
        have HV := Lib.hid hev
        clear hev
        go_wp2_with (first
          | (go_at_call 182; refine (kb _ HR.out).mono ?_; rintro e w2 ⟨rfl, rfl⟩; have H2 := HR; have HB2 := HB.out)
          | (go_at_call 170; refine (ka _ H2.out).mono ?_; rintro e w3 ⟨rfl, rfl⟩)
          | (go_at_call 184; refine (kp _ H2.out).mono ?_; rintro e w4 ⟨⟨rfl, h4⟩, hb4⟩; have H4 := Lib.hid h4; clear h4)
          | (go_at_call 171; refine (kq _ H4.out).mono ?_; rintro e w5 ⟨rfl, h5, hb5⟩))
        go_roundg (l2.length)
        case rel => exact ⟨.two 2 a b, l2, ⟨by have h := h5; rw [HZ.out, HL.out, HY.out] at h; exact (congrArg (fun q => Rdr B p q l2 d w5) (row_two xs a b 2)).mp h, HV.out, by omega, rfl, (HB2.trans hb4).trans hb5⟩⟩
        case measure => omega
set_option maxHeartbeats 1000000 in
set_option maxRecDepth 20000 in
theorem all_bad' (B p : Nat) (xs : List Nd) (l : List UInt8) (d : Nat) (x : Int) (w : World) (h : Rdr B p xs l d w)
    (k1 : ∀ w, Rdr B p xs l d w → Calls Tryz.prog 168 #[.pointer (some ⟨p, 0, none⟩)] w fun e w' => e = errV x ∧ Below B w w') :
    Calls Tryz.prog 152 #[.pointer (some ⟨p, 0, none⟩)] w fun e w' => e = errV x ∧ Below B w w' := by
  have H := Lib.hid h
  clear h
  unfold errV at k1 ⊢
  go_enter Tryz.func152, Tryz.ntmps152
  go_wp2_with (first
    | (go_at_call 168; refine (k1 _ H.out).mono ?_; rintro e w1 ⟨rfl, hb1⟩))
  exact ⟨rfl, rfl, hb1⟩

set_option maxHeartbeats 2000000 in
set_option maxRecDepth 20000 in
theorem all_does (B p m : Nat) (hm : m ≤ 70000000000000) (k0 : Does B p 168 .cat m) : Does B p 152 .all m := by
  intro xs l d r w hl h hev
  cases hev with
  | all_bad h1 => exact all_bad' B p xs l d _ w h fun w h => k0 xs l d _ w hl h h1
  | @all_ok _ _ _ t l' _ h1 h2 =>
    have k1 := fun w (h : Rdr B p xs l d w) => k0 xs l d _ w hl h h1
    have hl' := h1.le _ _ rfl
    have H := Lib.hid h
    have HE := Lib.hid h2
    have HK0 := Lib.hid k0
    clear h h1 h2 k0
    unfold ResP at k1
    go_enter Tryz.func152, Tryz.ntmps152
    go_wp2_with (first
      | (go_at_call 168; refine (k1 _ H.out).mono ?_; rintro e w1 ⟨⟨rfl, h1⟩, hb1⟩))
    have H1 := Lib.hid h1
    clear h1 k1
    go_loopg [] (l'.length) (fun k wr => ∃ (a : Tr) (l : List UInt8), Hid (Between B p xs d m w .allL r k a l wr))
    case atStart => exact ⟨t, l', ⟨H1.out, HE.out, by omega, rfl, hb1⟩⟩
    case round =>
      obtain ⟨a, s, HI⟩ := hrel
      have hk := HI.out.k
      have hsm := HI.out.le
      have hev := HI.out.ev
      have hrd := HI.out.rdr
      have hbl := HI.out.below
      obtain ⟨ys, hys⟩ : ∃ ys, ys = xs ++ a.row xs.length := ⟨_, rfl⟩
      have hyl : ys.length = xs.length + a.size := by rw [hys, row_len]
      obtain ⟨left, hleft⟩ : ∃ left : Int, left = (ys.length : Int) - 1 := ⟨_, rfl⟩
      rw [← hys] at hrd
      have HR := Lib.hid hrd
      have HB := Lib.hid hbl
      have HY := Lib.hid hys
      have HYL := Lib.hid hyl
      have HL := Lib.hid hleft
      have ka : ∀ w, Rdr B p ys s d w → Calls Tryz.prog 170 #[.pointer (some ⟨p, 0, none⟩)] w fun e w' => e = .returned (.int .i64 left) ∧ w' = w := fun w h => by
        rw [hleft]
        exact last_any B p _ _ ys w h
      clear hrd hbl hys hyl hleft
      cases hev with
      | allL_end hs =>
        have kt := fun w (h : Rdr B p ys s d w) => take_noN B p _ 124 124 rfl s d w h hs
        clear H HE H1
        go_wp2_with (first
          | (go_at_call 169; with_reducible refine (kt _ HR.out).mono ?_; rintro e w2 ⟨rfl, rfl⟩))
        go_end0
        exact ⟨⟨rfl, by have h := HR.out; rw [HY.out] at h; exact h⟩, HB.out⟩
      | @allL_bad _ _ _ s _ hp =>
        rw [List.length_cons] at hk hsm
        have kt := fun w (h : Rdr B p ys (124 :: s) d w) => take_yesN B p _ 124 124 rfl s d w h (by omega)
        have ka : ∀ w, Rdr B p ys s d w → Calls Tryz.prog 170 #[.pointer (some ⟨p, 0, none⟩)] w fun e w' => e = .returned (.int .i64 left) ∧ w' = w := fun w h => by rw [HL.out]; exact last_any B p _ _ ys w h
        have kp := fun w (h : Rdr B p ys s d w) => HK0.out ys s d _ w (by omega) h (by rw [HYL.out]; exact hp)
        unfold ResP errV at kp
        clear H HE H1 hp
        go_wp2_with (first
          | (go_at_call 169; with_reducible refine (kt _ HR.out).mono ?_; rintro e w2 ⟨rfl, h2, hb2⟩; have H2 := Lib.hid h2; clear h2; have HB2 := HB.out.trans hb2)
          | (go_at_call 170; refine (ka _ H2.out).mono ?_; rintro e w3 ⟨rfl, rfl⟩)
          | (go_at_call 168; refine (kp _ H2.out).mono ?_; rintro e w4 ⟨rfl, hb4⟩))
        exact ⟨rfl, rfl, HB2.trans hb4⟩
      | @allL_big _ _ _ s b l2 hp hn =>
        rw [List.length_cons] at hk hsm
        have kt := fun w (h : Rdr B p ys (124 :: s) d w) => take_yesN B p _ 124 124 rfl s d w h (by omega)
        have ka : ∀ w, Rdr B p ys s d w → Calls Tryz.prog 170 #[.pointer (some ⟨p, 0, none⟩)] w fun e w' => e = .returned (.int .i64 left) ∧ w' = w := fun w h => by rw [HL.out]; exact last_any B p _ _ ys w h
        have hlt := hp.le _ _ rfl
        have kp : ∀ w, Rdr B p ys s d w → Calls Tryz.prog 168 #[.pointer (some ⟨p, 0, none⟩)] w fun e w' => (e = .returned (.tuple #[]) ∧ Rdr B p (ys ++ b.row ys.length) l2 d w') ∧ Below B w w' := fun w h => HK0.out ys s d (.ok b l2) w (by omega) h (by rw [HYL.out]; exact hp)
        obtain ⟨zs, hzs⟩ : ∃ zs, zs = ys ++ b.row ys.length := ⟨_, rfl⟩
        have hzl : zs.length = xs.length + a.size + b.size := by rw [hzs, List.length_append, Tr.row_length, HYL.out]
        rw [← hzs] at kp
        have HZ := Lib.hid hzs
        have kq := fun w (h : Rdr B p zs l2 d w) => pair_big B p _ _ zs 3 left w h (by rw [hzl]; exact hn)
        clear hzs hzl
        clear H HE H1 hp
        unfold errV at kq
        go_wp2_with (first
          | (go_at_call 169; with_reducible refine (kt _ HR.out).mono ?_; rintro e w2 ⟨rfl, h2, hb2⟩; have H2 := Lib.hid h2; clear h2; have HB2 := HB.out.trans hb2)
          | (go_at_call 170; refine (ka _ H2.out).mono ?_; rintro e w3 ⟨rfl, rfl⟩)
          | (go_at_call 168; refine (kp _ H2.out).mono ?_; rintro e w4 ⟨⟨rfl, h4⟩, hb4⟩; have H4 := Lib.hid h4; clear h4)
          | (go_at_call 171; refine (kq _ H4.out).mono ?_; rintro e w5 ⟨rfl, hb5⟩))
        exact ⟨rfl, rfl, (HB2.trans hb4).trans hb5⟩
      | @allL_more _ _ _ s b l2 _ hp hn hev =>
        rw [List.length_cons] at hk hsm
        have kt := fun w (h : Rdr B p ys (124 :: s) d w) => take_yesN B p _ 124 124 rfl s d w h (by omega)
        have ka : ∀ w, Rdr B p ys s d w → Calls Tryz.prog 170 #[.pointer (some ⟨p, 0, none⟩)] w fun e w' => e = .returned (.int .i64 left) ∧ w' = w := fun w h => by rw [HL.out]; exact last_any B p _ _ ys w h
        have hlt := hp.le _ _ rfl
        have kp : ∀ w, Rdr B p ys s d w → Calls Tryz.prog 168 #[.pointer (some ⟨p, 0, none⟩)] w fun e w' => (e = .returned (.tuple #[]) ∧ Rdr B p (ys ++ b.row ys.length) l2 d w') ∧ Below B w w' := fun w h => HK0.out ys s d (.ok b l2) w (by omega) h (by rw [HYL.out]; exact hp)
        obtain ⟨zs, hzs⟩ : ∃ zs, zs = ys ++ b.row ys.length := ⟨_, rfl⟩
        have hzl : zs.length = xs.length + a.size + b.size := by rw [hzs, List.length_append, Tr.row_length, HYL.out]
        rw [← hzs] at kp
        have HZ := Lib.hid hzs
        have kq := fun w (h : Rdr B p zs l2 d w) => pair_ok B p _ _ zs 3 left w h (by rw [hzl]; exact hn)
        clear hzs hzl
        clear H HE H1 hp
        have HV := Lib.hid hev
        clear hev
        go_wp2_with (first
          | (go_at_call 169; with_reducible refine (kt _ HR.out).mono ?_; rintro e w2 ⟨rfl, h2, hb2⟩; have H2 := Lib.hid h2; clear h2; have HB2 := HB.out.trans hb2)
          | (go_at_call 170; refine (ka _ H2.out).mono ?_; rintro e w3 ⟨rfl, rfl⟩)
          | (go_at_call 168; refine (kp _ H2.out).mono ?_; rintro e w4 ⟨⟨rfl, h4⟩, hb4⟩; have H4 := Lib.hid h4; clear h4)
          | (go_at_call 171; refine (kq _ H4.out).mono ?_; rintro e w5 ⟨rfl, h5, hb5⟩))
        go_roundg (l2.length)
        case rel => exact ⟨.two 3 a b, l2, ⟨by have h := h5; rw [HZ.out, HL.out, HY.out] at h; exact (congrArg (fun q => Rdr B p q l2 d w5) (row_two xs a b 3)).mp h, HV.out, by omega, rfl, (HB2.trans hb4).trans hb5⟩⟩
        case measure => omega

theorem leaf_some {c : UInt8} {t : Tr} (h : leafK c = some t) : (c = 46 ∧ t = .set kPoint) ∨ (c = 94 ∧ t = .leaf 7) ∨ (c = 36 ∧ t = .leaf 8) := by
  unfold leafK at h
  split at h
  · cases h; exact .inl ⟨by assumption, rfl⟩
  · split at h
    · cases h; exact .inr (.inl ⟨by assumption, rfl⟩)
    · split at h
      · cases h; exact .inr (.inr ⟨by assumption, rfl⟩)
      · cases h
theorem leaf_none {l : List UInt8} (h : (l.head?.bind leafK) = none) : l.head? ≠ some 46 ∧ l.head? ≠ some 94 ∧ l.head? ≠ some 36 := by
  cases l with
  | nil => simp
  | cons c l =>
    have h : leafK c = none := h
    refine ⟨fun e => ?_, fun e => ?_, fun e => ?_⟩
    all_goals
      simp only [List.head?_cons, Option.some.injEq] at e
      subst e
      revert h
      unfold leafK
      simp
theorem atom_does (B p m : Nat) (hm : m ≤ 70000000000000) (ih : ∀ j, j < m → Does B p 152 .all j) : Does B p 200 .atom m := by
  intro xs l d r w hl h hev
  cases hev with
  | @atom_deep _ _ l hd =>
    rw [List.length_cons] at hl
    exact atom_in B p xs l d _ w h (by omega) fun w h => within_deep B p xs l w (by rw [← hd]; exact h)
  | @atom_in _ _ l _ hd h1 =>
    rw [List.length_cons] at hl
    exact atom_in B p xs l d _ w h (by omega) fun w h => within_bad B p xs l d _ w h hd fun w h => ih l.length (by omega) xs l (d + 1) _ w (Nat.le_refl _) h h1
  | @atom_open _ _ l t l' hd h1 hh =>
    rw [List.length_cons] at hl
    exact atom_in B p xs l d _ w h (by omega) fun w h => within_open B p xs _ l l' d w h hd hh fun w h => ih l.length (by omega) xs l (d + 1) _ w (Nat.le_refl _) h h1
  | @atom_ok _ _ l t l' hd h1 =>
    rw [List.length_cons] at hl
    have := h1.le _ _ rfl
    rw [List.length_cons] at this
    exact atom_in B p xs l d _ w h (by omega) fun w h => within_ok B p xs _ l l' d w h hd (by omega) fun w h => ih l.length (by omega) xs l (d + 1) _ w (Nat.le_refl _) h h1
  | @atom_leaf _ _ c l t ht hn =>
    rw [List.length_cons] at hl
    rcases leaf_some ht with ⟨rfl, rfl⟩ | ⟨rfl, rfl⟩ | ⟨rfl, rfl⟩
    · exact (atom_point B p xs l d w h (by omega)).1 hn
    · exact (atom_begin B p xs l d w h (by omega)).1 hn
    · exact (atom_end B p xs l d w h (by omega)).1 hn
  | @atom_lbig _ _ c l t ht hn =>
    rw [List.length_cons] at hl
    rcases leaf_some ht with ⟨rfl, rfl⟩ | ⟨rfl, rfl⟩ | ⟨rfl, rfl⟩
    · exact (atom_point B p xs l d w h (by omega)).2 hn
    · exact (atom_begin B p xs l d w h (by omega)).2 hn
    · exact (atom_end B p xs l d w h (by omega)).2 hn
  | @atom_set _ _ _ k j h40 hb hD hn =>
    obtain ⟨h46, h94, h36⟩ := leaf_none hb
    exact (atom_listed B p xs l d w h (by omega) h40 h46 h94 h36 k j hD).1 hn
  | @atom_sbig _ _ _ k j h40 hb hD hn =>
    obtain ⟨h46, h94, h36⟩ := leaf_none hb
    exact (atom_listed B p xs l d w h (by omega) h40 h46 h94 h36 k j hD).2 hn
  | atom_no h40 hb hD =>
    obtain ⟨h46, h94, h36⟩ := leaf_none hb
    exact atom_no B p xs l d w h (by omega) h40 h46 h94 h36 hD
theorem all_any (B p : Nat) : ∀ m, m ≤ 70000000000000 → Does B p 152 .all m := by
  intro m
  induction m using Nat.strongRecOn with
  | ind m ih =>
    intro hm
    exact all_does B p m hm (cat_does B p m hm (piece_does B p m hm (atom_does B p m hm fun j hj => ih j hj (by omega))))
end Go.Proofs.YtkgpnlldlekcbaaGreatDoor
namespace Go.Proofs.YtkgpnlldlekcbaaGreatDoor
open Go.RowKit Go.Lib

theorem owns_base {w : World} {B B' n size : Nat} {e : TypeId} {v : Value} {xs : List Value} (h : w.ownsRow B e size v n xs) (hB : B' ≤ B) : w.ownsRow B' e size v n xs := by
  obtain ⟨h1, h2⟩ := h
  refine ⟨h1, ?_⟩
  rcases h2 with h2 | ⟨g, cap, cur, hv, hg, r⟩
  · exact .inl h2
  · exact .inr ⟨g, cap, cur, hv, Nat.le_trans hB hg, r⟩
/-- A row of a tree that a call answers: of its own making. -/
def IsRow (B : Nat) (ys : List Nd) (v : Value) (w : World) : Prop := w.ownsRow B 163 7 v ys.length (ndC ys)
theorem isRow_slice {B : Nat} {ys : List Nd} {v : Value} {w : World} (h : IsRow B ys v w) : ∃ ao cap, v = .slice ao ys.length cap := by
  rcases h.2 with ⟨hv, h0⟩ | ⟨g, cap, cur, hv, _⟩
  · exact ⟨_, _, by rw [hv, h0]⟩
  · exact ⟨_, _, hv⟩
theorem isRow_put {B : Nat} {ys : List Nd} {v : Value} {w : World} (h : IsRow B ys v w) (a : Addr) (u : Value) (ha : a.block < B) : IsRow B ys v (w.setCell a u) :=
  owns_same h fun g hg => Below.heap_setCell _ _ _ _ (by have := own_base h hg; omega)
theorem kept1_idle (p q : Addr) (w : World) :
    CallsD Tryz.prog 167 #[.pointer (some p), .pointer (some q)] .returning w fun e u' w' => e = .returned (.tuple #[]) ∧ u' = .returning ∧ w' = w := by
  refine callsD_of_wpS Tryz.func167 rfl fun c₀ cs hu => ?_
  apply wpS_seq
  apply wpS_region
  simp [wpOpsS, go_sem, recoverD, hu, Tryz.ntmps167, Exit.thenS]
  apply wpS_seq
  apply wpS_region
  simp [wpOpsS, go_sem, Exit.thenS]
  refine wpS_cond (t := false) (by simp [Act.eval, Array.replicate]) ?_
  simp only [Bool.false_eq_true, if_false]
  refine wpS_of_wp (wp_skip ?_)
  cases c₀
  simp_all [bodyPostS, results, Tryz.results167]

theorem assert_errno (e : Int) (w : World) : (Instr.typeAssert (.iface 31 (.int .i64 e)) 20 31 false).run Tryz.prog w = .ok (.int .i64 e) w := by kernel_rfl

theorem kept1_panics (g : Nat) (a : Value) (b e : Int) (t1 t2 : TypeId) (w : World)
    (ha : w.heap[g]? = some (.cells #[a] t1 (0, 0))) (hb : w.heap[g + 1]? = some (.cells #[.int .i64 b] t2 (0, 0))) :
    CallsD Tryz.prog 167 #[.pointer (some ⟨g, 0, none⟩), .pointer (some ⟨g + 1, 0, none⟩)] (.panicking [{ v := .iface 31 (.int .i64 e), recovered := false }]) w fun e' u' w' =>
      e' = .returned (.tuple #[]) ∧ u' = .panicking [{ v := .iface 31 (.int .i64 e), recovered := true }] ∧ w' = ((w.setCell ⟨g, 0, none⟩ (.slice none 0 0)).setCell ⟨g + 1, 0, none⟩ (.int .i64 e)).drew := by
  have hca : w.cell? ⟨g, 0, none⟩ = some a := by simp [World.cell?, ha]
  have hfa : w.frozen? ⟨g, 0, none⟩ = false := by simp [World.frozen?, ha]
  have hcb : w.cell? ⟨g + 1, 0, none⟩ = some (.int .i64 b) := by simp [World.cell?, hb]
  have hfb : w.frozen? ⟨g + 1, 0, none⟩ = false := by simp [World.frozen?, hb]
  have hta := assert_errno e
  refine callsD_of_wpS Tryz.func167 rfl fun c₀ cs hu => ?_
  apply wpS_seq
  apply wpS_region
  simp [wpOpsS, go_sem, recoverD, hu, Tryz.ntmps167, Exit.thenS]
  apply wpS_seq
  apply wpS_region
  simp [wpOpsS, go_sem, Exit.thenS]
  refine wpS_cond (t := true) (by simp [Act.eval, Array.replicate]) ?_
  simp only [if_true]
  refine wpS_of_wp ?_
  go_region_law (fail)
  all_goals
    simp [bodyPostS, results, Tryz.results167]

theorem two_new (w : World) (A B : Obj) : ((w.alloc A).alloc B).heap[w.heap.size]? = some A ∧ ((w.alloc A).alloc B).heap[w.heap.size + 1]? = some B ∧ ((w.alloc A).alloc B).heap.size = w.heap.size + 2 ∧ Below w.heap.size w ((w.alloc A).alloc B) := by
  refine ⟨?_, ?_, by simp, ((Below.refl _ w).alloc (Nat.le_refl _) _).alloc (by simp) _⟩
  · rw [Below.heap_alloc _ _ _ (by simp)]; exact heap_alloc_new _ _
  · rw [show w.heap.size + 1 = (w.alloc A).heap.size by simp]; exact heap_alloc_new _ _
theorem cell_one {w : World} {g : Nat} {v : Value} {t : TypeId} (h : w.heap[g]? = some (.cells #[v] t (0, 0))) : w.cell? ⟨g, 0, none⟩ = some v ∧ w.frozen? ⟨g, 0, none⟩ = false := by
  constructor <;> simp [World.cell?, World.frozen?, h]
theorem below_two {w W : World} (h : Below W.heap.size W w) {g : Nat} {o : Obj} (hg : W.heap[g]? = some o) (hlt : g < W.heap.size) : w.heap[g]? = some o := (h.block g hlt).trans hg

theorem kept_ok (k : FuncId) (caps : Array Value) (ys : List Nd) (w : World) (he : ∀ args w, (callFunc k args).run Tryz.prog w = .ok (.enter k args) w)
    (h : ∀ w1, Below w.heap.size w w1 → Calls Tryz.prog k caps w1 fun e w2 => (∃ v, e = .returned v ∧ IsRow w1.heap.size ys v w2) ∧ Below w1.heap.size w1 w2) :
    Calls Tryz.prog 150 #[.func (.func k) #[] caps] w fun e w' => (∃ v, e = .returned (.tuple #[v, .int .i64 0]) ∧ IsRow w.heap.size ys v w') ∧ Below w.heap.size w w' := by
  have hmf : ∀ (fn : Fn) (first cap : Array Value) (w : World), (Instr.makeFunc fn first cap).run Tryz.prog w = .ok (.func fn first cap) w := fun _ _ _ _ => rfl
  go_enter_defers Tryz.func150, Tryz.ntmps150
  go_wp2_with (go_at_fn k; refine (h _ (two_new _ _ _).2.2.2).mono ?_; rintro e w2 ⟨⟨v, rfl, hrow⟩, hb2⟩; obtain ⟨ao, cap, rfl⟩ := isRow_slice hrow; obtain ⟨T1, T2, T3, T4⟩ := two_new w (.cells #[.slice none 0 0] 191) (.cells #[.int .i64 0] 31); have c1 := below_two hb2 T1 (by rw [T3]; omega); have c2 := below_two hb2 T2 (by rw [T3]; omega); obtain ⟨c3, c4⟩ := cell_one c1; obtain ⟨c5, c6⟩ := cell_one c2)
  refine leaves_cons (f := 167) (args := #[.pointer (some ⟨w.heap.size, 0, none⟩), .pointer (some ⟨w.heap.size + 1, 0, none⟩)]) (by simp) (by simp [go_sem]) ?_
  refine (kept1_idle ⟨w.heap.size, 0, none⟩ ⟨w.heap.size + 1, 0, none⟩ _).mono ?_
  rintro e u' w'' ⟨rfl, rfl, rfl⟩
  simp [Leaves, settle, results, Tryz.results150, go_sem, c3, c5]
  refine ⟨?_, ((T4.trans (hb2.mono T4.size)).setCell (by simp) _).setCell (by simp) _⟩
  exact owns_base (isRow_put (isRow_put hrow _ _ (by rw [T3]; simp)) _ _ (by rw [T3]; simp)) T4.size
theorem kept_bad (k : FuncId) (caps : Array Value) (er : Int) (w : World) (he : ∀ args w, (callFunc k args).run Tryz.prog w = .ok (.enter k args) w)
    (h : ∀ w1, Below w.heap.size w w1 → Calls Tryz.prog k caps w1 fun e w2 => e = .panicked [{ v := .iface 31 (.int .i64 er), recovered := false }] ∧ Below w1.heap.size w1 w2) :
    Calls Tryz.prog 150 #[.func (.func k) #[] caps] w fun e w' => e = .returned (.tuple #[.slice none 0 0, .int .i64 er]) ∧ Below w.heap.size w w' := by
  have hmf : ∀ (fn : Fn) (first cap : Array Value) (w : World), (Instr.makeFunc fn first cap).run Tryz.prog w = .ok (.func fn first cap) w := fun _ _ _ _ => rfl
  go_enter_defers Tryz.func150, Tryz.ntmps150
  go_wp2_with (go_at_fn k; refine (h _ (two_new _ _ _).2.2.2).mono ?_; rintro e w2 ⟨rfl, hb2⟩; obtain ⟨T1, T2, T3, T4⟩ := two_new w (.cells #[.slice none 0 0] 191) (.cells #[.int .i64 0] 31); have c1 := below_two hb2 T1 (by rw [T3]; omega); have c2 := below_two hb2 T2 (by rw [T3]; omega); obtain ⟨c3, c4⟩ := cell_one c1; obtain ⟨c5, c6⟩ := cell_one c2)
  refine leaves_cons (f := 167) (args := #[.pointer (some ⟨w.heap.size, 0, none⟩), .pointer (some ⟨w.heap.size + 1, 0, none⟩)]) (by simp) (by simp [go_sem]) ?_
  refine (kept1_panics w.heap.size _ 0 er _ _ _ c1 c2).mono ?_
  rintro e u' w'' ⟨rfl, rfl, rfl⟩
  simp [Leaves, settle, results, Tryz.results150, go_sem, c3, c5]
  exact (((T4.trans (hb2.mono T4.size)).setCell (by simp) _).setCell (by simp) _).drew

/-- What Read answers. -/
def ReadP (B : Nat) : Res → Ending → World → Prop
  | .ok t _, e, w => ∃ v, e = .returned (.tuple #[v, .int .i64 0]) ∧ IsRow B (t.row 0) v w
  | .bad x, e, _ => e = .returned (.tuple #[.slice none 0 0, .int .i64 x])
/-- What its closure does. -/
def DeedP (B : Nat) : Res → Ending → World → Prop
  | .ok t _, e, w => ∃ v, e = .returned v ∧ IsRow B (t.row 0) v w
  | .bad x, e, _ => e = errV x

theorem fresh_rdr (l : List UInt8) (w : World) : Rdr w.heap.size w.heap.size [] l 0 (w.alloc (.cells #[.slice none 0 0, .string ⟨l.toArray⟩, .int .i64 0] 195)) := by
  refine ⟨Nat.le_refl _, by simp, by simp, by decide, .slice none 0 0, heap_alloc_new w _, ⟨rfl, .inl ⟨rfl, rfl⟩⟩, by simp [Value.ownBlock]⟩
theorem Own.first {B p : Nat} {T : TypeId} {more : List Value} {xs : List Nd} {w : World} (h : Own B p T more xs w) : ∃ v, w.cell? ⟨p, 0, none⟩ = some v ∧ IsRow B xs v w := by
  obtain ⟨_, _, _, _, v, h4, h5, _⟩ := h
  exact ⟨v, by rw [cell_of_heap h4]; rfl, h5⟩

set_option maxHeartbeats 1000000 in
set_option maxRecDepth 20000 in
theorem read1_bad (l : List UInt8) (q : Nat) (x : Int) (w : World) (hq : w.heap[q]? = some (.cells #[.string ⟨l.toArray⟩] 9 (0, 0)))
    (k1 : ∀ w' : World, Rdr w.heap.size w.heap.size [] l 0 w' → Calls Tryz.prog 152 #[.pointer (some ⟨w.heap.size, 0, none⟩)] w' fun e w2 => e = errV x ∧ Below w.heap.size w' w2) :
    Calls Tryz.prog 151 #[.pointer (some ⟨q, 0, none⟩)] w fun e w' => e = errV x ∧ Below w.heap.size w w' := by
  have c0 : w.cell? ⟨q, 0, none⟩ = some (.string ⟨l.toArray⟩) := by rw [cell_of_heap hq]; rfl
  have k2 := k1 _ (fresh_rdr l w)
  clear hq k1
  generalize (⟨l.toArray⟩ : ByteArray) = S at c0 k2
  unfold errV at k2 ⊢
  go_enter Tryz.func151, Tryz.ntmps151
  go_wp2_with (first
    | (go_at_call 152; refine k2.mono ?_; rintro e w1 ⟨rfl, hb1⟩))
  exact ⟨rfl, rfl, ((Below.refl _ w).alloc (Nat.le_refl _) _).trans hb1⟩

set_option maxHeartbeats 1000000 in
set_option maxRecDepth 20000 in
theorem read1_more (l l' : List UInt8) (c : UInt8) (ys : List Nd) (q : Nat) (w : World) (hq : w.heap[q]? = some (.cells #[.string ⟨l.toArray⟩] 9 (0, 0)))
    (k1 : ∀ w' : World, Rdr w.heap.size w.heap.size [] l 0 w' → Calls Tryz.prog 152 #[.pointer (some ⟨w.heap.size, 0, none⟩)] w' fun e w2 => (e = .returned (.tuple #[]) ∧ Rdr w.heap.size w.heap.size ys (c :: l') 0 w2) ∧ Below w.heap.size w' w2) :
    Calls Tryz.prog 151 #[.pointer (some ⟨q, 0, none⟩)] w fun e w' => e = errV 9 ∧ Below w.heap.size w w' := by
  have c0 : w.cell? ⟨q, 0, none⟩ = some (.string ⟨l.toArray⟩) := by rw [cell_of_heap hq]; rfl
  have k2 := k1 _ (fresh_rdr l w)
  have hE := list_full c l'
  clear hq k1
  generalize (⟨l.toArray⟩ : ByteArray) = S at c0 k2
  unfold errV
  go_enter Tryz.func151, Tryz.ntmps151
  go_wp2_with (first
    | (go_at_call 152; refine k2.mono ?_; rintro e w1 ⟨⟨rfl, h1⟩, hb1⟩; obtain ⟨d1, _⟩ := h1.cell (i := 0) rfl))
  exact ⟨rfl, rfl, ((Below.refl _ w).alloc (Nat.le_refl _) _).trans hb1⟩

set_option maxHeartbeats 1000000 in
set_option maxRecDepth 20000 in
theorem read1_ok (l : List UInt8) (ys : List Nd) (q : Nat) (w : World) (hq : w.heap[q]? = some (.cells #[.string ⟨l.toArray⟩] 9 (0, 0)))
    (k1 : ∀ w' : World, Rdr w.heap.size w.heap.size [] l 0 w' → Calls Tryz.prog 152 #[.pointer (some ⟨w.heap.size, 0, none⟩)] w' fun e w2 => (e = .returned (.tuple #[]) ∧ Rdr w.heap.size w.heap.size ys [] 0 w2) ∧ Below w.heap.size w' w2) :
    Calls Tryz.prog 151 #[.pointer (some ⟨q, 0, none⟩)] w fun e w' => (∃ v, e = .returned v ∧ IsRow w.heap.size ys v w') ∧ Below w.heap.size w w' := by
  have c0 : w.cell? ⟨q, 0, none⟩ = some (.string ⟨l.toArray⟩) := by rw [cell_of_heap hq]; rfl
  have k2 := k1 _ (fresh_rdr l w)
  have hE := list_empty
  clear hq k1
  generalize (⟨l.toArray⟩ : ByteArray) = S at c0 k2
  go_enter Tryz.func151, Tryz.ntmps151
  go_wp2_with (first
    | (go_at_call 152; refine k2.mono ?_; rintro e w1 ⟨⟨rfl, h1⟩, hb1⟩; obtain ⟨d1, _⟩ := h1.cell (i := 0) rfl; obtain ⟨v, d0, hrow⟩ := h1.first))
  exact bodyPost_ret (results_tmp rfl _ _ _) rfl ⟨⟨v, rfl, hrow⟩, ((Below.refl _ w).alloc (Nat.le_refl _) _).trans hb1⟩

theorem read1_any (l : List UInt8) (r : Res) (q : Nat) (w : World) (hl : l.length ≤ 70000000000000) (hr : Reads l r) (hq : w.heap[q]? = some (.cells #[.string ⟨l.toArray⟩] 9 (0, 0))) :
    Calls Tryz.prog 151 #[.pointer (some ⟨q, 0, none⟩)] w fun e w' => DeedP w.heap.size r e w' ∧ Below w.heap.size w w' := by
  have hall := all_any w.heap.size w.heap.size l.length hl
  cases hr with
  | ok h => exact read1_ok l _ q w hq fun w' hw => hall [] l 0 _ w' (Nat.le_refl _) hw h
  | bad h => exact read1_bad l q _ w hq fun w' hw => hall [] l 0 _ w' (Nat.le_refl _) hw h
  | more h => exact read1_more l _ _ _ q w hq fun w' hw => hall [] l 0 _ w' (Nat.le_refl _) hw h

set_option maxHeartbeats 1000000 in
set_option maxRecDepth 20000 in
theorem read_ok (l : List UInt8) (t : Tr) (w : World)
    (k1 : ∀ w1 : World, Below (w.alloc (.cells #[.string ⟨l.toArray⟩] 9)).heap.size (w.alloc (.cells #[.string ⟨l.toArray⟩] 9)) w1 → Calls Tryz.prog 151 #[.pointer (some ⟨w.heap.size, 0, none⟩)] w1 fun e w2 => (∃ v, e = .returned v ∧ IsRow w1.heap.size (t.row 0) v w2) ∧ Below w1.heap.size w1 w2) :
    Calls Tryz.prog 139 #[.string ⟨l.toArray⟩] w fun e w' => (∃ v, e = .returned (.tuple #[v, .int .i64 0]) ∧ IsRow w.heap.size (t.row 0) v w') ∧ Below w.heap.size w w' := by
  have hmf : ∀ (fn : Fn) (first cap : Array Value) (w : World), (Instr.makeFunc fn first cap).run Tryz.prog w = .ok (.func fn first cap) w := fun _ _ _ _ => rfl
  have he : ∀ args w, (callFunc 151 args).run Tryz.prog w = .ok (.enter 151 args) w := fun args w => enters_of Tryz.func151 (by kernel_rfl) rfl args w
  have k2 := kept_ok 151 #[.pointer (some ⟨w.heap.size, 0, none⟩)] (t.row 0) _ he k1
  clear k1 he
  generalize (⟨l.toArray⟩ : ByteArray) = S at k2 ⊢
  generalize t.row 0 = ys at k2 ⊢
  go_enter Tryz.func139, Tryz.ntmps139
  go_wp2_with (first
    | (go_at_call 150; refine k2.mono ?_; rintro e w1 ⟨⟨v, rfl, hrow⟩, hb1⟩))
  exact bodyPost_ret (results_tmp2 rfl _ _ _) rfl ⟨⟨v, rfl, owns_base hrow (by simp)⟩, ((Below.refl _ w).alloc (Nat.le_refl _) _).trans (hb1.mono (by simp))⟩
set_option maxHeartbeats 1000000 in
set_option maxRecDepth 20000 in
theorem read_bad (l : List UInt8) (x : Int) (w : World)
    (k1 : ∀ w1 : World, Below (w.alloc (.cells #[.string ⟨l.toArray⟩] 9)).heap.size (w.alloc (.cells #[.string ⟨l.toArray⟩] 9)) w1 → Calls Tryz.prog 151 #[.pointer (some ⟨w.heap.size, 0, none⟩)] w1 fun e w2 => e = errV x ∧ Below w1.heap.size w1 w2) :
    Calls Tryz.prog 139 #[.string ⟨l.toArray⟩] w fun e w' => e = .returned (.tuple #[.slice none 0 0, .int .i64 x]) ∧ Below w.heap.size w w' := by
  have hmf : ∀ (fn : Fn) (first cap : Array Value) (w : World), (Instr.makeFunc fn first cap).run Tryz.prog w = .ok (.func fn first cap) w := fun _ _ _ _ => rfl
  have he : ∀ args w, (callFunc 151 args).run Tryz.prog w = .ok (.enter 151 args) w := fun args w => enters_of Tryz.func151 (by kernel_rfl) rfl args w
  have k2 := kept_bad 151 #[.pointer (some ⟨w.heap.size, 0, none⟩)] x _ he k1
  clear k1 he
  generalize (⟨l.toArray⟩ : ByteArray) = S at k2 ⊢
  go_enter Tryz.func139, Tryz.ntmps139
  go_wp2_with (first
    | (go_at_call 150; refine k2.mono ?_; rintro e w1 ⟨rfl, hb1⟩))
  exact bodyPost_ret (results_tmp2 rfl _ _ _) rfl ⟨rfl, ((Below.refl _ w).alloc (Nat.le_refl _) _).trans (hb1.mono (by simp))⟩
/-- Reading a text: what the rules say. -/
theorem readRe_any (l : List UInt8) (r : Res) (w : World) (hl : l.length ≤ 70000000000000) (hr : Reads l r) :
    Calls Tryz.prog 139 #[.string ⟨l.toArray⟩] w fun e w' => ReadP w.heap.size r e w' ∧ Below w.heap.size w w' := by
  have k : ∀ w1 : World, Below (w.alloc (.cells #[.string ⟨l.toArray⟩] 9)).heap.size (w.alloc (.cells #[.string ⟨l.toArray⟩] 9)) w1 → Calls Tryz.prog 151 #[.pointer (some ⟨w.heap.size, 0, none⟩)] w1 fun e w2 => DeedP w1.heap.size r e w2 ∧ Below w1.heap.size w1 w2 :=
    fun w1 hb => read1_any l r w.heap.size w1 hl hr ((hb.block _ (by simp)).trans (heap_alloc_new w _))
  cases r with
  | ok t l' => exact read_ok l t w k
  | bad x => exact read_bad l x w k
end Go.Proofs.YtkgpnlldlekcbaaGreatDoor
namespace Go.Proofs.YtkgpnlldlekcbaaGreatDoor
open Go.ChangeShapes Go.WideShapes Go.ChangeAt Go.RowKit Go.Deep

theorem cell_plain {w : World} {a : Addr} {v : Value} (h : w.cell? a = some v) : a.spot = none ∧ a.block < w.heap.size := by
  unfold World.cell? at h
  split at h
  · rename_i hh
    constructor
    · by_cases hs : a.spot.isSome = true
      · rw [if_pos hs] at h; cases h
      · simpa using hs
    · by_cases hl : a.block < w.heap.size
      · exact hl
      · rw [Array.getElem?_eq_none (by omega)] at hh; cases hh
  · cases h
instance : Inhabited Nd := ⟨⟨0, k0, 0, 0⟩⟩
end Go.Proofs.YtkgpnlldlekcbaaGreatDoor
