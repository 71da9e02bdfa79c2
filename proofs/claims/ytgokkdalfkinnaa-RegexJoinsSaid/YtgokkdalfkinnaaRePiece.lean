/- The reader's method piece, given what atom comes to. Condition: the text is shorter than 2^46. -/
import Derived.Test.YtgokkdalfkinnaaReAtom
import Derived.Deep.Cut
import Derived.Deep.DeepCutAuto
import Derived.Deep.LoopGhost
namespace Go.Proofs.Ytgokkdalfkinnaa
open Go.RowKit Go.Lib

theorem Ev.le {J : Job} {d n : Nat} {l : List UInt8} {r : Res} (h : Ev J d n l r) : ∀ t l', r = .ok t l' → l'.length ≤ l.length := by
  induction h with
  | all_bad _ _ => intro t l' e; cases e
  | all_ok _ _ ih1 ih2 => intro t l' e; exact Nat.le_trans (ih2 _ _ e) (ih1 _ _ rfl)
  | allL_end _ => intro t l' e; cases e; exact Nat.le_refl _
  | allL_bad _ _ => intro t l' e; cases e
  | allL_big _ _ _ => intro t l' e; cases e
  | allL_more _ _ _ ih1 ih2 => intro t l' e; have := ih2 _ _ e; have := ih1 _ _ rfl; rw [List.length_cons]; omega
  | cat_none _ _ => intro t l' e; cases e; exact Nat.le_refl _
  | cat_nbig _ _ => intro t l' e; cases e
  | cat_bad _ _ _ => intro t l' e; cases e
  | cat_ok _ _ _ ih1 ih2 => intro t l' e; exact Nat.le_trans (ih2 _ _ e) (ih1 _ _ rfl)
  | catL_end _ => intro t l' e; cases e; exact Nat.le_refl _
  | catL_bad _ _ _ => intro t l' e; cases e
  | catL_big _ _ _ _ => intro t l' e; cases e
  | catL_more _ _ _ _ ih1 ih2 => intro t l' e; exact Nat.le_trans (ih2 _ _ e) (ih1 _ _ rfl)
  | piece_bad _ _ => intro t l' e; cases e
  | piece_ok _ _ ih1 ih2 => intro t l' e; exact Nat.le_trans (ih2 _ _ e) (ih1 _ _ rfl)
  | pieceL_end _ => intro t l' e; cases e; exact Nat.le_refl _
  | pieceL_big _ _ => intro t l' e; cases e
  | pieceL_more _ _ _ ih => intro t l' e; have := ih _ _ e; rw [List.length_cons]; omega
  | atom_deep _ => intro t l' e; cases e
  | atom_in _ _ _ => intro t l' e; cases e
  | atom_open _ _ _ _ => intro t l' e; cases e
  | atom_ok _ _ ih => intro t l' e; cases e; have := ih _ _ rfl; rw [List.length_cons] at this ⊢; omega
  | atom_leaf _ _ => intro t l' e; cases e; rw [List.length_cons]; omega
  | atom_lbig _ _ => intro t l' e; cases e
  | atom_set _ _ _ _ => intro t l' e; cases e; rw [List.length_drop]; omega
  | atom_sbig _ _ _ _ => intro t l' e; cases e
  | atom_no _ _ _ => intro t l' e; cases e
/-- An atom takes a byte at least, and so does a piece. -/
theorem Ev.lt {J : Job} {d n : Nat} {l : List UInt8} {r : Res} (h : Ev J d n l r) : (J = .atom ∨ J = .piece) → ∀ t l', r = .ok t l' → l'.length < l.length := by
  induction h with
  | piece_ok _ h2 ih1 _ => intro _ t l' e; exact Nat.lt_of_le_of_lt (h2.le _ _ e) (ih1 (.inl rfl) _ _ rfl)
  | atom_ok _ h1 _ => intro _ t l' e; cases e; have := h1.le _ _ rfl; rw [List.length_cons] at this ⊢; omega
  | atom_leaf _ _ => intro _ t l' e; cases e; rw [List.length_cons]; omega
  | atom_set _ _ h _ => intro _ t l' e; cases e; have := listD_le h; rw [List.length_drop]; omega
  | _ => intro hJ t l' e; first | (cases e; done) | (rcases hJ with hJ | hJ <;> cases hJ)

theorem row_rep (xs : List Nd) (a : Tr) (j : Nat) : (xs ++ a.row xs.length) ++ [⟨(j : Int), k0, ((xs ++ a.row xs.length).length : Int) - 1, 0⟩] = xs ++ (Tr.rep j a).row xs.length := by
  show _ = xs ++ (a.row xs.length ++ [⟨(j : Int), k0, (xs.length : Int) + a.size - 1, 0⟩])
  rw [List.length_append, Tr.row_length, List.append_assoc, Int.natCast_add]
theorem row_len (xs : List Nd) (a : Tr) : (xs ++ a.row xs.length).length = xs.length + a.size := by rw [List.length_append, Tr.row_length]
theorem sign_none {l : List UInt8} (h : signH l = none) : l.head? ≠ some 42 ∧ l.head? ≠ some 43 ∧ l.head? ≠ some 63 := by
  cases l with
  | nil => simp
  | cons c l =>
    have h : signK c = none := h
    unfold signK at h
    refine ⟨fun e => ?_, fun e => ?_, fun e => ?_⟩
    all_goals
      simp only [List.head?_cons, Option.some.injEq] at e
      subst e
      revert h
      decide
theorem sign_some {c : UInt8} {j : Nat} (h : signK c = some j) : (c = 42 ∧ j = 4) ∨ (c = 43 ∧ j = 5) ∨ (c = 63 ∧ j = 6) := by
  unfold signK at h
  split at h
  · cases h; exact .inl ⟨by assumption, rfl⟩
  · split at h
    · cases h; exact .inr (.inl ⟨by assumption, rfl⟩)
    · split at h
      · cases h; exact .inr (.inr ⟨by assumption, rfl⟩)
      · cases h

/-- What lies between two rounds of a loop of the reader. -/
structure Between (B p : Nat) (xs : List Nd) (d m : Nat) (w : World) (J : Tr → Job) (r : Res) (k : Nat) (a : Tr) (l : List UInt8) (Z : World) : Prop where
  rdr : Rdr B p (xs ++ a.row xs.length) l d Z
  ev : Ev (J a) d xs.length l r
  le : l.length ≤ m
  k : k = l.length
  below : Below B w Z

set_option maxHeartbeats 1000000 in
set_option maxRecDepth 20000 in
theorem piece_bad' (B p : Nat) (xs : List Nd) (l : List UInt8) (d : Nat) (x : Int) (w : World) (h : Rdr B p xs l d w)
    (k1 : ∀ w, Rdr B p xs l d w → Calls Try.prog 76 #[.pointer (some ⟨p, 0, none⟩)] w fun e w' => e = errV x ∧ Below B w w') :
    Calls Try.prog 67 #[.pointer (some ⟨p, 0, none⟩)] w fun e w' => e = errV x ∧ Below B w w' := by
  have H := Lib.hid h
  clear h
  unfold errV at k1 ⊢
  go_enter Try.func67, Try.ntmps67
  go_wp2_with (first
    | (go_at_call 76; refine (k1 _ H.out).mono ?_; rintro e w1 ⟨rfl, hb1⟩))
  exact ⟨rfl, rfl, hb1⟩

set_option maxHeartbeats 2000000 in
set_option maxRecDepth 20000 in
theorem piece_does (B p m : Nat) (hm : m ≤ 70000000000000) (k0 : Does B p 76 .atom m) : Does B p 67 .piece m := by
  intro xs l d r w hl h hev
  cases hev with
  | piece_bad h1 => exact piece_bad' B p xs l d _ w h fun w h => k0 xs l d _ w hl h h1
  | @piece_ok _ _ _ t l' _ h1 h2 =>
    have k1 := fun w (h : Rdr B p xs l d w) => k0 xs l d _ w hl h h1
    have hl' := h1.le _ _ rfl
    have H := Lib.hid h
    have HE := Lib.hid h2
    clear h h1 h2 k0
    unfold ResP at k1
    go_enter Try.func67, Try.ntmps67
    go_wp2_with (first
      | (go_at_call 76; refine (k1 _ H.out).mono ?_; rintro e w1 ⟨⟨rfl, h1⟩, hb1⟩))
    have H1 := Lib.hid h1
    clear h1 k1
    go_loopg [] (l'.length) (fun k wr => ∃ (a : Tr) (l : List UInt8), Hid (Between B p xs d m w .pieceL r k a l wr))
    case atStart => exact ⟨t, l', ⟨H1.out, HE.out, by omega, rfl, hb1⟩⟩
    case round =>
      obtain ⟨a, s, HI⟩ := hrel
      have hk := HI.out.k
      have hsm := HI.out.le
      have hev := HI.out.ev
      cases hev with
      | pieceL_end hs =>
        obtain ⟨s1, s2, s3⟩ := sign_none hs
        have k42 := fun w (h : Rdr B p (xs ++ a.row xs.length) s d w) => take_noN B p _ 42 42 rfl s d w h s1
        have k43 := fun w (h : Rdr B p (xs ++ a.row xs.length) s d w) => take_noN B p _ 43 43 rfl s d w h s2
        have k63 := fun w (h : Rdr B p (xs ++ a.row xs.length) s d w) => take_noN B p _ 63 63 rfl s d w h s3
        clear hs s1 s2 s3 H HE H1
        go_wp2_with (first
          | (go_at_call 51; first
              | (with_reducible refine (k42 _ HI.out.rdr).mono ?_; rintro e w2 ⟨rfl, rfl⟩)
              | (with_reducible refine (k43 _ HI.out.rdr).mono ?_; rintro e w2 ⟨rfl, rfl⟩)
              | (with_reducible refine (k63 _ HI.out.rdr).mono ?_; rintro e w2 ⟨rfl, rfl⟩)))
        exact bodyPost_ret (results_none rfl _ _ _) rfl ⟨⟨rfl, HI.out.rdr⟩, HI.out.below⟩
      | @pieceL_big _ _ _ c l j hs hn =>
        rw [List.length_cons] at hk hsm
        rcases sign_some hs with ⟨rfl, rfl⟩ | ⟨rfl, rfl⟩ | ⟨rfl, rfl⟩
        · clear hs H HE H1
          have k42 := fun w (h : Rdr B p (xs ++ a.row xs.length) (42 :: l) d w) => take_yesN B p _ 42 42 rfl l d w h (by omega)
          have k3 := fun w (h : Rdr B p (xs ++ a.row xs.length) l d w) => over_big B p _ _ _ 4 w h (by rw [row_len]; exact hn)
          unfold errV at k3
          go_wp2_with (first
            | (go_at_call 51; first
                | (with_reducible refine (k42 _ HI.out.rdr).mono ?_; rintro e w2 ⟨rfl, h2, hb2⟩; have H2 := Lib.hid h2; clear h2))
            | (go_at_call 77; refine (k3 _ H2.out).mono ?_; rintro e w3 ⟨rfl, hb3⟩))
          exact ⟨rfl, rfl, (HI.out.below.trans hb2).trans hb3⟩
        · clear hs H HE H1
          have k42 := fun w (h : Rdr B p (xs ++ a.row xs.length) (43 :: l) d w) => take_noN B p _ 42 42 rfl (43 :: l) d w h (by simp)
          have k43 := fun w (h : Rdr B p (xs ++ a.row xs.length) (43 :: l) d w) => take_yesN B p _ 43 43 rfl l d w h (by omega)
          have k3 := fun w (h : Rdr B p (xs ++ a.row xs.length) l d w) => over_big B p _ _ _ 5 w h (by rw [row_len]; exact hn)
          unfold errV at k3
          go_wp2_with (first
            | (go_at_call 51; first
                | (with_reducible refine (k42 _ HI.out.rdr).mono ?_; rintro e w2 ⟨rfl, rfl⟩)
                | (with_reducible refine (k43 _ HI.out.rdr).mono ?_; rintro e w2 ⟨rfl, h2, hb2⟩; have H2 := Lib.hid h2; clear h2))
            | (go_at_call 77; refine (k3 _ H2.out).mono ?_; rintro e w3 ⟨rfl, hb3⟩))
          exact ⟨rfl, rfl, (HI.out.below.trans hb2).trans hb3⟩
        · clear hs H HE H1
          have k42 := fun w (h : Rdr B p (xs ++ a.row xs.length) (63 :: l) d w) => take_noN B p _ 42 42 rfl (63 :: l) d w h (by simp)
          have k43 := fun w (h : Rdr B p (xs ++ a.row xs.length) (63 :: l) d w) => take_noN B p _ 43 43 rfl (63 :: l) d w h (by simp)
          have k63 := fun w (h : Rdr B p (xs ++ a.row xs.length) (63 :: l) d w) => take_yesN B p _ 63 63 rfl l d w h (by omega)
          have k3 := fun w (h : Rdr B p (xs ++ a.row xs.length) l d w) => over_big B p _ _ _ 6 w h (by rw [row_len]; exact hn)
          unfold errV at k3
          go_wp2_with (first
            | (go_at_call 51; first
                | (with_reducible refine (k42 _ HI.out.rdr).mono ?_; rintro e w2 ⟨rfl, rfl⟩)
                | (with_reducible refine (k43 _ HI.out.rdr).mono ?_; rintro e w2 ⟨rfl, rfl⟩)
                | (with_reducible refine (k63 _ HI.out.rdr).mono ?_; rintro e w2 ⟨rfl, h2, hb2⟩; have H2 := Lib.hid h2; clear h2))
            | (go_at_call 77; refine (k3 _ H2.out).mono ?_; rintro e w3 ⟨rfl, hb3⟩))
          exact ⟨rfl, rfl, (HI.out.below.trans hb2).trans hb3⟩
      | @pieceL_more _ _ _ c l j _ hs hn hev =>
        rw [List.length_cons] at hk hsm
        rcases sign_some hs with ⟨rfl, rfl⟩ | ⟨rfl, rfl⟩ | ⟨rfl, rfl⟩
        · clear hs H HE H1
          have k42 := fun w (h : Rdr B p (xs ++ a.row xs.length) (42 :: l) d w) => take_yesN B p _ 42 42 rfl l d w h (by omega)
          have k3 := fun w (h : Rdr B p (xs ++ a.row xs.length) l d w) => over_ok B p _ _ _ 4 w h (by rw [row_len]; exact hn)
          have HV := Lib.hid hev
          clear hev
          go_wp2_with (first
            | (go_at_call 51; first
                | (with_reducible refine (k42 _ HI.out.rdr).mono ?_; rintro e w2 ⟨rfl, h2, hb2⟩; have H2 := Lib.hid h2; clear h2))
            | (go_at_call 77; refine (k3 _ H2.out).mono ?_; rintro e w3 ⟨rfl, h3, hb3⟩))
          go_roundg (l.length)
          case rel => exact ⟨.rep 4 a, l, ⟨by rw [← row_rep]; exact h3, HV.out, by omega, rfl, (HI.out.below.trans hb2).trans hb3⟩⟩
          case measure => omega
        · clear hs H HE H1
          have k42 := fun w (h : Rdr B p (xs ++ a.row xs.length) (43 :: l) d w) => take_noN B p _ 42 42 rfl (43 :: l) d w h (by simp)
          have k43 := fun w (h : Rdr B p (xs ++ a.row xs.length) (43 :: l) d w) => take_yesN B p _ 43 43 rfl l d w h (by omega)
          have k3 := fun w (h : Rdr B p (xs ++ a.row xs.length) l d w) => over_ok B p _ _ _ 5 w h (by rw [row_len]; exact hn)
          have HV := Lib.hid hev
          clear hev
          go_wp2_with (first
            | (go_at_call 51; first
                | (with_reducible refine (k42 _ HI.out.rdr).mono ?_; rintro e w2 ⟨rfl, rfl⟩)
                | (with_reducible refine (k43 _ HI.out.rdr).mono ?_; rintro e w2 ⟨rfl, h2, hb2⟩; have H2 := Lib.hid h2; clear h2))
            | (go_at_call 77; refine (k3 _ H2.out).mono ?_; rintro e w3 ⟨rfl, h3, hb3⟩))
          go_roundg (l.length)
          case rel => exact ⟨.rep 5 a, l, ⟨by rw [← row_rep]; exact h3, HV.out, by omega, rfl, (HI.out.below.trans hb2).trans hb3⟩⟩
          case measure => omega
        · clear hs H HE H1
          have k42 := fun w (h : Rdr B p (xs ++ a.row xs.length) (63 :: l) d w) => take_noN B p _ 42 42 rfl (63 :: l) d w h (by simp)
          have k43 := fun w (h : Rdr B p (xs ++ a.row xs.length) (63 :: l) d w) => take_noN B p _ 43 43 rfl (63 :: l) d w h (by simp)
          have k63 := fun w (h : Rdr B p (xs ++ a.row xs.length) (63 :: l) d w) => take_yesN B p _ 63 63 rfl l d w h (by omega)
          have k3 := fun w (h : Rdr B p (xs ++ a.row xs.length) l d w) => over_ok B p _ _ _ 6 w h (by rw [row_len]; exact hn)
          have HV := Lib.hid hev
          clear hev
          go_wp2_with (first
            | (go_at_call 51; first
                | (with_reducible refine (k42 _ HI.out.rdr).mono ?_; rintro e w2 ⟨rfl, rfl⟩)
                | (with_reducible refine (k43 _ HI.out.rdr).mono ?_; rintro e w2 ⟨rfl, rfl⟩)
                | (with_reducible refine (k63 _ HI.out.rdr).mono ?_; rintro e w2 ⟨rfl, h2, hb2⟩; have H2 := Lib.hid h2; clear h2))
            | (go_at_call 77; refine (k3 _ H2.out).mono ?_; rintro e w3 ⟨rfl, h3, hb3⟩))
          go_roundg (l.length)
          case rel => exact ⟨.rep 6 a, l, ⟨by rw [← row_rep]; exact h3, HV.out, by omega, rfl, (HI.out.below.trans hb2).trans hb3⟩⟩
          case measure => omega
end Go.Proofs.Ytgokkdalfkinnaa
