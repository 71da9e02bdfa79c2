/- The reader's methods cat and all, and so what reading any text comes to. Condition: the text is shorter than 2^46. -/
import Derived.Test.YtgokkdalfkinnaaRePiece
namespace Go.Proofs.Ytgokkdalfkinnaa
open Go.RowKit Go.Lib

theorem row_len2 (xs : List Nd) (a b : Tr) : ((xs ++ a.row xs.length) ++ b.row (xs ++ a.row xs.length).length).length = xs.length + a.size + b.size := by rw [List.length_append, Tr.row_length, row_len]
theorem row_two (xs : List Nd) (a b : Tr) (j : Nat) : ((xs ++ a.row xs.length) ++ b.row (xs ++ a.row xs.length).length) ++ [⟨(j : Int), k0, ((xs ++ a.row xs.length).length : Int) - 1, ((((xs ++ a.row xs.length) ++ b.row (xs ++ a.row xs.length).length)).length : Int) - 1⟩] = xs ++ (Tr.two j a b).row xs.length := by
  show _ = xs ++ (a.row xs.length ++ (b.row (xs.length + a.size) ++ [⟨j, k0, (xs.length : Int) + a.size - 1, (xs.length : Int) + a.size + b.size - 1⟩]))
  have e1 := row_len2 xs a b
  rw [e1, row_len, Int.natCast_add (xs.length + a.size), Int.natCast_add xs.length, List.append_assoc, List.append_assoc]
theorem begins_pos {l : List UInt8} (h : begins l = true) : 1 ≤ l.length := by
  cases l with
  | nil => cases h
  | cons _ _ => simp

set_option maxHeartbeats 1000000 in
set_option maxRecDepth 20000 in
theorem cat_bad' (B p : Nat) (xs : List Nd) (l : List UInt8) (d : Nat) (x : Int) (w : World) (h : Rdr B p xs l d w) (hb : begins l = true)
    (k1 : ∀ w, Rdr B p xs l d w → Calls Try.prog 67 #[.pointer (some ⟨p, 0, none⟩)] w fun e w' => e = errV x ∧ Below B w w') :
    Calls Try.prog 50 #[.pointer (some ⟨p, 0, none⟩)] w fun e w' => e = errV x ∧ Below B w w' := by
  have kb := fun w (h : Rdr B p xs l d w) => begins_any B p xs l d w h
  rw [hb] at kb
  have H := Lib.hid h
  clear h
  unfold errV at k1 ⊢
  go_enter Try.func50, Try.ntmps50
  go_wp2_with (first
    | (go_at_call 66; refine (kb _ H.out).mono ?_; rintro e w1 ⟨rfl, rfl⟩)
    | (go_at_call 67; refine (k1 _ H.out).mono ?_; rintro e w1 ⟨rfl, hb1⟩))
  exact ⟨rfl, rfl, hb1⟩
set_option maxHeartbeats 1000000 in
set_option maxRecDepth 20000 in
theorem cat_none_ok (B p : Nat) (xs : List Nd) (l : List UInt8) (d : Nat) (w : World) (h : Rdr B p xs l d w) (hb : begins l = false) (hn : xs.length < 2000) :
    Calls Try.prog 50 #[.pointer (some ⟨p, 0, none⟩)] w fun e w' => (e = .returned (.tuple #[]) ∧ Rdr B p (xs ++ (Tr.leaf 0).row xs.length) l d w') ∧ Below B w w' := by
  have kb := fun w (h : Rdr B p xs l d w) => begins_any B p xs l d w h
  rw [hb] at kb
  have k3 := fun w (h : Rdr B p xs l d w) => leaf_ok B p _ _ xs 0 w h hn
  have H := Lib.hid h
  clear h
  go_enter Try.func50, Try.ntmps50
  go_wp2_with (first
    | (go_at_call 66; refine (kb _ H.out).mono ?_; rintro e w1 ⟨rfl, rfl⟩)
    | (go_at_call 30; refine (k3 _ H.out).mono ?_; rintro e w2 ⟨rfl, h2, hb2⟩))
  exact bodyPost_ret (results_none rfl _ _ _) rfl ⟨⟨rfl, h2⟩, hb2⟩
set_option maxHeartbeats 1000000 in
set_option maxRecDepth 20000 in
theorem cat_none_big (B p : Nat) (xs : List Nd) (l : List UInt8) (d : Nat) (w : World) (h : Rdr B p xs l d w) (hb : begins l = false) (hn : 2000 ≤ xs.length) :
    Calls Try.prog 50 #[.pointer (some ⟨p, 0, none⟩)] w fun e w' => e = errV 6 ∧ Below B w w' := by
  have kb := fun w (h : Rdr B p xs l d w) => begins_any B p xs l d w h
  rw [hb] at kb
  have k3 := fun w (h : Rdr B p xs l d w) => leaf_big B p _ _ xs 0 w h hn
  have H := Lib.hid h
  clear h
  unfold errV at k3 ⊢
  go_enter Try.func50, Try.ntmps50
  go_wp2_with (first
    | (go_at_call 66; refine (kb _ H.out).mono ?_; rintro e w1 ⟨rfl, rfl⟩)
    | (go_at_call 30; refine (k3 _ H.out).mono ?_; rintro e w2 ⟨rfl, hb2⟩))
  exact ⟨rfl, rfl, hb2⟩

set_option maxHeartbeats 2000000 in
set_option maxRecDepth 20000 in
theorem cat_does (B p m : Nat) (hm : m ≤ 70000000000000) (k0 : Does B p 67 .piece m) : Does B p 50 .cat m := by
  intro xs l d r w hl h hev
  cases hev with
  | cat_none hb hn => exact cat_none_ok B p xs l d w h hb hn
  | cat_nbig hb hn => exact cat_none_big B p xs l d w h hb hn
  | cat_bad hb h1 => exact cat_bad' B p xs l d _ w h hb fun w h => k0 xs l d _ w hl h h1
  | @cat_ok _ _ _ t l' _ hb h1 h2 =>
    have kb := fun w (h : Rdr B p xs l d w) => begins_any B p xs l d w h
    rw [hb] at kb
    have k1 := fun w (h : Rdr B p xs l d w) => k0 xs l d _ w hl h h1
    have hl' := h1.le _ _ rfl
    have H := Lib.hid h
    have HE := Lib.hid h2
    have HK0 := Lib.hid k0
    clear h h1 h2 k0
    unfold ResP at k1
    go_enter Try.func50, Try.ntmps50
    go_wp2_with (first
      | (go_at_call 66; refine (kb _ H.out).mono ?_; rintro e w1 ⟨rfl, hw1⟩; replace hw1 := hw1.symm; subst hw1)
      | (go_at_call 67; refine (k1 _ H.out).mono ?_; rintro e w1 ⟨⟨rfl, h1⟩, hb1⟩))
    have H1 := Lib.hid h1
    clear h1 k1 kb
    go_loopg [] (l'.length) (fun k wr => ∃ (a : Tr) (l : List UInt8), Hid (Between B p xs d m w .catL r k a l wr))
    case atStart => exact ⟨t, l', ⟨H1.out, HE.out, by omega, rfl, hb1⟩⟩
    case round =>
      obtain ⟨a, s, HI⟩ := hrel
      have hk := HI.out.k
      have hsm := HI.out.le
      have hev := HI.out.ev
      have hrd := HI.out.rdr
      have hbl := HI.out.below
      obtain ⟨ys, hys⟩ : ∃ ys, ys = xs ++ a.row xs.length := ⟨_, rfl⟩
      have hyl : ys.length = xs.length + a.size := by rw [hys, row_len]
      obtain ⟨left, hleft⟩ : ∃ left : Int, left = (ys.length : Int) - 1 := ⟨_, rfl⟩
      rw [← hys] at hrd
      have HR := Lib.hid hrd
      have HB := Lib.hid hbl
      have HY := Lib.hid hys
      have HYL := Lib.hid hyl
      have HL := Lib.hid hleft
      have ka : ∀ w, Rdr B p ys s d w → Calls Try.prog 31 #[.pointer (some ⟨p, 0, none⟩)] w fun e w' => e = .returned (.int .i64 left) ∧ w' = w := fun w h => by
        rw [hleft]
        exact last_any B p _ _ ys w h
      clear hrd hbl hys hyl hleft
      cases hev with
      | catL_end hs =>
        have kb := fun w (h : Rdr B p ys s d w) => begins_any B p _ s d w h
        rw [hs] at kb
        clear H HE H1
        go_wp2_with (first
          | (go_at_call 66; refine (kb _ HR.out).mono ?_; rintro e w2 ⟨rfl, rfl⟩))
        go_end0
        exact ⟨⟨rfl, by have h := HR.out; rw [HY.out] at h; exact h⟩, HB.out⟩
      | @catL_bad _ _ _ _ _ hs hp =>
        have kb := fun w (h : Rdr B p ys s d w) => begins_any B p _ s d w h
        rw [hs] at kb
        have kp := fun w (h : Rdr B p ys s d w) => HK0.out ys s d _ w (by omega) h (by rw [HYL.out]; exact hp)
        unfold ResP errV at kp
        clear H HE H1 hp
        go_wp2_with (first
          | (go_at_call 66; refine (kb _ HR.out).mono ?_; rintro e w2 ⟨rfl, rfl⟩; have H2 := HR; have HB2 := HB.out)
          | (go_at_call 31; refine (ka _ H2.out).mono ?_; rintro e w3 ⟨rfl, rfl⟩)
          | (go_at_call 67; refine (kp _ H2.out).mono ?_; rintro e w4 ⟨rfl, hb4⟩))
        exact ⟨rfl, rfl, HB2.trans hb4⟩
      | @catL_big _ _ _ _ b l2 hs hp hn =>
        have kb := fun w (h : Rdr B p ys s d w) => begins_any B p _ s d w h
        rw [hs] at kb
        have hlt := hp.lt (.inr rfl) _ _ rfl
        have kp : ∀ w, Rdr B p ys s d w → Calls Try.prog 67 #[.pointer (some ⟨p, 0, none⟩)] w fun e w' => (e = .returned (.tuple #[]) ∧ Rdr B p (ys ++ b.row ys.length) l2 d w') ∧ Below B w w' := fun w h => HK0.out ys s d (.ok b l2) w (by omega) h (by rw [HYL.out]; exact hp)
        obtain ⟨zs, hzs⟩ : ∃ zs, zs = ys ++ b.row ys.length := ⟨_, rfl⟩
        have hzl : zs.length = xs.length + a.size + b.size := by rw [hzs, List.length_append, Tr.row_length, HYL.out]
        rw [← hzs] at kp
        have HZ := Lib.hid hzs
        have kq := fun w (h : Rdr B p zs l2 d w) => pair_big B p _ _ zs 2 left w h (by rw [hzl]; exact hn)
        clear hzs hzl
        clear H HE H1 hp
        unfold errV at kq
        go_wp2_with (first
          | (go_at_call 66; refine (kb _ HR.out).mono ?_; rintro e w2 ⟨rfl, rfl⟩; have H2 := HR; have HB2 := HB.out)
          | (go_at_call 31; refine (ka _ H2.out).mono ?_; rintro e w3 ⟨rfl, rfl⟩)
          | (go_at_call 67; refine (kp _ H2.out).mono ?_; rintro e w4 ⟨⟨rfl, h4⟩, hb4⟩; have H4 := Lib.hid h4; clear h4)
          | (go_at_call 34; refine (kq _ H4.out).mono ?_; rintro e w5 ⟨rfl, hb5⟩))
        exact ⟨rfl, rfl, (HB2.trans hb4).trans hb5⟩
      | @catL_more _ _ _ _ b l2 _ hs hp hn hev =>
        have kb := fun w (h : Rdr B p ys s d w) => begins_any B p _ s d w h
        rw [hs] at kb
        have hlt := hp.lt (.inr rfl) _ _ rfl
        have kp : ∀ w, Rdr B p ys s d w → Calls Try.prog 67 #[.pointer (some ⟨p, 0, none⟩)] w fun e w' => (e = .returned (.tuple #[]) ∧ Rdr B p (ys ++ b.row ys.length) l2 d w') ∧ Below B w w' := fun w h => HK0.out ys s d (.ok b l2) w (by omega) h (by rw [HYL.out]; exact hp)
        obtain ⟨zs, hzs⟩ : ∃ zs, zs = ys ++ b.row ys.length := ⟨_, rfl⟩
        have hzl : zs.length = xs.length + a.size + b.size := by rw [hzs, List.length_append, Tr.row_length, HYL.out]
        rw [← hzs] at kp
        have HZ := Lib.hid hzs
        have kq := fun w (h : Rdr B p zs l2 d w) => pair_ok B p _ _ zs 2 left w h (by rw [hzl]; exact hn)
        clear hzs hzl
        clear H HE H1 hp
        have HV := Lib.hid hev
        clear hev
        go_wp2_with (first
          | (go_at_call 66; refine (kb _ HR.out).mono ?_; rintro e w2 ⟨rfl, rfl⟩; have H2 := HR; have HB2 := HB.out)
          | (go_at_call 31; refine (ka _ H2.out).mono ?_; rintro e w3 ⟨rfl, rfl⟩)
          | (go_at_call 67; refine (kp _ H2.out).mono ?_; rintro e w4 ⟨⟨rfl, h4⟩, hb4⟩; have H4 := Lib.hid h4; clear h4)
          | (go_at_call 34; refine (kq _ H4.out).mono ?_; rintro e w5 ⟨rfl, h5, hb5⟩))
        go_roundg (l2.length)
        case rel => exact ⟨.two 2 a b, l2, ⟨by have h := h5; rw [HZ.out, HL.out, HY.out] at h; exact (congrArg (fun q => Rdr B p q l2 d w5) (row_two xs a b 2)).mp h, HV.out, by omega, rfl, (HB2.trans hb4).trans hb5⟩⟩
        case measure => omega
set_option maxHeartbeats 1000000 in
set_option maxRecDepth 20000 in
theorem all_bad' (B p : Nat) (xs : List Nd) (l : List UInt8) (d : Nat) (x : Int) (w : World) (h : Rdr B p xs l d w)
    (k1 : ∀ w, Rdr B p xs l d w → Calls Try.prog 50 #[.pointer (some ⟨p, 0, none⟩)] w fun e w' => e = errV x ∧ Below B w w') :
    Calls Try.prog 25 #[.pointer (some ⟨p, 0, none⟩)] w fun e w' => e = errV x ∧ Below B w w' := by
  have H := Lib.hid h
  clear h
  unfold errV at k1 ⊢
  go_enter Try.func25, Try.ntmps25
  go_wp2_with (first
    | (go_at_call 50; refine (k1 _ H.out).mono ?_; rintro e w1 ⟨rfl, hb1⟩))
  exact ⟨rfl, rfl, hb1⟩

set_option maxHeartbeats 2000000 in
set_option maxRecDepth 20000 in
theorem all_does (B p m : Nat) (hm : m ≤ 70000000000000) (k0 : Does B p 50 .cat m) : Does B p 25 .all m := by
  intro xs l d r w hl h hev
  cases hev with
  | all_bad h1 => exact all_bad' B p xs l d _ w h fun w h => k0 xs l d _ w hl h h1
  | @all_ok _ _ _ t l' _ h1 h2 =>
    have k1 := fun w (h : Rdr B p xs l d w) => k0 xs l d _ w hl h h1
    have hl' := h1.le _ _ rfl
    have H := Lib.hid h
    have HE := Lib.hid h2
    have HK0 := Lib.hid k0
    clear h h1 h2 k0
    unfold ResP at k1
    go_enter Try.func25, Try.ntmps25
    go_wp2_with (first
      | (go_at_call 50; refine (k1 _ H.out).mono ?_; rintro e w1 ⟨⟨rfl, h1⟩, hb1⟩))
    have H1 := Lib.hid h1
    clear h1 k1
    go_loopg [] (l'.length) (fun k wr => ∃ (a : Tr) (l : List UInt8), Hid (Between B p xs d m w .allL r k a l wr))
    case atStart => exact ⟨t, l', ⟨H1.out, HE.out, by omega, rfl, hb1⟩⟩
    case round =>
      obtain ⟨a, s, HI⟩ := hrel
      have hk := HI.out.k
      have hsm := HI.out.le
      have hev := HI.out.ev
      have hrd := HI.out.rdr
      have hbl := HI.out.below
      obtain ⟨ys, hys⟩ : ∃ ys, ys = xs ++ a.row xs.length := ⟨_, rfl⟩
      have hyl : ys.length = xs.length + a.size := by rw [hys, row_len]
      obtain ⟨left, hleft⟩ : ∃ left : Int, left = (ys.length : Int) - 1 := ⟨_, rfl⟩
      rw [← hys] at hrd
      have HR := Lib.hid hrd
      have HB := Lib.hid hbl
      have HY := Lib.hid hys
      have HYL := Lib.hid hyl
      have HL := Lib.hid hleft
      have ka : ∀ w, Rdr B p ys s d w → Calls Try.prog 31 #[.pointer (some ⟨p, 0, none⟩)] w fun e w' => e = .returned (.int .i64 left) ∧ w' = w := fun w h => by
        rw [hleft]
        exact last_any B p _ _ ys w h
      clear hrd hbl hys hyl hleft
      cases hev with
      | allL_end hs =>
        have kt := fun w (h : Rdr B p ys s d w) => take_noN B p _ 124 124 rfl s d w h hs
        clear H HE H1
        go_wp2_with (first
          | (go_at_call 51; with_reducible refine (kt _ HR.out).mono ?_; rintro e w2 ⟨rfl, rfl⟩))
        go_end0
        exact ⟨⟨rfl, by have h := HR.out; rw [HY.out] at h; exact h⟩, HB.out⟩
      | @allL_bad _ _ _ s _ hp =>
        rw [List.length_cons] at hk hsm
        have kt := fun w (h : Rdr B p ys (124 :: s) d w) => take_yesN B p _ 124 124 rfl s d w h (by omega)
        have ka : ∀ w, Rdr B p ys s d w → Calls Try.prog 31 #[.pointer (some ⟨p, 0, none⟩)] w fun e w' => e = .returned (.int .i64 left) ∧ w' = w := fun w h => by rw [HL.out]; exact last_any B p _ _ ys w h
        have kp := fun w (h : Rdr B p ys s d w) => HK0.out ys s d _ w (by omega) h (by rw [HYL.out]; exact hp)
        unfold ResP errV at kp
        clear H HE H1 hp
        go_wp2_with (first
          | (go_at_call 51; with_reducible refine (kt _ HR.out).mono ?_; rintro e w2 ⟨rfl, h2, hb2⟩; have H2 := Lib.hid h2; clear h2; have HB2 := HB.out.trans hb2)
          | (go_at_call 31; refine (ka _ H2.out).mono ?_; rintro e w3 ⟨rfl, rfl⟩)
          | (go_at_call 50; refine (kp _ H2.out).mono ?_; rintro e w4 ⟨rfl, hb4⟩))
        exact ⟨rfl, rfl, HB2.trans hb4⟩
      | @allL_big _ _ _ s b l2 hp hn =>
        rw [List.length_cons] at hk hsm
        have kt := fun w (h : Rdr B p ys (124 :: s) d w) => take_yesN B p _ 124 124 rfl s d w h (by omega)
        have ka : ∀ w, Rdr B p ys s d w → Calls Try.prog 31 #[.pointer (some ⟨p, 0, none⟩)] w fun e w' => e = .returned (.int .i64 left) ∧ w' = w := fun w h => by rw [HL.out]; exact last_any B p _ _ ys w h
        have hlt := hp.le _ _ rfl
        have kp : ∀ w, Rdr B p ys s d w → Calls Try.prog 50 #[.pointer (some ⟨p, 0, none⟩)] w fun e w' => (e = .returned (.tuple #[]) ∧ Rdr B p (ys ++ b.row ys.length) l2 d w') ∧ Below B w w' := fun w h => HK0.out ys s d (.ok b l2) w (by omega) h (by rw [HYL.out]; exact hp)
        obtain ⟨zs, hzs⟩ : ∃ zs, zs = ys ++ b.row ys.length := ⟨_, rfl⟩
        have hzl : zs.length = xs.length + a.size + b.size := by rw [hzs, List.length_append, Tr.row_length, HYL.out]
        rw [← hzs] at kp
        have HZ := Lib.hid hzs
        have kq := fun w (h : Rdr B p zs l2 d w) => pair_big B p _ _ zs 3 left w h (by rw [hzl]; exact hn)
        clear hzs hzl
        clear H HE H1 hp
        unfold errV at kq
        go_wp2_with (first
          | (go_at_call 51; with_reducible refine (kt _ HR.out).mono ?_; rintro e w2 ⟨rfl, h2, hb2⟩; have H2 := Lib.hid h2; clear h2; have HB2 := HB.out.trans hb2)
          | (go_at_call 31; refine (ka _ H2.out).mono ?_; rintro e w3 ⟨rfl, rfl⟩)
          | (go_at_call 50; refine (kp _ H2.out).mono ?_; rintro e w4 ⟨⟨rfl, h4⟩, hb4⟩; have H4 := Lib.hid h4; clear h4)
          | (go_at_call 34; refine (kq _ H4.out).mono ?_; rintro e w5 ⟨rfl, hb5⟩))
        exact ⟨rfl, rfl, (HB2.trans hb4).trans hb5⟩
      | @allL_more _ _ _ s b l2 _ hp hn hev =>
        rw [List.length_cons] at hk hsm
        have kt := fun w (h : Rdr B p ys (124 :: s) d w) => take_yesN B p _ 124 124 rfl s d w h (by omega)
        have ka : ∀ w, Rdr B p ys s d w → Calls Try.prog 31 #[.pointer (some ⟨p, 0, none⟩)] w fun e w' => e = .returned (.int .i64 left) ∧ w' = w := fun w h => by rw [HL.out]; exact last_any B p _ _ ys w h
        have hlt := hp.le _ _ rfl
        have kp : ∀ w, Rdr B p ys s d w → Calls Try.prog 50 #[.pointer (some ⟨p, 0, none⟩)] w fun e w' => (e = .returned (.tuple #[]) ∧ Rdr B p (ys ++ b.row ys.length) l2 d w') ∧ Below B w w' := fun w h => HK0.out ys s d (.ok b l2) w (by omega) h (by rw [HYL.out]; exact hp)
        obtain ⟨zs, hzs⟩ : ∃ zs, zs = ys ++ b.row ys.length := ⟨_, rfl⟩
        have hzl : zs.length = xs.length + a.size + b.size := by rw [hzs, List.length_append, Tr.row_length, HYL.out]
        rw [← hzs] at kp
        have HZ := Lib.hid hzs
        have kq := fun w (h : Rdr B p zs l2 d w) => pair_ok B p _ _ zs 3 left w h (by rw [hzl]; exact hn)
        clear hzs hzl
        clear H HE H1 hp
        have HV := Lib.hid hev
        clear hev
        go_wp2_with (first
          | (go_at_call 51; with_reducible refine (kt _ HR.out).mono ?_; rintro e w2 ⟨rfl, h2, hb2⟩; have H2 := Lib.hid h2; clear h2; have HB2 := HB.out.trans hb2)
          | (go_at_call 31; refine (ka _ H2.out).mono ?_; rintro e w3 ⟨rfl, rfl⟩)
          | (go_at_call 50; refine (kp _ H2.out).mono ?_; rintro e w4 ⟨⟨rfl, h4⟩, hb4⟩; have H4 := Lib.hid h4; clear h4)
          | (go_at_call 34; refine (kq _ H4.out).mono ?_; rintro e w5 ⟨rfl, h5, hb5⟩))
        go_roundg (l2.length)
        case rel => exact ⟨.two 3 a b, l2, ⟨by have h := h5; rw [HZ.out, HL.out, HY.out] at h; exact (congrArg (fun q => Rdr B p q l2 d w5) (row_two xs a b 3)).mp h, HV.out, by omega, rfl, (HB2.trans hb4).trans hb5⟩⟩
        case measure => omega

theorem leaf_some {c : UInt8} {t : Tr} (h : leafK c = some t) : (c = 46 ∧ t = .set kPoint) ∨ (c = 94 ∧ t = .leaf 7) ∨ (c = 36 ∧ t = .leaf 8) := by
  unfold leafK at h
  split at h
  · cases h; exact .inl ⟨by assumption, rfl⟩
  · split at h
    · cases h; exact .inr (.inl ⟨by assumption, rfl⟩)
    · split at h
      · cases h; exact .inr (.inr ⟨by assumption, rfl⟩)
      · cases h
theorem leaf_none {l : List UInt8} (h : (l.head?.bind leafK) = none) : l.head? ≠ some 46 ∧ l.head? ≠ some 94 ∧ l.head? ≠ some 36 := by
  cases l with
  | nil => simp
  | cons c l =>
    have h : leafK c = none := h
    refine ⟨fun e => ?_, fun e => ?_, fun e => ?_⟩
    all_goals
      simp only [List.head?_cons, Option.some.injEq] at e
      subst e
      revert h
      unfold leafK
      simp
theorem atom_does (B p m : Nat) (hm : m ≤ 70000000000000) (ih : ∀ j, j < m → Does B p 25 .all j) : Does B p 76 .atom m := by
  intro xs l d r w hl h hev
  cases hev with
  | @atom_deep _ _ l hd =>
    rw [List.length_cons] at hl
    exact atom_in B p xs l d _ w h (by omega) fun w h => within_deep B p xs l w (by rw [← hd]; exact h)
  | @atom_in _ _ l _ hd h1 =>
    rw [List.length_cons] at hl
    exact atom_in B p xs l d _ w h (by omega) fun w h => within_bad B p xs l d _ w h hd fun w h => ih l.length (by omega) xs l (d + 1) _ w (Nat.le_refl _) h h1
  | @atom_open _ _ l t l' hd h1 hh =>
    rw [List.length_cons] at hl
    exact atom_in B p xs l d _ w h (by omega) fun w h => within_open B p xs _ l l' d w h hd hh fun w h => ih l.length (by omega) xs l (d + 1) _ w (Nat.le_refl _) h h1
  | @atom_ok _ _ l t l' hd h1 =>
    rw [List.length_cons] at hl
    have := h1.le _ _ rfl
    rw [List.length_cons] at this
    exact atom_in B p xs l d _ w h (by omega) fun w h => within_ok B p xs _ l l' d w h hd (by omega) fun w h => ih l.length (by omega) xs l (d + 1) _ w (Nat.le_refl _) h h1
  | @atom_leaf _ _ c l t ht hn =>
    rw [List.length_cons] at hl
    rcases leaf_some ht with ⟨rfl, rfl⟩ | ⟨rfl, rfl⟩ | ⟨rfl, rfl⟩
    · exact (atom_point B p xs l d w h (by omega)).1 hn
    · exact (atom_begin B p xs l d w h (by omega)).1 hn
    · exact (atom_end B p xs l d w h (by omega)).1 hn
  | @atom_lbig _ _ c l t ht hn =>
    rw [List.length_cons] at hl
    rcases leaf_some ht with ⟨rfl, rfl⟩ | ⟨rfl, rfl⟩ | ⟨rfl, rfl⟩
    · exact (atom_point B p xs l d w h (by omega)).2 hn
    · exact (atom_begin B p xs l d w h (by omega)).2 hn
    · exact (atom_end B p xs l d w h (by omega)).2 hn
  | @atom_set _ _ _ k j h40 hb hD hn =>
    obtain ⟨h46, h94, h36⟩ := leaf_none hb
    exact (atom_listed B p xs l d w h (by omega) h40 h46 h94 h36 k j hD).1 hn
  | @atom_sbig _ _ _ k j h40 hb hD hn =>
    obtain ⟨h46, h94, h36⟩ := leaf_none hb
    exact (atom_listed B p xs l d w h (by omega) h40 h46 h94 h36 k j hD).2 hn
  | atom_no h40 hb hD =>
    obtain ⟨h46, h94, h36⟩ := leaf_none hb
    exact atom_no B p xs l d w h (by omega) h40 h46 h94 h36 hD
theorem all_any (B p : Nat) : ∀ m, m ≤ 70000000000000 → Does B p 25 .all m := by
  intro m
  induction m using Nat.strongRecOn with
  | ind m ih =>
    intro hm
    exact all_does B p m hm (cat_does B p m hm (piece_does B p m hm (atom_does B p m hm fun j hj => ih j hj (by omega))))
end Go.Proofs.Ytgokkdalfkinnaa
