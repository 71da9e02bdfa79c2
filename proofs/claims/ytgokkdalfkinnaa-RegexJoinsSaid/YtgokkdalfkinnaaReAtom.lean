/- The reader's method atom, given what 'all' comes to at shorter texts. Condition: the text is shorter than 2^46. -/
import Derived.Test.YtgokkdalfkinnaaReWithin
namespace Go.Proofs.Ytgokkdalfkinnaa
open Go.RowKit Go.Lib

theorem take_yesN (B p : Nat) (xs : List Nd) (x : Int) (c : UInt8) (hx : (c.toNat : Int) = x) (l : List UInt8) (d : Nat) (w : World) (h : Rdr B p xs (c :: l) d w) (hl : l.length ≤ 4611686018427387904) :
    Calls Try.prog 51 #[.pointer (some ⟨p, 0, none⟩), .int .u8 x] w fun e w' => e = .returned (.bool true) ∧ Rdr B p xs l d w' ∧ Below B w w' := by
  rw [← hx]
  exact take_yes B p xs c l d w h hl
theorem take_noN (B p : Nat) (xs : List Nd) (x : Int) (c : UInt8) (hx : (c.toNat : Int) = x) (l : List UInt8) (d : Nat) (w : World) (h : Rdr B p xs l d w) (hc : l.head? ≠ some c) :
    Calls Try.prog 51 #[.pointer (some ⟨p, 0, none⟩), .int .u8 x] w fun e w' => e = .returned (.bool false) ∧ w' = w := by
  rw [← hx]
  exact take_no B p xs c l d w h hc

set_option maxHeartbeats 1000000 in
set_option maxRecDepth 20000 in
theorem atom_in (B p : Nat) (xs : List Nd) (l : List UInt8) (d : Nat) (r : Res) (w : World) (h : Rdr B p xs (40 :: l) d w) (hl : l.length ≤ 70000000000000)
    (k1 : ∀ w, Rdr B p xs l d w → Calls Try.prog 84 #[.pointer (some ⟨p, 0, none⟩)] w fun e w' => ResP B p xs d r e w' ∧ Below B w w') :
    Calls Try.prog 76 #[.pointer (some ⟨p, 0, none⟩)] w fun e w' => ResP B p xs d r e w' ∧ Below B w w' := by
  have k0 := fun w (h : Rdr B p xs (40 :: l) d w) => take_yes B p xs 40 l d w h (by omega)
  have H := Lib.hid h
  clear h
  cases r with
  | ok t l' =>
    unfold ResP at k1 ⊢
    go_enter Try.func76, Try.ntmps76
    go_wp2_with (first
      | (go_at_call 51; refine (k0 _ H.out).mono ?_; rintro e w1 ⟨rfl, h1, hb1⟩; have H1 := Lib.hid h1; clear h1)
      | (go_at_call 84; refine (k1 _ H1.out).mono ?_; rintro e w2 ⟨⟨rfl, h2⟩, hb2⟩))
    go_end0
    exact ⟨⟨rfl, h2⟩, hb1.trans hb2⟩
  | bad x =>
    unfold ResP errV at k1 ⊢
    go_enter Try.func76, Try.ntmps76
    go_wp2_with (first
      | (go_at_call 51; refine (k0 _ H.out).mono ?_; rintro e w1 ⟨rfl, h1, hb1⟩; have H1 := Lib.hid h1; clear h1)
      | (go_at_call 84; refine (k1 _ H1.out).mono ?_; rintro e w2 ⟨rfl, hb2⟩))
    exact ⟨rfl, rfl, hb1.trans hb2⟩

set_option maxHeartbeats 1000000 in
set_option maxRecDepth 20000 in
theorem atom_begin (B p : Nat) (xs : List Nd) (l : List UInt8) (d : Nat) (w : World) (h : Rdr B p xs (94 :: l) d w) (hl : l.length ≤ 70000000000000) :
    (xs.length < 2000 → Calls Try.prog 76 #[.pointer (some ⟨p, 0, none⟩)] w fun e w' => ResP B p xs d (.ok (.leaf 7) l) e w' ∧ Below B w w') ∧
    (2000 ≤ xs.length → Calls Try.prog 76 #[.pointer (some ⟨p, 0, none⟩)] w fun e w' => ResP B p xs d (.bad 6) e w' ∧ Below B w w') := by
  have k40 := fun w (h : Rdr B p xs (94 :: l) d w) => take_noN B p xs 40 40 rfl (94 :: l) d w h (by simp)
  have k46 := fun w (h : Rdr B p xs (94 :: l) d w) => take_noN B p xs 46 46 rfl (94 :: l) d w h (by simp)
  have k94 := fun w (h : Rdr B p xs (94 :: l) d w) => take_yesN B p xs 94 94 rfl l d w h (by omega)
  have H := Lib.hid h
  clear h
  constructor
  · intro hn
    have k3 := fun w (h : Rdr B p xs l d w) => leaf_ok B p _ _ xs 7 w h hn
    unfold ResP
    go_enter Try.func76, Try.ntmps76
    go_wp2_with (first
      | (go_at_call 51; first
          | (with_reducible refine (k40 _ H.out).mono ?_; rintro e w1 ⟨rfl, rfl⟩)
          | (with_reducible refine (k46 _ H.out).mono ?_; rintro e w1 ⟨rfl, rfl⟩)
          | (with_reducible refine (k94 _ H.out).mono ?_; rintro e w1 ⟨rfl, h1, hb1⟩; have H1 := Lib.hid h1; clear h1))
      | (go_at_call 30; refine (k3 _ H1.out).mono ?_; rintro e w2 ⟨rfl, h2, hb2⟩))
    go_end0
    exact ⟨⟨rfl, h2⟩, hb1.trans hb2⟩
  · intro hn
    have k3 := fun w (h : Rdr B p xs l d w) => leaf_big B p _ _ xs 7 w h hn
    unfold ResP errV
    unfold errV at k3
    go_enter Try.func76, Try.ntmps76
    go_wp2_with (first
      | (go_at_call 51; first
          | (with_reducible refine (k40 _ H.out).mono ?_; rintro e w1 ⟨rfl, rfl⟩)
          | (with_reducible refine (k46 _ H.out).mono ?_; rintro e w1 ⟨rfl, rfl⟩)
          | (with_reducible refine (k94 _ H.out).mono ?_; rintro e w1 ⟨rfl, h1, hb1⟩; have H1 := Lib.hid h1; clear h1))
      | (go_at_call 30; refine (k3 _ H1.out).mono ?_; rintro e w2 ⟨rfl, hb2⟩))
    exact ⟨rfl, rfl, hb1.trans hb2⟩
set_option maxHeartbeats 1000000 in
set_option maxRecDepth 20000 in
theorem atom_end (B p : Nat) (xs : List Nd) (l : List UInt8) (d : Nat) (w : World) (h : Rdr B p xs (36 :: l) d w) (hl : l.length ≤ 70000000000000) :
    (xs.length < 2000 → Calls Try.prog 76 #[.pointer (some ⟨p, 0, none⟩)] w fun e w' => ResP B p xs d (.ok (.leaf 8) l) e w' ∧ Below B w w') ∧
    (2000 ≤ xs.length → Calls Try.prog 76 #[.pointer (some ⟨p, 0, none⟩)] w fun e w' => ResP B p xs d (.bad 6) e w' ∧ Below B w w') := by
  have k40 := fun w (h : Rdr B p xs (36 :: l) d w) => take_noN B p xs 40 40 rfl (36 :: l) d w h (by simp)
  have k46 := fun w (h : Rdr B p xs (36 :: l) d w) => take_noN B p xs 46 46 rfl (36 :: l) d w h (by simp)
  have k94 := fun w (h : Rdr B p xs (36 :: l) d w) => take_noN B p xs 94 94 rfl (36 :: l) d w h (by simp)
  have k36 := fun w (h : Rdr B p xs (36 :: l) d w) => take_yesN B p xs 36 36 rfl l d w h (by omega)
  have H := Lib.hid h
  clear h
  constructor
  · intro hn
    have k3 := fun w (h : Rdr B p xs l d w) => leaf_ok B p _ _ xs 8 w h hn
    unfold ResP
    go_enter Try.func76, Try.ntmps76
    go_wp2_with (first
      | (go_at_call 51; first
          | (with_reducible refine (k40 _ H.out).mono ?_; rintro e w1 ⟨rfl, rfl⟩)
          | (with_reducible refine (k46 _ H.out).mono ?_; rintro e w1 ⟨rfl, rfl⟩)
          | (with_reducible refine (k94 _ H.out).mono ?_; rintro e w1 ⟨rfl, rfl⟩)
          | (with_reducible refine (k36 _ H.out).mono ?_; rintro e w1 ⟨rfl, h1, hb1⟩; have H1 := Lib.hid h1; clear h1))
      | (go_at_call 30; refine (k3 _ H1.out).mono ?_; rintro e w2 ⟨rfl, h2, hb2⟩))
    go_end0
    exact ⟨⟨rfl, h2⟩, hb1.trans hb2⟩
  · intro hn
    have k3 := fun w (h : Rdr B p xs l d w) => leaf_big B p _ _ xs 8 w h hn
    unfold ResP errV
    unfold errV at k3
    go_enter Try.func76, Try.ntmps76
    go_wp2_with (first
      | (go_at_call 51; first
          | (with_reducible refine (k40 _ H.out).mono ?_; rintro e w1 ⟨rfl, rfl⟩)
          | (with_reducible refine (k46 _ H.out).mono ?_; rintro e w1 ⟨rfl, rfl⟩)
          | (with_reducible refine (k94 _ H.out).mono ?_; rintro e w1 ⟨rfl, rfl⟩)
          | (with_reducible refine (k36 _ H.out).mono ?_; rintro e w1 ⟨rfl, h1, hb1⟩; have H1 := Lib.hid h1; clear h1))
      | (go_at_call 30; refine (k3 _ H1.out).mono ?_; rintro e w2 ⟨rfl, hb2⟩))
    exact ⟨rfl, rfl, hb1.trans hb2⟩
set_option maxHeartbeats 1000000 in
set_option maxRecDepth 20000 in
theorem atom_point (B p : Nat) (xs : List Nd) (l : List UInt8) (d : Nat) (w : World) (h : Rdr B p xs (46 :: l) d w) (hl : l.length ≤ 70000000000000) :
    (xs.length < 2000 → Calls Try.prog 76 #[.pointer (some ⟨p, 0, none⟩)] w fun e w' => ResP B p xs d (.ok (.set kPoint) l) e w' ∧ Below B w w') ∧
    (2000 ≤ xs.length → Calls Try.prog 76 #[.pointer (some ⟨p, 0, none⟩)] w fun e w' => ResP B p xs d (.bad 6) e w' ∧ Below B w w') := by
  have k40 := fun w (h : Rdr B p xs (46 :: l) d w) => take_noN B p xs 40 40 rfl (46 :: l) d w h (by simp)
  have k46 := fun w (h : Rdr B p xs (46 :: l) d w) => take_yesN B p xs 46 46 rfl l d w h (by omega)
  have kp := point_any
  obtain ⟨K, hK⟩ : ∃ K, K = kPoint := ⟨_, rfl⟩
  rw [← hK] at kp ⊢
  clear hK
  unfold clsV clsA wd at kp
  have H := Lib.hid h
  clear h
  constructor
  · intro hn
    have k3 := fun w (h : Rdr B p xs l d w) => set_ok B p _ _ xs K w h hn
    unfold ResP
    go_enter Try.func76, Try.ntmps76
    go_wp2_with (first
      | (go_at_call 51; first
          | (with_reducible refine (k40 _ H.out).mono ?_; rintro e w1 ⟨rfl, rfl⟩)
          | (with_reducible refine (k46 _ H.out).mono ?_; rintro e w1 ⟨rfl, h1, hb1⟩; have H1 := Lib.hid h1; clear h1)))
    go_region_held3 (fun _ => True) (trivial)
      (first
        | (go_at_call 72; refine (kp _).mono ?_; rintro e w2 ⟨rfl, hb2⟩; have hd2 := ((Below.refl _ w1).drew).trans hb2; have H2 := Lib.hid (H1.out.below hd2))
        | (go_at_call 32; refine (k3 _ H2.out).mono ?_; rintro e w3 ⟨rfl, h3, hb3⟩))
    all_goals
      go_end0
      exact ⟨⟨rfl, h3⟩, (hb1.trans (hd2.mono H1.out.2.1)).trans hb3⟩
  · intro hn
    have k3 := fun w (h : Rdr B p xs l d w) => set_big B p _ _ xs K w h hn
    unfold ResP errV
    unfold errV at k3
    go_enter Try.func76, Try.ntmps76
    go_wp2_with (first
      | (go_at_call 51; first
          | (with_reducible refine (k40 _ H.out).mono ?_; rintro e w1 ⟨rfl, rfl⟩)
          | (with_reducible refine (k46 _ H.out).mono ?_; rintro e w1 ⟨rfl, h1, hb1⟩; have H1 := Lib.hid h1; clear h1)))
    refine wp_region_held_drew (S := fun _ => True) (by kernel_rfl) trivial (fun hHeld => ?_)
    refine wpAnyH_take (i := 0) (v := .pointer (some ⟨p, 0, none⟩)) rfl (by kernel_rfl) (by kernel_rfl) (by kernel_rfl) (fun _ _ _ h => h) (Or.inl ⟨by rfl, by intro w hSw; first | (go_simp; done) | (go_simp; with_reducible rfl)⟩) hHeld ?_
    try simp only [Act.put, List.setIfInBounds_toArray, List.set_cons_zero, List.set_cons_succ]
    refine wpAnyH_take (i := 1) (v := .pointer (some ⟨p, 0, none⟩)) rfl (by kernel_rfl) (by kernel_rfl) (by kernel_rfl) (fun _ _ _ h => h) (Or.inl ⟨by rfl, by intro w hSw; first | (go_simp; done) | (go_simp; with_reducible rfl)⟩) hHeld ?_
    try simp only [Act.put, List.setIfInBounds_toArray, List.set_cons_zero, List.set_cons_succ]
    refine wpAnyH_take (i := 2) (v := .pointer (some ⟨p, 0, none⟩)) rfl (by kernel_rfl) (by kernel_rfl) (by kernel_rfl) (fun _ _ _ h => h) (Or.inl ⟨by rfl, by intro w hSw; first | (go_simp; done) | (go_simp; with_reducible rfl)⟩) hHeld ?_
    try simp only [Act.put, List.setIfInBounds_toArray, List.set_cons_zero, List.set_cons_succ]
    refine wpAnyH_ready (rs := [3]) (by kernel_rfl) (by simp) ?_
    refine AllReadyH.cons rfl (fun K0 hK0 => ?_) AllReadyH.nil
    go_simp
    refine (kp _).mono ?_
    rintro e w2 ⟨rfl, hb2⟩
    have hd2 := ((Below.refl _ w1).drew).trans hb2
    have H2 := Lib.hid (H1.out.below hd2)
    refine hK0.out _ _ trivial (fun hHeld => ?_)
    clear hK0 K0
    try simp only [Act.put, List.setIfInBounds_toArray, List.set_cons_zero, List.set_cons_succ]
    refine wpAnyH_ready (rs := [4]) (by kernel_rfl) (by simp) ?_
    refine AllReadyH.cons rfl (fun K0 hK0 => ?_) AllReadyH.nil
    go_simp
    refine (k3 _ H2.out).mono ?_
    rintro e w3 ⟨rfl, hb3⟩
    exact ⟨rfl, rfl, (hb1.trans (hd2.mono H1.out.2.1)).trans hb3⟩
set_option maxHeartbeats 1000000 in
set_option maxRecDepth 20000 in
theorem atom_listed (B p : Nat) (xs : List Nd) (l : List UInt8) (d : Nat) (w : World) (h : Rdr B p xs l d w) (hl : l.length ≤ 70000000000000) (hh40 : l.head? ≠ some 40) (hh46 : l.head? ≠ some 46) (hh94 : l.head? ≠ some 94) (hh36 : l.head? ≠ some 36) (K : K4) (m : Nat) (hD : listD l = some (K, m)) :
    (xs.length < 2000 → Calls Try.prog 76 #[.pointer (some ⟨p, 0, none⟩)] w fun e w' => ResP B p xs d (.ok (.set K) (l.drop m)) e w' ∧ Below B w w') ∧
    (2000 ≤ xs.length → Calls Try.prog 76 #[.pointer (some ⟨p, 0, none⟩)] w fun e w' => ResP B p xs d (.bad 6) e w' ∧ Below B w w') := by
  have k40 := fun w (h : Rdr B p xs l d w) => take_noN B p xs 40 40 rfl l d w h hh40
  have k46 := fun w (h : Rdr B p xs l d w) => take_noN B p xs 46 46 rfl l d w h hh46
  have k94 := fun w (h : Rdr B p xs l d w) => take_noN B p xs 94 94 rfl l d w h hh94
  have k36 := fun w (h : Rdr B p xs l d w) => take_noN B p xs 36 36 rfl l d w h hh36
  have kl := fun w (h : Rdr B p xs l d w) => listed_some B p xs l d K m w h hl hD
  unfold clsV clsA wd at kl
  have H := Lib.hid h
  clear h hD
  constructor
  · intro hn
    have k3 := fun w (h : Rdr B p xs (l.drop m) d w) => set_ok B p _ _ xs K w h hn
    unfold ResP
    go_enter Try.func76, Try.ntmps76
    go_wp2_with (first
      | (go_at_call 51; first
          | (with_reducible refine (k40 _ H.out).mono ?_; rintro e w1 ⟨rfl, rfl⟩)
          | (with_reducible refine (k46 _ H.out).mono ?_; rintro e w1 ⟨rfl, rfl⟩)
          | (with_reducible refine (k94 _ H.out).mono ?_; rintro e w1 ⟨rfl, rfl⟩)
          | (with_reducible refine (k36 _ H.out).mono ?_; rintro e w1 ⟨rfl, rfl⟩)))
    refine wp_region_held_drew (S := fun _ => True) (by kernel_rfl) trivial (fun hHeld => ?_)
    refine wpAnyH_take (i := 0) (v := .pointer (some ⟨p, 0, none⟩)) rfl (by kernel_rfl) (by kernel_rfl) (by kernel_rfl) (fun _ _ _ h => h) (Or.inl ⟨by rfl, by intro w hSw; first | (go_simp; done) | (go_simp; with_reducible rfl)⟩) hHeld ?_
    try simp only [Act.put, List.setIfInBounds_toArray, List.set_cons_zero, List.set_cons_succ]
    refine wpAnyH_take (i := 1) (v := .pointer (some ⟨p, 0, none⟩)) rfl (by kernel_rfl) (by kernel_rfl) (by kernel_rfl) (fun _ _ _ h => h) (Or.inl ⟨by rfl, by intro w hSw; first | (go_simp; done) | (go_simp; with_reducible rfl)⟩) hHeld ?_
    try simp only [Act.put, List.setIfInBounds_toArray, List.set_cons_zero, List.set_cons_succ]
    refine wpAnyH_take (i := 2) (v := .pointer (some ⟨p, 0, none⟩)) rfl (by kernel_rfl) (by kernel_rfl) (by kernel_rfl) (fun _ _ _ h => h) (Or.inl ⟨by rfl, by intro w hSw; first | (go_simp; done) | (go_simp; with_reducible rfl)⟩) hHeld ?_
    try simp only [Act.put, List.setIfInBounds_toArray, List.set_cons_zero, List.set_cons_succ]
    refine wpAnyH_take (i := 3) (v := .pointer (some ⟨p, 0, none⟩)) rfl (by kernel_rfl) (by kernel_rfl) (by kernel_rfl) (fun _ _ _ h => h) (Or.inl ⟨by rfl, by intro w hSw; first | (go_simp; done) | (go_simp; with_reducible rfl)⟩) hHeld ?_
    try simp only [Act.put, List.setIfInBounds_toArray, List.set_cons_zero, List.set_cons_succ]
    refine wpAnyH_ready (rs := [4]) (by kernel_rfl) (by simp) ?_
    refine AllReadyH.cons rfl (fun K0 hK0 => ?_) AllReadyH.nil
    go_simp
    refine (kl _ (H.out.below (Below.refl _ _).drew)).mono ?_
    rintro e w2 ⟨rfl, h2, hb2⟩
    have H2 := Lib.hid h2
    clear h2
    refine hK0.out _ _ trivial (fun hHeld => ?_)
    clear hK0 K0
    try simp only [Act.put, List.setIfInBounds_toArray, List.set_cons_zero, List.set_cons_succ]
    refine wpAnyH_ready (rs := [5]) (by kernel_rfl) (by simp) ?_
    refine AllReadyH.cons rfl (fun K0 hK0 => ?_) AllReadyH.nil
    go_simp
    refine (k3 _ H2.out).mono ?_
    rintro e w3 ⟨rfl, h3, hb3⟩
    refine hK0.out _ _ trivial (fun hHeld => ?_)
    clear hK0 K0
    try simp only [Act.put, List.setIfInBounds_toArray, List.set_cons_zero, List.set_cons_succ]
    refine wpAnyH_done (by kernel_rfl) ?_ _
    go_end0
    exact ⟨⟨rfl, h3⟩, ((Below.refl _ _).drew.trans hb2).trans hb3⟩
  · intro hn
    have k3 := fun w (h : Rdr B p xs (l.drop m) d w) => set_big B p _ _ xs K w h hn
    unfold ResP errV
    unfold errV at k3
    go_enter Try.func76, Try.ntmps76
    go_wp2_with (first
      | (go_at_call 51; first
          | (with_reducible refine (k40 _ H.out).mono ?_; rintro e w1 ⟨rfl, rfl⟩)
          | (with_reducible refine (k46 _ H.out).mono ?_; rintro e w1 ⟨rfl, rfl⟩)
          | (with_reducible refine (k94 _ H.out).mono ?_; rintro e w1 ⟨rfl, rfl⟩)
          | (with_reducible refine (k36 _ H.out).mono ?_; rintro e w1 ⟨rfl, rfl⟩)))
    refine wp_region_held_drew (S := fun _ => True) (by kernel_rfl) trivial (fun hHeld => ?_)
    refine wpAnyH_take (i := 0) (v := .pointer (some ⟨p, 0, none⟩)) rfl (by kernel_rfl) (by kernel_rfl) (by kernel_rfl) (fun _ _ _ h => h) (Or.inl ⟨by rfl, by intro w hSw; first | (go_simp; done) | (go_simp; with_reducible rfl)⟩) hHeld ?_
    try simp only [Act.put, List.setIfInBounds_toArray, List.set_cons_zero, List.set_cons_succ]
    refine wpAnyH_take (i := 1) (v := .pointer (some ⟨p, 0, none⟩)) rfl (by kernel_rfl) (by kernel_rfl) (by kernel_rfl) (fun _ _ _ h => h) (Or.inl ⟨by rfl, by intro w hSw; first | (go_simp; done) | (go_simp; with_reducible rfl)⟩) hHeld ?_
    try simp only [Act.put, List.setIfInBounds_toArray, List.set_cons_zero, List.set_cons_succ]
    refine wpAnyH_take (i := 2) (v := .pointer (some ⟨p, 0, none⟩)) rfl (by kernel_rfl) (by kernel_rfl) (by kernel_rfl) (fun _ _ _ h => h) (Or.inl ⟨by rfl, by intro w hSw; first | (go_simp; done) | (go_simp; with_reducible rfl)⟩) hHeld ?_
    try simp only [Act.put, List.setIfInBounds_toArray, List.set_cons_zero, List.set_cons_succ]
    refine wpAnyH_take (i := 3) (v := .pointer (some ⟨p, 0, none⟩)) rfl (by kernel_rfl) (by kernel_rfl) (by kernel_rfl) (fun _ _ _ h => h) (Or.inl ⟨by rfl, by intro w hSw; first | (go_simp; done) | (go_simp; with_reducible rfl)⟩) hHeld ?_
    try simp only [Act.put, List.setIfInBounds_toArray, List.set_cons_zero, List.set_cons_succ]
    refine wpAnyH_ready (rs := [4]) (by kernel_rfl) (by simp) ?_
    refine AllReadyH.cons rfl (fun K0 hK0 => ?_) AllReadyH.nil
    go_simp
    refine (kl _ (H.out.below (Below.refl _ _).drew)).mono ?_
    rintro e w2 ⟨rfl, h2, hb2⟩
    have H2 := Lib.hid h2
    clear h2
    refine hK0.out _ _ trivial (fun hHeld => ?_)
    clear hK0 K0
    try simp only [Act.put, List.setIfInBounds_toArray, List.set_cons_zero, List.set_cons_succ]
    refine wpAnyH_ready (rs := [5]) (by kernel_rfl) (by simp) ?_
    refine AllReadyH.cons rfl (fun K0 hK0 => ?_) AllReadyH.nil
    go_simp
    refine (k3 _ H2.out).mono ?_
    rintro e w3 ⟨rfl, hb3⟩
    exact ⟨rfl, rfl, ((Below.refl _ _).drew.trans hb2).trans hb3⟩

set_option maxHeartbeats 1000000 in
set_option maxRecDepth 20000 in
theorem atom_no (B p : Nat) (xs : List Nd) (l : List UInt8) (d : Nat) (w : World) (h : Rdr B p xs l d w) (hl : l.length ≤ 70000000000000) (hh40 : l.head? ≠ some 40) (hh46 : l.head? ≠ some 46) (hh94 : l.head? ≠ some 94) (hh36 : l.head? ≠ some 36) (hD : listD l = none) :
    Calls Try.prog 76 #[.pointer (some ⟨p, 0, none⟩)] w fun e w' => ResP B p xs d (.bad 9) e w' ∧ Below B w w' := by
  have k40 := fun w (h : Rdr B p xs l d w) => take_noN B p xs 40 40 rfl l d w h hh40
  have k46 := fun w (h : Rdr B p xs l d w) => take_noN B p xs 46 46 rfl l d w h hh46
  have k94 := fun w (h : Rdr B p xs l d w) => take_noN B p xs 94 94 rfl l d w h hh94
  have k36 := fun w (h : Rdr B p xs l d w) => take_noN B p xs 36 36 rfl l d w h hh36
  have kl := fun w (h : Rdr B p xs l d w) => listed_no B p xs l d w h hl hD
  have H := Lib.hid h
  clear h hD
  unfold ResP errV
  unfold errV at kl
  · skip
    go_enter Try.func76, Try.ntmps76
    go_wp2_with (first
      | (go_at_call 51; first
          | (with_reducible refine (k40 _ H.out).mono ?_; rintro e w1 ⟨rfl, rfl⟩)
          | (with_reducible refine (k46 _ H.out).mono ?_; rintro e w1 ⟨rfl, rfl⟩)
          | (with_reducible refine (k94 _ H.out).mono ?_; rintro e w1 ⟨rfl, rfl⟩)
          | (with_reducible refine (k36 _ H.out).mono ?_; rintro e w1 ⟨rfl, rfl⟩)))
    refine wp_region_held_drew (S := fun _ => True) (by kernel_rfl) trivial (fun hHeld => ?_)
    refine wpAnyH_take (i := 0) (v := .pointer (some ⟨p, 0, none⟩)) rfl (by kernel_rfl) (by kernel_rfl) (by kernel_rfl) (fun _ _ _ h => h) (Or.inl ⟨by rfl, by intro w hSw; first | (go_simp; done) | (go_simp; with_reducible rfl)⟩) hHeld ?_
    try simp only [Act.put, List.setIfInBounds_toArray, List.set_cons_zero, List.set_cons_succ]
    refine wpAnyH_take (i := 1) (v := .pointer (some ⟨p, 0, none⟩)) rfl (by kernel_rfl) (by kernel_rfl) (by kernel_rfl) (fun _ _ _ h => h) (Or.inl ⟨by rfl, by intro w hSw; first | (go_simp; done) | (go_simp; with_reducible rfl)⟩) hHeld ?_
    try simp only [Act.put, List.setIfInBounds_toArray, List.set_cons_zero, List.set_cons_succ]
    refine wpAnyH_take (i := 2) (v := .pointer (some ⟨p, 0, none⟩)) rfl (by kernel_rfl) (by kernel_rfl) (by kernel_rfl) (fun _ _ _ h => h) (Or.inl ⟨by rfl, by intro w hSw; first | (go_simp; done) | (go_simp; with_reducible rfl)⟩) hHeld ?_
    try simp only [Act.put, List.setIfInBounds_toArray, List.set_cons_zero, List.set_cons_succ]
    refine wpAnyH_take (i := 3) (v := .pointer (some ⟨p, 0, none⟩)) rfl (by kernel_rfl) (by kernel_rfl) (by kernel_rfl) (fun _ _ _ h => h) (Or.inl ⟨by rfl, by intro w hSw; first | (go_simp; done) | (go_simp; with_reducible rfl)⟩) hHeld ?_
    try simp only [Act.put, List.setIfInBounds_toArray, List.set_cons_zero, List.set_cons_succ]
    refine wpAnyH_ready (rs := [4]) (by kernel_rfl) (by simp) ?_
    refine AllReadyH.cons rfl (fun K0 hK0 => ?_) AllReadyH.nil
    go_simp
    refine (kl _ (H.out.below (Below.refl _ _).drew)).mono ?_
    rintro e w2 ⟨rfl, hb2⟩
    exact ⟨rfl, rfl, (Below.refl _ _).drew.trans hb2⟩
end Go.Proofs.Ytgokkdalfkinnaa
