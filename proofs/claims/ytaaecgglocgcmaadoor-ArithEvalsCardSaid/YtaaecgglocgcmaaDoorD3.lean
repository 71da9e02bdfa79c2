/- Packed texts: ArHeld, ArUnary, ArRow. What each of them proves stands above its theorems; the conditions stand in these. -/
import Derived.Test.YtaaecgglocgcmaaDoorD2
namespace Go.Proofs.YtaaecgglocgcmaaDoor
open Go.RowKit Go.Lib

theorem full_listA (c : UInt8) (l : List UInt8) : (⟨(c :: l).toArray⟩ : ByteArray).toList.isEmpty = false := by rw [ByteArray.toList_eq]; rfl
theorem empty_listA : (⟨([] : List UInt8).toArray⟩ : ByteArray).toList.isEmpty = true := by rw [ByteArray.toList_eq]; rfl
theorem ex_from (l : List UInt8) (m n : Nat) (h : n = l.length) : (⟨l.toArray⟩ : ByteArray).extract m n = ⟨(l.drop m).toArray⟩ := by
  subst h
  apply ByteArray.ext
  rw [ByteArray.data_extract]
  apply Array.ext'
  simp only [List.extract_toArray, List.extract_eq_drop_take']
  rw [List.take_of_length_le (Nat.le_refl _)]
/-- What stands behind a sign, or in brackets. -/
def heldR (c : UInt8) (R0 R1 : Pr) : Pr := if c = 40 then R0.closed else if c = 45 then R1.map .neg else if c = 33 then R1.map .bang else R1
theorem map_why {i : Bool} {V : List UInt8 → Cm} {R : Pr} {x : Int} (g : Ex → Ex) (hg : ∀ e, ev V e = .no x → ev V (g e) = .no x) (h : Why i V R x) : Why i V (R.map g) x := by
  rcases h with rfl | ⟨hi, ex, l, rfl, he⟩
  · exact .inl rfl
  · exact .inr ⟨hi, g ex, l, rfl, hg _ he⟩
theorem closed_why {i : Bool} {V : List UInt8 → Cm} {R : Pr} {x : Int} (hG : Good i R.closed) (h : Why i V R x) : Why i V R.closed x := by
  rcases h with rfl | ⟨hi, ex, l, rfl, he⟩
  · exact .inl rfl
  · rcases hG with h | ⟨ex', l', h⟩
    · rw [hi] at h; cases h
    · have h0 : (if l.head? = some 41 then Pr.ok ex l.tail else Pr.bad 9) = .ok ex' l' := h
      split at h0
      · rename_i hh
        cases h0
        exact .inr ⟨hi, _, _, h, he⟩
      · cases h0
theorem good_closed {i : Bool} {R : Pr} (h : Good i R.closed) : Good i R := by
  rcases h with h | ⟨ex, l, h⟩
  · exact .inl h
  · cases R with
    | bad x => cases h
    | ok e l => exact .inr ⟨e, l, rfl⟩
theorem good_map {i : Bool} {R : Pr} {g : Ex → Ex} (h : Good i (R.map g)) : Good i R := by
  rcases h with h | ⟨ex, l, h⟩
  · exact .inl h
  · cases R with
    | bad x => cases h
    | ok e l => exact .inr ⟨e, l, rfl⟩

set_option maxHeartbeats 2000000 in
set_option maxRecDepth 20000 in
theorem held_neg (p : Nat) (r : List UInt8) (vv : Value) (vs : List Vr) (d : Nat) (i : Bool) (V : List UInt8 → Cm) (R : Pr) (w : World) (h : Rk p (45 :: r) vv d i w) (hl : r.length ≤ 70000000000000) (hE : EnvA p vv vs w)
    (kr : ∀ w, (Rk p r vv d i w ∧ EnvA p vv vs w) → Calls Tryd.prog 41 #[.pointer (some ⟨p, 0, none⟩)] w (AnsA p vv d i V w R)) :
    Calls Tryd.prog 57 #[.pointer (some ⟨p, 0, none⟩)] w (AnsA p vv d i V w (R.map .neg)) := by
  obtain ⟨c0, c1, c2, c3, f0, f1, f2, f3⟩ := h.cells
  have h1 := h.rest r
  have hb1 : Below p w (w.setCell ⟨p, 0, none⟩ (.string ⟨r.toArray⟩)) := (Below.refl p w).setCell (p := ⟨p, 0, none⟩) (Nat.le_refl _) _
  have hex := ex_from (45 :: r) 1 (r.length + 1) rfl
  have hbyte : (⟨(45 :: r : List UInt8).toArray⟩ : ByteArray).size = r.length + 1 := by simp [ByteArray.size]
  have hfst : ∀ S : ByteArray, S = ⟨(45 :: r : List UInt8).toArray⟩ → ∀ h0 : 0 < S.size, S[0] = 45 := by intro S hS h0; subst hS; rfl
  rw [show (45 :: r : List UInt8).drop 1 = r from rfl] at hex
  obtain ⟨S, hS⟩ : ∃ S : ByteArray, S = ⟨(45 :: r : List UInt8).toArray⟩ := ⟨_, rfl⟩
  rw [← hS] at hex hbyte c0
  have hb40 := hfst S hS
  have hs : 0 < S.size := by omega
  have hb := hb40 hs
  have HB := Lib.hid hb1
  rcases split_ans kr with ⟨x, hw, k⟩ | ⟨ex, l, rfl, k⟩
  · have k2 := k _ ⟨h1, hE.below hb1⟩
    have W := Lib.hid (map_why .neg (fun e he => by show (match ev V e with | .is n => _ | .no x => _) = _; rw [he]) hw)
    clear h h1 hE hw hb1 kr k hfst hb40 hS
    generalize (⟨r.toArray⟩ : ByteArray) = S1 at *
    unfold errA at k2
    go_enter Tryd.func57, Tryd.ntmps57
    go_wp2_with (go_at_call 41; (with_reducible refine k2.mono ?_); rintro e w1 ⟨rfl, hb2⟩)
    exact ⟨rfl, AnsA.why W.out (HB.out.trans hb2)⟩
  · have k2 := k _ ⟨h1, hE.below hb1⟩
    clear h h1 hE hb1 kr k hfst hb40 hS
    unfold Well at k2
    generalize (⟨r.toArray⟩ : ByteArray) = S1 at *
    go_enter Tryd.func57, Tryd.ntmps57
    go_wp2_with (first
      | (go_at_call 41; (with_reducible refine k2.mono ?_); rintro e w1 ⟨⟨n, hev, rfl, h2⟩, hb2⟩; have HEV := Lib.hid hev; have H2 := Lib.hid h2; have HB2 := Lib.hid hb2; clear hev h2 hb2)
      | fail)
    refine bodyPost_ret (results_tmp rfl _ _ _) rfl ?_
    refine AnsA.both (fun hi => ?_) H2.out (HB.out.trans HB2.out)
    show (match ev V ex with | .is n => _ | .no x => _) = _
    rw [HEV.out hi]
set_option maxHeartbeats 2000000 in
set_option maxRecDepth 20000 in
theorem held_bang (p : Nat) (r : List UInt8) (vv : Value) (vs : List Vr) (d : Nat) (i : Bool) (V : List UInt8 → Cm) (R : Pr) (w : World) (h : Rk p (33 :: r) vv d i w) (hl : r.length ≤ 70000000000000) (hE : EnvA p vv vs w)
    (kr : ∀ w, (Rk p r vv d i w ∧ EnvA p vv vs w) → Calls Tryd.prog 41 #[.pointer (some ⟨p, 0, none⟩)] w (AnsA p vv d i V w R)) :
    Calls Tryd.prog 57 #[.pointer (some ⟨p, 0, none⟩)] w (AnsA p vv d i V w (R.map .bang)) := by
  obtain ⟨c0, c1, c2, c3, f0, f1, f2, f3⟩ := h.cells
  have h1 := h.rest r
  have hb1 : Below p w (w.setCell ⟨p, 0, none⟩ (.string ⟨r.toArray⟩)) := (Below.refl p w).setCell (p := ⟨p, 0, none⟩) (Nat.le_refl _) _
  have hex := ex_from (33 :: r) 1 (r.length + 1) rfl
  have hbyte : (⟨(33 :: r : List UInt8).toArray⟩ : ByteArray).size = r.length + 1 := by simp [ByteArray.size]
  have hfst : ∀ S : ByteArray, S = ⟨(33 :: r : List UInt8).toArray⟩ → ∀ h0 : 0 < S.size, S[0] = 33 := by intro S hS h0; subst hS; rfl
  rw [show (33 :: r : List UInt8).drop 1 = r from rfl] at hex
  obtain ⟨S, hS⟩ : ∃ S : ByteArray, S = ⟨(33 :: r : List UInt8).toArray⟩ := ⟨_, rfl⟩
  rw [← hS] at hex hbyte c0
  have hb40 := hfst S hS
  have hs : 0 < S.size := by omega
  have hb := hb40 hs
  have HB := Lib.hid hb1
  rcases split_ans kr with ⟨x, hw, k⟩ | ⟨ex, l, rfl, k⟩
  · have k2 := k _ ⟨h1, hE.below hb1⟩
    have W := Lib.hid (map_why .bang (fun e he => by show (match ev V e with | .is n => _ | .no x => _) = _; rw [he]) hw)
    clear h h1 hE hw hb1 kr k hfst hb40 hS
    generalize (⟨r.toArray⟩ : ByteArray) = S1 at *
    unfold errA at k2
    go_enter Tryd.func57, Tryd.ntmps57
    go_wp2_with (go_at_call 41; (with_reducible refine k2.mono ?_); rintro e w1 ⟨rfl, hb2⟩)
    exact ⟨rfl, AnsA.why W.out (HB.out.trans hb2)⟩
  · have k2 := k _ ⟨h1, hE.below hb1⟩
    clear h h1 hE hb1 kr k hfst hb40 hS
    unfold Well at k2
    generalize (⟨r.toArray⟩ : ByteArray) = S1 at *
    have kt := toldA_any
    go_enter Tryd.func57, Tryd.ntmps57
    go_wp2_with (first
      | (go_at_call 41; (with_reducible refine k2.mono ?_); rintro e w1 ⟨⟨n, hev, rfl, h2⟩, hb2⟩; have HEV := Lib.hid hev; have H2 := Lib.hid h2; have HB2 := Lib.hid hb2; clear hev h2 hb2)
      | (go_at_call 65; (with_reducible refine (kt _ _).mono ?_); rintro e w2 ⟨rfl, rfl⟩))
    refine bodyPost_ret (results_tmp rfl _ _ _) rfl ?_
    refine AnsA.both (fun hi => ?_) H2.out (HB.out.trans HB2.out)
    show (match ev V ex with | .is n => _ | .no x => _) = _
    rw [HEV.out hi]
set_option maxHeartbeats 2000000 in
set_option maxRecDepth 20000 in
theorem held_plus (p : Nat) (r : List UInt8) (vv : Value) (vs : List Vr) (d : Nat) (i : Bool) (V : List UInt8 → Cm) (R : Pr) (w : World) (h : Rk p (43 :: r) vv d i w) (hl : r.length ≤ 70000000000000) (hE : EnvA p vv vs w)
    (kr : ∀ w, (Rk p r vv d i w ∧ EnvA p vv vs w) → Calls Tryd.prog 41 #[.pointer (some ⟨p, 0, none⟩)] w (AnsA p vv d i V w R)) :
    Calls Tryd.prog 57 #[.pointer (some ⟨p, 0, none⟩)] w (AnsA p vv d i V w R) := by
  obtain ⟨c0, c1, c2, c3, f0, f1, f2, f3⟩ := h.cells
  have h1 := h.rest r
  have hb1 : Below p w (w.setCell ⟨p, 0, none⟩ (.string ⟨r.toArray⟩)) := (Below.refl p w).setCell (p := ⟨p, 0, none⟩) (Nat.le_refl _) _
  have hex := ex_from (43 :: r) 1 (r.length + 1) rfl
  have hbyte : (⟨(43 :: r : List UInt8).toArray⟩ : ByteArray).size = r.length + 1 := by simp [ByteArray.size]
  have hfst : ∀ S : ByteArray, S = ⟨(43 :: r : List UInt8).toArray⟩ → ∀ h0 : 0 < S.size, S[0] = 43 := by intro S hS h0; subst hS; rfl
  rw [show (43 :: r : List UInt8).drop 1 = r from rfl] at hex
  obtain ⟨S, hS⟩ : ∃ S : ByteArray, S = ⟨(43 :: r : List UInt8).toArray⟩ := ⟨_, rfl⟩
  rw [← hS] at hex hbyte c0
  have hb40 := hfst S hS
  have hs : 0 < S.size := by omega
  have hb := hb40 hs
  have HB := Lib.hid hb1
  rcases split_ans kr with ⟨x, hw, k⟩ | ⟨ex, l, rfl, k⟩
  · have k2 := k _ ⟨h1, hE.below hb1⟩
    have W := Lib.hid (hw)
    clear h h1 hE hw hb1 kr k hfst hb40 hS
    generalize (⟨r.toArray⟩ : ByteArray) = S1 at *
    unfold errA at k2
    go_enter Tryd.func57, Tryd.ntmps57
    go_wp2_with (go_at_call 41; (with_reducible refine k2.mono ?_); rintro e w1 ⟨rfl, hb2⟩)
    exact ⟨rfl, AnsA.why W.out (HB.out.trans hb2)⟩
  · have k2 := k _ ⟨h1, hE.below hb1⟩
    clear h h1 hE hb1 kr k hfst hb40 hS
    unfold Well at k2
    generalize (⟨r.toArray⟩ : ByteArray) = S1 at *
    go_enter Tryd.func57, Tryd.ntmps57
    go_wp2_with (first
      | (go_at_call 41; (with_reducible refine k2.mono ?_); rintro e w1 ⟨⟨n, hev, rfl, h2⟩, hb2⟩; have HEV := Lib.hid hev; have H2 := Lib.hid h2; have HB2 := Lib.hid hb2; clear hev h2 hb2)
      | fail)
    refine bodyPost_ret (results_tmp rfl _ _ _) rfl ?_
    refine AnsA.both (fun hi => ?_) H2.out (HB.out.trans HB2.out)
    exact HEV.out hi
set_option maxHeartbeats 2000000 in
set_option maxRecDepth 20000 in
theorem held_paren (p : Nat) (r : List UInt8) (vv : Value) (vs : List Vr) (d : Nat) (i : Bool) (V : List UInt8 → Cm) (R : Pr) (w : World) (h : Rk p (40 :: r) vv d i w) (hl : r.length ≤ 70000000000000) (hE : EnvA p vv vs w) (hG : Good i R.closed) (hR : ∀ ex l, R = .ok ex l → l.length ≤ r.length)
    (kr : ∀ w, (Rk p r vv d i w ∧ EnvA p vv vs w) → Calls Tryd.prog 31 #[.pointer (some ⟨p, 0, none⟩), .int .i64 0] w (AnsA p vv d i V w R)) :
    Calls Tryd.prog 57 #[.pointer (some ⟨p, 0, none⟩)] w (AnsA p vv d i V w R.closed) := by
  obtain ⟨c0, c1, c2, c3, f0, f1, f2, f3⟩ := h.cells
  have h1 := h.rest r
  have hb1 : Below p w (w.setCell ⟨p, 0, none⟩ (.string ⟨r.toArray⟩)) := (Below.refl p w).setCell (p := ⟨p, 0, none⟩) (Nat.le_refl _) _
  have hex := ex_from (40 :: r) 1 (r.length + 1) rfl
  have hbyte : (⟨(40 :: r : List UInt8).toArray⟩ : ByteArray).size = r.length + 1 := by simp [ByteArray.size]
  have hfst : ∀ S : ByteArray, S = ⟨(40 :: r : List UInt8).toArray⟩ → ∀ h0 : 0 < S.size, S[0] = 40 := by intro S hS h0; subst hS; rfl
  rw [show (40 :: r : List UInt8).drop 1 = r from rfl] at hex
  obtain ⟨S, hS⟩ : ∃ S : ByteArray, S = ⟨(40 :: r : List UInt8).toArray⟩ := ⟨_, rfl⟩
  rw [← hS] at hex hbyte c0
  have hb40 := hfst S hS
  have hs : 0 < S.size := by omega
  have hb := hb40 hs
  have HB := Lib.hid hb1
  rcases split_ans kr with ⟨x, hw, k⟩ | ⟨ex, l, rfl, k⟩
  · have k2 := k _ ⟨h1, hE.below hb1⟩
    have W := Lib.hid (closed_why hG hw)
    clear h h1 hE hG hR hw hb1 kr k hfst hb40 hS
    generalize (⟨r.toArray⟩ : ByteArray) = S1 at *
    unfold errA at k2
    go_enter Tryd.func57, Tryd.ntmps57
    go_wp2_with (go_at_call 31; (with_reducible refine k2.mono ?_); rintro e w1 ⟨rfl, hb2⟩)
    exact ⟨rfl, AnsA.why W.out (HB.out.trans hb2)⟩
  · have k2 := k _ ⟨h1, hE.below hb1⟩
    have hlen := hR _ _ rfl
    have hcl : (Pr.ok ex l).closed = if l.head? = some 41 then .ok ex l.tail else .bad 9 := rfl
    rw [hcl]
    clear h h1 hE hb1 kr k hfst hb40 hS hR hG hcl
    unfold Well at k2
    have kp := fun w => Tryd.strings_HasPrefix ⟨l.toArray⟩ ⟨#[41]⟩ w
    have hpre : hasPrefix (⟨l.toArray⟩ : ByteArray).data.toList (⟨#[41]⟩ : ByteArray).data.toList = decide (l.head? = some 41) := by
      cases l with
      | nil => rfl
      | cons a l =>
        show ([41] : List UInt8).isPrefixOf (a :: l) = decide (some a = some 41)
        simp only [List.isPrefixOf, Bool.and_true, Option.some.injEq]
        rw [Bool.eq_iff_iff, beq_iff_eq, decide_eq_true_eq]
        exact ⟨fun e => e.symm, fun e => e.symm⟩
    rw [hpre] at kp
    clear hpre
    by_cases hh : l.head? = some 41
    · rw [if_pos hh, decide_eq_true hh] at *
      obtain ⟨l2, rfl⟩ : ∃ l2, l = 41 :: l2 := by
        cases l with
        | nil => cases hh
        | cons a l => simp at hh; exact ⟨l, by rw [hh]⟩
      have hex2 := ex_from (41 :: l2) 1 (l2.length + 1) rfl
      rw [show (41 :: l2 : List UInt8).drop 1 = l2 from rfl] at hex2
      have hz2 : (⟨(41 :: l2 : List UInt8).toArray⟩ : ByteArray).size = l2.length + 1 := by simp [ByteArray.size]
      have hl2 : l2.length + 1 ≤ r.length := hlen
      clear hh hlen
      have PUT := Lib.hid (fun (w1 : World) (h2 : Rk p (41 :: l2) vv d i w1) => And.intro (h2.rest l2) ((Below.refl p w1).setCell (p := ⟨p, 0, none⟩) (Nat.le_refl _) (.string ⟨l2.toArray⟩)))
      have CEL := Lib.hid (fun (w1 : World) (h2 : Rk p (41 :: l2) vv d i w1) => And.intro h2.cells.1 h2.cells.2.2.2.2.1)
      generalize (⟨r.toArray⟩ : ByteArray) = S1 at *
      generalize (⟨l2.toArray⟩ : ByteArray) = S3 at *
      generalize (⟨(41 :: l2 : List UInt8).toArray⟩ : ByteArray) = S2 at *
      go_enter Tryd.func57, Tryd.ntmps57
      go_wp2_with (first
        | (go_at_call 31; (with_reducible refine k2.mono ?_); rintro e w1 ⟨⟨n, hev, rfl, h2⟩, hb2⟩; obtain ⟨d0, g0⟩ := CEL.out w1 h2; have HEV := Lib.hid hev; have H2 := Lib.hid h2; have HB2 := Lib.hid hb2; clear hev h2 hb2)
        | (go_at_call 52; (with_reducible refine (kp _).mono ?_); rintro e w2 ⟨rfl, rfl⟩))
      refine bodyPost_ret (results_tmp rfl _ _ _) rfl ?_
      exact AnsA.both (fun hi => HEV.out hi) (PUT.out _ H2.out).1 ((HB.out.trans HB2.out).trans (PUT.out _ H2.out).2)
    · rw [if_neg hh]
      rw [decide_eq_false hh] at kp
      have CEL := Lib.hid (fun (w1 : World) (h2 : Rk p l vv d i w1) => And.intro h2.cells.1 h2.cells.2.2.2.2.1)
      clear hh
      generalize (⟨r.toArray⟩ : ByteArray) = S1 at *
      generalize (⟨l.toArray⟩ : ByteArray) = S2 at *
      go_enter Tryd.func57, Tryd.ntmps57
      go_wp2_with (first
        | (go_at_call 31; (with_reducible refine k2.mono ?_); rintro e w1 ⟨⟨n, hev, rfl, h2⟩, hb2⟩; obtain ⟨d0, g0⟩ := CEL.out w1 h2; have HEV := Lib.hid hev; have H2 := Lib.hid h2; have HB2 := Lib.hid hb2; clear hev h2 hb2)
        | (go_at_call 52; (with_reducible refine (kp _).mono ?_); rintro e w2 ⟨rfl, rfl⟩))
      exact ⟨rfl, AnsA.bad (HB.out.trans HB2.out)⟩
end Go.Proofs.YtaaecgglocgcmaaDoor
namespace Go.Proofs.YtaaecgglocgcmaaDoor
open Go.RowKit Go.Lib

set_option maxHeartbeats 1000000 in
set_option maxRecDepth 20000 in
theorem nested_deep (p : Nat) (l : List UInt8) (vv : Value) (i : Bool) (V : List UInt8 → Cm) (w : World) (h : Rk p l vv 30 i w) :
    Calls Tryd.prog 48 #[.pointer (some ⟨p, 0, none⟩)] w (AnsA p vv 30 i V w (.bad 7)) := by
  obtain ⟨c0, c1, c2, c3, f0, f1, f2, f3⟩ := h.cells
  clear h c0 c1 c3 f0 f1 f3
  rw [show ((30 : Nat) : Int) = 30 from rfl] at c2
  go_enter Tryd.func48, Tryd.ntmps48
  go_wp2
  exact ⟨rfl, AnsA.bad (Below.refl _ _)⟩
set_option maxHeartbeats 1000000 in
set_option maxRecDepth 20000 in
theorem nested_in (p : Nat) (l : List UInt8) (vv : Value) (vs : List Vr) (d : Nat) (i : Bool) (V : List UInt8 → Cm) (R : Pr) (w : World) (h : Rk p l vv d i w) (hd : d < 30) (hE : EnvA p vv vs w)
    (kr : ∀ w, (Rk p l vv (d + 1) i w ∧ EnvA p vv vs w) → Calls Tryd.prog 57 #[.pointer (some ⟨p, 0, none⟩)] w (AnsA p vv (d + 1) i V w R)) :
    Calls Tryd.prog 48 #[.pointer (some ⟨p, 0, none⟩)] w (AnsA p vv d i V w R) := by
  obtain ⟨c0, c1, c2, c3, f0, f1, f2, f3⟩ := h.cells
  have h1 := h.deep (d + 1)
  have hb1 : Below p w (w.setCell ⟨p, 2, none⟩ (.int .i64 ((d + 1 : Nat) : Int))) := (Below.refl p w).setCell (p := ⟨p, 2, none⟩) (Nat.le_refl _) _
  have ed : ((d + 1 : Nat) : Int) = (d : Int) + 1 := by omega
  rw [ed] at h1 hb1
  have hn : ((d : Int) == 30) = false := by rw [beq_eq_false_iff_ne]; omega
  have hd' : (d : Int) < 30 := by omega
  have HB := Lib.hid hb1
  have BACK := Lib.hid (fun (w1 : World) (l' : List UInt8) (h2 : Rk p l' vv (d + 1) i w1) => And.intro (h2.deep d) ((Below.refl p w1).setCell (p := ⟨p, 2, none⟩) (Nat.le_refl _) (.int .i64 (d : Int))))
  have CEL : Hid (∀ (w1 : World) (l' : List UInt8), Rk p l' vv (d + 1) i w1 → w1.cell? ⟨p, 2, none⟩ = some (.int .i64 ((d : Int) + 1)) ∧ w1.frozen? ⟨p, 2, none⟩ = false) := by
    show ∀ (w1 : World) (l' : List UInt8), Rk p l' vv (d + 1) i w1 → w1.cell? ⟨p, 2, none⟩ = some (.int .i64 ((d : Int) + 1)) ∧ w1.frozen? ⟨p, 2, none⟩ = false
    intro w1 l' h2
    have := h2.cells.2.2.1
    rw [ed] at this
    exact ⟨this, h2.cells.2.2.2.2.2.2.1⟩
  rcases split_ans kr with ⟨x, hw, k⟩ | ⟨ex, l', rfl, k⟩
  · have k2 := k _ ⟨h1, hE.below hb1⟩
    have W := Lib.hid hw
    clear h h1 hE hw hb1 kr k c0 c1 c3 f0 f1 f3 ed
    unfold errA at k2
    go_enter Tryd.func48, Tryd.ntmps48
    go_wp2_with (go_at_call 57; (with_reducible refine k2.mono ?_); rintro e w1 ⟨rfl, hb2⟩)
    exact ⟨rfl, AnsA.why W.out (HB.out.trans hb2)⟩
  · have k2 := k _ ⟨h1, hE.below hb1⟩
    unfold Well at k2
    clear h h1 hE hb1 kr k c0 c1 c3 f0 f1 f3 ed
    go_enter Tryd.func48, Tryd.ntmps48
    go_wp2_with (go_at_call 57; (with_reducible refine k2.mono ?_); rintro e w1 ⟨⟨n, hev, rfl, h2⟩, hb2⟩; obtain ⟨d2, g2⟩ := CEL.out w1 l' h2; have HEV := Lib.hid hev; have H2 := Lib.hid h2; have HB2 := Lib.hid hb2; clear hev h2 hb2)
    refine bodyPost_ret (results_tmp rfl _ _ _) rfl ?_
    exact AnsA.both (fun hi => HEV.out hi) (BACK.out _ _ H2.out).1 ((HB.out.trans HB2.out).trans (BACK.out _ _ H2.out).2)

theorem contains_indexA (l : List UInt8) (c : UInt8) : decide (0 ≤ indexByte l c) = l.contains c := by
  rw [Bool.eq_iff_iff]
  simp only [decide_eq_true_eq, List.contains_iff_mem]
  constructor
  · intro h
    obtain ⟨o, ho⟩ := Int.eq_ofNat_of_zero_le h
    exact List.mem_of_getElem? (indexByte_some ho).1
  · intro h
    obtain ⟨k, hk⟩ := List.mem_iff_getElem?.1 h
    have hg := indexByte_ge l c
    by_cases hn : indexByte l c = -1
    · exact absurd hk (indexByte_none hn k)
    · omega
theorem signA_any (c : UInt8) (w : World) : Calls Tryd.prog 47 #[.string ⟨#[45, 43, 33, 40]⟩, .int .u8 (c.toNat : Int)] w fun e w' => ∃ n, e = .returned (.int .i64 n) ∧ decide (0 ≤ n) = ([45, 43, 33, 40] : List UInt8).contains c ∧ w' = w := by
  have h := Tryd.strings_IndexByte ⟨#[45, 43, 33, 40]⟩ (c.toNat : Int) w
  rw [show (c.toNat : Int).toNat.toUInt8 = c by simp] at h
  refine Calls.mono h ?_
  rintro e w' ⟨rfl, rfl⟩
  exact ⟨_, rfl, contains_indexA _ c, rfl⟩
theorem name_nil (c : UInt8) (r : List UInt8) : nameL (c :: r) = [] ↔ isLet c = false := by
  simp only [nameL]
  cases isLet c <;> simp
theorem atom_var (c : UInt8) (r : List UInt8) (hf : isFig c = false) : atomA c r = varR (c :: r) := by
  unfold atomA varR
  rw [if_neg (by rw [hf]; simp)]
  cases hl : isLet c
  · rw [if_neg (by simp), if_pos ((name_nil c r).2 hl)]
  · rw [if_pos rfl, if_neg (by rw [name_nil, hl]; simp)]

/-- What unary comes to behind the blanks. -/
def unR (d : Nat) (c : UInt8) (r : List UInt8) (R0 R1 : Pr) : Pr :=
  if ([45, 43, 33, 40] : List UInt8).contains c then (if d = 30 then .bad 7 else heldR c R0 R1) else atomA c r
theorem un_eq (f d : Nat) (l r : List UInt8) (c : UInt8) (h : skipA l = c :: r) : pF (f + 1) .un d l = unR d c r (pF f (.row 0) (d + 1) r) (pF f .un (d + 1) r) := by
  have e0 : pF (f + 1) .un d l = match skipA l with
    | [] => .bad 9
    | c :: r =>
      if c = 40 then (if d = 30 then .bad 7 else (pF f (.row 0) (d + 1) r).closed)
      else if c = 45 then (if d = 30 then .bad 7 else (pF f .un (d + 1) r).map .neg)
      else if c = 33 then (if d = 30 then .bad 7 else (pF f .un (d + 1) r).map .bang)
      else if c = 43 then (if d = 30 then .bad 7 else pF f .un (d + 1) r)
      else atomA c r := rfl
  rw [e0, h]
  simp only []
  generalize pF f (.row 0) (d + 1) r = R0
  generalize pF f .un (d + 1) r = R1
  unfold unR heldR
  by_cases h1 : c = 40
  · subst h1; rfl
  · by_cases h2 : c = 45
    · subst h2; rfl
    · by_cases h3 : c = 33
      · subst h3; rfl
      · by_cases h4 : c = 43
        · subst h4; rfl
        · have hc : ([45, 43, 33, 40] : List UInt8).contains c = false := by simp [h1, h2, h3, h4]
          rw [hc, if_neg h1, if_neg h2, if_neg h3, if_neg h4]
          rfl
set_option maxHeartbeats 2000000 in
set_option maxRecDepth 20000 in
theorem unary_end (p : Nat) (l : List UInt8) (vv : Value) (d : Nat) (i : Bool) (V : List UInt8 → Cm) (w : World) (h : Rk p l vv d i w) (hs : skipA l = []) :
    Calls Tryd.prog 41 #[.pointer (some ⟨p, 0, none⟩)] w (AnsA p vv d i V w (.bad 9)) := by
  have kb := blanksA_any p l vv d i w h
  rw [hs] at kb
  have CEL := Lib.hid (fun (w1 : World) (h1 : Rk p [] vv d i w1) => h1.cells.1)
  have hemp := empty_listA
  generalize (⟨([] : List UInt8).toArray⟩ : ByteArray) = S at *
  clear h hs
  go_enter Tryd.func41, Tryd.ntmps41
  go_wp2_with (go_at_call 42; (with_reducible refine kb.mono ?_); rintro e w1 ⟨rfl, h1, hb1⟩; have d0 := CEL.out w1 h1; have HB1 := Lib.hid hb1; clear hb1 h1)
  exact ⟨rfl, AnsA.bad HB1.out⟩
set_option maxHeartbeats 2000000 in
set_option maxRecDepth 20000 in
theorem unary_go (p : Nat) (l r : List UInt8) (c : UInt8) (vv : Value) (vs : List Vr) (d : Nat) (i : Bool) (V : List UInt8 → Cm) (R : Pr) (w : World) (h : Rk p l vv d i w) (hE : EnvA p vv vs w) (hs : skipA l = c :: r)
    (k1 : ([45, 43, 33, 40] : List UInt8).contains c = true → ∀ w, (Rk p (c :: r) vv d i w ∧ EnvA p vv vs w) → Calls Tryd.prog 48 #[.pointer (some ⟨p, 0, none⟩)] w (AnsA p vv d i V w R))
    (k2 : ([45, 43, 33, 40] : List UInt8).contains c = false → isFig c = true → ∀ w, (Rk p (c :: r) vv d i w ∧ EnvA p vv vs w) → Calls Tryd.prog 49 #[.pointer (some ⟨p, 0, none⟩)] w (AnsA p vv d i V w R))
    (k3 : ([45, 43, 33, 40] : List UInt8).contains c = false → isFig c = false → ∀ w, (Rk p (c :: r) vv d i w ∧ EnvA p vv vs w) → Calls Tryd.prog 50 #[.pointer (some ⟨p, 0, none⟩)] w (AnsA p vv d i V w R)) :
    Calls Tryd.prog 41 #[.pointer (some ⟨p, 0, none⟩)] w (AnsA p vv d i V w R) := by
  have kb := blanksA_any p l vv d i w h
  rw [hs] at kb
  have kb2 : Calls Tryd.prog 42 #[.pointer (some ⟨p, 0, none⟩)] w fun e w' => e = .returned (.tuple #[]) ∧ (Rk p (c :: r) vv d i w' ∧ EnvA p vv vs w') ∧ Below p w w' := kb.mono (by
    rintro e w' ⟨rfl, h1, hb⟩; exact ⟨rfl, ⟨h1, hE.below hb⟩, hb⟩)
  have hemp := full_listA c r
  have hbyte : (⟨(c :: r : List UInt8).toArray⟩ : ByteArray).size = r.length + 1 := by simp [ByteArray.size]
  have hfst : ∀ S : ByteArray, S = ⟨(c :: r : List UInt8).toArray⟩ → ∀ h0 : 0 < S.size, S[0] = c := by intro S hS h0; subst hS; rfl
  have CEL := Lib.hid (fun (w1 : World) (h1 : Rk p (c :: r) vv d i w1 ∧ EnvA p vv vs w1) => h1.1.cells.1)
  obtain ⟨S, hS⟩ : ∃ S : ByteArray, S = ⟨(c :: r : List UInt8).toArray⟩ := ⟨_, rfl⟩
  rw [← hS] at hemp hbyte CEL
  have hb40 := hfst S hS
  have hs0 : 0 < S.size := by omega
  have hb := hb40 hs0
  clear h hE hs kb hfst hb40 hS hbyte
  have ks := fun w => signA_any c w
  have ADD := Lib.hid (fun (e : Ending) (w1 w2 : World) (hb : Below p w w1) (h : AnsA p vv d i V w1 R e w2) => (And.intro h.1 (hb.trans h.2) : AnsA p vv d i V w R e w2))
  cases hsg : ([45, 43, 33, 40] : List UInt8).contains c
  · rw [hsg] at ks
    cases hf : isFig c
    · have k := k3 hsg hf
      have hrange : ¬ (48 ≤ (c.toNat : Int) ∧ (c.toNat : Int) ≤ 57) := by
        intro hh
        unfold isFig at hf
        rw [decide_eq_true hh.1, decide_eq_true hh.2] at hf
        cases hf
      obtain ⟨z, hz⟩ : ∃ z : Int, (c.toNat : Int) = z := ⟨_, rfl⟩
      have hzS : (S[0].toNat : Int) = z := by rw [hb]; exact hz
      rw [hz] at hrange ks
      clear k1 k2 k3 hsg hf hz hb
      have K := Lib.hid (split_ans k)
      clear k
      by_cases hz1 : 48 ≤ z
      · have hz2 : ¬ z ≤ 57 := fun e => hrange ⟨hz1, e⟩
        clear hrange
        rcases K.out with ⟨x, hw, k⟩ | ⟨ex, l', rfl, k⟩
        · unfold errA at k
          have W := Lib.hid hw
          clear hw
          go_enter Tryd.func41, Tryd.ntmps41
          go_wp2_with (first
            | (go_at_call 42; (with_reducible refine kb2.mono ?_); rintro e w1 ⟨rfl, h1, hb1⟩; have d0 := CEL.out w1 h1; have H1 := Lib.hid h1; have HB1 := Lib.hid hb1; clear hb1 h1)
            | (go_at_call 47; (with_reducible refine (ks _).mono ?_); rintro e w2 ⟨n, rfl, hn, rfl⟩)
            | (go_at_call 50; (with_reducible refine (k _ H1.out).mono ?_); rintro e w3 ⟨rfl, hb2⟩))
          exact ⟨rfl, AnsA.why W.out (HB1.out.trans hb2)⟩
        · unfold Well at k
          go_enter Tryd.func41, Tryd.ntmps41
          go_wp2_with (first
            | (go_at_call 42; (with_reducible refine kb2.mono ?_); rintro e w1 ⟨rfl, h1, hb1⟩; have d0 := CEL.out w1 h1; have H1 := Lib.hid h1; have HB1 := Lib.hid hb1; clear hb1 h1)
            | (go_at_call 47; (with_reducible refine (ks _).mono ?_); rintro e w2 ⟨n, rfl, hn, rfl⟩)
            | (go_at_call 50; (with_reducible refine (k _ H1.out).mono ?_); rintro e w3 ⟨⟨m, hev, rfl, h2⟩, hb2⟩; have HEV := Lib.hid hev; have H2 := Lib.hid h2; have HB2 := Lib.hid hb2; clear hev h2 hb2))
          refine bodyPost_ret (results_tmp rfl _ _ _) rfl ?_
          exact AnsA.both (fun hi => HEV.out hi) H2.out (HB1.out.trans HB2.out)
      · clear hrange
        rcases K.out with ⟨x, hw, k⟩ | ⟨ex, l', rfl, k⟩
        · unfold errA at k
          have W := Lib.hid hw
          clear hw
          go_enter Tryd.func41, Tryd.ntmps41
          go_wp2_with (first
            | (go_at_call 42; (with_reducible refine kb2.mono ?_); rintro e w1 ⟨rfl, h1, hb1⟩; have d0 := CEL.out w1 h1; have H1 := Lib.hid h1; have HB1 := Lib.hid hb1; clear hb1 h1)
            | (go_at_call 47; (with_reducible refine (ks _).mono ?_); rintro e w2 ⟨n, rfl, hn, rfl⟩)
            | (go_at_call 50; (with_reducible refine (k _ H1.out).mono ?_); rintro e w3 ⟨rfl, hb2⟩))
          exact ⟨rfl, AnsA.why W.out (HB1.out.trans hb2)⟩
        · unfold Well at k
          go_enter Tryd.func41, Tryd.ntmps41
          go_wp2_with (first
            | (go_at_call 42; (with_reducible refine kb2.mono ?_); rintro e w1 ⟨rfl, h1, hb1⟩; have d0 := CEL.out w1 h1; have H1 := Lib.hid h1; have HB1 := Lib.hid hb1; clear hb1 h1)
            | (go_at_call 47; (with_reducible refine (ks _).mono ?_); rintro e w2 ⟨n, rfl, hn, rfl⟩)
            | (go_at_call 50; (with_reducible refine (k _ H1.out).mono ?_); rintro e w3 ⟨⟨m, hev, rfl, h2⟩, hb2⟩; have HEV := Lib.hid hev; have H2 := Lib.hid h2; have HB2 := Lib.hid hb2; clear hev h2 hb2))
          refine bodyPost_ret (results_tmp rfl _ _ _) rfl ?_
          exact AnsA.both (fun hi => HEV.out hi) H2.out (HB1.out.trans HB2.out)
    · have k := k2 hsg hf
      have hrange : 48 ≤ (c.toNat : Int) ∧ (c.toNat : Int) ≤ 57 := by
        unfold isFig at hf
        simpa only [Bool.and_eq_true, decide_eq_true_eq] using hf
      obtain ⟨z, hz⟩ : ∃ z : Int, (c.toNat : Int) = z := ⟨_, rfl⟩
      have hzS : (S[0].toNat : Int) = z := by rw [hb]; exact hz
      rw [hz] at hrange ks
      obtain ⟨hz1, hz2⟩ := hrange
      clear k1 k2 k3 hsg hf hz hb
      have K := Lib.hid (split_ans k)
      clear k
      rcases K.out with ⟨x, hw, k⟩ | ⟨ex, l', rfl, k⟩
      · unfold errA at k
        have W := Lib.hid hw
        clear hw
        go_enter Tryd.func41, Tryd.ntmps41
        go_wp2_with (first
          | (go_at_call 42; (with_reducible refine kb2.mono ?_); rintro e w1 ⟨rfl, h1, hb1⟩; have d0 := CEL.out w1 h1; have H1 := Lib.hid h1; have HB1 := Lib.hid hb1; clear hb1 h1)
          | (go_at_call 47; (with_reducible refine (ks _).mono ?_); rintro e w2 ⟨n, rfl, hn, rfl⟩)
          | (go_at_call 49; (with_reducible refine (k _ H1.out).mono ?_); rintro e w3 ⟨rfl, hb2⟩))
        exact ⟨rfl, AnsA.why W.out (HB1.out.trans hb2)⟩
      · unfold Well at k
        go_enter Tryd.func41, Tryd.ntmps41
        go_wp2_with (first
          | (go_at_call 42; (with_reducible refine kb2.mono ?_); rintro e w1 ⟨rfl, h1, hb1⟩; have d0 := CEL.out w1 h1; have H1 := Lib.hid h1; have HB1 := Lib.hid hb1; clear hb1 h1)
          | (go_at_call 47; (with_reducible refine (ks _).mono ?_); rintro e w2 ⟨n, rfl, hn, rfl⟩)
          | (go_at_call 49; (with_reducible refine (k _ H1.out).mono ?_); rintro e w3 ⟨⟨m, hev, rfl, h2⟩, hb2⟩; have HEV := Lib.hid hev; have H2 := Lib.hid h2; have HB2 := Lib.hid hb2; clear hev h2 hb2))
        refine bodyPost_ret (results_tmp rfl _ _ _) rfl ?_
        exact AnsA.both (fun hi => HEV.out hi) H2.out (HB1.out.trans HB2.out)
  · rw [hsg] at ks
    have k := k1 hsg
    obtain ⟨z, hz⟩ : ∃ z : Int, (c.toNat : Int) = z := ⟨_, rfl⟩
    have hzS : (S[0].toNat : Int) = z := by rw [hb]; exact hz
    rw [hz] at ks
    clear k1 k2 k3 hsg hz hb
    have K := Lib.hid (split_ans k)
    clear k
    rcases K.out with ⟨x, hw, k⟩ | ⟨ex, l', rfl, k⟩
    · unfold errA at k
      have W := Lib.hid hw
      clear hw
      go_enter Tryd.func41, Tryd.ntmps41
      go_wp2_with (first
        | (go_at_call 42; (with_reducible refine kb2.mono ?_); rintro e w1 ⟨rfl, h1, hb1⟩; have d0 := CEL.out w1 h1; have H1 := Lib.hid h1; have HB1 := Lib.hid hb1; clear hb1 h1)
        | (go_at_call 47; (with_reducible refine (ks _).mono ?_); rintro e w2 ⟨n, rfl, hn, rfl⟩)
        | (go_at_call 48; (with_reducible refine (k _ H1.out).mono ?_); rintro e w3 ⟨rfl, hb2⟩))
      exact ⟨rfl, AnsA.why W.out (HB1.out.trans hb2)⟩
    · unfold Well at k
      go_enter Tryd.func41, Tryd.ntmps41
      go_wp2_with (first
        | (go_at_call 42; (with_reducible refine kb2.mono ?_); rintro e w1 ⟨rfl, h1, hb1⟩; have d0 := CEL.out w1 h1; have H1 := Lib.hid h1; have HB1 := Lib.hid hb1; clear hb1 h1)
        | (go_at_call 47; (with_reducible refine (ks _).mono ?_); rintro e w2 ⟨n, rfl, hn, rfl⟩)
        | (go_at_call 48; (with_reducible refine (k _ H1.out).mono ?_); rintro e w3 ⟨⟨m, hev, rfl, h2⟩, hb2⟩; have HEV := Lib.hid hev; have H2 := Lib.hid h2; have HB2 := Lib.hid hb2; clear hev h2 hb2))
      refine bodyPost_ret (results_tmp rfl _ _ _) rfl ?_
      exact AnsA.both (fun hi => HEV.out hi) H2.out (HB1.out.trans HB2.out)
end Go.Proofs.YtaaecgglocgcmaaDoor
namespace Go.Proofs.YtaaecgglocgcmaaDoor
open Go.RowKit Go.Lib

def RowC (p : Nat) (vv : Value) (vs : List Vr) (f : Nat) : Prop := ∀ (k d : Nat) (l : List UInt8) (i : Bool) (w : World), k ≤ 6 → d ≤ 30 → l.length ≤ 70000000000000 → pF f (.row k) d l ≠ .bad 0 → Good i (pF f (.row k) d l) → Rk p l vv d i w → EnvA p vv vs w →
  Calls Tryd.prog 31 #[.pointer (some ⟨p, 0, none⟩), .int .i64 (k : Int)] w (AnsA p vv d i (valA vs) w (pF f (.row k) d l))
def UnC (p : Nat) (vv : Value) (vs : List Vr) (f : Nat) : Prop := ∀ (d : Nat) (l : List UInt8) (i : Bool) (w : World), d ≤ 30 → l.length ≤ 70000000000000 → pF f .un d l ≠ .bad 0 → Good i (pF f .un d l) → Rk p l vv d i w → EnvA p vv vs w →
  Calls Tryd.prog 41 #[.pointer (some ⟨p, 0, none⟩)] w (AnsA p vv d i (valA vs) w (pF f .un d l))

theorem unC_step (p : Nat) (vv : Value) (vs : List Vr) (f : Nat) (hr : risesA vs = true) (hs : ∀ x ∈ vs, x.v.size ≤ 70000000000000) (h1 : RowC p vv vs f) (h2 : UnC p vv vs f) : UnC p vv vs (f + 1) := by
  intro d l i w hd hl hb hG h hE
  cases hsk : skipA l with
  | nil =>
    have e : pF (f + 1) .un d l = .bad 9 := by unfold pF; rw [hsk]
    rw [e]
    exact unary_end p l vv d i _ w h hsk
  | cons c r =>
    have hlr := skip_cons hsk
    have hcl : (c :: r).length ≤ l.length := by rw [← hsk]; exact skip_le l
    rw [un_eq f d l r c hsk] at hb hG ⊢
    unfold unR at hb hG ⊢
    refine unary_go p l r c vv vs d i _ _ w h hE hsk ?_ ?_ ?_
    · intro hc w hw
      rw [if_pos hc] at hb hG ⊢
      by_cases h30 : d = 30
      · subst h30
        rw [if_pos rfl] at hb hG ⊢
        exact nested_deep p (c :: r) vv i _ w hw.1
      · rw [if_neg h30] at hb hG ⊢
        refine nested_in p (c :: r) vv vs d i _ _ w hw.1 (by omega) hw.2 ?_
        intro w hw
        unfold heldR at hb hG ⊢
        have hu : ∀ (hb : pF f .un (d + 1) r ≠ .bad 0) (hG : Good i (pF f .un (d + 1) r)), ∀ w, (Rk p r vv (d + 1) i w ∧ EnvA p vv vs w) → Calls Tryd.prog 41 #[.pointer (some ⟨p, 0, none⟩)] w (AnsA p vv (d + 1) i (valA vs) w (pF f .un (d + 1) r)) :=
          fun hb hG w hw => h2 (d + 1) r i w (by omega) (by omega) hb hG hw.1 hw.2
        by_cases h40 : c = 40
        · subst h40
          rw [if_pos rfl] at hb hG ⊢
          have hb0 : pF f (.row 0) (d + 1) r ≠ .bad 0 := fun e => hb (by rw [e]; rfl)
          exact held_paren p r vv vs (d + 1) i _ _ w hw.1 (by omega) hw.2 hG (fun ex l' e => pF_short (Nat.zero_le _) e) (fun w hw => h1 0 (d + 1) r i w (Nat.zero_le _) (by omega) (by omega) hb0 (good_closed hG) hw.1 hw.2)
        · rw [if_neg h40] at hb hG ⊢
          by_cases h45 : c = 45
          · subst h45
            rw [if_pos rfl] at hb hG ⊢
            exact held_neg p r vv vs (d + 1) i _ _ w hw.1 (by omega) hw.2 (hu (fun e => hb (by rw [e]; rfl)) (good_map hG))
          · rw [if_neg h45] at hb hG ⊢
            by_cases h33 : c = 33
            · subst h33
              rw [if_pos rfl] at hb hG ⊢
              exact held_bang p r vv vs (d + 1) i _ _ w hw.1 (by omega) hw.2 (hu (fun e => hb (by rw [e]; rfl)) (good_map hG))
            · rw [if_neg h33] at hb hG ⊢
              have h43 : c = 43 := by
                simp at hc
                rcases hc with h | h | h | h
                · exact absurd h h45
                · exact h
                · exact absurd h h33
                · exact absurd h h40
              subst h43
              exact held_plus p r vv vs (d + 1) i _ _ w hw.1 (by omega) hw.2 (hu hb hG)
    · intro hc hf w hw
      rw [if_neg (by rw [hc]; simp)]
      have e : atomA c r = figA (c :: r) := by unfold atomA; rw [if_pos hf]
      rw [e]
      exact figuresA_any p (c :: r) vv d i _ w hw.1 (by omega)
    · intro hc hf w hw
      rw [if_neg (by rw [hc]; simp), atom_var c r hf]
      exact variableA_any p (c :: r) vv d i vs w hw.1 (by omega) hw.2.2 hr hs

theorem skipped_why {i : Bool} {V : List UInt8 → Cm} {R : Pr} {x : Int} (h : Why i V R x) : Why i V R.skipped x := by
  rcases h with rfl | ⟨hi, ex, l, rfl, he⟩
  · exact .inl rfl
  · exact .inr ⟨hi, ex, skipA l, rfl, he⟩
theorem good_skipped {i : Bool} {R : Pr} (h : Good i R.skipped) : Good i R := by
  rcases h with h | ⟨ex, l, h⟩
  · exact .inl h
  · cases R with
    | bad x => cases h
    | ok e l => exact .inr ⟨e, l, rfl⟩
set_option maxHeartbeats 1000000 in
set_option maxRecDepth 20000 in
/-- A row of the last level. -/
theorem row_six (p : Nat) (l : List UInt8) (vv : Value) (vs : List Vr) (d : Nat) (i : Bool) (V : List UInt8 → Cm) (R : Pr) (w : World) (h : Rk p l vv d i w) (hE : EnvA p vv vs w)
    (kr : ∀ w, (Rk p l vv d i w ∧ EnvA p vv vs w) → Calls Tryd.prog 41 #[.pointer (some ⟨p, 0, none⟩)] w (AnsA p vv d i V w R)) :
    Calls Tryd.prog 31 #[.pointer (some ⟨p, 0, none⟩), .int .i64 6] w (AnsA p vv d i V w R.skipped) := by
  rcases split_ans kr with ⟨x, hw, k⟩ | ⟨ex, l', rfl, k⟩
  · have k2 := k _ ⟨h, hE⟩
    have W := Lib.hid (skipped_why hw)
    clear h hE hw kr k
    unfold errA at k2
    go_enter Tryd.func31, Tryd.ntmps31
    go_wp2_with (go_at_call 41; (with_reducible refine k2.mono ?_); rintro e w1 ⟨rfl, hb2⟩)
    exact ⟨rfl, AnsA.why W.out hb2⟩
  · have k2 := k _ ⟨h, hE⟩
    unfold Well at k2
    clear h hE kr k
    have KB := Lib.hid (fun (w1 : World) (h1 : Rk p l' vv d i w1) => blanksA_any p l' vv d i w1 h1)
    go_enter Tryd.func31, Tryd.ntmps31
    go_wp2_with (first
      | (go_at_call 41; (with_reducible refine k2.mono ?_); rintro e w1 ⟨⟨n, hev, rfl, h2⟩, hb2⟩; have kb := KB.out w1 h2; have HEV := Lib.hid hev; have HB2 := Lib.hid hb2; clear hev h2 hb2)
      | (go_at_call 42; (with_reducible refine kb.mono ?_); rintro e w2 ⟨rfl, h3, hb3⟩))
    refine bodyPost_ret (results_tmp rfl _ _ _) rfl ?_
    exact AnsA.both (fun hi => HEV.out hi) h3 (HB2.out.trans hb3)

/-- How the loop stands. -/
def LoopI (p : Nat) (vv : Value) (d k f : Nat) (i : Bool) (V : List UInt8 → Cm) (R : Pr) (w : World) (g : Nat) (v : Value) (wr : World) : Prop :=
  ∃ (e : Ex) (l : List UInt8) (n : Int), v = .int .i64 n ∧ Rk p l vv d i wr ∧ Below p w wr ∧ l.length ≤ 70000000000000 ∧ g ≤ f ∧ pF g (.more k e) d l = R ∧ (i = false → ev V e = .is n)
theorem mark_full (m : Mk) : (⟨(markTx m).toArray⟩ : ByteArray).toList.isEmpty = false := by
  rw [ByteArray.toList_eq]
  cases m <;> rfl
set_option maxHeartbeats 4000000 in
set_option maxRecDepth 20000 in
theorem row_go (p : Nat) (vv : Value) (vs : List Vr) (f k d : Nat) (l : List UInt8) (i : Bool) (w : World) (IH : ∀ g, g ≤ f → RowC p vv vs g) (hk : k < 6) (hd : d ≤ 30) (hl : l.length ≤ 70000000000000) (hb : pF (f + 1) (.row k) d l ≠ .bad 0) (hG : Good i (pF (f + 1) (.row k) d l)) (h : Rk p l vv d i w) (hE : EnvA p vv vs w) :
    Calls Tryd.prog 31 #[.pointer (some ⟨p, 0, none⟩), .int .i64 (k : Int)] w (AnsA p vv d i (valA vs) w (pF (f + 1) (.row k) d l)) := by
  have e0 : pF (f + 1) (.row k) d l = match pF f (.row (k + 1)) d l with
      | .ok e r => pF f (.more k e) d r
      | .bad x => .bad x := by
    show (if k = 6 then _ else _) = _
    rw [if_neg (by omega)]
    rfl
  have hkb : ((k : Int) == 6) = false := by rw [beq_eq_false_iff_ne]; omega
  have hk6 : (k : Int) < 6 := by omega
  have hk0 : (0 : Int) ≤ (k : Int) := by omega
  rw [e0] at hb hG ⊢
  have hb1 : pF f (.row (k + 1)) d l ≠ .bad 0 := fun e => hb (by rw [e])
  have hg1 : Good i (pF f (.row (k + 1)) d l) := by
    rcases hG with h | ⟨ex, l', h⟩
    · exact .inl h
    · cases hr : pF f (.row (k + 1)) d l with
      | bad x => rw [hr] at h; cases h
      | ok e r => exact .inr ⟨e, r, rfl⟩
  have kr : ∀ w, (Rk p l vv d i w ∧ EnvA p vv vs w) → Calls Tryd.prog 31 #[.pointer (some ⟨p, 0, none⟩), .int .i64 ((k : Int) + 1)] w (AnsA p vv d i (valA vs) w (pF f (.row (k + 1)) d l)) := fun w hw => by
    have := IH f (Nat.le_refl _) (k + 1) d l i w (by omega) hd hl hb1 hg1 hw.1 hw.2
    rw [show ((k + 1 : Nat) : Int) = (k : Int) + 1 by omega] at this
    exact this
  rcases split_ans kr with ⟨x, hw, kx⟩ | ⟨e1, l1, hR1, kx⟩
  · have k2 := kx _ ⟨h, hE⟩
    have W : Hid (Why i (valA vs) (match pF f (.row (k + 1)) d l with | .ok e r => pF f (.more k e) d r | .bad x => .bad x) x) := by
      show Why i (valA vs) (match pF f (.row (k + 1)) d l with | .ok e r => pF f (.more k e) d r | .bad x => .bad x) x
      rcases hw with hw | ⟨hi, ex, l', hw, hx⟩
      · rw [hw]; exact .inl rfl
      · rw [hw] at hG ⊢
        rcases hG with h | ⟨E, r, h⟩
        · rw [hi] at h; cases h
        · exact .inr ⟨hi, E, r, h, more_no _ f k ex d l' r E x h hx⟩
    clear h hE hw kr kx hb hG hb1 hg1 IH e0
    generalize (match pF f (.row (k + 1)) d l with | .ok e r => pF f (.more k e) d r | .bad x => .bad x) = R at *
    unfold errA at k2
    go_enter Tryd.func31, Tryd.ntmps31
    go_wp2_with (go_at_call 31; (with_reducible refine k2.mono ?_); rintro e w1 ⟨rfl, hb2⟩)
    exact ⟨rfl, AnsA.why W.out hb2⟩
  · have k2 := kx _ ⟨h, hE⟩
    unfold Well at k2
    rw [hR1] at hb hG ⊢
    have hl1 : l1.length ≤ l.length := pF_short (by show k + 1 ≤ 6; omega) hR1
    simp only [] at hb hG ⊢
    obtain ⟨R, hR⟩ : ∃ R, R = pF f (.more k e1) d l1 := ⟨_, rfl⟩
    rw [← hR] at hb hG ⊢
    have START : Hid (∀ n w1, (i = false → ev (valA vs) e1 = .is n) → Rk p l1 vv d i w1 → Below p w w1 → LoopI p vv d k f i (valA vs) R w f (.int .i64 n) w1) := by
      show ∀ n w1, (i = false → ev (valA vs) e1 = .is n) → Rk p l1 vv d i w1 → Below p w w1 → LoopI p vv d k f i (valA vs) R w f (.int .i64 n) w1
      exact fun n w1 he hrk hbl => ⟨e1, l1, n, rfl, hrk, hbl, by omega, Nat.le_refl _, hR.symm, he⟩
    have HIH := Lib.hid IH
    have HE := Lib.hid hE
    have HG := Lib.hid hG
    have HBZ := Lib.hid hb
    clear h hE kr kx hb hG hb1 hg1 IH e0 hR1 hR hl1
    go_enter Tryd.func31, Tryd.ntmps31
    go_wp2_with (go_at_call 31; (with_reducible refine k2.mono ?_); rintro e w1 ⟨⟨n, hev, rfl, h2⟩, hb2⟩; have HST := Lib.hid (START.out n w1 hev h2 hb2); clear hev h2 hb2)
    go_loopg [6] f (fun g v wr => Hid (LoopI p vv d k f i (valA vs) R w g v wr))
    case atStart => exact HST.out
    case round =>
      obtain ⟨e, l2, n, rfl, hrk, hbl, hl2, hgf, hpf, hev⟩ := hrel.out
      clear hrel HST
      cases gk with
      | zero => exact absurd hpf.symm (by have := HBZ.out; intro e0; exact this e0)
      | succ g =>
        have hM := (HE.out.below hbl).1
        have km := markA_any p l2 vv d i k wr hrk hM hk hl2
        have e2 : pF (g + 1) (.more k e) d l2 = match markIn (marksAt k) l2 with
            | none => .ok e l2
            | some (m, r) => match pF g (.row (k + 1)) d r with
              | .ok b r' => pF g (.more k (.bin m e b)) d r'
              | .bad x => .bad x := rfl
        rw [e2] at hpf
        clear e2
        cases hm : markIn (marksAt k) l2 with
        | none =>
          rw [hm] at km hpf
          simp only [] at hpf
          subst hpf
          have FIN : Hid (AnsA p vv d i (valA vs) w (.ok e l2) (.returned (.int .i64 n)) wr) := AnsA.both hev hrk hbl
          have km2 : Calls Tryd.prog 43 #[.pointer (some ⟨p, 0, none⟩), .int .i64 (k : Int)] wr fun e' w' => e' = .returned (.string ByteArray.empty) ∧ w' = wr := km
          clear km hM hm hrk hbl hl2 hgf hev HIH HG HBZ
          go_wp2_with (go_at_call 43; (with_reducible refine km2.mono ?_); rintro e' w1 ⟨rfl, rfl⟩)
          refine bodyPost_ret (results_tmp rfl _ _ _) rfl ?_
          exact FIN.out
        | some mr =>
          obtain ⟨m, r⟩ := mr
          rw [hm] at km hpf
          simp only [] at hpf
          have hlr := mark_lt hm
          have km2 : Calls Tryd.prog 43 #[.pointer (some ⟨p, 0, none⟩), .int .i64 (k : Int)] wr fun e' w' => e' = .returned (.string ⟨(markTx m).toArray⟩) ∧ Rk p r vv d i w' ∧ Below p wr w' := km
          have hb2 : pF g (.row (k + 1)) d r ≠ .bad 0 := fun e0 => HBZ.out (by rw [← hpf, e0])
          have hg2 : Good i (pF g (.row (k + 1)) d r) := by
            rcases HG.out with h | ⟨ex, l', h⟩
            · exact .inl h
            · cases hr : pF g (.row (k + 1)) d r with
              | bad x => rw [hr] at hpf; rw [← hpf] at h; cases h
              | ok e r => exact .inr ⟨e, r, rfl⟩
          have kj : ∀ w1, Rk p r vv d i w1 → Below p wr w1 → Calls Tryd.prog 44 #[.pointer (some ⟨p, 0, none⟩), .int .i64 n, .string ⟨(markTx m).toArray⟩, .int .i64 ((k : Int) + 1)] w1 (AnsA p vv d i (valA vs) w1 (binR m e (pF g (.row (k + 1)) d r))) := fun w1 h1 hbl1 => by
            have := joinedA_any p (k + 1) r vv vs d i (valA vs) m e n (pF g (.row (k + 1)) d r) w1 h1 ((HE.out.below hbl).below hbl1) hg2 hev (fun j hj w hw => HIH.out g (by omega) (k + 1) d r j w (by omega) hd (by omega) hb2 hj hw.1 hw.2)
            rw [show ((k + 1 : Nat) : Int) = (k : Int) + 1 by omega] at this
            exact this
          have hfull := mark_full m
          generalize (⟨(markTx m).toArray⟩ : ByteArray) = M at *
          have KS := Lib.hid (split_ans (C := fun w1 => Rk p r vv d i w1 ∧ Below p wr w1) (d := d) (i := i) (V := valA vs) (R := binR m e (pF g (.row (k + 1)) d r)) (vv := vv) (p := p) (F := 44) (args := #[.pointer (some ⟨p, 0, none⟩), .int .i64 n, .string M, .int .i64 ((k : Int) + 1)]) (fun w1 hw => kj w1 hw.1 hw.2))
          have HBL := Lib.hid hbl
          clear km hM kj hm hrk hbl hev
          rcases KS.out with ⟨x, hw, kx⟩ | ⟨E, l3, hE3, kx⟩
          · have W : Hid (Why i (valA vs) R x) := by
              show Why i (valA vs) R x
              rcases hw with hw | ⟨hi, ex, l', hw, hx⟩
              · cases hr : pF g (.row (k + 1)) d r with
                | bad y => rw [hr] at hw hpf; cases hw; exact .inl hpf.symm
                | ok b r' => rw [hr] at hw; cases hw
              · cases hr : pF g (.row (k + 1)) d r with
                | bad y => rw [hr] at hw; cases hw
                | ok b r' =>
                  rw [hr] at hw hpf
                  have hpf2 : pF g (.more k (.bin m e b)) d r' = R := hpf
                  cases hw
                  rcases HG.out with h | ⟨E, r2, h⟩
                  · rw [hi] at h; cases h
                  · exact .inr ⟨hi, E, r2, h, more_no (valA vs) g k (.bin m e b) d _ r2 E x (hpf2.trans h) hx⟩
            unfold errA at kx
            clear hw hpf hb2 hg2 HIH HG HBZ KS
            go_wp2_with (first
              | (go_at_call 43; (with_reducible refine km2.mono ?_); rintro e' w1 ⟨rfl, h1, hb1⟩; have kx2 := kx w1 ⟨h1, hb1⟩; have HB1 := Lib.hid hb1; clear h1 hb1)
              | (go_at_call 44; (with_reducible refine kx2.mono ?_); rintro e' w2 ⟨rfl, hb2⟩))
            exact ⟨rfl, AnsA.why W.out ((HBL.out.trans HB1.out).trans hb2)⟩
          · have NEXT : Hid (∀ n3 w3, (i = false → ev (valA vs) E = .is n3) → Rk p l3 vv d i w3 → Below p wr w3 → LoopI p vv d k f i (valA vs) R w g (.int .i64 n3) w3) := by
              show ∀ n3 w3, (i = false → ev (valA vs) E = .is n3) → Rk p l3 vv d i w3 → Below p wr w3 → LoopI p vv d k f i (valA vs) R w g (.int .i64 n3) w3
              intro n3 w3 he3 h3 hb3
              cases hr : pF g (.row (k + 1)) d r with
              | bad y => rw [hr] at hE3; cases hE3
              | ok b r' =>
                rw [hr] at hE3 hpf
                have hs := pF_short (j := .row (k + 1)) (show k + 1 ≤ 6 by omega) hr
                cases hE3
                exact ⟨_, _, n3, rfl, h3, HBL.out.trans hb3, by omega, by omega, hpf, he3⟩
            unfold Well at kx
            clear hpf hb2 hg2 HIH HG HBZ KS hE3
            go_wp2_with (first
              | (go_at_call 43; (with_reducible refine km2.mono ?_); rintro e' w1 ⟨rfl, h1, hb1⟩; have kx2 := kx w1 ⟨h1, hb1⟩; have HB1 := Lib.hid hb1; clear h1 hb1)
              | (go_at_call 44; (with_reducible refine kx2.mono ?_); rintro e' w2 ⟨⟨n3, he3, rfl, h3⟩, hb3⟩; have HN := Lib.hid (NEXT.out n3 w2 he3 h3 (HB1.out.trans hb3)); clear he3 h3 hb3))
            go_roundg g
            case measure => omega
            case rel => exact HN.out

theorem row_all (p : Nat) (vv : Value) (vs : List Vr) (hr : risesA vs = true) (hs : ∀ x ∈ vs, x.v.size ≤ 70000000000000) : ∀ f, RowC p vv vs f ∧ UnC p vv vs f := by
  intro f
  induction f using Nat.strongRecOn with
  | ind f ih =>
    cases f with
    | zero => exact ⟨fun k d l i w _ _ _ hb => absurd rfl hb, fun d l i w _ _ hb => absurd rfl hb⟩
    | succ f =>
      refine ⟨?_, unC_step p vv vs f hr hs (ih f (Nat.lt_succ_self _)).1 (ih f (Nat.lt_succ_self _)).2⟩
      intro k d l i w hk hd hl hb hG h hE
      by_cases h6 : k = 6
      · subst h6
        have e : pF (f + 1) (.row 6) d l = (pF f .un d l).skipped := rfl
        rw [e] at hb hG ⊢
        exact row_six p l vv vs d i _ _ w h hE (fun w hw => (ih f (Nat.lt_succ_self _)).2 d l i w hd hl (fun e => hb (by rw [e]; rfl)) (good_skipped hG) hw.1 hw.2)
      · exact row_go p vv vs f k d l i w (fun g hg => (ih g (Nat.lt_succ_of_le hg)).1) (by omega) hd hl hb hG h hE
end Go.Proofs.YtaaecgglocgcmaaDoor
