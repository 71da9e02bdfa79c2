/- Packed texts: ArEvUnary, ArEvOr, ArEvAnd, ArEvEqual. What each of them proves stands above its theorems; the conditions stand in these. -/
import Derived.Deep.Cut
import Derived.Test.YtaaecgglocgcmaaDoorD5
namespace Go.Proofs.YtaaecgglocgcmaaDoor
open Go.RowKit Go.Lib

def UnE (p : Nat) (S : ByteArray) (vv : Value) (vs : List Vr) (f : Nat) : Prop := ∀ (d : Nat) (l : List UInt8) (wv : Int) (live : Bool) (w : World), d ≤ 30 → pF f .un d l ≠ .bad 0 → RL p S vv vs l (d : Int) wv w → Calls Tryd.prog 77 #[.pointer (some ⟨p, 0, none⟩), .bool live] w (AnsE p S vv vs d wv live w (pF f .un d l))
def atomP : List UInt8 → Pr
  | [] => .bad 9
  | c :: r => atomA c r
def OpE (p : Nat) (S : ByteArray) (vv : Value) (vs : List Vr) : Prop := ∀ (d : Nat) (l : List UInt8) (wv : Int) (live : Bool) (w : World), RL p S vv vs l (d : Int) wv w → Calls Tryd.prog 83 #[.pointer (some ⟨p, 0, none⟩), .bool live] w (AnsE p S vv vs d wv live w (atomP l))
theorem RL.up {p : Nat} {S : ByteArray} {vv : Value} {vs : List Vr} {l : List UInt8} {d : Nat} {wv : Int} {w : World} (h : RL p S vv vs l ((d + 1 : Nat) : Int) wv w) :
    w.cell? ⟨p, 2, none⟩ = some (.int .i64 ((d : Int) + 1)) ∧ w.frozen? ⟨p, 2, none⟩ = false ∧ RL p S vv vs l (d : Int) wv (w.setCell ⟨p, 2, none⟩ (.int .i64 (d : Int))) ∧ Below p w (w.setCell ⟨p, 2, none⟩ (.int .i64 (d : Int))) := by
  obtain ⟨a, h1, h2, h3, h4⟩ := h
  have c := h1.cells
  refine ⟨by rw [show (d : Int) + 1 = ((d + 1 : Nat) : Int) by omega]; exact c.1.2.2.1, c.2.2.1, ⟨a, h1.deep _, h2, h3, h4.below (below_put _ _)⟩, below_put _ _⟩
theorem RD.up {p : Nat} {S : ByteArray} {vv : Value} {x : Int} {w : World} (h : RD p S vv x w) :
    ∃ y, w.cell? ⟨p, 2, none⟩ = some (.int .i64 y) ∧ w.frozen? ⟨p, 2, none⟩ = false ∧ ∀ z, RD p S vv x (w.setCell ⟨p, 2, none⟩ (.int .i64 z)) ∧ Below p w (w.setCell ⟨p, 2, none⟩ (.int .i64 z)) := by
  obtain ⟨a, d, wv, h1, h2⟩ := h
  have c := h1.cells
  exact ⟨d, c.1.2.2.1, c.2.2.1, fun z => ⟨⟨a, z, wv, h1.deep z, h2⟩, below_put _ _⟩⟩
theorem val_neg {V : List UInt8 → Cm} {live : Bool} {wv wv1 n : Int} {ex : Ex} (h : ValE V live wv ex n wv1) : ValE V live wv (.neg ex) (wrap64 (-n)) wv1 := by
  unfold ValE at h ⊢
  split
  · rename_i hl
    rw [if_pos hl] at h
    rcases h with ⟨m, h1, rfl, h2⟩ | ⟨x, h1, h2⟩
    · exact .inl ⟨_, by unfold ev; rw [h1], rfl, h2⟩
    · exact .inr ⟨x, by unfold ev; rw [h1], h2⟩
  · rename_i hl
    rw [if_neg hl] at h
    exact h
theorem val_bang {V : List UInt8 → Cm} {live : Bool} {wv wv1 n : Int} {ex : Ex} (h : ValE V live wv ex n wv1) : ValE V live wv (.bang ex) (tellA (n == 0)) wv1 := by
  unfold ValE at h ⊢
  split
  · rename_i hl
    rw [if_pos hl] at h
    rcases h with ⟨m, h1, rfl, h2⟩ | ⟨x, h1, h2⟩
    · exact .inl ⟨_, by unfold ev; rw [h1], rfl, h2⟩
    · exact .inr ⟨x, by unfold ev; rw [h1], h2⟩
  · rename_i hl
    rw [if_neg hl] at h
    exact h
theorem fails_dead {p : Nat} {S : ByteArray} {vv : Value} {x : Int} {w : World} (h : RD p S vv x w) (hx : x ≠ 0) :
    Calls Tryd.prog 27 #[.pointer (some ⟨p, 0, none⟩), .int .i64 9] w fun e w' => e = .returned (.tuple #[]) ∧ RD p S vv x w' ∧ Below p w w' := by
  obtain ⟨a, d, wv, h1, h2⟩ := h
  refine (failsE_any p S a d vv x wv 9 w h1).mono fun e w' ⟨he, g, hb⟩ => ⟨he, ?_, hb⟩
  rw [if_neg hx] at g
  exact ⟨a, d, wv, g, h2⟩
theorem fails_live {p : Nat} {S : ByteArray} {vv : Value} {vs : List Vr} {l : List UInt8} {d wv : Int} {w : World} (h : RL p S vv vs l d wv w) :
    Calls Tryd.prog 27 #[.pointer (some ⟨p, 0, none⟩), .int .i64 9] w fun e w' => e = .returned (.tuple #[]) ∧ RD p S vv 9 w' ∧ Below p w w' := by
  obtain ⟨a, h1, h2, h3, h4⟩ := h
  exact (failsE_any p S a d vv 0 wv 9 w h1).mono fun e w' ⟨he, g, hb⟩ => ⟨he, ⟨a, d, wv, by rw [if_pos rfl] at g; exact g, h2⟩, hb⟩
theorem deeper_no {p : Nat} {S : ByteArray} {vv : Value} {vs : List Vr} {l : List UInt8} {wv : Int} {w : World} (h : RL p S vv vs l ((30 : Nat) : Int) wv w) :
    Calls Tryd.prog 82 #[.pointer (some ⟨p, 0, none⟩)] w fun e w' => e = .returned (.bool false) ∧ RD p S vv 7 w' ∧ Below p w w' := by
  obtain ⟨a, h1, h2, h3, h4⟩ := h
  exact (deeperE_no p S a vv wv w h1).mono fun e w' ⟨he, g, hb⟩ => ⟨he, ⟨a, 30, wv, g, h2⟩, hb⟩
theorem deeper_ok {p : Nat} {S : ByteArray} {vv : Value} {vs : List Vr} {l : List UInt8} {d : Nat} {wv : Int} {w : World} (h : RL p S vv vs l (d : Int) wv w) (hd : d < 30) :
    Calls Tryd.prog 82 #[.pointer (some ⟨p, 0, none⟩)] w fun e w' => e = .returned (.bool true) ∧ RL p S vv vs l ((d + 1 : Nat) : Int) wv w' ∧ Below p w w' := by
  obtain ⟨a, h1, h2, h3, h4⟩ := h
  exact (deeperE_ok p S a d vv wv w h1 hd).mono fun e w' ⟨he, g, hb⟩ => ⟨he, ⟨a, g, h2, h3, h4.below hb⟩, hb⟩

theorem ans_ret {p : Nat} {S : ByteArray} {vv : Value} {vs : List Vr} {d : Nat} {wv : Int} {live : Bool} {w w' : World} {R : Pr} {e : Ending} (h : AnsE p S vv vs d wv live w R e w') : ∃ n, e = .returned (.int .i64 n) := by
  cases R with
  | bad x => exact h.1
  | ok ex r => obtain ⟨n, _, he, _⟩ := h; exact ⟨n, he⟩
theorem ans_far {p : Nat} {S : ByteArray} {vv : Value} {vs : List Vr} {d : Nat} {wv : Int} {live : Bool} {w0 w w' : World} {R : Pr} {e : Ending} (hb : Below p w0 w) (h : AnsE p S vv vs d wv live w R e w') : AnsE p S vv vs d wv live w0 R e w' := by
  cases R with
  | bad x => exact ⟨h.1, h.2.1, hb.trans h.2.2⟩
  | ok ex r => obtain ⟨n, wv1, h1, h2, h3, h4⟩ := h; exact ⟨n, wv1, h1, h2, h3, hb.trans h4⟩
set_option maxHeartbeats 4000000 in
set_option maxRecDepth 20000 in
theorem un_neg (p : Nat) (S : ByteArray) (vv : Value) (vs : List Vr) (f d : Nat) (l r : List UInt8) (wv : Int) (live : Bool) (w : World) (hS : S.size ≤ 1000) (IH : UnE p S vv vs f) (hsk : skipA l = 45 :: r) (hd : d ≤ 30) (hb : (if d = 30 then .bad 7 else (pF f .un (d + 1) r).map .neg) ≠ Pr.bad 0) (h : RL p S vv vs l (d : Int) wv w) :
    Calls Tryd.prog 77 #[.pointer (some ⟨p, 0, none⟩), .bool live] w (AnsE p S vv vs d wv live w (if d = 30 then .bad 7 else (pF f .un (d + 1) r).map .neg)) := by
  have HXX : Hid (skipA (45 :: r) = 45 :: r) := by show _ = _; rw [← hsk]; exact skip_skip l
  have N : Hid (∀ n : UInt8, n ≠ 45 → ((⟨#[n]⟩ : ByteArray).data.toList.isPrefixOf (45 :: r) = false)) := by
    show ∀ n : UInt8, n ≠ 45 → ((⟨#[n]⟩ : ByteArray).data.toList.isPrefixOf (45 :: r) = false)
    intro n hn
    show (n == 45 && _) = false
    simp [hn]
  have Y : Hid ((⟨#[45]⟩ : ByteArray).data.toList.isPrefixOf (45 :: r) = true) := by show (45 == 45 && _) = true; simp
  have H0 := Lib.hid h
  have E0 : Hid (Below p w w) := Below.refl _ _
  have HX := Lib.hid hsk
  have KY := Lib.hid (fun (M : ByteArray) (hM : M.size ≤ 2) (w1 : World) (l1 r : List UInt8) (hl : skipA l1 = r) (hp : M.data.toList.isPrefixOf r = true) (h1 : RL p S vv vs l1 (d : Int) wv w1) => is_yes h1 hS hM hl hp)
  have KN := Lib.hid (fun (M : ByteArray) (hM : M.size ≤ 2) (w1 : World) (l1 r : List UInt8) (hl : skipA l1 = r) (hp : M.data.toList.isPrefixOf r = false) (h1 : RL p S vv vs l1 (d : Int) wv w1) => is_no h1 hS hM hl hp)
  clear h hsk
  by_cases h30 : d = 30
  · subst h30
    rw [if_pos rfl]
    clear hb IH
    go_enter Tryd.func77, Tryd.ntmps77
    go_wp2_with (first
      | (go_at_call 33; (with_reducible refine (KY.out ⟨#[45]⟩ (by decide) _ _ _ HX.out Y.out H0.out).mono ?_); rintro e v0 ⟨rfl, hl0, hb0⟩; have HY : Hid (RL p S vv vs r ((30 : Nat) : Int) wv v0) := hl0; have EY := Lib.hid (E0.out.trans hb0); clear hl0 hb0 H0 E0)
      | (go_at_call 82; (with_reducible refine (deeper_no HY.out).mono ?_); rintro e w3 ⟨rfl, hD, hb3⟩; have DD := Lib.hid hD; have ED := Lib.hid (EY.out.trans hb3); clear hD hb3))
    go_ret
    exact ⟨⟨_, rfl⟩, DD.out, ED.out⟩
  · rw [if_neg h30] at hb ⊢
    have hd2 : d < 30 := by omega
    have hwd : IntKind.i64.wrap (d : Int) = (d : Int) := IntWalk.i64_in _ (by omega)
    cases hs : pF f .un (d + 1) r with
    | bad x =>
      have hx : x ≠ 0 := fun e => hb (by rw [hs, e]; first | done | rfl)
      have KS := Lib.hid (fun (w1 : World) (h1 : RL p S vv vs r ((d + 1 : Nat) : Int) wv w1) => by have := IH (d + 1) r wv live w1 (by omega) (by rw [hs]; exact fun e => hx (by cases e; rfl)) h1; rw [hs] at this; exact this)
      clear hb hs IH
      go_enter Tryd.func77, Tryd.ntmps77
      go_wp2_with (first
        | (go_at_call 33; (with_reducible refine (KY.out ⟨#[45]⟩ (by decide) _ _ _ HX.out Y.out H0.out).mono ?_); rintro e v0 ⟨rfl, hl0, hb0⟩; have HY : Hid (RL p S vv vs r (d : Int) wv v0) := hl0; have EY := Lib.hid (E0.out.trans hb0); clear hl0 hb0 H0 E0)
        | (go_at_call 82; (with_reducible refine (deeper_ok HY.out hd2).mono ?_); rintro e w3 ⟨rfl, hD, hb3⟩; have HD := Lib.hid hD; have ED := Lib.hid (EY.out.trans hb3); clear hD hb3)
        | (go_at_call 77; (with_reducible refine (KS.out _ HD.out).mono ?_); rintro e w4 ⟨⟨n, rfl⟩, hD, hb4⟩; obtain ⟨y, cy, fy, hup⟩ := hD.up; have UP := Lib.hid hup; have EU := Lib.hid (ED.out.trans hb4); clear hD hb4 hup))
      go_ret
      exact ⟨⟨_, rfl⟩, (UP.out _).1, EU.out.trans (UP.out _).2⟩
    | ok ex r2 =>
      have KS := Lib.hid (fun (w1 : World) (h1 : RL p S vv vs r ((d + 1 : Nat) : Int) wv w1) => by have := IH (d + 1) r wv live w1 (by omega) (by rw [hs]; exact fun e => by cases e) h1; rw [hs] at this; exact this)
      clear hb hs IH
      go_enter Tryd.func77, Tryd.ntmps77
      go_wp2_with (first
        | (go_at_call 33; (with_reducible refine (KY.out ⟨#[45]⟩ (by decide) _ _ _ HX.out Y.out H0.out).mono ?_); rintro e v0 ⟨rfl, hl0, hb0⟩; have HY : Hid (RL p S vv vs r (d : Int) wv v0) := hl0; have EY := Lib.hid (E0.out.trans hb0); clear hl0 hb0 H0 E0)
        | (go_at_call 82; (with_reducible refine (deeper_ok HY.out hd2).mono ?_); rintro e w3 ⟨rfl, hD, hb3⟩; have HD := Lib.hid hD; have ED := Lib.hid (EY.out.trans hb3); clear hD hb3)
        | (go_at_call 77; (with_reducible refine (KS.out _ HD.out).mono ?_); rintro e w4 ⟨n, wv1, rfl, ⟨l4, hL, hs4⟩, hval, hb4⟩; obtain ⟨cy, fy, hup, hbu⟩ := hL.up; have UP := Lib.hid hup; have VAL := Lib.hid hval; have HS4 := Lib.hid hs4; have EU := Lib.hid ((ED.out.trans hb4).trans hbu); clear hL hb4 hup hs4 hval hbu))
      go_ret
      refine ⟨wrap64 (-n), wv1, ?_, ⟨l4, UP.out, HS4.out⟩, val_neg VAL.out, EU.out⟩
      first | rfl | (simp [wrap64]; done) | (rw [show -n = 0 - n by omega]; rfl)
set_option maxHeartbeats 4000000 in
set_option maxRecDepth 20000 in
theorem un_plus (p : Nat) (S : ByteArray) (vv : Value) (vs : List Vr) (f d : Nat) (l r : List UInt8) (wv : Int) (live : Bool) (w : World) (hS : S.size ≤ 1000) (IH : UnE p S vv vs f) (hsk : skipA l = 43 :: r) (hd : d ≤ 30) (hb : (if d = 30 then .bad 7 else pF f .un (d + 1) r) ≠ Pr.bad 0) (h : RL p S vv vs l (d : Int) wv w) :
    Calls Tryd.prog 77 #[.pointer (some ⟨p, 0, none⟩), .bool live] w (AnsE p S vv vs d wv live w (if d = 30 then .bad 7 else pF f .un (d + 1) r)) := by
  have HXX : Hid (skipA (43 :: r) = 43 :: r) := by show _ = _; rw [← hsk]; exact skip_skip l
  have N : Hid (∀ n : UInt8, n ≠ 43 → ((⟨#[n]⟩ : ByteArray).data.toList.isPrefixOf (43 :: r) = false)) := by
    show ∀ n : UInt8, n ≠ 43 → ((⟨#[n]⟩ : ByteArray).data.toList.isPrefixOf (43 :: r) = false)
    intro n hn
    show (n == 43 && _) = false
    simp [hn]
  have Y : Hid ((⟨#[43]⟩ : ByteArray).data.toList.isPrefixOf (43 :: r) = true) := by show (43 == 43 && _) = true; simp
  have H0 := Lib.hid h
  have E0 : Hid (Below p w w) := Below.refl _ _
  have HX := Lib.hid hsk
  have KY := Lib.hid (fun (M : ByteArray) (hM : M.size ≤ 2) (w1 : World) (l1 r : List UInt8) (hl : skipA l1 = r) (hp : M.data.toList.isPrefixOf r = true) (h1 : RL p S vv vs l1 (d : Int) wv w1) => is_yes h1 hS hM hl hp)
  have KN := Lib.hid (fun (M : ByteArray) (hM : M.size ≤ 2) (w1 : World) (l1 r : List UInt8) (hl : skipA l1 = r) (hp : M.data.toList.isPrefixOf r = false) (h1 : RL p S vv vs l1 (d : Int) wv w1) => is_no h1 hS hM hl hp)
  clear h hsk
  by_cases h30 : d = 30
  · subst h30
    rw [if_pos rfl]
    clear hb IH
    go_enter Tryd.func77, Tryd.ntmps77
    go_wp2_with (first
      | (go_at_call 33; (with_reducible refine (KN.out ⟨#[45]⟩ (by decide) _ _ _ HX.out (N.out 45 (by decide)) H0.out).mono ?_); rintro e v0 ⟨rfl, hl0, hb0⟩; have H1 := Lib.hid hl0; have E1 := Lib.hid (E0.out.trans hb0); clear hl0 hb0 H0 E0)
      | (go_at_call 33; (with_reducible refine (KY.out ⟨#[43]⟩ (by decide) _ _ _ HXX.out Y.out H1.out).mono ?_); rintro e v1 ⟨rfl, hl1, hb1⟩; have HY : Hid (RL p S vv vs r ((30 : Nat) : Int) wv v1) := hl1; have EY := Lib.hid (E1.out.trans hb1); clear hl1 hb1 H1 E1)
      | (go_at_call 82; (with_reducible refine (deeper_no HY.out).mono ?_); rintro e w3 ⟨rfl, hD, hb3⟩; have DD := Lib.hid hD; have ED := Lib.hid (EY.out.trans hb3); clear hD hb3))
    go_ret
    exact ⟨⟨_, rfl⟩, DD.out, ED.out⟩
  · rw [if_neg h30] at hb ⊢
    have hd2 : d < 30 := by omega
    have hwd : IntKind.i64.wrap (d : Int) = (d : Int) := IntWalk.i64_in _ (by omega)
    cases hs : pF f .un (d + 1) r with
    | bad x =>
      have hx : x ≠ 0 := fun e => hb (by rw [hs, e]; first | done | rfl)
      have KS := Lib.hid (fun (w1 : World) (h1 : RL p S vv vs r ((d + 1 : Nat) : Int) wv w1) => by have := IH (d + 1) r wv live w1 (by omega) (by rw [hs]; exact fun e => hx (by cases e; rfl)) h1; rw [hs] at this; exact this)
      clear hb hs IH
      go_enter Tryd.func77, Tryd.ntmps77
      go_wp2_with (first
        | (go_at_call 33; (with_reducible refine (KN.out ⟨#[45]⟩ (by decide) _ _ _ HX.out (N.out 45 (by decide)) H0.out).mono ?_); rintro e v0 ⟨rfl, hl0, hb0⟩; have H1 := Lib.hid hl0; have E1 := Lib.hid (E0.out.trans hb0); clear hl0 hb0 H0 E0)
        | (go_at_call 33; (with_reducible refine (KY.out ⟨#[43]⟩ (by decide) _ _ _ HXX.out Y.out H1.out).mono ?_); rintro e v1 ⟨rfl, hl1, hb1⟩; have HY : Hid (RL p S vv vs r (d : Int) wv v1) := hl1; have EY := Lib.hid (E1.out.trans hb1); clear hl1 hb1 H1 E1)
        | (go_at_call 82; (with_reducible refine (deeper_ok HY.out hd2).mono ?_); rintro e w3 ⟨rfl, hD, hb3⟩; have HD := Lib.hid hD; have ED := Lib.hid (EY.out.trans hb3); clear hD hb3)
        | (go_at_call 77; (with_reducible refine (KS.out _ HD.out).mono ?_); rintro e w4 ⟨⟨n, rfl⟩, hD, hb4⟩; obtain ⟨y, cy, fy, hup⟩ := hD.up; have UP := Lib.hid hup; have EU := Lib.hid (ED.out.trans hb4); clear hD hb4 hup))
      go_ret
      exact ⟨⟨_, rfl⟩, (UP.out _).1, EU.out.trans (UP.out _).2⟩
    | ok ex r2 =>
      have KS := Lib.hid (fun (w1 : World) (h1 : RL p S vv vs r ((d + 1 : Nat) : Int) wv w1) => by have := IH (d + 1) r wv live w1 (by omega) (by rw [hs]; exact fun e => by cases e) h1; rw [hs] at this; exact this)
      clear hb hs IH
      go_enter Tryd.func77, Tryd.ntmps77
      go_wp2_with (first
        | (go_at_call 33; (with_reducible refine (KN.out ⟨#[45]⟩ (by decide) _ _ _ HX.out (N.out 45 (by decide)) H0.out).mono ?_); rintro e v0 ⟨rfl, hl0, hb0⟩; have H1 := Lib.hid hl0; have E1 := Lib.hid (E0.out.trans hb0); clear hl0 hb0 H0 E0)
        | (go_at_call 33; (with_reducible refine (KY.out ⟨#[43]⟩ (by decide) _ _ _ HXX.out Y.out H1.out).mono ?_); rintro e v1 ⟨rfl, hl1, hb1⟩; have HY : Hid (RL p S vv vs r (d : Int) wv v1) := hl1; have EY := Lib.hid (E1.out.trans hb1); clear hl1 hb1 H1 E1)
        | (go_at_call 82; (with_reducible refine (deeper_ok HY.out hd2).mono ?_); rintro e w3 ⟨rfl, hD, hb3⟩; have HD := Lib.hid hD; have ED := Lib.hid (EY.out.trans hb3); clear hD hb3)
        | (go_at_call 77; (with_reducible refine (KS.out _ HD.out).mono ?_); rintro e w4 ⟨n, wv1, rfl, ⟨l4, hL, hs4⟩, hval, hb4⟩; obtain ⟨cy, fy, hup, hbu⟩ := hL.up; have UP := Lib.hid hup; have VAL := Lib.hid hval; have HS4 := Lib.hid hs4; have EU := Lib.hid ((ED.out.trans hb4).trans hbu); clear hL hb4 hup hs4 hval hbu))
      go_ret
      exact ⟨_, wv1, rfl, ⟨l4, UP.out, HS4.out⟩, VAL.out, EU.out⟩
set_option maxHeartbeats 4000000 in
set_option maxRecDepth 20000 in
theorem un_bang (p : Nat) (S : ByteArray) (vv : Value) (vs : List Vr) (f d : Nat) (l r : List UInt8) (wv : Int) (live : Bool) (w : World) (hS : S.size ≤ 1000) (IH : UnE p S vv vs f) (hsk : skipA l = 33 :: r) (hd : d ≤ 30) (hb : (if d = 30 then .bad 7 else (pF f .un (d + 1) r).map .bang) ≠ Pr.bad 0) (h : RL p S vv vs l (d : Int) wv w) :
    Calls Tryd.prog 77 #[.pointer (some ⟨p, 0, none⟩), .bool live] w (AnsE p S vv vs d wv live w (if d = 30 then .bad 7 else (pF f .un (d + 1) r).map .bang)) := by
  have HXX : Hid (skipA (33 :: r) = 33 :: r) := by show _ = _; rw [← hsk]; exact skip_skip l
  have N : Hid (∀ n : UInt8, n ≠ 33 → ((⟨#[n]⟩ : ByteArray).data.toList.isPrefixOf (33 :: r) = false)) := by
    show ∀ n : UInt8, n ≠ 33 → ((⟨#[n]⟩ : ByteArray).data.toList.isPrefixOf (33 :: r) = false)
    intro n hn
    show (n == 33 && _) = false
    simp [hn]
  have Y : Hid ((⟨#[33]⟩ : ByteArray).data.toList.isPrefixOf (33 :: r) = true) := by show (33 == 33 && _) = true; simp
  have H0 := Lib.hid h
  have E0 : Hid (Below p w w) := Below.refl _ _
  have HX := Lib.hid hsk
  have KY := Lib.hid (fun (M : ByteArray) (hM : M.size ≤ 2) (w1 : World) (l1 r : List UInt8) (hl : skipA l1 = r) (hp : M.data.toList.isPrefixOf r = true) (h1 : RL p S vv vs l1 (d : Int) wv w1) => is_yes h1 hS hM hl hp)
  have KN := Lib.hid (fun (M : ByteArray) (hM : M.size ≤ 2) (w1 : World) (l1 r : List UInt8) (hl : skipA l1 = r) (hp : M.data.toList.isPrefixOf r = false) (h1 : RL p S vv vs l1 (d : Int) wv w1) => is_no h1 hS hM hl hp)
  clear h hsk
  by_cases h30 : d = 30
  · subst h30
    rw [if_pos rfl]
    clear hb IH
    go_enter Tryd.func77, Tryd.ntmps77
    go_wp2_with (first
      | (go_at_call 33; (with_reducible refine (KN.out ⟨#[45]⟩ (by decide) _ _ _ HX.out (N.out 45 (by decide)) H0.out).mono ?_); rintro e v0 ⟨rfl, hl0, hb0⟩; have H1 := Lib.hid hl0; have E1 := Lib.hid (E0.out.trans hb0); clear hl0 hb0 H0 E0)
      | (go_at_call 33; (with_reducible refine (KN.out ⟨#[43]⟩ (by decide) _ _ _ HXX.out (N.out 43 (by decide)) H1.out).mono ?_); rintro e v1 ⟨rfl, hl1, hb1⟩; have H2 := Lib.hid hl1; have E2 := Lib.hid (E1.out.trans hb1); clear hl1 hb1 H1 E1)
      | (go_at_call 33; (with_reducible refine (KY.out ⟨#[33]⟩ (by decide) _ _ _ HXX.out Y.out H2.out).mono ?_); rintro e v2 ⟨rfl, hl2, hb2⟩; have HY : Hid (RL p S vv vs r ((30 : Nat) : Int) wv v2) := hl2; have EY := Lib.hid (E2.out.trans hb2); clear hl2 hb2 H2 E2)
      | (go_at_call 82; (with_reducible refine (deeper_no HY.out).mono ?_); rintro e w3 ⟨rfl, hD, hb3⟩; have DD := Lib.hid hD; have ED := Lib.hid (EY.out.trans hb3); clear hD hb3))
    go_ret
    exact ⟨⟨_, rfl⟩, DD.out, ED.out⟩
  · rw [if_neg h30] at hb ⊢
    have hd2 : d < 30 := by omega
    have hwd : IntKind.i64.wrap (d : Int) = (d : Int) := IntWalk.i64_in _ (by omega)
    cases hs : pF f .un (d + 1) r with
    | bad x =>
      have hx : x ≠ 0 := fun e => hb (by rw [hs, e]; first | done | rfl)
      have KS := Lib.hid (fun (w1 : World) (h1 : RL p S vv vs r ((d + 1 : Nat) : Int) wv w1) => by have := IH (d + 1) r wv live w1 (by omega) (by rw [hs]; exact fun e => hx (by cases e; rfl)) h1; rw [hs] at this; exact this)
      clear hb hs IH
      go_enter Tryd.func77, Tryd.ntmps77
      go_wp2_with (first
        | (go_at_call 33; (with_reducible refine (KN.out ⟨#[45]⟩ (by decide) _ _ _ HX.out (N.out 45 (by decide)) H0.out).mono ?_); rintro e v0 ⟨rfl, hl0, hb0⟩; have H1 := Lib.hid hl0; have E1 := Lib.hid (E0.out.trans hb0); clear hl0 hb0 H0 E0)
        | (go_at_call 33; (with_reducible refine (KN.out ⟨#[43]⟩ (by decide) _ _ _ HXX.out (N.out 43 (by decide)) H1.out).mono ?_); rintro e v1 ⟨rfl, hl1, hb1⟩; have H2 := Lib.hid hl1; have E2 := Lib.hid (E1.out.trans hb1); clear hl1 hb1 H1 E1)
        | (go_at_call 33; (with_reducible refine (KY.out ⟨#[33]⟩ (by decide) _ _ _ HXX.out Y.out H2.out).mono ?_); rintro e v2 ⟨rfl, hl2, hb2⟩; have HY : Hid (RL p S vv vs r (d : Int) wv v2) := hl2; have EY := Lib.hid (E2.out.trans hb2); clear hl2 hb2 H2 E2)
        | (go_at_call 82; (with_reducible refine (deeper_ok HY.out hd2).mono ?_); rintro e w3 ⟨rfl, hD, hb3⟩; have HD := Lib.hid hD; have ED := Lib.hid (EY.out.trans hb3); clear hD hb3)
        | (go_at_call 77; (with_reducible refine (KS.out _ HD.out).mono ?_); rintro e w4 ⟨⟨n, rfl⟩, hD, hb4⟩; obtain ⟨y, cy, fy, hup⟩ := hD.up; have UP := Lib.hid hup; have EU := Lib.hid (ED.out.trans hb4); clear hD hb4 hup)
        | (go_at_call 34; (with_reducible refine (oneE_any _ _).mono ?_); rintro e w6 ⟨rfl, rfl⟩))
      go_ret
      exact ⟨⟨_, rfl⟩, (UP.out _).1, EU.out.trans (UP.out _).2⟩
    | ok ex r2 =>
      have KS := Lib.hid (fun (w1 : World) (h1 : RL p S vv vs r ((d + 1 : Nat) : Int) wv w1) => by have := IH (d + 1) r wv live w1 (by omega) (by rw [hs]; exact fun e => by cases e) h1; rw [hs] at this; exact this)
      clear hb hs IH
      go_enter Tryd.func77, Tryd.ntmps77
      go_wp2_with (first
        | (go_at_call 33; (with_reducible refine (KN.out ⟨#[45]⟩ (by decide) _ _ _ HX.out (N.out 45 (by decide)) H0.out).mono ?_); rintro e v0 ⟨rfl, hl0, hb0⟩; have H1 := Lib.hid hl0; have E1 := Lib.hid (E0.out.trans hb0); clear hl0 hb0 H0 E0)
        | (go_at_call 33; (with_reducible refine (KN.out ⟨#[43]⟩ (by decide) _ _ _ HXX.out (N.out 43 (by decide)) H1.out).mono ?_); rintro e v1 ⟨rfl, hl1, hb1⟩; have H2 := Lib.hid hl1; have E2 := Lib.hid (E1.out.trans hb1); clear hl1 hb1 H1 E1)
        | (go_at_call 33; (with_reducible refine (KY.out ⟨#[33]⟩ (by decide) _ _ _ HXX.out Y.out H2.out).mono ?_); rintro e v2 ⟨rfl, hl2, hb2⟩; have HY : Hid (RL p S vv vs r (d : Int) wv v2) := hl2; have EY := Lib.hid (E2.out.trans hb2); clear hl2 hb2 H2 E2)
        | (go_at_call 82; (with_reducible refine (deeper_ok HY.out hd2).mono ?_); rintro e w3 ⟨rfl, hD, hb3⟩; have HD := Lib.hid hD; have ED := Lib.hid (EY.out.trans hb3); clear hD hb3)
        | (go_at_call 77; (with_reducible refine (KS.out _ HD.out).mono ?_); rintro e w4 ⟨n, wv1, rfl, ⟨l4, hL, hs4⟩, hval, hb4⟩; obtain ⟨cy, fy, hup, hbu⟩ := hL.up; have UP := Lib.hid hup; have VAL := Lib.hid hval; have HS4 := Lib.hid hs4; have EU := Lib.hid ((ED.out.trans hb4).trans hbu); clear hL hb4 hup hs4 hval hbu)
        | (go_at_call 34; (with_reducible refine (oneE_any _ _).mono ?_); rintro e w6 ⟨rfl, rfl⟩))
      go_ret
      exact ⟨_, wv1, rfl, ⟨l4, UP.out, HS4.out⟩, val_bang VAL.out, EU.out⟩
set_option maxHeartbeats 4000000 in
set_option maxRecDepth 20000 in
theorem un_paren (p : Nat) (S : ByteArray) (vv : Value) (vs : List Vr) (f d : Nat) (l r : List UInt8) (wv : Int) (live : Bool) (w : World) (hS : S.size ≤ 1000) (IH : LevE 25 0 p S vv vs f) (hsk : skipA l = 40 :: r) (hd : d ≤ 30) (hb : (if d = 30 then .bad 7 else (pF f (.row 0) (d + 1) r).closed) ≠ Pr.bad 0) (h : RL p S vv vs l (d : Int) wv w) :
    Calls Tryd.prog 77 #[.pointer (some ⟨p, 0, none⟩), .bool live] w (AnsE p S vv vs d wv live w (if d = 30 then .bad 7 else (pF f (.row 0) (d + 1) r).closed)) := by
  have HXX : Hid (skipA (40 :: r) = 40 :: r) := by show _ = _; rw [← hsk]; exact skip_skip l
  have N : Hid (∀ n : UInt8, n ≠ 40 → ((⟨#[n]⟩ : ByteArray).data.toList.isPrefixOf (40 :: r) = false)) := by
    show ∀ n : UInt8, n ≠ 40 → ((⟨#[n]⟩ : ByteArray).data.toList.isPrefixOf (40 :: r) = false)
    intro n hn
    show (n == 40 && _) = false
    simp [hn]
  have Y : Hid ((⟨#[40]⟩ : ByteArray).data.toList.isPrefixOf (40 :: r) = true) := by show (40 == 40 && _) = true; simp
  have H0 := Lib.hid h
  have E0 : Hid (Below p w w) := Below.refl _ _
  have HX := Lib.hid hsk
  have KY := Lib.hid (fun (M : ByteArray) (hM : M.size ≤ 2) (w1 : World) (l1 r : List UInt8) (hl : skipA l1 = r) (hp : M.data.toList.isPrefixOf r = true) (h1 : RL p S vv vs l1 (d : Int) wv w1) => is_yes h1 hS hM hl hp)
  have KN := Lib.hid (fun (M : ByteArray) (hM : M.size ≤ 2) (w1 : World) (l1 r : List UInt8) (hl : skipA l1 = r) (hp : M.data.toList.isPrefixOf r = false) (h1 : RL p S vv vs l1 (d : Int) wv w1) => is_no h1 hS hM hl hp)
  clear h hsk
  by_cases h30 : d = 30
  · subst h30
    rw [if_pos rfl]
    clear hb IH
    go_enter Tryd.func77, Tryd.ntmps77
    go_wp2_with (first
      | (go_at_call 33; (with_reducible refine (KN.out ⟨#[45]⟩ (by decide) _ _ _ HX.out (N.out 45 (by decide)) H0.out).mono ?_); rintro e v0 ⟨rfl, hl0, hb0⟩; have H1 := Lib.hid hl0; have E1 := Lib.hid (E0.out.trans hb0); clear hl0 hb0 H0 E0)
      | (go_at_call 33; (with_reducible refine (KN.out ⟨#[43]⟩ (by decide) _ _ _ HXX.out (N.out 43 (by decide)) H1.out).mono ?_); rintro e v1 ⟨rfl, hl1, hb1⟩; have H2 := Lib.hid hl1; have E2 := Lib.hid (E1.out.trans hb1); clear hl1 hb1 H1 E1)
      | (go_at_call 33; (with_reducible refine (KN.out ⟨#[33]⟩ (by decide) _ _ _ HXX.out (N.out 33 (by decide)) H2.out).mono ?_); rintro e v2 ⟨rfl, hl2, hb2⟩; have H3 := Lib.hid hl2; have E3 := Lib.hid (E2.out.trans hb2); clear hl2 hb2 H2 E2)
      | (go_at_call 33; (with_reducible refine (KY.out ⟨#[40]⟩ (by decide) _ _ _ HXX.out Y.out H3.out).mono ?_); rintro e v3 ⟨rfl, hl3, hb3⟩; have HY : Hid (RL p S vv vs r ((30 : Nat) : Int) wv v3) := hl3; have EY := Lib.hid (E3.out.trans hb3); clear hl3 hb3 H3 E3)
      | (go_at_call 82; (with_reducible refine (deeper_no HY.out).mono ?_); rintro e w3 ⟨rfl, hD, hb3⟩; have DD := Lib.hid hD; have ED := Lib.hid (EY.out.trans hb3); clear hD hb3))
    go_ret
    exact ⟨⟨_, rfl⟩, DD.out, ED.out⟩
  · rw [if_neg h30] at hb ⊢
    have hd2 : d < 30 := by omega
    have hwd : IntKind.i64.wrap (d : Int) = (d : Int) := IntWalk.i64_in _ (by omega)
    cases hs : pF f (.row 0) (d + 1) r with
    | bad x =>
      have hx : x ≠ 0 := fun e => hb (by rw [hs, e]; first | done | rfl)
      have KS := Lib.hid (fun (w1 : World) (h1 : RL p S vv vs r ((d + 1 : Nat) : Int) wv w1) => by have := IH (d + 1) r wv live w1 (by omega) (by rw [hs]; exact fun e => hx (by cases e; rfl)) h1; rw [hs] at this; exact this)
      clear hb hs IH
      go_enter Tryd.func77, Tryd.ntmps77
      go_wp2_with (first
        | (go_at_call 33; (with_reducible refine (KN.out ⟨#[45]⟩ (by decide) _ _ _ HX.out (N.out 45 (by decide)) H0.out).mono ?_); rintro e v0 ⟨rfl, hl0, hb0⟩; have H1 := Lib.hid hl0; have E1 := Lib.hid (E0.out.trans hb0); clear hl0 hb0 H0 E0)
        | (go_at_call 33; (with_reducible refine (KN.out ⟨#[43]⟩ (by decide) _ _ _ HXX.out (N.out 43 (by decide)) H1.out).mono ?_); rintro e v1 ⟨rfl, hl1, hb1⟩; have H2 := Lib.hid hl1; have E2 := Lib.hid (E1.out.trans hb1); clear hl1 hb1 H1 E1)
        | (go_at_call 33; (with_reducible refine (KN.out ⟨#[33]⟩ (by decide) _ _ _ HXX.out (N.out 33 (by decide)) H2.out).mono ?_); rintro e v2 ⟨rfl, hl2, hb2⟩; have H3 := Lib.hid hl2; have E3 := Lib.hid (E2.out.trans hb2); clear hl2 hb2 H2 E2)
        | (go_at_call 33; (with_reducible refine (KY.out ⟨#[40]⟩ (by decide) _ _ _ HXX.out Y.out H3.out).mono ?_); rintro e v3 ⟨rfl, hl3, hb3⟩; have HY : Hid (RL p S vv vs r (d : Int) wv v3) := hl3; have EY := Lib.hid (E3.out.trans hb3); clear hl3 hb3 H3 E3)
        | (go_at_call 82; (with_reducible refine (deeper_ok HY.out hd2).mono ?_); rintro e w3 ⟨rfl, hD, hb3⟩; have HD := Lib.hid hD; have ED := Lib.hid (EY.out.trans hb3); clear hD hb3)
        | (go_at_call 25; (with_reducible refine (KS.out _ HD.out).mono ?_); rintro e w4 ⟨⟨n, rfl⟩, hD, hb4⟩; obtain ⟨y, cy, fy, hup⟩ := hD.up; have UP := Lib.hid hup; have EU := Lib.hid (ED.out.trans hb4); clear hD hb4 hup)
        | (go_at_call 33; (with_reducible refine (is_dead ⟨#[41]⟩ (UP.out _).1 hS hx).mono ?_); rintro e w5 ⟨rfl, hD, hb5⟩; have DD := Lib.hid hD; have EE := Lib.hid ((EU.out.trans (UP.out _).2).trans hb5); clear hD hb5)
        | (go_at_call 27; (with_reducible refine (fails_dead DD.out hx).mono ?_); rintro e w6 ⟨rfl, hD, hb6⟩; have D6 := Lib.hid hD; have E6 := Lib.hid (EE.out.trans hb6); clear hD hb6))
      go_ret
      exact ⟨⟨_, rfl⟩, D6.out, E6.out⟩
    | ok ex r2 =>
      have KS := Lib.hid (fun (w1 : World) (h1 : RL p S vv vs r ((d + 1 : Nat) : Int) wv w1) => by have := IH (d + 1) r wv live w1 (by omega) (by rw [hs]; exact fun e => by cases e) h1; rw [hs] at this; exact this)
      have hsr := (pF_skips f).1 _ _ _ _ _ hs
      have HSR := Lib.hid hsr
      clear hsr
      clear hb hs IH
      have hcl : (Pr.ok ex r2).closed = if r2.head? = some 41 then .ok ex r2.tail else .bad 9 := rfl
      rw [hcl]
      clear hcl
      by_cases hh : r2.head? = some 41
      · rw [if_pos hh]
        obtain ⟨r3, rfl⟩ : ∃ r3, r2 = 41 :: r3 := by
          cases r2 with
          | nil => cases hh
          | cons b r3 => simp at hh; exact ⟨r3, by rw [hh]⟩
        have Y2 : Hid ((⟨#[41]⟩ : ByteArray).data.toList.isPrefixOf (41 :: r3) = true) := by show (41 == 41 && _) = true; simp
        clear hh
        go_enter Tryd.func77, Tryd.ntmps77
        go_wp2_with (first
          | (go_at_call 33; (with_reducible refine (KN.out ⟨#[45]⟩ (by decide) _ _ _ HX.out (N.out 45 (by decide)) H0.out).mono ?_); rintro e v0 ⟨rfl, hl0, hb0⟩; have H1 := Lib.hid hl0; have E1 := Lib.hid (E0.out.trans hb0); clear hl0 hb0 H0 E0)
          | (go_at_call 33; (with_reducible refine (KN.out ⟨#[43]⟩ (by decide) _ _ _ HXX.out (N.out 43 (by decide)) H1.out).mono ?_); rintro e v1 ⟨rfl, hl1, hb1⟩; have H2 := Lib.hid hl1; have E2 := Lib.hid (E1.out.trans hb1); clear hl1 hb1 H1 E1)
          | (go_at_call 33; (with_reducible refine (KN.out ⟨#[33]⟩ (by decide) _ _ _ HXX.out (N.out 33 (by decide)) H2.out).mono ?_); rintro e v2 ⟨rfl, hl2, hb2⟩; have H3 := Lib.hid hl2; have E3 := Lib.hid (E2.out.trans hb2); clear hl2 hb2 H2 E2)
          | (go_at_call 33; (with_reducible refine (KY.out ⟨#[40]⟩ (by decide) _ _ _ HXX.out Y.out H3.out).mono ?_); rintro e v3 ⟨rfl, hl3, hb3⟩; have HY : Hid (RL p S vv vs r (d : Int) wv v3) := hl3; have EY := Lib.hid (E3.out.trans hb3); clear hl3 hb3 H3 E3)
          | (go_at_call 82; (with_reducible refine (deeper_ok HY.out hd2).mono ?_); rintro e w3 ⟨rfl, hD, hb3⟩; have HD := Lib.hid hD; have ED := Lib.hid (EY.out.trans hb3); clear hD hb3)
          | (go_at_call 25; (with_reducible refine (KS.out _ HD.out).mono ?_); rintro e w4 ⟨n, wv1, rfl, ⟨l4, hL, hs4⟩, hval, hb4⟩; obtain ⟨cy, fy, hup, hbu⟩ := hL.up; have UP := Lib.hid hup; have VAL := Lib.hid hval; have HS4 := Lib.hid hs4; have EU := Lib.hid ((ED.out.trans hb4).trans hbu); clear hL hb4 hup hs4 hval hbu)
          | (go_at_call 33; (with_reducible refine (is_yes UP.out hS (by decide) (HS4.out.trans HSR.out) Y2.out).mono ?_); rintro e w5 ⟨rfl, hl5, hb5⟩; have H5 := Lib.hid hl5; have E5 := Lib.hid (EU.out.trans hb5); clear hl5 hb5))
        go_ret
        exact ⟨_, wv1, rfl, ⟨_, H5.out, rfl⟩, VAL.out, E5.out⟩
      
      · rw [if_neg hh]
        have Y2 : Hid ((⟨#[41]⟩ : ByteArray).data.toList.isPrefixOf r2 = false) := by
          show _ = _
          cases r2 with
          | nil => rfl
          | cons b r3 =>
            show (41 == b && _) = false
            have : (41 : UInt8) ≠ b := fun e => hh (by rw [← e]; rfl)
            simp [this]
        clear hh
        go_enter Tryd.func77, Tryd.ntmps77
        go_wp2_with (first
          | (go_at_call 33; (with_reducible refine (KN.out ⟨#[45]⟩ (by decide) _ _ _ HX.out (N.out 45 (by decide)) H0.out).mono ?_); rintro e v0 ⟨rfl, hl0, hb0⟩; have H1 := Lib.hid hl0; have E1 := Lib.hid (E0.out.trans hb0); clear hl0 hb0 H0 E0)
          | (go_at_call 33; (with_reducible refine (KN.out ⟨#[43]⟩ (by decide) _ _ _ HXX.out (N.out 43 (by decide)) H1.out).mono ?_); rintro e v1 ⟨rfl, hl1, hb1⟩; have H2 := Lib.hid hl1; have E2 := Lib.hid (E1.out.trans hb1); clear hl1 hb1 H1 E1)
          | (go_at_call 33; (with_reducible refine (KN.out ⟨#[33]⟩ (by decide) _ _ _ HXX.out (N.out 33 (by decide)) H2.out).mono ?_); rintro e v2 ⟨rfl, hl2, hb2⟩; have H3 := Lib.hid hl2; have E3 := Lib.hid (E2.out.trans hb2); clear hl2 hb2 H2 E2)
          | (go_at_call 33; (with_reducible refine (KY.out ⟨#[40]⟩ (by decide) _ _ _ HXX.out Y.out H3.out).mono ?_); rintro e v3 ⟨rfl, hl3, hb3⟩; have HY : Hid (RL p S vv vs r (d : Int) wv v3) := hl3; have EY := Lib.hid (E3.out.trans hb3); clear hl3 hb3 H3 E3)
          | (go_at_call 82; (with_reducible refine (deeper_ok HY.out hd2).mono ?_); rintro e w3 ⟨rfl, hD, hb3⟩; have HD := Lib.hid hD; have ED := Lib.hid (EY.out.trans hb3); clear hD hb3)
          | (go_at_call 25; (with_reducible refine (KS.out _ HD.out).mono ?_); rintro e w4 ⟨n, wv1, rfl, ⟨l4, hL, hs4⟩, hval, hb4⟩; obtain ⟨cy, fy, hup, hbu⟩ := hL.up; have UP := Lib.hid hup; have VAL := Lib.hid hval; have HS4 := Lib.hid hs4; have EU := Lib.hid ((ED.out.trans hb4).trans hbu); clear hL hb4 hup hs4 hval hbu)
          | (go_at_call 33; (with_reducible refine (is_no UP.out hS (by decide) (HS4.out.trans HSR.out) Y2.out).mono ?_); rintro e w5 ⟨rfl, hl5, hb5⟩; have H5 := Lib.hid hl5; have E5 := Lib.hid (EU.out.trans hb5); clear hl5 hb5)
          | (go_at_call 27; (with_reducible refine (fails_live H5.out).mono ?_); rintro e w6 ⟨rfl, hD, hb6⟩; have D6 := Lib.hid hD; have E6 := Lib.hid (E5.out.trans hb6); clear hD hb6))
        go_ret
        exact ⟨⟨_, rfl⟩, D6.out, E6.out⟩
set_option maxHeartbeats 4000000 in
set_option maxRecDepth 20000 in
theorem un_atom (p : Nat) (S : ByteArray) (vv : Value) (vs : List Vr) (d : Nat) (l X : List UInt8) (wv : Int) (live : Bool) (w : World) (hS : S.size ≤ 1000) (hO : OpE p S vv vs) (hsk : skipA l = X) (hne : ∀ c r, X = c :: r → c ≠ 40 ∧ c ≠ 45 ∧ c ≠ 33 ∧ c ≠ 43) (h : RL p S vv vs l (d : Int) wv w) :
    Calls Tryd.prog 77 #[.pointer (some ⟨p, 0, none⟩), .bool live] w (AnsE p S vv vs d wv live w (atomP X)) := by
  have HXX : Hid (skipA X = X) := by show _ = _; rw [← hsk]; exact skip_skip l
  have N : Hid (∀ n : UInt8, (n = 40 ∨ n = 45 ∨ n = 33 ∨ n = 43) → ((⟨#[n]⟩ : ByteArray).data.toList.isPrefixOf X = false)) := by
    show ∀ n : UInt8, (n = 40 ∨ n = 45 ∨ n = 33 ∨ n = 43) → ((⟨#[n]⟩ : ByteArray).data.toList.isPrefixOf X = false)
    intro n hn
    cases X with
    | nil => rfl
    | cons c r =>
      obtain ⟨h1, h2, h3, h4⟩ := hne c r rfl
      show (n == c && _) = false
      have : n ≠ c := fun e => by subst e; rcases hn with e | e | e | e <;> contradiction
      simp [this]
  have H0 := Lib.hid h
  have E0 : Hid (Below p w w) := Below.refl _ _
  have HX := Lib.hid hsk
  have KY := Lib.hid (fun (M : ByteArray) (hM : M.size ≤ 2) (w1 : World) (l1 r : List UInt8) (hl : skipA l1 = r) (hp : M.data.toList.isPrefixOf r = true) (h1 : RL p S vv vs l1 (d : Int) wv w1) => is_yes h1 hS hM hl hp)
  have KN := Lib.hid (fun (M : ByteArray) (hM : M.size ≤ 2) (w1 : World) (l1 r : List UInt8) (hl : skipA l1 = r) (hp : M.data.toList.isPrefixOf r = false) (h1 : RL p S vv vs l1 (d : Int) wv w1) => is_no h1 hS hM hl hp)
  have KO := Lib.hid (fun (w1 : World) (h1 : RL p S vv vs X (d : Int) wv w1) => hO d X wv live w1 h1)
  clear h hsk hne hO
  go_enter Tryd.func77, Tryd.ntmps77
  go_wp2_with (first
    | (go_at_call 33; (with_reducible refine (KN.out ⟨#[45]⟩ (by decide) _ _ _ HX.out (N.out 45 (by decide)) H0.out).mono ?_); rintro e v0 ⟨rfl, hl0, hb0⟩; have H1 := Lib.hid hl0; have E1 := Lib.hid (E0.out.trans hb0); clear hl0 hb0 H0 E0)
    | (go_at_call 33; (with_reducible refine (KN.out ⟨#[43]⟩ (by decide) _ _ _ HXX.out (N.out 43 (by decide)) H1.out).mono ?_); rintro e v1 ⟨rfl, hl1, hb1⟩; have H2 := Lib.hid hl1; have E2 := Lib.hid (E1.out.trans hb1); clear hl1 hb1 H1 E1)
    | (go_at_call 33; (with_reducible refine (KN.out ⟨#[33]⟩ (by decide) _ _ _ HXX.out (N.out 33 (by decide)) H2.out).mono ?_); rintro e v2 ⟨rfl, hl2, hb2⟩; have H3 := Lib.hid hl2; have E3 := Lib.hid (E2.out.trans hb2); clear hl2 hb2 H2 E2)
    | (go_at_call 33; (with_reducible refine (KN.out ⟨#[40]⟩ (by decide) _ _ _ HXX.out (N.out 40 (by decide)) H3.out).mono ?_); rintro e v3 ⟨rfl, hl3, hb3⟩; have H4 := Lib.hid hl3; have E4 := Lib.hid (E3.out.trans hb3); clear hl3 hb3 H3 E3)
    | (go_at_call 83; (with_reducible refine (KO.out _ H4.out).mono ?_); intro e w5 hA; obtain ⟨n, rfl⟩ := ans_ret hA; have HA := Lib.hid hA; clear hA))
  go_ret
  exact ans_far E4.out HA.out
end Go.Proofs.YtaaecgglocgcmaaDoor
namespace Go.Proofs.YtaaecgglocgcmaaDoor
open Go.RowKit Go.Lib

set_option maxHeartbeats 8000000 in
set_option maxRecDepth 20000 in
theorem orE_go (p : Nat) (S : ByteArray) (vv : Value) (vs : List Vr) (f d : Nat) (l : List UInt8) (wv : Int) (live : Bool) (w : World) (hS : S.size ≤ 1000) (hV : ∀ s x, valA vs s = .no x → x ≠ 0) (IH : ∀ g, g ≤ f → LevE 32 1 p S vv vs g) (hd : d ≤ 30) (hb : pF (f + 1) (.row 0) d l ≠ .bad 0) (h : RL p S vv vs l (d : Int) wv w) :
    Calls Tryd.prog 25 #[.pointer (some ⟨p, 0, none⟩), .bool live] w (AnsE p S vv vs d wv live w (pF (f + 1) (.row 0) d l)) := by
  have hR := row_eq f 0 d l (by decide)
  obtain ⟨R, hRR⟩ : ∃ R, R = pF (f + 1) (.row 0) d l := ⟨_, rfl⟩
  rw [← hRR] at hb hR ⊢
  have k1 := IH f (Nat.le_refl _) d l wv live w hd (fun e => hb (by rw [hR, e]; rfl)) h
  have HR := Lib.hid hR
  have HNE := Lib.hid hb
  have HV := Lib.hid hV
  have KD := Lib.hid (fun (w1 : World) (M : ByteArray) (x : Int) (hx : x ≠ 0) (h1 : RD p S vv x w1) => is_dead M h1 hS hx)
  have KIH := Lib.hid (fun (g : Nat) (hg : g ≤ f) (l1 : List UInt8) (hne : pF g (.row 1) d l1 ≠ .bad 0) (wv1 : Int) (live2 : Bool) (w1 : World) (h1 : RL p S vv vs l1 (d : Int) wv1 w1) => IH g hg d l1 wv1 live2 w1 hd hne h1)
  have KY := Lib.hid (fun (M : ByteArray) (hM : M.size ≤ 2) (w1 : World) (l1 r : List UInt8) (wv1 : Int) (hl : skipA l1 = r) (hp : M.data.toList.isPrefixOf r = true) (h1 : RL p S vv vs l1 (d : Int) wv1 w1) => is_yes h1 hS hM hl hp)
  have KN := Lib.hid (fun (M : ByteArray) (hM : M.size ≤ 2) (w1 : World) (l1 r : List UInt8) (wv1 : Int) (hl : skipA l1 = r) (hp : M.data.toList.isPrefixOf r = false) (h1 : RL p S vv vs l1 (d : Int) wv1 w1) => is_no h1 hS hM hl hp)
  clear hRR hb hR hV IH h
  go_enter Tryd.func25, Tryd.ntmps25
  go_wp2_with (go_at_call 32; (with_reducible refine k1.mono ?_); intro e w1 hA; obtain ⟨n1, rfl, hI⟩ := inv_start HR.out HNE.out hA; have HI := Lib.hid hI; clear hA hI)
  go_loopg [5] f (fun q v5 wr => ∃ (n : Int) (g0 : Nat), g0 = q ∧ v5 = .int .i64 n ∧ g0 ≤ f ∧ Hid (InvE p S vv vs 0 d wv live w R g0 n wr))
  case atStart => exact ⟨n1, f, rfl, rfl, Nat.le_refl _, HI⟩
  case round =>
    obtain ⟨n, g0, hg0, rfl, hgf, HI⟩ := hrel
    subst hg0
    rcases HI.out with ⟨x, hRx, hx, hD, hB⟩ | ⟨ex, r, l1, wv1, hRx, hsr, hsl, hL, hVal, hB⟩
    · have D0 := Lib.hid hD
      have E0 := Lib.hid hB
      have HRx := Lib.hid hRx
      clear hD hB hRx HI KY KN KIH
      go_wp2_with (first
        | (go_at_call 33; (with_reducible refine (KD.out _ ⟨#[124, 124]⟩ _ hx D0.out).mono ?_); rintro e v0 ⟨rfl, hd0, hb0⟩; have D1 := Lib.hid hd0; have E1 := Lib.hid (E0.out.trans hb0); clear hd0 hb0 D0 E0))
      go_ret
      exact ans_bad HRx.out D1.out E1.out
    · cases g0 with
      | zero => exact absurd hRx HNE.out
      | succ g =>
        have H0 := Lib.hid hL
        have E0 := Lib.hid hB
        have HVal := Lib.hid hVal
        have HSR := Lib.hid hsr
        have HSL := Lib.hid hsl
        clear hL hB hVal HI KD hsr hsl
        cases hp0 : ([124, 124] : List UInt8).isPrefixOf r with
        | true =>
          have hm : markIn (marksAt 0) r = some (.or, r.drop 2) := by simp [markIn, marksAt, hp0]
          rw [more_some hm] at hRx
          have HR1 := Lib.hid hRx
          have hne : pF g (.row 1) d (r.drop 2) ≠ .bad 0 := fun e => HNE.out (by rw [hRx, e]; rfl)
          have KS := Lib.hid (KIH.out g (by omega) (r.drop 2) hne wv1)
          have Y0 : Hid ((⟨#[124, 124]⟩ : ByteArray).data.toList.isPrefixOf r = true) := hp0
          clear hm hne hRx KIH hp0
          by_cases hn : n = 0
          · subst hn
            cases live
            all_goals
              go_wp2_with (first
                | (go_at_call 33; (with_reducible refine (KY.out ⟨#[124, 124]⟩ (by decide) _ _ _ _ HSL.out Y0.out H0.out).mono ?_); rintro e v0 ⟨rfl, hl0, hb0⟩; have HY := Lib.hid hl0; have EY := Lib.hid (E0.out.trans hb0); clear hl0 hb0 H0 E0)
                | (go_at_call 32; (with_reducible refine (KS.out _ _ HY.out).mono ?_); intro e w5 hA; obtain ⟨m, rfl, hst⟩ := step_of HR1.out HNE.out EY.out hA; have ST := Lib.hid hst; clear hA hst HY EY)
                | (go_at_call 34; (with_reducible refine (oneE_any _ _).mono ?_); rintro e w6 ⟨rfl, rfl⟩))
              go_roundg g
              case rel => exact ⟨_, g, rfl, rfl, by omega, step_inv HV.out ST.out HVal.out (by simp [idleA]) (by simp [opD, idleA])⟩
              case measure => omega
          · have hn1 : (n == 0) = false := by simp [hn]
            have hn2 : (n != 0) = true := by simp [hn]
            cases live
            all_goals
              go_wp2_with (first
                | (go_at_call 33; (with_reducible refine (KY.out ⟨#[124, 124]⟩ (by decide) _ _ _ _ HSL.out Y0.out H0.out).mono ?_); rintro e v0 ⟨rfl, hl0, hb0⟩; have HY := Lib.hid hl0; have EY := Lib.hid (E0.out.trans hb0); clear hl0 hb0 H0 E0)
                | (go_at_call 32; (with_reducible refine (KS.out _ _ HY.out).mono ?_); intro e w5 hA; obtain ⟨m, rfl, hst⟩ := step_of HR1.out HNE.out EY.out hA; have ST := Lib.hid hst; clear hA hst HY EY)
                | (go_at_call 34; (with_reducible refine (oneE_any _ _).mono ?_); rintro e w6 ⟨rfl, rfl⟩))
              go_roundg g
              case rel => exact ⟨_, g, rfl, rfl, by omega, step_inv HV.out ST.out HVal.out (by simp [idleA, hn]) (by simp [opD, idleA, hn2])⟩
              case measure => omega
        | false =>
          have hm : markIn (marksAt 0) r = none := by simp [markIn, marksAt, hp0]
          rw [more_none hm] at hRx
          have HR1 := Lib.hid hRx
          have N0 : Hid ((⟨#[124, 124]⟩ : ByteArray).data.toList.isPrefixOf r = false) := hp0
          clear hm hRx KIH hp0
          go_wp2_with (first
            | (go_at_call 33; (with_reducible refine (KN.out ⟨#[124, 124]⟩ (by decide) _ _ _ _ HSL.out N0.out H0.out).mono ?_); rintro e v0 ⟨rfl, hl0, hb0⟩; have H1 := Lib.hid hl0; have E1 := Lib.hid (E0.out.trans hb0); clear hl0 hb0 H0 E0))
          go_ret
          exact ans_ok HR1.out H1.out rfl HVal.out E1.out
end Go.Proofs.YtaaecgglocgcmaaDoor
namespace Go.Proofs.YtaaecgglocgcmaaDoor
open Go.RowKit Go.Lib

set_option maxHeartbeats 8000000 in
set_option maxRecDepth 20000 in
theorem andE_go (p : Nat) (S : ByteArray) (vv : Value) (vs : List Vr) (f d : Nat) (l : List UInt8) (wv : Int) (live : Bool) (w : World) (hS : S.size ≤ 1000) (hV : ∀ s x, valA vs s = .no x → x ≠ 0) (IH : ∀ g, g ≤ f → LevE 45 2 p S vv vs g) (hd : d ≤ 30) (hb : pF (f + 1) (.row 1) d l ≠ .bad 0) (h : RL p S vv vs l (d : Int) wv w) :
    Calls Tryd.prog 32 #[.pointer (some ⟨p, 0, none⟩), .bool live] w (AnsE p S vv vs d wv live w (pF (f + 1) (.row 1) d l)) := by
  have hR := row_eq f 1 d l (by decide)
  obtain ⟨R, hRR⟩ : ∃ R, R = pF (f + 1) (.row 1) d l := ⟨_, rfl⟩
  rw [← hRR] at hb hR ⊢
  have k1 := IH f (Nat.le_refl _) d l wv live w hd (fun e => hb (by rw [hR, e]; rfl)) h
  have HR := Lib.hid hR
  have HNE := Lib.hid hb
  have HV := Lib.hid hV
  have KD := Lib.hid (fun (w1 : World) (M : ByteArray) (x : Int) (hx : x ≠ 0) (h1 : RD p S vv x w1) => is_dead M h1 hS hx)
  have KIH := Lib.hid (fun (g : Nat) (hg : g ≤ f) (l1 : List UInt8) (hne : pF g (.row 2) d l1 ≠ .bad 0) (wv1 : Int) (live2 : Bool) (w1 : World) (h1 : RL p S vv vs l1 (d : Int) wv1 w1) => IH g hg d l1 wv1 live2 w1 hd hne h1)
  have KY := Lib.hid (fun (M : ByteArray) (hM : M.size ≤ 2) (w1 : World) (l1 r : List UInt8) (wv1 : Int) (hl : skipA l1 = r) (hp : M.data.toList.isPrefixOf r = true) (h1 : RL p S vv vs l1 (d : Int) wv1 w1) => is_yes h1 hS hM hl hp)
  have KN := Lib.hid (fun (M : ByteArray) (hM : M.size ≤ 2) (w1 : World) (l1 r : List UInt8) (wv1 : Int) (hl : skipA l1 = r) (hp : M.data.toList.isPrefixOf r = false) (h1 : RL p S vv vs l1 (d : Int) wv1 w1) => is_no h1 hS hM hl hp)
  clear hRR hb hR hV IH h
  go_enter Tryd.func32, Tryd.ntmps32
  go_wp2_with (go_at_call 45; (with_reducible refine k1.mono ?_); intro e w1 hA; obtain ⟨n1, rfl, hI⟩ := inv_start HR.out HNE.out hA; have HI := Lib.hid hI; clear hA hI)
  go_loopg [5] f (fun q v5 wr => ∃ (n : Int) (g0 : Nat), g0 = q ∧ v5 = .int .i64 n ∧ g0 ≤ f ∧ Hid (InvE p S vv vs 1 d wv live w R g0 n wr))
  case atStart => exact ⟨n1, f, rfl, rfl, Nat.le_refl _, HI⟩
  case round =>
    obtain ⟨n, g0, hg0, rfl, hgf, HI⟩ := hrel
    subst hg0
    rcases HI.out with ⟨x, hRx, hx, hD, hB⟩ | ⟨ex, r, l1, wv1, hRx, hsr, hsl, hL, hVal, hB⟩
    · have D0 := Lib.hid hD
      have E0 := Lib.hid hB
      have HRx := Lib.hid hRx
      clear hD hB hRx HI KY KN KIH
      go_wp2_with (first
        | (go_at_call 33; (with_reducible refine (KD.out _ ⟨#[38, 38]⟩ _ hx D0.out).mono ?_); rintro e v0 ⟨rfl, hd0, hb0⟩; have D1 := Lib.hid hd0; have E1 := Lib.hid (E0.out.trans hb0); clear hd0 hb0 D0 E0))
      go_ret
      exact ans_bad HRx.out D1.out E1.out
    · cases g0 with
      | zero => exact absurd hRx HNE.out
      | succ g =>
        have H0 := Lib.hid hL
        have E0 := Lib.hid hB
        have HVal := Lib.hid hVal
        have HSR := Lib.hid hsr
        have HSL := Lib.hid hsl
        clear hL hB hVal HI KD hsr hsl
        cases hp0 : ([38, 38] : List UInt8).isPrefixOf r with
        | true =>
          have hm : markIn (marksAt 1) r = some (.and, r.drop 2) := by simp [markIn, marksAt, hp0]
          rw [more_some hm] at hRx
          have HR1 := Lib.hid hRx
          have hne : pF g (.row 2) d (r.drop 2) ≠ .bad 0 := fun e => HNE.out (by rw [hRx, e]; rfl)
          have KS := Lib.hid (KIH.out g (by omega) (r.drop 2) hne wv1)
          have Y0 : Hid ((⟨#[38, 38]⟩ : ByteArray).data.toList.isPrefixOf r = true) := hp0
          clear hm hne hRx KIH hp0
          by_cases hn : n = 0
          · subst hn
            cases live
            all_goals
              go_wp2_with (first
                | (go_at_call 33; (with_reducible refine (KY.out ⟨#[38, 38]⟩ (by decide) _ _ _ _ HSL.out Y0.out H0.out).mono ?_); rintro e v0 ⟨rfl, hl0, hb0⟩; have HY := Lib.hid hl0; have EY := Lib.hid (E0.out.trans hb0); clear hl0 hb0 H0 E0)
                | (go_at_call 45; (with_reducible refine (KS.out _ _ HY.out).mono ?_); intro e w5 hA; obtain ⟨m, rfl, hst⟩ := step_of HR1.out HNE.out EY.out hA; have ST := Lib.hid hst; clear hA hst HY EY)
                | (go_at_call 34; (with_reducible refine (oneE_any _ _).mono ?_); rintro e w6 ⟨rfl, rfl⟩))
              go_roundg g
              case rel => exact ⟨_, g, rfl, rfl, by omega, step_inv HV.out ST.out HVal.out (by simp [idleA]) (by simp [opD, idleA])⟩
              case measure => omega
          · have hn1 : (n == 0) = false := by simp [hn]
            have hn2 : (n != 0) = true := by simp [hn]
            cases live
            all_goals
              go_wp2_with (first
                | (go_at_call 33; (with_reducible refine (KY.out ⟨#[38, 38]⟩ (by decide) _ _ _ _ HSL.out Y0.out H0.out).mono ?_); rintro e v0 ⟨rfl, hl0, hb0⟩; have HY := Lib.hid hl0; have EY := Lib.hid (E0.out.trans hb0); clear hl0 hb0 H0 E0)
                | (go_at_call 45; (with_reducible refine (KS.out _ _ HY.out).mono ?_); intro e w5 hA; obtain ⟨m, rfl, hst⟩ := step_of HR1.out HNE.out EY.out hA; have ST := Lib.hid hst; clear hA hst HY EY)
                | (go_at_call 34; (with_reducible refine (oneE_any _ _).mono ?_); rintro e w6 ⟨rfl, rfl⟩))
              go_roundg g
              case rel => exact ⟨_, g, rfl, rfl, by omega, step_inv HV.out ST.out HVal.out (by simp [idleA, hn]) (by simp [opD, idleA, hn, hn2])⟩
              case measure => omega
        | false =>
          have hm : markIn (marksAt 1) r = none := by simp [markIn, marksAt, hp0]
          rw [more_none hm] at hRx
          have HR1 := Lib.hid hRx
          have N0 : Hid ((⟨#[38, 38]⟩ : ByteArray).data.toList.isPrefixOf r = false) := hp0
          clear hm hRx KIH hp0
          go_wp2_with (first
            | (go_at_call 33; (with_reducible refine (KN.out ⟨#[38, 38]⟩ (by decide) _ _ _ _ HSL.out N0.out H0.out).mono ?_); rintro e v0 ⟨rfl, hl0, hb0⟩; have H1 := Lib.hid hl0; have E1 := Lib.hid (E0.out.trans hb0); clear hl0 hb0 H0 E0))
          go_ret
          exact ans_ok HR1.out H1.out rfl HVal.out E1.out
end Go.Proofs.YtaaecgglocgcmaaDoor
namespace Go.Proofs.YtaaecgglocgcmaaDoor
open Go.RowKit Go.Lib

set_option maxHeartbeats 8000000 in
set_option maxRecDepth 20000 in
theorem equalE_go (p : Nat) (S : ByteArray) (vv : Value) (vs : List Vr) (f d : Nat) (l : List UInt8) (wv : Int) (live : Bool) (w : World) (hS : S.size ≤ 1000) (hV : ∀ s x, valA vs s = .no x → x ≠ 0) (IH : ∀ g, g ≤ f → LevE 54 3 p S vv vs g) (hd : d ≤ 30) (hb : pF (f + 1) (.row 2) d l ≠ .bad 0) (h : RL p S vv vs l (d : Int) wv w) :
    Calls Tryd.prog 45 #[.pointer (some ⟨p, 0, none⟩), .bool live] w (AnsE p S vv vs d wv live w (pF (f + 1) (.row 2) d l)) := by
  have hR := row_eq f 2 d l (by decide)
  obtain ⟨R, hRR⟩ : ∃ R, R = pF (f + 1) (.row 2) d l := ⟨_, rfl⟩
  rw [← hRR] at hb hR ⊢
  have k1 := IH f (Nat.le_refl _) d l wv live w hd (fun e => hb (by rw [hR, e]; rfl)) h
  have HR := Lib.hid hR
  have HNE := Lib.hid hb
  have HV := Lib.hid hV
  have KD := Lib.hid (fun (w1 : World) (M : ByteArray) (x : Int) (hx : x ≠ 0) (h1 : RD p S vv x w1) => is_dead M h1 hS hx)
  have KIH := Lib.hid (fun (g : Nat) (hg : g ≤ f) (l1 : List UInt8) (hne : pF g (.row 3) d l1 ≠ .bad 0) (wv1 : Int) (live2 : Bool) (w1 : World) (h1 : RL p S vv vs l1 (d : Int) wv1 w1) => IH g hg d l1 wv1 live2 w1 hd hne h1)
  have KY := Lib.hid (fun (M : ByteArray) (hM : M.size ≤ 2) (w1 : World) (l1 r : List UInt8) (wv1 : Int) (hl : skipA l1 = r) (hp : M.data.toList.isPrefixOf r = true) (h1 : RL p S vv vs l1 (d : Int) wv1 w1) => is_yes h1 hS hM hl hp)
  have KN := Lib.hid (fun (M : ByteArray) (hM : M.size ≤ 2) (w1 : World) (l1 r : List UInt8) (wv1 : Int) (hl : skipA l1 = r) (hp : M.data.toList.isPrefixOf r = false) (h1 : RL p S vv vs l1 (d : Int) wv1 w1) => is_no h1 hS hM hl hp)
  clear hRR hb hR hV IH h
  go_enter Tryd.func45, Tryd.ntmps45
  go_wp2_with (go_at_call 54; (with_reducible refine k1.mono ?_); intro e w1 hA; obtain ⟨n1, rfl, hI⟩ := inv_start HR.out HNE.out hA; have HI := Lib.hid hI; clear hA hI)
  go_loopg [5] f (fun q v5 wr => ∃ (n : Int) (g0 : Nat), g0 = q ∧ v5 = .int .i64 n ∧ g0 ≤ f ∧ Hid (InvE p S vv vs 2 d wv live w R g0 n wr))
  case atStart => exact ⟨n1, f, rfl, rfl, Nat.le_refl _, HI⟩
  case round =>
    obtain ⟨n, g0, hg0, rfl, hgf, HI⟩ := hrel
    subst hg0
    rcases HI.out with ⟨x, hRx, hx, hD, hB⟩ | ⟨ex, r, l1, wv1, hRx, hsr, hsl, hL, hVal, hB⟩
    · have D0 := Lib.hid hD
      have E0 := Lib.hid hB
      have HRx := Lib.hid hRx
      clear hD hB hRx HI KY KN KIH
      go_wp2_with (first
        | (go_at_call 33; (with_reducible refine (KD.out _ ⟨#[61, 61]⟩ _ hx D0.out).mono ?_); rintro e v0 ⟨rfl, hd0, hb0⟩; have D1 := Lib.hid hd0; have E1 := Lib.hid (E0.out.trans hb0); clear hd0 hb0 D0 E0)
        | (go_at_call 33; (with_reducible refine (KD.out _ ⟨#[33, 61]⟩ _ hx D1.out).mono ?_); rintro e v1 ⟨rfl, hd1, hb1⟩; have D2 := Lib.hid hd1; have E2 := Lib.hid (E1.out.trans hb1); clear hd1 hb1 D1 E1))
      go_ret
      exact ans_bad HRx.out D2.out E2.out
    · cases g0 with
      | zero => exact absurd hRx HNE.out
      | succ g =>
        have H0 := Lib.hid hL
        have E0 := Lib.hid hB
        have HVal := Lib.hid hVal
        have HSR := Lib.hid hsr
        have HSL := Lib.hid hsl
        clear hL hB hVal HI KD hsr hsl
        cases hp0 : ([61, 61] : List UInt8).isPrefixOf r with
        | true =>
          have hm : markIn (marksAt 2) r = some (.eq, r.drop 2) := by simp [markIn, marksAt, hp0]
          rw [more_some hm] at hRx
          have HR1 := Lib.hid hRx
          have hne : pF g (.row 3) d (r.drop 2) ≠ .bad 0 := fun e => HNE.out (by rw [hRx, e]; rfl)
          have KS := Lib.hid (KIH.out g (by omega) (r.drop 2) hne wv1)
          have Y0 : Hid ((⟨#[61, 61]⟩ : ByteArray).data.toList.isPrefixOf r = true) := hp0
          clear hm hne hRx KIH hp0
          go_wp2_with (first
            | (go_at_call 33; (with_reducible refine (KY.out ⟨#[61, 61]⟩ (by decide) _ _ _ _ HSL.out Y0.out H0.out).mono ?_); rintro e v0 ⟨rfl, hl0, hb0⟩; have HY := Lib.hid hl0; have EY := Lib.hid (E0.out.trans hb0); clear hl0 hb0 H0 E0)
            | (go_at_call 54; (with_reducible refine (KS.out _ _ HY.out).mono ?_); intro e w5 hA; obtain ⟨m, rfl, hst⟩ := step_of HR1.out HNE.out EY.out hA; have ST := Lib.hid hst; clear hA hst HY EY)
            | (go_at_call 34; (with_reducible refine (oneE_any _ _).mono ?_); rintro e w6 ⟨rfl, rfl⟩))
          go_roundg g
          case rel => exact ⟨_, g, rfl, rfl, by omega, step_inv HV.out ST.out HVal.out (by simp [idleA]) rfl⟩
          case measure => omega
        | false =>
          cases hp1 : ([33, 61] : List UInt8).isPrefixOf r with
          | true =>
            have hm : markIn (marksAt 2) r = some (.ne, r.drop 2) := by simp [markIn, marksAt, hp0, hp1]
            rw [more_some hm] at hRx
            have HR1 := Lib.hid hRx
            have hne : pF g (.row 3) d (r.drop 2) ≠ .bad 0 := fun e => HNE.out (by rw [hRx, e]; rfl)
            have KS := Lib.hid (KIH.out g (by omega) (r.drop 2) hne wv1)
            have N0 : Hid ((⟨#[61, 61]⟩ : ByteArray).data.toList.isPrefixOf r = false) := hp0
            have Y1 : Hid ((⟨#[33, 61]⟩ : ByteArray).data.toList.isPrefixOf r = true) := hp1
            clear hm hne hRx KIH hp0 hp1
            go_wp2_with (first
              | (go_at_call 33; (with_reducible refine (KN.out ⟨#[61, 61]⟩ (by decide) _ _ _ _ HSL.out N0.out H0.out).mono ?_); rintro e v0 ⟨rfl, hl0, hb0⟩; have H1 := Lib.hid hl0; have E1 := Lib.hid (E0.out.trans hb0); clear hl0 hb0 H0 E0)
              | (go_at_call 33; (with_reducible refine (KY.out ⟨#[33, 61]⟩ (by decide) _ _ _ _ HSR.out Y1.out H1.out).mono ?_); rintro e v1 ⟨rfl, hl1, hb1⟩; have HY := Lib.hid hl1; have EY := Lib.hid (E1.out.trans hb1); clear hl1 hb1 H1 E1)
              | (go_at_call 54; (with_reducible refine (KS.out _ _ HY.out).mono ?_); intro e w5 hA; obtain ⟨m, rfl, hst⟩ := step_of HR1.out HNE.out EY.out hA; have ST := Lib.hid hst; clear hA hst HY EY)
              | (go_at_call 34; (with_reducible refine (oneE_any _ _).mono ?_); rintro e w6 ⟨rfl, rfl⟩))
            go_roundg g
            case rel => exact ⟨_, g, rfl, rfl, by omega, step_inv HV.out ST.out HVal.out (by simp [idleA]) rfl⟩
            case measure => omega
          | false =>
            have hm : markIn (marksAt 2) r = none := by simp [markIn, marksAt, hp0, hp1]
            rw [more_none hm] at hRx
            have HR1 := Lib.hid hRx
            have N0 : Hid ((⟨#[61, 61]⟩ : ByteArray).data.toList.isPrefixOf r = false) := hp0
            have N1 : Hid ((⟨#[33, 61]⟩ : ByteArray).data.toList.isPrefixOf r = false) := hp1
            clear hm hRx KIH hp0 hp1
            go_wp2_with (first
              | (go_at_call 33; (with_reducible refine (KN.out ⟨#[61, 61]⟩ (by decide) _ _ _ _ HSL.out N0.out H0.out).mono ?_); rintro e v0 ⟨rfl, hl0, hb0⟩; have H1 := Lib.hid hl0; have E1 := Lib.hid (E0.out.trans hb0); clear hl0 hb0 H0 E0)
              | (go_at_call 33; (with_reducible refine (KN.out ⟨#[33, 61]⟩ (by decide) _ _ _ _ HSR.out N1.out H1.out).mono ?_); rintro e v1 ⟨rfl, hl1, hb1⟩; have H2 := Lib.hid hl1; have E2 := Lib.hid (E1.out.trans hb1); clear hl1 hb1 H1 E1))
            go_ret
            exact ans_ok HR1.out H2.out rfl HVal.out E2.out
end Go.Proofs.YtaaecgglocgcmaaDoor
