/- Packed texts: ArEvLess, ArEvSum, ArEvProduct, ArEvAll. What each of them proves stands above its theorems; the conditions stand in these. -/
import Derived.Deep.Cut
import Derived.Test.YtaaecgglocgcmaaDoorD5
import Derived.Test.YtaaecgglocgcmaaDoorD6
namespace Go.Proofs.YtaaecgglocgcmaaDoor
open Go.RowKit Go.Lib

set_option maxHeartbeats 8000000 in
set_option maxRecDepth 20000 in
theorem lessE_go (p : Nat) (S : ByteArray) (vv : Value) (vs : List Vr) (f d : Nat) (l : List UInt8) (wv : Int) (live : Bool) (w : World) (hS : S.size ≤ 1000) (hV : ∀ s x, valA vs s = .no x → x ≠ 0) (IH : ∀ g, g ≤ f → LevE 67 4 p S vv vs g) (hd : d ≤ 30) (hb : pF (f + 1) (.row 3) d l ≠ .bad 0) (h : RL p S vv vs l (d : Int) wv w) :
    Calls Tryd.prog 54 #[.pointer (some ⟨p, 0, none⟩), .bool live] w (AnsE p S vv vs d wv live w (pF (f + 1) (.row 3) d l)) := by
  have hR := row_eq f 3 d l (by decide)
  obtain ⟨R, hRR⟩ : ∃ R, R = pF (f + 1) (.row 3) d l := ⟨_, rfl⟩
  rw [← hRR] at hb hR ⊢
  have k1 := IH f (Nat.le_refl _) d l wv live w hd (fun e => hb (by rw [hR, e]; rfl)) h
  have HR := Lib.hid hR
  have HNE := Lib.hid hb
  have HV := Lib.hid hV
  have KD := Lib.hid (fun (w1 : World) (M : ByteArray) (x : Int) (hx : x ≠ 0) (h1 : RD p S vv x w1) => is_dead M h1 hS hx)
  have KIH := Lib.hid (fun (g : Nat) (hg : g ≤ f) (l1 : List UInt8) (hne : pF g (.row 4) d l1 ≠ .bad 0) (wv1 : Int) (live2 : Bool) (w1 : World) (h1 : RL p S vv vs l1 (d : Int) wv1 w1) => IH g hg d l1 wv1 live2 w1 hd hne h1)
  have KY := Lib.hid (fun (M : ByteArray) (hM : M.size ≤ 2) (w1 : World) (l1 r : List UInt8) (wv1 : Int) (hl : skipA l1 = r) (hp : M.data.toList.isPrefixOf r = true) (h1 : RL p S vv vs l1 (d : Int) wv1 w1) => is_yes h1 hS hM hl hp)
  have KN := Lib.hid (fun (M : ByteArray) (hM : M.size ≤ 2) (w1 : World) (l1 r : List UInt8) (wv1 : Int) (hl : skipA l1 = r) (hp : M.data.toList.isPrefixOf r = false) (h1 : RL p S vv vs l1 (d : Int) wv1 w1) => is_no h1 hS hM hl hp)
  clear hRR hb hR hV IH h
  go_enter Tryd.func54, Tryd.ntmps54
  go_wp2_with (go_at_call 67; (with_reducible refine k1.mono ?_); intro e w1 hA; obtain ⟨n1, rfl, hI⟩ := inv_start HR.out HNE.out hA; have HI := Lib.hid hI; clear hA hI)
  go_loopg [5] f (fun q v5 wr => ∃ (n : Int) (g0 : Nat), g0 = q ∧ v5 = .int .i64 n ∧ g0 ≤ f ∧ Hid (InvE p S vv vs 3 d wv live w R g0 n wr))
  case atStart => exact ⟨n1, f, rfl, rfl, Nat.le_refl _, HI⟩
  case round =>
    obtain ⟨n, g0, hg0, rfl, hgf, HI⟩ := hrel
    subst hg0
    rcases HI.out with ⟨x, hRx, hx, hD, hB⟩ | ⟨ex, r, l1, wv1, hRx, hsr, hsl, hL, hVal, hB⟩
    · have D0 := Lib.hid hD
      have E0 := Lib.hid hB
      have HRx := Lib.hid hRx
      clear hD hB hRx HI KY KN KIH
      go_wp2_with (first
        | (go_at_call 33; (with_reducible refine (KD.out _ ⟨#[60, 61]⟩ _ hx D0.out).mono ?_); rintro e v0 ⟨rfl, hd0, hb0⟩; have D1 := Lib.hid hd0; have E1 := Lib.hid (E0.out.trans hb0); clear hd0 hb0 D0 E0)
        | (go_at_call 33; (with_reducible refine (KD.out _ ⟨#[62, 61]⟩ _ hx D1.out).mono ?_); rintro e v1 ⟨rfl, hd1, hb1⟩; have D2 := Lib.hid hd1; have E2 := Lib.hid (E1.out.trans hb1); clear hd1 hb1 D1 E1)
        | (go_at_call 33; (with_reducible refine (KD.out _ ⟨#[60]⟩ _ hx D2.out).mono ?_); rintro e v2 ⟨rfl, hd2, hb2⟩; have D3 := Lib.hid hd2; have E3 := Lib.hid (E2.out.trans hb2); clear hd2 hb2 D2 E2)
        | (go_at_call 33; (with_reducible refine (KD.out _ ⟨#[62]⟩ _ hx D3.out).mono ?_); rintro e v3 ⟨rfl, hd3, hb3⟩; have D4 := Lib.hid hd3; have E4 := Lib.hid (E3.out.trans hb3); clear hd3 hb3 D3 E3))
      go_ret
      exact ans_bad HRx.out D4.out E4.out
    · cases g0 with
      | zero => exact absurd hRx HNE.out
      | succ g =>
        have H0 := Lib.hid hL
        have E0 := Lib.hid hB
        have HVal := Lib.hid hVal
        have HSR := Lib.hid hsr
        have HSL := Lib.hid hsl
        clear hL hB hVal HI KD hsr hsl
        cases hp0 : ([60, 61] : List UInt8).isPrefixOf r with
        | true =>
          have hm : markIn (marksAt 3) r = some (.le, r.drop 2) := by simp [markIn, marksAt, hp0]
          rw [more_some hm] at hRx
          have HR1 := Lib.hid hRx
          have hne : pF g (.row 4) d (r.drop 2) ≠ .bad 0 := fun e => HNE.out (by rw [hRx, e]; rfl)
          have KS := Lib.hid (KIH.out g (by omega) (r.drop 2) hne wv1)
          have Y0 : Hid ((⟨#[60, 61]⟩ : ByteArray).data.toList.isPrefixOf r = true) := hp0
          clear hm hne hRx KIH hp0
          go_wp2_with (first
            | (go_at_call 33; (with_reducible refine (KY.out ⟨#[60, 61]⟩ (by decide) _ _ _ _ HSL.out Y0.out H0.out).mono ?_); rintro e v0 ⟨rfl, hl0, hb0⟩; have HY := Lib.hid hl0; have EY := Lib.hid (E0.out.trans hb0); clear hl0 hb0 H0 E0)
            | (go_at_call 67; (with_reducible refine (KS.out _ _ HY.out).mono ?_); intro e w5 hA; obtain ⟨m, rfl, hst⟩ := step_of HR1.out HNE.out EY.out hA; have ST := Lib.hid hst; clear hA hst HY EY)
            | (go_at_call 34; (with_reducible refine (oneE_any _ _).mono ?_); rintro e w6 ⟨rfl, rfl⟩))
          go_roundg g
          case rel => exact ⟨_, g, rfl, rfl, by omega, step_inv HV.out ST.out HVal.out (by simp [idleA]) rfl⟩
          case measure => omega
        | false =>
          cases hp1 : ([62, 61] : List UInt8).isPrefixOf r with
          | true =>
            have hm : markIn (marksAt 3) r = some (.ge, r.drop 2) := by simp [markIn, marksAt, hp0, hp1]
            rw [more_some hm] at hRx
            have HR1 := Lib.hid hRx
            have hne : pF g (.row 4) d (r.drop 2) ≠ .bad 0 := fun e => HNE.out (by rw [hRx, e]; rfl)
            have KS := Lib.hid (KIH.out g (by omega) (r.drop 2) hne wv1)
            have N0 : Hid ((⟨#[60, 61]⟩ : ByteArray).data.toList.isPrefixOf r = false) := hp0
            have Y1 : Hid ((⟨#[62, 61]⟩ : ByteArray).data.toList.isPrefixOf r = true) := hp1
            clear hm hne hRx KIH hp0 hp1
            go_wp2_with (first
              | (go_at_call 33; (with_reducible refine (KN.out ⟨#[60, 61]⟩ (by decide) _ _ _ _ HSL.out N0.out H0.out).mono ?_); rintro e v0 ⟨rfl, hl0, hb0⟩; have H1 := Lib.hid hl0; have E1 := Lib.hid (E0.out.trans hb0); clear hl0 hb0 H0 E0)
              | (go_at_call 33; (with_reducible refine (KY.out ⟨#[62, 61]⟩ (by decide) _ _ _ _ HSR.out Y1.out H1.out).mono ?_); rintro e v1 ⟨rfl, hl1, hb1⟩; have HY := Lib.hid hl1; have EY := Lib.hid (E1.out.trans hb1); clear hl1 hb1 H1 E1)
              | (go_at_call 67; (with_reducible refine (KS.out _ _ HY.out).mono ?_); intro e w5 hA; obtain ⟨m, rfl, hst⟩ := step_of HR1.out HNE.out EY.out hA; have ST := Lib.hid hst; clear hA hst HY EY)
              | (go_at_call 34; (with_reducible refine (oneE_any _ _).mono ?_); rintro e w6 ⟨rfl, rfl⟩))
            go_roundg g
            case rel => exact ⟨_, g, rfl, rfl, by omega, step_inv HV.out ST.out HVal.out (by simp [idleA]) rfl⟩
            case measure => omega
          | false =>
            cases hp2 : ([60] : List UInt8).isPrefixOf r with
            | true =>
              have hm : markIn (marksAt 3) r = some (.lt, r.drop 1) := by simp [markIn, marksAt, hp0, hp1, hp2]
              rw [more_some hm] at hRx
              have HR1 := Lib.hid hRx
              have hne : pF g (.row 4) d (r.drop 1) ≠ .bad 0 := fun e => HNE.out (by rw [hRx, e]; rfl)
              have KS := Lib.hid (KIH.out g (by omega) (r.drop 1) hne wv1)
              have N0 : Hid ((⟨#[60, 61]⟩ : ByteArray).data.toList.isPrefixOf r = false) := hp0
              have N1 : Hid ((⟨#[62, 61]⟩ : ByteArray).data.toList.isPrefixOf r = false) := hp1
              have Y2 : Hid ((⟨#[60]⟩ : ByteArray).data.toList.isPrefixOf r = true) := hp2
              clear hm hne hRx KIH hp0 hp1 hp2
              go_wp2_with (first
                | (go_at_call 33; (with_reducible refine (KN.out ⟨#[60, 61]⟩ (by decide) _ _ _ _ HSL.out N0.out H0.out).mono ?_); rintro e v0 ⟨rfl, hl0, hb0⟩; have H1 := Lib.hid hl0; have E1 := Lib.hid (E0.out.trans hb0); clear hl0 hb0 H0 E0)
                | (go_at_call 33; (with_reducible refine (KN.out ⟨#[62, 61]⟩ (by decide) _ _ _ _ HSR.out N1.out H1.out).mono ?_); rintro e v1 ⟨rfl, hl1, hb1⟩; have H2 := Lib.hid hl1; have E2 := Lib.hid (E1.out.trans hb1); clear hl1 hb1 H1 E1)
                | (go_at_call 33; (with_reducible refine (KY.out ⟨#[60]⟩ (by decide) _ _ _ _ HSR.out Y2.out H2.out).mono ?_); rintro e v2 ⟨rfl, hl2, hb2⟩; have HY := Lib.hid hl2; have EY := Lib.hid (E2.out.trans hb2); clear hl2 hb2 H2 E2)
                | (go_at_call 67; (with_reducible refine (KS.out _ _ HY.out).mono ?_); intro e w5 hA; obtain ⟨m, rfl, hst⟩ := step_of HR1.out HNE.out EY.out hA; have ST := Lib.hid hst; clear hA hst HY EY)
                | (go_at_call 34; (with_reducible refine (oneE_any _ _).mono ?_); rintro e w6 ⟨rfl, rfl⟩))
              go_roundg g
              case rel => exact ⟨_, g, rfl, rfl, by omega, step_inv HV.out ST.out HVal.out (by simp [idleA]) rfl⟩
              case measure => omega
            | false =>
              cases hp3 : ([62] : List UInt8).isPrefixOf r with
              | true =>
                have hm : markIn (marksAt 3) r = some (.gt, r.drop 1) := by simp [markIn, marksAt, hp0, hp1, hp2, hp3]
                rw [more_some hm] at hRx
                have HR1 := Lib.hid hRx
                have hne : pF g (.row 4) d (r.drop 1) ≠ .bad 0 := fun e => HNE.out (by rw [hRx, e]; rfl)
                have KS := Lib.hid (KIH.out g (by omega) (r.drop 1) hne wv1)
                have N0 : Hid ((⟨#[60, 61]⟩ : ByteArray).data.toList.isPrefixOf r = false) := hp0
                have N1 : Hid ((⟨#[62, 61]⟩ : ByteArray).data.toList.isPrefixOf r = false) := hp1
                have N2 : Hid ((⟨#[60]⟩ : ByteArray).data.toList.isPrefixOf r = false) := hp2
                have Y3 : Hid ((⟨#[62]⟩ : ByteArray).data.toList.isPrefixOf r = true) := hp3
                clear hm hne hRx KIH hp0 hp1 hp2 hp3
                go_wp2_with (first
                  | (go_at_call 33; (with_reducible refine (KN.out ⟨#[60, 61]⟩ (by decide) _ _ _ _ HSL.out N0.out H0.out).mono ?_); rintro e v0 ⟨rfl, hl0, hb0⟩; have H1 := Lib.hid hl0; have E1 := Lib.hid (E0.out.trans hb0); clear hl0 hb0 H0 E0)
                  | (go_at_call 33; (with_reducible refine (KN.out ⟨#[62, 61]⟩ (by decide) _ _ _ _ HSR.out N1.out H1.out).mono ?_); rintro e v1 ⟨rfl, hl1, hb1⟩; have H2 := Lib.hid hl1; have E2 := Lib.hid (E1.out.trans hb1); clear hl1 hb1 H1 E1)
                  | (go_at_call 33; (with_reducible refine (KN.out ⟨#[60]⟩ (by decide) _ _ _ _ HSR.out N2.out H2.out).mono ?_); rintro e v2 ⟨rfl, hl2, hb2⟩; have H3 := Lib.hid hl2; have E3 := Lib.hid (E2.out.trans hb2); clear hl2 hb2 H2 E2)
                  | (go_at_call 33; (with_reducible refine (KY.out ⟨#[62]⟩ (by decide) _ _ _ _ HSR.out Y3.out H3.out).mono ?_); rintro e v3 ⟨rfl, hl3, hb3⟩; have HY := Lib.hid hl3; have EY := Lib.hid (E3.out.trans hb3); clear hl3 hb3 H3 E3)
                  | (go_at_call 67; (with_reducible refine (KS.out _ _ HY.out).mono ?_); intro e w5 hA; obtain ⟨m, rfl, hst⟩ := step_of HR1.out HNE.out EY.out hA; have ST := Lib.hid hst; clear hA hst HY EY)
                  | (go_at_call 34; (with_reducible refine (oneE_any _ _).mono ?_); rintro e w6 ⟨rfl, rfl⟩))
                go_roundg g
                case rel => exact ⟨_, g, rfl, rfl, by omega, step_inv HV.out ST.out HVal.out (by simp [idleA]) rfl⟩
                case measure => omega
              | false =>
                have hm : markIn (marksAt 3) r = none := by simp [markIn, marksAt, hp0, hp1, hp2, hp3]
                rw [more_none hm] at hRx
                have HR1 := Lib.hid hRx
                have N0 : Hid ((⟨#[60, 61]⟩ : ByteArray).data.toList.isPrefixOf r = false) := hp0
                have N1 : Hid ((⟨#[62, 61]⟩ : ByteArray).data.toList.isPrefixOf r = false) := hp1
                have N2 : Hid ((⟨#[60]⟩ : ByteArray).data.toList.isPrefixOf r = false) := hp2
                have N3 : Hid ((⟨#[62]⟩ : ByteArray).data.toList.isPrefixOf r = false) := hp3
                clear hm hRx KIH hp0 hp1 hp2 hp3
                go_wp2_with (first
                  | (go_at_call 33; (with_reducible refine (KN.out ⟨#[60, 61]⟩ (by decide) _ _ _ _ HSL.out N0.out H0.out).mono ?_); rintro e v0 ⟨rfl, hl0, hb0⟩; have H1 := Lib.hid hl0; have E1 := Lib.hid (E0.out.trans hb0); clear hl0 hb0 H0 E0)
                  | (go_at_call 33; (with_reducible refine (KN.out ⟨#[62, 61]⟩ (by decide) _ _ _ _ HSR.out N1.out H1.out).mono ?_); rintro e v1 ⟨rfl, hl1, hb1⟩; have H2 := Lib.hid hl1; have E2 := Lib.hid (E1.out.trans hb1); clear hl1 hb1 H1 E1)
                  | (go_at_call 33; (with_reducible refine (KN.out ⟨#[60]⟩ (by decide) _ _ _ _ HSR.out N2.out H2.out).mono ?_); rintro e v2 ⟨rfl, hl2, hb2⟩; have H3 := Lib.hid hl2; have E3 := Lib.hid (E2.out.trans hb2); clear hl2 hb2 H2 E2)
                  | (go_at_call 33; (with_reducible refine (KN.out ⟨#[62]⟩ (by decide) _ _ _ _ HSR.out N3.out H3.out).mono ?_); rintro e v3 ⟨rfl, hl3, hb3⟩; have H4 := Lib.hid hl3; have E4 := Lib.hid (E3.out.trans hb3); clear hl3 hb3 H3 E3))
                go_ret
                exact ans_ok HR1.out H4.out rfl HVal.out E4.out
end Go.Proofs.YtaaecgglocgcmaaDoor
namespace Go.Proofs.YtaaecgglocgcmaaDoor
open Go.RowKit Go.Lib

set_option maxHeartbeats 8000000 in
set_option maxRecDepth 20000 in
theorem sumE_go (p : Nat) (S : ByteArray) (vv : Value) (vs : List Vr) (f d : Nat) (l : List UInt8) (wv : Int) (live : Bool) (w : World) (hS : S.size ≤ 1000) (hV : ∀ s x, valA vs s = .no x → x ≠ 0) (IH : ∀ g, g ≤ f → LevE 74 5 p S vv vs g) (hd : d ≤ 30) (hb : pF (f + 1) (.row 4) d l ≠ .bad 0) (h : RL p S vv vs l (d : Int) wv w) :
    Calls Tryd.prog 67 #[.pointer (some ⟨p, 0, none⟩), .bool live] w (AnsE p S vv vs d wv live w (pF (f + 1) (.row 4) d l)) := by
  have hR := row_eq f 4 d l (by decide)
  obtain ⟨R, hRR⟩ : ∃ R, R = pF (f + 1) (.row 4) d l := ⟨_, rfl⟩
  rw [← hRR] at hb hR ⊢
  have k1 := IH f (Nat.le_refl _) d l wv live w hd (fun e => hb (by rw [hR, e]; rfl)) h
  have HR := Lib.hid hR
  have HNE := Lib.hid hb
  have HV := Lib.hid hV
  have KD := Lib.hid (fun (w1 : World) (M : ByteArray) (x : Int) (hx : x ≠ 0) (h1 : RD p S vv x w1) => is_dead M h1 hS hx)
  have KIH := Lib.hid (fun (g : Nat) (hg : g ≤ f) (l1 : List UInt8) (hne : pF g (.row 5) d l1 ≠ .bad 0) (wv1 : Int) (live2 : Bool) (w1 : World) (h1 : RL p S vv vs l1 (d : Int) wv1 w1) => IH g hg d l1 wv1 live2 w1 hd hne h1)
  have KY := Lib.hid (fun (M : ByteArray) (hM : M.size ≤ 2) (w1 : World) (l1 r : List UInt8) (wv1 : Int) (hl : skipA l1 = r) (hp : M.data.toList.isPrefixOf r = true) (h1 : RL p S vv vs l1 (d : Int) wv1 w1) => is_yes h1 hS hM hl hp)
  have KN := Lib.hid (fun (M : ByteArray) (hM : M.size ≤ 2) (w1 : World) (l1 r : List UInt8) (wv1 : Int) (hl : skipA l1 = r) (hp : M.data.toList.isPrefixOf r = false) (h1 : RL p S vv vs l1 (d : Int) wv1 w1) => is_no h1 hS hM hl hp)
  clear hRR hb hR hV IH h
  go_enter Tryd.func67, Tryd.ntmps67
  go_wp2_with (go_at_call 74; (with_reducible refine k1.mono ?_); intro e w1 hA; obtain ⟨n1, rfl, hI⟩ := inv_start HR.out HNE.out hA; have HI := Lib.hid hI; clear hA hI)
  go_loopg [5] f (fun q v5 wr => ∃ (n : Int) (g0 : Nat), g0 = q ∧ v5 = .int .i64 n ∧ g0 ≤ f ∧ Hid (InvE p S vv vs 4 d wv live w R g0 n wr))
  case atStart => exact ⟨n1, f, rfl, rfl, Nat.le_refl _, HI⟩
  case round =>
    obtain ⟨n, g0, hg0, rfl, hgf, HI⟩ := hrel
    subst hg0
    rcases HI.out with ⟨x, hRx, hx, hD, hB⟩ | ⟨ex, r, l1, wv1, hRx, hsr, hsl, hL, hVal, hB⟩
    · have D0 := Lib.hid hD
      have E0 := Lib.hid hB
      have HRx := Lib.hid hRx
      clear hD hB hRx HI KY KN KIH
      go_wp2_with (first
        | (go_at_call 33; (with_reducible refine (KD.out _ ⟨#[43]⟩ _ hx D0.out).mono ?_); rintro e v0 ⟨rfl, hd0, hb0⟩; have D1 := Lib.hid hd0; have E1 := Lib.hid (E0.out.trans hb0); clear hd0 hb0 D0 E0)
        | (go_at_call 33; (with_reducible refine (KD.out _ ⟨#[45]⟩ _ hx D1.out).mono ?_); rintro e v1 ⟨rfl, hd1, hb1⟩; have D2 := Lib.hid hd1; have E2 := Lib.hid (E1.out.trans hb1); clear hd1 hb1 D1 E1))
      go_ret
      exact ans_bad HRx.out D2.out E2.out
    · cases g0 with
      | zero => exact absurd hRx HNE.out
      | succ g =>
        have H0 := Lib.hid hL
        have E0 := Lib.hid hB
        have HVal := Lib.hid hVal
        have HSR := Lib.hid hsr
        have HSL := Lib.hid hsl
        clear hL hB hVal HI KD hsr hsl
        cases hp0 : ([43] : List UInt8).isPrefixOf r with
        | true =>
          have hm : markIn (marksAt 4) r = some (.add, r.drop 1) := by simp [markIn, marksAt, hp0]
          rw [more_some hm] at hRx
          have HR1 := Lib.hid hRx
          have hne : pF g (.row 5) d (r.drop 1) ≠ .bad 0 := fun e => HNE.out (by rw [hRx, e]; rfl)
          have KS := Lib.hid (KIH.out g (by omega) (r.drop 1) hne wv1)
          have Y0 : Hid ((⟨#[43]⟩ : ByteArray).data.toList.isPrefixOf r = true) := hp0
          clear hm hne hRx KIH hp0
          go_wp2_with (first
            | (go_at_call 33; (with_reducible refine (KY.out ⟨#[43]⟩ (by decide) _ _ _ _ HSL.out Y0.out H0.out).mono ?_); rintro e v0 ⟨rfl, hl0, hb0⟩; have HY := Lib.hid hl0; have EY := Lib.hid (E0.out.trans hb0); clear hl0 hb0 H0 E0)
            | (go_at_call 74; (with_reducible refine (KS.out _ _ HY.out).mono ?_); intro e w5 hA; obtain ⟨m, rfl, hst⟩ := step_of HR1.out HNE.out EY.out hA; have ST := Lib.hid hst; clear hA hst HY EY)
            | (go_at_call 34; (with_reducible refine (oneE_any _ _).mono ?_); rintro e w6 ⟨rfl, rfl⟩))
          go_roundg g
          case rel => exact ⟨_, g, rfl, rfl, by omega, step_inv HV.out ST.out HVal.out (by simp [idleA]) rfl⟩
          case measure => omega
        | false =>
          cases hp1 : ([45] : List UInt8).isPrefixOf r with
          | true =>
            have hm : markIn (marksAt 4) r = some (.sub, r.drop 1) := by simp [markIn, marksAt, hp0, hp1]
            rw [more_some hm] at hRx
            have HR1 := Lib.hid hRx
            have hne : pF g (.row 5) d (r.drop 1) ≠ .bad 0 := fun e => HNE.out (by rw [hRx, e]; rfl)
            have KS := Lib.hid (KIH.out g (by omega) (r.drop 1) hne wv1)
            have N0 : Hid ((⟨#[43]⟩ : ByteArray).data.toList.isPrefixOf r = false) := hp0
            have Y1 : Hid ((⟨#[45]⟩ : ByteArray).data.toList.isPrefixOf r = true) := hp1
            clear hm hne hRx KIH hp0 hp1
            go_wp2_with (first
              | (go_at_call 33; (with_reducible refine (KN.out ⟨#[43]⟩ (by decide) _ _ _ _ HSL.out N0.out H0.out).mono ?_); rintro e v0 ⟨rfl, hl0, hb0⟩; have H1 := Lib.hid hl0; have E1 := Lib.hid (E0.out.trans hb0); clear hl0 hb0 H0 E0)
              | (go_at_call 33; (with_reducible refine (KY.out ⟨#[45]⟩ (by decide) _ _ _ _ HSR.out Y1.out H1.out).mono ?_); rintro e v1 ⟨rfl, hl1, hb1⟩; have HY := Lib.hid hl1; have EY := Lib.hid (E1.out.trans hb1); clear hl1 hb1 H1 E1)
              | (go_at_call 74; (with_reducible refine (KS.out _ _ HY.out).mono ?_); intro e w5 hA; obtain ⟨m, rfl, hst⟩ := step_of HR1.out HNE.out EY.out hA; have ST := Lib.hid hst; clear hA hst HY EY)
              | (go_at_call 34; (with_reducible refine (oneE_any _ _).mono ?_); rintro e w6 ⟨rfl, rfl⟩))
            go_roundg g
            case rel => exact ⟨_, g, rfl, rfl, by omega, step_inv HV.out ST.out HVal.out (by simp [idleA]) rfl⟩
            case measure => omega
          | false =>
            have hm : markIn (marksAt 4) r = none := by simp [markIn, marksAt, hp0, hp1]
            rw [more_none hm] at hRx
            have HR1 := Lib.hid hRx
            have N0 : Hid ((⟨#[43]⟩ : ByteArray).data.toList.isPrefixOf r = false) := hp0
            have N1 : Hid ((⟨#[45]⟩ : ByteArray).data.toList.isPrefixOf r = false) := hp1
            clear hm hRx KIH hp0 hp1
            go_wp2_with (first
              | (go_at_call 33; (with_reducible refine (KN.out ⟨#[43]⟩ (by decide) _ _ _ _ HSL.out N0.out H0.out).mono ?_); rintro e v0 ⟨rfl, hl0, hb0⟩; have H1 := Lib.hid hl0; have E1 := Lib.hid (E0.out.trans hb0); clear hl0 hb0 H0 E0)
              | (go_at_call 33; (with_reducible refine (KN.out ⟨#[45]⟩ (by decide) _ _ _ _ HSR.out N1.out H1.out).mono ?_); rintro e v1 ⟨rfl, hl1, hb1⟩; have H2 := Lib.hid hl1; have E2 := Lib.hid (E1.out.trans hb1); clear hl1 hb1 H1 E1))
            go_ret
            exact ans_ok HR1.out H2.out rfl HVal.out E2.out
end Go.Proofs.YtaaecgglocgcmaaDoor
namespace Go.Proofs.YtaaecgglocgcmaaDoor
open Go.RowKit Go.Lib

set_option maxHeartbeats 8000000 in
set_option maxRecDepth 20000 in
theorem productE_go (p : Nat) (S : ByteArray) (vv : Value) (vs : List Vr) (f d : Nat) (l : List UInt8) (wv : Int) (live : Bool) (w : World) (hS : S.size ≤ 1000) (hV : ∀ s x, valA vs s = .no x → x ≠ 0) (IH : ∀ g, g ≤ f → LevE 77 6 p S vv vs g) (hd : d ≤ 30) (hb : pF (f + 1) (.row 5) d l ≠ .bad 0) (h : RL p S vv vs l (d : Int) wv w) :
    Calls Tryd.prog 74 #[.pointer (some ⟨p, 0, none⟩), .bool live] w (AnsE p S vv vs d wv live w (pF (f + 1) (.row 5) d l)) := by
  have hR := row_eq f 5 d l (by decide)
  obtain ⟨R, hRR⟩ : ∃ R, R = pF (f + 1) (.row 5) d l := ⟨_, rfl⟩
  rw [← hRR] at hb hR ⊢
  have k1 := IH f (Nat.le_refl _) d l wv live w hd (fun e => hb (by rw [hR, e]; rfl)) h
  have HR := Lib.hid hR
  have HNE := Lib.hid hb
  have HV := Lib.hid hV
  have KD := Lib.hid (fun (w1 : World) (M : ByteArray) (x : Int) (hx : x ≠ 0) (h1 : RD p S vv x w1) => is_dead M h1 hS hx)
  have KIH := Lib.hid (fun (g : Nat) (hg : g ≤ f) (l1 : List UInt8) (hne : pF g (.row 6) d l1 ≠ .bad 0) (wv1 : Int) (live2 : Bool) (w1 : World) (h1 : RL p S vv vs l1 (d : Int) wv1 w1) => IH g hg d l1 wv1 live2 w1 hd hne h1)
  have KY := Lib.hid (fun (M : ByteArray) (hM : M.size ≤ 2) (w1 : World) (l1 r : List UInt8) (wv1 : Int) (hl : skipA l1 = r) (hp : M.data.toList.isPrefixOf r = true) (h1 : RL p S vv vs l1 (d : Int) wv1 w1) => is_yes h1 hS hM hl hp)
  have KN := Lib.hid (fun (M : ByteArray) (hM : M.size ≤ 2) (w1 : World) (l1 r : List UInt8) (wv1 : Int) (hl : skipA l1 = r) (hp : M.data.toList.isPrefixOf r = false) (h1 : RL p S vv vs l1 (d : Int) wv1 w1) => is_no h1 hS hM hl hp)
  clear hRR hb hR hV IH h
  go_enter Tryd.func74, Tryd.ntmps74
  go_wp2_with (go_at_call 77; (with_reducible refine k1.mono ?_); intro e w1 hA; obtain ⟨n1, rfl, hI⟩ := inv_start HR.out HNE.out hA; have HI := Lib.hid hI; clear hA hI)
  go_loopg [5] f (fun q v5 wr => ∃ (n : Int) (g0 : Nat), g0 = q ∧ v5 = .int .i64 n ∧ g0 ≤ f ∧ Hid (InvE p S vv vs 5 d wv live w R g0 n wr))
  case atStart => exact ⟨n1, f, rfl, rfl, Nat.le_refl _, HI⟩
  case round =>
    obtain ⟨n, g0, hg0, rfl, hgf, HI⟩ := hrel
    subst hg0
    rcases HI.out with ⟨x, hRx, hx, hD, hB⟩ | ⟨ex, r, l1, wv1, hRx, hsr, hsl, hL, hVal, hB⟩
    · have D0 := Lib.hid hD
      have E0 := Lib.hid hB
      have HRx := Lib.hid hRx
      clear hD hB hRx HI KY KN KIH
      go_wp2_with (first
        | (go_at_call 33; (with_reducible refine (KD.out _ ⟨#[42]⟩ _ hx D0.out).mono ?_); rintro e v0 ⟨rfl, hd0, hb0⟩; have D1 := Lib.hid hd0; have E1 := Lib.hid (E0.out.trans hb0); clear hd0 hb0 D0 E0)
        | (go_at_call 33; (with_reducible refine (KD.out _ ⟨#[47]⟩ _ hx D1.out).mono ?_); rintro e v1 ⟨rfl, hd1, hb1⟩; have D2 := Lib.hid hd1; have E2 := Lib.hid (E1.out.trans hb1); clear hd1 hb1 D1 E1)
        | (go_at_call 33; (with_reducible refine (KD.out _ ⟨#[37]⟩ _ hx D2.out).mono ?_); rintro e v2 ⟨rfl, hd2, hb2⟩; have D3 := Lib.hid hd2; have E3 := Lib.hid (E2.out.trans hb2); clear hd2 hb2 D2 E2))
      go_ret
      exact ans_bad HRx.out D3.out E3.out
    · cases g0 with
      | zero => exact absurd hRx HNE.out
      | succ g =>
        have H0 := Lib.hid hL
        have E0 := Lib.hid hB
        have HVal := Lib.hid hVal
        have HSR := Lib.hid hsr
        have HSL := Lib.hid hsl
        clear hL hB hVal HI KD hsr hsl
        cases hp0 : ([42] : List UInt8).isPrefixOf r with
        | true =>
          have hm : markIn (marksAt 5) r = some (.mul, r.drop 1) := by simp [markIn, marksAt, hp0]
          rw [more_some hm] at hRx
          have HR1 := Lib.hid hRx
          have hne : pF g (.row 6) d (r.drop 1) ≠ .bad 0 := fun e => HNE.out (by rw [hRx, e]; rfl)
          have KS := Lib.hid (KIH.out g (by omega) (r.drop 1) hne wv1)
          have Y0 : Hid ((⟨#[42]⟩ : ByteArray).data.toList.isPrefixOf r = true) := hp0
          clear hm hne hRx KIH hp0
          go_wp2_with (first
            | (go_at_call 33; (with_reducible refine (KY.out ⟨#[42]⟩ (by decide) _ _ _ _ HSL.out Y0.out H0.out).mono ?_); rintro e v0 ⟨rfl, hl0, hb0⟩; have HY := Lib.hid hl0; have EY := Lib.hid (E0.out.trans hb0); clear hl0 hb0 H0 E0)
            | (go_at_call 77; (with_reducible refine (KS.out _ _ HY.out).mono ?_); intro e w5 hA; obtain ⟨m, rfl, hst⟩ := step_of HR1.out HNE.out EY.out hA; have ST := Lib.hid hst; clear hA hst HY EY)
            | (go_at_call 34; (with_reducible refine (oneE_any _ _).mono ?_); rintro e w6 ⟨rfl, rfl⟩))
          go_roundg g
          case rel => exact ⟨_, g, rfl, rfl, by omega, step_inv HV.out ST.out HVal.out (by simp [idleA]) rfl⟩
          case measure => omega
        | false =>
          cases hp1 : ([47] : List UInt8).isPrefixOf r with
          | true =>
            have hm : markIn (marksAt 5) r = some (.quo, r.drop 1) := by simp [markIn, marksAt, hp0, hp1]
            rw [more_some hm] at hRx
            have HR1 := Lib.hid hRx
            have hne : pF g (.row 6) d (r.drop 1) ≠ .bad 0 := fun e => HNE.out (by rw [hRx, e]; rfl)
            have KS := Lib.hid (KIH.out g (by omega) (r.drop 1) hne wv1)
            have N0 : Hid ((⟨#[42]⟩ : ByteArray).data.toList.isPrefixOf r = false) := hp0
            have Y1 : Hid ((⟨#[47]⟩ : ByteArray).data.toList.isPrefixOf r = true) := hp1
            clear hm hne hRx KIH hp0 hp1
            go_upto_region 13 with (first
              | (go_at_call 33; (with_reducible refine (KN.out ⟨#[42]⟩ (by decide) _ _ _ _ HSL.out N0.out H0.out).mono ?_); rintro e v0 ⟨rfl, hl0, hb0⟩; have H1 := Lib.hid hl0; have E1 := Lib.hid (E0.out.trans hb0); clear hl0 hb0 H0 E0)
              | (go_at_call 33; (with_reducible refine (KY.out ⟨#[47]⟩ (by decide) _ _ _ _ HSR.out Y1.out H1.out).mono ?_); rintro e v1 ⟨rfl, hl1, hb1⟩; have HY := Lib.hid hl1; have EY := Lib.hid (E1.out.trans hb1); clear hl1 hb1 H1 E1)
              | (go_at_call 77; (with_reducible refine (KS.out _ _ HY.out).mono ?_); intro e w5 hA; obtain ⟨m, rfl, hst⟩ := step_of HR1.out HNE.out EY.out hA; have ST := Lib.hid hst; clear hA hst HY EY)
              | (go_at_call 34; (with_reducible refine (oneE_any _ _).mono ?_); rintro e w6 ⟨rfl, rfl⟩))
            by_cases hm0 : m = 0
            · subst hm0
              go_wp2_with (go_at_call 78; (with_reducible refine (step_come HV.out ST.out HVal.out rfl rfl).mono ?_); rintro e w7 ⟨rfl, hI⟩; have HI2 := Lib.hid hI; clear hI)
              go_roundg g
              case rel => exact ⟨_, g, rfl, rfl, by omega, HI2⟩
              case measure => omega
            · have hm1 : (m == 0) = false := by simp [hm0]
              go_wp2
              go_roundg g
              case rel => exact ⟨_, g, rfl, rfl, by omega, step_inv HV.out ST.out HVal.out (by simp [idleA]) (by show opD .quo n m = _; exact if_neg hm0)⟩
              case measure => omega
          | false =>
            cases hp2 : ([37] : List UInt8).isPrefixOf r with
            | true =>
              have hm : markIn (marksAt 5) r = some (.rem, r.drop 1) := by simp [markIn, marksAt, hp0, hp1, hp2]
              rw [more_some hm] at hRx
              have HR1 := Lib.hid hRx
              have hne : pF g (.row 6) d (r.drop 1) ≠ .bad 0 := fun e => HNE.out (by rw [hRx, e]; rfl)
              have KS := Lib.hid (KIH.out g (by omega) (r.drop 1) hne wv1)
              have N0 : Hid ((⟨#[42]⟩ : ByteArray).data.toList.isPrefixOf r = false) := hp0
              have N1 : Hid ((⟨#[47]⟩ : ByteArray).data.toList.isPrefixOf r = false) := hp1
              have Y2 : Hid ((⟨#[37]⟩ : ByteArray).data.toList.isPrefixOf r = true) := hp2
              clear hm hne hRx KIH hp0 hp1 hp2
              go_upto_region 13 with (first
                | (go_at_call 33; (with_reducible refine (KN.out ⟨#[42]⟩ (by decide) _ _ _ _ HSL.out N0.out H0.out).mono ?_); rintro e v0 ⟨rfl, hl0, hb0⟩; have H1 := Lib.hid hl0; have E1 := Lib.hid (E0.out.trans hb0); clear hl0 hb0 H0 E0)
                | (go_at_call 33; (with_reducible refine (KN.out ⟨#[47]⟩ (by decide) _ _ _ _ HSR.out N1.out H1.out).mono ?_); rintro e v1 ⟨rfl, hl1, hb1⟩; have H2 := Lib.hid hl1; have E2 := Lib.hid (E1.out.trans hb1); clear hl1 hb1 H1 E1)
                | (go_at_call 33; (with_reducible refine (KY.out ⟨#[37]⟩ (by decide) _ _ _ _ HSR.out Y2.out H2.out).mono ?_); rintro e v2 ⟨rfl, hl2, hb2⟩; have HY := Lib.hid hl2; have EY := Lib.hid (E2.out.trans hb2); clear hl2 hb2 H2 E2)
                | (go_at_call 77; (with_reducible refine (KS.out _ _ HY.out).mono ?_); intro e w5 hA; obtain ⟨m, rfl, hst⟩ := step_of HR1.out HNE.out EY.out hA; have ST := Lib.hid hst; clear hA hst HY EY)
                | (go_at_call 34; (with_reducible refine (oneE_any _ _).mono ?_); rintro e w6 ⟨rfl, rfl⟩))
              by_cases hm0 : m = 0
              · subst hm0
                go_wp2_with (go_at_call 78; (with_reducible refine (step_come HV.out ST.out HVal.out rfl rfl).mono ?_); rintro e w7 ⟨rfl, hI⟩; have HI2 := Lib.hid hI; clear hI)
                go_roundg g
                case rel => exact ⟨_, g, rfl, rfl, by omega, HI2⟩
                case measure => omega
              · have hm1 : (m == 0) = false := by simp [hm0]
                go_wp2
                go_roundg g
                case rel => exact ⟨_, g, rfl, rfl, by omega, step_inv HV.out ST.out HVal.out (by simp [idleA]) (by show opD .rem n m = _; exact if_neg hm0)⟩
                case measure => omega
            | false =>
              have hm : markIn (marksAt 5) r = none := by simp [markIn, marksAt, hp0, hp1, hp2]
              rw [more_none hm] at hRx
              have HR1 := Lib.hid hRx
              have N0 : Hid ((⟨#[42]⟩ : ByteArray).data.toList.isPrefixOf r = false) := hp0
              have N1 : Hid ((⟨#[47]⟩ : ByteArray).data.toList.isPrefixOf r = false) := hp1
              have N2 : Hid ((⟨#[37]⟩ : ByteArray).data.toList.isPrefixOf r = false) := hp2
              clear hm hRx KIH hp0 hp1 hp2
              go_wp2_with (first
                | (go_at_call 33; (with_reducible refine (KN.out ⟨#[42]⟩ (by decide) _ _ _ _ HSL.out N0.out H0.out).mono ?_); rintro e v0 ⟨rfl, hl0, hb0⟩; have H1 := Lib.hid hl0; have E1 := Lib.hid (E0.out.trans hb0); clear hl0 hb0 H0 E0)
                | (go_at_call 33; (with_reducible refine (KN.out ⟨#[47]⟩ (by decide) _ _ _ _ HSR.out N1.out H1.out).mono ?_); rintro e v1 ⟨rfl, hl1, hb1⟩; have H2 := Lib.hid hl1; have E2 := Lib.hid (E1.out.trans hb1); clear hl1 hb1 H1 E1)
                | (go_at_call 33; (with_reducible refine (KN.out ⟨#[37]⟩ (by decide) _ _ _ _ HSR.out N2.out H2.out).mono ?_); rintro e v2 ⟨rfl, hl2, hb2⟩; have H3 := Lib.hid hl2; have E3 := Lib.hid (E2.out.trans hb2); clear hl2 hb2 H2 E2))
              go_ret
              exact ans_ok HR1.out H3.out rfl HVal.out E3.out
end Go.Proofs.YtaaecgglocgcmaaDoor
namespace Go.Proofs.YtaaecgglocgcmaaDoor
open Go.RowKit Go.Lib

theorem valA_no {vs : List Vr} (s : List UInt8) (x : Int) (h : valA vs s = .no x) : x ≠ 0 := by
  unfold valA at h
  cases hf : findA vs s with
  | none => rw [hf] at h; cases h
  | some v =>
    rw [hf] at h
    have h : numA v.data.toList = .no x := h
    unfold numA at h
    split at h
    · cases h
    · split at h
      · cases h
      · cases h; decide
theorem ans_skipped {p : Nat} {S : ByteArray} {vv : Value} {vs : List Vr} {d : Nat} {wv : Int} {live : Bool} {w w' : World} {R : Pr} {e : Ending} (h : AnsE p S vv vs d wv live w R e w') : AnsE p S vv vs d wv live w R.skipped e w' := by
  cases R with
  | bad x => exact h
  | ok ex r =>
    obtain ⟨n, wv1, h1, ⟨l, h2, h3⟩, h4, h5⟩ := h
    exact ⟨n, wv1, h1, ⟨l, h2, h3.trans (skip_skip r).symm⟩, h4, h5⟩
structure AllE (p : Nat) (S : ByteArray) (vv : Value) (vs : List Vr) (f : Nat) : Prop where
  un : UnE p S vv vs f
  l6 : LevE 77 6 p S vv vs f
  l5 : LevE 74 5 p S vv vs f
  l4 : LevE 67 4 p S vv vs f
  l3 : LevE 54 3 p S vv vs f
  l2 : LevE 45 2 p S vv vs f
  l1 : LevE 32 1 p S vv vs f
  l0 : LevE 25 0 p S vv vs f
theorem un_step (p : Nat) (S : ByteArray) (vv : Value) (vs : List Vr) (f : Nat) (hS : S.size ≤ 1000) (hO : OpE p S vv vs) (h1 : UnE p S vv vs f) (h2 : LevE 25 0 p S vv vs f) : UnE p S vv vs (f + 1) := by
  intro d l wv live w hd hb h
  have key : ∀ X, skipA l = X → pF (f + 1) .un d l = (match X with
    | [] => Pr.bad 9
    | c :: r =>
      if c = 40 then (if d = 30 then .bad 7 else (pF f (.row 0) (d + 1) r).closed)
      else if c = 45 then (if d = 30 then .bad 7 else (pF f .un (d + 1) r).map .neg)
      else if c = 33 then (if d = 30 then .bad 7 else (pF f .un (d + 1) r).map .bang)
      else if c = 43 then (if d = 30 then .bad 7 else pF f .un (d + 1) r)
      else atomA c r) := fun X hX => by subst hX; rfl
  cases hsk : skipA l with
  | nil =>
    rw [key _ hsk]
    exact un_atom p S vv vs d l [] wv live w hS hO hsk (fun c r e => by cases e) h
  | cons c r =>
    rw [key _ hsk] at hb ⊢
    simp only [] at hb ⊢
    by_cases h40 : c = 40
    · subst h40
      rw [if_pos rfl] at hb ⊢
      exact un_paren p S vv vs f d l r wv live w hS h2 hsk hd hb h
    · rw [if_neg h40] at hb ⊢
      by_cases h45 : c = 45
      · subst h45
        rw [if_pos rfl] at hb ⊢
        exact un_neg p S vv vs f d l r wv live w hS h1 hsk hd hb h
      · rw [if_neg h45] at hb ⊢
        by_cases h33 : c = 33
        · subst h33
          rw [if_pos rfl] at hb ⊢
          exact un_bang p S vv vs f d l r wv live w hS h1 hsk hd hb h
        · rw [if_neg h33] at hb ⊢
          by_cases h43 : c = 43
          · subst h43
            rw [if_pos rfl] at hb ⊢
            exact un_plus p S vv vs f d l r wv live w hS h1 hsk hd hb h
          · rw [if_neg h43]
            exact un_atom p S vv vs d l (c :: r) wv live w hS hO hsk (fun c' r' e => by cases e; exact ⟨h40, h45, h33, h43⟩) h
theorem all_reads (p : Nat) (S : ByteArray) (vv : Value) (vs : List Vr) (hS : S.size ≤ 1000) (hO : OpE p S vv vs) : ∀ f, AllE p S vv vs f := by
  intro f
  induction f using Nat.strongRecOn with
  | ind f ih =>
    cases f with
    | zero => exact ⟨fun d l wv live w _ hb => absurd rfl hb, fun d l wv live w _ hb => absurd rfl hb, fun d l wv live w _ hb => absurd rfl hb, fun d l wv live w _ hb => absurd rfl hb, fun d l wv live w _ hb => absurd rfl hb, fun d l wv live w _ hb => absurd rfl hb, fun d l wv live w _ hb => absurd rfl hb, fun d l wv live w _ hb => absurd rfl hb⟩
    | succ f =>
      have hV := fun s x => valA_no (vs := vs) s x
      have lo : ∀ g, g ≤ f → AllE p S vv vs g := fun g hg => ih g (Nat.lt_succ_of_le hg)
      have un := un_step p S vv vs f hS hO (lo f (Nat.le_refl _)).un (lo f (Nat.le_refl _)).l0
      refine ⟨un, ?_, fun d l wv live w hd hb h => productE_go p S vv vs f d l wv live w hS hV (fun g hg => (lo g hg).l6) hd hb h, fun d l wv live w hd hb h => sumE_go p S vv vs f d l wv live w hS hV (fun g hg => (lo g hg).l5) hd hb h, fun d l wv live w hd hb h => lessE_go p S vv vs f d l wv live w hS hV (fun g hg => (lo g hg).l4) hd hb h, fun d l wv live w hd hb h => equalE_go p S vv vs f d l wv live w hS hV (fun g hg => (lo g hg).l3) hd hb h, fun d l wv live w hd hb h => andE_go p S vv vs f d l wv live w hS hV (fun g hg => (lo g hg).l2) hd hb h, fun d l wv live w hd hb h => orE_go p S vv vs f d l wv live w hS hV (fun g hg => (lo g hg).l1) hd hb h⟩
      intro d l wv live w hd hb h
      have e : pF (f + 1) (.row 6) d l = (pF f .un d l).skipped := by
        show (if 6 = 6 then _ else _) = _
        rw [if_pos rfl]
      rw [e] at hb ⊢
      exact ((lo f (Nat.le_refl _)).un d l wv live w hd (fun e2 => hb (by rw [e2]; rfl)) h).mono fun e w' hA => ans_skipped hA
end Go.Proofs.YtaaecgglocgcmaaDoor
