/- Packed texts: ArEvEval, ArFew, ArithEvalsWalk. What each of them proves stands above its theorems; the conditions stand in these. -/
import Derived.Test.YtaaecgglocgcmaaDoorD4
import Derived.Test.YtaaecgglocgcmaaDoorD5
import Derived.Test.YtaaecgglocgcmaaDoorD7
import Derived.Test.YtaaecgglocgcmaaDoorD10
namespace Go.Proofs.YtaaecgglocgcmaaDoor
open Go.RowKit Go.Lib

theorem find_mem : ∀ (vs : List Vr) (s : List UInt8) (v : ByteArray), findA vs s = some v → ∃ x ∈ vs, x.v = v
  | [], s, v, h => by cases h
  | x :: r, s, v, h => by
    unfold findA at h
    split at h
    · cases h; exact ⟨x, by simp, rfl⟩
    · obtain ⟨y, hy, e⟩ := find_mem r s v h
      exact ⟨y, List.mem_cons_of_mem _ hy, e⟩
theorem blanks_dead {p : Nat} {S : ByteArray} {vv : Value} {x : Int} {w : World} (h : RD p S vv x w) (hS : S.size ≤ 1000) :
    Calls Tryd.prog 26 #[.pointer (some ⟨p, 0, none⟩)] w fun e w' => e = .returned (.tuple #[]) ∧ RD p S vv x w' ∧ Below p w w' := by
  obtain ⟨a, d, wv, h1, h2⟩ := h
  exact (blanksE_any p S a d vv x wv w h1 h2 hS).mono fun e w' ⟨he, ⟨a', g1, g2, _⟩, hb⟩ => ⟨he, ⟨a', d, wv, g1, g2⟩, hb⟩
theorem blanks_live {p : Nat} {S : ByteArray} {vv : Value} {vs : List Vr} {l r : List UInt8} {d wv : Int} {w : World} (h : RL p S vv vs l d wv w) (hS : S.size ≤ 1000) (hl : skipA l = r) :
    Calls Tryd.prog 26 #[.pointer (some ⟨p, 0, none⟩)] w fun e w' => e = .returned (.tuple #[]) ∧ RL p S vv vs r d wv w' ∧ Below p w w' := by
  obtain ⟨a, h1, h2, rfl, h4⟩ := h
  exact (blanksE_any p S a d vv 0 wv w h1 h2 hS).mono fun e w' ⟨he, ⟨a', g1, g2, g3⟩, hb⟩ => ⟨he, ⟨a', g1, g2, g3.trans hl, h4.below hb⟩, hb⟩
def finE (V : List UInt8 → Cm) (ex : Ex) : Int × Int := match ev V ex with
  | .is n => (n, 0)
  | .no x => (0, x)
theorem finE_is {V : List UInt8 → Cm} {ex : Ex} {n : Int} (h : ev V ex = .is n) : finE V ex = (n, 0) := by unfold finE; rw [h]
theorem finE_no {V : List UInt8 → Cm} {ex : Ex} {x : Int} (h : ev V ex = .no x) : finE V ex = (0, x) := by unfold finE; rw [h]
def wholeF (V : List UInt8 → Cm) : Pr → Int × Int
  | .bad x => (0, x)
  | .ok e _ => finE V e
set_option maxHeartbeats 2000000 in
set_option maxRecDepth 20000 in
theorem refEvalA_any (S : ByteArray) (vv : Value) (vs : List Vr) (w : World) (hS : S.size ≤ 1000) (hVs : Vars w.heap.size vv vs w) (hz : ∀ x ∈ vs, x.v.size ≤ 70000000000000) :
    Calls Tryd.prog 14 #[.string S, vv] w fun e w' => e = .returned (.tuple #[.int .i64 (evalA vs S.data.toList).1, .int .i64 (evalA vs S.data.toList).2]) ∧ Below w.heap.size w w' := by
  obtain ⟨ao, cap, rfl, _⟩ := id hVs
  have hO : OpE w.heap.size S (.slice ao vs.length cap) vs := operandE_any w.heap.size S _ vs hS (fun s v e => by obtain ⟨x, hx, rfl⟩ := find_mem vs s v e; exact hz x hx)
  obtain ⟨W, hW⟩ : ∃ W, W = w.alloc (.cells #[.string S, .int .i64 0, .int .i64 0, .slice ao vs.length cap, .int .i64 0, .int .i64 0] 52) := ⟨_, rfl⟩
  have hb0 : Below w.heap.size w W := by rw [hW]; exact (Below.refl _ w).alloc (Nat.le_refl _) _
  have hR : RL w.heap.size S (.slice ao vs.length cap) vs S.data.toList ((0 : Nat) : Int) 0 W := ⟨0, by rw [hW]; exact heap_alloc_new w _, Nat.zero_le _, rfl, hVs.below hb0⟩
  obtain ⟨F, hF⟩ : ∃ F, F = 8 * S.data.toList.length + 8 := ⟨_, rfl⟩
  have hne : pF F (.row 0) 0 S.data.toList ≠ .bad 0 := by rw [hF]; exact readA_fuel _
  have k1 := (all_reads w.heap.size S _ vs hS hO F).l0 0 S.data.toList 0 true W (by omega) hne hR
  have hev : evalA vs S.data.toList = wholeF (valA vs) (pF F (.row 0) 0 S.data.toList).whole := by
    rw [hF]
    show evalA vs S.data.toList = wholeF (valA vs) (readA S.data.toList)
    unfold evalA
    cases readA S.data.toList <;> rfl
  obtain ⟨ans, ha⟩ : ∃ ans, ans = evalA vs S.data.toList := ⟨_, rfl⟩
  rw [← ha] at hev ⊢
  subst hW
  have HB0 := Lib.hid hb0
  have HSK := Lib.hid ((pF_skips F).1 0 0 S.data.toList)
  have HNO := Lib.hid (fun e x => ev_no (fun s x => valA_no (vs := vs) s x) e x)
  clear hO hR hVs hz ha hb0 hF
  generalize pF F (.row 0) 0 S.data.toList = R at *
  cases R with
  | bad x =>
    have hx : x ≠ 0 := fun e => hne (by rw [e])
    have hx2 : (x == 0) = false := by simp [hx]
    have hx3 : (x != 0) = true := by simp [hx]
    have HA : Hid (ans = (0, x)) := hev
    clear hev hne HSK HNO
    go_enter Tryd.func14, Tryd.ntmps14
    go_upto_region 4 with (first
      | (go_at_call 25; (with_reducible refine k1.mono ?_); rintro e w1 ⟨⟨n, rfl⟩, h1, hb1⟩; have H1 := Lib.hid h1; have HB1 := Lib.hid (HB0.out.trans hb1); clear h1 hb1 k1)
      | (go_at_call 26; (with_reducible refine (blanks_dead H1.out hS).mono ?_); rintro e w2 ⟨rfl, ⟨a2, d2, wv2, h2, ha2⟩, hb2⟩; obtain ⟨⟨c0, c1, c2, c3, c4, c5⟩, f1, f2, f4, f5⟩ := h2.cells; have H2 : Hid (RD w.heap.size S (.slice ao vs.length cap) x w2) := ⟨a2, d2, wv2, h2, ha2⟩; have HB2 := Lib.hid (HB1.out.trans hb2); clear h2 hb2 H1 HB1))
    by_cases hlt : a2 < S.size
    · have hltI : (a2 : Int) < (S.size : Int) := by omega
      go_wp2_with (go_at_call 27; (with_reducible refine (fails_dead H2.out hx).mono ?_); rintro e w3 ⟨rfl, ⟨a3, d3, wv3, h3, ha3⟩, hb3⟩; clear c0 c1 c2 c3 c4 c5 f1 f2 f4 f5; obtain ⟨⟨c0, c1, c2, c3, c4, c5⟩, f1, f2, f4, f5⟩ := h3.cells; have HB3 := Lib.hid (HB2.out.trans hb3); clear h3 hb3)
      go_quiet (fail)
      go_wp2
      go_ret2
      exact ⟨by rw [HA.out]; rfl, below_draws HB3.out _⟩
    · have hge : ¬ (a2 : Int) < (S.size : Int) := by omega
      go_wp2_with fail
      go_quiet (fail)
      go_wp2
      go_ret2
      exact ⟨by rw [HA.out]; rfl, below_draws HB2.out _⟩
  | ok ex r =>
    have hsr := HSK.out ex r rfl
    cases r with
    | nil =>
      replace hev : ans = finE (valA vs) ex := hev
      have HEV := Lib.hid hev
      clear hev hne HSK hsr
      go_enter Tryd.func14, Tryd.ntmps14
      go_upto_region 4 with (first
        | (go_at_call 25; (with_reducible refine k1.mono ?_); rintro e w1 ⟨n, wv1, rfl, ⟨l1, h1, hs1⟩, hval, hb1⟩; have H1 := Lib.hid h1; have HS1 := Lib.hid hs1; have HVAL := Lib.hid hval; have HB1 := Lib.hid (HB0.out.trans hb1); clear h1 hb1 k1 hs1 hval)
        | (go_at_call 26; (with_reducible refine (blanks_live H1.out hS HS1.out).mono ?_); rintro e w2 ⟨rfl, ⟨a2, h2, ha2, hd2, _⟩, hb2⟩; obtain ⟨⟨c0, c1, c2, c3, c4, c5⟩, f1, f2, f4, f5⟩ := h2.cells; have HD2 := Lib.hid hd2; have HB2 := Lib.hid (HB1.out.trans hb2); clear h2 hb2 H1 HB1 hd2))
      have hge : ¬ (a2 : Int) < (S.size : Int) := by
        have h1 := drop_len S a2
        have h2 : S.data.toList.drop a2 = [] := HD2.out
        rw [h2] at h1
        simp at h1
        omega
      have hv := HVAL.out
      unfold ValE at hv
      rw [if_pos ⟨rfl, rfl⟩] at hv
      rcases hv with ⟨m, h1, rfl, rfl⟩ | ⟨x, h1, rfl⟩
      · have HA : Hid (ans = (n, 0)) := HEV.out.trans (finE_is h1)
        clear h1
        go_wp2
        go_ret2
        exact ⟨by rw [HA.out]; rfl, HB2.out⟩
      · have hx := HNO.out ex wv1 h1
        have hx2 : (wv1 == 0) = false := by simp [hx]
        have hx3 : (wv1 != 0) = true := by simp [hx]
        have HA : Hid (ans = (0, wv1)) := HEV.out.trans (finE_no h1)
        clear h1
        go_wp2_with fail
        go_quiet (fail)
        go_wp2
        go_ret2
        exact ⟨by rw [HA.out]; rfl, below_draws HB2.out _⟩
    | cons c r =>
      have HA : Hid (ans = (0, 9)) := hev
      have HSR := Lib.hid hsr
      clear hev hne HSK hsr
      go_enter Tryd.func14, Tryd.ntmps14
      go_upto_region 4 with (first
        | (go_at_call 25; (with_reducible refine k1.mono ?_); rintro e w1 ⟨n, wv1, rfl, ⟨l1, h1, hs1⟩, hval, hb1⟩; have H1 := Lib.hid h1; have HS1 := Lib.hid (hs1.trans HSR.out); have HB1 := Lib.hid (HB0.out.trans hb1); clear h1 hb1 k1 hs1 hval)
        | (go_at_call 26; (with_reducible refine (blanks_live H1.out hS HS1.out).mono ?_); rintro e w2 ⟨rfl, h2', hb2⟩; have HL2 := Lib.hid h2'; obtain ⟨a2, h2, ha2, hd2, _⟩ := h2'; obtain ⟨⟨c0, c1, c2, c3, c4, c5⟩, f1, f2, f4, f5⟩ := h2.cells; have HD2 := Lib.hid hd2; have HB2 := Lib.hid (HB1.out.trans hb2); clear h2 hb2 H1 HB1 hd2))
      have hltI : (a2 : Int) < (S.size : Int) := by
        have h1 := drop_len S a2
        have h2 : S.data.toList.drop a2 = c :: r := HD2.out
        rw [h2] at h1
        simp at h1
        omega
      go_wp2_with (go_at_call 27; (with_reducible refine (fails_live HL2.out).mono ?_); rintro e w3 ⟨rfl, ⟨a3, d3, wv3, h3, ha3⟩, hb3⟩; clear c0 c1 c2 c3 c4 c5 f1 f2 f4 f5; obtain ⟨⟨c0, c1, c2, c3, c4, c5⟩, f1, f2, f4, f5⟩ := h3.cells; have HB3 := Lib.hid (HB2.out.trans hb3); clear h3 hb3)
      go_quiet (fail)
      go_wp2
      go_ret2
      exact ⟨by rw [HA.out]; rfl, below_draws HB3.out _⟩
end Go.Proofs.YtaaecgglocgcmaaDoor
namespace Go.Proofs.YtaaecgglocgcmaaDoor
open Go.RowKit Go.Lib

def shortA (x : Vr) : Bool := decide (x.n.size + x.v.size ≤ 200)
def fewA (vs : List Vr) : Bool := decide (vs.length ≤ 30) && (vs.all shortA && rightA vs)
theorem few_facts {vs : List Vr} (h : fewA vs = true) : vs.length ≤ 30 ∧ (∀ x ∈ vs, x.n.size + x.v.size ≤ 200) ∧ rightA vs = true := by
  unfold fewA at h
  rw [Bool.and_eq_true, Bool.and_eq_true, decide_eq_true_eq, List.all_eq_true] at h
  exact ⟨h.1, fun x hx => of_decide_eq_true (h.2.1 x hx), h.2.2⟩
set_option maxHeartbeats 2000000 in
set_option maxRecDepth 20000 in
theorem fewA_any (v : Value) (vs : List Vr) (w : World) (h : Vars w.heap.size v vs w) (hs : ∀ x ∈ vs, x.n.size ≤ 140737488355328 ∧ x.v.size ≤ 140737488355328) :
    Calls Tryd.prog 12 #[v] w fun e w' => e = .returned (.bool (fewA vs)) ∧ Below w.heap.size w w' := by
  have kR : vs.all shortA = true → ∀ w1, Below w.heap.size w w1 → Calls Tryd.prog 15 #[v] w1 fun e w' => e = .returned (.bool (rightA vs)) ∧ Below w.heap.size w w' := fun hsh w1 hb => by
    refine (refRightA_any v vs w1 ((h.below hb).mono hb.size) (fun x hx => ?_)).mono (fun e w' ⟨he, hb2⟩ => ⟨he, hb.trans (hb2.mono hb.size)⟩)
    rw [List.all_eq_true] at hsh
    have := of_decide_eq_true (hsh x hx)
    omega
  obtain ⟨ao, cap, rfl, hc, hn⟩ : ∃ ao cap, v = .slice ao vs.length cap ∧ vs.length ≤ cap ∧ vs.length ≤ 140737488355328 := by
    obtain ⟨ao, cap, rfl, hc, hn, _⟩ := h
    exact ⟨ao, cap, rfl, hc, hn⟩
  have H := Lib.hid h
  have HF : Hid (fewA vs = (decide (vs.length ≤ 30) && (vs.all shortA && rightA vs))) := rfl
  obtain ⟨n, hn'⟩ : ∃ n, n = vs.length := ⟨_, rfl⟩
  rw [← hn'] at hn hc H HF kR ⊢
  have HN := Lib.hid hn'
  obtain ⟨R, hR⟩ : ∃ R, R = rightA vs := ⟨_, rfl⟩
  rw [← hR] at kR HF
  have hge : ∀ j, j < n → ∃ x, vs[j]? = some x := fun j hj => ⟨_, List.getElem?_eq_getElem (by rw [← hn']; exact hj)⟩
  have HGE := Lib.hid hge
  have HSZ := Lib.hid hs
  have hB : Hid (Below w.heap.size w w) := Below.refl _ _
  have HK := Lib.hid kR
  clear h hn' hge hs hR kR
  by_cases h30 : n ≤ 30
  · have h30' : (n : Int) ≤ 30 := by omega
    have hST : Hid ((vs.take 0).all shortA = true) := rfl
    go_enter Tryd.func12, Tryd.ntmps12
    go_wp2_with fail
    go_loopw [3] (fun i wr => ∃ k : Nat, i = .int .i64 (k : Int) ∧ k ≤ n ∧ Hid ((vs.take k).all shortA = true) ∧ Hid (Below w.heap.size w wr)) (fun i _ => n - (RowKit.intOf i).toNat)
    case atStart => exact ⟨0, rfl, Nat.zero_le _, hST, hB⟩
    case round =>
      obtain ⟨k, rfl, hk, HU, HW⟩ := hrel
      by_cases hlt : k < n
      · obtain ⟨x, hx⟩ := HGE.out k hlt
        have HV := Lib.hid (H.out.below HW.out)
        obtain ⟨b, o, rfl, hb, c0, c1⟩ := HV.out.at hx
        obtain ⟨z0, z1⟩ := HSZ.out x (List.mem_of_getElem? hx)
        have hltI : (k : Int) < (n : Int) := by omega
        have htk : vs.take (k + 1) = vs.take k ++ [x] := by
          have hk2 : k < vs.length := by rw [← HN.out]; exact hlt
          rw [List.take_succ_eq_append_getElem hk2]
          rw [List.getElem?_eq_getElem hk2] at hx
          injection hx with hx
          rw [hx]
        by_cases hsh : x.n.size + x.v.size ≤ 200
        · have HNX : Hid ((vs.take (k + 1)).all shortA = true) := by
            show (vs.take (k + 1)).all shortA = true
            rw [htk, List.all_append, HU.out]
            simp [shortA, hsh]
          have hT : ((x.n.size : Int) + (x.v.size : Int)) ≤ 200 := by omega
          have hT2 : ¬ 200 < ((x.n.size : Int) + (x.v.size : Int)) := by omega
          have hT3 : decide (200 < ((x.n.size : Int) + (x.v.size : Int))) = false := by simp; omega
          clear hx htk hsh
          generalize x.n = xn at *
          generalize x.v = xv at *
          go_wp2_with fail
          go_quiet (fail)
          go_wp2
          go_roundw
          case rel => exact ⟨k + 1, by go_num, by omega, HNX, below_draws HW.out _⟩
          case measure => simp [RowKit.intOf]; omega
        · have HR : Hid (fewA vs = false) := by
            show fewA vs = false
            rw [HF.out]
            have : vs.all shortA = false := by
              rw [Bool.eq_false_iff]
              intro e
              rw [List.all_eq_true] at e
              exact hsh (of_decide_eq_true (e x (List.mem_of_getElem? hx)))
            rw [this]
            simp
          have hT : 200 < ((x.n.size : Int) + (x.v.size : Int)) := by omega
          clear hx htk hsh
          generalize x.n = xn at *
          generalize x.v = xv at *
          go_wp2_with fail
          go_quiet (fail)
          go_wp2
          go_ret
          exact ⟨by rw [HR.out]; rfl, below_draws HW.out _⟩
      · have hkn : k = n := by omega
        have hall : vs.all shortA = true := by
          have := HU.out
          rw [hkn, HN.out, List.take_length] at this
          exact this
        have k2 := HK.out hall wr HW.out
        have HR : Hid (fewA vs = R) := by
          show fewA vs = R
          rw [HF.out, hall, decide_eq_true h30]
          simp
        have hge : ¬ (k : Int) < (n : Int) := by omega
        clear hkn hall
        go_wp2_with (go_at_call 15; (with_reducible refine k2.mono ?_); rintro e w1 ⟨rfl, hb1⟩; have HB1 := Lib.hid hb1; clear hb1)
        go_ret
        exact ⟨by rw [HR.out]; rfl, HB1.out⟩
  · have h30' : 30 < (n : Int) := by omega
    have HR : Hid (fewA vs = false) := by
      show fewA vs = false
      rw [HF.out, decide_eq_false h30]
      rfl
    go_enter Tryd.func12, Tryd.ntmps12
    go_wp2
    go_ret
    exact ⟨by rw [HR.out]; rfl, hB.out⟩
end Go.Proofs.YtaaecgglocgcmaaDoor
namespace Go.Proofs.YtaaecgglocgcmaaDoor
open Go.RowKit Go.Lib

set_option maxHeartbeats 1000000 in
set_option maxRecDepth 20000 in
theorem arithEvals_walk (w : World) (s : ByteArray) (hs : s.size ≤ 140737488351232) (ao : Option Addr) (cap : Nat) (vs : List Vr) (hV : Vars w.heap.size (.slice ao vs.length cap) vs w) (_hno : vs.length ≤ 4398046511000 ∧ (ao = none → cap = 0)) (hsz : ∀ x ∈ vs, x.n.size ≤ 140737488351232 ∧ x.v.size ≤ 140737488351232) (hM : Marks w.heap.size w) :
    Calls Tryd.prog 3 #[.string s, .slice ao vs.length cap] w fun e w' => e = .returned (.bool true) ∧ Below w.heap.size w w' := by
  have kS := shownA_any w hM
  have kF : ∀ w1, Below w.heap.size w w1 → Calls Tryd.prog 12 #[.slice ao vs.length cap] w1 fun e w' => e = .returned (.bool (fewA vs)) ∧ Below w.heap.size w w' := fun w1 hb =>
    (fewA_any _ vs w1 ((hV.below hb).mono hb.size) (fun x hx => by have := hsz x hx; omega)).mono fun e w' ⟨he, hb2⟩ => ⟨he, hb.trans (hb2.mono hb.size)⟩
  have KF := Lib.hid kF
  clear kF
  cases hf : fewA vs
  · rw [hf] at KF
    clear hf hV hsz hM
    generalize vs.length = N at *
    go_enter Tryd.func3, Tryd.ntmps3
    go_wp2_with (first
      | (go_at_call 11; (with_reducible refine kS.mono ?_); rintro e w1 ⟨rfl, hbl⟩; have kf := KF.out w1 hbl; clear hbl kS)
      | (go_at_call 12; (with_reducible refine kf.mono ?_); rintro e w2 ⟨rfl, hbl⟩; have HB := Lib.hid hbl; clear hbl kf))
    go_ret
    exact ⟨rfl, HB.out⟩
  · rw [hf] at KF
    obtain ⟨_, hsh, hri⟩ := few_facts hf
    have hrr := (right_name hri).2
    by_cases hl : s.size ≤ 1000
    · have KE := Lib.hid (show ∀ w1, Below w.heap.size w w1 → Calls Tryd.prog 13 #[.string s, .slice ao vs.length cap] w1 fun e w' => e = .returned (.tuple #[.int .i64 (evalA vs s.data.toList).1, .int .i64 (evalA vs s.data.toList).2]) ∧ Below w.heap.size w w' from fun w1 hb => by
        have := evalA_any s.data.toList _ vs w1 ((hM.below hb).mono hb.size) ((hV.below hb).mono hb.size) (by rw [Array.length_toList]; show s.size ≤ _; omega) hrr (fun x hx => by have := hsh x hx; omega)
        rw [show (⟨s.data.toList.toArray⟩ : ByteArray) = s from by cases s; simp] at this
        exact this.mono fun e w' ⟨he, hb2⟩ => ⟨he, hb.trans (hb2.mono hb.size)⟩)
      have KR := Lib.hid (show ∀ w1, Below w.heap.size w w1 → Calls Tryd.prog 14 #[.string s, .slice ao vs.length cap] w1 fun e w' => e = .returned (.tuple #[.int .i64 (evalA vs s.data.toList).1, .int .i64 (evalA vs s.data.toList).2]) ∧ Below w.heap.size w w' from fun w1 hb =>
        (refEvalA_any s _ vs w1 hl ((hV.below hb).mono hb.size) (fun x hx => by have := hsh x hx; omega)).mono fun e w' ⟨he, hb2⟩ => ⟨he, hb.trans (hb2.mono hb.size)⟩)
      have hl2 : ¬ 1000 < (s.size : Int) := by omega
      obtain ⟨⟨a, b⟩, hr⟩ : ∃ r, evalA vs s.data.toList = r := ⟨_, rfl⟩
      rw [hr] at KE KR
      clear hf hV hsz hM hsh hri hrr hr hl
      generalize vs.length = N at *
      go_enter Tryd.func3, Tryd.ntmps3
      go_wp2_with (first
        | (go_at_call 11; (with_reducible refine kS.mono ?_); rintro e w1 ⟨rfl, hbl⟩; clear kS)
        | (go_at_call 12; (with_reducible refine (KF.out _ (by assumption)).mono ?_); rintro e w2 ⟨rfl, hbl2⟩; clear hbl)
        | (go_at_call 13; (with_reducible refine (KE.out _ (by assumption)).mono ?_); rintro e w3 ⟨rfl, hbl3⟩; clear hbl2)
        | (go_at_call 14; (with_reducible refine (KR.out _ (by assumption)).mono ?_); rintro e w4 ⟨rfl, hbl4⟩; clear hbl3))
      go_ret
      exact ⟨rfl, hbl4⟩
    · have hl2 : 1000 < (s.size : Int) := by omega
      clear hf hV hsz hM hsh hri hrr
      generalize vs.length = N at *
      go_enter Tryd.func3, Tryd.ntmps3
      go_wp2_with (first
        | (go_at_call 11; (with_reducible refine kS.mono ?_); rintro e w1 ⟨rfl, hbl⟩; have kf := KF.out w1 hbl; clear hbl kS)
        | (go_at_call 12; (with_reducible refine kf.mono ?_); rintro e w2 ⟨rfl, hbl⟩; have HB := Lib.hid hbl; clear hbl kf))
      go_ret
      exact ⟨rfl, HB.out⟩
end Go.Proofs.YtaaecgglocgcmaaDoor
