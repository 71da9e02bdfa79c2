/- Packed texts: ArRight, ArFew. What each of them proves stands above its theorems; the conditions stand in these. -/
import Derived.BigQuiet
import Derived.Deep.QuietTactic
import Derived.Test.YtaaecgglocgcmaaDoorA1
import Derived.Test.YtaaecgglocgcmaaDoorA3
namespace Go.Proofs.YtaaecgglocgcmaaDoor
open Go.RowKit Go.Lib

theorem less_cmp : ∀ a b : List UInt8, Op.bytesLess a b = decide (compareBytes a b < 0)
  | [], [] => rfl
  | [], _ :: _ => rfl
  | _ :: _, [] => rfl
  | x :: a, y :: b => by
    have ih := less_cmp a b
    show (decide (x < y) || (x == y && Op.bytesLess a b)) = _
    unfold compareBytes
    rw [ih]
    by_cases h1 : x < y
    · rw [if_pos h1]; simp [h1]
    · rw [if_neg h1]
      by_cases h2 : y < x
      · have hne : x ≠ y := fun e => by subst e; exact h1 h2
        rw [if_pos h2]; simp [h1, hne]
      · have he : x = y := UInt8.toNat_inj.1 (by rw [UInt8.lt_iff_toNat_lt] at h1 h2; omega)
        rw [if_neg h2]; subst he; simp
/-- Is a row right up to a place? -/
def UpA (vs : List Vr) (k : Nat) : Prop := ∀ j x, j < k → vs[j]? = some x → isNameB x.n.data.toList = true ∧ ∀ y, vs[j - 1]? = some y → 0 < j → compareBytes y.n.data.toList x.n.data.toList < 0
theorem rises_at : ∀ (vs : List Vr) (j : Nat) (x y : Vr), risesA vs = true → vs[j]? = some y → vs[j + 1]? = some x → compareBytes y.n.data.toList x.n.data.toList < 0
  | [], j, x, y, _, h, _ => by simp at h
  | [a], j, x, y, _, _, h => by simp at h
  | a :: b :: r, 0, x, y, hr, h1, h2 => by
    simp at h1 h2
    subst h1 h2
    simp only [risesA, Bool.and_eq_true, decide_eq_true_eq] at hr
    exact hr.1
  | a :: b :: r, j + 1, x, y, hr, h1, h2 => rises_at (b :: r) j x y (rises_tail hr) (by simpa using h1) (by simpa using h2)
theorem rises_of : ∀ (vs : List Vr), (∀ j x y, vs[j]? = some y → vs[j + 1]? = some x → compareBytes y.n.data.toList x.n.data.toList < 0) → risesA vs = true
  | [], _ => rfl
  | [a], _ => rfl
  | a :: b :: r, h => by
    simp only [risesA, Bool.and_eq_true, decide_eq_true_eq]
    exact ⟨h 0 b a rfl rfl, rises_of (b :: r) fun j x y h1 h2 => h (j + 1) x y (by simpa using h1) (by simpa using h2)⟩
theorem up_right {vs : List Vr} (h : UpA vs vs.length) : rightA vs = true := by
  have hlt : ∀ {j : Nat} {x : Vr}, vs[j]? = some x → j < vs.length := fun {j x} hj => by
    by_cases e : j < vs.length
    · exact e
    · rw [List.getElem?_eq_none (by omega)] at hj; cases hj
  unfold rightA
  rw [Bool.and_eq_true]
  constructor
  · rw [List.all_eq_true]
    intro x hx
    obtain ⟨j, hj⟩ := List.mem_iff_getElem?.1 hx
    exact (h j x (hlt hj) hj).1
  · exact rises_of vs fun j x y h1 h2 => (h (j + 1) x (hlt h2) h2).2 y (by simpa using h1) (Nat.succ_pos _)
theorem right_name {vs : List Vr} (h : rightA vs = true) : (∀ x ∈ vs, isNameB x.n.data.toList = true) ∧ risesA vs = true := by
  unfold rightA at h
  rw [Bool.and_eq_true, List.all_eq_true] at h
  exact h
theorem wrong_name {vs : List Vr} {k : Nat} {x : Vr} (hx : vs[k]? = some x) (h : isNameB x.n.data.toList = false) : rightA vs = false := by
  cases e : rightA vs with
  | false => rfl
  | true => have := (right_name e).1 x (List.mem_of_getElem? hx); rw [h] at this; cases this
theorem wrong_order {vs : List Vr} {k : Nat} {x y : Vr} (hy : vs[k]? = some y) (hx : vs[k + 1]? = some x) (h : Op.bytesLess y.n.data.toList x.n.data.toList = false) : rightA vs = false := by
  cases e : rightA vs with
  | false => rfl
  | true =>
    have := rises_at vs k x y (right_name e).2 hy hx
    rw [less_cmp, decide_eq_false_iff_not] at h
    exact absurd this h
theorem up_next {vs : List Vr} {k : Nat} {x : Vr} (h : UpA vs k) (hx : vs[k]? = some x) (hn : isNameB x.n.data.toList = true) (hy : ∀ y, vs[k - 1]? = some y → 0 < k → Op.bytesLess y.n.data.toList x.n.data.toList = true) : UpA vs (k + 1) := by
  intro j z hj hz
  by_cases e : j = k
  · subst e
    rw [hx] at hz
    cases hz
    refine ⟨hn, fun y h1 h2 => ?_⟩
    have := hy y h1 h2
    rw [less_cmp, decide_eq_true_eq] at this
    exact this
  · exact h j z (by omega) hz
set_option maxHeartbeats 2000000 in
set_option maxRecDepth 20000 in
theorem refRightA_any (v : Value) (vs : List Vr) (w : World) (h : Vars w.heap.size v vs w) (hs : ∀ x ∈ vs, x.n.size ≤ 70000000000000) :
    Calls Tryd.prog 15 #[v] w fun e w' => e = .returned (.bool (rightA vs)) ∧ Below w.heap.size w w' := by
  obtain ⟨ao, cap, rfl, hc, hn⟩ : ∃ ao cap, v = .slice ao vs.length cap ∧ vs.length ≤ cap ∧ vs.length ≤ 140737488355328 := by
    obtain ⟨ao, cap, rfl, hc, hn, _⟩ := h
    exact ⟨ao, cap, rfl, hc, hn⟩
  have H := Lib.hid h
  obtain ⟨n, hn'⟩ : ∃ n, n = vs.length := ⟨_, rfl⟩
  rw [← hn'] at hn hc H ⊢
  have HN := Lib.hid hn'
  have HUP := Lib.hid (@up_right vs)
  obtain ⟨R, hR⟩ : ∃ R, R = rightA vs := ⟨_, rfl⟩
  rw [← hR] at HUP ⊢
  have WN : Hid (∀ (k : Nat) (x : Vr), vs[k]? = some x → isNameB x.n.data.toList = false → R = false) := by
    show ∀ (k : Nat) (x : Vr), vs[k]? = some x → isNameB x.n.data.toList = false → R = false
    intro k x hx hb; rw [hR]; exact wrong_name hx hb
  have WO : Hid (∀ (k : Nat) (x y : Vr), vs[k]? = some y → vs[k + 1]? = some x → Op.bytesLess y.n.data.toList x.n.data.toList = false → R = false) := by
    show ∀ (k : Nat) (x y : Vr), vs[k]? = some y → vs[k + 1]? = some x → Op.bytesLess y.n.data.toList x.n.data.toList = false → R = false
    intro k x y hy hx hb; rw [hR]; exact wrong_order hy hx hb
  have hge : ∀ j, j < n → ∃ x, vs[j]? = some x := fun j hj => ⟨_, List.getElem?_eq_getElem (by rw [← hn']; exact hj)⟩
  have HGE := Lib.hid hge
  have HSZ := Lib.hid hs
  have hB : Hid (Below w.heap.size w w) := Below.refl _ _
  have hU : Hid (UpA vs 0) := fun j x hj => absurd hj (Nat.not_lt_zero _)
  clear h hn' hge hs hR
  go_enter Tryd.func15, Tryd.ntmps15
  go_wp2_with fail
  go_loopw [3] (fun i wr => ∃ k : Nat, i = .int .i64 (k : Int) ∧ k ≤ n ∧ Hid (UpA vs k) ∧ Hid (Below w.heap.size w wr)) (fun i _ => n - (RowKit.intOf i).toNat)
  case atStart => exact ⟨0, rfl, Nat.zero_le _, hU, hB⟩
  case round =>
    obtain ⟨k, rfl, hk, HU, HW⟩ := hrel
    by_cases hlt : k < n
    · obtain ⟨x, hx⟩ := HGE.out k hlt
      have HV := Lib.hid (H.out.below HW.out)
      obtain ⟨b, o, rfl, hb, c0, c1⟩ := HV.out.at hx
      have kN := fun w => refIsName_any x.n w (HSZ.out x (List.mem_of_getElem? hx))
      have hltI : (k : Int) < (n : Int) := by omega
      cases hq : isNameB x.n.data.toList
      · have HR : Hid (R = false) := WN.out k x hx hq
        rw [hq] at kN
        clear hq hx
        generalize x.n = xn at *
        generalize x.v = xv at *
        go_wp2_with (go_at_call 28; (with_reducible refine (kN _).mono ?_); rintro e w1 ⟨rfl, rfl⟩)
        go_quiet (fail)
        go_wp2
        go_ret
        exact ⟨by rw [HR.out]; rfl, below_draws HW.out _⟩
      · rw [hq] at kN
        cases k with
        | zero =>
          have HNX : Hid (UpA vs (0 + 1)) := up_next HU.out hx hq (fun y _ h0 => absurd h0 (Nat.lt_irrefl _))
          clear hq hx
          rw [Nat.zero_mul, Nat.add_zero] at c0 c1
          rw [show ((0 : Nat) : Int) = 0 from rfl] at hltI
          rw [show ((0 : Nat) : Int) = 0 from rfl]
          generalize x.n = xn at *
          generalize x.v = xv at *
          go_wp2_with (go_at_call 28; (with_reducible refine (kN _).mono ?_); rintro e w1 ⟨rfl, rfl⟩)
          go_quiet (fail)
          go_wp2
          go_roundw
          case rel => exact ⟨1, by go_num, by omega, HNX, below_draws HW.out _⟩
          case measure => simp [RowKit.intOf]; omega
        | succ k =>
          obtain ⟨y, hy⟩ := HGE.out k (by omega)
          obtain ⟨b', o', eab, hb', d0, d1⟩ := HV.out.at hy
          obtain ⟨rfl, rfl⟩ : b = b' ∧ o = o' := by cases eab; exact ⟨rfl, rfl⟩
          clear eab
          have ek : ((k + 1 : Nat) : Int) = (k : Int) + 1 := by omega
          have hk0 : (0 : Int) < (k : Int) + 1 := by omega
          have hk1 : (k : Int) < (n : Int) := by omega
          rw [ek] at hltI
          rw [ek]
          cases hq2 : Op.bytesLess y.n.data.toList x.n.data.toList
          · have HR : Hid (R = false) := WO.out k x y hy hx hq2
            rw [← ByteArray.toList_eq, ← ByteArray.toList_eq] at hq2
            clear hq hx hy
            generalize x.n = xn at *
            generalize x.v = xv at *
            generalize y.n = yn at *
            generalize y.v = yv at *
            go_wp2_with (go_at_call 28; (with_reducible refine (kN _).mono ?_); rintro e w1 ⟨rfl, rfl⟩)
            go_quiet (fail)
            go_wp2
            go_ret
            exact ⟨by rw [HR.out]; rfl, below_draws HW.out _⟩
          · have HNX : Hid (UpA vs (k + 1 + 1)) := up_next HU.out hx hq (fun z hz _ => by rw [show k + 1 - 1 = k from rfl, hy] at hz; cases hz; exact hq2)
            rw [← ByteArray.toList_eq, ← ByteArray.toList_eq] at hq2
            clear hq hx hy
            generalize x.n = xn at *
            generalize x.v = xv at *
            generalize y.n = yn at *
            generalize y.v = yv at *
            go_wp2_with (go_at_call 28; (with_reducible refine (kN _).mono ?_); rintro e w1 ⟨rfl, rfl⟩)
            go_quiet (fail)
            go_wp2
            go_roundw
            case rel => exact ⟨k + 1 + 1, by go_num, by omega, HNX, below_draws HW.out _⟩
            case measure => simp [RowKit.intOf]; omega
    · have hkn : k = n := by omega
      have HR : Hid (R = true) := HUP.out (by rw [← HN.out, ← hkn]; exact HU.out)
      have hge : ¬ (k : Int) < (n : Int) := by omega
      clear hkn
      go_wp2
      go_ret
      exact ⟨by rw [HR.out]; rfl, HW.out⟩
end Go.Proofs.YtaaecgglocgcmaaDoor
namespace Go.Proofs.YtaaecgglocgcmaaDoor
open Go.RowKit Go.Lib

def shortA (x : Vr) : Bool := decide (x.n.size + x.v.size ≤ 200)
def fewA (vs : List Vr) : Bool := decide (vs.length ≤ 30) && (vs.all shortA && rightA vs)
theorem few_facts {vs : List Vr} (h : fewA vs = true) : vs.length ≤ 30 ∧ (∀ x ∈ vs, x.n.size + x.v.size ≤ 200) ∧ rightA vs = true := by
  unfold fewA at h
  rw [Bool.and_eq_true, Bool.and_eq_true, decide_eq_true_eq, List.all_eq_true] at h
  exact ⟨h.1, fun x hx => of_decide_eq_true (h.2.1 x hx), h.2.2⟩
set_option maxHeartbeats 2000000 in
set_option maxRecDepth 20000 in
theorem fewA_any (v : Value) (vs : List Vr) (w : World) (h : Vars w.heap.size v vs w) (hs : ∀ x ∈ vs, x.n.size ≤ 140737488355328 ∧ x.v.size ≤ 140737488355328) :
    Calls Tryd.prog 12 #[v] w fun e w' => e = .returned (.bool (fewA vs)) ∧ Below w.heap.size w w' := by
  have kR : vs.all shortA = true → ∀ w1, Below w.heap.size w w1 → Calls Tryd.prog 15 #[v] w1 fun e w' => e = .returned (.bool (rightA vs)) ∧ Below w.heap.size w w' := fun hsh w1 hb => by
    refine (refRightA_any v vs w1 ((h.below hb).mono hb.size) (fun x hx => ?_)).mono (fun e w' ⟨he, hb2⟩ => ⟨he, hb.trans (hb2.mono hb.size)⟩)
    rw [List.all_eq_true] at hsh
    have := of_decide_eq_true (hsh x hx)
    omega
  obtain ⟨ao, cap, rfl, hc, hn⟩ : ∃ ao cap, v = .slice ao vs.length cap ∧ vs.length ≤ cap ∧ vs.length ≤ 140737488355328 := by
    obtain ⟨ao, cap, rfl, hc, hn, _⟩ := h
    exact ⟨ao, cap, rfl, hc, hn⟩
  have H := Lib.hid h
  have HF : Hid (fewA vs = (decide (vs.length ≤ 30) && (vs.all shortA && rightA vs))) := rfl
  obtain ⟨n, hn'⟩ : ∃ n, n = vs.length := ⟨_, rfl⟩
  rw [← hn'] at hn hc H HF kR ⊢
  have HN := Lib.hid hn'
  obtain ⟨R, hR⟩ : ∃ R, R = rightA vs := ⟨_, rfl⟩
  rw [← hR] at kR HF
  have hge : ∀ j, j < n → ∃ x, vs[j]? = some x := fun j hj => ⟨_, List.getElem?_eq_getElem (by rw [← hn']; exact hj)⟩
  have HGE := Lib.hid hge
  have HSZ := Lib.hid hs
  have hB : Hid (Below w.heap.size w w) := Below.refl _ _
  have HK := Lib.hid kR
  clear h hn' hge hs hR kR
  by_cases h30 : n ≤ 30
  · have h30' : (n : Int) ≤ 30 := by omega
    have hST : Hid ((vs.take 0).all shortA = true) := rfl
    go_enter Tryd.func12, Tryd.ntmps12
    go_wp2_with fail
    go_loopw [3] (fun i wr => ∃ k : Nat, i = .int .i64 (k : Int) ∧ k ≤ n ∧ Hid ((vs.take k).all shortA = true) ∧ Hid (Below w.heap.size w wr)) (fun i _ => n - (RowKit.intOf i).toNat)
    case atStart => exact ⟨0, rfl, Nat.zero_le _, hST, hB⟩
    case round =>
      obtain ⟨k, rfl, hk, HU, HW⟩ := hrel
      by_cases hlt : k < n
      · obtain ⟨x, hx⟩ := HGE.out k hlt
        have HV := Lib.hid (H.out.below HW.out)
        obtain ⟨b, o, rfl, hb, c0, c1⟩ := HV.out.at hx
        obtain ⟨z0, z1⟩ := HSZ.out x (List.mem_of_getElem? hx)
        have hltI : (k : Int) < (n : Int) := by omega
        have htk : vs.take (k + 1) = vs.take k ++ [x] := by
          have hk2 : k < vs.length := by rw [← HN.out]; exact hlt
          rw [List.take_succ_eq_append_getElem hk2]
          rw [List.getElem?_eq_getElem hk2] at hx
          injection hx with hx
          rw [hx]
        by_cases hsh : x.n.size + x.v.size ≤ 200
        · have HNX : Hid ((vs.take (k + 1)).all shortA = true) := by
            show (vs.take (k + 1)).all shortA = true
            rw [htk, List.all_append, HU.out]
            simp [shortA, hsh]
          have hT : ((x.n.size : Int) + (x.v.size : Int)) ≤ 200 := by omega
          have hT2 : ¬ 200 < ((x.n.size : Int) + (x.v.size : Int)) := by omega
          have hT3 : decide (200 < ((x.n.size : Int) + (x.v.size : Int))) = false := by simp; omega
          clear hx htk hsh
          generalize x.n = xn at *
          generalize x.v = xv at *
          go_wp2_with fail
          go_quiet (fail)
          go_wp2
          go_roundw
          case rel => exact ⟨k + 1, by go_num, by omega, HNX, below_draws HW.out _⟩
          case measure => simp [RowKit.intOf]; omega
        · have HR : Hid (fewA vs = false) := by
            show fewA vs = false
            rw [HF.out]
            have : vs.all shortA = false := by
              rw [Bool.eq_false_iff]
              intro e
              rw [List.all_eq_true] at e
              exact hsh (of_decide_eq_true (e x (List.mem_of_getElem? hx)))
            rw [this]
            simp
          have hT : 200 < ((x.n.size : Int) + (x.v.size : Int)) := by omega
          clear hx htk hsh
          generalize x.n = xn at *
          generalize x.v = xv at *
          go_wp2_with fail
          go_quiet (fail)
          go_wp2
          go_ret
          exact ⟨by rw [HR.out]; rfl, below_draws HW.out _⟩
      · have hkn : k = n := by omega
        have hall : vs.all shortA = true := by
          have := HU.out
          rw [hkn, HN.out, List.take_length] at this
          exact this
        have k2 := HK.out hall wr HW.out
        have HR : Hid (fewA vs = R) := by
          show fewA vs = R
          rw [HF.out, hall, decide_eq_true h30]
          simp
        have hge : ¬ (k : Int) < (n : Int) := by omega
        clear hkn hall
        go_wp2_with (go_at_call 15; (with_reducible refine k2.mono ?_); rintro e w1 ⟨rfl, hb1⟩; have HB1 := Lib.hid hb1; clear hb1)
        go_ret
        exact ⟨by rw [HR.out]; rfl, HB1.out⟩
  · have h30' : 30 < (n : Int) := by omega
    have HR : Hid (fewA vs = false) := by
      show fewA vs = false
      rw [HF.out, decide_eq_false h30]
      rfl
    go_enter Tryd.func12, Tryd.ntmps12
    go_wp2
    go_ret
    exact ⟨by rw [HR.out]; rfl, hB.out⟩
end Go.Proofs.YtaaecgglocgcmaaDoor
