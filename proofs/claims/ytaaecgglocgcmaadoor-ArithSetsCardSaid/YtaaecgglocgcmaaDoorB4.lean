/- Packed texts: ArRight, ArSetMath, ArFew, ArithSetsWalk. What each of them proves stands above its theorems; the conditions stand in these. -/
import Derived.BigQuiet
import Derived.Deep.QuietTactic
import Derived.Lib.ItoaNum
import Derived.Test.YtaaecgglocgcmaaDoorB1
import Derived.Test.YtaaecgglocgcmaaDoorB3
namespace Go.Proofs.YtaaecgglocgcmaaDoor
open Go.RowKit Go.Lib

theorem less_cmp : ∀ a b : List UInt8, Op.bytesLess a b = decide (compareBytes a b < 0)
  | [], [] => rfl
  | [], _ :: _ => rfl
  | _ :: _, [] => rfl
  | x :: a, y :: b => by
    have ih := less_cmp a b
    show (decide (x < y) || (x == y && Op.bytesLess a b)) = _
    unfold compareBytes
    rw [ih]
    by_cases h1 : x < y
    · rw [if_pos h1]; simp [h1]
    · rw [if_neg h1]
      by_cases h2 : y < x
      · have hne : x ≠ y := fun e => by subst e; exact h1 h2
        rw [if_pos h2]; simp [h1, hne]
      · have he : x = y := UInt8.toNat_inj.1 (by rw [UInt8.lt_iff_toNat_lt] at h1 h2; omega)
        rw [if_neg h2]; subst he; simp
/-- Is a row right up to a place? -/
def UpA (vs : List Vr) (k : Nat) : Prop := ∀ j x, j < k → vs[j]? = some x → isNameB x.n.data.toList = true ∧ ∀ y, vs[j - 1]? = some y → 0 < j → compareBytes y.n.data.toList x.n.data.toList < 0
theorem rises_at : ∀ (vs : List Vr) (j : Nat) (x y : Vr), risesA vs = true → vs[j]? = some y → vs[j + 1]? = some x → compareBytes y.n.data.toList x.n.data.toList < 0
  | [], j, x, y, _, h, _ => by simp at h
  | [a], j, x, y, _, _, h => by simp at h
  | a :: b :: r, 0, x, y, hr, h1, h2 => by
    simp at h1 h2
    subst h1 h2
    simp only [risesA, Bool.and_eq_true, decide_eq_true_eq] at hr
    exact hr.1
  | a :: b :: r, j + 1, x, y, hr, h1, h2 => rises_at (b :: r) j x y (rises_tail hr) (by simpa using h1) (by simpa using h2)
theorem rises_of : ∀ (vs : List Vr), (∀ j x y, vs[j]? = some y → vs[j + 1]? = some x → compareBytes y.n.data.toList x.n.data.toList < 0) → risesA vs = true
  | [], _ => rfl
  | [a], _ => rfl
  | a :: b :: r, h => by
    simp only [risesA, Bool.and_eq_true, decide_eq_true_eq]
    exact ⟨h 0 b a rfl rfl, rises_of (b :: r) fun j x y h1 h2 => h (j + 1) x y (by simpa using h1) (by simpa using h2)⟩
theorem up_right {vs : List Vr} (h : UpA vs vs.length) : rightA vs = true := by
  have hlt : ∀ {j : Nat} {x : Vr}, vs[j]? = some x → j < vs.length := fun {j x} hj => by
    by_cases e : j < vs.length
    · exact e
    · rw [List.getElem?_eq_none (by omega)] at hj; cases hj
  unfold rightA
  rw [Bool.and_eq_true]
  constructor
  · rw [List.all_eq_true]
    intro x hx
    obtain ⟨j, hj⟩ := List.mem_iff_getElem?.1 hx
    exact (h j x (hlt hj) hj).1
  · exact rises_of vs fun j x y h1 h2 => (h (j + 1) x (hlt h2) h2).2 y (by simpa using h1) (Nat.succ_pos _)
theorem right_name {vs : List Vr} (h : rightA vs = true) : (∀ x ∈ vs, isNameB x.n.data.toList = true) ∧ risesA vs = true := by
  unfold rightA at h
  rw [Bool.and_eq_true, List.all_eq_true] at h
  exact h
theorem wrong_name {vs : List Vr} {k : Nat} {x : Vr} (hx : vs[k]? = some x) (h : isNameB x.n.data.toList = false) : rightA vs = false := by
  cases e : rightA vs with
  | false => rfl
  | true => have := (right_name e).1 x (List.mem_of_getElem? hx); rw [h] at this; cases this
theorem wrong_order {vs : List Vr} {k : Nat} {x y : Vr} (hy : vs[k]? = some y) (hx : vs[k + 1]? = some x) (h : Op.bytesLess y.n.data.toList x.n.data.toList = false) : rightA vs = false := by
  cases e : rightA vs with
  | false => rfl
  | true =>
    have := rises_at vs k x y (right_name e).2 hy hx
    rw [less_cmp, decide_eq_false_iff_not] at h
    exact absurd this h
theorem up_next {vs : List Vr} {k : Nat} {x : Vr} (h : UpA vs k) (hx : vs[k]? = some x) (hn : isNameB x.n.data.toList = true) (hy : ∀ y, vs[k - 1]? = some y → 0 < k → Op.bytesLess y.n.data.toList x.n.data.toList = true) : UpA vs (k + 1) := by
  intro j z hj hz
  by_cases e : j = k
  · subst e
    rw [hx] at hz
    cases hz
    refine ⟨hn, fun y h1 h2 => ?_⟩
    have := hy y h1 h2
    rw [less_cmp, decide_eq_true_eq] at this
    exact this
  · exact h j z (by omega) hz
set_option maxHeartbeats 2000000 in
set_option maxRecDepth 20000 in
theorem refRightA_any (v : Value) (vs : List Vr) (w : World) (h : Vars w.heap.size v vs w) (hs : ∀ x ∈ vs, x.n.size ≤ 70000000000000) :
    Calls Tryd.prog 15 #[v] w fun e w' => e = .returned (.bool (rightA vs)) ∧ Below w.heap.size w w' := by
  obtain ⟨ao, cap, rfl, hc, hn⟩ : ∃ ao cap, v = .slice ao vs.length cap ∧ vs.length ≤ cap ∧ vs.length ≤ 140737488355328 := by
    obtain ⟨ao, cap, rfl, hc, hn, _⟩ := h
    exact ⟨ao, cap, rfl, hc, hn⟩
  have H := Lib.hid h
  obtain ⟨n, hn'⟩ : ∃ n, n = vs.length := ⟨_, rfl⟩
  rw [← hn'] at hn hc H ⊢
  have HN := Lib.hid hn'
  have HUP := Lib.hid (@up_right vs)
  obtain ⟨R, hR⟩ : ∃ R, R = rightA vs := ⟨_, rfl⟩
  rw [← hR] at HUP ⊢
  have WN : Hid (∀ (k : Nat) (x : Vr), vs[k]? = some x → isNameB x.n.data.toList = false → R = false) := by
    show ∀ (k : Nat) (x : Vr), vs[k]? = some x → isNameB x.n.data.toList = false → R = false
    intro k x hx hb; rw [hR]; exact wrong_name hx hb
  have WO : Hid (∀ (k : Nat) (x y : Vr), vs[k]? = some y → vs[k + 1]? = some x → Op.bytesLess y.n.data.toList x.n.data.toList = false → R = false) := by
    show ∀ (k : Nat) (x y : Vr), vs[k]? = some y → vs[k + 1]? = some x → Op.bytesLess y.n.data.toList x.n.data.toList = false → R = false
    intro k x y hy hx hb; rw [hR]; exact wrong_order hy hx hb
  have hge : ∀ j, j < n → ∃ x, vs[j]? = some x := fun j hj => ⟨_, List.getElem?_eq_getElem (by rw [← hn']; exact hj)⟩
  have HGE := Lib.hid hge
  have HSZ := Lib.hid hs
  have hB : Hid (Below w.heap.size w w) := Below.refl _ _
  have hU : Hid (UpA vs 0) := fun j x hj => absurd hj (Nat.not_lt_zero _)
  clear h hn' hge hs hR
  go_enter Tryd.func15, Tryd.ntmps15
  go_wp2_with fail
  go_loopw [3] (fun i wr => ∃ k : Nat, i = .int .i64 (k : Int) ∧ k ≤ n ∧ Hid (UpA vs k) ∧ Hid (Below w.heap.size w wr)) (fun i _ => n - (RowKit.intOf i).toNat)
  case atStart => exact ⟨0, rfl, Nat.zero_le _, hU, hB⟩
  case round =>
    obtain ⟨k, rfl, hk, HU, HW⟩ := hrel
    by_cases hlt : k < n
    · obtain ⟨x, hx⟩ := HGE.out k hlt
      have HV := Lib.hid (H.out.below HW.out)
      obtain ⟨b, o, rfl, hb, c0, c1⟩ := HV.out.at hx
      have kN := fun w => refIsName_any x.n w (HSZ.out x (List.mem_of_getElem? hx))
      have hltI : (k : Int) < (n : Int) := by omega
      cases hq : isNameB x.n.data.toList
      · have HR : Hid (R = false) := WN.out k x hx hq
        rw [hq] at kN
        clear hq hx
        generalize x.n = xn at *
        generalize x.v = xv at *
        go_wp2_with (go_at_call 28; (with_reducible refine (kN _).mono ?_); rintro e w1 ⟨rfl, rfl⟩)
        go_quiet (fail)
        go_wp2
        go_ret
        exact ⟨by rw [HR.out]; rfl, below_draws HW.out _⟩
      · rw [hq] at kN
        cases k with
        | zero =>
          have HNX : Hid (UpA vs (0 + 1)) := up_next HU.out hx hq (fun y _ h0 => absurd h0 (Nat.lt_irrefl _))
          clear hq hx
          rw [Nat.zero_mul, Nat.add_zero] at c0 c1
          rw [show ((0 : Nat) : Int) = 0 from rfl] at hltI
          rw [show ((0 : Nat) : Int) = 0 from rfl]
          generalize x.n = xn at *
          generalize x.v = xv at *
          go_wp2_with (go_at_call 28; (with_reducible refine (kN _).mono ?_); rintro e w1 ⟨rfl, rfl⟩)
          go_quiet (fail)
          go_wp2
          go_roundw
          case rel => exact ⟨1, by go_num, by omega, HNX, below_draws HW.out _⟩
          case measure => simp [RowKit.intOf]; omega
        | succ k =>
          obtain ⟨y, hy⟩ := HGE.out k (by omega)
          obtain ⟨b', o', eab, hb', d0, d1⟩ := HV.out.at hy
          obtain ⟨rfl, rfl⟩ : b = b' ∧ o = o' := by cases eab; exact ⟨rfl, rfl⟩
          clear eab
          have ek : ((k + 1 : Nat) : Int) = (k : Int) + 1 := by omega
          have hk0 : (0 : Int) < (k : Int) + 1 := by omega
          have hk1 : (k : Int) < (n : Int) := by omega
          rw [ek] at hltI
          rw [ek]
          cases hq2 : Op.bytesLess y.n.data.toList x.n.data.toList
          · have HR : Hid (R = false) := WO.out k x y hy hx hq2
            rw [← ByteArray.toList_eq, ← ByteArray.toList_eq] at hq2
            clear hq hx hy
            generalize x.n = xn at *
            generalize x.v = xv at *
            generalize y.n = yn at *
            generalize y.v = yv at *
            go_wp2_with (go_at_call 28; (with_reducible refine (kN _).mono ?_); rintro e w1 ⟨rfl, rfl⟩)
            go_quiet (fail)
            go_wp2
            go_ret
            exact ⟨by rw [HR.out]; rfl, below_draws HW.out _⟩
          · have HNX : Hid (UpA vs (k + 1 + 1)) := up_next HU.out hx hq (fun z hz _ => by rw [show k + 1 - 1 = k from rfl, hy] at hz; cases hz; exact hq2)
            rw [← ByteArray.toList_eq, ← ByteArray.toList_eq] at hq2
            clear hq hx hy
            generalize x.n = xn at *
            generalize x.v = xv at *
            generalize y.n = yn at *
            generalize y.v = yv at *
            go_wp2_with (go_at_call 28; (with_reducible refine (kN _).mono ?_); rintro e w1 ⟨rfl, rfl⟩)
            go_quiet (fail)
            go_wp2
            go_roundw
            case rel => exact ⟨k + 1 + 1, by go_num, by omega, HNX, below_draws HW.out _⟩
            case measure => simp [RowKit.intOf]; omega
    · have hkn : k = n := by omega
      have HR : Hid (R = true) := HUP.out (by rw [← HN.out, ← hkn]; exact HU.out)
      have hge : ¬ (k : Int) < (n : Int) := by omega
      clear hkn
      go_wp2
      go_ret
      exact ⟨by rw [HR.out]; rfl, HW.out⟩
end Go.Proofs.YtaaecgglocgcmaaDoor
namespace Go.Proofs.YtaaecgglocgcmaaDoor
open Go.RowKit Go.Lib

def insA : List Vr → Vr → List Vr
  | [], x => [x]
  | y :: r, x => if compareBytes y.n.data.toList x.n.data.toList < 0 then y :: insA r x else if y.n.data.toList = x.n.data.toList then x :: r else x :: y :: r
theorem atA_cons (y : Vr) (r : List Vr) (s : List UInt8) : atA (y :: r) s = if compareBytes y.n.data.toList s < 0 then atA r s else decide (y.n.data.toList = s) := by
  unfold atA
  rw [lowA]
  by_cases hc : compareBytes y.n.data.toList s < 0
  · rw [if_pos hc, if_pos hc]; rfl
  · rw [if_neg hc, if_neg hc]; rfl
theorem set_ins : ∀ (vs : List Vr) (x : Vr), setA vs x = insA vs x
  | [], x => rfl
  | y :: r, x => by
    unfold setA
    rw [atA_cons, lowA]
    unfold insA
    by_cases hc : compareBytes y.n.data.toList x.n.data.toList < 0
    · rw [if_pos hc, if_pos hc, if_pos hc]
      have ih := set_ins r x
      unfold setA at ih
      rw [← ih, List.take_succ_cons, List.cons_append, Nat.add_right_comm, List.drop_succ_cons]
    · rw [if_neg hc, if_neg hc, if_neg hc]
      by_cases he : y.n.data.toList = x.n.data.toList
      · rw [if_pos he, decide_eq_true he]; rfl
      · rw [if_neg he, decide_eq_false he]; rfl
theorem mem_ins : ∀ (vs : List Vr) (x z : Vr), z ∈ insA vs x → z = x ∨ z ∈ vs
  | [], x, z, h => by simp [insA] at h; exact .inl h
  | y :: r, x, z, h => by
    unfold insA at h
    split at h
    · rcases List.mem_cons.1 h with e | e
      · exact .inr (by rw [e]; simp)
      · rcases mem_ins r x z e with e | e
        · exact .inl e
        · exact .inr (List.mem_cons_of_mem _ e)
    · split at h
      · rcases List.mem_cons.1 h with e | e
        · exact .inl e
        · exact .inr (List.mem_cons_of_mem _ e)
      · rcases List.mem_cons.1 h with e | e
        · exact .inl e
        · exact .inr e
theorem find_ins : ∀ (vs : List Vr) (x : Vr) (s : List UInt8), findA (insA vs x) s = if x.n.data.toList = s then some x.v else findA vs s
  | [], x, s => by
    show findA [x] s = _
    unfold findA
    rfl
  | y :: r, x, s => by
    unfold insA
    by_cases hc : compareBytes y.n.data.toList x.n.data.toList < 0
    · rw [if_pos hc]
      unfold findA
      rw [find_ins r x s]
      by_cases hy : y.n.data.toList = s
      · have hx : x.n.data.toList ≠ s := fun e => by
          rw [hy, e, cmp_self] at hc
          omega
        rw [if_pos hy, if_neg hx, if_pos hy]
      · rw [if_neg hy, if_neg hy]
    · rw [if_neg hc]
      by_cases he : y.n.data.toList = x.n.data.toList
      · rw [if_pos he]
        unfold findA
        by_cases hx : x.n.data.toList = s
        · rw [if_pos hx, if_pos hx]
        · rw [if_neg hx, if_neg hx, if_neg (by rw [he]; exact hx)]
      · rw [if_neg he]
        show (if x.n.data.toList = s then some x.v else findA (y :: r) s) = _
        rfl
theorem rises_cons {y : Vr} {l : List Vr} (h1 : ∀ z ∈ l, compareBytes y.n.data.toList z.n.data.toList < 0) (h2 : risesA l = true) : risesA (y :: l) = true := by
  cases l with
  | nil => rfl
  | cons z r =>
    simp only [risesA, Bool.and_eq_true, decide_eq_true_eq]
    exact ⟨h1 z (by simp), h2⟩
theorem rises_ins : ∀ (vs : List Vr) (x : Vr), risesA vs = true → risesA (insA vs x) = true
  | [], x, _ => rfl
  | y :: r, x, h => by
    unfold insA
    by_cases hc : compareBytes y.n.data.toList x.n.data.toList < 0
    · rw [if_pos hc]
      refine rises_cons (fun z hz => ?_) (rises_ins r x (rises_tail h))
      rcases mem_ins r x z hz with rfl | e
      · exact hc
      · exact rises_head h z e
    · rw [if_neg hc]
      by_cases he : y.n.data.toList = x.n.data.toList
      · rw [if_pos he]
        exact rises_cons (fun z hz => by rw [← he]; exact rises_head h z hz) (rises_tail h)
      · rw [if_neg he]
        have hxy : compareBytes x.n.data.toList y.n.data.toList < 0 := by
          rw [cmp_flip]
          rcases cmp_three y.n.data.toList x.n.data.toList with e | e | e
          · omega
          · exact absurd (cmp_eq0 _ _ e) he
          · omega
        refine rises_cons (fun z hz => ?_) h
        rcases List.mem_cons.1 hz with rfl | e
        · exact hxy
        · exact cmp_trans _ _ _ hxy (rises_head h z e)
theorem right_ins (vs : List Vr) (x : Vr) (h : rightA vs = true) (hx : isNameB x.n.data.toList = true) : rightA (insA vs x) = true := by
  obtain ⟨h1, h2⟩ := right_name h
  unfold rightA
  rw [Bool.and_eq_true, List.all_eq_true]
  refine ⟨fun z hz => ?_, rises_ins vs x h2⟩
  rcases mem_ins vs x z hz with rfl | e
  · exact hx
  · exact h1 z e
end Go.Proofs.YtaaecgglocgcmaaDoor
namespace Go.Proofs.YtaaecgglocgcmaaDoor
open Go.RowKit Go.Lib

def shortA (x : Vr) : Bool := decide (x.n.size + x.v.size ≤ 200)
def fewA (vs : List Vr) : Bool := decide (vs.length ≤ 30) && (vs.all shortA && rightA vs)
theorem few_facts {vs : List Vr} (h : fewA vs = true) : vs.length ≤ 30 ∧ (∀ x ∈ vs, x.n.size + x.v.size ≤ 200) ∧ rightA vs = true := by
  unfold fewA at h
  rw [Bool.and_eq_true, Bool.and_eq_true, decide_eq_true_eq, List.all_eq_true] at h
  exact ⟨h.1, fun x hx => of_decide_eq_true (h.2.1 x hx), h.2.2⟩
set_option maxHeartbeats 2000000 in
set_option maxRecDepth 20000 in
theorem fewA_any (v : Value) (vs : List Vr) (w : World) (h : Vars w.heap.size v vs w) (hs : ∀ x ∈ vs, x.n.size ≤ 140737488355328 ∧ x.v.size ≤ 140737488355328) :
    Calls Tryd.prog 12 #[v] w fun e w' => e = .returned (.bool (fewA vs)) ∧ Below w.heap.size w w' := by
  have kR : vs.all shortA = true → ∀ w1, Below w.heap.size w w1 → Calls Tryd.prog 15 #[v] w1 fun e w' => e = .returned (.bool (rightA vs)) ∧ Below w.heap.size w w' := fun hsh w1 hb => by
    refine (refRightA_any v vs w1 ((h.below hb).mono hb.size) (fun x hx => ?_)).mono (fun e w' ⟨he, hb2⟩ => ⟨he, hb.trans (hb2.mono hb.size)⟩)
    rw [List.all_eq_true] at hsh
    have := of_decide_eq_true (hsh x hx)
    omega
  obtain ⟨ao, cap, rfl, hc, hn⟩ : ∃ ao cap, v = .slice ao vs.length cap ∧ vs.length ≤ cap ∧ vs.length ≤ 140737488355328 := by
    obtain ⟨ao, cap, rfl, hc, hn, _⟩ := h
    exact ⟨ao, cap, rfl, hc, hn⟩
  have H := Lib.hid h
  have HF : Hid (fewA vs = (decide (vs.length ≤ 30) && (vs.all shortA && rightA vs))) := rfl
  obtain ⟨n, hn'⟩ : ∃ n, n = vs.length := ⟨_, rfl⟩
  rw [← hn'] at hn hc H HF kR ⊢
  have HN := Lib.hid hn'
  obtain ⟨R, hR⟩ : ∃ R, R = rightA vs := ⟨_, rfl⟩
  rw [← hR] at kR HF
  have hge : ∀ j, j < n → ∃ x, vs[j]? = some x := fun j hj => ⟨_, List.getElem?_eq_getElem (by rw [← hn']; exact hj)⟩
  have HGE := Lib.hid hge
  have HSZ := Lib.hid hs
  have hB : Hid (Below w.heap.size w w) := Below.refl _ _
  have HK := Lib.hid kR
  clear h hn' hge hs hR kR
  by_cases h30 : n ≤ 30
  · have h30' : (n : Int) ≤ 30 := by omega
    have hST : Hid ((vs.take 0).all shortA = true) := rfl
    go_enter Tryd.func12, Tryd.ntmps12
    go_wp2_with fail
    go_loopw [3] (fun i wr => ∃ k : Nat, i = .int .i64 (k : Int) ∧ k ≤ n ∧ Hid ((vs.take k).all shortA = true) ∧ Hid (Below w.heap.size w wr)) (fun i _ => n - (RowKit.intOf i).toNat)
    case atStart => exact ⟨0, rfl, Nat.zero_le _, hST, hB⟩
    case round =>
      obtain ⟨k, rfl, hk, HU, HW⟩ := hrel
      by_cases hlt : k < n
      · obtain ⟨x, hx⟩ := HGE.out k hlt
        have HV := Lib.hid (H.out.below HW.out)
        obtain ⟨b, o, rfl, hb, c0, c1⟩ := HV.out.at hx
        obtain ⟨z0, z1⟩ := HSZ.out x (List.mem_of_getElem? hx)
        have hltI : (k : Int) < (n : Int) := by omega
        have htk : vs.take (k + 1) = vs.take k ++ [x] := by
          have hk2 : k < vs.length := by rw [← HN.out]; exact hlt
          rw [List.take_succ_eq_append_getElem hk2]
          rw [List.getElem?_eq_getElem hk2] at hx
          injection hx with hx
          rw [hx]
        by_cases hsh : x.n.size + x.v.size ≤ 200
        · have HNX : Hid ((vs.take (k + 1)).all shortA = true) := by
            show (vs.take (k + 1)).all shortA = true
            rw [htk, List.all_append, HU.out]
            simp [shortA, hsh]
          have hT : ((x.n.size : Int) + (x.v.size : Int)) ≤ 200 := by omega
          have hT2 : ¬ 200 < ((x.n.size : Int) + (x.v.size : Int)) := by omega
          have hT3 : decide (200 < ((x.n.size : Int) + (x.v.size : Int))) = false := by simp; omega
          clear hx htk hsh
          generalize x.n = xn at *
          generalize x.v = xv at *
          go_wp2_with fail
          go_quiet (fail)
          go_wp2
          go_roundw
          case rel => exact ⟨k + 1, by go_num, by omega, HNX, below_draws HW.out _⟩
          case measure => simp [RowKit.intOf]; omega
        · have HR : Hid (fewA vs = false) := by
            show fewA vs = false
            rw [HF.out]
            have : vs.all shortA = false := by
              rw [Bool.eq_false_iff]
              intro e
              rw [List.all_eq_true] at e
              exact hsh (of_decide_eq_true (e x (List.mem_of_getElem? hx)))
            rw [this]
            simp
          have hT : 200 < ((x.n.size : Int) + (x.v.size : Int)) := by omega
          clear hx htk hsh
          generalize x.n = xn at *
          generalize x.v = xv at *
          go_wp2_with fail
          go_quiet (fail)
          go_wp2
          go_ret
          exact ⟨by rw [HR.out]; rfl, below_draws HW.out _⟩
      · have hkn : k = n := by omega
        have hall : vs.all shortA = true := by
          have := HU.out
          rw [hkn, HN.out, List.take_length] at this
          exact this
        have k2 := HK.out hall wr HW.out
        have HR : Hid (fewA vs = R) := by
          show fewA vs = R
          rw [HF.out, hall, decide_eq_true h30]
          simp
        have hge : ¬ (k : Int) < (n : Int) := by omega
        clear hkn hall
        go_wp2_with (go_at_call 15; (with_reducible refine k2.mono ?_); rintro e w1 ⟨rfl, hb1⟩; have HB1 := Lib.hid hb1; clear hb1)
        go_ret
        exact ⟨by rw [HR.out]; rfl, HB1.out⟩
  · have h30' : 30 < (n : Int) := by omega
    have HR : Hid (fewA vs = false) := by
      show fewA vs = false
      rw [HF.out, decide_eq_false h30]
      rfl
    go_enter Tryd.func12, Tryd.ntmps12
    go_wp2
    go_ret
    exact ⟨by rw [HR.out]; rfl, hB.out⟩
end Go.Proofs.YtaaecgglocgcmaaDoor
namespace Go.Proofs.YtaaecgglocgcmaaDoor
open Go.RowKit Go.Lib

theorem newS_name : isNameB (⟨#[110, 101, 119, 95, 49]⟩ : ByteArray).data.toList = true := by decide +kernel
theorem boxS (w : World) (a b c d : Value) : Below w.heap.size w (w.alloc (.cells #[a, b, c, d] 37)) := (Below.refl _ w).alloc (Nat.le_refl _) _
set_option maxHeartbeats 2000000 in
set_option maxRecDepth 20000 in
theorem sets_few (w : World) (u : Value) (s t : ByteArray) (i : Int) (kS : ∀ w1, Below w.heap.size w w1 → Calls Tryd.prog 11 #[] w1 fun e w' => e = .returned (.bool true) ∧ Below w.heap.size w w')
    (kF : ∀ w1, Below w.heap.size w w1 → Calls Tryd.prog 12 #[u] w1 fun e w' => e = .returned (.bool false) ∧ Below w.heap.size w w') :
    Calls Tryd.prog 5 #[.agg #[u, .string s, .string t, .int .i64 i]] w fun e w' => e = .returned (.bool true) ∧ Below w.heap.size w w' := by
  have hb0 := Lib.hid (boxS w u (.string s) (.string t) (.int .i64 i))
  go_enter Tryd.func5, Tryd.ntmps5
  go_wp2_with (first
    | (go_at_call 11; (with_reducible refine (kS _ hb0.out).mono ?_); rintro e w1 ⟨rfl, hb1⟩; have H1 := Lib.hid hb1; clear hb1 kS)
    | (go_at_call 12; (with_reducible refine (kF _ H1.out).mono ?_); rintro e w2 ⟨rfl, hb2⟩; have H2 := Lib.hid hb2; clear hb2))
  go_ret
  exact ⟨rfl, H2.out⟩
set_option maxHeartbeats 2000000 in
set_option maxRecDepth 20000 in
theorem sets_long (w : World) (u : Value) (s t : ByteArray) (i : Int) (hs : s.size ≤ 140737488351232) (ht : t.size ≤ 140737488351232) (hst : ¬ s.size + t.size ≤ 200) (kS : ∀ w1, Below w.heap.size w w1 → Calls Tryd.prog 11 #[] w1 fun e w' => e = .returned (.bool true) ∧ Below w.heap.size w w')
    (kF : ∀ w1, Below w.heap.size w w1 → Calls Tryd.prog 12 #[u] w1 fun e w' => e = .returned (.bool true) ∧ Below w.heap.size w w') :
    Calls Tryd.prog 5 #[.agg #[u, .string s, .string t, .int .i64 i]] w fun e w' => e = .returned (.bool true) ∧ Below w.heap.size w w' := by
  have hb0 := Lib.hid (boxS w u (.string s) (.string t) (.int .i64 i))
  have hT : 200 < ((s.size : Int) + (t.size : Int)) := by omega
  have hT2 : IntKind.i64.wrap ((s.size : Int) + (t.size : Int)) = (s.size : Int) + (t.size : Int) := IntWalk.i64_in _ (by omega)
  have hT3 : decide (200 < ((s.size : Int) + (t.size : Int))) = true := decide_eq_true hT
  clear hst
  go_enter Tryd.func5, Tryd.ntmps5
  go_wp2_with (first
    | (go_at_call 11; (with_reducible refine (kS _ hb0.out).mono ?_); rintro e w1 ⟨rfl, hb1⟩; have H1 := Lib.hid hb1; clear hb1 kS)
    | (go_at_call 12; (with_reducible refine (kF _ H1.out).mono ?_); rintro e w2 ⟨rfl, hb2⟩; have H2 := Lib.hid hb2; clear hb2))
  go_ret
  exact ⟨rfl, H2.out⟩
/-- What the rest of the walk asks, of the name that is set. -/
structure SetsK (w : World) (u : Value) (nm s t : ByteArray) (F : Option ByteArray) (K : Value → Nat → Nat → World → Prop) : Prop where
  set : ∀ w1, Below w.heap.size w w1 → Calls Tryd.prog 20 #[u, .string nm, .string s] w1 fun e w' => (∃ ao N c, e = .returned (.slice ao N c) ∧ K (.slice ao N c) N c w') ∧ Below w.heap.size w w'
  stay : ∀ v N c w1 w2, K v N c w1 → Below w1.heap.size w1 w2 → K v N c w2
  new : ∀ v N c w1, Below w.heap.size w w1 → K v N c w1 → Calls Tryd.prog 17 #[v, .string nm] w1 fun e w' => e = .returned (.tuple #[.string s, .bool true]) ∧ Below w.heap.size w w' ∧ K v N c w'
  old : ∀ w1, Below w.heap.size w w1 → Calls Tryd.prog 17 #[u, .string t] w1 fun e w' => e = foundE F ∧ Below w1.heap.size w1 w'
  oth : ∀ v N c w1, Below w.heap.size w w1 → K v N c w1 → Calls Tryd.prog 17 #[v, .string t] w1 fun e w' => e = foundE (if nm = t then some s else F) ∧ Below w.heap.size w w' ∧ K v N c w'
  right : ∀ v N c w1, Below w.heap.size w w1 → K v N c w1 → Calls Tryd.prog 15 #[v] w1 fun e w' => e = .returned (.bool true) ∧ Below w.heap.size w w'
theorem sets_k (w : World) (ao : Option Addr) (cap : Nat) (vs : List Vr) (nm s t : ByteArray) (hV : Vars w.heap.size (.slice ao vs.length cap) vs w) (hno : vs.length ≤ 4398046511000 ∧ (ao = none → cap = 0)) (hsh : ∀ x ∈ vs, x.n.size + x.v.size ≤ 200) (hri : rightA vs = true) (hnm : isNameB nm.data.toList = true) (hz : nm.size ≤ 200) :
    SetsK w (.slice ao vs.length cap) nm s t (findA vs t.data.toList) (fun v _ _ w1 => Vars w1.heap.size v (insA vs ⟨nm, s⟩) w1) := by
  have hrr := (right_name hri).2
  have hr2 := rises_ins vs ⟨nm, s⟩ hrr
  refine ⟨fun w1 hb => ?_, fun v N c w1 w2 h hb => (h.below hb).mono hb.size, fun v N c w1 hb hv => ?_, fun w1 hb => ?_, fun v N c w1 hb hv => ?_, fun v N c w1 hb hv => ?_⟩
  · refine (setA_any ao cap vs ⟨nm, s⟩ w1 ((hV.below hb).mono hb.size) hrr hno.2 hno.1).mono fun e w' ⟨⟨u, he, hu⟩, hb2⟩ => ?_
    rw [set_ins] at hu
    obtain ⟨ao2, cap2, rfl, h2⟩ := id hu
    exact ⟨⟨ao2, _, cap2, he, hu⟩, hb.trans (hb2.mono hb.size)⟩
  · refine (findA_any v _ nm w1 hv hr2).mono fun e w' ⟨he, hb2⟩ => ⟨?_, hb.trans (hb2.mono hb.size), (hv.below hb2).mono hb2.size⟩
    rw [he, find_ins, if_pos (show nm.data.toList = nm.data.toList from rfl)]
    rfl
  · exact findA_any _ vs t w1 ((hV.below hb).mono hb.size) hrr
  · refine (findA_any v _ t w1 hv hr2).mono fun e w' ⟨he, hb2⟩ => ⟨?_, hb.trans (hb2.mono hb.size), (hv.below hb2).mono hb2.size⟩
    rw [he, find_ins]
    by_cases h : nm = t
    · rw [if_pos h, if_pos (show nm.data.toList = t.data.toList by rw [h])]
    · rw [if_neg h, if_neg (fun e => h (by
        obtain ⟨⟨a⟩⟩ := nm
        obtain ⟨⟨b⟩⟩ := t
        have e : a = b := e
        rw [e]))]
  · have k := refRightA_any v _ w1 hv (fun x hx => by
      rcases mem_ins vs _ x hx with rfl | hx
      · show nm.size ≤ _; omega
      · have := hsh x hx; omega)
    rw [right_ins vs ⟨nm, s⟩ hri hnm] at k
    exact k.mono fun e w' ⟨he, hb2⟩ => ⟨he, hb.trans (hb2.mono hb.size)⟩
set_option maxHeartbeats 8000000 in
set_option maxRecDepth 20000 in
theorem sets_in (w : World) (ao : Option Addr) (N cap : Nat) (nm s t : ByteArray) (i : Int) (F : Option ByteArray) (K : Value → Nat → Nat → World → Prop) (hst : s.size + t.size ≤ 200)
    (hi : (∃ k : Nat, i = (k : Int) ∧ k < N ∧ (∀ w1, Below w.heap.size w w1 → ∃ b o, ao = some ⟨b, o, none⟩ ∧ w1.cell? ⟨b, o + k * 2, none⟩ = some (.string nm))) ∨ (i < 0 ∧ nm = ⟨#[110, 101, 119, 95, 49]⟩) ∨ ((N : Int) ≤ i ∧ nm = ⟨#[110, 101, 119, 95, 49]⟩))
    (kS : ∀ w1, Below w.heap.size w w1 → Calls Tryd.prog 11 #[] w1 fun e w' => e = .returned (.bool true) ∧ Below w.heap.size w w')
    (kF : ∀ w1, Below w.heap.size w w1 → Calls Tryd.prog 12 #[.slice ao N cap] w1 fun e w' => e = .returned (.bool true) ∧ Below w.heap.size w w')
    (hk : SetsK w (.slice ao N cap) nm s t F K) :
    Calls Tryd.prog 5 #[.agg #[.slice ao N cap, .string s, .string t, .int .i64 i]] w fun e w' => e = .returned (.bool true) ∧ Below w.heap.size w w' := by
  have hb0 := Lib.hid (boxS w (.slice ao N cap) (.string s) (.string t) (.int .i64 i))
  have hT : ¬ 200 < ((s.size : Int) + (t.size : Int)) := by omega
  have hT2 : IntKind.i64.wrap ((s.size : Int) + (t.size : Int)) = (s.size : Int) + (t.size : Int) := IntWalk.i64_in _ (by omega)
  have hT3 : decide (200 < ((s.size : Int) + (t.size : Int))) = false := decide_eq_false hT
  obtain ⟨kSet, kStay, kNew, kOld, kOth, kRight⟩ := hk
  have KSet := Lib.hid kSet
  have KStay := Lib.hid kStay
  have KNew := Lib.hid kNew
  have KOld := Lib.hid kOld
  have KRight := Lib.hid kRight
  clear kSet kStay kNew kOld kRight hst
  have hcase : (t.toList = nm.toList ∧ ∃ F2, F2 = some s ∧ (∀ v N c w1, Below w.heap.size w w1 → K v N c w1 → Calls Tryd.prog 17 #[v, .string t] w1 fun e w' => e = foundE F2 ∧ Below w.heap.size w w' ∧ K v N c w')) ∨ (¬ t.toList = nm.toList ∧ ∃ F2, F2 = F ∧ (∀ v N c w1, Below w.heap.size w w1 → K v N c w1 → Calls Tryd.prog 17 #[v, .string t] w1 fun e w' => e = foundE F2 ∧ Below w.heap.size w w' ∧ K v N c w')) := by
    by_cases h : nm = t
    · rw [if_pos h] at kOth; exact .inl ⟨by rw [h], _, rfl, kOth⟩
    · rw [if_neg h] at kOth
      refine .inr ⟨fun e => h ?_, _, rfl, kOth⟩
      rw [ByteArray.toList_eq, ByteArray.toList_eq] at e
      obtain ⟨⟨a⟩⟩ := nm
      obtain ⟨⟨b⟩⟩ := t
      have e : b = a := e
      rw [e]
  clear kOth
  rcases hcase with ⟨he, F2, hF2, hoth⟩ | ⟨he, F2, hF2, hoth⟩
  all_goals
    have KOth := Lib.hid hoth
    clear hoth
    rcases hi with ⟨k, rfl, hkN, hcel⟩ | ⟨hneg, hnm⟩ | ⟨hbig, hnm⟩
    · have HC := Lib.hid hcel
      obtain ⟨b, o, rfl, hb⟩ := hcel w (Below.refl _ _)
      clear hcel hb
      have hkI : (k : Int) < (N : Int) := by omega
      cases F
      all_goals
        subst hF2
        unfold foundE at KOld KOth
        go_enter Tryd.func5, Tryd.ntmps5
        go_wp2_with (first
          | (go_at_call 11; (with_reducible refine (kS _ hb0.out).mono ?_); rintro e w1 ⟨rfl, hb1⟩; have H1 := Lib.hid hb1; clear hb1 kS)
          | (go_at_call 12; (with_reducible refine (kF _ H1.out).mono ?_); rintro e w2 ⟨rfl, hb2⟩; have H2 := Lib.hid hb2; obtain ⟨b', o', eq, c1⟩ := HC.out w2 hb2; obtain ⟨rfl, rfl⟩ : b = b' ∧ o = o' := (by cases eq; exact ⟨rfl, rfl⟩); clear eq; clear hb2)
          | (go_at_call 20; (with_reducible refine (KSet.out _ H2.out).mono ?_); rintro e w3 ⟨⟨ao3, N3, c3, rfl, hk3⟩, hb3⟩; have H3 := Lib.hid hb3; have G3 := Lib.hid hk3; clear hb3 hk3)
          | (go_at_call 17; first
            | ((with_reducible refine (KNew.out _ _ _ _ H3.out G3.out).mono ?_); rintro e w4 ⟨rfl, hb4, hk4⟩; have H4 := Lib.hid hb4; have G4 := Lib.hid hk4; clear hb4 hk4 G3)
            | ((with_reducible refine (KOld.out _ H4.out).mono ?_); rintro e w5 ⟨rfl, hb5⟩; have H5 := Lib.hid (H4.out.trans (hb5.mono H4.out.size)); have G5 := Lib.hid (KStay.out _ _ _ _ _ G4.out hb5); clear hb5 G4)
            | ((with_reducible refine (KOth.out _ _ _ _ H5.out G5.out).mono ?_); rintro e w6 ⟨rfl, hb6, hk6⟩; have H6 := Lib.hid hb6; have G6 := Lib.hid hk6; clear hb6 hk6 G5))
          | (go_at_call 15; (with_reducible refine (KRight.out _ _ _ _ H6.out G6.out).mono ?_); rintro e w7 ⟨rfl, hb7⟩; have H7 := Lib.hid hb7; clear hb7))
        go_ret
        exact ⟨rfl, H7.out⟩
    · have hn0 : ¬ (0 : Int) ≤ i := by omega
      have hn1 : decide ((0 : Int) ≤ i) = false := decide_eq_false hn0
      subst hnm
      rw [show (⟨#[110, 101, 119, 95, 49]⟩ : ByteArray).toList = [110, 101, 119, 95, 49] from by rw [ByteArray.toList_eq]] at he
      cases F
      all_goals
        subst hF2
        unfold foundE at KOld KOth
        go_enter Tryd.func5, Tryd.ntmps5
        go_wp2_with (first
          | (go_at_call 11; (with_reducible refine (kS _ hb0.out).mono ?_); rintro e w1 ⟨rfl, hb1⟩; have H1 := Lib.hid hb1; clear hb1 kS)
          | (go_at_call 12; (with_reducible refine (kF _ H1.out).mono ?_); rintro e w2 ⟨rfl, hb2⟩; have H2 := Lib.hid hb2; clear hb2)
          | (go_at_call 20; (with_reducible refine (KSet.out _ H2.out).mono ?_); rintro e w3 ⟨⟨ao3, N3, c3, rfl, hk3⟩, hb3⟩; have H3 := Lib.hid hb3; have G3 := Lib.hid hk3; clear hb3 hk3)
          | (go_at_call 17; first
            | ((with_reducible refine (KNew.out _ _ _ _ H3.out G3.out).mono ?_); rintro e w4 ⟨rfl, hb4, hk4⟩; have H4 := Lib.hid hb4; have G4 := Lib.hid hk4; clear hb4 hk4 G3)
            | ((with_reducible refine (KOld.out _ H4.out).mono ?_); rintro e w5 ⟨rfl, hb5⟩; have H5 := Lib.hid (H4.out.trans (hb5.mono H4.out.size)); have G5 := Lib.hid (KStay.out _ _ _ _ _ G4.out hb5); clear hb5 G4)
            | ((with_reducible refine (KOth.out _ _ _ _ H5.out G5.out).mono ?_); rintro e w6 ⟨rfl, hb6, hk6⟩; have H6 := Lib.hid hb6; have G6 := Lib.hid hk6; clear hb6 hk6 G5))
          | (go_at_call 15; (with_reducible refine (KRight.out _ _ _ _ H6.out G6.out).mono ?_); rintro e w7 ⟨rfl, hb7⟩; have H7 := Lib.hid hb7; clear hb7))
        go_ret
        exact ⟨rfl, H7.out⟩
    · have hn0 : (0 : Int) ≤ i := by omega
      have hn1 : ¬ i < (N : Int) := by omega
      have hn2 : decide (i < (N : Int)) = false := decide_eq_false hn1
      subst hnm
      rw [show (⟨#[110, 101, 119, 95, 49]⟩ : ByteArray).toList = [110, 101, 119, 95, 49] from by rw [ByteArray.toList_eq]] at he
      cases F
      all_goals
        subst hF2
        unfold foundE at KOld KOth
        go_enter Tryd.func5, Tryd.ntmps5
        go_wp2_with (first
          | (go_at_call 11; (with_reducible refine (kS _ hb0.out).mono ?_); rintro e w1 ⟨rfl, hb1⟩; have H1 := Lib.hid hb1; clear hb1 kS)
          | (go_at_call 12; (with_reducible refine (kF _ H1.out).mono ?_); rintro e w2 ⟨rfl, hb2⟩; have H2 := Lib.hid hb2; clear hb2)
          | (go_at_call 20; (with_reducible refine (KSet.out _ H2.out).mono ?_); rintro e w3 ⟨⟨ao3, N3, c3, rfl, hk3⟩, hb3⟩; have H3 := Lib.hid hb3; have G3 := Lib.hid hk3; clear hb3 hk3)
          | (go_at_call 17; first
            | ((with_reducible refine (KNew.out _ _ _ _ H3.out G3.out).mono ?_); rintro e w4 ⟨rfl, hb4, hk4⟩; have H4 := Lib.hid hb4; have G4 := Lib.hid hk4; clear hb4 hk4 G3)
            | ((with_reducible refine (KOld.out _ H4.out).mono ?_); rintro e w5 ⟨rfl, hb5⟩; have H5 := Lib.hid (H4.out.trans (hb5.mono H4.out.size)); have G5 := Lib.hid (KStay.out _ _ _ _ _ G4.out hb5); clear hb5 G4)
            | ((with_reducible refine (KOth.out _ _ _ _ H5.out G5.out).mono ?_); rintro e w6 ⟨rfl, hb6, hk6⟩; have H6 := Lib.hid hb6; have G6 := Lib.hid hk6; clear hb6 hk6 G5))
          | (go_at_call 15; (with_reducible refine (KRight.out _ _ _ _ H6.out G6.out).mono ?_); rintro e w7 ⟨rfl, hb7⟩; have H7 := Lib.hid hb7; clear hb7))
        go_ret
        exact ⟨rfl, H7.out⟩
/-- The statement's function, at every input. -/
theorem arithSets_walk (w : World) (ao : Option Addr) (cap : Nat) (vs : List Vr) (hV : Vars w.heap.size (.slice ao vs.length cap) vs w) (hno : vs.length ≤ 4398046511000 ∧ (ao = none → cap = 0)) (hsz : ∀ x ∈ vs, x.n.size ≤ 140737488351232 ∧ x.v.size ≤ 140737488351232) (s t : ByteArray) (hs : s.size ≤ 140737488351232) (ht : t.size ≤ 140737488351232) (i : Int) (hM : Marks w.heap.size w) :
    Calls Tryd.prog 5 #[.agg #[.slice ao vs.length cap, .string s, .string t, .int .i64 i]] w fun e w' => e = .returned (.bool true) ∧ Below w.heap.size w w' := by
  have kS : ∀ w1, Below w.heap.size w w1 → Calls Tryd.prog 11 #[] w1 fun e w' => e = .returned (.bool true) ∧ Below w.heap.size w w' := fun w1 hb =>
    (shownA_any w1 ((hM.below hb).mono hb.size)).mono fun e w' ⟨he, hb2⟩ => ⟨he, hb.trans (hb2.mono hb.size)⟩
  have kF : ∀ w1, Below w.heap.size w w1 → Calls Tryd.prog 12 #[.slice ao vs.length cap] w1 fun e w' => e = .returned (.bool (fewA vs)) ∧ Below w.heap.size w w' := fun w1 hb =>
    (fewA_any _ vs w1 ((hV.below hb).mono hb.size) (fun x hx => by have := hsz x hx; omega)).mono fun e w' ⟨he, hb2⟩ => ⟨he, hb.trans (hb2.mono hb.size)⟩
  cases hf : fewA vs
  · rw [hf] at kF
    exact sets_few w _ s t i kS kF
  · rw [hf] at kF
    by_cases hst : s.size + t.size ≤ 200
    · obtain ⟨hlen, hsh, hri⟩ := few_facts hf
      by_cases h0 : 0 ≤ i ∧ i < (vs.length : Int)
      · obtain ⟨k, rfl⟩ : ∃ k : Nat, i = (k : Int) := ⟨i.toNat, by omega⟩
        have hk : k < vs.length := by omega
        obtain ⟨x, hx⟩ : ∃ x, vs[k]? = some x := ⟨_, List.getElem?_eq_getElem hk⟩
        have hm := List.mem_of_getElem? hx
        exact sets_in w ao _ cap x.n s t _ _ _ hst (.inl ⟨k, rfl, hk, fun w1 hb => by
          obtain ⟨b, o, e, _, c0, _⟩ := (hV.below hb).at hx
          exact ⟨b, o, e, c0⟩⟩) kS kF (sets_k w ao cap vs x.n s t hV hno hsh hri ((right_name hri).1 x hm) (by have := hsh x hm; omega))
      · exact sets_in w ao _ cap ⟨#[110, 101, 119, 95, 49]⟩ s t _ _ _ hst (by
          by_cases h1 : i < 0
          · exact .inr (.inl ⟨h1, rfl⟩)
          · exact .inr (.inr ⟨by omega, rfl⟩)) kS kF (sets_k w ao cap vs ⟨#[110, 101, 119, 95, 49]⟩ s t hV hno hsh hri newS_name (by decide))
    · exact sets_long w _ s t i hs ht hst kS kF
end Go.Proofs.YtaaecgglocgcmaaDoor
