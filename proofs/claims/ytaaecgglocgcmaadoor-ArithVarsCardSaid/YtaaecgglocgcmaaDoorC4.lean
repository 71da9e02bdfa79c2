/- Packed texts: ArRight, ArSetMath, ArVarsRef, ArVarsSet, ArNameW. What each of them proves stands above its theorems; the conditions stand in these. -/
import Derived.BigQuiet
import Derived.Deep.QuietTactic
import Derived.Test.YtaaecgglocgcmaaDoorC0
import Derived.Test.YtaaecgglocgcmaaDoorC1
namespace Go.Proofs.YtaaecgglocgcmaaDoor
open Go.RowKit Go.Lib

theorem less_cmp : ∀ a b : List UInt8, Op.bytesLess a b = decide (compareBytes a b < 0)
  | [], [] => rfl
  | [], _ :: _ => rfl
  | _ :: _, [] => rfl
  | x :: a, y :: b => by
    have ih := less_cmp a b
    show (decide (x < y) || (x == y && Op.bytesLess a b)) = _
    unfold compareBytes
    rw [ih]
    by_cases h1 : x < y
    · rw [if_pos h1]; simp [h1]
    · rw [if_neg h1]
      by_cases h2 : y < x
      · have hne : x ≠ y := fun e => by subst e; exact h1 h2
        rw [if_pos h2]; simp [h1, hne]
      · have he : x = y := UInt8.toNat_inj.1 (by rw [UInt8.lt_iff_toNat_lt] at h1 h2; omega)
        rw [if_neg h2]; subst he; simp
/-- Is a row right up to a place? -/
def UpA (vs : List Vr) (k : Nat) : Prop := ∀ j x, j < k → vs[j]? = some x → isNameB x.n.data.toList = true ∧ ∀ y, vs[j - 1]? = some y → 0 < j → compareBytes y.n.data.toList x.n.data.toList < 0
theorem rises_at : ∀ (vs : List Vr) (j : Nat) (x y : Vr), risesA vs = true → vs[j]? = some y → vs[j + 1]? = some x → compareBytes y.n.data.toList x.n.data.toList < 0
  | [], j, x, y, _, h, _ => by simp at h
  | [a], j, x, y, _, _, h => by simp at h
  | a :: b :: r, 0, x, y, hr, h1, h2 => by
    simp at h1 h2
    subst h1 h2
    simp only [risesA, Bool.and_eq_true, decide_eq_true_eq] at hr
    exact hr.1
  | a :: b :: r, j + 1, x, y, hr, h1, h2 => rises_at (b :: r) j x y (rises_tail hr) (by simpa using h1) (by simpa using h2)
theorem rises_of : ∀ (vs : List Vr), (∀ j x y, vs[j]? = some y → vs[j + 1]? = some x → compareBytes y.n.data.toList x.n.data.toList < 0) → risesA vs = true
  | [], _ => rfl
  | [a], _ => rfl
  | a :: b :: r, h => by
    simp only [risesA, Bool.and_eq_true, decide_eq_true_eq]
    exact ⟨h 0 b a rfl rfl, rises_of (b :: r) fun j x y h1 h2 => h (j + 1) x y (by simpa using h1) (by simpa using h2)⟩
theorem up_right {vs : List Vr} (h : UpA vs vs.length) : rightA vs = true := by
  have hlt : ∀ {j : Nat} {x : Vr}, vs[j]? = some x → j < vs.length := fun {j x} hj => by
    by_cases e : j < vs.length
    · exact e
    · rw [List.getElem?_eq_none (by omega)] at hj; cases hj
  unfold rightA
  rw [Bool.and_eq_true]
  constructor
  · rw [List.all_eq_true]
    intro x hx
    obtain ⟨j, hj⟩ := List.mem_iff_getElem?.1 hx
    exact (h j x (hlt hj) hj).1
  · exact rises_of vs fun j x y h1 h2 => (h (j + 1) x (hlt h2) h2).2 y (by simpa using h1) (Nat.succ_pos _)
theorem right_name {vs : List Vr} (h : rightA vs = true) : (∀ x ∈ vs, isNameB x.n.data.toList = true) ∧ risesA vs = true := by
  unfold rightA at h
  rw [Bool.and_eq_true, List.all_eq_true] at h
  exact h
theorem wrong_name {vs : List Vr} {k : Nat} {x : Vr} (hx : vs[k]? = some x) (h : isNameB x.n.data.toList = false) : rightA vs = false := by
  cases e : rightA vs with
  | false => rfl
  | true => have := (right_name e).1 x (List.mem_of_getElem? hx); rw [h] at this; cases this
theorem wrong_order {vs : List Vr} {k : Nat} {x y : Vr} (hy : vs[k]? = some y) (hx : vs[k + 1]? = some x) (h : Op.bytesLess y.n.data.toList x.n.data.toList = false) : rightA vs = false := by
  cases e : rightA vs with
  | false => rfl
  | true =>
    have := rises_at vs k x y (right_name e).2 hy hx
    rw [less_cmp, decide_eq_false_iff_not] at h
    exact absurd this h
theorem up_next {vs : List Vr} {k : Nat} {x : Vr} (h : UpA vs k) (hx : vs[k]? = some x) (hn : isNameB x.n.data.toList = true) (hy : ∀ y, vs[k - 1]? = some y → 0 < k → Op.bytesLess y.n.data.toList x.n.data.toList = true) : UpA vs (k + 1) := by
  intro j z hj hz
  by_cases e : j = k
  · subst e
    rw [hx] at hz
    cases hz
    refine ⟨hn, fun y h1 h2 => ?_⟩
    have := hy y h1 h2
    rw [less_cmp, decide_eq_true_eq] at this
    exact this
  · exact h j z (by omega) hz
end Go.Proofs.YtaaecgglocgcmaaDoor
namespace Go.Proofs.YtaaecgglocgcmaaDoor
open Go.RowKit Go.Lib

def insA : List Vr → Vr → List Vr
  | [], x => [x]
  | y :: r, x => if compareBytes y.n.data.toList x.n.data.toList < 0 then y :: insA r x else if y.n.data.toList = x.n.data.toList then x :: r else x :: y :: r
theorem atA_cons (y : Vr) (r : List Vr) (s : List UInt8) : atA (y :: r) s = if compareBytes y.n.data.toList s < 0 then atA r s else decide (y.n.data.toList = s) := by
  unfold atA
  rw [lowA]
  by_cases hc : compareBytes y.n.data.toList s < 0
  · rw [if_pos hc, if_pos hc]; rfl
  · rw [if_neg hc, if_neg hc]; rfl
theorem set_ins : ∀ (vs : List Vr) (x : Vr), setA vs x = insA vs x
  | [], x => rfl
  | y :: r, x => by
    unfold setA
    rw [atA_cons, lowA]
    unfold insA
    by_cases hc : compareBytes y.n.data.toList x.n.data.toList < 0
    · rw [if_pos hc, if_pos hc, if_pos hc]
      have ih := set_ins r x
      unfold setA at ih
      rw [← ih, List.take_succ_cons, List.cons_append, Nat.add_right_comm, List.drop_succ_cons]
    · rw [if_neg hc, if_neg hc, if_neg hc]
      by_cases he : y.n.data.toList = x.n.data.toList
      · rw [if_pos he, decide_eq_true he]; rfl
      · rw [if_neg he, decide_eq_false he]; rfl
end Go.Proofs.YtaaecgglocgcmaaDoor
namespace Go.Proofs.YtaaecgglocgcmaaDoor
open Go.RowKit Go.Lib

theorem find_step {vs : List Vr} {s : List UInt8} {k : Nat} {x : Vr} (hx : vs[k]? = some x) : findA (vs.drop k) s = if x.n.data.toList = s then some x.v else findA (vs.drop (k + 1)) s := by
  have hk : k < vs.length := by
    by_cases e : k < vs.length
    · exact e
    · rw [List.getElem?_eq_none (by omega)] at hx; cases hx
  have e : vs.drop k = x :: vs.drop (k + 1) := by
    rw [List.drop_eq_getElem_cons hk]
    rw [List.getElem?_eq_getElem hk] at hx
    injection hx with hx
    rw [hx]
  rw [e]
  rfl
set_option maxHeartbeats 1000000 in
set_option maxRecDepth 20000 in
theorem refFindA_any (v : Value) (vs : List Vr) (s : ByteArray) (w : World) (h : Vars w.heap.size v vs w) :
    Calls Tryd.prog 18 #[v, .string s] w fun e w' => e = foundE (findA vs s.data.toList) ∧ w = w' := by
  obtain ⟨ao, cap, rfl, hc, hn⟩ : ∃ ao cap, v = .slice ao vs.length cap ∧ vs.length ≤ cap ∧ vs.length ≤ 140737488355328 := by
    obtain ⟨ao, cap, rfl, hc, hn, _⟩ := h
    exact ⟨ao, cap, rfl, hc, hn⟩
  have H := Lib.hid h
  obtain ⟨n, hn'⟩ : ∃ n, n = vs.length := ⟨_, rfl⟩
  rw [← hn'] at hn hc H ⊢
  have HN := Lib.hid hn'
  have hge : ∀ j, j < n → ∃ x, vs[j]? = some x := fun j hj => ⟨_, List.getElem?_eq_getElem (by rw [← hn']; exact hj)⟩
  have HGE := Lib.hid hge
  have HST : Hid (findA vs s.data.toList = findA (vs.drop 0) s.data.toList) := rfl
  obtain ⟨F, hF⟩ : ∃ F, F = findA vs s.data.toList := ⟨_, rfl⟩
  rw [← hF] at HST ⊢
  clear h hn' hge hF
  go_enter Tryd.func18, Tryd.ntmps18
  go_wp2
  go_loop [6] (fun i => ∃ k : Nat, k ≤ n ∧ i = .int .i64 k ∧ Hid (F = findA (vs.drop k) s.data.toList)) (fun i => n - (RowKit.intOf i).toNat)
  case atStart => exact ⟨0, Nat.zero_le _, rfl, HST⟩
  case round =>
    obtain ⟨k, hk, rfl, HK⟩ := hrel
    by_cases hlt : k < n
    · obtain ⟨x, hx⟩ := HGE.out k hlt
      obtain ⟨b, o, rfl, hb, c0, c1⟩ := H.out.at hx
      have hltI : (k : Int) < (n : Int) := by omega
      have hst := HK.out
      rw [find_step hx] at hst
      by_cases he : x.n.toList = s.toList
      · rw [if_pos (by rw [← ByteArray.toList_eq, ← ByteArray.toList_eq]; exact he)] at hst
        have HF : Hid (F = some x.v) := hst
        have he2 : (x.n.toList == s.toList) = true := by simp [he]
        clear hst hx
        generalize x.n = xn at *
        generalize x.v = xv at *
        go_wp2
        go_ret2
        exact ⟨by rw [HF.out]; rfl, rfl⟩
      · rw [if_neg (by rw [← ByteArray.toList_eq, ← ByteArray.toList_eq]; exact he)] at hst
        have HS : Hid (F = findA (vs.drop (k + 1)) s.data.toList) := hst
        have he2 : (x.n.toList == s.toList) = false := by simp [he]
        clear hst hx
        generalize x.n = xn at *
        generalize x.v = xv at *
        go_wp2
        go_round
        case rel => exact ⟨k + 1, by omega, by go_num, HS⟩
        case measure => simp [RowKit.intOf]; omega
    · have hkn : k = n := by omega
      have hst := HK.out
      rw [List.drop_eq_nil_of_le (by rw [hkn, HN.out]; exact Nat.le_refl _)] at hst
      have HS : Hid (F = none) := hst
      have hge : ¬ (k : Int) < (n : Int) := by omega
      clear hst hkn
      go_wp2
      go_ret2
      exact ⟨by rw [HS.out]; rfl, rfl⟩
/-- Two rows that read alike. -/
theorem refSameA_any (a b : Value) (vs : List Vr) (w : World) (ha : Vars w.heap.size a vs w) (hb : Vars w.heap.size b vs w) :
    Calls Tryd.prog 19 #[a, b] w fun e w' => e = .returned (.bool true) ∧ Below w.heap.size w w' := by
  obtain ⟨ao, cap, rfl, hc, hn⟩ : ∃ ao cap, a = .slice ao vs.length cap ∧ vs.length ≤ cap ∧ vs.length ≤ 140737488355328 := by
    obtain ⟨ao, cap, rfl, hc, hn, _⟩ := ha
    exact ⟨ao, cap, rfl, hc, hn⟩
  obtain ⟨bo, cap2, rfl, hc2, _⟩ : ∃ ao cap, b = .slice ao vs.length cap ∧ vs.length ≤ cap ∧ vs.length ≤ 140737488355328 := by
    obtain ⟨ao, cap, rfl, hc, hn, _⟩ := hb
    exact ⟨ao, cap, rfl, hc, hn⟩
  have HA := Lib.hid ha
  have HB := Lib.hid hb
  obtain ⟨n, hn'⟩ : ∃ n, n = vs.length := ⟨_, rfl⟩
  rw [← hn'] at hn hc hc2 HA HB ⊢
  have hge : ∀ j, j < n → ∃ x, vs[j]? = some x := fun j hj => ⟨_, List.getElem?_eq_getElem (by rw [← hn']; exact hj)⟩
  have HGE := Lib.hid hge
  have hB : Hid (Below w.heap.size w w) := Below.refl _ _
  clear ha hb hn' hge
  go_enter Tryd.func19, Tryd.ntmps19
  go_wp2_with fail
  go_loopw [5] (fun i wr => ∃ k : Nat, i = .int .i64 (k : Int) ∧ k ≤ n ∧ Hid (Below w.heap.size w wr)) (fun i _ => n - (RowKit.intOf i).toNat)
  case atStart => exact ⟨0, rfl, Nat.zero_le _, hB⟩
  case round =>
    obtain ⟨k, rfl, hk, HW⟩ := hrel
    by_cases hlt : k < n
    · obtain ⟨x, hx⟩ := HGE.out k hlt
      have HV := Lib.hid (HA.out.below HW.out)
      have HV2 := Lib.hid (HB.out.below HW.out)
      obtain ⟨b, o, rfl, hb, c0, c1⟩ := HV.out.at hx
      obtain ⟨b2, o2, eab, hb2, d0, d1⟩ := HV2.out.at hx
      cases eab
      have hltI : (k : Int) < (n : Int) := by omega
      clear hx
      generalize x.n = xn at *
      generalize x.v = xv at *
      go_wp2_with fail
      go_quiet (fail)
      go_wp2
      go_roundw
      case rel => exact ⟨k + 1, by go_num, by omega, below_draws HW.out _⟩
      case measure => simp [RowKit.intOf]; omega
    · have hge : ¬ (k : Int) < (n : Int) := by omega
      go_wp2
      go_ret
      exact ⟨rfl, HW.out⟩
/-- A row with a variable set, as the document sets it. -/
def refSet (vs : List Vr) (x : Vr) (lo : Nat) : List Vr := vs.take lo ++ x :: ((vs.drop lo).filter fun y => !decide (y.n.toList = x.n.toList))
theorem same_text {a b : ByteArray} (h : a.toList = b.toList) : a.data.toList = b.data.toList := by rw [← ByteArray.toList_eq, ← ByteArray.toList_eq]; exact h
theorem bytes_cmp (a b : ByteArray) : Op.bytesLess a.toList b.toList = decide (compareBytes a.data.toList b.data.toList < 0) := by rw [ByteArray.toList_eq, ByteArray.toList_eq]; exact less_cmp _ _
theorem filter_all {x : Vr} {r : List Vr} (h : ∀ z ∈ r, compareBytes x.n.data.toList z.n.data.toList < 0) : (r.filter fun y => !decide (y.n.toList = x.n.toList)) = r := by
  rw [List.filter_eq_self]
  intro z hz
  have h1 := h z hz
  simp only [Bool.not_eq_true', decide_eq_false_iff_not]
  intro e
  rw [same_text e, cmp_self] at h1
  omega
theorem refSet_ins : ∀ (vs : List Vr) (x : Vr) (lo : Nat), risesA vs = true → lo ≤ vs.length → (∀ j y, j < lo → vs[j]? = some y → Op.bytesLess y.n.toList x.n.toList = true) → (∀ y, vs[lo]? = some y → Op.bytesLess y.n.toList x.n.toList = false) → refSet vs x lo = insA vs x
  | [], x, lo, _, h, _, _ => by
    obtain rfl : lo = 0 := by simpa using h
    rfl
  | y :: r, x, 0, hr, _, _, h2 => by
    have hc : ¬ compareBytes y.n.data.toList x.n.data.toList < 0 := by
      have := h2 y rfl
      rw [bytes_cmp] at this
      simpa using this
    show x :: ((y :: r).filter _) = insA (y :: r) x
    unfold insA
    rw [if_neg hc]
    by_cases he : y.n.data.toList = x.n.data.toList
    · rw [if_pos he, List.filter_cons_of_neg (by
        have : y.n.toList = x.n.toList := by rw [ByteArray.toList_eq, ByteArray.toList_eq]; exact he
        simp [this])]
      rw [filter_all (fun z hz => by rw [← he]; exact rises_head hr z hz)]
    · rw [if_neg he]
      have hxy : compareBytes x.n.data.toList y.n.data.toList < 0 := by
        rw [cmp_flip]
        rcases cmp_three y.n.data.toList x.n.data.toList with e | e | e
        · omega
        · exact absurd (cmp_eq0 _ _ e) he
        · omega
      rw [filter_all (fun z hz => by
        rcases List.mem_cons.1 hz with rfl | e
        · exact hxy
        · exact cmp_trans _ _ _ hxy (rises_head hr z e))]
  | y :: r, x, lo + 1, hr, h, h1, h2 => by
    have hc : compareBytes y.n.data.toList x.n.data.toList < 0 := by
      have := h1 0 y (Nat.succ_pos _) rfl
      rw [bytes_cmp] at this
      simpa using this
    have ih := refSet_ins r x lo (rises_tail hr) (by simpa using h) (fun j z hj hz => h1 (j + 1) z (by omega) (by simpa using hz)) (fun z hz => h2 z (by simpa using hz))
    unfold refSet at ih ⊢
    unfold insA
    rw [if_pos hc, ← ih, List.take_succ_cons, List.drop_succ_cons, List.cons_append]
theorem take_next {vs : List Vr} {k j : Nat} {y : Vr} (hy : vs[j]? = some y) (hk : k ≤ j) : (vs.take (j + 1)).drop k = (vs.take j).drop k ++ [y] := by
  have hj : j < vs.length := by
    by_cases e : j < vs.length
    · exact e
    · rw [List.getElem?_eq_none (by omega)] at hy; cases hy
  rw [List.take_succ_eq_append_getElem hj, List.drop_append_of_le_length (by rw [List.length_take]; omega)]
  rw [List.getElem?_eq_getElem hj] at hy
  injection hy with hy
  rw [hy]
end Go.Proofs.YtaaecgglocgcmaaDoor
namespace Go.Proofs.YtaaecgglocgcmaaDoor
open Go.RowKit Go.Lib

theorem cells_twoV (w : World) (p q : Value) : ∀ j x, [p, q][j]? = some x → (w.alloc (.cells #[p, q] 39)).cell? ((⟨w.heap.size, 0, none⟩ : Addr).add j) = some x := by
  intro j x hj
  have h := heap_alloc_new w (.cells #[p, q] 39)
  have e : (⟨w.heap.size, 0, none⟩ : Addr).add j = ⟨w.heap.size, j, none⟩ := by simp [Addr.add]; intro h; exact h.symm
  rw [e, cell_of_heap h]
  simpa using hj
theorem vsC_two (L : List Vr) (y : Vr) : vsC (L ++ [y]) = vsC L ++ [.string y.n, .string y.v] := by rw [vsC_append]; simp [vsC, Vr.cells]
theorem two_one (p q : ByteArray) : ∀ u ∈ ([.string p, .string q] : List Value), u.oneCell' = true := by
  intro u hu
  simp at hu
  rcases hu with rfl | rfl <;> rfl
set_option maxHeartbeats 8000000 in
set_option maxRecDepth 20000 in
theorem refSetA_any (ao : Option Addr) (cap : Nat) (vs : List Vr) (x : Vr) (w : World) (h : Vars w.heap.size (.slice ao vs.length cap) vs w) (hN : vs.length ≤ 30) :
    Calls Tryd.prog 21 #[.slice ao vs.length cap, .string x.n, .string x.v] w fun e w' => (∃ v lo, e = .returned v ∧ Vars w'.heap.size v (refSet vs x lo) w' ∧ lo ≤ vs.length ∧ (∀ j y, j < lo → vs[j]? = some y → Op.bytesLess y.n.toList x.n.toList = true) ∧ ∀ y, vs[lo]? = some y → Op.bytesLess y.n.toList x.n.toList = false) ∧ Below w.heap.size w w' := by
  obtain ⟨i0, hi, hz0, hz1, hz2⟩ := info_parts Tryd.infoVarA
  have H := Lib.hid h
  obtain ⟨xn, xv⟩ := x
  show Calls Tryd.prog 21 #[.slice ao vs.length cap, .string xn, .string xv] w _
  obtain ⟨n, hn'⟩ : ∃ n, n = vs.length := ⟨_, rfl⟩
  rw [← hn'] at hN H ⊢
  have HN := Lib.hid hn'
  have hc := H.out.len.2.1
  have hge : ∀ j, j < n → ∃ x, vs[j]? = some x := fun j hj => ⟨_, List.getElem?_eq_getElem (by rw [← hn']; exact hj)⟩
  have HGE := Lib.hid hge
  obtain ⟨B, hB⟩ : ∃ B, B = w.heap.size := ⟨_, rfl⟩
  have hSB : Hid (Below B w w) := Below.refl _ _
  have hSU : Hid (∀ j y, j < 0 → vs[j]? = some y → Op.bytesLess y.n.toList xn.toList = true) := fun j y hj => absurd hj (Nat.not_lt_zero _)
  have hSO : Hid (w.ownsRow B 39 2 (.slice none 0 0) 0 (vsC (vs.take 0))) := World.ownsRow_nil _ _ _ _
  rw [← hB] at H ⊢
  have HBW := Lib.hid hB
  clear h hn' hge hB
  go_enter Tryd.func21, Tryd.ntmps21
  go_wp2_with fail
  go_loopw [7, 8] (fun v7 i wr => ∃ (k : Nat) (o7 : Value), o7 = v7 ∧ i = .int .i64 (k : Int) ∧ k ≤ n ∧ Hid (wr.ownsRow B 39 2 o7 k (vsC (vs.take k))) ∧ Hid (Below B w wr) ∧ Hid (∀ j y, j < k → vs[j]? = some y → Op.bytesLess y.n.toList xn.toList = true)) (fun _ i _ => n - (RowKit.intOf i).toNat)
  case atStart => exact ⟨0, _, rfl, rfl, Nat.zero_le _, hSO, hSB, hSU⟩
  case round =>
    obtain ⟨k, o7, h7, rfl, hk, HO, HW, HU⟩ := hrel
    rw [← h7]
    clear h7
    have HSZ : Hid (B ≤ wr.heap.size) := Nat.le_trans (Nat.le_of_eq HBW.out) HW.out.size
    have hcase : (∃ y, vs[k]? = some y ∧ k < n ∧ Op.bytesLess y.n.toList xn.toList = true) ∨ ((∃ y, vs[k]? = some y ∧ k < n ∧ Op.bytesLess y.n.toList xn.toList = false) ∨ k = n) := by
      by_cases hlt : k < n
      · obtain ⟨y, hy⟩ := HGE.out k hlt
        cases hq : Op.bytesLess y.n.toList xn.toList
        · exact .inr (.inl ⟨y, hy, hlt, hq⟩)
        · exact .inl ⟨y, hy, hlt, hq⟩
      · exact .inr (.inr (by omega))
    rcases hcase with ⟨y, hy, hlt, hq⟩ | hstop
    · have HV := Lib.hid (H.out.below HW.out)
      obtain ⟨b, o, rfl, hb, c0, c1⟩ := HV.out.at hy
      have hltI : (k : Int) < (n : Int) := by omega
      have HNU : Hid (∀ j y, j < k + 1 → vs[j]? = some y → Op.bytesLess y.n.toList xn.toList = true) := by
        show ∀ j y, j < k + 1 → vs[j]? = some y → Op.bytesLess y.n.toList xn.toList = true
        intro j z hj hz
        by_cases e : j = k
        · subst e; rw [hy] at hz; cases hz; exact hq
        · exact HU.out j z (by omega) hz
      have htk : vsC (vs.take (k + 1)) = vsC (vs.take k) ++ [.string y.n, .string y.v] := by
        have := take_next (k := 0) hy (Nat.zero_le _)
        simp only [List.drop_zero] at this
        rw [this, vsC_two]
      clear hy
      obtain ⟨L, hL⟩ : ∃ L, L = vsC (vs.take k) := ⟨_, rfl⟩
      rw [← hL] at HO htk
      have HTK := Lib.hid htk
      clear hL htk
      generalize y.n = yn at *
      generalize y.v = yv at *
      go_wp2_with (at_builtin; refine wpList_append_own _ rfl (.tmp 22) (.tmp 27) 22 rfl B 39 i0 _ 2 32 Tryd.underlying22 hi hz0 hz1 hz2 rfl (by decide) o7 k L rfl (HO.out.alloc _) ⟨wr.heap.size, 0, none⟩ 1 1 [.string yn, .string yv] rfl rfl (cells_twoV _ _ _) (two_one _ _) (by unfold maxLen; omega) (by omega) (by have := HSZ.out; simp; omega) ?_; intro v9 w9 hown hgrow _; have HO9 := Lib.hid hown; have HB9 := Lib.hid ((HW.out.alloc HSZ.out _).grown hgrow (by have := HSZ.out; simp; omega) (fun q hq => own_base HO.out hq)); clear hown hgrow)
      go_roundw
      case rel => exact ⟨k + 1, _, rfl, by go_num, by omega, by rw [HTK.out]; exact HO9, HB9, HNU⟩
      case measure => simp [RowKit.intOf]; omega
    · have HST : Hid (∀ y, vs[k]? = some y → Op.bytesLess y.n.toList xn.toList = false) := by
        show ∀ y, vs[k]? = some y → Op.bytesLess y.n.toList xn.toList = false
        intro z hz
        rcases hstop with ⟨y, hy, _, hq⟩ | hkn
        · rw [hy] at hz; cases hz; exact hq
        · rw [List.getElem?_eq_none (by rw [hkn, HN.out]; exact Nat.le_refl _)] at hz; cases hz
      have HLEN : Hid ((vs.take k ++ [(⟨xn, xv⟩ : Vr)]).length = k + 1) := by
        show (vs.take k ++ [(⟨xn, xv⟩ : Vr)]).length = k + 1
        rw [List.length_append, List.length_take, ← HN.out, Nat.min_eq_left hk]
        rfl
      have HVS : Hid (vsC (vs.take k ++ [(⟨xn, xv⟩ : Vr)]) = vsC (vs.take k) ++ [.string xn, .string xv]) := vsC_two _ _
      obtain ⟨L, hL⟩ : ∃ L, L = vsC (vs.take k) := ⟨_, rfl⟩
      rw [← hL] at HO HVS
      have HM0 : Hid (vs.take k ++ [(⟨xn, xv⟩ : Vr)] = vs.take k ++ (⟨xn, xv⟩ : Vr) :: (((vs.take k).drop k).filter fun y => !decide (y.n.toList = xn.toList))) := by
        show vs.take k ++ [(⟨xn, xv⟩ : Vr)] = vs.take k ++ (⟨xn, xv⟩ : Vr) :: (((vs.take k).drop k).filter fun y => !decide (y.n.toList = xn.toList))
        rw [List.drop_eq_nil_of_le (by rw [List.length_take]; omega)]
        rfl
      clear hL
      have hpre : (∃ b o yn yv, ao = some ⟨b, o, none⟩ ∧ (k : Int) < (n : Int) ∧ k < n ∧ wr.cell? ⟨b, o + k * 2, none⟩ = some (.string yn) ∧ wr.cell? ⟨b, o + k * 2 + 1, none⟩ = some (.string yv) ∧ Op.bytesLess yn.toList xn.toList = false) ∨ ¬ (k : Int) < (n : Int) := by
        rcases hstop with ⟨y, hy, hlt, hq⟩ | hkn
        · obtain ⟨b, o, e, _, c0, c1⟩ := (H.out.below HW.out).at hy
          exact .inl ⟨b, o, _, _, e, by omega, hlt, c0, c1, hq⟩
        · exact .inr (by omega)
      clear hstop
      rcases hpre with ⟨b, o, yn, yv, rfl, hltI, hlt, c0, c1, hq⟩ | hge
      all_goals
        go_wp2_with (at_builtin; refine wpList_append_own _ rfl (.tmp 31) (.tmp 35) 22 rfl B 39 i0 _ 2 32 Tryd.underlying22 hi hz0 hz1 hz2 rfl (by decide) o7 k L rfl (HO.out.alloc _) ⟨wr.heap.size, 0, none⟩ 1 1 [.string xn, .string xv] rfl rfl (cells_twoV _ _ _) (two_one _ _) (by unfold maxLen; omega) (by omega) (by have := HSZ.out; simp; omega) ?_; intro v9 w9 hown hgrow _; have HO9 := Lib.hid hown; have HB9 := Lib.hid ((HW.out.alloc HSZ.out _).grown hgrow (by have := HSZ.out; simp; omega) (fun q hq => own_base HO.out hq)); clear hown hgrow)
        go_loopw [7, 8] (fun v7 i wq => ∃ (j : Nat) (o8 : Value) (M : List Vr), o8 = v7 ∧ i = .int .i64 (j : Int) ∧ k ≤ j ∧ j ≤ n ∧ Hid (wq.ownsRow B 39 2 o8 M.length (vsC M)) ∧ Hid (M = vs.take k ++ (⟨xn, xv⟩ : Vr) :: (((vs.take j).drop k).filter fun y => !decide (y.n.toList = xn.toList))) ∧ Hid (Below B w wq)) (fun _ i _ => n - (RowKit.intOf i).toNat)
        case atStart => exact ⟨k, _, vs.take k ++ [(⟨xn, xv⟩ : Vr)], rfl, rfl, Nat.le_refl _, hk, by rw [HLEN.out, HVS.out]; exact HO9, HM0, HB9⟩
        case round =>
          obtain ⟨j, o8, M, h8, rfl, hkj, hj, HP, HM, HX⟩ := hrel
          rw [← h8]
          clear h8
          try clear hge
          have HXZ : Hid (B ≤ wr.heap.size) := Nat.le_trans (Nat.le_of_eq HBW.out) HX.out.size
          have hMZ : M.length ≤ 31 := by
            rw [HM.out]
            have h1 := List.length_filter_le (fun y : Vr => !decide (y.n.toList = xn.toList)) ((vs.take j).drop k)
            rw [List.length_drop, List.length_take] at h1
            simp only [List.length_append, List.length_cons, List.length_take]
            omega
          by_cases hlt2 : j < n
          · obtain ⟨z, hz⟩ := HGE.out j hlt2
            have HV := Lib.hid (H.out.below HX.out)
            obtain ⟨b2, o2, eab, hb2, d0, d1⟩ := HV.out.at hz
            cases eab
            have hltJ : (j : Int) < (n : Int) := by omega
            have TN := take_next hz hkj
            by_cases he : z.n.toList = xn.toList
            · have HN' : Hid (M = vs.take k ++ (⟨xn, xv⟩ : Vr) :: (((vs.take (j + 1)).drop k).filter fun y => !decide (y.n.toList = xn.toList))) := by
                show M = vs.take k ++ (⟨xn, xv⟩ : Vr) :: (((vs.take (j + 1)).drop k).filter fun y => !decide (y.n.toList = xn.toList))
                rw [TN, List.filter_append, List.filter_cons_of_neg (by simp [he]), List.filter_nil, List.append_nil]
                exact HM.out
              have he2 : (z.n.toList == xn.toList) = true := by simp [he]
              clear hz TN
              generalize z.n = zn at *
              generalize z.v = zv at *
              go_wp2
              go_roundw
              case rel => exact ⟨j + 1, _, M, rfl, by go_num, by omega, by omega, HP, HN', HX⟩
              case measure => simp [RowKit.intOf]; omega
            · have HN' : Hid (M ++ [z] = vs.take k ++ (⟨xn, xv⟩ : Vr) :: (((vs.take (j + 1)).drop k).filter fun y => !decide (y.n.toList = xn.toList))) := by
                show M ++ [z] = vs.take k ++ (⟨xn, xv⟩ : Vr) :: (((vs.take (j + 1)).drop k).filter fun y => !decide (y.n.toList = xn.toList))
                rw [TN, List.filter_append, List.filter_cons_of_pos (by simp [he]), List.filter_nil, ← List.cons_append, ← List.append_assoc, ← HM.out]
              have HV2 : Hid (vsC (M ++ [z]) = vsC M ++ [.string z.n, .string z.v]) := vsC_two _ _
              have HLE : Hid ((M ++ [z]).length = M.length + 1) := by show (M ++ [z]).length = M.length + 1; simp
              have he2 : (z.n.toList == xn.toList) = false := by simp [he]
              obtain ⟨m, hm⟩ : ∃ m, m = M.length := ⟨_, rfl⟩
              obtain ⟨L2, hL2⟩ : ∃ L2, L2 = vsC M := ⟨_, rfl⟩
              rw [← hm] at HLE HP hMZ
              rw [← hL2] at HV2 HP
              obtain ⟨M2, hM2⟩ : ∃ M2, M2 = M ++ [z] := ⟨_, rfl⟩
              rw [← hM2] at HN' HV2 HLE
              clear hz TN hm hL2 hM2
              generalize z.n = zn at *
              generalize z.v = zv at *
              go_wp2_with (at_builtin; refine wpList_append_own _ rfl (.tmp 48) (.tmp 53) 22 rfl B 39 i0 _ 2 32 Tryd.underlying22 hi hz0 hz1 hz2 rfl (by decide) o8 m L2 rfl (HP.out.alloc _) ⟨wr.heap.size, 0, none⟩ 1 1 [.string zn, .string zv] rfl rfl (cells_twoV _ _ _) (two_one _ _) (by unfold maxLen; omega) (by omega) (by have := HXZ.out; simp; omega) ?_; intro v10 w10 hown hgrow _; have HO9 := Lib.hid hown; have HB9 := Lib.hid ((HX.out.alloc HXZ.out _).grown hgrow (by have := HXZ.out; simp; omega) (fun q hq => own_base HP.out hq)); clear hown hgrow)
              go_roundw
              case rel => exact ⟨j + 1, _, M2, rfl, by go_num, by omega, by omega, by rw [HLE.out, HV2.out]; exact HO9, HN', HB9⟩
              case measure => simp [RowKit.intOf]; omega
          · have hjn : j = n := by omega
            have HF : Hid (refSet vs ⟨xn, xv⟩ k = M) := by
              show refSet vs ⟨xn, xv⟩ k = M
              have h1 := HM.out
              rw [show vs.take j = vs from List.take_of_length_le (by rw [hjn, HN.out]; exact Nat.le_refl _)] at h1
              exact h1.symm
            have hge2 : ¬ (j : Int) < (n : Int) := by omega
            go_wp2
            go_ret
            exact ⟨⟨_, rfl, k, by rw [HF.out]; exact (Vars.owned HP.out (by omega)).1, hk, HU.out, HST.out⟩, HX.out⟩
end Go.Proofs.YtaaecgglocgcmaaDoor
namespace Go.Proofs.YtaaecgglocgcmaaDoor
open Go.RowKit Go.Lib

set_option maxHeartbeats 400000 in
theorem isNameW_any (s : ByteArray) (w : World) (hs : s.size ≤ 140737488351232) :
    Calls Tryd.prog 29 #[.string s] w fun e w' => e = .returned (.bool (isNameB s.data.toList)) ∧ Below w.heap.size w w' := by
  have hcl : (w.alloc (.cells #[.string s] 9)).cell? ⟨w.heap.size, 0, none⟩ = some (.string s) := by simp
  go_enter Tryd.func29, Tryd.ntmps29
  go_wp2
  go_loop [8] (fun i => ∃ k : Nat, k ≤ s.size ∧ i = .int .i64 k ∧ namePre (s.data.toList.take k) = true) (fun i => s.size - (RowKit.intOf i).toNat)
  case atStart => exact ⟨0, Nat.zero_le _, rfl, rfl⟩
  case round =>
    obtain ⟨k, hk, rfl, hpre⟩ := hrel
    have HP := Lib.hid hpre
    clear hpre
    by_cases hlt : k < s.size
    · have hsn := Lib.hid (namePre_take s k hlt)
      have hfit := isNameFits_any s k w.heap.size (w.alloc (.cells #[.string s] 9)) hlt (by unfold maxLen; omega) hcl
      cases hn : nameOk k s[k]
      · rw [hn] at hfit
        have HN := Lib.hid hn
        clear hn
        go_wp2_with (go_at_call 35; refine hfit.mono ?_; rintro e w' ⟨rfl, rfl⟩)
        go_ret
        refine ⟨ret_bool ?_, (Below.refl _ _).alloc (Nat.le_refl _) _⟩
        rw [namePre_no s (k + 1) (by rw [hsn.out, HN.out]; simp)]
      · rw [hn] at hfit
        have HN := Lib.hid hn
        clear hn
        go_wp2_with (go_at_call 35; refine hfit.mono ?_; rintro e w' ⟨rfl, rfl⟩)
        go_round
        case rel => exact ⟨k + 1, by omega, by go_num, by rw [hsn.out, HN.out, HP.out]; rfl⟩
        case measure => simp [RowKit.intOf]; omega
    · have hall : s.data.toList.take k = s.data.toList := List.take_of_length_le (by simp; omega)
      have HA := Lib.hid hall
      clear hall
      go_wp2
      all_goals
        go_ret
        refine ⟨ret_bool ?_, (Below.refl _ _).alloc (Nat.le_refl _) _⟩
        have := HP.out
        rw [HA.out] at this
        simp [isNameB, this, ByteArray.toList_eq]
set_option maxHeartbeats 1000000 in
theorem refIsNameW_any (s : ByteArray) (w : World) (hs : s.size ≤ 140737488351232) :
    Calls Tryd.prog 28 #[.string s] w fun e w' => e = .returned (.bool (isNameB s.data.toList)) ∧ w = w' := by
  go_enter Tryd.func28, Tryd.ntmps28
  go_wp2
  go_loop [3] (fun i => ∃ k : Nat, k ≤ s.size ∧ i = .int .i64 k ∧ namePre (s.data.toList.take k) = true) (fun i => s.size - (RowKit.intOf i).toNat)
  case atStart => exact ⟨0, Nat.zero_le _, rfl, rfl⟩
  case round =>
    obtain ⟨k, hk, rfl, hpre⟩ := hrel
    have HP := Lib.hid hpre
    clear hpre
    by_cases hlt : k < s.size
    · have hsn := Lib.hid (namePre_take s k hlt)
      have hno := Lib.hid (namePre_no s (k + 1))
      obtain ⟨c, hcc⟩ : ∃ c, s[k] = c := ⟨_, rfl⟩
      rw [hcc] at hsn
      have cls : ((c.toNat : Int) < 48) ∨ (48 ≤ (c.toNat : Int) ∧ (c.toNat : Int) ≤ 57) ∨ (58 ≤ (c.toNat : Int) ∧ (c.toNat : Int) ≤ 64) ∨ (65 ≤ (c.toNat : Int) ∧ (c.toNat : Int) ≤ 90) ∨ (91 ≤ (c.toNat : Int) ∧ (c.toNat : Int) ≤ 94) ∨ ((c.toNat : Int) = 95) ∨ ((c.toNat : Int) = 96) ∨ (97 ≤ (c.toNat : Int) ∧ (c.toNat : Int) ≤ 122) ∨ (123 ≤ (c.toNat : Int)) := by omega
      rcases cls with h | ⟨h, h'⟩ | ⟨h, h'⟩ | ⟨h, h'⟩ | ⟨h, h'⟩ | h | h | ⟨h, h'⟩ | h <;> by_cases h0 : 0 < k
      all_goals
        first
        | have hn := Lib.hid (show nameOk k c = true by simp [nameOk, isLet, isFig]; omega)
        | have hn := Lib.hid (show nameOk k c = false by rw [Bool.eq_false_iff]; simp [nameOk, isLet, isFig]; omega)
        first
        | have h9 : ((c.toNat : Int) == 95) = false := by simp; omega
        | have h9 : ((c.toNat : Int) == 95) = true := by simp; omega
        first
        | have h8 : ((k : Int) == 0) = false := by simp; omega
        | have h8 : ((k : Int) == 0) = true := by simp; omega
        first
        | have h7 : decide ((c.toNat : Int) ≤ 90) = false := by simp; omega
        | have h7 : decide ((c.toNat : Int) ≤ 90) = true := by simp; omega
        first
        | have h6 : decide ((c.toNat : Int) ≤ 122) = false := by simp; omega
        | have h6 : decide ((c.toNat : Int) ≤ 122) = true := by simp; omega
        go_wp2
        first
        | go_ret
          refine ⟨ret_bool ?_, rfl⟩
          rw [hno.out (by rw [hsn.out, hn.out]; simp)]
        | go_round
          case rel => exact ⟨k + 1, by omega, by go_num, by rw [hsn.out, hn.out, HP.out]; rfl⟩
          case measure => simp [RowKit.intOf]; omega
    · have hall : s.data.toList.take k = s.data.toList := List.take_of_length_le (by simp; omega)
      have HA := Lib.hid hall
      clear hall
      go_wp2
      all_goals
        go_ret
        refine ⟨ret_bool ?_, rfl⟩
        have := HP.out
        rw [HA.out] at this
        simp only [isNameB, this, isEmpty_size]
        by_cases h0 : s.size = 0 <;> simp [h0]
        try omega
set_option maxHeartbeats 2000000 in
set_option maxRecDepth 20000 in
theorem refRightW_any (v : Value) (vs : List Vr) (w : World) (h : Vars w.heap.size v vs w) (hs : ∀ x ∈ vs, x.n.size ≤ 140737488351232) :
    Calls Tryd.prog 15 #[v] w fun e w' => e = .returned (.bool (rightA vs)) ∧ Below w.heap.size w w' := by
  obtain ⟨ao, cap, rfl, hc, hn⟩ : ∃ ao cap, v = .slice ao vs.length cap ∧ vs.length ≤ cap ∧ vs.length ≤ 140737488355328 := by
    obtain ⟨ao, cap, rfl, hc, hn, _⟩ := h
    exact ⟨ao, cap, rfl, hc, hn⟩
  have H := Lib.hid h
  obtain ⟨n, hn'⟩ : ∃ n, n = vs.length := ⟨_, rfl⟩
  rw [← hn'] at hn hc H ⊢
  have HN := Lib.hid hn'
  have HUP := Lib.hid (@up_right vs)
  obtain ⟨R, hR⟩ : ∃ R, R = rightA vs := ⟨_, rfl⟩
  rw [← hR] at HUP ⊢
  have WN : Hid (∀ (k : Nat) (x : Vr), vs[k]? = some x → isNameB x.n.data.toList = false → R = false) := by
    show ∀ (k : Nat) (x : Vr), vs[k]? = some x → isNameB x.n.data.toList = false → R = false
    intro k x hx hb; rw [hR]; exact wrong_name hx hb
  have WO : Hid (∀ (k : Nat) (x y : Vr), vs[k]? = some y → vs[k + 1]? = some x → Op.bytesLess y.n.data.toList x.n.data.toList = false → R = false) := by
    show ∀ (k : Nat) (x y : Vr), vs[k]? = some y → vs[k + 1]? = some x → Op.bytesLess y.n.data.toList x.n.data.toList = false → R = false
    intro k x y hy hx hb; rw [hR]; exact wrong_order hy hx hb
  have hge : ∀ j, j < n → ∃ x, vs[j]? = some x := fun j hj => ⟨_, List.getElem?_eq_getElem (by rw [← hn']; exact hj)⟩
  have HGE := Lib.hid hge
  have HSZ := Lib.hid hs
  have hB : Hid (Below w.heap.size w w) := Below.refl _ _
  have hU : Hid (UpA vs 0) := fun j x hj => absurd hj (Nat.not_lt_zero _)
  clear h hn' hge hs hR
  go_enter Tryd.func15, Tryd.ntmps15
  go_wp2_with fail
  go_loopw [3] (fun i wr => ∃ k : Nat, i = .int .i64 (k : Int) ∧ k ≤ n ∧ Hid (UpA vs k) ∧ Hid (Below w.heap.size w wr)) (fun i _ => n - (RowKit.intOf i).toNat)
  case atStart => exact ⟨0, rfl, Nat.zero_le _, hU, hB⟩
  case round =>
    obtain ⟨k, rfl, hk, HU, HW⟩ := hrel
    by_cases hlt : k < n
    · obtain ⟨x, hx⟩ := HGE.out k hlt
      have HV := Lib.hid (H.out.below HW.out)
      obtain ⟨b, o, rfl, hb, c0, c1⟩ := HV.out.at hx
      have kN := fun w => refIsNameW_any x.n w (HSZ.out x (List.mem_of_getElem? hx))
      have hltI : (k : Int) < (n : Int) := by omega
      cases hq : isNameB x.n.data.toList
      · have HR : Hid (R = false) := WN.out k x hx hq
        rw [hq] at kN
        clear hq hx
        generalize x.n = xn at *
        generalize x.v = xv at *
        go_wp2_with (go_at_call 28; (with_reducible refine (kN _).mono ?_); rintro e w1 ⟨rfl, rfl⟩)
        go_quiet (fail)
        go_wp2
        go_ret
        exact ⟨by rw [HR.out]; rfl, below_draws HW.out _⟩
      · rw [hq] at kN
        cases k with
        | zero =>
          have HNX : Hid (UpA vs (0 + 1)) := up_next HU.out hx hq (fun y _ h0 => absurd h0 (Nat.lt_irrefl _))
          clear hq hx
          rw [Nat.zero_mul, Nat.add_zero] at c0 c1
          rw [show ((0 : Nat) : Int) = 0 from rfl] at hltI
          rw [show ((0 : Nat) : Int) = 0 from rfl]
          generalize x.n = xn at *
          generalize x.v = xv at *
          go_wp2_with (go_at_call 28; (with_reducible refine (kN _).mono ?_); rintro e w1 ⟨rfl, rfl⟩)
          go_quiet (fail)
          go_wp2
          go_roundw
          case rel => exact ⟨1, by go_num, by omega, HNX, below_draws HW.out _⟩
          case measure => simp [RowKit.intOf]; omega
        | succ k =>
          obtain ⟨y, hy⟩ := HGE.out k (by omega)
          obtain ⟨b', o', eab, hb', d0, d1⟩ := HV.out.at hy
          obtain ⟨rfl, rfl⟩ : b = b' ∧ o = o' := by cases eab; exact ⟨rfl, rfl⟩
          clear eab
          have ek : ((k + 1 : Nat) : Int) = (k : Int) + 1 := by omega
          have hk0 : (0 : Int) < (k : Int) + 1 := by omega
          have hk1 : (k : Int) < (n : Int) := by omega
          rw [ek] at hltI
          rw [ek]
          cases hq2 : Op.bytesLess y.n.data.toList x.n.data.toList
          · have HR : Hid (R = false) := WO.out k x y hy hx hq2
            rw [← ByteArray.toList_eq, ← ByteArray.toList_eq] at hq2
            clear hq hx hy
            generalize x.n = xn at *
            generalize x.v = xv at *
            generalize y.n = yn at *
            generalize y.v = yv at *
            go_wp2_with (go_at_call 28; (with_reducible refine (kN _).mono ?_); rintro e w1 ⟨rfl, rfl⟩)
            go_quiet (fail)
            go_wp2
            go_ret
            exact ⟨by rw [HR.out]; rfl, below_draws HW.out _⟩
          · have HNX : Hid (UpA vs (k + 1 + 1)) := up_next HU.out hx hq (fun z hz _ => by rw [show k + 1 - 1 = k from rfl, hy] at hz; cases hz; exact hq2)
            rw [← ByteArray.toList_eq, ← ByteArray.toList_eq] at hq2
            clear hq hx hy
            generalize x.n = xn at *
            generalize x.v = xv at *
            generalize y.n = yn at *
            generalize y.v = yv at *
            go_wp2_with (go_at_call 28; (with_reducible refine (kN _).mono ?_); rintro e w1 ⟨rfl, rfl⟩)
            go_quiet (fail)
            go_wp2
            go_roundw
            case rel => exact ⟨k + 1 + 1, by go_num, by omega, HNX, below_draws HW.out _⟩
            case measure => simp [RowKit.intOf]; omega
    · have hkn : k = n := by omega
      have HR : Hid (R = true) := HUP.out (by rw [← HN.out, ← hkn]; exact HU.out)
      have hge : ¬ (k : Int) < (n : Int) := by omega
      clear hkn
      go_wp2
      go_ret
      exact ⟨by rw [HR.out]; rfl, HW.out⟩
end Go.Proofs.YtaaecgglocgcmaaDoor
