/- Packed texts: ArRight, ArVarsRef, ArEvMem, ArEvIs, ArEvVal, ArEvInv. What each of them proves stands above its theorems; the conditions stand in these. -/
import Derived.BigQuiet
import Derived.Deep.QuietTactic
import Derived.Test.YtaaecgglocgcmaaDoorD0
import Derived.Test.YtaaecgglocgcmaaDoorD1
namespace Go.Proofs.YtaaecgglocgcmaaDoor
open Go.RowKit Go.Lib

theorem less_cmp : ∀ a b : List UInt8, Op.bytesLess a b = decide (compareBytes a b < 0)
  | [], [] => rfl
  | [], _ :: _ => rfl
  | _ :: _, [] => rfl
  | x :: a, y :: b => by
    have ih := less_cmp a b
    show (decide (x < y) || (x == y && Op.bytesLess a b)) = _
    unfold compareBytes
    rw [ih]
    by_cases h1 : x < y
    · rw [if_pos h1]; simp [h1]
    · rw [if_neg h1]
      by_cases h2 : y < x
      · have hne : x ≠ y := fun e => by subst e; exact h1 h2
        rw [if_pos h2]; simp [h1, hne]
      · have he : x = y := UInt8.toNat_inj.1 (by rw [UInt8.lt_iff_toNat_lt] at h1 h2; omega)
        rw [if_neg h2]; subst he; simp
/-- Is a row right up to a place? -/
def UpA (vs : List Vr) (k : Nat) : Prop := ∀ j x, j < k → vs[j]? = some x → isNameB x.n.data.toList = true ∧ ∀ y, vs[j - 1]? = some y → 0 < j → compareBytes y.n.data.toList x.n.data.toList < 0
theorem rises_at : ∀ (vs : List Vr) (j : Nat) (x y : Vr), risesA vs = true → vs[j]? = some y → vs[j + 1]? = some x → compareBytes y.n.data.toList x.n.data.toList < 0
  | [], j, x, y, _, h, _ => by simp at h
  | [a], j, x, y, _, _, h => by simp at h
  | a :: b :: r, 0, x, y, hr, h1, h2 => by
    simp at h1 h2
    subst h1 h2
    simp only [risesA, Bool.and_eq_true, decide_eq_true_eq] at hr
    exact hr.1
  | a :: b :: r, j + 1, x, y, hr, h1, h2 => rises_at (b :: r) j x y (rises_tail hr) (by simpa using h1) (by simpa using h2)
theorem rises_of : ∀ (vs : List Vr), (∀ j x y, vs[j]? = some y → vs[j + 1]? = some x → compareBytes y.n.data.toList x.n.data.toList < 0) → risesA vs = true
  | [], _ => rfl
  | [a], _ => rfl
  | a :: b :: r, h => by
    simp only [risesA, Bool.and_eq_true, decide_eq_true_eq]
    exact ⟨h 0 b a rfl rfl, rises_of (b :: r) fun j x y h1 h2 => h (j + 1) x y (by simpa using h1) (by simpa using h2)⟩
theorem up_right {vs : List Vr} (h : UpA vs vs.length) : rightA vs = true := by
  have hlt : ∀ {j : Nat} {x : Vr}, vs[j]? = some x → j < vs.length := fun {j x} hj => by
    by_cases e : j < vs.length
    · exact e
    · rw [List.getElem?_eq_none (by omega)] at hj; cases hj
  unfold rightA
  rw [Bool.and_eq_true]
  constructor
  · rw [List.all_eq_true]
    intro x hx
    obtain ⟨j, hj⟩ := List.mem_iff_getElem?.1 hx
    exact (h j x (hlt hj) hj).1
  · exact rises_of vs fun j x y h1 h2 => (h (j + 1) x (hlt h2) h2).2 y (by simpa using h1) (Nat.succ_pos _)
theorem right_name {vs : List Vr} (h : rightA vs = true) : (∀ x ∈ vs, isNameB x.n.data.toList = true) ∧ risesA vs = true := by
  unfold rightA at h
  rw [Bool.and_eq_true, List.all_eq_true] at h
  exact h
theorem wrong_name {vs : List Vr} {k : Nat} {x : Vr} (hx : vs[k]? = some x) (h : isNameB x.n.data.toList = false) : rightA vs = false := by
  cases e : rightA vs with
  | false => rfl
  | true => have := (right_name e).1 x (List.mem_of_getElem? hx); rw [h] at this; cases this
theorem wrong_order {vs : List Vr} {k : Nat} {x y : Vr} (hy : vs[k]? = some y) (hx : vs[k + 1]? = some x) (h : Op.bytesLess y.n.data.toList x.n.data.toList = false) : rightA vs = false := by
  cases e : rightA vs with
  | false => rfl
  | true =>
    have := rises_at vs k x y (right_name e).2 hy hx
    rw [less_cmp, decide_eq_false_iff_not] at h
    exact absurd this h
theorem up_next {vs : List Vr} {k : Nat} {x : Vr} (h : UpA vs k) (hx : vs[k]? = some x) (hn : isNameB x.n.data.toList = true) (hy : ∀ y, vs[k - 1]? = some y → 0 < k → Op.bytesLess y.n.data.toList x.n.data.toList = true) : UpA vs (k + 1) := by
  intro j z hj hz
  by_cases e : j = k
  · subst e
    rw [hx] at hz
    cases hz
    refine ⟨hn, fun y h1 h2 => ?_⟩
    have := hy y h1 h2
    rw [less_cmp, decide_eq_true_eq] at this
    exact this
  · exact h j z (by omega) hz
set_option maxHeartbeats 2000000 in
set_option maxRecDepth 20000 in
theorem refRightA_any (v : Value) (vs : List Vr) (w : World) (h : Vars w.heap.size v vs w) (hs : ∀ x ∈ vs, x.n.size ≤ 70000000000000) :
    Calls Tryd.prog 15 #[v] w fun e w' => e = .returned (.bool (rightA vs)) ∧ Below w.heap.size w w' := by
  obtain ⟨ao, cap, rfl, hc, hn⟩ : ∃ ao cap, v = .slice ao vs.length cap ∧ vs.length ≤ cap ∧ vs.length ≤ 140737488355328 := by
    obtain ⟨ao, cap, rfl, hc, hn, _⟩ := h
    exact ⟨ao, cap, rfl, hc, hn⟩
  have H := Lib.hid h
  obtain ⟨n, hn'⟩ : ∃ n, n = vs.length := ⟨_, rfl⟩
  rw [← hn'] at hn hc H ⊢
  have HN := Lib.hid hn'
  have HUP := Lib.hid (@up_right vs)
  obtain ⟨R, hR⟩ : ∃ R, R = rightA vs := ⟨_, rfl⟩
  rw [← hR] at HUP ⊢
  have WN : Hid (∀ (k : Nat) (x : Vr), vs[k]? = some x → isNameB x.n.data.toList = false → R = false) := by
    show ∀ (k : Nat) (x : Vr), vs[k]? = some x → isNameB x.n.data.toList = false → R = false
    intro k x hx hb; rw [hR]; exact wrong_name hx hb
  have WO : Hid (∀ (k : Nat) (x y : Vr), vs[k]? = some y → vs[k + 1]? = some x → Op.bytesLess y.n.data.toList x.n.data.toList = false → R = false) := by
    show ∀ (k : Nat) (x y : Vr), vs[k]? = some y → vs[k + 1]? = some x → Op.bytesLess y.n.data.toList x.n.data.toList = false → R = false
    intro k x y hy hx hb; rw [hR]; exact wrong_order hy hx hb
  have hge : ∀ j, j < n → ∃ x, vs[j]? = some x := fun j hj => ⟨_, List.getElem?_eq_getElem (by rw [← hn']; exact hj)⟩
  have HGE := Lib.hid hge
  have HSZ := Lib.hid hs
  have hB : Hid (Below w.heap.size w w) := Below.refl _ _
  have hU : Hid (UpA vs 0) := fun j x hj => absurd hj (Nat.not_lt_zero _)
  clear h hn' hge hs hR
  go_enter Tryd.func15, Tryd.ntmps15
  go_wp2_with fail
  go_loopw [3] (fun i wr => ∃ k : Nat, i = .int .i64 (k : Int) ∧ k ≤ n ∧ Hid (UpA vs k) ∧ Hid (Below w.heap.size w wr)) (fun i _ => n - (RowKit.intOf i).toNat)
  case atStart => exact ⟨0, rfl, Nat.zero_le _, hU, hB⟩
  case round =>
    obtain ⟨k, rfl, hk, HU, HW⟩ := hrel
    by_cases hlt : k < n
    · obtain ⟨x, hx⟩ := HGE.out k hlt
      have HV := Lib.hid (H.out.below HW.out)
      obtain ⟨b, o, rfl, hb, c0, c1⟩ := HV.out.at hx
      have kN := fun w => refIsName_any x.n w (HSZ.out x (List.mem_of_getElem? hx))
      have hltI : (k : Int) < (n : Int) := by omega
      cases hq : isNameB x.n.data.toList
      · have HR : Hid (R = false) := WN.out k x hx hq
        rw [hq] at kN
        clear hq hx
        generalize x.n = xn at *
        generalize x.v = xv at *
        go_wp2_with (go_at_call 28; (with_reducible refine (kN _).mono ?_); rintro e w1 ⟨rfl, rfl⟩)
        go_quiet (fail)
        go_wp2
        go_ret
        exact ⟨by rw [HR.out]; rfl, below_draws HW.out _⟩
      · rw [hq] at kN
        cases k with
        | zero =>
          have HNX : Hid (UpA vs (0 + 1)) := up_next HU.out hx hq (fun y _ h0 => absurd h0 (Nat.lt_irrefl _))
          clear hq hx
          rw [Nat.zero_mul, Nat.add_zero] at c0 c1
          rw [show ((0 : Nat) : Int) = 0 from rfl] at hltI
          rw [show ((0 : Nat) : Int) = 0 from rfl]
          generalize x.n = xn at *
          generalize x.v = xv at *
          go_wp2_with (go_at_call 28; (with_reducible refine (kN _).mono ?_); rintro e w1 ⟨rfl, rfl⟩)
          go_quiet (fail)
          go_wp2
          go_roundw
          case rel => exact ⟨1, by go_num, by omega, HNX, below_draws HW.out _⟩
          case measure => simp [RowKit.intOf]; omega
        | succ k =>
          obtain ⟨y, hy⟩ := HGE.out k (by omega)
          obtain ⟨b', o', eab, hb', d0, d1⟩ := HV.out.at hy
          obtain ⟨rfl, rfl⟩ : b = b' ∧ o = o' := by cases eab; exact ⟨rfl, rfl⟩
          clear eab
          have ek : ((k + 1 : Nat) : Int) = (k : Int) + 1 := by omega
          have hk0 : (0 : Int) < (k : Int) + 1 := by omega
          have hk1 : (k : Int) < (n : Int) := by omega
          rw [ek] at hltI
          rw [ek]
          cases hq2 : Op.bytesLess y.n.data.toList x.n.data.toList
          · have HR : Hid (R = false) := WO.out k x y hy hx hq2
            rw [← ByteArray.toList_eq, ← ByteArray.toList_eq] at hq2
            clear hq hx hy
            generalize x.n = xn at *
            generalize x.v = xv at *
            generalize y.n = yn at *
            generalize y.v = yv at *
            go_wp2_with (go_at_call 28; (with_reducible refine (kN _).mono ?_); rintro e w1 ⟨rfl, rfl⟩)
            go_quiet (fail)
            go_wp2
            go_ret
            exact ⟨by rw [HR.out]; rfl, below_draws HW.out _⟩
          · have HNX : Hid (UpA vs (k + 1 + 1)) := up_next HU.out hx hq (fun z hz _ => by rw [show k + 1 - 1 = k from rfl, hy] at hz; cases hz; exact hq2)
            rw [← ByteArray.toList_eq, ← ByteArray.toList_eq] at hq2
            clear hq hx hy
            generalize x.n = xn at *
            generalize x.v = xv at *
            generalize y.n = yn at *
            generalize y.v = yv at *
            go_wp2_with (go_at_call 28; (with_reducible refine (kN _).mono ?_); rintro e w1 ⟨rfl, rfl⟩)
            go_quiet (fail)
            go_wp2
            go_roundw
            case rel => exact ⟨k + 1 + 1, by go_num, by omega, HNX, below_draws HW.out _⟩
            case measure => simp [RowKit.intOf]; omega
    · have hkn : k = n := by omega
      have HR : Hid (R = true) := HUP.out (by rw [← HN.out, ← hkn]; exact HU.out)
      have hge : ¬ (k : Int) < (n : Int) := by omega
      clear hkn
      go_wp2
      go_ret
      exact ⟨by rw [HR.out]; rfl, HW.out⟩
end Go.Proofs.YtaaecgglocgcmaaDoor
namespace Go.Proofs.YtaaecgglocgcmaaDoor
open Go.RowKit Go.Lib

theorem find_step {vs : List Vr} {s : List UInt8} {k : Nat} {x : Vr} (hx : vs[k]? = some x) : findA (vs.drop k) s = if x.n.data.toList = s then some x.v else findA (vs.drop (k + 1)) s := by
  have hk : k < vs.length := by
    by_cases e : k < vs.length
    · exact e
    · rw [List.getElem?_eq_none (by omega)] at hx; cases hx
  have e : vs.drop k = x :: vs.drop (k + 1) := by
    rw [List.drop_eq_getElem_cons hk]
    rw [List.getElem?_eq_getElem hk] at hx
    injection hx with hx
    rw [hx]
  rw [e]
  rfl
set_option maxHeartbeats 1000000 in
set_option maxRecDepth 20000 in
theorem refFindA_any (v : Value) (vs : List Vr) (s : ByteArray) (w : World) (h : Vars w.heap.size v vs w) :
    Calls Tryd.prog 18 #[v, .string s] w fun e w' => e = foundE (findA vs s.data.toList) ∧ w = w' := by
  obtain ⟨ao, cap, rfl, hc, hn⟩ : ∃ ao cap, v = .slice ao vs.length cap ∧ vs.length ≤ cap ∧ vs.length ≤ 140737488355328 := by
    obtain ⟨ao, cap, rfl, hc, hn, _⟩ := h
    exact ⟨ao, cap, rfl, hc, hn⟩
  have H := Lib.hid h
  obtain ⟨n, hn'⟩ : ∃ n, n = vs.length := ⟨_, rfl⟩
  rw [← hn'] at hn hc H ⊢
  have HN := Lib.hid hn'
  have hge : ∀ j, j < n → ∃ x, vs[j]? = some x := fun j hj => ⟨_, List.getElem?_eq_getElem (by rw [← hn']; exact hj)⟩
  have HGE := Lib.hid hge
  have HST : Hid (findA vs s.data.toList = findA (vs.drop 0) s.data.toList) := rfl
  obtain ⟨F, hF⟩ : ∃ F, F = findA vs s.data.toList := ⟨_, rfl⟩
  rw [← hF] at HST ⊢
  clear h hn' hge hF
  go_enter Tryd.func18, Tryd.ntmps18
  go_wp2
  go_loop [6] (fun i => ∃ k : Nat, k ≤ n ∧ i = .int .i64 k ∧ Hid (F = findA (vs.drop k) s.data.toList)) (fun i => n - (RowKit.intOf i).toNat)
  case atStart => exact ⟨0, Nat.zero_le _, rfl, HST⟩
  case round =>
    obtain ⟨k, hk, rfl, HK⟩ := hrel
    by_cases hlt : k < n
    · obtain ⟨x, hx⟩ := HGE.out k hlt
      obtain ⟨b, o, rfl, hb, c0, c1⟩ := H.out.at hx
      have hltI : (k : Int) < (n : Int) := by omega
      have hst := HK.out
      rw [find_step hx] at hst
      by_cases he : x.n.toList = s.toList
      · rw [if_pos (by rw [← ByteArray.toList_eq, ← ByteArray.toList_eq]; exact he)] at hst
        have HF : Hid (F = some x.v) := hst
        have he2 : (x.n.toList == s.toList) = true := by simp [he]
        clear hst hx
        generalize x.n = xn at *
        generalize x.v = xv at *
        go_wp2
        go_ret2
        exact ⟨by rw [HF.out]; rfl, rfl⟩
      · rw [if_neg (by rw [← ByteArray.toList_eq, ← ByteArray.toList_eq]; exact he)] at hst
        have HS : Hid (F = findA (vs.drop (k + 1)) s.data.toList) := hst
        have he2 : (x.n.toList == s.toList) = false := by simp [he]
        clear hst hx
        generalize x.n = xn at *
        generalize x.v = xv at *
        go_wp2
        go_round
        case rel => exact ⟨k + 1, by omega, by go_num, HS⟩
        case measure => simp [RowKit.intOf]; omega
    · have hkn : k = n := by omega
      have hst := HK.out
      rw [List.drop_eq_nil_of_le (by rw [hkn, HN.out]; exact Nat.le_refl _)] at hst
      have HS : Hid (F = none) := hst
      have hge : ¬ (k : Int) < (n : Int) := by omega
      clear hst hkn
      go_wp2
      go_ret2
      exact ⟨by rw [HS.out]; rfl, rfl⟩
end Go.Proofs.YtaaecgglocgcmaaDoor
namespace Go.Proofs.YtaaecgglocgcmaaDoor
open Go.RowKit Go.Lib

/-- The document's reckoner lies in a block: its text, the place in it, how deep, the variables, what is wrong with the text, what is come to. -/
def RE (p : Nat) (S : ByteArray) (a : Nat) (d : Int) (vv : Value) (bad wr : Int) (w : World) : Prop := w.heap[p]? = some (.cells #[.string S, .int .i64 (a : Int), .int .i64 d, vv, .int .i64 bad, .int .i64 wr] 52 (0, 0))
theorem RE.cells {p : Nat} {S : ByteArray} {a : Nat} {d : Int} {vv : Value} {bad wr : Int} {w : World} (h : RE p S a d vv bad wr w) :
    (w.cell? ⟨p, 0, none⟩ = some (.string S) ∧ w.cell? ⟨p, 1, none⟩ = some (.int .i64 (a : Int)) ∧ w.cell? ⟨p, 2, none⟩ = some (.int .i64 d) ∧ w.cell? ⟨p, 3, none⟩ = some vv ∧ w.cell? ⟨p, 4, none⟩ = some (.int .i64 bad) ∧ w.cell? ⟨p, 5, none⟩ = some (.int .i64 wr)) ∧ (w.frozen? ⟨p, 1, none⟩ = false ∧ w.frozen? ⟨p, 2, none⟩ = false ∧ w.frozen? ⟨p, 4, none⟩ = false ∧ w.frozen? ⟨p, 5, none⟩ = false) := by
  unfold RE at h
  refine ⟨⟨by rw [cell_of_heap h]; rfl, by rw [cell_of_heap h]; rfl, by rw [cell_of_heap h]; rfl, by rw [cell_of_heap h]; rfl, by rw [cell_of_heap h]; rfl, by rw [cell_of_heap h]; rfl⟩, frozen_of_heap h _, frozen_of_heap h _, frozen_of_heap h _, frozen_of_heap h _⟩
theorem RE.lt {p : Nat} {S : ByteArray} {a : Nat} {d : Int} {vv : Value} {bad wr : Int} {w : World} (h : RE p S a d vv bad wr w) : p < w.heap.size := block_ltA h
theorem RE.below {p : Nat} {S : ByteArray} {a : Nat} {d : Int} {vv : Value} {bad wr : Int} {w w' : World} (h : RE p S a d vv bad wr w) (hb : Below w.heap.size w w') : RE p S a d vv bad wr w' := (hb.block p h.lt).trans h
theorem RE.draws {p : Nat} {S : ByteArray} {a : Nat} {d : Int} {vv : Value} {bad wr : Int} {w : World} (h : RE p S a d vv bad wr w) (n : Nat) : RE p S a d vv bad wr (w.drewN n) := h
theorem RE.at {p : Nat} {S : ByteArray} {a : Nat} {d : Int} {vv : Value} {bad wr : Int} {w : World} (h : RE p S a d vv bad wr w) (x : Nat) : RE p S x d vv bad wr (w.setCell ⟨p, 1, none⟩ (.int .i64 (x : Int))) := by
  have h := heap_setCell_same w p 1 _ _ (.int .i64 (x : Int)) h
  simpa [RE] using h
theorem RE.deep {p : Nat} {S : ByteArray} {a : Nat} {d : Int} {vv : Value} {bad wr : Int} {w : World} (h : RE p S a d vv bad wr w) (x : Int) : RE p S a x vv bad wr (w.setCell ⟨p, 2, none⟩ (.int .i64 x)) := by
  have h := heap_setCell_same w p 2 _ _ (.int .i64 x) h
  simpa [RE] using h
theorem RE.bad {p : Nat} {S : ByteArray} {a : Nat} {d : Int} {vv : Value} {bad wr : Int} {w : World} (h : RE p S a d vv bad wr w) (x : Int) : RE p S a d vv x wr (w.setCell ⟨p, 4, none⟩ (.int .i64 x)) := by
  have h := heap_setCell_same w p 4 _ _ (.int .i64 x) h
  simpa [RE] using h
theorem RE.wrong {p : Nat} {S : ByteArray} {a : Nat} {d : Int} {vv : Value} {bad wr : Int} {w : World} (h : RE p S a d vv bad wr w) (x : Int) : RE p S a d vv bad x (w.setCell ⟨p, 5, none⟩ (.int .i64 x)) := by
  have h := heap_setCell_same w p 5 _ _ (.int .i64 x) h
  simpa [RE] using h
theorem below_put {p i : Nat} (w : World) (u : Value) : Below p w (w.setCell ⟨p, i, none⟩ u) := (Below.refl p w).setCell (p := ⟨p, i, none⟩) (Nat.le_refl _) _

theorem oneE_any (q : Bool) (w : World) : Calls Tryd.prog 34 #[.bool q] w fun e w' => e = .returned (.int .i64 (tellA q)) ∧ w = w' := by
  cases q
  all_goals
    go_enter Tryd.func34, Tryd.ntmps34
    go_wp2
    go_ret
    exact ⟨rfl, rfl⟩
theorem failsE_any (p : Nat) (S : ByteArray) (a : Nat) (d : Int) (vv : Value) (bad wr x : Int) (w : World) (h : RE p S a d vv bad wr w) :
    Calls Tryd.prog 27 #[.pointer (some ⟨p, 0, none⟩), .int .i64 x] w fun e w' => e = .returned (.tuple #[]) ∧ RE p S a d vv (if bad = 0 then x else bad) wr w' ∧ Below p w w' := by
  obtain ⟨⟨c0, c1, c2, c3, c4, c5⟩, f1, f2, f4, f5⟩ := h.cells
  have H := Lib.hid h
  clear h
  by_cases hb : bad = 0
  · subst hb
    go_enter Tryd.func27, Tryd.ntmps27
    go_wp2
    go_end0
    exact ⟨rfl, H.out.bad x, below_put _ _⟩
  · have hb2 : (bad == 0) = false := by rw [beq_eq_false_iff_ne]; exact hb
    rw [if_neg hb]
    go_enter Tryd.func27, Tryd.ntmps27
    go_wp2
    go_end0
    exact ⟨rfl, H.out, Below.refl _ _⟩
theorem comesE_any (p : Nat) (S : ByteArray) (a : Nat) (d : Int) (vv : Value) (bad wr x : Int) (live : Bool) (w : World) (h : RE p S a d vv bad wr w) :
    Calls Tryd.prog 78 #[.pointer (some ⟨p, 0, none⟩), .int .i64 x, .bool live] w fun e w' => e = .returned (.tuple #[]) ∧ RE p S a d vv bad (if live = true ∧ wr = 0 then x else wr) w' ∧ Below p w w' := by
  obtain ⟨⟨c0, c1, c2, c3, c4, c5⟩, f1, f2, f4, f5⟩ := h.cells
  have H := Lib.hid h
  clear h
  cases live
  · rw [if_neg (by simp)]
    go_enter Tryd.func78, Tryd.ntmps78
    go_wp2_with fail
    go_end0
    exact ⟨rfl, H.out, Below.refl _ _⟩
  · by_cases hb : wr = 0
    · subst hb
      rw [if_pos ⟨rfl, rfl⟩]
      go_enter Tryd.func78, Tryd.ntmps78
      go_wp2_with fail
      go_end0
      exact ⟨rfl, H.out.wrong x, below_put _ _⟩
    · have hb2 : (wr == 0) = false := by rw [beq_eq_false_iff_ne]; exact hb
      rw [if_neg (fun e => hb e.2)]
      go_enter Tryd.func78, Tryd.ntmps78
      go_wp2_with fail
      go_end0
      exact ⟨rfl, H.out, Below.refl _ _⟩
theorem deeperE_no (p : Nat) (S : ByteArray) (a : Nat) (vv : Value) (wr : Int) (w : World) (h : RE p S a 30 vv 0 wr w) :
    Calls Tryd.prog 82 #[.pointer (some ⟨p, 0, none⟩)] w fun e w' => e = .returned (.bool false) ∧ RE p S a 30 vv 7 wr w' ∧ Below p w w' := by
  obtain ⟨⟨c0, c1, c2, c3, c4, c5⟩, f1, f2, f4, f5⟩ := h.cells
  have kf := fun x => failsE_any p S a 30 vv 0 wr x w h
  clear h
  go_enter Tryd.func82, Tryd.ntmps82
  go_wp2_with (go_at_call 27; (with_reducible refine (kf _).mono ?_); rintro e w1 ⟨rfl, h1, hb1⟩; have H1 := Lib.hid h1; have HB1 := Lib.hid hb1; clear h1 hb1)
  go_ret
  exact ⟨rfl, H1.out, HB1.out⟩
theorem deeperE_ok (p : Nat) (S : ByteArray) (a : Nat) (d : Nat) (vv : Value) (wr : Int) (w : World) (h : RE p S a d vv 0 wr w) (hd : d < 30) :
    Calls Tryd.prog 82 #[.pointer (some ⟨p, 0, none⟩)] w fun e w' => e = .returned (.bool true) ∧ RE p S a ((d + 1 : Nat) : Int) vv 0 wr w' ∧ Below p w w' := by
  obtain ⟨⟨c0, c1, c2, c3, c4, c5⟩, f1, f2, f4, f5⟩ := h.cells
  have H := Lib.hid (h.deep ((d : Int) + 1))
  have hd1 : ((d : Int) == 30) = false := by rw [beq_eq_false_iff_ne]; omega
  have hd2 : IntKind.i64.wrap ((d : Int) + 1) = (d : Int) + 1 := IntWalk.i64_in _ (by omega)
  clear h
  go_enter Tryd.func82, Tryd.ntmps82
  go_wp2
  go_ret
  rw [show ((d + 1 : Nat) : Int) = (d : Int) + 1 by omega]
  exact ⟨rfl, H.out, below_put _ _⟩
end Go.Proofs.YtaaecgglocgcmaaDoor
namespace Go.Proofs.YtaaecgglocgcmaaDoor
open Go.RowKit Go.Lib

theorem drop_at (S : ByteArray) (a : Nat) (h : a < S.size) : S.data.toList.drop a = S[a] :: S.data.toList.drop (a + 1) := by
  have h2 : a < S.data.toList.length := by rw [Array.length_toList]; exact h
  rw [List.drop_eq_getElem_cons h2]
  rfl
theorem drop_end (S : ByteArray) (a : Nat) (h : S.size ≤ a) : S.data.toList.drop a = [] := List.drop_eq_nil_of_le (by rw [Array.length_toList]; exact h)
theorem skip_blank {c : UInt8} {l : List UInt8} (h : blankA c = true) : skipA (c :: l) = skipA l := by unfold skipA; rw [List.dropWhile_cons_of_pos h]
theorem skip_not {c : UInt8} {l : List UInt8} (h : blankA c = false) : skipA (c :: l) = c :: l := by unfold skipA; rw [List.dropWhile_cons_of_neg (by simp [h])]
theorem RE.next {p : Nat} {S : ByteArray} {a : Nat} {d : Int} {vv : Value} {bad wv : Int} {w : World} (h : RE p S a d vv bad wv w) (n : Nat) : RE p S (a + n) d vv bad wv (w.setCell ⟨p, 1, none⟩ (.int .i64 ((a : Int) + (n : Int)))) := by
  have h := h.at (a + n)
  rw [show ((a + n : Nat) : Int) = (a : Int) + (n : Int) by omega] at h
  exact h
theorem blank_cases {c : UInt8} (h : blankA c = true) : c = 32 ∨ c = 9 ∨ c = 10 := by
  unfold blankA at h
  simp only [Bool.or_eq_true, beq_iff_eq] at h
  rcases h with (h | h) | h
  · exact .inl h
  · exact .inr (.inl h)
  · exact .inr (.inr h)
theorem blank_none {c : UInt8} (h : blankA c = false) : ((c.toNat : Int) == 32) = false ∧ ((c.toNat : Int) == 9) = false ∧ ((c.toNat : Int) == 10) = false := by
  have e : ∀ n : UInt8, c ≠ n → ((c.toNat : Int) == (n.toNat : Int)) = false := fun n hn => by
    rw [beq_eq_false_iff_ne]
    intro e
    exact hn (UInt8.toNat_inj.1 (by omega))
  unfold blankA at h
  simp only [Bool.or_eq_false_iff, beq_eq_false_iff_ne] at h
  exact ⟨e 32 h.1.1, e 9 h.1.2, e 10 h.2⟩
set_option maxHeartbeats 4000000 in
set_option maxRecDepth 20000 in
theorem blanksE_any (p : Nat) (S : ByteArray) (a : Nat) (d : Int) (vv : Value) (bad wv : Int) (w : World) (h : RE p S a d vv bad wv w) (ha : a ≤ S.size) (hS : S.size ≤ 1000) :
    Calls Tryd.prog 26 #[.pointer (some ⟨p, 0, none⟩)] w fun e w' => e = .returned (.tuple #[]) ∧ (∃ a', RE p S a' d vv bad wv w' ∧ a' ≤ S.size ∧ S.data.toList.drop a' = skipA (S.data.toList.drop a)) ∧ Below p w w' := by
  have H := Lib.hid h
  have hSB : Hid (Below p w w) := Below.refl _ _
  obtain ⟨X, hX⟩ : ∃ X, X = skipA (S.data.toList.drop a) := ⟨_, rfl⟩
  have HX := Lib.hid hX
  rw [← hX]
  clear h hX
  go_enter Tryd.func26, Tryd.ntmps26
  go_wp2_with fail
  go_loopg [] (S.size + 1 - a) (fun q wr => ∃ k : Nat, Hid (RE p S k d vv bad wv wr) ∧ k ≤ S.size ∧ Hid (q = S.size + 1 - k) ∧ Hid (X = skipA (S.data.toList.drop k)) ∧ Hid (Below p w wr))
  case atStart => exact ⟨a, H, ha, rfl, HX, hSB⟩
  case round =>
    obtain ⟨k, HR, hk, HQ, HK, HB⟩ := hrel
    obtain ⟨⟨c0, c1, c2, c3, c4, c5⟩, f1, f2, f4, f5⟩ := HR.out.cells
    by_cases hlt : k < S.size
    · have hltI : (k : Int) < (S.size : Int) := by omega
      obtain ⟨c, hc⟩ : ∃ c, S[k] = c := ⟨_, rfl⟩
      have hdr := drop_at S k hlt
      rw [hc] at hdr
      have hwk : IntKind.i64.wrap ((k : Int) + 1) = (k : Int) + 1 := IntWalk.i64_in _ (by omega)
      cases hb : blankA c
      · obtain ⟨b1, b2, b3⟩ := blank_none hb
        have HF : Hid (S.data.toList.drop k = X) := by show _ = _; rw [HK.out, hdr, skip_not hb]
        clear hb hdr
        go_wp2_with fail
        go_quiet (fail)
        go_wp2
        go_end0
        exact ⟨rfl, ⟨k, HR.out.draws _, hk, HF.out⟩, below_draws HB.out _⟩
      · have HF : Hid (X = skipA (S.data.toList.drop (k + 1))) := by show _ = _; rw [HK.out, hdr, skip_blank hb]
        rcases blank_cases hb with rfl | rfl | rfl
        all_goals
          clear hb hdr
          go_wp2_with fail
          go_quiet (fail)
          go_wp2
          go_roundg (S.size - k)
          case rel => exact ⟨k + 1, (HR.out.draws _).next 1, by omega, by show _ = _; omega, HF, (below_draws HB.out _).trans (below_put _ _)⟩
          case measure => have := HQ.out; omega
    · have HF : Hid (S.data.toList.drop k = X) := by show _ = _; rw [HK.out, drop_end S k (by omega)]; rfl
      have hge : ¬ (k : Int) < (S.size : Int) := by omega
      go_wp2_with fail
      go_quiet (fail)
      go_wp2
      go_end0
      exact ⟨rfl, ⟨k, HR.out.draws _, hk, HF.out⟩, below_draws HB.out _⟩
theorem extract_list (S : ByteArray) (a n : Nat) : (S.extract a (a + n)).data.toList = (S.data.toList.drop a).take n := by
  rw [ByteArray.data_extract]
  simp
theorem prefix_at (S M : ByteArray) (a : Nat) : M.data.toList.isPrefixOf (S.data.toList.drop a) = decide ((S.extract a (a + M.size)).toList = M.toList) := by
  rw [Bool.eq_iff_iff, List.isPrefixOf_iff_prefix, List.prefix_iff_eq_take, decide_eq_true_iff, ByteArray.toList_eq, ByteArray.toList_eq, extract_list]
  have e : M.data.toList.length = M.size := Array.length_toList
  rw [e]
  exact ⟨fun h => h.symm, fun h => h.symm⟩
theorem prefix_short (S M : ByteArray) (a : Nat) (h : S.size < a + M.size) (ha : a ≤ S.size) : M.data.toList.isPrefixOf (S.data.toList.drop a) = false := by
  rw [Bool.eq_false_iff]
  intro hp
  rw [List.isPrefixOf_iff_prefix] at hp
  have h1 := hp.length_le
  have e : M.data.toList.length = M.size := Array.length_toList
  have e2 : S.data.toList.length = S.size := Array.length_toList
  rw [List.length_drop, e, e2] at h1
  omega
set_option maxHeartbeats 4000000 in
set_option maxRecDepth 20000 in
theorem isE_dead (p : Nat) (S M : ByteArray) (a : Nat) (d : Int) (vv : Value) (bad wv : Int) (w : World) (h : RE p S a d vv bad wv w) (ha : a ≤ S.size) (hS : S.size ≤ 1000) (hb : bad ≠ 0) :
    Calls Tryd.prog 33 #[.pointer (some ⟨p, 0, none⟩), .string M] w fun e w' => e = .returned (.bool false) ∧ (∃ a', RE p S a' d vv bad wv w' ∧ a' ≤ S.size) ∧ Below p w w' := by
  have kb := blanksE_any p S a d vv bad wv w h ha hS
  have hb2 : (bad == 0) = false := by rw [beq_eq_false_iff_ne]; exact hb
  have hb3 : (bad != 0) = true := by simp [hb]
  clear h
  go_enter Tryd.func33, Tryd.ntmps33
  go_wp2_with (go_at_call 26; (with_reducible refine kb.mono ?_); rintro e w1 ⟨rfl, ⟨a1, h1, ha1, hd1⟩, hb1⟩; have H1 := Lib.hid h1; have HB1 := Lib.hid hb1; obtain ⟨⟨c0, c1, c2, c3, c4, c5⟩, f1, f2, f4, f5⟩ := h1.cells; clear h1 hb1 hd1)
  go_quiet (fail)
  go_wp2
  go_ret
  exact ⟨rfl, ⟨a1, H1.out.draws _, ha1⟩, below_draws HB1.out _⟩
/-- Does a mark stand here, and what stands behind it? -/
def hasM (M X : List UInt8) : Bool := M.isPrefixOf X
def goneM (M X : List UInt8) : List UInt8 := if M.isPrefixOf X = true then X.drop M.length else X
theorem goneM_yes {M X : List UInt8} (h : M.isPrefixOf X = true) : goneM M X = X.drop M.length := by unfold goneM; rw [if_pos h]
theorem goneM_no {M X : List UInt8} (h : M.isPrefixOf X = false) : goneM M X = X := by unfold goneM; rw [if_neg (by simp [h])]
set_option maxHeartbeats 4000000 in
set_option maxRecDepth 20000 in
theorem isE_any (p : Nat) (S M : ByteArray) (a : Nat) (d : Int) (vv : Value) (wv : Int) (w : World) (h : RE p S a d vv 0 wv w) (ha : a ≤ S.size) (hS : S.size ≤ 1000) (hM : M.size ≤ 2) :
    Calls Tryd.prog 33 #[.pointer (some ⟨p, 0, none⟩), .string M] w fun e w' => e = .returned (.bool (hasM M.data.toList (skipA (S.data.toList.drop a)))) ∧ (∃ a', RE p S a' d vv 0 wv w' ∧ a' ≤ S.size ∧ S.data.toList.drop a' = goneM M.data.toList (skipA (S.data.toList.drop a))) ∧ Below p w w' := by
  have kb := blanksE_any p S a d vv 0 wv w h ha hS
  obtain ⟨X, hX⟩ : ∃ X, X = skipA (S.data.toList.drop a) := ⟨_, rfl⟩
  rw [← hX] at kb ⊢
  clear h hX
  go_enter Tryd.func33, Tryd.ntmps33
  go_wp2_with (go_at_call 26; (with_reducible refine kb.mono ?_); rintro e w1 ⟨rfl, ⟨a1, h1, ha1, hd1⟩, hb1⟩; have H1 := Lib.hid h1; have HB1 := Lib.hid hb1; obtain ⟨⟨c0, c1, c2, c3, c4, c5⟩, f1, f2, f4, f5⟩ := h1.cells; have HD := Lib.hid hd1; clear h1 hb1 hd1 kb)
  by_cases hsh : S.size < a1 + M.size
  · have hq0 := prefix_short S M a1 hsh ha1
    rw [HD.out] at hq0
    have hq := Lib.hid hq0
    clear hq0
    have hshI : (S.size : Int) - (a1 : Int) < (M.size : Int) := by omega
    have hshd : decide ((S.size : Int) - (a1 : Int) < (M.size : Int)) = true := decide_eq_true hshI
    have hwr : IntKind.i64.wrap ((S.size : Int) - (a1 : Int)) = (S.size : Int) - (a1 : Int) := IntWalk.i64_in _ (by omega)
    go_quiet (fail)
    go_wp2
    go_ret
    refine ⟨by rw [show hasM M.data.toList X = false from hq.out]; rfl, ⟨a1, H1.out.draws _, ha1, ?_⟩, below_draws HB1.out _⟩
    rw [goneM_no hq.out]; exact HD.out
  · have hshI : ¬ (S.size : Int) - (a1 : Int) < (M.size : Int) := by omega
    have hshd : decide ((S.size : Int) - (a1 : Int) < (M.size : Int)) = false := decide_eq_false hshI
    have hwr : IntKind.i64.wrap ((S.size : Int) - (a1 : Int)) = (S.size : Int) - (a1 : Int) := IntWalk.i64_in _ (by omega)
    have hwr2 : IntKind.i64.wrap ((a1 : Int) + (M.size : Int)) = (a1 : Int) + (M.size : Int) := IntWalk.i64_in _ (by omega)
    have hP := prefix_at S M a1
    rw [HD.out] at hP
    have hex : ((a1 : Int) + (M.size : Int)).toNat = a1 + M.size := by omega
    by_cases hx : (S.extract a1 (a1 + M.size)).toList = M.toList
    · rw [decide_eq_true hx] at hP
      have hx2 : ((S.extract a1 (a1 + M.size)).toList == M.toList) = true := by simp [hx]
      have HP := Lib.hid hP
      clear hP
      go_quiet (fail)
      go_wp2
      go_ret
      refine ⟨by rw [show hasM M.data.toList X = true from HP.out]; rfl, ⟨a1 + M.size, (H1.out.draws _).next _, by omega, ?_⟩, (below_draws HB1.out _).trans (below_put _ _)⟩
      rw [goneM_yes HP.out, ← HD.out, List.drop_drop]
      rfl
    · rw [decide_eq_false hx] at hP
      have hx2 : ((S.extract a1 (a1 + M.size)).toList == M.toList) = false := by simp [hx]
      have HP := Lib.hid hP
      clear hP
      go_quiet (fail)
      go_wp2
      go_ret
      refine ⟨by rw [show hasM M.data.toList X = false from HP.out]; rfl, ⟨a1, H1.out.draws _, ha1, ?_⟩, below_draws HB1.out _⟩
      rw [goneM_no HP.out]; exact HD.out
end Go.Proofs.YtaaecgglocgcmaaDoor
namespace Go.Proofs.YtaaecgglocgcmaaDoor
open Go.RowKit Go.Lib

/-- The reckoner stands at a rest of its text, nothing being wrong with it; its variables lie below it. -/
def RL (p : Nat) (S : ByteArray) (vv : Value) (vs : List Vr) (l : List UInt8) (d : Int) (wv : Int) (w : World) : Prop := ∃ a, RE p S a d vv 0 wv w ∧ a ≤ S.size ∧ S.data.toList.drop a = l ∧ Vars p vv vs w
/-- Something is wrong with its text. -/
def RD (p : Nat) (S : ByteArray) (vv : Value) (bad : Int) (w : World) : Prop := ∃ a d wv, RE p S a d vv bad wv w ∧ a ≤ S.size
theorem isL_any {p : Nat} {S M : ByteArray} {vv : Value} {vs : List Vr} {l : List UInt8} {d wv : Int} {w : World} (h : RL p S vv vs l d wv w) (hS : S.size ≤ 1000) (hM : M.size ≤ 2) :
    Calls Tryd.prog 33 #[.pointer (some ⟨p, 0, none⟩), .string M] w fun e w' => e = .returned (.bool (hasM M.data.toList (skipA l))) ∧ RL p S vv vs (goneM M.data.toList (skipA l)) d wv w' ∧ Below p w w' := by
  obtain ⟨a, h1, h2, rfl, h4⟩ := h
  exact (isE_any p S M a d vv wv w h1 h2 hS hM).mono fun e w' ⟨he, ⟨a', g1, g2, g3⟩, hb⟩ => ⟨he, ⟨a', g1, g2, g3, h4.below hb⟩, hb⟩
theorem is_yes {p : Nat} {S M : ByteArray} {vv : Value} {vs : List Vr} {l r : List UInt8} {d wv : Int} {w : World} (h : RL p S vv vs l d wv w) (hS : S.size ≤ 1000) (hM : M.size ≤ 2) (hl : skipA l = r) (hp : M.data.toList.isPrefixOf r = true) :
    Calls Tryd.prog 33 #[.pointer (some ⟨p, 0, none⟩), .string M] w fun e w' => e = .returned (.bool true) ∧ RL p S vv vs (r.drop M.data.toList.length) d wv w' ∧ Below p w w' := by
  have k := isL_any (M := M) h hS hM
  rw [hl, show hasM M.data.toList r = true from hp, goneM_yes hp] at k
  exact k
theorem is_no {p : Nat} {S M : ByteArray} {vv : Value} {vs : List Vr} {l r : List UInt8} {d wv : Int} {w : World} (h : RL p S vv vs l d wv w) (hS : S.size ≤ 1000) (hM : M.size ≤ 2) (hl : skipA l = r) (hp : M.data.toList.isPrefixOf r = false) :
    Calls Tryd.prog 33 #[.pointer (some ⟨p, 0, none⟩), .string M] w fun e w' => e = .returned (.bool false) ∧ RL p S vv vs r d wv w' ∧ Below p w w' := by
  have k := isL_any (M := M) h hS hM
  rw [hl, show hasM M.data.toList r = false from hp, goneM_no hp] at k
  exact k
theorem is_dead {p : Nat} {S : ByteArray} (M : ByteArray) {vv : Value} {bad : Int} {w : World} (h : RD p S vv bad w) (hS : S.size ≤ 1000) (hb : bad ≠ 0) :
    Calls Tryd.prog 33 #[.pointer (some ⟨p, 0, none⟩), .string M] w fun e w' => e = .returned (.bool false) ∧ RD p S vv bad w' ∧ Below p w w' := by
  obtain ⟨a, d, wv, h1, h2⟩ := h
  exact (isE_dead p S M a d vv bad wv w h1 h2 hS hb).mono fun e w' ⟨he, ⟨a', g1, g2⟩, hb⟩ => ⟨he, ⟨a', d, wv, g1, g2⟩, hb⟩

/-- A number that was come to: if this is reckoned and nothing was wrong before, it is the expression's, or its fault is noted; if not, nothing is noted. -/
def ValE (V : List UInt8 → Cm) (live : Bool) (wv : Int) (ex : Ex) (n wv' : Int) : Prop := if live = true ∧ wv = 0 then (∃ m, ev V ex = .is m ∧ n = m ∧ wv' = 0) ∨ (∃ x, ev V ex = .no x ∧ wv' = x) else wv' = wv
theorem ev_no {V : List UInt8 → Cm} (hV : ∀ s x, V s = .no x → x ≠ 0) : ∀ (e : Ex) (x : Int), ev V e = .no x → x ≠ 0
  | .num n, x, h => by cases h
  | .name s, x, h => hV s x h
  | .neg e, x, h => by
    unfold ev at h
    cases he : ev V e with
    | is n => rw [he] at h; cases h
    | no y => rw [he] at h; cases h; exact ev_no hV e _ he
  | .bang e, x, h => by
    unfold ev at h
    cases he : ev V e with
    | is n => rw [he] at h; cases h
    | no y => rw [he] at h; cases h; exact ev_no hV e _ he
  | .bin m a b, x, h => by
    unfold ev at h
    cases ha : ev V a with
    | no y => rw [ha] at h; cases h; exact ev_no hV a _ ha
    | is n =>
      rw [ha] at h
      simp only [] at h
      have op : ∀ c d y, opD m c d = .no y → y ≠ 0 := fun c d y hy => by
        cases m <;> simp only [opD] at hy <;> first | cases hy | (split at hy <;> first | (cases hy; decide) | cases hy)
      split at h
      · exact op _ _ _ h
      · cases hb : ev V b with
        | no y => rw [hb] at h; cases h; exact ev_no hV b _ hb
        | is y => rw [hb] at h; exact op _ _ _ h
theorem val_bin {V : List UInt8 → Cm} (hV : ∀ s x, V s = .no x → x ≠ 0) {live : Bool} {wv wv1 wv2 wv3 n m c : Int} {ea eb : Ex} {k : Mk} (h1 : ValE V live wv ea n wv1) (h2 : ValE V (live && !idleA k n) wv1 eb m wv2)
    (h3 : live = true → wv2 = 0 → (∃ q, opD k n (if idleA k n = true then 0 else m) = .is q ∧ c = q ∧ wv3 = 0) ∨ (∃ x, opD k n (if idleA k n = true then 0 else m) = .no x ∧ wv3 = x)) (h4 : ¬ (live = true ∧ wv2 = 0) → wv3 = wv2) : ValE V live wv (.bin k ea eb) c wv3 := by
  unfold ValE at h1 ⊢
  by_cases hl : live = true ∧ wv = 0
  · rw [if_pos hl] at h1 ⊢
    obtain ⟨hlv, rfl⟩ := hl
    subst hlv
    rcases h1 with ⟨q, he, rfl, rfl⟩ | ⟨x, he, rfl⟩
    · unfold ev
      rw [he]
      simp only []
      cases hi : idleA k n with
      | true =>
        rw [hi] at h2 h3
        have : wv2 = 0 := by unfold ValE at h2; simpa using h2
        simpa [hi] using h3 rfl this
      | false =>
        rw [hi] at h2 h3
        unfold ValE at h2
        rw [if_pos ⟨by rfl, rfl⟩] at h2
        rcases h2 with ⟨q, hb, rfl, rfl⟩ | ⟨x, hb, rfl⟩
        · have := h3 rfl rfl
          rw [hb]
          simpa using this
        · refine .inr ⟨wv2, ?_, ?_⟩
          · rw [hb]; rfl
          · exact h4 (fun e => ev_no hV eb _ hb e.2)
    · have hx := ev_no hV ea _ he
      have : wv2 = wv1 := by
        unfold ValE at h2
        rw [if_neg (fun e => hx e.2)] at h2
        exact h2
      refine .inr ⟨wv1, ?_, ?_⟩
      · unfold ev; rw [he]
      · rw [h4 (fun e => hx (by rw [← this]; exact e.2)), this]
  · rw [if_neg hl] at h1 ⊢
    subst h1
    have h5 : wv2 = wv1 := by
      unfold ValE at h2
      rw [if_neg (fun e => hl ⟨(by have := e.1; simp only [Bool.and_eq_true] at this; exact this.1), e.2⟩)] at h2
      exact h2
    rw [h4 (fun e => hl ⟨e.1, by rw [← h5]; exact e.2⟩), h5]
/-- What a reading method answers. -/
def AnsE (p : Nat) (S : ByteArray) (vv : Value) (vs : List Vr) (d : Nat) (wv : Int) (live : Bool) (w : World) : Pr → Ending → World → Prop
  | .bad x, e, w' => (∃ n, e = .returned (.int .i64 n)) ∧ RD p S vv x w' ∧ Below p w w'
  | .ok ex r, e, w' => ∃ n wv', e = .returned (.int .i64 n) ∧ (∃ l, RL p S vv vs l (d : Int) wv' w' ∧ skipA l = skipA r) ∧ ValE (valA vs) live wv ex n wv' ∧ Below p w w'
theorem skip_skip (l : List UInt8) : skipA (skipA l) = skipA l := by
  induction l with
  | nil => rfl
  | cons c r ih =>
    cases hb : blankA c
    · rw [skip_not hb, skip_not hb]
    · rw [skip_blank hb, ih]
theorem pF_skips : ∀ (f : Nat), (∀ k d l e r, pF f (.row k) d l = .ok e r → skipA r = r) ∧ (∀ k e d l e' r, skipA l = l → pF f (.more k e) d l = .ok e' r → skipA r = r)
  | 0 => ⟨(fun k d l e r h => by cases h), (fun k e d l e' r _ h => by cases h)⟩
  | f + 1 => by
    obtain ⟨i1, i2⟩ := pF_skips f
    constructor
    · intro k d l e r h
      unfold pF at h
      split at h
      · cases hu : pF f .un d l with
        | bad x => rw [hu] at h; cases h
        | ok e0 r0 => rw [hu] at h; cases h; exact skip_skip r0
      · cases hu : pF f (.row (k + 1)) d l with
        | bad x => rw [hu] at h; cases h
        | ok e0 r0 => rw [hu] at h; exact i2 k e0 d r0 e r (i1 _ _ _ _ _ hu) h
    · intro k e d l e' r hl h
      unfold pF at h
      cases hm : markIn (marksAt k) l with
      | none => rw [hm] at h; cases h; exact hl
      | some mr =>
        obtain ⟨m, r1⟩ := mr
        rw [hm] at h
        simp only [] at h
        cases hu : pF f (.row (k + 1)) d r1 with
        | bad x => rw [hu] at h; cases h
        | ok e0 r0 => rw [hu] at h; exact i2 k _ d r0 e' r (i1 _ _ _ _ _ hu) h
end Go.Proofs.YtaaecgglocgcmaaDoor
namespace Go.Proofs.YtaaecgglocgcmaaDoor
open Go.RowKit Go.Lib

/-- A level's contract. -/
def LevE (F : FuncId) (k : Nat) (p : Nat) (S : ByteArray) (vv : Value) (vs : List Vr) (f : Nat) : Prop := ∀ (d : Nat) (l : List UInt8) (wv : Int) (live : Bool) (w : World), d ≤ 30 → pF f (.row k) d l ≠ .bad 0 → RL p S vv vs l (d : Int) wv w → Calls Tryd.prog F #[.pointer (some ⟨p, 0, none⟩), .bool live] w (AnsE p S vv vs d wv live w (pF f (.row k) d l))
def behindR (g k d : Nat) (ex : Ex → Ex) : Pr → Pr
  | .ok e r => pF g (.more k (ex e)) d r
  | .bad x => .bad x
theorem row_eq (f k d : Nat) (l : List UInt8) (hk : k < 6) : pF (f + 1) (.row k) d l = behindR f k d id (pF f (.row (k + 1)) d l) := by
  show (if k = 6 then _ else _) = _
  rw [if_neg (by omega)]
  cases pF f (.row (k + 1)) d l <;> rfl
theorem more_some {f k d : Nat} {ex : Ex} {l r : List UInt8} {m : Mk} (h : markIn (marksAt k) l = some (m, r)) : pF (f + 1) (.more k ex) d l = behindR f k d (.bin m ex) (pF f (.row (k + 1)) d r) := by
  show (match markIn (marksAt k) l with | none => _ | some (m, r) => _) = _
  rw [h]
  simp only []
  cases pF f (.row (k + 1)) d r <;> rfl
theorem more_none {f k d : Nat} {ex : Ex} {l : List UInt8} (h : markIn (marksAt k) l = none) : pF (f + 1) (.more k ex) d l = .ok ex l := by
  show (match markIn (marksAt k) l with | none => _ | some (m, r) => _) = _
  rw [h]
/-- A row between two marks: something is wrong, or so much was read, and so much it comes to. -/
def InvE (p : Nat) (S : ByteArray) (vv : Value) (vs : List Vr) (k d : Nat) (wv : Int) (live : Bool) (w : World) (R : Pr) (g : Nat) (n : Int) (wr : World) : Prop :=
  (∃ x, R = .bad x ∧ x ≠ 0 ∧ RD p S vv x wr ∧ Below p w wr) ∨ (∃ ex r l wv1, R = pF g (.more k ex) d r ∧ skipA r = r ∧ skipA l = r ∧ RL p S vv vs l (d : Int) wv1 wr ∧ ValE (valA vs) live wv ex n wv1 ∧ Below p w wr)
/-- A row behind a mark's right side. -/
def StepE (p : Nat) (S : ByteArray) (vv : Value) (vs : List Vr) (k d : Nat) (w : World) (R : Pr) (g : Nat) (ex : Ex) (mk : Mk) (live2 : Bool) (wv1 : Int) (m : Int) (wr : World) : Prop :=
  (∃ x, R = .bad x ∧ x ≠ 0 ∧ RD p S vv x wr ∧ Below p w wr) ∨ (∃ eb r l wv2, R = pF g (.more k (.bin mk ex eb)) d r ∧ skipA r = r ∧ skipA l = r ∧ RL p S vv vs l (d : Int) wv2 wr ∧ ValE (valA vs) live2 wv1 eb m wv2 ∧ Below p w wr)
theorem inv_start {p : Nat} {S : ByteArray} {vv : Value} {vs : List Vr} {k d : Nat} {wv : Int} {live : Bool} {w : World} {R : Pr} {f : Nat} {l : List UInt8} (hR : R = behindR f k d id (pF f (.row (k + 1)) d l)) (hne : R ≠ .bad 0) {e : Ending} {w1 : World} (hA : AnsE p S vv vs d wv live w (pF f (.row (k + 1)) d l) e w1) :
    ∃ n, e = .returned (.int .i64 n) ∧ InvE p S vv vs k d wv live w R f n w1 := by
  cases hs : pF f (.row (k + 1)) d l with
  | bad x =>
    rw [hs] at hA hR
    obtain ⟨⟨n, rfl⟩, h1, h2⟩ := hA
    exact ⟨n, rfl, .inl ⟨x, hR, fun e => hne (by rw [hR, e]; rfl), h1, h2⟩⟩
  | ok ex r =>
    have hsk := (pF_skips f).1 _ _ _ _ _ hs
    rw [hs] at hA hR
    obtain ⟨n, wv1, rfl, ⟨l1, h1, h2⟩, h3, h4⟩ := hA
    exact ⟨n, rfl, .inr ⟨ex, r, l1, wv1, hR, hsk, h2.trans hsk, h1, h3, h4⟩⟩
theorem step_of {p : Nat} {S : ByteArray} {vv : Value} {vs : List Vr} {k d : Nat} {wv1 : Int} {live2 : Bool} {w w2 : World} {R : Pr} {g : Nat} {l : List UInt8} {ex : Ex} {mk : Mk} (hR : R = behindR g k d (.bin mk ex) (pF g (.row (k + 1)) d l)) (hne : R ≠ .bad 0) (hb : Below p w w2) {e : Ending} {w3 : World} (hA : AnsE p S vv vs d wv1 live2 w2 (pF g (.row (k + 1)) d l) e w3) :
    ∃ m, e = .returned (.int .i64 m) ∧ StepE p S vv vs k d w R g ex mk live2 wv1 m w3 := by
  cases hs : pF g (.row (k + 1)) d l with
  | bad x =>
    rw [hs] at hA hR
    obtain ⟨⟨n, rfl⟩, h1, h2⟩ := hA
    exact ⟨n, rfl, .inl ⟨x, hR, fun e => hne (by rw [hR, e]; rfl), h1, hb.trans h2⟩⟩
  | ok eb r =>
    have hsk := (pF_skips g).1 _ _ _ _ _ hs
    rw [hs] at hA hR
    obtain ⟨n, wv2, rfl, ⟨l1, h1, h2⟩, h3, h4⟩ := hA
    exact ⟨n, rfl, .inr ⟨eb, r, l1, wv2, hR, hsk, h2.trans hsk, h1, h3, hb.trans h4⟩⟩
theorem step_inv {p : Nat} {S : ByteArray} {vv : Value} {vs : List Vr} {k d : Nat} {wv wv1 : Int} {live live2 : Bool} {w wr : World} {R : Pr} {g : Nat} {ex : Ex} {mk : Mk} {n m c : Int} (hV : ∀ s x, valA vs s = .no x → x ≠ 0) (h : StepE p S vv vs k d w R g ex mk live2 wv1 m wr) (h1 : ValE (valA vs) live wv ex n wv1) (hl : live2 = (live && !idleA mk n)) (hc : opD mk n (if idleA mk n = true then 0 else m) = .is c) :
    InvE p S vv vs k d wv live w R g c wr := by
  rcases h with h | ⟨eb, r, l, wv2, h2, h3, h4, h5, h6, h7⟩
  · exact .inl h
  · rw [hl] at h6
    exact .inr ⟨_, r, l, wv2, h2, h3, h4, h5, val_bin hV h1 h6 (fun _ h0 => .inl ⟨c, hc, rfl, h0⟩) (fun _ => rfl), h7⟩
/-- What has nothing behind it is a fault that is noted. -/
theorem step_come {p : Nat} {S : ByteArray} {vv : Value} {vs : List Vr} {k d : Nat} {wv wv1 : Int} {live : Bool} {w wr : World} {R : Pr} {g : Nat} {ex : Ex} {mk : Mk} {n m : Int} (hV : ∀ s x, valA vs s = .no x → x ≠ 0) (h : StepE p S vv vs k d w R g ex mk live wv1 m wr) (h1 : ValE (valA vs) live wv ex n wv1) (hi : idleA mk n = false) (hc : opD mk n m = .no 4) :
    Calls Tryd.prog 78 #[.pointer (some ⟨p, 0, none⟩), .int .i64 4, .bool live] wr fun e w' => e = .returned (.tuple #[]) ∧ InvE p S vv vs k d wv live w R g 0 w' := by
  rcases h with ⟨x, h2, h3, ⟨a, d', wv2, h4, h5⟩, h6⟩ | ⟨eb, r, l, wv2, h2, h3, h4, ⟨a, h5, h51, h52, h53⟩, h6, h7⟩
  · exact (comesE_any p S a d' vv x wv2 4 live wr h4).mono fun e w' ⟨he, g1, g2⟩ => ⟨he, .inl ⟨x, h2, h3, ⟨a, d', _, g1, h5⟩, h6.trans g2⟩⟩
  · refine (comesE_any p S a d vv 0 wv2 4 live wr h5).mono fun e w' ⟨he, g1, g2⟩ => ⟨he, .inr ⟨_, r, l, _, h2, h3, h4, ⟨a, g1, h51, h52, h53.below g2⟩, ?_, h7.trans g2⟩⟩
    refine val_bin hV h1 (by rw [hi]; simpa using h6) (fun hl h0 => .inr ⟨4, by rw [hi]; simpa using hc, by rw [if_pos ⟨hl, h0⟩]⟩) (fun hn => by rw [if_neg hn])
theorem ans_bad {p : Nat} {S : ByteArray} {vv : Value} {vs : List Vr} {d : Nat} {wv : Int} {live : Bool} {w w' : World} {R : Pr} {x n : Int} (hR : R = .bad x) (h1 : RD p S vv x w') (h2 : Below p w w') : AnsE p S vv vs d wv live w R (.returned (.int .i64 n)) w' := by
  subst hR
  exact ⟨⟨n, rfl⟩, h1, h2⟩
theorem ans_ok {p : Nat} {S : ByteArray} {vv : Value} {vs : List Vr} {d : Nat} {wv wv1 : Int} {live : Bool} {w w' : World} {R : Pr} {n : Int} {ex : Ex} {r l : List UInt8} (hR : R = .ok ex r) (h1 : RL p S vv vs l (d : Int) wv1 w') (hs : skipA l = skipA r) (h3 : ValE (valA vs) live wv ex n wv1) (h2 : Below p w w') : AnsE p S vv vs d wv live w R (.returned (.int .i64 n)) w' := by
  subst hR
  exact ⟨n, wv1, rfl, ⟨l, h1, hs⟩, h3, h2⟩
end Go.Proofs.YtaaecgglocgcmaaDoor
