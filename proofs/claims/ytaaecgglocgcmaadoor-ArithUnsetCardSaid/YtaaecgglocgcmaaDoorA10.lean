/- Packed texts: ArSet. What each of them proves stands above its theorems; the conditions stand in these. -/
import Derived.OwnWalk
import Derived.Test.YtaaecgglocgcmaaDoorA1
namespace Go.Proofs.YtaaecgglocgcmaaDoor
open Go.RowKit Go.Lib

def Vr.cells (x : Vr) : List Value := [.string x.n, .string x.v]
def vsC (vs : List Vr) : List Value := vs.flatMap Vr.cells
theorem vsC_append (a b : List Vr) : vsC (a ++ b) = vsC a ++ vsC b := by simp [vsC]
theorem vsC_length (vs : List Vr) : (vsC vs).length = vs.length * 2 := by
  induction vs with
  | nil => rfl
  | cons x r ih =>
    show (x.cells ++ vsC r).length = _
    rw [List.length_append, ih, List.length_cons]
    show 2 + r.length * 2 = _
    omega
theorem vsC_one (vs : List Vr) : ∀ u ∈ vsC vs, u.oneCell' = true := by
  intro u hu
  simp only [vsC, List.mem_flatMap, Vr.cells] at hu
  obtain ⟨x, _, hx⟩ := hu
  simp at hx
  rcases hx with rfl | rfl <;> rfl
theorem vsC_at : ∀ (vs : List Vr) (j : Nat) (x : Vr), vs[j]? = some x → (vsC vs)[j * 2]? = some (.string x.n) ∧ (vsC vs)[j * 2 + 1]? = some (.string x.v)
  | [], j, x, h => by simp at h
  | y :: r, 0, x, h => by
    simp at h
    subst h
    exact ⟨rfl, rfl⟩
  | y :: r, j + 1, x, h => by
    have ih := vsC_at r j x (by simpa using h)
    have e : vsC (y :: r) = .string y.n :: .string y.v :: vsC r := rfl
    rw [e, show (j + 1) * 2 = j * 2 + 1 + 1 by omega]
    simp only [List.getElem?_cons_succ]
    exact ih
theorem vsC_get : ∀ (vs : List Vr) (i : Nat) (u : Value), (vsC vs)[i]? = some u → ∃ j x, vs[j]? = some x ∧ (i = j * 2 ∧ u = .string x.n ∨ i = j * 2 + 1 ∧ u = .string x.v)
  | [], i, u, h => by simp [vsC] at h
  | y :: r, i, u, h => by
    have e : vsC (y :: r) = .string y.n :: .string y.v :: vsC r := rfl
    rw [e] at h
    match i, h with
    | 0, h => simp at h; exact ⟨0, y, rfl, .inl ⟨rfl, h.symm⟩⟩
    | 1, h => simp at h; exact ⟨0, y, rfl, .inr ⟨rfl, h.symm⟩⟩
    | i + 2, h =>
      simp only [List.getElem?_cons_succ] at h
      obtain ⟨j, x, h1, h2⟩ := vsC_get r i u h
      refine ⟨j + 1, x, by simpa using h1, ?_⟩
      rcases h2 with ⟨h2, h3⟩ | ⟨h2, h3⟩
      · exact .inl ⟨by omega, h3⟩
      · exact .inr ⟨by omega, h3⟩
/-- The cells of a part of a row. -/
theorem Vars.part {B : Nat} {a : Addr} {N cap : Nat} {vs : List Vr} {w : World} (h : Vars B (.slice (some a) N cap) vs w) (k : Nat) (ws : List Vr) (hw : ∀ j x, ws[j]? = some x → vs[k + j]? = some x) : ∀ j u, (vsC ws)[j]? = some u → w.cell? ((a.add (k * 2)).add j) = some u := by
  intro j u hj
  obtain ⟨i, x, h1, h2⟩ := vsC_get ws j u hj
  obtain ⟨b, o, e, _, c0, c1⟩ := h.at (hw i x h1)
  injection e with e
  subst e
  have ea : ∀ m, ((⟨b, o, none⟩ : Addr).add (k * 2)).add m = ⟨b, o + k * 2 + m, none⟩ := fun m => by
    unfold Addr.add
    by_cases h1 : k * 2 = 0 <;> by_cases h2 : m = 0 <;> simp [h1, h2]
  rw [ea]
  rcases h2 with ⟨rfl, rfl⟩ | ⟨rfl, rfl⟩
  · rw [show o + k * 2 + i * 2 = o + (k + i) * 2 by omega]; exact c0
  · rw [show o + k * 2 + (i * 2 + 1) = o + (k + i) * 2 + 1 by omega]; exact c1
theorem Vars.owned {w : World} {base n : Nat} {v : Value} {vs : List Vr} (h : w.ownsRow base 39 2 v n (vsC vs)) (hn : n ≤ 140737488355328) : Vars w.heap.size v vs w ∧ n = vs.length := by
  have hl := h.1
  rw [vsC_length] at hl
  obtain rfl : n = vs.length := by omega
  refine ⟨?_, rfl⟩
  rcases h.2 with ⟨rfl, h0⟩ | ⟨g, cap, cur, rfl, _, hg, hc, hm, hz, ht⟩
  · obtain rfl : vs = [] := List.eq_nil_of_length_eq_zero h0
    exact Vars.nil _ _
  · refine ⟨_, cap, rfl, hc, hn, fun j x hj => ⟨g, 0, rfl, block_ltA hg, ?_, ?_⟩⟩
    · have hjl : j < vs.length := by
        by_cases e : j < vs.length
        · exact e
        · rw [List.getElem?_eq_none (by omega)] at hj; cases hj
      have := (vsC_at vs j x hj).1
      rw [← ht, List.getElem?_take, if_pos (by omega)] at this
      rw [cell_of_heap hg, Nat.zero_add, ← Array.getElem?_toList]
      exact this
    · have hjl : j < vs.length := by
        by_cases e : j < vs.length
        · exact e
        · rw [List.getElem?_eq_none (by omega)] at hj; cases hj
      have := (vsC_at vs j x hj).2
      rw [← ht, List.getElem?_take, if_pos (by omega)] at this
      rw [cell_of_heap hg, Nat.zero_add, ← Array.getElem?_toList]
      exact this
/-- A row with one variable set. -/
def setA (vs : List Vr) (x : Vr) : List Vr := vs.take (lowA vs x.n.data.toList) ++ x :: vs.drop (lowA vs x.n.data.toList + if atA vs x.n.data.toList then 1 else 0)
theorem Tryd.infoVarA : (Tryd.prog.info? 39).map (fun i => (i.zero, i.size, i.bytes)) = some (some (.agg #[.string ByteArray.empty, .string ByteArray.empty]), 2, 32) := by kernel_rfl
set_option maxHeartbeats 4000000 in
set_option maxRecDepth 20000 in
theorem setA_some (a : Addr) (cap n lo hit : Nat) (vs : List Vr) (x : Vr) (ht : Bool) (w : World) (h : Vars w.heap.size (.slice (some a) n cap) vs w) (hn : n = vs.length) (hnc : n ≤ cap) (hlo : lo + hit ≤ n) (hht : hit = if ht then 1 else 0) (hN : n ≤ 4398046511000)
    (kp : Calls Tryd.prog 30 #[.slice (some a) n cap, .string x.n] w fun e w' => e = .returned (.tuple #[.int .i64 (lo : Int), .bool ht]) ∧ Below w.heap.size w w') :
    Calls Tryd.prog 20 #[.slice (some a) n cap, .string x.n, .string x.v] w fun e w' => (∃ v, e = .returned v ∧ w'.ownsRow w.heap.size 39 2 v (lo + 1 + (n - (lo + hit))) (vsC (vs.take lo) ++ x.cells ++ vsC (vs.drop (lo + hit)))) ∧ Below w.heap.size w w' := by
  obtain ⟨i0, hi, hz0, hz1, hz2⟩ := info_parts Tryd.infoVarA
  have PRE : Hid (∀ w' : World, Below w.heap.size w w' → ∀ (ad : Addr), some a = some ad → ∀ j u, (vsC (vs.take lo))[j]? = some u → w'.cell? (ad.add j) = some u) := by
    show ∀ w' : World, Below w.heap.size w w' → ∀ (ad : Addr), some a = some ad → ∀ j u, (vsC (vs.take lo))[j]? = some u → w'.cell? (ad.add j) = some u
    intro w' hb ad had j u hj
    cases had
    have := (h.below hb).part 0 (vs.take lo) (fun j x hx => by
      rw [List.getElem?_take] at hx
      split at hx
      · rw [Nat.zero_add]; exact hx
      · cases hx) j u hj
    exact this
  have SUF : Hid (∀ w' : World, Below w.heap.size w w' → ∀ j u, (vsC (vs.drop (lo + hit)))[j]? = some u → w'.cell? ((a.add ((lo + hit) * 2)).add j) = some u) := by
    show ∀ w' : World, Below w.heap.size w w' → ∀ j u, (vsC (vs.drop (lo + hit)))[j]? = some u → w'.cell? ((a.add ((lo + hit) * 2)).add j) = some u
    intro w' hb j u hj
    exact (h.below hb).part (lo + hit) (vs.drop (lo + hit)) (fun j x hx => by rw [List.getElem?_drop] at hx; exact hx) j u hj
  have LT : Hid ((vsC (vs.take lo)).length = lo * 2) := by
    show (vsC (vs.take lo)).length = lo * 2
    rw [vsC_length, List.length_take, Nat.min_eq_left (by omega)]
  have LD : Hid ((vsC (vs.drop (lo + hit))).length = (n - (lo + hit)) * 2) := by
    show (vsC (vs.drop (lo + hit))).length = (n - (lo + hit)) * 2
    rw [vsC_length, List.length_drop, hn]
  have hn1 : (n : Int) ≤ 4398046511000 := by omega
  have hlo1 : (lo : Int) ≤ (n : Int) := by omega
  have hnc1 : (n : Int) ≤ (cap : Int) := by omega
  have hlo2 : (lo : Int) ≤ (cap : Int) := by omega
  have one1 := Lib.hid (vsC_one (vs.take lo))
  have one2 := Lib.hid (vsC_one (vs.drop (lo + hit)))
  have CON : Hid (∀ w' : World, ∀ (ad : Addr), ad = ⟨w'.heap.size, 0, none⟩ → ∀ j u, x.cells[j]? = some u → (w'.alloc (.cells #[.string x.n, .string x.v] 39)).cell? (ad.add j) = some u) := by
    show ∀ w' : World, ∀ (ad : Addr), ad = ⟨w'.heap.size, 0, none⟩ → ∀ j u, x.cells[j]? = some u → (w'.alloc (.cells #[.string x.n, .string x.v] 39)).cell? (ad.add j) = some u
    intro w' ad had j u hj
    subst had
    have e : (⟨w'.heap.size, 0, none⟩ : Addr).add j = ⟨w'.heap.size, j, none⟩ := by simp [Addr.add]; intro h; exact h.symm
    rw [e, cell_of_heap (heap_alloc_new w' _)]
    simpa [Vr.cells] using hj
  have one3 : Hid (∀ u ∈ x.cells, u.oneCell' = true) := by
    show ∀ u ∈ x.cells, u.oneCell' = true
    intro u hu
    simp [Vr.cells] at hu
    rcases hu with rfl | rfl <;> rfl
  obtain ⟨X, hX⟩ : ∃ X, X = x.cells := ⟨_, rfl⟩
  have hX2 : Hid (X.length = 1 * 2) := by show X.length = 1 * 2; rw [hX]; rfl
  rw [← hX] at CON one3 ⊢
  generalize vsC (vs.take lo) = P at *
  generalize vsC (vs.drop (lo + hit)) = D at *
  clear h hn hX
  cases ht
  · obtain rfl : hit = 0 := hht
    by_cases hcap : lo + 0 = cap
    · have hDn : Hid (D = []) := by
        show D = []
        refine List.eq_nil_of_length_eq_zero ?_
        rw [LD.out]; omega
      obtain rfl : lo = cap := by omega
      obtain rfl : lo = n := by omega
      go_enter Tryd.func20, Tryd.ntmps20
      go_wp2_with (first
        | (go_at_call 30; (with_reducible refine kp.mono ?_); rintro e w1 ⟨rfl, hb1⟩; have HB := Lib.hid hb1; clear hb1)
        | (at_make; refine wpList_make_own _ rfl _ _ 22 rfl w.heap.size 39 i0 _ 2 Tryd.underlying22 hi hz0 hz1 .i64 .i64 _ (lo + 1) rfl rfl (by omega) (by rw [hz2]; omega) (by unfold maxLen; omega) HB.out.size ?_; intro w2 hown2 hgrow2; have HO2 := Lib.hid hown2; have HB2 := Lib.hid (HB.out.grown hgrow2 HB.out.size (fun r hr => by cases hr)); have HZ := Lib.hid HB.out.size; generalize w1.heap.size = g at *; clear hown2 hgrow2)
        | (at_builtin; refine wpList_append_fits_any _ rfl (.tmp 20) (.tmp 23) 22 rfl w.heap.size 39 i0 2 Tryd.underlying22 hi hz1 g 0 (lo + 1) [] rfl HO2.out (some a) lo lo P rfl LT.out (fun h => by cases h) (PRE.out _ HB2.out) one1.out (by omega) ?_; intro w3 hown3 hgrow3; simp only [Nat.zero_add, List.nil_append] at hown3; have HO3 := Lib.hid hown3; have HB3 := Lib.hid (HB2.out.grown hgrow3 HB2.out.size (fun r hr => by cases hr; exact HZ.out)); clear hown3 hgrow3)
        | (at_builtin; refine wpList_append_fits_any _ rfl (.tmp 25) (.tmp 29) 22 rfl w.heap.size 39 i0 2 Tryd.underlying22 hi hz1 g lo (lo + 1) P rfl (HO3.out.alloc _) (some ⟨w3.heap.size, 0, none⟩) 1 1 X rfl hX2.out (fun h => by cases h) (fun ad had => CON.out w3 ad (by cases had; rfl)) one3.out (by omega) ?_; intro w4 hown4 hgrow4; have HO4 := Lib.hid hown4; have HB4 := Lib.hid ((HB3.out.alloc HB3.out.size _).grown hgrow4 (by have := HB3.out.size; simp; omega) (fun r hr => by cases hr; exact HZ.out)); clear hown4 hgrow4)
        | (at_builtin; refine wpList_append_fits_any _ rfl (.tmp 34) (.tmp 37) 22 rfl w.heap.size 39 i0 2 Tryd.underlying22 hi hz1 g (lo + 1) (lo + 1) (P ++ X) rfl HO4.out _ 0 _ D rfl (by rw [hDn.out]; rfl) (fun h => by cases h) (fun ad had j u hj => by rw [hDn.out] at hj; simp at hj) one2.out (by omega) ?_; intro w5 hown5 hgrow5; have HO5 := Lib.hid hown5; have HB5 := Lib.hid (HB4.out.grown hgrow5 HB4.out.size (fun r hr => by cases hr; exact HZ.out)); clear hown5 hgrow5))
      refine bodyPost_ret (results_tmp rfl _ _ _) rfl ?_
      refine ⟨⟨_, rfl, ?_⟩, HB5.out⟩
      have HF := HO5.out
      rw [show lo + 1 + (lo - (lo + 0)) = lo + 1 + 0 by omega]
      exact HF
    · have hlt : lo + 0 < cap := by omega
      have hltI : (lo : Int) + 0 < (cap : Int) := by omega
      clear hcap
      go_enter Tryd.func20, Tryd.ntmps20
      go_wp2_with (first
        | (go_at_call 30; (with_reducible refine kp.mono ?_); rintro e w1 ⟨rfl, hb1⟩; have HB := Lib.hid hb1; clear hb1)
        | (at_make; refine wpList_make_own _ rfl _ _ 22 rfl w.heap.size 39 i0 _ 2 Tryd.underlying22 hi hz0 hz1 .i64 .i64 _ (n + 1) rfl rfl (by omega) (by rw [hz2]; omega) (by unfold maxLen; omega) HB.out.size ?_; intro w2 hown2 hgrow2; have HO2 := Lib.hid hown2; have HB2 := Lib.hid (HB.out.grown hgrow2 HB.out.size (fun r hr => by cases hr)); have HZ := Lib.hid HB.out.size; generalize w1.heap.size = g at *; clear hown2 hgrow2)
        | (at_builtin; refine wpList_append_fits_any _ rfl (.tmp 20) (.tmp 23) 22 rfl w.heap.size 39 i0 2 Tryd.underlying22 hi hz1 g 0 (n + 1) [] rfl HO2.out (some a) lo cap P rfl LT.out (fun h => by cases h) (PRE.out _ HB2.out) one1.out (by omega) ?_; intro w3 hown3 hgrow3; simp only [Nat.zero_add, List.nil_append] at hown3; have HO3 := Lib.hid hown3; have HB3 := Lib.hid (HB2.out.grown hgrow3 HB2.out.size (fun r hr => by cases hr; exact HZ.out)); clear hown3 hgrow3)
        | (at_builtin; refine wpList_append_fits_any _ rfl (.tmp 25) (.tmp 29) 22 rfl w.heap.size 39 i0 2 Tryd.underlying22 hi hz1 g lo (n + 1) P rfl (HO3.out.alloc _) (some ⟨w3.heap.size, 0, none⟩) 1 1 X rfl hX2.out (fun h => by cases h) (fun ad had => CON.out w3 ad (by cases had; rfl)) one3.out (by omega) ?_; intro w4 hown4 hgrow4; have HO4 := Lib.hid hown4; have HB4 := Lib.hid ((HB3.out.alloc HB3.out.size _).grown hgrow4 (by have := HB3.out.size; simp; omega) (fun r hr => by cases hr; exact HZ.out)); clear hown4 hgrow4)
        | (at_builtin; refine wpList_append_fits_any _ rfl (.tmp 34) (.tmp 37) 22 rfl w.heap.size 39 i0 2 Tryd.underlying22 hi hz1 g (lo + 1) (n + 1) (P ++ X) rfl HO4.out _ (n - (lo + 0)) _ D rfl LD.out (fun h => by cases h) (fun ad had j u hj => by cases had; exact SUF.out _ HB4.out j u hj) one2.out (by omega) ?_; intro w5 hown5 hgrow5; have HO5 := Lib.hid hown5; have HB5 := Lib.hid (HB4.out.grown hgrow5 HB4.out.size (fun r hr => by cases hr; exact HZ.out)); clear hown5 hgrow5))
      refine bodyPost_ret (results_tmp rfl _ _ _) rfl ?_
      refine ⟨⟨_, rfl, ?_⟩, HB5.out⟩
      have HF := HO5.out
      exact HF
  · obtain rfl : hit = 1 := hht
    by_cases hcap : lo + 1 = cap
    · have hDn : Hid (D = []) := by
        show D = []
        refine List.eq_nil_of_length_eq_zero ?_
        rw [LD.out]; omega
      obtain rfl : cap = lo + 1 := hcap.symm
      obtain rfl : n = lo + 1 := by omega
      go_enter Tryd.func20, Tryd.ntmps20
      go_wp2_with (first
        | (go_at_call 30; (with_reducible refine kp.mono ?_); rintro e w1 ⟨rfl, hb1⟩; have HB := Lib.hid hb1; clear hb1)
        | (at_make; refine wpList_make_own _ rfl _ _ 22 rfl w.heap.size 39 i0 _ 2 Tryd.underlying22 hi hz0 hz1 .i64 .i64 _ (lo + 1 + 1) rfl rfl (by omega) (by rw [hz2]; omega) (by unfold maxLen; omega) HB.out.size ?_; intro w2 hown2 hgrow2; have HO2 := Lib.hid hown2; have HB2 := Lib.hid (HB.out.grown hgrow2 HB.out.size (fun r hr => by cases hr)); have HZ := Lib.hid HB.out.size; generalize w1.heap.size = g at *; clear hown2 hgrow2)
        | (at_builtin; refine wpList_append_fits_any _ rfl (.tmp 20) (.tmp 23) 22 rfl w.heap.size 39 i0 2 Tryd.underlying22 hi hz1 g 0 (lo + 1 + 1) [] rfl HO2.out (some a) lo (lo + 1) P rfl LT.out (fun h => by cases h) (PRE.out _ HB2.out) one1.out (by omega) ?_; intro w3 hown3 hgrow3; simp only [Nat.zero_add, List.nil_append] at hown3; have HO3 := Lib.hid hown3; have HB3 := Lib.hid (HB2.out.grown hgrow3 HB2.out.size (fun r hr => by cases hr; exact HZ.out)); clear hown3 hgrow3)
        | (at_builtin; refine wpList_append_fits_any _ rfl (.tmp 25) (.tmp 29) 22 rfl w.heap.size 39 i0 2 Tryd.underlying22 hi hz1 g lo (lo + 1 + 1) P rfl (HO3.out.alloc _) (some ⟨w3.heap.size, 0, none⟩) 1 1 X rfl hX2.out (fun h => by cases h) (fun ad had => CON.out w3 ad (by cases had; rfl)) one3.out (by omega) ?_; intro w4 hown4 hgrow4; have HO4 := Lib.hid hown4; have HB4 := Lib.hid ((HB3.out.alloc HB3.out.size _).grown hgrow4 (by have := HB3.out.size; simp; omega) (fun r hr => by cases hr; exact HZ.out)); clear hown4 hgrow4)
        | (at_builtin; refine wpList_append_fits_any _ rfl (.tmp 34) (.tmp 37) 22 rfl w.heap.size 39 i0 2 Tryd.underlying22 hi hz1 g (lo + 1) (lo + 1 + 1) (P ++ X) rfl HO4.out _ 0 _ D rfl (by rw [hDn.out]; rfl) (fun h => by cases h) (fun ad had j u hj => by rw [hDn.out] at hj; simp at hj) one2.out (by omega) ?_; intro w5 hown5 hgrow5; have HO5 := Lib.hid hown5; have HB5 := Lib.hid (HB4.out.grown hgrow5 HB4.out.size (fun r hr => by cases hr; exact HZ.out)); clear hown5 hgrow5))
      refine bodyPost_ret (results_tmp rfl _ _ _) rfl ?_
      refine ⟨⟨_, rfl, ?_⟩, HB5.out⟩
      have HF := HO5.out
      rw [show lo + 1 + (lo + 1 - (lo + 1)) = lo + 1 + 0 by omega]
      exact HF
    · have hlt : lo + 1 < cap := by omega
      have hltI : (lo : Int) + 1 < (cap : Int) := by omega
      clear hcap
      go_enter Tryd.func20, Tryd.ntmps20
      go_wp2_with (first
        | (go_at_call 30; (with_reducible refine kp.mono ?_); rintro e w1 ⟨rfl, hb1⟩; have HB := Lib.hid hb1; clear hb1)
        | (at_make; refine wpList_make_own _ rfl _ _ 22 rfl w.heap.size 39 i0 _ 2 Tryd.underlying22 hi hz0 hz1 .i64 .i64 _ (n + 1) rfl rfl (by omega) (by rw [hz2]; omega) (by unfold maxLen; omega) HB.out.size ?_; intro w2 hown2 hgrow2; have HO2 := Lib.hid hown2; have HB2 := Lib.hid (HB.out.grown hgrow2 HB.out.size (fun r hr => by cases hr)); have HZ := Lib.hid HB.out.size; generalize w1.heap.size = g at *; clear hown2 hgrow2)
        | (at_builtin; refine wpList_append_fits_any _ rfl (.tmp 20) (.tmp 23) 22 rfl w.heap.size 39 i0 2 Tryd.underlying22 hi hz1 g 0 (n + 1) [] rfl HO2.out (some a) lo cap P rfl LT.out (fun h => by cases h) (PRE.out _ HB2.out) one1.out (by omega) ?_; intro w3 hown3 hgrow3; simp only [Nat.zero_add, List.nil_append] at hown3; have HO3 := Lib.hid hown3; have HB3 := Lib.hid (HB2.out.grown hgrow3 HB2.out.size (fun r hr => by cases hr; exact HZ.out)); clear hown3 hgrow3)
        | (at_builtin; refine wpList_append_fits_any _ rfl (.tmp 25) (.tmp 29) 22 rfl w.heap.size 39 i0 2 Tryd.underlying22 hi hz1 g lo (n + 1) P rfl (HO3.out.alloc _) (some ⟨w3.heap.size, 0, none⟩) 1 1 X rfl hX2.out (fun h => by cases h) (fun ad had => CON.out w3 ad (by cases had; rfl)) one3.out (by omega) ?_; intro w4 hown4 hgrow4; have HO4 := Lib.hid hown4; have HB4 := Lib.hid ((HB3.out.alloc HB3.out.size _).grown hgrow4 (by have := HB3.out.size; simp; omega) (fun r hr => by cases hr; exact HZ.out)); clear hown4 hgrow4)
        | (at_builtin; refine wpList_append_fits_any _ rfl (.tmp 34) (.tmp 37) 22 rfl w.heap.size 39 i0 2 Tryd.underlying22 hi hz1 g (lo + 1) (n + 1) (P ++ X) rfl HO4.out _ (n - (lo + 1)) _ D rfl LD.out (fun h => by cases h) (fun ad had j u hj => by cases had; exact SUF.out _ HB4.out j u hj) one2.out (by omega) ?_; intro w5 hown5 hgrow5; have HO5 := Lib.hid hown5; have HB5 := Lib.hid (HB4.out.grown hgrow5 HB4.out.size (fun r hr => by cases hr; exact HZ.out)); clear hown5 hgrow5))
      refine bodyPost_ret (results_tmp rfl _ _ _) rfl ?_
      refine ⟨⟨_, rfl, ?_⟩, HB5.out⟩
      have HF := HO5.out
      rw [show lo + 1 + (n - (lo + 1)) = n by omega] at HF ⊢
      exact HF
set_option maxHeartbeats 4000000 in
set_option maxRecDepth 20000 in
theorem setA_none (x : Vr) (w : World)
    (kp : Calls Tryd.prog 30 #[.slice none 0 0, .string x.n] w fun e w' => e = .returned (.tuple #[.int .i64 0, .bool false]) ∧ Below w.heap.size w w') :
    Calls Tryd.prog 20 #[.slice none 0 0, .string x.n, .string x.v] w fun e w' => (∃ v, e = .returned v ∧ w'.ownsRow w.heap.size 39 2 v 1 x.cells) ∧ Below w.heap.size w w' := by
  obtain ⟨i0, hi, hz0, hz1, hz2⟩ := info_parts Tryd.infoVarA
  have CON : Hid (∀ w' : World, ∀ (ad : Addr), ad = ⟨w'.heap.size, 0, none⟩ → ∀ j u, x.cells[j]? = some u → (w'.alloc (.cells #[.string x.n, .string x.v] 39)).cell? (ad.add j) = some u) := by
    show ∀ w' : World, ∀ (ad : Addr), ad = ⟨w'.heap.size, 0, none⟩ → ∀ j u, x.cells[j]? = some u → (w'.alloc (.cells #[.string x.n, .string x.v] 39)).cell? (ad.add j) = some u
    intro w' ad had j u hj
    subst had
    have e : (⟨w'.heap.size, 0, none⟩ : Addr).add j = ⟨w'.heap.size, j, none⟩ := by simp [Addr.add]; intro h; exact h.symm
    rw [e, cell_of_heap (heap_alloc_new w' _)]
    simpa [Vr.cells] using hj
  have one3 : Hid (∀ u ∈ x.cells, u.oneCell' = true) := by
    show ∀ u ∈ x.cells, u.oneCell' = true
    intro u hu
    simp [Vr.cells] at hu
    rcases hu with rfl | rfl <;> rfl
  obtain ⟨X, hX⟩ : ∃ X, X = x.cells := ⟨_, rfl⟩
  have hX2 : Hid (X.length = 1 * 2) := by show X.length = 1 * 2; rw [hX]; rfl
  rw [← hX] at CON one3 ⊢
  clear hX
  go_enter Tryd.func20, Tryd.ntmps20
  go_wp2_with (first
    | (go_at_call 30; (with_reducible refine kp.mono ?_); rintro e w1 ⟨rfl, hb1⟩; have HB := Lib.hid hb1; clear hb1)
    | (at_make; refine wpList_make_own _ rfl _ _ 22 rfl w.heap.size 39 i0 _ 2 Tryd.underlying22 hi hz0 hz1 .i64 .i64 _ 1 rfl rfl (by omega) (by rw [hz2]; omega) (by unfold maxLen; omega) HB.out.size ?_; intro w2 hown2 hgrow2; have HO2 := Lib.hid hown2; have HB2 := Lib.hid (HB.out.grown hgrow2 HB.out.size (fun r hr => by cases hr)); have HZ := Lib.hid HB.out.size; generalize w1.heap.size = g at *; clear hown2 hgrow2)
    | (at_builtin; refine wpList_append_fits_any _ rfl (.tmp 20) (.tmp 23) 22 rfl w.heap.size 39 i0 2 Tryd.underlying22 hi hz1 g 0 1 [] rfl HO2.out none 0 0 [] rfl rfl (fun _ => ⟨rfl, rfl⟩) (fun ad h => by cases h) (fun u hu => by cases hu) (by omega) ?_; intro w3 hown3 hgrow3; have HO3 := Lib.hid hown3; have HB3 := Lib.hid (HB2.out.grown hgrow3 HB2.out.size (fun r hr => by cases hr; exact HZ.out)); clear hown3 hgrow3)
    | (at_builtin; refine wpList_append_fits_any _ rfl (.tmp 25) (.tmp 29) 22 rfl w.heap.size 39 i0 2 Tryd.underlying22 hi hz1 g 0 1 [] rfl (HO3.out.alloc _) (some ⟨w3.heap.size, 0, none⟩) 1 1 X rfl hX2.out (fun h => by cases h) (fun ad had => CON.out w3 ad (by cases had; rfl)) one3.out (by omega) ?_; intro w4 hown4 hgrow4; have HO4 := Lib.hid hown4; have HB4 := Lib.hid ((HB3.out.alloc HB3.out.size _).grown hgrow4 (by have := HB3.out.size; simp; omega) (fun r hr => by cases hr; exact HZ.out)); clear hown4 hgrow4)
    | (at_builtin; refine wpList_append_fits_any _ rfl (.tmp 34) (.tmp 37) 22 rfl w.heap.size 39 i0 2 Tryd.underlying22 hi hz1 g 1 1 X rfl HO4.out none 0 0 [] rfl rfl (fun _ => ⟨rfl, rfl⟩) (fun ad h => by cases h) (fun u hu => by cases hu) (by omega) ?_; intro w5 hown5 hgrow5; rw [List.append_nil] at hown5; have HO5 := Lib.hid hown5; have HB5 := Lib.hid (HB4.out.grown hgrow5 HB4.out.size (fun r hr => by cases hr; exact HZ.out)); clear hown5 hgrow5))
  refine bodyPost_ret (results_tmp rfl _ _ _) rfl ?_
  exact ⟨⟨_, rfl, HO5.out⟩, HB5.out⟩
theorem atA_lt {vs : List Vr} {s : List UInt8} (h : atA vs s = true) : lowA vs s < vs.length := by
  unfold atA at h
  by_cases e : lowA vs s < vs.length
  · exact e
  · rw [List.getElem?_eq_none (by omega)] at h; cases h
/-- package arith's Set: a row of its own. -/
theorem setA_any (ao : Option Addr) (cap : Nat) (vs : List Vr) (x : Vr) (w : World) (h : Vars w.heap.size (.slice ao vs.length cap) vs w) (hr : risesA vs = true) (hno : ao = none → cap = 0) (hN : vs.length ≤ 4398046511000) :
    Calls Tryd.prog 20 #[.slice ao vs.length cap, .string x.n, .string x.v] w fun e w' => (∃ v, e = .returned v ∧ Vars w'.heap.size v (setA vs x) w') ∧ Below w.heap.size w w' := by
  have kp := placeA_any _ vs x.n w h hr
  have hl := h.len
  cases ao with
  | none =>
    obtain rfl := hno rfl
    have h0 : vs = [] := List.eq_nil_of_length_eq_zero (by omega)
    subst h0
    refine (setA_none x w kp).mono ?_
    rintro e w' ⟨⟨v, rfl, ho⟩, hb⟩
    have e1 : setA [] x = [x] := rfl
    have e2 : vsC [x] = x.cells := by simp [vsC]
    rw [e1]
    exact ⟨⟨v, rfl, (Vars.owned (vs := [x]) (by rw [e2]; exact ho) (by decide)).1⟩, hb⟩
  | some a =>
    have hlo := low_le vs x.n.data.toList
    refine (setA_some a cap vs.length (lowA vs x.n.data.toList) (if atA vs x.n.data.toList then 1 else 0) vs x (atA vs x.n.data.toList) w h rfl hl.2.1 (by
      split
      · rename_i ha; have := atA_lt ha; omega
      · omega) rfl hN kp).mono ?_
    rintro e w' ⟨⟨v, rfl, ho⟩, hb⟩
    have e2 : vsC (setA vs x) = vsC (vs.take (lowA vs x.n.data.toList)) ++ x.cells ++ vsC (vs.drop (lowA vs x.n.data.toList + if atA vs x.n.data.toList then 1 else 0)) := by
      unfold setA
      rw [vsC_append, List.append_assoc]
      rfl
    refine ⟨⟨v, rfl, (Vars.owned (vs := setA vs x) (by rw [e2]; exact ho) (by omega)).1⟩, hb⟩
end Go.Proofs.YtaaecgglocgcmaaDoor
