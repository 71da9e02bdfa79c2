/- Packed texts: MaSpansRow, MaShown0, MbSpan, MbSpans, ReNeq, ReRefRightAny. What each of them proves stands above its theorems; the conditions stand in these. -/
import Derived.Deep.LoopGhost
import Derived.Test.YtgffmbdbjbhocaaP0
import Derived.Test.YtgffmbdbjbhocaaP7
import Derived.Test.YtgffmbdbjbhocaaP8
namespace Go.Proofs.Ytgffmbdbjbhocaa
open Go.RowKit Go.Lib
attribute [local go_sem] Oper.semAt_some

theorem Try.infoTwo : (Try.prog.info? 41).map (fun i => (i.zero, i.size, i.bytes)) = some (some (.agg #[.int .i64 0, .int .i64 0]), 2, 16) := by kernel_rfl
def pairC (l : List (Nat × Nat)) : List Value := l.flatMap fun x => [.int .i64 (x.1 : Int), .int .i64 (x.2 : Int)]
theorem pairC_snoc (l : List (Nat × Nat)) (x : Nat × Nat) : pairC (l ++ [x]) = pairC l ++ [.int .i64 (x.1 : Int), .int .i64 (x.2 : Int)] := by unfold pairC; rw [List.flatMap_append]; rfl
theorem goL_length (G : Nat → Int) (n : Nat) : ∀ (f a : Nat) (e : Int), (goL G n f a e).length ≤ f
  | 0, _, _ => Nat.le_refl _
  | f + 1, a, e => by
    unfold goL
    split
    · exact Nat.zero_le _
    · split
      · exact Nat.le_succ_of_le (goL_length G n f _ _)
      · exact Nat.succ_le_succ (goL_length G n f _ _)
/-- The row of spans in the making. -/
structure RowS (h D c : Nat) (w : World) (pre : List (Nat × Nat)) (Z : World) : Prop where
  box : ∃ v, Z.heap[h]? = some (.cells #[v] 39 (0, 0)) ∧ Z.ownsRow (D + 2 + c) 41 2 v pre.length (pairC pre)
  low : Below h w Z
theorem RowS.grown {h D c : Nat} {w A B : World} {pre : List (Nat × Nat)} {row : Option Nat} (r : RowS h D c w pre A) (hD : h < D) (hg : A.grownBy B row) (hr : ∀ q, row = some q → D ≤ q ∧ ((q < D + 2 ∧ ∃ x t, A.heap[q]? = some (.cells #[x] t (0, 0))) ∨ ∃ o : Obj, A.heap[q]? = some o ∧ o.isCells = false)) : RowS h D c w pre B := by
  obtain ⟨v, h1, h2⟩ := r.box
  refine ⟨⟨v, (hg.block h (block_lt h1) (fun e => by have := (hr h e.symm).1; omega)).trans h1, owns_same h2 fun q hq => hg.block q (own_block_lt h2 hq) (fun e => ?_)⟩, r.low.grown hg (Nat.le_of_lt (block_lt h1)) (fun q hq => by have := (hr q hq).1; omega)⟩
  have hb := own_base h2 hq
  rcases (hr q e.symm).2 with ⟨hlt, _⟩ | ⟨o, ho, hc⟩
  · omega
  · rcases h2.2 with ⟨hv, _⟩ | ⟨g, cap, cur, hv, _, hgg, _⟩
    · rw [hv] at hq; cases hq
    · rw [hv] at hq
      cases hq
      rw [hgg] at ho
      cases ho
      cases hc
set_option maxHeartbeats 4000000 in
set_option maxRecDepth 100000 in
theorem spans_walk (b o cap : Nat) (T : Tr) (ts : List Nd) (s : ByteArray) (w : World) (hts : ts = T.row 0) (hok : T.ok) (hsz : ts.length ≤ 2000) (hs : s.size ≤ 1000000) (hL : Lies (.slice (some ⟨b, o, none⟩) ts.length cap) ts w) :
    CallsIn Fence.wide 0 Try.prog 29 #[.slice (some ⟨b, o, none⟩) ts.length cap, .string s] w fun e w' => ∃ v, e = .returned v ∧ w'.ownsRow w.heap.size 41 2 v (spansL s.data.toList T 0).length (pairC (spansL s.data.toList T 0)) ∧ Below w.heap.size w w' := by
  have k1 := fun w => callsIn_wide (n := 0).2 (spans_make (.slice (some ⟨b, o, none⟩) ts.length cap) s 0 w ⟨_, _, _, rfl⟩)
  have hLn : (spansL s.data.toList T 0).length ≤ 2000010 := by
    have := goL_length (farG s.data.toList T) s.data.toList.length (2 * (s.data.toList.length + 1 - 0) + 2) 0 (-1)
    have e : s.data.toList.length = s.size := Array.length_toList
    unfold spansL
    omega
  have H := Lib.hid (And.intro hts (And.intro hok (And.intro hsz (And.intro hs (And.intro hL hLn)))))
  clear hts hok hsz hs hL hLn
  obtain ⟨i0, hi, hz0, hz1, hz2⟩ := info_parts Try.infoTwo
  have HI0 := Lib.hid (And.intro hi (And.intro hz0 (And.intro hz1 hz2)))
  clear hi hz0 hz1 hz2
  refine callsIn_of_wp_marks Try.func29 rfl trivial ?_ rfl
  simp only [Try.ntmps29, List.size_toArray, List.length_cons, List.length_nil, Nat.reduceAdd, Nat.reduceSub, Array.replicate_succ, Array.replicate_zero, List.push_toArray, List.append_toArray, List.nil_append, List.cons_append]
  gi_wp2_with (first
    | (refine ⟨trivial, rfl, ?_⟩; gi_at_call 74; refine (k1 _).mono ?_; rintro e w2 ⟨rfl, rfl⟩)
    | fail)
  obtain ⟨h, hh⟩ : ∃ h, h = w.heap.size := ⟨_, rfl⟩
  rw [← hh]
  obtain ⟨V, hV⟩ : ∃ V, V = (((w.alloc (.cells #[.slice none 0 0] 39)).alloc (.cells #[.slice (some ⟨b, o, none⟩) ts.length cap] 22)).alloc (.cells #[.string s] 9)).alloc (.cells #[.int .i64 0] 3) := ⟨_, rfl⟩
  rw [← hV]
  have z1 : (w.alloc (.cells #[.slice none 0 0] 39)).heap.size = h + 1 := by rw [hh]; simp
  have z4 : ((w.alloc (.cells #[.slice none 0 0] 39)).alloc (.cells #[.slice (some ⟨b, o, none⟩) ts.length cap] 22)).heap.size = h + 2 := by rw [hh]; simp
  have z5 : (((w.alloc (.cells #[.slice none 0 0] 39)).alloc (.cells #[.slice (some ⟨b, o, none⟩) ts.length cap] 22)).alloc (.cells #[.string s] 9)).heap.size = h + 3 := by rw [hh]; simp
  have z6 : V.heap.size = h + 4 := by rw [hV, hh]; simp
  have v5 : V.heap[h + 3]? = some (.cells #[.int .i64 ((0 : Nat) : Int)] 3 (0, 0)) := by rw [hV, ← z5]; exact heap_alloc_new _ _
  have v4 : V.heap[h + 2]? = some (.cells #[.string s] 9 (0, 0)) := by rw [hV]; refine (Below.heap_alloc _ _ _ (by rw [z5]; omega)).trans ?_; rw [← z4]; exact heap_alloc_new _ _
  have v3 : V.heap[h + 1]? = some (.cells #[.slice (some ⟨b, o, none⟩) ts.length cap] 22 (0, 0)) := by rw [hV]; refine (Below.heap_alloc _ _ _ (by rw [z5]; omega)).trans ((Below.heap_alloc _ _ _ (by rw [z4]; omega)).trans ?_); rw [← z1]; exact heap_alloc_new _ _
  have v0 : V.heap[h]? = some (.cells #[.slice none 0 0] 39 (0, 0)) := by rw [hV]; refine (Below.heap_alloc _ _ _ (by rw [z5]; omega)).trans ((Below.heap_alloc _ _ _ (by rw [z4]; omega)).trans ((Below.heap_alloc _ _ _ (by rw [z1]; omega)).trans ?_)); rw [hh]; exact heap_alloc_new _ _
  have vB : Below h w V := by rw [hV, hh]; exact ((((Below.refl _ w).alloc (Nat.le_refl _) _).alloc (by simp) _).alloc (by simp; omega) _).alloc (by simp; omega) _
  have hLV := H.out.2.2.2.2.1.below (w' := V) (by rw [← hh]; exact vB)
  have HV := Lib.hid (And.intro v5 (And.intro v4 (And.intro v3 (And.intro hLV (And.intro v0 vB)))))
  have HH := Lib.hid hh
  clear hV z1 z4 z5 v5 v4 v3 v0 vB hLV k1 hh
  refine wp_rangeF (gf := 99) (lb := #[.pointer (some ⟨h + 1, 0, none⟩), .pointer (some ⟨h + 2, 0, none⟩), .pointer (some ⟨h + 3, 0, none⟩)]) (encs := encP) (L := spansL s.data.toList T 0) (K := fun j => j = h + 2) rfl (enters_of Try.func99 (by kernel_rfl) rfl) (fun _ => rfl)
    (fun Z hz ho => by
      obtain ⟨hts, hok, hsz, hs, _⟩ := H.out
      exact spans1 (h + 1) (h + 2) (h + 3) b o cap 0 T ts s Z hts hok hsz hs (by
        obtain ⟨ao, cp, e1, e2, e3⟩ := HV.out.2.2.2.1
        refine ⟨ao, cp, e1, e2, fun j n hj => ?_⟩
        obtain ⟨b', o', g1, g2, g3⟩ := e3 j n hj
        refine ⟨b', o', g1, by omega, ?_⟩
        have e : ∀ i, Z.cell? ⟨b', i, none⟩ = V.cell? ⟨b', i, none⟩ := fun i => by unfold World.cell?; rw [ho b' g2]
        unfold NdAt at g3 ⊢
        rw [e, e, e, e, e, e, e]
        exact g3) ((ho _ (by omega)).trans HV.out.2.2.1) ((ho _ (by omega)).trans HV.out.2.1) ((ho _ (by omega)).trans HV.out.1)) (fun j hj => by omega)
    (fun c pre Z => RowS h V.heap.size c w pre Z) (fun _ _ _ => False)
    (fun c pre A B row hs hg hr => hs.grown (by omega) hg hr)
    (fun _ _ _ _ _ hs _ _ => hs.elim)
    (fun c => ⟨⟨_, HV.out.2.2.2.2.1, World.ownsRow_nil _ _ _ _⟩, HV.out.2.2.2.2.2⟩)
    (fun x => { tmps := #[.slice (some ⟨b, o, none⟩) ts.length cap, .string s, undef, undef, .slice none 0 0, .pointer (some ⟨h, 0, none⟩), .int .i64 (x.1 : Int), .int .i64 (x.2 : Int),
      .slice (some ⟨b, o, none⟩) ts.length cap, .string s, .func (.func 99) #[] #[.pointer (some ⟨h + 1, 0, none⟩), .pointer (some ⟨h + 1 + 1, 0, none⟩), .pointer (some ⟨h + 1 + 1 + 1, 0, none⟩)], .int .i64 (x.1 : Int), .int .i64 (x.2 : Int), undef, undef, undef, undef, undef, undef, undef], defers := [] })
    ?assign ?body ?done ?stop
  case assign =>
    intro l2 x Z kk hK
    gi_wp2
    exact hK
  case body =>
    rintro l2 c pre x Z hsz hR ⟨rest, hpre⟩
    obtain ⟨v, hbox, hown⟩ := hR.box
    have hlow := hR.low
    have cb : Z.cell? ⟨h, 0, none⟩ = some v := by rw [cell_of_heap hbox]; rfl
    have n0 := World.new_ne Z ⟨h, 0, none⟩ cb
    have hm : pre.length + 1 ≤ 2000010 := by have := H.out.2.2.2.2.2; rw [hpre, List.length_append, List.length_cons] at this; omega
    have hZ := Lib.hid hbox
    have HOWN := Lib.hid hown
    have HLOW := Lib.hid hlow
    obtain ⟨m, hmm⟩ : ∃ m, m = pre.length := ⟨_, rfl⟩
    rw [← hmm] at HOWN hm
    have HM := Lib.hid hmm
    have hzs := block_lt hbox
    clear hR hpre hbox hown hlow hmm
    gi_wp2_with (first
      | (refine wpListIn_append_own _ rfl (.tmp 13) (.tmp 17) 39 rfl (V.heap.size + 2 + c) 41 i0 (.agg #[.int .i64 0, .int .i64 0]) 2 16 Try.underlying39 HI0.out.1 HI0.out.2.1 HI0.out.2.2.1 HI0.out.2.2.2 rfl (by decide) v m (pairC pre) rfl (owns_alloc HOWN.out) ⟨Z.heap.size, 0, none⟩ 1 1 [.int .i64 (x.1 : Int), .int .i64 (x.2 : Int)] rfl rfl (cells_twoM _ _ rfl _ _ _) (by simp [Value.oneCell']) (by unfold maxLen; omega) (by omega) (by simp; omega) ?_; intro v5 w5 hown5 hgrow5 _
         have hb5 : w5.heap[h]? = some (.cells #[v] 39 (0, 0)) := (hgrow5.block h (by simp; omega) (fun e => by have := own_base HOWN.out e.symm; omega)).trans ((Below.heap_alloc _ _ _ hzs).trans hZ.out)
         have cb5 : w5.cell? ⟨h, 0, none⟩ = some v := by rw [cell_of_heap hb5]; rfl
         have fb5 : w5.frozen? ⟨h, 0, none⟩ = false := frozen_of_heap hb5 0
         obtain ⟨g5, cap5, rfl⟩ := owned_slice hown5 (by omega)
         have H5 := Lib.hid (And.intro hown5 (And.intro hgrow5 hb5))
         clear hown5 hgrow5 hb5 cb n0)
      | fail)
    obtain ⟨hown5, hgrow5, hb5⟩ := H5.out
    have hz5 := hgrow5.size
    rw [World.size_alloc] at hz5
    refine ⟨by simp [World.setCell]; omega, fun j hj => ?_, ⟨⟨_, by simpa using heap_setCell_same w5 h 0 _ _ (Value.slice (some ⟨g5, 0, none⟩) (m + 1) cap5) hb5, ?_⟩, ?_⟩⟩
    · refine (Below.heap_setCell _ _ _ _ (by dsimp only; omega)).trans ((hgrow5.block j (by simp; omega) (fun e => by have := own_base HOWN.out e.symm; omega)).trans (Below.heap_alloc _ _ _ (by omega)))
    · have e : (pre ++ [x]).length = m + 1 := by rw [List.length_append, HM.out]; rfl
      rw [e, pairC_snoc]
      exact owns_same hown5 fun q hq => Below.heap_setCell _ _ _ _ (by have := own_base hown5 hq; dsimp only; omega)
    · exact ((HLOW.out.alloc (by omega) _).grown hgrow5 (by simp; omega) (fun q hq => by have := own_base HOWN.out hq; omega)).setCell (p := ⟨h, 0, none⟩) (Nat.le_refl _) _
  case done =>
    rintro c Z hR hK
    obtain ⟨v, hbox, hown⟩ := hR.box
    have hlow := hR.low
    have cb : Z.cell? ⟨h, 0, none⟩ = some v := by rw [cell_of_heap hbox]; rfl
    have HK := Lib.hid (And.intro hK (And.intro hown (And.intro hlow (block_lt hbox))))
    clear hR hbox hown hlow hK
    gi_wp2
    refine ⟨by simp, .inl ⟨_, _, rfl, run_takeDeferred HK.out.1, ?_⟩⟩
    obtain ⟨hK, hown, hlow, hz⟩ := HK.out
    refine ⟨_, results_tmp rfl _ _ _, _, rfl, ?_, ?_⟩
    · rw [← HH.out]
      refine owns_baseM (owns_same hown fun q hq => World.putObj_heap_other ?_) (by omega)
      rintro rfl
      rcases hown.2 with ⟨hv, _⟩ | ⟨g, cap, cur, hv, _, hgg, _⟩
      · rw [hv] at hq; cases hq
      · rw [hv] at hq
        cases hq
        have e := hgg.symm.trans hK
        cases e
    · rw [← HH.out]
      exact hlow.grown (putObj_grown _ _ _) (by omega) (fun k e => by cases e; omega)
  case stop =>
    rintro c pre Z hF hK
    exact hF.elim
/-- Package match's Spans, of a tree's row. -/
theorem spans_any (v : Value) (T : Tr) (ts : List Nd) (s : ByteArray) (w : World) (hts : ts = T.row 0) (hok : T.ok) (hsz : ts.length ≤ 2000) (hs : s.size ≤ 1000000) (hL : Lies v ts w) :
    Calls Try.prog 29 #[v, .string s] w fun e w' => ∃ v', e = .returned v' ∧ w'.ownsRow w.heap.size 41 2 v' (spansL s.data.toList T 0).length (pairC (spansL s.data.toList T 0)) ∧ Below w.heap.size w w' := by
  obtain ⟨b, o, cap, rfl⟩ := lies_ptr hts hL
  exact callsIn_wide.1 (spans_walk b o cap T ts s w hts hok hsz hs hL)
end Go.Proofs.Ytgffmbdbjbhocaa
namespace Go.Proofs.Ytgffmbdbjbhocaa
open Go.RowKit Go.Lib

theorem many_set {s : List UInt8} {k : K4} {a b : Nat} : Many (St s (.set k)) a b ↔ a ≤ b ∧ ∀ i, a ≤ i → i < b → inSet s k i = true := by
  constructor
  · intro h
    induction h with
    | refl => exact ⟨Nat.le_refl _, fun i h1 h2 => by omega⟩
    | @tail b c h1 h2 ih =>
      have h2 : c = b + 1 ∧ inSet s k b = true := h2
      refine ⟨by omega, fun i g1 g2 => ?_⟩
      by_cases hi : i < b
      · exact ih.2 i g1 hi
      · rw [show i = b by omega]; exact h2.2
  · rintro ⟨h1, h2⟩
    obtain ⟨d, rfl⟩ : ∃ d, b = a + d := ⟨b - a, by omega⟩
    induction d with
    | zero => exact .refl _
    | succ d ih => exact (ih (by omega) (fun i g1 g2 => h2 i g1 (by omega))).tail ⟨by omega, h2 _ (by omega) (by omega)⟩
theorem st_star {s : List UInt8} {k : K4} {a b : Nat} : St s (.rep 4 (.set k)) a b ↔ a ≤ b ∧ ∀ i, a ≤ i → i < b → inSet s k i = true := by
  rw [← many_set]
  exact Iff.rfl
theorem st_plus {s : List UInt8} {k : K4} {a b : Nat} : St s (.rep 5 (.set k)) a b ↔ a < b ∧ ∀ i, a ≤ i → i < b → inSet s k i = true := by
  show (∃ c, St s (.set k) a c ∧ Many (St s (.set k)) c b) ↔ _
  constructor
  · rintro ⟨c, hc, hm⟩
    have hc : c = a + 1 ∧ inSet s k a = true := hc
    obtain ⟨h1, h2⟩ := many_set.1 hm
    refine ⟨by omega, fun i g1 g2 => ?_⟩
    by_cases hi : i = a
    · rw [hi]; exact hc.2
    · exact h2 i (by omega) g2
  · rintro ⟨h1, h2⟩
    exact ⟨a + 1, ⟨rfl, h2 a (Nat.le_refl _) h1⟩, many_set.2 ⟨h1, fun i g1 g2 => h2 i (by omega) g2⟩⟩
theorem goL_end {G : Nat → Int} {n f a : Nat} {e : Int} (h : n < a) : goL G n (f + 1) a e = [] := by
  show (if n < a then [] else _) = _
  rw [if_pos h]
theorem goL_skip {G : Nat → Int} {n f a : Nat} {e : Int} (h : a ≤ n) (hc : G a = -1 ∨ (G a = a ∧ e = a)) : goL G n (f + 1) a e = goL G n f (a + 1) e := by
  show (if n < a then [] else if G a = -1 ∨ (G a = a ∧ e = a) then goL G n f (a + 1) e else _) = _
  rw [if_neg (by omega), if_pos hc]
theorem goL_take {G : Nat → Int} {n f a b : Nat} {e : Int} (h : a ≤ n) (hG : G a = (b : Int)) (hne : ¬ (b = a ∧ e = a)) : goL G n (f + 1) a e = (a, b) :: goL G n f b (b : Int) := by
  show (if n < a then [] else if G a = -1 ∨ (G a = a ∧ e = a) then _ else (a, (G a).toNat) :: goL G n f (G a).toNat (G a)) = _
  rw [if_neg (by omega), if_neg (by rw [hG]; exact fun hh => hh.elim (fun h => by omega) (fun h => hne ⟨by omega, h.2⟩)), hG, Int.toNat_natCast]
def tA : Tr := .rep 5 (.set (k4 (oneK 97)))
def tB : Tr := .rep 4 (.set (k4 (oneK 98)))
theorem inSet_one {s : List UInt8} {n p : Nat} {c : UInt8} (h : s[p]? = some c) : inSet s (k4 (oneK n)) p = (decide (c.toNat = n)) := by
  unfold inSet
  rw [h]
  dsimp only
  rw [has_k4 _ c.toNat_lt, has_one]
theorem spans_A : spansL [120, 97, 97, 121] tA 0 = [(1, 3)] := by
  have i0 : inSet [120, 97, 97, 121] (k4 (oneK 97)) 0 = false := (inSet_one rfl).trans rfl
  have i1 : inSet [120, 97, 97, 121] (k4 (oneK 97)) 1 = true := (inSet_one rfl).trans rfl
  have i2 : inSet [120, 97, 97, 121] (k4 (oneK 97)) 2 = true := (inSet_one rfl).trans rfl
  have i3 : inSet [120, 97, 97, 121] (k4 (oneK 97)) 3 = false := (inSet_one rfl).trans rfl
  have g0 : farG [120, 97, 97, 121] tA 0 = -1 := farG_none fun a _ h => by
    have := (st_plus.1 h).2 0 (Nat.le_refl _) (st_plus.1 h).1
    rw [i0] at this; cases this
  have g1 : farG [120, 97, 97, 121] tA 1 = ((3 : Nat) : Int) := farG_some (by decide) (st_plus.2 ⟨by omega, fun i h1 h2 => by
    rcases (show i = 1 ∨ i = 2 by omega) with rfl | rfl
    · exact i1
    · exact i2⟩) fun a' h1 _ h => by
      have := (st_plus.1 h).2 3 (by omega) h1
      rw [i3] at this; cases this
  have g3 : farG [120, 97, 97, 121] tA 3 = -1 := farG_none fun a _ h => by
    have := (st_plus.1 h).2 3 (Nat.le_refl _) (st_plus.1 h).1
    rw [i3] at this; cases this
  have g4 : farG [120, 97, 97, 121] tA 4 = -1 := farG_none fun a ha h => by
    have := (st_plus.1 h).1
    have ha : a ≤ 4 := ha
    omega
  show goL (farG [120, 97, 97, 121] tA) 4 12 0 (-1) = _
  rw [goL_skip (f := 11) (by omega) (.inl g0), goL_take (f := 10) (by omega) g1 (by omega), goL_skip (f := 9) (by omega) (.inl g3), goL_skip (f := 8) (by omega) (.inl g4), goL_end (f := 7) (by omega)]
theorem spans_B : spansL [97, 98, 98] tB 0 = [(0, 0), (1, 3)] := by
  have i0 : inSet [97, 98, 98] (k4 (oneK 98)) 0 = false := (inSet_one rfl).trans rfl
  have i1 : inSet [97, 98, 98] (k4 (oneK 98)) 1 = true := (inSet_one rfl).trans rfl
  have i2 : inSet [97, 98, 98] (k4 (oneK 98)) 2 = true := (inSet_one rfl).trans rfl
  have g0 : farG [97, 98, 98] tB 0 = ((0 : Nat) : Int) := farG_some (by decide) (st_star.2 ⟨Nat.le_refl _, fun i h1 h2 => by omega⟩) fun a' h1 _ h => by
    have := (st_star.1 h).2 0 (Nat.le_refl _) h1
    rw [i0] at this; cases this
  have g1 : farG [97, 98, 98] tB 1 = ((3 : Nat) : Int) := farG_some (by decide) (st_star.2 ⟨by omega, fun i h1 h2 => by
    rcases (show i = 1 ∨ i = 2 by omega) with rfl | rfl
    · exact i1
    · exact i2⟩) fun a' h1 h2 _ => by
      have h2 : a' ≤ 3 := h2
      omega
  have g3 : farG [97, 98, 98] tB 3 = ((3 : Nat) : Int) := farG_some (by decide) (st_star.2 ⟨Nat.le_refl _, fun i h1 h2 => by omega⟩) fun a' h1 h2 _ => by
    have h2 : a' ≤ 3 := h2
    omega
  show goL (farG [97, 98, 98] tB) 3 10 0 (-1) = _
  rw [goL_take (f := 9) (by omega) g0 (by omega), goL_skip (f := 8) (by omega) (.inr ⟨g0, rfl⟩), goL_take (f := 7) (by omega) g1 (by omega), goL_skip (f := 6) (by omega) (.inr ⟨g3, rfl⟩), goL_end (f := 5) (by omega)]
end Go.Proofs.Ytgffmbdbjbhocaa
namespace Go.Proofs.Ytgffmbdbjbhocaa
open Go.RowKit Go.Lib
attribute [local go_sem] Oper.semAt_some

theorem goL_on {G : Nat → Int} {n : Nat} {e : Int} : ∀ (d f k : Nat), (∀ a, k ≤ a → a < k + d → G a = -1) → muL n k e < f → k + d ≤ n + 1 → ∃ f', goL G n f k e = goL G n f' (k + d) e ∧ muL n (k + d) e < f'
  | 0, f, k, _, hm, _ => ⟨f, rfl, hm⟩
  | d + 1, f, k, h, hm, hk => by
    cases f with
    | zero => omega
    | succ f =>
      have h1 := muL_next n k e (by omega)
      obtain ⟨f', e1, e2⟩ := goL_on (n := n) (e := e) d f (k + 1) (fun a h1 h2 => h a (by omega) (by omega)) (by omega) (by omega)
      refine ⟨f', ?_, by rw [show k + (d + 1) = k + 1 + d by omega]; exact e2⟩
      rw [goL_skip (by omega) (.inl (h k (Nat.le_refl _) (by omega))), e1, show k + (d + 1) = k + 1 + d by omega]
theorem muL_start (n k : Nat) : muL n k (-1) < 2 * (n + 1 - k) + 2 := by unfold muL; split <;> omega
theorem spans_first {s : List UInt8} {T : Tr} {k a b : Nat} (h : ∀ a', k ≤ a' → a' < a → farG s T a' = -1) (hk : k ≤ a) (ha : a ≤ s.length) (hb : farG s T a = (b : Int)) : ∃ rest, spansL s T k = (a, b) :: rest := by
  obtain ⟨d, rfl⟩ : ∃ d, a = k + d := ⟨a - k, by omega⟩
  obtain ⟨f', e1, e2⟩ := goL_on (G := farG s T) (n := s.length) (e := -1) d _ k h (muL_start _ _) (by omega)
  cases f' with
  | zero => omega
  | succ f' =>
    refine ⟨goL (farG s T) s.length f' b (b : Int), ?_⟩
    unfold spansL
    rw [e1, goL_take (by omega) hb (by omega)]
theorem spans_no {s : List UInt8} {T : Tr} {k : Nat} (h : ∀ a', k ≤ a' → a' ≤ s.length → farG s T a' = -1) : spansL s T k = [] := by
  unfold spansL
  by_cases hk : k ≤ s.length
  · obtain ⟨f', e1, e2⟩ := goL_on (G := farG s T) (n := s.length) (e := -1) (s.length + 1 - k) _ k (fun a h1 h2 => h a h1 (by omega)) (muL_start _ _) (by omega)
    rw [e1, show k + (s.length + 1 - k) = s.length + 1 by omega]
    cases f' with
    | zero => rfl
    | succ f' => exact goL_end (by omega)
  · exact goL_end (by omega)
theorem far_none {s : List UInt8} {T : Tr} {a : Nat} (h : ∀ b, b ≤ s.length → stB s T a b = false) : farG s T a = -1 :=
  farG_none fun b hb hs => by
    have := h b hb
    rw [stB_iff.2 hs] at this
    cases this
theorem far_is {s : List UInt8} {T : Tr} {a b : Nat} (hb : b ≤ s.length) (h1 : stB s T a b = true) (h2 : ∀ c, b < c → c ≤ s.length → stB s T a c = false) : farG s T a = (b : Int) :=
  farG_some hb (stB_iff.1 h1) fun c g1 g2 hs => by
    have := h2 c g1 g2
    rw [stB_iff.2 hs] at this
    cases this

set_option maxHeartbeats 4000000 in
set_option maxRecDepth 100000 in
theorem refSpan_walk (b o cap k : Nat) (x : Int) (T : Tr) (ts : List Nd) (s : ByteArray) (w : World) (hxk : max x 0 = (k : Int)) (hx64 : x ≤ 9223372036854775807) (hts : ts = T.row 0) (hok : T.ok) (hsz : ts.length ≤ 2000) (hs : s.size ≤ 1000000) (hL : Lies (.slice (some ⟨b, o, none⟩) ts.length cap) ts w) :
    Calls Try.prog 75 #[.slice (some ⟨b, o, none⟩) ts.length cap, .string s, .int .i64 x] w fun e w' => e = .returned (spanV (spansL s.data.toList T k)) ∧ Below w.heap.size w w' := by
  have hlen : s.data.toList.length = s.size := Array.length_toList
  have kf := fun (a : Nat) (w : World) (ha : a ≤ s.size) (hL : Lies (.slice (some ⟨b, o, none⟩) ts.length cap) ts w) => from1_walk b o cap a T ts s w hts hok hsz hs ha hL
  obtain ⟨n1, hn1⟩ : ∃ n1, n1 = s.size + 1 := ⟨_, rfl⟩
  have H := Lib.hid (And.intro hlen (And.intro hL hn1))
  obtain ⟨N, hN⟩ : ∃ N, N = ts.length := ⟨_, rfl⟩
  obtain ⟨Z, hZ⟩ : ∃ Z, Z = spanV (spansL s.data.toList T k) := ⟨_, rfl⟩
  rw [← hZ]
  have HZ := Lib.hid hZ
  have hk63 : (k : Int) ≤ 9223372036854775807 := by omega
  have hxx : (x < 0 ∧ k = 0) ∨ (0 ≤ x ∧ x = (k : Int)) := by omega
  clear hts hok hsz hL hlen hn1 hN hZ hxk
  go_enter Try.func75, Try.ntmps75
  rcases hxx with ⟨hx0, hk0⟩ | ⟨hx0, hk0⟩
  all_goals
    have HX := Lib.hid (And.intro hx64 hk0)
    clear hx64 hk0 hk63
    go_wp2
    go_loopg [9] (s.size + 1000000 + 9223372036854775807) (fun g va wr => ∃ a : Nat, va = .int .i64 a ∧ Hid (a ≤ 9223372036854775807 ∧ g + a = s.size + 1000000 + 9223372036854775807 + k ∧ k ≤ a ∧ (∀ a', k ≤ a' → a' < a → farG s.data.toList T a' = -1) ∧ Below w.heap.size w wr))
    case atStart => exact ⟨k, (by first | (rw [HX.out.2]; done) | (rw [HX.out.2]; rfl)), by have := HX.out; omega, by omega, Nat.le_refl _, fun a' h1 h2 => by omega, Below.refl _ _⟩
    case round =>
      obtain ⟨a, rfl, HR⟩ := hrel
      by_cases hlt : a ≤ s.size
      · have hltI : (a : Int) ≤ (s.size : Int) := by omega
        have kfa := kf a wr hlt (H.out.2.1.below HR.out.2.2.2.2)
        unfold From1 at kfa
        rw [H.out.1, ← H.out.2.2] at kfa
        go_wp2_with (first
          | (go_at_call 101; refine kfa.mono ?_; rintro e w1 ⟨ho, hho, rfl, hrow, hb1⟩
             have H1 := Lib.hid (And.intro hho (And.intro hrow hb1))
             clear hho hrow hb1 kfa)
          | fail)
        go_loop [11] (fun vb => ∃ z : Int, vb = .int .i64 z ∧ (a : Int) - 1 ≤ z ∧ z ≤ s.size ∧ Hid (∀ b' : Nat, z < b' → b' ≤ s.size → stB s.data.toList T a b' = false)) (fun vb => (RowKit.intOf vb + 1).toNat)
        case atStart => exact ⟨s.size, rfl, by omega, by omega, fun b' h1 h2 => by omega⟩
        case round =>
          obtain ⟨z, rfl, hz1, hz2, HN⟩ := hrel
          by_cases hza : (a : Int) ≤ z
          · obtain ⟨j, rfl⟩ : ∃ j : Nat, z = (j : Int) := ⟨z.toNat, by omega⟩
            obtain ⟨q, hq⟩ : ∃ q, q = stB s.data.toList T a j := ⟨_, rfl⟩
            have cj : w1.cell? ⟨ho, j, none⟩ = some (.bool q) := by
              rw [cell_of_heap H1.out.2.1, hq]
              simpa using rowC_get s.size (stB s.data.toList T a) j (by omega)
            have hjn : (j : Int) < (n1 : Int) := by have := H.out.2.2; omega
            have j0 : (0 : Int) ≤ (j : Int) := by omega
            have hJ : IntKind.i64.wrap ((j : Int) - 1) = (j : Int) - 1 := IntWalk.i64_in _ (by omega)
            have HQ := Lib.hid hq
            clear hq
            cases q
            · go_wp2
              go_round
              case rel => exact ⟨(j : Int) - 1, rfl, by omega, by omega, fun b' h1 h2 => by
                by_cases hbj : b' = j
                · rw [hbj]; exact HQ.out.symm
                · exact HN.out b' (by omega) h2⟩
              case measure => simp [RowKit.intOf] <;> omega
            · go_wp2
              refine bodyPost_ret (results_tmp3 rfl _ _ _) rfl ⟨?_, HR.out.2.2.2.2.trans (H1.out.2.2.mono HR.out.2.2.2.2.size)⟩
              have hf : farG s.data.toList T a = (j : Int) := far_is (by rw [H.out.1]; omega) HQ.out.symm (fun c h1 h2 => HN.out c (by omega) (by rw [H.out.1] at h2; exact h2))
              obtain ⟨rest, hr⟩ := spans_first HR.out.2.2.2.1 HR.out.2.2.1 (by rw [H.out.1]; exact hlt) hf
              rw [HZ.out, hr]
              rfl
          · have hdec : decide ((a : Int) ≤ z) = false := decide_eq_false hza
            have hf : farG s.data.toList T a = -1 := far_none fun b' hb => by
              by_cases hba : z < (b' : Int)
              · exact HN.out b' hba (by rw [H.out.1] at hb; exact hb)
              · cases hq : stB s.data.toList T a b' with
                | false => rfl
                | true => have := St.le _ _ _ _ (stB_iff.1 hq); omega
            have HF := Lib.hid hf
            have hI : IntKind.i64.wrap ((a : Int) + 1) = ((a + 1 : Nat) : Int) := by rw [IntWalk.i64_in _ (by omega)]; omega
            clear hf hza
            go_wp2
            go_roundg (s.size + 1000000 + 9223372036854775807 + k - (a + 1))
            case rel =>
              refine ⟨a + 1, by go_num, by omega, by have := HR.out; omega, by have := HR.out.2.2.1; omega, fun a' h1 h2 => ?_, HR.out.2.2.2.2.trans (H1.out.2.2.mono HR.out.2.2.2.2.size)⟩
              by_cases haa : a' = a
              · rw [haa]; exact HF.out
              · exact HR.out.2.2.2.1 a' h1 (by omega)
            case measure => have := HR.out; omega
      · have hdec : decide ((a : Int) ≤ (s.size : Int)) = false := decide_eq_false (by omega)
        go_wp2
        refine bodyPost_ret (results_tmp3 rfl _ _ _) rfl ⟨?_, HR.out.2.2.2.2⟩
        rw [HZ.out, spans_no fun a' h1 h2 => HR.out.2.2.2.1 a' h1 (by rw [H.out.1] at h2; omega)]
        rfl
/-- The document's Span, of a tree's row. -/
theorem refSpan_any (v : Value) (x : Int) (T : Tr) (ts : List Nd) (s : ByteArray) (w : World) (hx64 : x ≤ 9223372036854775807) (hts : ts = T.row 0) (hok : T.ok) (hsz : ts.length ≤ 2000) (hs : s.size ≤ 1000000) (hL : Lies v ts w) :
    Calls Try.prog 75 #[v, .string s, .int .i64 x] w fun e w' => e = .returned (spanV (spansL s.data.toList T x.toNat)) ∧ Below w.heap.size w w' := by
  obtain ⟨b, o, cap, rfl⟩ := lies_ptr hts hL
  exact refSpan_walk b o cap x.toNat x T ts s w (by omega) hx64 hts hok hsz hs hL
end Go.Proofs.Ytgffmbdbjbhocaa
namespace Go.Proofs.Ytgffmbdbjbhocaa
open Go.RowKit Go.Lib
attribute [local go_sem] Oper.semAt_some

theorem span_cases (s : List UInt8) (T : Tr) (k : Nat) : (spansL s T k = [] ∧ ∀ a', k ≤ a' → a' ≤ s.length → farG s T a' = -1) ∨ ∃ a b rest, spansL s T k = (a, b) :: rest ∧ k ≤ a ∧ a ≤ s.length ∧ (∀ a', k ≤ a' → a' < a → farG s T a' = -1) ∧ farG s T a = ((b : Nat) : Int) ∧ a ≤ b ∧ b ≤ s.length := by
  have key : ∀ d, (∀ a', k ≤ a' → a' < k + d → farG s T a' = -1) ∨ ∃ a, k ≤ a ∧ a < k + d ∧ (∀ a', k ≤ a' → a' < a → farG s T a' = -1) ∧ farG s T a ≠ -1 := by
    intro d
    induction d with
    | zero => exact .inl fun a' h1 h2 => by omega
    | succ d ih =>
      rcases ih with h | ⟨a, h1, h2, h3, h4⟩
      · by_cases hf : farG s T (k + d) = -1
        · refine .inl fun a' h1 h2 => ?_
          by_cases e : a' = k + d
          · rw [e]; exact hf
          · exact h a' h1 (by omega)
        · exact .inr ⟨k + d, by omega, by omega, h, hf⟩
      · exact .inr ⟨a, h1, by omega, h3, h4⟩
  rcases key (s.length + 1 - k) with h | ⟨a, h1, h2, h3, h4⟩
  · have h' : ∀ a', k ≤ a' → a' ≤ s.length → farG s T a' = -1 := fun a' h1 h2 => h a' h1 (by omega)
    exact .inl ⟨spans_no h', h'⟩
  · rcases farG_cases s T a with h5 | ⟨b, h5, h6, h7, _⟩
    · exact absurd h5 h4
    · obtain ⟨rest, hr⟩ := spans_first h3 h1 (by omega) h5
      exact .inr ⟨a, b, rest, hr, h1, by omega, h3, h5, h6, h7⟩
theorem muL_mono {n k a : Nat} {e : Int} (h : k ≤ a) (_ha : a ≤ n) (he : e ≤ k) : muL n a e ≤ muL n k e := by
  unfold muL
  split <;> split <;> omega
/-- What holds between two rounds. -/
structure SpsS (s : List UInt8) (T : Tr) (w : World) (v : Value) (k : Nat) (t : Bool) (g : Nat) (W : World) : Prop where
  list : ∃ pre f e, spansL s T 0 = pre ++ goL (farG s T) s.length f k e ∧ muL s.length k e < f ∧ (t = true ↔ e = (k : Int)) ∧ e ≤ k ∧ g = muL s.length k e ∧ W.ownsRow w.heap.size 41 2 v pre.length (pairC pre)
  low : Below w.heap.size w W
  le : k ≤ s.length + 1
set_option maxHeartbeats 4000000 in
set_option maxRecDepth 100000 in
theorem refSpans_walk (b o cap : Nat) (T : Tr) (ts : List Nd) (s : ByteArray) (w : World) (hts : ts = T.row 0) (hok : T.ok) (hsz : ts.length ≤ 2000) (hs : s.size ≤ 1000000) (hL : Lies (.slice (some ⟨b, o, none⟩) ts.length cap) ts w) :
    Calls Try.prog 30 #[.slice (some ⟨b, o, none⟩) ts.length cap, .string s] w fun e w' => ∃ v, e = .returned v ∧ w'.ownsRow w.heap.size 41 2 v (spansL s.data.toList T 0).length (pairC (spansL s.data.toList T 0)) ∧ Below w.heap.size w w' := by
  have hlen : s.data.toList.length = s.size := Array.length_toList
  have kf := fun (a : Nat) (w : World) (ha : a ≤ s.size + 1) (hL : Lies (.slice (some ⟨b, o, none⟩) ts.length cap) ts w) => refSpan_any _ (a : Int) T ts s w (by omega) hts hok hsz hs hL
  have hLn : (spansL s.data.toList T 0).length ≤ 2000010 := by
    have := goL_length (farG s.data.toList T) s.data.toList.length (2 * (s.data.toList.length + 1 - 0) + 2) 0 (-1)
    unfold spansL
    omega
  obtain ⟨i0, hi, hz0, hz1, hz2⟩ := info_parts Try.infoTwo
  have H := Lib.hid (And.intro hlen (And.intro hL hLn))
  have HI0 := Lib.hid (And.intro hi (And.intro hz0 (And.intro hz1 hz2)))
  clear hts hok hsz hL hlen hLn hi hz0 hz1 hz2
  go_enter Try.func30, Try.ntmps30
  go_wp2
  go_loopg [5, 6, 7] (muL s.size 0 (-1)) (fun g v5 v6 v7 wr => ∃ (k : Nat) (t : Bool), v6 = .int .i64 k ∧ v7 = .bool t ∧ Hid (SpsS s.data.toList T w v5 k t g wr))
  case atStart =>
    refine ⟨0, false, rfl, rfl, ⟨[], 2 * (s.data.toList.length + 1 - 0) + 2, -1, rfl, muL_start _ _, ⟨fun h => (by cases h), fun h => (by omega)⟩, by omega, by rw [H.out.1], World.ownsRow_nil _ _ _ _⟩, Below.refl _ _, by omega⟩
  case round =>
    obtain ⟨k, t, rfl, rfl, HS⟩ := hrel
    have kfa := kf k wr (by have := HS.out.le; rw [H.out.1] at this; exact this) (H.out.2.1.below HS.out.low)
    rw [Int.toNat_natCast] at kfa
    rcases span_cases s.data.toList T k with ⟨h0, hn⟩ | ⟨x, y, rest, h0, hkx, hxn, hno, hfx, hxy, hyn⟩
    · rw [h0] at kfa
      have kfa : Calls Try.prog 75 #[.slice (some ⟨b, o, none⟩) ts.length cap, .string s, .int .i64 (k : Int)] wr fun e w' => e = .returned (.tuple #[.int .i64 0, .int .i64 0, .bool false]) ∧ Below wr.heap.size wr w' := kfa
      have HN := Lib.hid hn
      clear h0 hn
      go_wp2_with (first
        | (go_at_call 75; refine kfa.mono ?_; rintro e w1 ⟨rfl, hb1⟩
           have H1 := Lib.hid hb1
           clear hb1 kfa)
        | fail)
      obtain ⟨pre, f, e, g1, g2, g3, g4, g5, g6⟩ := HS.out.list
      have hlow := HS.out.low
      have hle := HS.out.le
      have hnil : goL (farG s.data.toList T) s.data.toList.length f k e = [] := by
        by_cases hk : k ≤ s.data.toList.length
        · obtain ⟨f', e1, e2⟩ := goL_on (G := farG s.data.toList T) (n := s.data.toList.length) (e := e) (s.data.toList.length + 1 - k) f k (fun a h1 h2 => HN.out a h1 (by omega)) g2 (by omega)
          rw [e1, show k + (s.data.toList.length + 1 - k) = s.data.toList.length + 1 by omega]
          cases f' with
          | zero => rfl
          | succ f' => exact goL_end (by omega)
        · cases f with
          | zero => rfl
          | succ f => exact goL_end (by omega)
      rw [hnil, List.append_nil] at g1
      refine bodyPost_ret (results_tmp rfl _ _ _) rfl ⟨_, rfl, ?_, hlow.trans (H1.out.mono hlow.size)⟩
      rw [g1]
      exact owns_same g6 fun q hq => H1.out.block q (own_block_lt g6 hq)
    · rw [h0] at kfa
      have kfa : Calls Try.prog 75 #[.slice (some ⟨b, o, none⟩) ts.length cap, .string s, .int .i64 (k : Int)] wr fun e w' => e = .returned (.tuple #[.int .i64 (x : Int), .int .i64 (y : Int), .bool true]) ∧ Below wr.heap.size wr w' := kfa
      have hy2 : y ≤ s.size := by rw [← H.out.1]; exact hyn
      by_cases hskip : x = y ∧ t = true ∧ x = k
      · obtain ⟨rfl, rfl, rfl⟩ := hskip
        have e1 : ((x : Int) == (x : Int)) = true := by simp
        have hI : IntKind.i64.wrap ((x : Int) + 1) = ((x + 1 : Nat) : Int) := by rw [IntWalk.i64_in _ (by omega)]; omega
        have HX := Lib.hid (And.intro hfx hxn)
        clear h0 hno hfx hkx hxy
        go_wp2_with (first
          | (go_at_call 75; refine kfa.mono ?_; rintro e w1 ⟨rfl, hb1⟩
             have H1 := Lib.hid hb1
             clear hb1 kfa)
          | fail)
        go_roundg (muL s.size (x + 1) (x : Int))
        case rel =>
          obtain ⟨pre, f, e, g1, g2, g3, g4, g5, g6⟩ := HS.out.list
          have hlow := HS.out.low
          have he := g3.1 rfl
          subst he
          refine ⟨x + 1, false, by go_num, rfl, ⟨pre, f - 1, x, ?_, ?_, ⟨fun h => (by cases h), fun h => (by omega)⟩, by omega, by rw [H.out.1], ?_⟩, hlow.trans (H1.out.mono hlow.size), by have := HX.out.2; omega⟩
          · cases f with
            | zero => omega
            | succ f => rw [g1, goL_skip HX.out.2 (.inr ⟨HX.out.1, rfl⟩)]; rfl
          · have := muL_next s.data.toList.length x (x : Int) HX.out.2
            omega
          · exact owns_same g6 fun q hq => H1.out.block q (own_block_lt g6 hq)
        case measure =>
          obtain ⟨pre, f, e, g1, g2, g3, g4, g5, g6⟩ := HS.out.list
          have he := g3.1 rfl
          subst he
          have := muL_next s.data.toList.length x (x : Int) HX.out.2
          rw [H.out.1] at this g5
          omega
      · have HX := Lib.hid (And.intro hskip (And.intro hkx (And.intro hxn (And.intro hno (And.intro hfx (And.intro hxy hyn))))))
        have hcase : ((x : Int) == (y : Int)) = false ∨ (((x : Int) == (y : Int)) = true ∧ t = false) ∨ (((x : Int) == (y : Int)) = true ∧ t = true ∧ ((x : Int) == (k : Int)) = false) := by
          by_cases h1 : x = y
          · cases t
            · exact .inr (.inl ⟨by simp; omega, rfl⟩)
            · refine .inr (.inr ⟨by simp; omega, rfl, ?_⟩)
              rw [beq_eq_false_iff_ne]
              intro h
              exact hskip ⟨h1, rfl, by omega⟩
          · left
            rw [beq_eq_false_iff_ne]
            omega
        obtain ⟨pre, f, e, g1, g2, g3, g4, g5, g6⟩ := HS.out.list
        have hm : pre.length ≤ 2000010 := by
          have := H.out.2.2
          rw [g1, List.length_append] at this
          omega
        obtain ⟨m, hmm⟩ : ∃ m, m = pre.length := ⟨_, rfl⟩
        rw [← hmm] at hm g6
        have HG := Lib.hid (And.intro g1 (And.intro g2 (And.intro g3 (And.intro g4 (And.intro g5 (And.intro g6 hmm))))))
        clear hskip h0 hno hfx hkx hxy hxn hyn g1 g2 g3 g4 g5 g6 hmm
        have hnew : ∀ (v' : Value) (W : World), W.ownsRow w.heap.size 41 2 v' (m + 1) (pairC pre ++ [.int .i64 (x : Int), .int .i64 (y : Int)]) → Below w.heap.size w W → SpsS s.data.toList T w v' y true (muL s.size y (y : Int)) W ∧ muL s.size y (y : Int) < gk := fun v' W hown hlow => by
          obtain ⟨hskip, hkx, hxn, hno, hfx, hxy, hyn⟩ := HX.out
          obtain ⟨g1, g2, g3, g4, g5, g6, hmm⟩ := HG.out
          obtain ⟨d, rfl⟩ : ∃ d, x = k + d := ⟨x - k, by omega⟩
          obtain ⟨f', e1, e2⟩ := goL_on (G := farG s.data.toList T) (n := s.data.toList.length) (e := e) d f k hno g2 (by omega)
          have hne : ¬ (y = k + d ∧ e = ((k + d : Nat) : Int)) := by
            rintro ⟨h1, h2⟩
            have hd : k + d = k := by omega
            exact hskip ⟨h1.symm, g3.2 (by omega), hd⟩
          have hmt := muL_take s.data.toList.length (k + d) y e hxn hxy hne
          have hmm2 := muL_mono (n := s.data.toList.length) (k := k) (a := k + d) (e := e) hkx hxn g4
          cases f' with
          | zero => omega
          | succ f' =>
            refine ⟨⟨⟨pre ++ [(k + d, y)], f', y, ?_, by omega, ⟨fun _ => rfl, fun _ => rfl⟩, by omega, by rw [H.out.1], ?_⟩, hlow, by omega⟩, ?_⟩
            · rw [g1, e1, goL_take hxn hfx hne, List.append_assoc]
              rfl
            · rw [List.length_append, ← hmm, pairC_snoc]
              exact hown
            · rw [← H.out.1, g5]
              omega
        have HNEW := Lib.hid hnew
        clear hnew
        rcases hcase with hc | ⟨hc, rfl⟩ | ⟨hc, rfl, hc2⟩
        all_goals
          go_wp2_with (first
            | (go_at_call 75; refine kfa.mono ?_; rintro e w1 ⟨rfl, hb1⟩
               have hown1 := owns_same HG.out.2.2.2.2.2.1 fun q hq => hb1.block q (own_block_lt HG.out.2.2.2.2.2.1 hq)
               have H1 := Lib.hid (And.intro hown1 hb1)
               clear hb1 kfa hown1)
            | (at_builtin; refine wpList_append_own _ rfl (.tmp 35) (.tmp 39) 39 rfl w.heap.size 41 i0 (.agg #[.int .i64 0, .int .i64 0]) 2 16 Try.underlying39 HI0.out.1 HI0.out.2.1 HI0.out.2.2.1 HI0.out.2.2.2 rfl (by decide) _ m (pairC pre) rfl (owns_alloc H1.out.1) ⟨w1.heap.size, 0, none⟩ 1 1 [.int .i64 (x : Int), .int .i64 (y : Int)] rfl rfl (cells_twoM _ _ rfl _ _ _) (by simp [Value.oneCell']) (by unfold maxLen; omega) (by omega) (by have := HS.out.low.size; have := H1.out.2.size; simp; omega) ?_; intro v5 w5 hown5 hgrow5 _
               obtain ⟨g9, cap9, rfl⟩ := owned_slice hown5 (by omega)
               have H5 := Lib.hid (And.intro hown5 hgrow5)
               clear hown5 hgrow5)
            | fail)
          have hend := HNEW.out _ _ H5.out.1 (((HS.out.low.trans (H1.out.2.mono HS.out.low.size)).alloc (by have := HS.out.low.size; have := H1.out.2.size; omega) _).grown H5.out.2 (by have := HS.out.low.size; have := H1.out.2.size; simp; omega) (fun q hq => own_base H1.out.1 hq))
          have HE := Lib.hid hend
          clear hend
          go_roundg (muL s.size y (y : Int))
          case rel => exact ⟨y, true, rfl, rfl, HE.out.1⟩
          case measure => exact HE.out.2
/-- The document's Spans, of a tree's row. -/
theorem refSpans_any (v : Value) (T : Tr) (ts : List Nd) (s : ByteArray) (w : World) (hts : ts = T.row 0) (hok : T.ok) (hsz : ts.length ≤ 2000) (hs : s.size ≤ 1000000) (hL : Lies v ts w) :
    Calls Try.prog 30 #[v, .string s] w fun e w' => ∃ v', e = .returned v' ∧ w'.ownsRow w.heap.size 41 2 v' (spansL s.data.toList T 0).length (pairC (spansL s.data.toList T 0)) ∧ Below w.heap.size w w' := by
  obtain ⟨b, o, cap, rfl⟩ := lies_ptr hts hL
  exact refSpans_walk b o cap T ts s w hts hok hsz hs hL
end Go.Proofs.Ytgffmbdbjbhocaa
namespace Go.Proofs.Ytgffmbdbjbhocaa
open Go.RowKit Go.Lib

theorem run_neq_two (a b c d : Int) (w : World) : (binOp .neq 41 (.agg #[.int .i64 a, .int .i64 b]) (.agg #[.int .i64 c, .int .i64 d])).run Try.prog w = .ok (.bool (!(a == c && b == d))) w := by
  rw [run_neq_struct, eql_two]
  rfl
theorem run_neq_cls (a b c d e f g h : Int) (w : World) :
    (binOp .neq 54 (.agg #[.int .u64 a, .int .u64 b, .int .u64 c, .int .u64 d]) (.agg #[.int .u64 e, .int .u64 f, .int .u64 g, .int .u64 h])).run Try.prog w = .ok (.bool (!(a == e && (b == f && (c == g && d == h))))) w := by
  rw [run_neq_struct, eql_cls]
  rfl
set_option maxHeartbeats 1000000 in
set_option maxRecDepth 20000 in
theorem many_any (k : Int) (w : World) : Calls Try.prog 63 #[.int .i64 k] w fun e w' => e = .returned (.int .i64 (kidsN k)) ∧ w' = w := by
  rcases kinds_cases k with rfl | rfl | rfl | rfl | rfl | rfl | rfl | rfl | rfl | ⟨h0, h1, h2, h3, h4, h5, h6, h7, h8, hk⟩
  case inr.inr.inr.inr.inr.inr.inr.inr.inr =>
    rw [hk]
    clear hk
    have hc : decide (4 ≤ k) = false ∨ (decide (4 ≤ k) = true ∧ decide (k ≤ 6) = false) := by
      have a4 := beq_eq_false_iff_ne.1 h4
      have a5 := beq_eq_false_iff_ne.1 h5
      have a6 := beq_eq_false_iff_ne.1 h6
      by_cases h : 4 ≤ k
      · exact .inr ⟨decide_eq_true h, decide_eq_false (by omega)⟩
      · exact .inl (decide_eq_false h)
    rcases hc with c1 | ⟨c1, c2⟩
    · go_enter Try.func63, Try.ntmps63
      go_wp2
      exact bodyPost_ret (results_tmp rfl _ _ _) rfl ⟨rfl, rfl⟩
    · go_enter Try.func63, Try.ntmps63
      go_wp2
      exact bodyPost_ret (results_tmp rfl _ _ _) rfl ⟨rfl, rfl⟩
  all_goals
    go_enter Try.func63, Try.ntmps63
    go_wp2
    exact bodyPost_ret (results_tmp rfl _ _ _) rfl ⟨rfl, rfl⟩

end Go.Proofs.Ytgffmbdbjbhocaa
namespace Go.Proofs.Ytgffmbdbjbhocaa
open Go.RowKit Go.Lib


set_option maxHeartbeats 2000000 in
set_option maxRecDepth 20000 in
theorem begin_neg (u : Value) (w : World) : Calls Try.prog 52 #[u, .int .i64 (-1)] w fun e w' => e = .returned (.int .i64 (-1)) ∧ Below w.heap.size w w' := by
  go_enter Try.func52, Try.ntmps52
  go_wp2
  exact bodyPost_ret (results_tmp rfl _ _ _) rfl ⟨rfl, Below.refl _ _⟩

set_option maxHeartbeats 2000000 in
set_option maxRecDepth 20000 in
theorem bg_stray (N cap b o r : Nat) (k p q u v x y m : Int) (w : World) (hr : r < N) (_hN : N ≤ 2000)
    (c0 : w.cell? ⟨b, o + r * 7, none⟩ = some (.int .i64 k)) (c1 : w.cell? ⟨b, o + r * 7 + 1, none⟩ = some (.int .u64 p)) (c2 : w.cell? ⟨b, o + r * 7 + 2, none⟩ = some (.int .u64 q)) (c3 : w.cell? ⟨b, o + r * 7 + 3, none⟩ = some (.int .u64 u)) (c4 : w.cell? ⟨b, o + r * 7 + 4, none⟩ = some (.int .u64 v)) (c5 : w.cell? ⟨b, o + r * 7 + 5, none⟩ = some (.int .i64 x)) (c6 : w.cell? ⟨b, o + r * 7 + 6, none⟩ = some (.int .i64 y))
    (ts : List Nd) (_hL : Lies (.slice (some ⟨b, o, none⟩) N cap) ts w) (kk : ∀ w, Calls Try.prog 63 #[.int .i64 k] w fun e w' => e = .returned (.int .i64 m) ∧ w' = w)
    (hs : decide (m < 0) = true ∨ (decide (m < 0) = false ∧ (k != 1) = true ∧ (!(p == 0 && (q == 0 && (u == 0 && v == 0)))) = true)) :
    Calls Try.prog 52 #[.slice (some ⟨b, o, none⟩) N cap, .int .i64 (r : Int)] w fun e w' => e = .returned (.int .i64 (-1)) ∧ Below w.heap.size w w' := by
  have e3 := run_neq_cls p q u v 0 0 0 0
  generalize (!(p == 0 && (q == 0 && (u == 0 && v == 0)))) = s at e3 hs
  rcases hs with hm | ⟨hm, hk, rfl⟩
  all_goals
    go_enter Try.func52, Try.ntmps52
    go_wp2_with (first
      | (go_at_call 63; refine (kk _).mono ?_; rintro e w1 ⟨rfl, rfl⟩)
      | fail)
    exact bodyPost_ret (results_tmp rfl _ _ _) rfl ⟨rfl, (Below.refl _ w).alloc (Nat.le_refl _) _⟩

set_option maxHeartbeats 2000000 in
set_option maxRecDepth 20000 in
theorem bg_end (N cap b o r : Nat) (k p q u v x y m : Int) (w : World) (hr : r < N) (_hN : N ≤ 2000)
    (c0 : w.cell? ⟨b, o + r * 7, none⟩ = some (.int .i64 k)) (c1 : w.cell? ⟨b, o + r * 7 + 1, none⟩ = some (.int .u64 p)) (c2 : w.cell? ⟨b, o + r * 7 + 2, none⟩ = some (.int .u64 q)) (c3 : w.cell? ⟨b, o + r * 7 + 3, none⟩ = some (.int .u64 u)) (c4 : w.cell? ⟨b, o + r * 7 + 4, none⟩ = some (.int .u64 v)) (c5 : w.cell? ⟨b, o + r * 7 + 5, none⟩ = some (.int .i64 x)) (c6 : w.cell? ⟨b, o + r * 7 + 6, none⟩ = some (.int .i64 y))
    (ts : List Nd) (_hL : Lies (.slice (some ⟨b, o, none⟩) N cap) ts w) (kk : ∀ w, Calls Try.prog 63 #[.int .i64 k] w fun e w' => e = .returned (.int .i64 m) ∧ w' = w) (hm : m = 0) (hg : (k != 1) = false ∨ ((k != 1) = true ∧ p = 0 ∧ q = 0 ∧ u = 0 ∧ v = 0)) :
    Calls Try.prog 52 #[.slice (some ⟨b, o, none⟩) N cap, .int .i64 (r : Int)] w fun e w' => e = .returned (.int .i64 (if x = 0 ∧ y = 0 then (r : Int) else -1)) ∧ Below w.heap.size w w' := by
  have e3 := run_neq_cls p q u v 0 0 0 0
  have hg : (k != 1) = false ∨ ((k != 1) = true ∧ (!(p == 0 && (q == 0 && (u == 0 && v == 0)))) = false) := by
    rcases hg with h | ⟨h, rfl, rfl, rfl, rfl⟩
    · exact .inl h
    · exact .inr ⟨h, rfl⟩
  generalize (!(p == 0 && (q == 0 && (u == 0 && v == 0)))) = s at e3 hg
  have e2 := run_neq_two x y 0 0
  subst hm
  have hb : (x = 0 ∧ y = 0 ∧ (!(x == 0 && y == 0)) = false) ∨ (¬ (x = 0 ∧ y = 0) ∧ (!(x == 0 && y == 0)) = true) := by
    by_cases hx : x = 0 <;> by_cases hy : y = 0 <;> simp [hx, hy]
  generalize (!(x == 0 && y == 0)) = z at e2 hb
  rcases hb with ⟨hx, hy, rfl⟩ | ⟨hn, rfl⟩
  · rw [if_pos ⟨hx, hy⟩]
    clear hx hy
    rcases hg with hk | ⟨hk, rfl⟩
    all_goals
      go_enter Try.func52, Try.ntmps52
      go_wp2_with (first
        | (go_at_call 63; refine (kk _).mono ?_; rintro e w1 ⟨rfl, rfl⟩)
        | fail)
      exact bodyPost_ret (results_tmp rfl _ _ _) rfl ⟨rfl, (Below.refl _ w).alloc (Nat.le_refl _) _⟩
  · rw [if_neg hn]
    clear hn
    rcases hg with hk | ⟨hk, rfl⟩
    all_goals
      go_enter Try.func52, Try.ntmps52
      go_wp2_with (first
        | (go_at_call 63; refine (kk _).mono ?_; rintro e w1 ⟨rfl, rfl⟩)
        | fail)
      exact bodyPost_ret (results_tmp rfl _ _ _) rfl ⟨rfl, (Below.refl _ w).alloc (Nat.le_refl _) _⟩

set_option maxHeartbeats 2000000 in
set_option maxRecDepth 20000 in
theorem bg_one (N cap b o r : Nat) (k p q u v x y m : Int) (w : World) (hr : r < N) (hN : N ≤ 2000)
    (c0 : w.cell? ⟨b, o + r * 7, none⟩ = some (.int .i64 k)) (c1 : w.cell? ⟨b, o + r * 7 + 1, none⟩ = some (.int .u64 p)) (c2 : w.cell? ⟨b, o + r * 7 + 2, none⟩ = some (.int .u64 q)) (c3 : w.cell? ⟨b, o + r * 7 + 3, none⟩ = some (.int .u64 u)) (c4 : w.cell? ⟨b, o + r * 7 + 4, none⟩ = some (.int .u64 v)) (c5 : w.cell? ⟨b, o + r * 7 + 5, none⟩ = some (.int .i64 x)) (c6 : w.cell? ⟨b, o + r * 7 + 6, none⟩ = some (.int .i64 y))
    (ts : List Nd) (hL : Lies (.slice (some ⟨b, o, none⟩) N cap) ts w) (kk : ∀ w, Calls Try.prog 63 #[.int .i64 k] w fun e w' => e = .returned (.int .i64 m) ∧ w' = w) (hm : m = 1) (hg : (k != 1) = false ∨ ((k != 1) = true ∧ p = 0 ∧ q = 0 ∧ u = 0 ∧ v = 0)) (a : Int)
    (ka : ∀ w, Lies (.slice (some ⟨b, o, none⟩) N cap) ts w → Calls Try.prog 52 #[.slice (some ⟨b, o, none⟩) N cap, .int .i64 ((r : Int) - 1)] w fun e w' => e = .returned (.int .i64 a) ∧ Below w.heap.size w w') :
    Calls Try.prog 52 #[.slice (some ⟨b, o, none⟩) N cap, .int .i64 (r : Int)] w fun e w' => e = .returned (.int .i64 (if x = (r : Int) - 1 ∧ y = 0 then a else -1)) ∧ Below w.heap.size w w' := by
  have e3 := run_neq_cls p q u v 0 0 0 0
  have hg : (k != 1) = false ∨ ((k != 1) = true ∧ (!(p == 0 && (q == 0 && (u == 0 && v == 0)))) = false) := by
    rcases hg with h | ⟨h, rfl, rfl, rfl, rfl⟩
    · exact .inl h
    · exact .inr ⟨h, rfl⟩
  generalize (!(p == 0 && (q == 0 && (u == 0 && v == 0)))) = s at e3 hg
  have e2 := run_neq_two x y ((r : Int) - 1) 0
  have hI : IntKind.i64.wrap ((r : Int) - 1) = (r : Int) - 1 := IntWalk.i64_in _ (by omega)
  subst hm
  have HL := Lib.hid hL
  clear hL
  have hb : (x = (r : Int) - 1 ∧ y = 0 ∧ (!(x == (r : Int) - 1 && y == 0)) = false) ∨ (¬ (x = (r : Int) - 1 ∧ y = 0) ∧ (!(x == (r : Int) - 1 && y == 0)) = true) := by
    by_cases hx : x = (r : Int) - 1 <;> by_cases hy : y = 0 <;> simp [hx, hy]
  generalize (!(x == (r : Int) - 1 && y == 0)) = z at e2 hb
  rcases hb with ⟨hx, hy, rfl⟩ | ⟨hn, rfl⟩
  · rw [if_pos ⟨hx, hy⟩]
    clear hx hy
    rcases hg with hk | ⟨hk, rfl⟩
    all_goals
      go_enter Try.func52, Try.ntmps52
      go_wp2_with (first
        | (go_at_call 63; refine (kk _).mono ?_; rintro e w1 ⟨rfl, rfl⟩)
        | (go_at_call 52; refine (ka _ (HL.out.below ((Below.refl _ w).alloc (Nat.le_refl _) _))).mono ?_; rintro e w2 ⟨rfl, hb2⟩)
        | fail)
      exact bodyPost_ret (results_tmp rfl _ _ _) rfl ⟨rfl, ((Below.refl _ w).alloc (Nat.le_refl _) _).trans (hb2.mono (by simp))⟩
  · rw [if_neg hn]
    clear hn
    rcases hg with hk | ⟨hk, rfl⟩
    all_goals
      go_enter Try.func52, Try.ntmps52
      go_wp2_with (first
        | (go_at_call 63; refine (kk _).mono ?_; rintro e w1 ⟨rfl, rfl⟩)
        | fail)
      exact bodyPost_ret (results_tmp rfl _ _ _) rfl ⟨rfl, (Below.refl _ w).alloc (Nat.le_refl _) _⟩

set_option maxHeartbeats 2000000 in
set_option maxRecDepth 20000 in
theorem bg_two (N cap b o r : Nat) (k p q u v x y m : Int) (w : World) (hr : r < N) (hN : N ≤ 2000)
    (c0 : w.cell? ⟨b, o + r * 7, none⟩ = some (.int .i64 k)) (c1 : w.cell? ⟨b, o + r * 7 + 1, none⟩ = some (.int .u64 p)) (c2 : w.cell? ⟨b, o + r * 7 + 2, none⟩ = some (.int .u64 q)) (c3 : w.cell? ⟨b, o + r * 7 + 3, none⟩ = some (.int .u64 u)) (c4 : w.cell? ⟨b, o + r * 7 + 4, none⟩ = some (.int .u64 v)) (c5 : w.cell? ⟨b, o + r * 7 + 5, none⟩ = some (.int .i64 x)) (c6 : w.cell? ⟨b, o + r * 7 + 6, none⟩ = some (.int .i64 y))
    (ts : List Nd) (hL : Lies (.slice (some ⟨b, o, none⟩) N cap) ts w) (kk : ∀ w, Calls Try.prog 63 #[.int .i64 k] w fun e w' => e = .returned (.int .i64 m) ∧ w' = w) (hm : m = 2) (hg : (k != 1) = false ∨ ((k != 1) = true ∧ p = 0 ∧ q = 0 ∧ u = 0 ∧ v = 0)) (a a2 : Int) (ha0 : -1 ≤ a) (ha1 : a ≤ 2000)
    (ka : ∀ w, Lies (.slice (some ⟨b, o, none⟩) N cap) ts w → Calls Try.prog 52 #[.slice (some ⟨b, o, none⟩) N cap, .int .i64 ((r : Int) - 1)] w fun e w' => e = .returned (.int .i64 a) ∧ Below w.heap.size w w')
    (kb : 1 ≤ a → ∀ w, Lies (.slice (some ⟨b, o, none⟩) N cap) ts w → Calls Try.prog 52 #[.slice (some ⟨b, o, none⟩) N cap, .int .i64 (a - 1)] w fun e w' => e = .returned (.int .i64 a2) ∧ Below w.heap.size w w') :
    Calls Try.prog 52 #[.slice (some ⟨b, o, none⟩) N cap, .int .i64 (r : Int)] w fun e w' => e = .returned (.int .i64 (if 1 ≤ a ∧ x = a - 1 ∧ y = (r : Int) - 1 then a2 else -1)) ∧ Below w.heap.size w w' := by
  have e3 := run_neq_cls p q u v 0 0 0 0
  have hg : (k != 1) = false ∨ ((k != 1) = true ∧ (!(p == 0 && (q == 0 && (u == 0 && v == 0)))) = false) := by
    rcases hg with h | ⟨h, rfl, rfl, rfl, rfl⟩
    · exact .inl h
    · exact .inr ⟨h, rfl⟩
  generalize (!(p == 0 && (q == 0 && (u == 0 && v == 0)))) = s at e3 hg
  have e2 := run_neq_two x y (a - 1) ((r : Int) - 1)
  have hI : IntKind.i64.wrap ((r : Int) - 1) = (r : Int) - 1 := IntWalk.i64_in _ (by omega)
  have hJ : IntKind.i64.wrap (a - 1) = a - 1 := IntWalk.i64_in _ (by omega)
  subst hm
  have HL := Lib.hid hL
  clear hL
  have hb : (x = a - 1 ∧ y = (r : Int) - 1 ∧ (!(x == a - 1 && y == (r : Int) - 1)) = false) ∨ (¬ (x = a - 1 ∧ y = (r : Int) - 1) ∧ (!(x == a - 1 && y == (r : Int) - 1)) = true) := by
    by_cases hx : x = a - 1 <;> by_cases hy : y = (r : Int) - 1 <;> simp [hx, hy]
  generalize (!(x == a - 1 && y == (r : Int) - 1)) = z at e2 hb
  by_cases h1 : 1 ≤ a
  · have d1 : decide (a < 1) = false := decide_eq_false (by omega)
    rcases hb with ⟨hx, hy, rfl⟩ | ⟨hn, rfl⟩
    · rw [if_pos ⟨h1, hx, hy⟩]
      have kb := kb h1
      clear hx hy h1 ha0 ha1
      rcases hg with hk | ⟨hk, rfl⟩
      all_goals
        go_enter Try.func52, Try.ntmps52
        go_wp2_with (first
          | (go_at_call 63; refine (kk _).mono ?_; rintro e w1 ⟨rfl, rfl⟩)
          | (go_at_call 52; first
              | (with_reducible refine (ka _ (HL.out.below ((Below.refl _ w).alloc (Nat.le_refl _) _))).mono ?_; rintro e w2 ⟨rfl, hb2⟩
                 have HB2 := Lib.hid (((Below.refl _ w).alloc (Nat.le_refl _) _).trans (hb2.mono (by simp)))
                 have hgg := hb2.block w.heap.size (by simp)
                 rw [heap_alloc_new] at hgg
                 obtain ⟨q0, q1, q2, q3, q4, q5, q6⟩ := node_cells hgg
                 clear hgg hb2 ka)
              | (with_reducible refine (kb _ (HL.out.below HB2.out)).mono ?_; rintro e w3 ⟨rfl, hb3⟩))
          | fail)
        exact bodyPost_ret (results_tmp rfl _ _ _) rfl ⟨rfl, HB2.out.trans (hb3.mono HB2.out.size)⟩
    · rw [if_neg fun h => hn h.2]
      clear hn h1 ha0 ha1 kb
      rcases hg with hk | ⟨hk, rfl⟩
      all_goals
        go_enter Try.func52, Try.ntmps52
        go_wp2_with (first
          | (go_at_call 63; refine (kk _).mono ?_; rintro e w1 ⟨rfl, rfl⟩)
          | (go_at_call 52; first
              | (with_reducible refine (ka _ (HL.out.below ((Below.refl _ w).alloc (Nat.le_refl _) _))).mono ?_; rintro e w2 ⟨rfl, hb2⟩
                 have HB2 := Lib.hid (((Below.refl _ w).alloc (Nat.le_refl _) _).trans (hb2.mono (by simp)))
                 have hgg := hb2.block w.heap.size (by simp)
                 rw [heap_alloc_new] at hgg
                 obtain ⟨q0, q1, q2, q3, q4, q5, q6⟩ := node_cells hgg
                 clear hgg hb2 ka))
          | fail)
        exact bodyPost_ret (results_tmp rfl _ _ _) rfl ⟨rfl, HB2.out⟩
  · rw [if_neg fun h => h1 h.1]
    have d1 : decide (a < 1) = true := decide_eq_true (by omega)
    clear hb h1 ha0 ha1 kb
    rcases hg with hk | ⟨hk, rfl⟩
    all_goals
      go_enter Try.func52, Try.ntmps52
      go_wp2_with (first
        | (go_at_call 63; refine (kk _).mono ?_; rintro e w1 ⟨rfl, rfl⟩)
        | (go_at_call 52; first
            | (with_reducible refine (ka _ (HL.out.below ((Below.refl _ w).alloc (Nat.le_refl _) _))).mono ?_; rintro e w2 ⟨rfl, hb2⟩
               have HB2 := Lib.hid (((Below.refl _ w).alloc (Nat.le_refl _) _).trans (hb2.mono (by simp)))
               have hgg := hb2.block w.heap.size (by simp)
               rw [heap_alloc_new] at hgg
               obtain ⟨q0, q1, q2, q3, q4, q5, q6⟩ := node_cells hgg
               clear hgg hb2 ka))
        | fail)
      exact bodyPost_ret (results_tmp rfl _ _ _) rfl ⟨rfl, HB2.out⟩

theorem sub_rep {ts : List Nd} {j : Nat} {a : Tr} {n : Nat} (h : Sub ts a n) (hr : ts[n + a.size]? = some ⟨(j : Int), k0, (n : Int) + a.size - 1, 0⟩) : Sub ts (.rep j a) n := fun i hi => by
  have hi : i < a.size + 1 := hi
  show _ = (a.row n ++ [_])[i]?
  by_cases hlt : i < a.size
  · rw [List.getElem?_append_left (by rw [Tr.row_length]; exact hlt)]
    exact h i hlt
  · obtain rfl : i = a.size := by omega
    rw [hr, List.getElem?_append_right (by rw [Tr.row_length]; omega), Tr.row_length, Nat.sub_self]
    rfl
theorem sub_two {ts : List Nd} {j : Nat} {a b : Tr} {n : Nat} (h : Sub ts a n) (h2 : Sub ts b (n + a.size)) (hr : ts[n + a.size + b.size]? = some ⟨(j : Int), k0, (n : Int) + a.size - 1, (n : Int) + a.size + b.size - 1⟩) : Sub ts (.two j a b) n := fun i hi => by
  have hi : i < a.size + b.size + 1 := hi
  show _ = (a.row n ++ (b.row (n + a.size) ++ [_]))[i]?
  by_cases hlt : i < a.size
  · rw [List.getElem?_append_left (by rw [Tr.row_length]; exact hlt)]
    exact h i hlt
  · rw [List.getElem?_append_right (by rw [Tr.row_length]; omega), Tr.row_length]
    by_cases hlt2 : i < a.size + b.size
    · rw [List.getElem?_append_left (by rw [Tr.row_length]; omega)]
      have := h2 (i - a.size) (by omega)
      rwa [show n + a.size + (i - a.size) = n + i by omega] at this
    · obtain rfl : i = a.size + b.size := by omega
      rw [← Nat.add_assoc, hr, List.getElem?_append_right (by rw [Tr.row_length]; omega), Tr.row_length, show a.size + b.size - a.size - b.size = 0 by omega]
      rfl
theorem sub_all {ts : List Nd} {t : Tr} (h : Sub ts t 0) (hl : ts.length = t.size) : ts = t.row 0 := by
  apply List.ext_getElem?
  intro i
  by_cases hi : i < t.size
  · have := h i hi
    rwa [Nat.zero_add] at this
  · rw [List.getElem?_eq_none (by omega), List.getElem?_eq_none (by rw [Tr.row_length]; omega)]
theorem kidsN_cases (k : Int) : kidsN k = -1 ∨ (kidsN k = 0 ∧ (k = 0 ∨ k = 1 ∨ k = 7 ∨ k = 8)) ∨ (kidsN k = 1 ∧ (k = 4 ∨ k = 5 ∨ k = 6)) ∨ (kidsN k = 2 ∧ (k = 2 ∨ k = 3)) := by
  unfold kidsN
  by_cases h : k = 0 ∨ k = 1 ∨ k = 7 ∨ k = 8
  · rw [if_pos h]; exact .inr (.inl ⟨rfl, h⟩)
  · rw [if_neg h]
    by_cases h2 : k = 4 ∨ k = 5 ∨ k = 6
    · rw [if_pos h2]; exact .inr (.inr (.inl ⟨rfl, h2⟩))
    · rw [if_neg h2]
      by_cases h3 : k = 2 ∨ k = 3
      · rw [if_pos h3]; exact .inr (.inr (.inr ⟨rfl, h3⟩))
      · rw [if_neg h3]; exact .inl rfl
/-- Where a node's nodes begin, if they are a tree's. -/
def Root (ts : List Nd) (r : Nat) (x : Int) : Prop := x = -1 ∨ ∃ T n, x = ((n : Nat) : Int) ∧ Tr.ok T ∧ Sub ts T n ∧ r + 1 = n + T.size
theorem word_zero {a : BitVec 64} (h : (a.toNat : Int) = 0) : a = 0 := by
  apply BitVec.eq_of_toNat_eq
  show a.toNat = 0
  omega
theorem begin_any (ts : List Nd) (N cap b o : Nat) (hN : N = ts.length) (hN2 : N ≤ 2000) : ∀ (r : Nat), r < N → ∃ x : Int, Root ts r x ∧
    ∀ w, Lies (.slice (some ⟨b, o, none⟩) N cap) ts w → Calls Try.prog 52 #[.slice (some ⟨b, o, none⟩) N cap, .int .i64 (r : Int)] w fun e w' => e = .returned (.int .i64 x) ∧ Below w.heap.size w w' := by
  intro r
  induction r using Nat.strongRecOn with
  | ind r ih =>
    intro hr
    obtain ⟨n, hn⟩ : ∃ n, ts[r]? = some n := ⟨ts[r]'(by omega), List.getElem?_eq_getElem _⟩
    have hat : ∀ w, Lies (.slice (some ⟨b, o, none⟩) N cap) ts w → NdAt b (o + r * 7) n w := fun w hL => by
      obtain ⟨b', o', h1, _, h3⟩ := hL.at hn
      cases h1
      exact h3
    obtain ⟨k, ⟨s1, s2, s3, s4⟩, x, y⟩ := n
    have kk := fun w => many_any k w
    have hm := kidsN_cases k
    by_cases hst : kidsN k = -1 ∨ (k ≠ 1 ∧ (⟨s1, s2, s3, s4⟩ : K4) ≠ k0)
    · refine ⟨-1, .inl rfl, fun w hL => ?_⟩
      obtain ⟨a0, a1, a2, a3, a4, a5, a6⟩ := hat w hL
      refine bg_stray N cap b o r k _ _ _ _ x y (kidsN k) w hr hN2 a0 a1 a2 a3 a4 a5 a6 ts hL kk ?_
      by_cases hm1 : kidsN k = -1
      · exact .inl (decide_eq_true (by omega))
      · refine .inr ⟨decide_eq_false (by omega), ?_⟩
        rcases hst with h | ⟨h1, h2⟩
        · exact absurd h hm1
        · refine ⟨by simpa using h1, ?_⟩
          by_cases hz : (((s1.toNat : Int) == 0) && (((s2.toNat : Int) == 0) && (((s3.toNat : Int) == 0) && ((s4.toNat : Int) == 0)))) = true
          · exfalso
            simp only [Bool.and_eq_true, beq_iff_eq] at hz
            obtain ⟨z1, z2, z3, z4⟩ := hz
            apply h2
            rw [word_zero z1, word_zero z2, word_zero z3, word_zero z4]
            rfl
          · rw [Bool.eq_false_iff.2 hz]; rfl
    · have hgood : k = 1 ∨ (⟨s1, s2, s3, s4⟩ : K4) = k0 := by
        by_cases h1 : k = 1
        · exact .inl h1
        · by_cases h2 : (⟨s1, s2, s3, s4⟩ : K4) = k0
          · exact .inr h2
          · exact absurd (.inr ⟨h1, h2⟩) hst
      have hg : (k != 1) = false ∨ ((k != 1) = true ∧ (s1.toNat : Int) = 0 ∧ (s2.toNat : Int) = 0 ∧ (s3.toNat : Int) = 0 ∧ (s4.toNat : Int) = 0) := by
        by_cases h1 : k = 1
        · exact .inl (by simpa using h1)
        · refine .inr ⟨by simpa using h1, ?_⟩
          rcases hgood with h | h
          · exact absurd h h1
          · cases h
            exact ⟨rfl, rfl, rfl, rfl⟩
      rcases hm with hm | ⟨hm, hk⟩ | ⟨hm, hk⟩ | ⟨hm, hk⟩
      · exact absurd (.inl hm) hst
      · refine ⟨if x = 0 ∧ y = 0 then (r : Int) else -1, ?_, fun w hL => ?_⟩
        · by_cases hxy : x = 0 ∧ y = 0
          · rw [if_pos hxy]
            obtain ⟨rfl, rfl⟩ := hxy
            rcases hk with rfl | rfl | rfl | rfl
            · cases hgood.resolve_left (by omega)
              exact .inr ⟨.leaf 0, r, rfl, .inl rfl, fun j hj => by obtain rfl : j = 0 := Nat.lt_one_iff.1 hj; exact hn, rfl⟩
            · exact .inr ⟨.set ⟨s1, s2, s3, s4⟩, r, rfl, trivial, fun j hj => by obtain rfl : j = 0 := Nat.lt_one_iff.1 hj; exact hn, rfl⟩
            · cases hgood.resolve_left (by omega)
              exact .inr ⟨.leaf 7, r, rfl, .inr (.inl rfl), fun j hj => by obtain rfl : j = 0 := Nat.lt_one_iff.1 hj; exact hn, rfl⟩
            · cases hgood.resolve_left (by omega)
              exact .inr ⟨.leaf 8, r, rfl, .inr (.inr rfl), fun j hj => by obtain rfl : j = 0 := Nat.lt_one_iff.1 hj; exact hn, rfl⟩
          · rw [if_neg hxy]; exact .inl rfl
        · obtain ⟨a0, a1, a2, a3, a4, a5, a6⟩ := hat w hL
          exact bg_end N cap b o r k _ _ _ _ x y (kidsN k) w hr hN2 a0 a1 a2 a3 a4 a5 a6 ts hL kk hm hg
      · cases hgood.resolve_left (by omega)
        obtain ⟨a, ha, ka⟩ : ∃ a : Int, (a = -1 ∨ (1 ≤ r ∧ Root ts (r - 1) a)) ∧ ∀ w, Lies (.slice (some ⟨b, o, none⟩) N cap) ts w → Calls Try.prog 52 #[.slice (some ⟨b, o, none⟩) N cap, .int .i64 ((r : Int) - 1)] w fun e w' => e = .returned (.int .i64 a) ∧ Below w.heap.size w w' := by
          by_cases hr0 : r = 0
          · subst hr0
            exact ⟨-1, .inl rfl, fun w _ => begin_neg _ w⟩
          · obtain ⟨a, ha, k1⟩ := ih (r - 1) (by omega) (by omega)
            refine ⟨a, .inr ⟨by omega, ha⟩, fun w hL => ?_⟩
            have := k1 w hL
            rwa [show ((r - 1 : Nat) : Int) = (r : Int) - 1 by omega] at this
        refine ⟨if x = (r : Int) - 1 ∧ y = 0 then a else -1, ?_, fun w hL => ?_⟩
        · by_cases hxy : x = (r : Int) - 1 ∧ y = 0
          · rw [if_pos hxy]
            obtain ⟨rfl, rfl⟩ := hxy
            rcases ha with ha | ⟨hr1, ha | ⟨T, n, ha, hok, hs, hsz⟩⟩
            · exact .inl ha
            · exact .inl ha
            · obtain ⟨j, rfl⟩ : ∃ j : Nat, k = (j : Int) := ⟨k.toNat, by omega⟩
              refine .inr ⟨.rep j T, n, ha, ⟨by omega, hok⟩, sub_rep hs ?_, by show r + 1 = n + (T.size + 1); omega⟩
              rw [show n + T.size = r by omega, hn]
              congr 2
              omega
          · rw [if_neg hxy]; exact .inl rfl
        · obtain ⟨a0, a1, a2, a3, a4, a5, a6⟩ := hat w hL
          exact bg_one N cap b o r k _ _ _ _ x y (kidsN k) w hr hN2 a0 a1 a2 a3 a4 a5 a6 ts hL kk hm hg a ka
      · cases hgood.resolve_left (by omega)
        obtain ⟨a, ha, ka⟩ : ∃ a : Int, (a = -1 ∨ (1 ≤ r ∧ Root ts (r - 1) a)) ∧ ∀ w, Lies (.slice (some ⟨b, o, none⟩) N cap) ts w → Calls Try.prog 52 #[.slice (some ⟨b, o, none⟩) N cap, .int .i64 ((r : Int) - 1)] w fun e w' => e = .returned (.int .i64 a) ∧ Below w.heap.size w w' := by
          by_cases hr0 : r = 0
          · subst hr0
            exact ⟨-1, .inl rfl, fun w _ => begin_neg _ w⟩
          · obtain ⟨a, ha, k1⟩ := ih (r - 1) (by omega) (by omega)
            refine ⟨a, .inr ⟨by omega, ha⟩, fun w hL => ?_⟩
            have := k1 w hL
            rwa [show ((r - 1 : Nat) : Int) = (r : Int) - 1 by omega] at this
        have hab : -1 ≤ a ∧ a ≤ 2000 ∧ (1 ≤ a → ∃ T n, a = ((n : Nat) : Int) ∧ Tr.ok T ∧ Sub ts T n ∧ r = n + T.size) := by
          rcases ha with ha | ⟨hr1, ha | ⟨T, n, ha, hok, hs, hsz⟩⟩
          · exact ⟨by omega, by omega, fun h => by omega⟩
          · exact ⟨by omega, by omega, fun h => by omega⟩
          · have := T.size_pos
            exact ⟨by omega, by omega, fun _ => ⟨T, n, ha, hok, hs, by omega⟩⟩
        by_cases h1 : 1 ≤ a
        · obtain ⟨T, n, han, hok, hs, hsz⟩ := hab.2.2 h1
          have hp := T.size_pos
          obtain ⟨a2, ha2, kb⟩ := ih (n - 1) (by omega) (by omega)
          have kb : 1 ≤ a → ∀ w, Lies (.slice (some ⟨b, o, none⟩) N cap) ts w → Calls Try.prog 52 #[.slice (some ⟨b, o, none⟩) N cap, .int .i64 (a - 1)] w fun e w' => e = .returned (.int .i64 a2) ∧ Below w.heap.size w w' := fun _ w hL => by
            have := kb w hL
            rwa [show ((n - 1 : Nat) : Int) = a - 1 by omega] at this
          refine ⟨if 1 ≤ a ∧ x = a - 1 ∧ y = (r : Int) - 1 then a2 else -1, ?_, fun w hL => ?_⟩
          · by_cases hxy : 1 ≤ a ∧ x = a - 1 ∧ y = (r : Int) - 1
            · rw [if_pos hxy]
              obtain ⟨_, rfl, rfl⟩ := hxy
              rcases ha2 with ha2 | ⟨T2, n2, ha2, hok2, hs2, hsz2⟩
              · exact .inl ha2
              · obtain ⟨j, rfl⟩ : ∃ j : Nat, k = (j : Int) := ⟨k.toNat, by omega⟩
                have en : n = n2 + T2.size := by omega
                subst en
                refine .inr ⟨.two j T2 T, n2, ha2, ⟨by omega, hok2, hok⟩, sub_two hs2 hs ?_, by show r + 1 = n2 + (T2.size + T.size + 1); omega⟩
                rw [show n2 + T2.size + T.size = r by omega, hn]
                congr 2 <;> omega
            · rw [if_neg hxy]; exact .inl rfl
          · obtain ⟨a0, a1, a2', a3, a4, a5, a6⟩ := hat w hL
            exact bg_two N cap b o r k _ _ _ _ x y (kidsN k) w hr hN2 a0 a1 a2' a3 a4 a5 a6 ts hL kk hm hg a a2 hab.1 hab.2.1 ka kb
        · refine ⟨if 1 ≤ a ∧ x = a - 1 ∧ y = (r : Int) - 1 then 0 else -1, by rw [if_neg fun h => h1 h.1]; exact .inl rfl, fun w hL => ?_⟩
          obtain ⟨a0, a1, a2', a3, a4, a5, a6⟩ := hat w hL
          exact bg_two N cap b o r k _ _ _ _ x y (kidsN k) w hr hN2 a0 a1 a2' a3 a4 a5 a6 ts hL kk hm hg a 0 hab.1 hab.2.1 ka (fun h => absurd h h1)

set_option maxHeartbeats 1000000 in
set_option maxRecDepth 20000 in
theorem refRight_says (v : Value) (N cap r : Nat) (ao : Option Addr) (x : Int) (q : Bool) (w : World) (hv : v = .slice ao N cap) (hN : N ≤ 2000) (hr : r + 1 = N) (hq : (x == 0) = q) (k : Calls Try.prog 52 #[v, .int .i64 (r : Int)] w fun e w' => e = .returned (.int .i64 x) ∧ Below w.heap.size w w') :
    Calls Try.prog 17 #[v] w fun e w' => e = .returned (.bool q) ∧ Below w.heap.size w w' := by
  subst hv
  have hI : IntKind.i64.wrap ((N : Int) - 1) = (r : Int) := by rw [IntWalk.i64_in _ (by omega)]; omega
  have h1 : decide ((N : Int) ≤ 2000) = true := by simp; omega
  have h2 : decide ((0 : Int) < (N : Int)) = true := by simp; omega
  go_enter Try.func17, Try.ntmps17
  go_wp2_with (first
    | (go_at_call 52; refine k.mono ?_; rintro e w2 ⟨rfl, hb2⟩)
    | fail)
  exact bodyPost_ret (results_tmp rfl _ _ _) rfl ⟨rfl, hb2⟩
set_option maxHeartbeats 1000000 in
set_option maxRecDepth 20000 in
theorem refRight_none (ao : Option Addr) (cap : Nat) (w : World) : Calls Try.prog 17 #[.slice ao 0 cap] w fun e w' => e = .returned (.bool false) ∧ Below w.heap.size w w' := by
  go_enter Try.func17, Try.ntmps17
  go_wp2
  exact bodyPost_ret (results_tmp rfl _ _ _) rfl ⟨rfl, Below.refl _ _⟩
/-- The document's Right, of any row: if it says yes, the row is a tree's. -/
theorem refRight_any (v : Value) (ts : List Nd) (w0 : World) (hl : ts.length ≤ 2000) (hL : Lies v ts w0) : ∃ q : Bool, (q = true → ∃ T : Tr, T.ok ∧ ts = T.row 0 ∧ T.size = ts.length) ∧
    ∀ w, Lies v ts w → Calls Try.prog 17 #[v] w fun e w' => e = .returned (.bool q) ∧ Below w.heap.size w w' := by
  have hL' := hL
  obtain ⟨ao, cap, rfl, _⟩ := hL
  by_cases h0 : ts.length = 0
  · refine ⟨false, (fun h => by cases h), fun w _ => ?_⟩
    rw [h0]
    exact refRight_none ao cap w
  · obtain ⟨b, o, rfl, _⟩ := hL'.at (j := 0) (List.getElem?_eq_getElem (by omega))
    obtain ⟨x, hx, k⟩ := begin_any ts ts.length cap b o rfl hl (ts.length - 1) (by omega)
    refine ⟨x == 0, fun h => ?_, fun w hL => refRight_says _ ts.length cap (ts.length - 1) _ x _ w rfl hl (by omega) rfl (k w hL)⟩
    have h : x = 0 := by simpa using h
    rcases hx with hx | ⟨T, n, hx, hok, hs, hsz⟩
    · omega
    · obtain rfl : n = 0 := by omega
      exact ⟨T, hok, sub_all hs (by omega), by omega⟩
end Go.Proofs.Ytgffmbdbjbhocaa
