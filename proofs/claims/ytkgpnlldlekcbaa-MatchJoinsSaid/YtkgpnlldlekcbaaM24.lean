/- Packed texts: MaSpansRow, MaShown0. What each of them proves stands above its theorems; the conditions stand in these. -/
import Derived.Test.YtkgpnlldlekcbaaM21
namespace Go.Proofs.Ytkgpnlldlekcbaa
open Go.RowKit Go.Lib
attribute [local go_sem] Oper.semAt_some

theorem Try.infoTwo : (Try.prog.info? 48).map (fun i => (i.zero, i.size, i.bytes)) = some (some (.agg #[.int .i64 0, .int .i64 0]), 2, 16) := by kernel_rfl
def pairC (l : List (Nat × Nat)) : List Value := l.flatMap fun x => [.int .i64 (x.1 : Int), .int .i64 (x.2 : Int)]
theorem pairC_snoc (l : List (Nat × Nat)) (x : Nat × Nat) : pairC (l ++ [x]) = pairC l ++ [.int .i64 (x.1 : Int), .int .i64 (x.2 : Int)] := by unfold pairC; rw [List.flatMap_append]; rfl
theorem goL_length (G : Nat → Int) (n : Nat) : ∀ (f a : Nat) (e : Int), (goL G n f a e).length ≤ f
  | 0, _, _ => Nat.le_refl _
  | f + 1, a, e => by
    unfold goL
    split
    · exact Nat.zero_le _
    · split
      · exact Nat.le_succ_of_le (goL_length G n f _ _)
      · exact Nat.succ_le_succ (goL_length G n f _ _)
/-- The row of spans in the making. -/
structure RowS (h D c : Nat) (w : World) (pre : List (Nat × Nat)) (Z : World) : Prop where
  box : ∃ v, Z.heap[h]? = some (.cells #[v] 80 (0, 0)) ∧ Z.ownsRow (D + 2 + c) 48 2 v pre.length (pairC pre)
  low : Below h w Z
theorem RowS.grown {h D c : Nat} {w A B : World} {pre : List (Nat × Nat)} {row : Option Nat} (r : RowS h D c w pre A) (hD : h < D) (hg : A.grownBy B row) (hr : ∀ q, row = some q → D ≤ q ∧ ((q < D + 2 ∧ ∃ x t, A.heap[q]? = some (.cells #[x] t (0, 0))) ∨ ∃ o : Obj, A.heap[q]? = some o ∧ o.isCells = false)) : RowS h D c w pre B := by
  obtain ⟨v, h1, h2⟩ := r.box
  refine ⟨⟨v, (hg.block h (block_lt h1) (fun e => by have := (hr h e.symm).1; omega)).trans h1, owns_same h2 fun q hq => hg.block q (own_block_lt h2 hq) (fun e => ?_)⟩, r.low.grown hg (Nat.le_of_lt (block_lt h1)) (fun q hq => by have := (hr q hq).1; omega)⟩
  have hb := own_base h2 hq
  rcases (hr q e.symm).2 with ⟨hlt, _⟩ | ⟨o, ho, hc⟩
  · omega
  · rcases h2.2 with ⟨hv, _⟩ | ⟨g, cap, cur, hv, _, hgg, _⟩
    · rw [hv] at hq; cases hq
    · rw [hv] at hq
      cases hq
      rw [hgg] at ho
      cases ho
      cases hc
set_option maxHeartbeats 4000000 in
set_option maxRecDepth 100000 in
theorem spans_walk (b o cap : Nat) (T : Tr) (ts : List Nd) (s : ByteArray) (w : World) (hts : ts = T.row 0) (hok : T.ok) (hsz : ts.length ≤ 2000) (hs : s.size ≤ 1000000) (hL : Lies (.slice (some ⟨b, o, none⟩) ts.length cap) ts w) :
    CallsIn Fence.wide 0 Try.prog 43 #[.slice (some ⟨b, o, none⟩) ts.length cap, .string s] w fun e w' => ∃ v, e = .returned v ∧ w'.ownsRow w.heap.size 48 2 v (spansL s.data.toList T 0).length (pairC (spansL s.data.toList T 0)) ∧ Below w.heap.size w w' := by
  have k1 := fun w => callsIn_wide (n := 0).2 (spans_make (.slice (some ⟨b, o, none⟩) ts.length cap) s 0 w ⟨_, _, _, rfl⟩)
  have hLn : (spansL s.data.toList T 0).length ≤ 2000010 := by
    have := goL_length (farG s.data.toList T) s.data.toList.length (2 * (s.data.toList.length + 1 - 0) + 2) 0 (-1)
    have e : s.data.toList.length = s.size := Array.length_toList
    unfold spansL
    omega
  have H := Lib.hid (And.intro hts (And.intro hok (And.intro hsz (And.intro hs (And.intro hL hLn)))))
  clear hts hok hsz hs hL hLn
  obtain ⟨i0, hi, hz0, hz1, hz2⟩ := info_parts Try.infoTwo
  have HI0 := Lib.hid (And.intro hi (And.intro hz0 (And.intro hz1 hz2)))
  clear hi hz0 hz1 hz2
  refine callsIn_of_wp_marks Try.func43 rfl trivial ?_ rfl
  simp only [Try.ntmps43, List.size_toArray, List.length_cons, List.length_nil, Nat.reduceAdd, Nat.reduceSub, Array.replicate_succ, Array.replicate_zero, List.push_toArray, List.append_toArray, List.nil_append, List.cons_append]
  gi_wp2_with (first
    | (refine ⟨trivial, rfl, ?_⟩; gi_at_call 63; refine (k1 _).mono ?_; rintro e w2 ⟨rfl, rfl⟩)
    | fail)
  obtain ⟨h, hh⟩ : ∃ h, h = w.heap.size := ⟨_, rfl⟩
  rw [← hh]
  obtain ⟨V, hV⟩ : ∃ V, V = (((w.alloc (.cells #[.slice none 0 0] 80)).alloc (.cells #[.slice (some ⟨b, o, none⟩) ts.length cap] 22)).alloc (.cells #[.string s] 9)).alloc (.cells #[.int .i64 0] 3) := ⟨_, rfl⟩
  rw [← hV]
  have z1 : (w.alloc (.cells #[.slice none 0 0] 80)).heap.size = h + 1 := by rw [hh]; simp
  have z4 : ((w.alloc (.cells #[.slice none 0 0] 80)).alloc (.cells #[.slice (some ⟨b, o, none⟩) ts.length cap] 22)).heap.size = h + 2 := by rw [hh]; simp
  have z5 : (((w.alloc (.cells #[.slice none 0 0] 80)).alloc (.cells #[.slice (some ⟨b, o, none⟩) ts.length cap] 22)).alloc (.cells #[.string s] 9)).heap.size = h + 3 := by rw [hh]; simp
  have z6 : V.heap.size = h + 4 := by rw [hV, hh]; simp
  have v5 : V.heap[h + 3]? = some (.cells #[.int .i64 ((0 : Nat) : Int)] 3 (0, 0)) := by rw [hV, ← z5]; exact heap_alloc_new _ _
  have v4 : V.heap[h + 2]? = some (.cells #[.string s] 9 (0, 0)) := by rw [hV]; refine (Below.heap_alloc _ _ _ (by rw [z5]; omega)).trans ?_; rw [← z4]; exact heap_alloc_new _ _
  have v3 : V.heap[h + 1]? = some (.cells #[.slice (some ⟨b, o, none⟩) ts.length cap] 22 (0, 0)) := by rw [hV]; refine (Below.heap_alloc _ _ _ (by rw [z5]; omega)).trans ((Below.heap_alloc _ _ _ (by rw [z4]; omega)).trans ?_); rw [← z1]; exact heap_alloc_new _ _
  have v0 : V.heap[h]? = some (.cells #[.slice none 0 0] 80 (0, 0)) := by rw [hV]; refine (Below.heap_alloc _ _ _ (by rw [z5]; omega)).trans ((Below.heap_alloc _ _ _ (by rw [z4]; omega)).trans ((Below.heap_alloc _ _ _ (by rw [z1]; omega)).trans ?_)); rw [hh]; exact heap_alloc_new _ _
  have vB : Below h w V := by rw [hV, hh]; exact ((((Below.refl _ w).alloc (Nat.le_refl _) _).alloc (by simp) _).alloc (by simp; omega) _).alloc (by simp; omega) _
  have hLV := H.out.2.2.2.2.1.below (w' := V) (by rw [← hh]; exact vB)
  have HV := Lib.hid (And.intro v5 (And.intro v4 (And.intro v3 (And.intro hLV (And.intro v0 vB)))))
  have HH := Lib.hid hh
  clear hV z1 z4 z5 v5 v4 v3 v0 vB hLV k1 hh
  refine wp_rangeF (gf := 84) (lb := #[.pointer (some ⟨h + 1, 0, none⟩), .pointer (some ⟨h + 2, 0, none⟩), .pointer (some ⟨h + 3, 0, none⟩)]) (encs := encP) (L := spansL s.data.toList T 0) (K := fun j => j = h + 2) rfl (enters_of Try.func84 (by kernel_rfl) rfl) (fun _ => rfl)
    (fun Z hz ho => by
      obtain ⟨hts, hok, hsz, hs, _⟩ := H.out
      exact spans1 (h + 1) (h + 2) (h + 3) b o cap 0 T ts s Z hts hok hsz hs (by
        obtain ⟨ao, cp, e1, e2, e3⟩ := HV.out.2.2.2.1
        refine ⟨ao, cp, e1, e2, fun j n hj => ?_⟩
        obtain ⟨b', o', g1, g2, g3⟩ := e3 j n hj
        refine ⟨b', o', g1, by omega, ?_⟩
        have e : ∀ i, Z.cell? ⟨b', i, none⟩ = V.cell? ⟨b', i, none⟩ := fun i => by unfold World.cell?; rw [ho b' g2]
        unfold NdAt at g3 ⊢
        rw [e, e, e, e, e, e, e]
        exact g3) ((ho _ (by omega)).trans HV.out.2.2.1) ((ho _ (by omega)).trans HV.out.2.1) ((ho _ (by omega)).trans HV.out.1)) (fun j hj => by omega)
    (fun c pre Z => RowS h V.heap.size c w pre Z) (fun _ _ _ => False)
    (fun c pre A B row hs hg hr => hs.grown (by omega) hg hr)
    (fun _ _ _ _ _ hs _ _ => hs.elim)
    (fun c => ⟨⟨_, HV.out.2.2.2.2.1, World.ownsRow_nil _ _ _ _⟩, HV.out.2.2.2.2.2⟩)
    (fun x => { tmps := #[.slice (some ⟨b, o, none⟩) ts.length cap, .string s, undef, undef, .slice none 0 0, .pointer (some ⟨h, 0, none⟩), .int .i64 (x.1 : Int), .int .i64 (x.2 : Int),
      .slice (some ⟨b, o, none⟩) ts.length cap, .string s, .func (.func 84) #[] #[.pointer (some ⟨h + 1, 0, none⟩), .pointer (some ⟨h + 1 + 1, 0, none⟩), .pointer (some ⟨h + 1 + 1 + 1, 0, none⟩)], .int .i64 (x.1 : Int), .int .i64 (x.2 : Int), undef, undef, undef, undef, undef, undef, undef], defers := [] })
    ?assign ?body ?done ?stop
  case assign =>
    intro l2 x Z kk hK
    gi_wp2
    exact hK
  case body =>
    rintro l2 c pre x Z hsz hR ⟨rest, hpre⟩
    obtain ⟨v, hbox, hown⟩ := hR.box
    have hlow := hR.low
    have cb : Z.cell? ⟨h, 0, none⟩ = some v := by rw [cell_of_heap hbox]; rfl
    have n0 := World.new_ne Z ⟨h, 0, none⟩ cb
    have hm : pre.length + 1 ≤ 2000010 := by have := H.out.2.2.2.2.2; rw [hpre, List.length_append, List.length_cons] at this; omega
    have hZ := Lib.hid hbox
    have HOWN := Lib.hid hown
    have HLOW := Lib.hid hlow
    obtain ⟨m, hmm⟩ : ∃ m, m = pre.length := ⟨_, rfl⟩
    rw [← hmm] at HOWN hm
    have HM := Lib.hid hmm
    have hzs := block_lt hbox
    clear hR hpre hbox hown hlow hmm
    gi_wp2_with (first
      | (refine wpListIn_append_own _ rfl (.tmp 13) (.tmp 17) 80 rfl (V.heap.size + 2 + c) 48 i0 (.agg #[.int .i64 0, .int .i64 0]) 2 16 Try.underlying80 HI0.out.1 HI0.out.2.1 HI0.out.2.2.1 HI0.out.2.2.2 rfl (by decide) v m (pairC pre) rfl (owns_alloc HOWN.out) ⟨Z.heap.size, 0, none⟩ 1 1 [.int .i64 (x.1 : Int), .int .i64 (x.2 : Int)] rfl rfl (cells_twoM _ _ rfl _ _ _) (by simp [Value.oneCell']) (by unfold maxLen; omega) (by omega) (by simp; omega) ?_; intro v5 w5 hown5 hgrow5 _
         have hb5 : w5.heap[h]? = some (.cells #[v] 80 (0, 0)) := (hgrow5.block h (by simp; omega) (fun e => by have := own_base HOWN.out e.symm; omega)).trans ((Below.heap_alloc _ _ _ hzs).trans hZ.out)
         have cb5 : w5.cell? ⟨h, 0, none⟩ = some v := by rw [cell_of_heap hb5]; rfl
         have fb5 : w5.frozen? ⟨h, 0, none⟩ = false := frozen_of_heap hb5 0
         obtain ⟨g5, cap5, rfl⟩ := owned_slice hown5 (by omega)
         have H5 := Lib.hid (And.intro hown5 (And.intro hgrow5 hb5))
         clear hown5 hgrow5 hb5 cb n0)
      | fail)
    obtain ⟨hown5, hgrow5, hb5⟩ := H5.out
    have hz5 := hgrow5.size
    rw [World.size_alloc] at hz5
    refine ⟨by simp [World.setCell]; omega, fun j hj => ?_, ⟨⟨_, by simpa using heap_setCell_same w5 h 0 _ _ (Value.slice (some ⟨g5, 0, none⟩) (m + 1) cap5) hb5, ?_⟩, ?_⟩⟩
    · refine (Below.heap_setCell _ _ _ _ (by dsimp only; omega)).trans ((hgrow5.block j (by simp; omega) (fun e => by have := own_base HOWN.out e.symm; omega)).trans (Below.heap_alloc _ _ _ (by omega)))
    · have e : (pre ++ [x]).length = m + 1 := by rw [List.length_append, HM.out]; rfl
      rw [e, pairC_snoc]
      exact owns_same hown5 fun q hq => Below.heap_setCell _ _ _ _ (by have := own_base hown5 hq; dsimp only; omega)
    · exact ((HLOW.out.alloc (by omega) _).grown hgrow5 (by simp; omega) (fun q hq => by have := own_base HOWN.out hq; omega)).setCell (p := ⟨h, 0, none⟩) (Nat.le_refl _) _
  case done =>
    rintro c Z hR hK
    obtain ⟨v, hbox, hown⟩ := hR.box
    have hlow := hR.low
    have cb : Z.cell? ⟨h, 0, none⟩ = some v := by rw [cell_of_heap hbox]; rfl
    have HK := Lib.hid (And.intro hK (And.intro hown (And.intro hlow (block_lt hbox))))
    clear hR hbox hown hlow hK
    gi_wp2
    refine ⟨by simp, .inl ⟨_, _, rfl, run_takeDeferred HK.out.1, ?_⟩⟩
    obtain ⟨hK, hown, hlow, hz⟩ := HK.out
    refine ⟨_, results_tmp rfl _ _ _, _, rfl, ?_, ?_⟩
    · rw [← HH.out]
      refine owns_baseM (owns_same hown fun q hq => World.putObj_heap_other ?_) (by omega)
      rintro rfl
      rcases hown.2 with ⟨hv, _⟩ | ⟨g, cap, cur, hv, _, hgg, _⟩
      · rw [hv] at hq; cases hq
      · rw [hv] at hq
        cases hq
        have e := hgg.symm.trans hK
        cases e
    · rw [← HH.out]
      exact hlow.grown (putObj_grown _ _ _) (by omega) (fun k e => by cases e; omega)
  case stop =>
    rintro c pre Z hF hK
    exact hF.elim
/-- Package match's Spans, of a tree's row. -/
theorem spans_any (v : Value) (T : Tr) (ts : List Nd) (s : ByteArray) (w : World) (hts : ts = T.row 0) (hok : T.ok) (hsz : ts.length ≤ 2000) (hs : s.size ≤ 1000000) (hL : Lies v ts w) :
    Calls Try.prog 43 #[v, .string s] w fun e w' => ∃ v', e = .returned v' ∧ w'.ownsRow w.heap.size 48 2 v' (spansL s.data.toList T 0).length (pairC (spansL s.data.toList T 0)) ∧ Below w.heap.size w w' := by
  obtain ⟨b, o, cap, rfl⟩ := lies_ptr hts hL
  exact callsIn_wide.1 (spans_walk b o cap T ts s w hts hok hsz hs hL)
end Go.Proofs.Ytkgpnlldlekcbaa
namespace Go.Proofs.Ytkgpnlldlekcbaa
open Go.RowKit Go.Lib

theorem many_set {s : List UInt8} {k : K4} {a b : Nat} : Many (St s (.set k)) a b ↔ a ≤ b ∧ ∀ i, a ≤ i → i < b → inSet s k i = true := by
  constructor
  · intro h
    induction h with
    | refl => exact ⟨Nat.le_refl _, fun i h1 h2 => by omega⟩
    | @tail b c h1 h2 ih =>
      have h2 : c = b + 1 ∧ inSet s k b = true := h2
      refine ⟨by omega, fun i g1 g2 => ?_⟩
      by_cases hi : i < b
      · exact ih.2 i g1 hi
      · rw [show i = b by omega]; exact h2.2
  · rintro ⟨h1, h2⟩
    obtain ⟨d, rfl⟩ : ∃ d, b = a + d := ⟨b - a, by omega⟩
    induction d with
    | zero => exact .refl _
    | succ d ih => exact (ih (by omega) (fun i g1 g2 => h2 i g1 (by omega))).tail ⟨by omega, h2 _ (by omega) (by omega)⟩
theorem st_star {s : List UInt8} {k : K4} {a b : Nat} : St s (.rep 4 (.set k)) a b ↔ a ≤ b ∧ ∀ i, a ≤ i → i < b → inSet s k i = true := by
  rw [← many_set]
  exact Iff.rfl
theorem st_plus {s : List UInt8} {k : K4} {a b : Nat} : St s (.rep 5 (.set k)) a b ↔ a < b ∧ ∀ i, a ≤ i → i < b → inSet s k i = true := by
  show (∃ c, St s (.set k) a c ∧ Many (St s (.set k)) c b) ↔ _
  constructor
  · rintro ⟨c, hc, hm⟩
    have hc : c = a + 1 ∧ inSet s k a = true := hc
    obtain ⟨h1, h2⟩ := many_set.1 hm
    refine ⟨by omega, fun i g1 g2 => ?_⟩
    by_cases hi : i = a
    · rw [hi]; exact hc.2
    · exact h2 i (by omega) g2
  · rintro ⟨h1, h2⟩
    exact ⟨a + 1, ⟨rfl, h2 a (Nat.le_refl _) h1⟩, many_set.2 ⟨h1, fun i g1 g2 => h2 i (by omega) g2⟩⟩
theorem goL_end {G : Nat → Int} {n f a : Nat} {e : Int} (h : n < a) : goL G n (f + 1) a e = [] := by
  show (if n < a then [] else _) = _
  rw [if_pos h]
theorem goL_skip {G : Nat → Int} {n f a : Nat} {e : Int} (h : a ≤ n) (hc : G a = -1 ∨ (G a = a ∧ e = a)) : goL G n (f + 1) a e = goL G n f (a + 1) e := by
  show (if n < a then [] else if G a = -1 ∨ (G a = a ∧ e = a) then goL G n f (a + 1) e else _) = _
  rw [if_neg (by omega), if_pos hc]
theorem goL_take {G : Nat → Int} {n f a b : Nat} {e : Int} (h : a ≤ n) (hG : G a = (b : Int)) (hne : ¬ (b = a ∧ e = a)) : goL G n (f + 1) a e = (a, b) :: goL G n f b (b : Int) := by
  show (if n < a then [] else if G a = -1 ∨ (G a = a ∧ e = a) then _ else (a, (G a).toNat) :: goL G n f (G a).toNat (G a)) = _
  rw [if_neg (by omega), if_neg (by rw [hG]; exact fun hh => hh.elim (fun h => by omega) (fun h => hne ⟨by omega, h.2⟩)), hG, Int.toNat_natCast]
def tA : Tr := .rep 5 (.set (k4 (oneK 97)))
def tB : Tr := .rep 4 (.set (k4 (oneK 98)))
theorem inSet_one {s : List UInt8} {n p : Nat} {c : UInt8} (h : s[p]? = some c) : inSet s (k4 (oneK n)) p = (decide (c.toNat = n)) := by
  unfold inSet
  rw [h]
  dsimp only
  rw [has_k4 _ c.toNat_lt, has_one]
theorem spans_A : spansL [120, 97, 97, 121] tA 0 = [(1, 3)] := by
  have i0 : inSet [120, 97, 97, 121] (k4 (oneK 97)) 0 = false := (inSet_one rfl).trans rfl
  have i1 : inSet [120, 97, 97, 121] (k4 (oneK 97)) 1 = true := (inSet_one rfl).trans rfl
  have i2 : inSet [120, 97, 97, 121] (k4 (oneK 97)) 2 = true := (inSet_one rfl).trans rfl
  have i3 : inSet [120, 97, 97, 121] (k4 (oneK 97)) 3 = false := (inSet_one rfl).trans rfl
  have g0 : farG [120, 97, 97, 121] tA 0 = -1 := farG_none fun a _ h => by
    have := (st_plus.1 h).2 0 (Nat.le_refl _) (st_plus.1 h).1
    rw [i0] at this; cases this
  have g1 : farG [120, 97, 97, 121] tA 1 = ((3 : Nat) : Int) := farG_some (by decide) (st_plus.2 ⟨by omega, fun i h1 h2 => by
    rcases (show i = 1 ∨ i = 2 by omega) with rfl | rfl
    · exact i1
    · exact i2⟩) fun a' h1 _ h => by
      have := (st_plus.1 h).2 3 (by omega) h1
      rw [i3] at this; cases this
  have g3 : farG [120, 97, 97, 121] tA 3 = -1 := farG_none fun a _ h => by
    have := (st_plus.1 h).2 3 (Nat.le_refl _) (st_plus.1 h).1
    rw [i3] at this; cases this
  have g4 : farG [120, 97, 97, 121] tA 4 = -1 := farG_none fun a ha h => by
    have := (st_plus.1 h).1
    have ha : a ≤ 4 := ha
    omega
  show goL (farG [120, 97, 97, 121] tA) 4 12 0 (-1) = _
  rw [goL_skip (f := 11) (by omega) (.inl g0), goL_take (f := 10) (by omega) g1 (by omega), goL_skip (f := 9) (by omega) (.inl g3), goL_skip (f := 8) (by omega) (.inl g4), goL_end (f := 7) (by omega)]
theorem spans_B : spansL [97, 98, 98] tB 0 = [(0, 0), (1, 3)] := by
  have i0 : inSet [97, 98, 98] (k4 (oneK 98)) 0 = false := (inSet_one rfl).trans rfl
  have i1 : inSet [97, 98, 98] (k4 (oneK 98)) 1 = true := (inSet_one rfl).trans rfl
  have i2 : inSet [97, 98, 98] (k4 (oneK 98)) 2 = true := (inSet_one rfl).trans rfl
  have g0 : farG [97, 98, 98] tB 0 = ((0 : Nat) : Int) := farG_some (by decide) (st_star.2 ⟨Nat.le_refl _, fun i h1 h2 => by omega⟩) fun a' h1 _ h => by
    have := (st_star.1 h).2 0 (Nat.le_refl _) h1
    rw [i0] at this; cases this
  have g1 : farG [97, 98, 98] tB 1 = ((3 : Nat) : Int) := farG_some (by decide) (st_star.2 ⟨by omega, fun i h1 h2 => by
    rcases (show i = 1 ∨ i = 2 by omega) with rfl | rfl
    · exact i1
    · exact i2⟩) fun a' h1 h2 _ => by
      have h2 : a' ≤ 3 := h2
      omega
  have g3 : farG [97, 98, 98] tB 3 = ((3 : Nat) : Int) := farG_some (by decide) (st_star.2 ⟨Nat.le_refl _, fun i h1 h2 => by omega⟩) fun a' h1 h2 _ => by
    have h2 : a' ≤ 3 := h2
    omega
  show goL (farG [97, 98, 98] tB) 3 10 0 (-1) = _
  rw [goL_take (f := 9) (by omega) g0 (by omega), goL_skip (f := 8) (by omega) (.inr ⟨g0, rfl⟩), goL_take (f := 7) (by omega) g1 (by omega), goL_skip (f := 6) (by omega) (.inr ⟨g3, rfl⟩), goL_end (f := 5) (by omega)]
end Go.Proofs.Ytkgpnlldlekcbaa
