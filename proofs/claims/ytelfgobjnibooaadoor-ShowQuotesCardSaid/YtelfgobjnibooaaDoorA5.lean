/- Packed texts: SwMem, SwQuote, SwShaped, ShowQuotesL. What each of them proves stands above its theorems; the conditions stand in these. -/
import Derived.Deep.LoopGhost
import Derived.HandedShaped
import Derived.Lib.ReplaceLaws
import Derived.Lib.SplitLaws
import Derived.Shelf.Vars
import Derived.Test.YtelfgobjnibooaaDoorShelf
import Derived.Test.YtelfgobjnibooaaDoorA0
import Derived.Test.YtelfgobjnibooaaDoorA1
import Derived.Test.YtelfgobjnibooaaDoorA2
import Derived.Test.YtelfgobjnibooaaDoorA3
import Derived.Test.YtelfgobjnibooaaDoorA4
namespace Go.Proofs.YtelfgobjnibooaaDoor
open Go.RowKit Go.Lib

/-- What a text may move: the builder, and rows of bytes above the first world. -/
def Kp (w0 : World) (b : Nat) (w w' : World) : Prop := Below w0.heap.size w w' ∧ OthersKept 5 (some b) w w'
theorem Kp.refl (w0 : World) (b : Nat) (w : World) : Kp w0 b w w := ⟨Below.refl _ _, OthersKept.refl _ _ _⟩
theorem Kp.trans {w0 : World} {b : Nat} {w w1 w2 : World} (h : Kp w0 b w w1) (k : Kp w0 b w1 w2) : Kp w0 b w w2 := ⟨h.1.trans k.1, h.2.trans k.2⟩
/-- Behind what laid new blocks alone. -/
theorem Kp.new {w0 : World} {b : Nat} {w w' : World} (h : Below w.heap.size w w') (h0 : w0.heap.size ≤ w.heap.size) : Kp w0 b w w' :=
  ⟨h.mono h0, fun k o hk _ _ => by rw [h.block k (Array.getElem?_eq_some_iff.1 hk).1]; exact hk⟩
/-- A later world than the first. -/
def Base (w0 w : World) : Prop := w0.heap.size ≤ w.heap.size ∧ ∀ k, k < w0.heap.size → w.heap[k]? = w0.heap[k]?
theorem Base.refl (w0 : World) : Base w0 w0 := ⟨Nat.le_refl _, fun _ _ => rfl⟩
theorem Base.on {w0 w w' : World} (h : Base w0 w) (hb : Below w0.heap.size w w') : Base w0 w' := ⟨Nat.le_trans h.1 hb.size, fun k hk => (hb.block k hk).trans (h.2 k hk)⟩
theorem Base.new {w0 w w' : World} (h : Base w0 w) (hb : Below w.heap.size w w') : Base w0 w' := h.on (hb.mono h.1)
/-- The builder with what is out. -/
def BldI (w0 : World) (b : Nat) (out : List UInt8) (w : World) : Prop := IsBuilderF 64 5 w0.heap.size b (byteCells out) w
/-- The blocks of F: above the first world's, none of them the builder's nor a row of bytes. -/
def FarF (w0 : World) (b : Nat) (F : Nat → Prop) (w : World) : Prop := ∀ g, F g → w0.heap.size ≤ g ∧ g ≠ b ∧ ∃ cs t fz, w.heap[g]? = some (.cells cs t fz) ∧ t ≠ 5
theorem FarF.same {w0 : World} {b : Nat} {F : Nat → Prop} {w w' : World} (h : FarF w0 b F w) (hs : ∀ g, F g → w'.heap[g]? = w.heap[g]?) : FarF w0 b F w' := fun g hg => by
  obtain ⟨h1, h2, cs, t, fz, h3, h4⟩ := h g hg
  exact ⟨h1, h2, cs, t, fz, (hs g hg).trans h3, h4⟩
theorem FarF.kept {w0 : World} {b : Nat} {F : Nat → Prop} {w w' : World} (h : FarF w0 b F w) (k : Kp w0 b w w') : ∀ g, F g → w'.heap[g]? = w.heap[g]? := fun g hg => by
  obtain ⟨h1, h2, cs, t, fz, h3, h4⟩ := h g hg
  rw [k.2 g _ h3 (fun e => h2 (Option.some.inj e)) (fun c z e => by cases e; exact h4 rfl), h3]
theorem FarF.lt {w0 : World} {b : Nat} {F : Nat → Prop} {w : World} (h : FarF w0 b F w) : ∀ g, F g → g < w.heap.size := fun g hg => by
  obtain ⟨h1, h2, cs, t, fz, h3, h4⟩ := h g hg
  exact (Array.getElem?_eq_some_iff.1 h3).1
theorem FarF.or {w0 : World} {b : Nat} {F G : Nat → Prop} {w : World} (h : FarF w0 b F w) (k : FarF w0 b G w) : FarF w0 b (fun g => F g ∨ G g) w := fun g hg => hg.elim (h g) (k g)
/-- The blocks from lo on, but for the builder and rows of bytes. -/
def NwF (b lo : Nat) (w : World) : Nat → Prop := fun g => lo ≤ g ∧ g < w.heap.size ∧ g ≠ b ∧ ∃ cs t fz, w.heap[g]? = some (.cells cs t fz) ∧ t ≠ 5
theorem NwF.on {b lo : Nat} {w w1 : World} {g : Nat} (h : NwF b lo w g) (hb : Below w.heap.size w w1) : NwF b lo w1 g := by
  obtain ⟨h1, h2, h3, cs, t, fz, h4, h5⟩ := h
  exact ⟨h1, Nat.lt_of_lt_of_le h2 hb.size, h3, cs, t, fz, (hb.block g h2).trans h4, h5⟩
theorem NwF.low {b lo lo' : Nat} {w : World} {g : Nat} (h : NwF b lo' w g) (hl : lo ≤ lo') : NwF b lo w g := ⟨Nat.le_trans hl h.1, h.2⟩
theorem NwF.far {w0 : World} {b lo : Nat} {w : World} (h0 : w0.heap.size ≤ lo) : FarF w0 b (NwF b lo w) w := fun _ hg => ⟨Nat.le_trans h0 hg.1, hg.2.2.1, hg.2.2.2⟩
theorem NwF.same {b lo : Nat} {w w' : World} {g : Nat} (h : NwF b lo w g) (hs : w'.heap[g]? = w.heap[g]?) (hz : w.heap.size ≤ w'.heap.size) : NwF b lo w' g := by
  obtain ⟨h1, h2, h3, cs, t, fz, h4, h5⟩ := h
  exact ⟨h1, Nat.lt_of_lt_of_le h2 hz, h3, cs, t, fz, hs.trans h4, h5⟩
/-- A new block of cells is one of them. -/
theorem NwF.new {b lo : Nat} (w : World) (cs : Array Value) (t : TypeId) (ht : t ≠ 5) (hl : lo ≤ w.heap.size) (hb : b ≠ w.heap.size) : NwF b lo (w.alloc (.cells cs t)) w.heap.size :=
  ⟨hl, by simp, fun e => hb e.symm, cs, t, _, heap_alloc_new w _, ht⟩
/-- One text: a closure, which hangs on the blocks of F. -/
def PutsP (w0 : World) (b : Nat) (F : Nat → Prop) (w : World) (k : FuncId) (caps : Array Value) (x : List UInt8) : Prop :=
  ∀ W out, Base w0 W → (∀ g, F g → W.heap[g]? = w.heap[g]?) → BldI w0 b out W → out.length + x.length ≤ 1000000000 →
    Calls Tryd.prog k (#[.pointer (some ⟨b, 0, none⟩)] ++ caps) W fun e w' => e = .returned (.tuple #[]) ∧ BldI w0 b (out ++ x) w' ∧ Kp w0 b W w'
theorem alloc_below (w : World) (o : Obj) : Below w.heap.size w (w.alloc o) := (Below.refl _ w).alloc (Nat.le_refl _) o
theorem box_cell {w W : World} {v : Value} {t : TypeId} (h : W.heap[w.heap.size]? = (w.alloc (.cells #[v] t)).heap[w.heap.size]?) : W.cell? ⟨w.heap.size, 0, none⟩ = some v := by
  rw [heap_alloc_new] at h
  rw [cell_of_heap h]
  rfl
theorem str_cells (l : List UInt8) : strCells ⟨l.toArray⟩ = byteCells l := by rw [strCells_eq]
theorem bc_app (a b : List UInt8) : byteCells (a ++ b) = byteCells a ++ byteCells b := by unfold byteCells; rw [List.map_append]
theorem BldI.lt {w0 : World} {b : Nat} {out : List UInt8} {w : World} (h : BldI w0 b out w) : b < w.heap.size := h.elim (fun h => h.lt) (fun h => h.lt)
/-- The builder writes a text. -/
theorem puts_any (w0 : World) (b : Nat) (out l : List UInt8) (w : World) (h : BldI w0 b out w) (hb : Base w0 w) (hn : out.length + l.length ≤ 1000000000) :
    Calls Tryd.prog 46 #[.pointer (some ⟨b, 0, none⟩), .string ⟨l.toArray⟩] w fun e w' => e = .returned (.tuple #[.int .i64 l.length, .nilIface]) ∧ BldI w0 b (out ++ l) w' ∧ Kp w0 b w w' := by
  have hz : (⟨l.toArray⟩ : ByteArray).size = l.length := sizeS l
  refine (writeString_any w0.heap.size b (byteCells out) ⟨l.toArray⟩ w h (by rw [byteCells_length, hz]; omega) hb.1).mono ?_
  rintro e w' ⟨rfl, h1, h2, h3⟩
  rw [str_cells, ← bc_app] at h1
  exact ⟨by rw [hz], .inr h1, h2, h3⟩
set_option maxHeartbeats 1000000 in
theorem as1_any (w0 : World) (b g : Nat) (out l : List UInt8) (w : World) (h : BldI w0 b out w) (hb : Base w0 w) (hg : w.cell? ⟨g, 0, none⟩ = some (.string ⟨l.toArray⟩)) (hn : out.length + l.length ≤ 1000000000) :
    Calls Tryd.prog 65 #[.pointer (some ⟨b, 0, none⟩), .pointer (some ⟨g, 0, none⟩)] w fun e w' => e = .returned (.tuple #[]) ∧ BldI w0 b (out ++ l) w' ∧ Kp w0 b w w' := by
  have k := puts_any w0 b out l w h hb hn
  clear h hb hn
  generalize (⟨l.toArray⟩ : ByteArray) = S at *
  go_enter Tryd.func65, Tryd.ntmps65
  go_wp2_with (go_at_call 46; (with_reducible refine k.mono ?_); rintro e w1 ⟨rfl, h1⟩; have HH := Lib.hid h1; clear h1)
  go_end0
  exact ⟨rfl, HH.out⟩
theorem enters_as1 : ∀ args w, (callFunc 65 args).run Tryd.prog w = .ok (.enter 65 args) w := enters_of Tryd.func65 (by kernel_rfl) rfl
set_option maxHeartbeats 1000000 in
theorem as_new (s : ByteArray) (w : World) :
    Calls Tryd.prog 53 #[.string s] w fun e w' => e = .returned (.func (.func 65) #[] #[.pointer (some ⟨w.heap.size, 0, none⟩)]) ∧ w' = w.alloc (.cells #[.string s] 9) := by
  go_enter Tryd.func53, Tryd.ntmps53
  go_wp2
  exact bodyPost_ret (results_tmp rfl _ _ _) rfl ⟨rfl, rfl⟩
end Go.Proofs.YtelfgobjnibooaaDoor
namespace Go.Proofs.YtelfgobjnibooaaDoor
open Go.RowKit Go.Lib

/-- A quoted text, but for the ' at both ends. -/
def qR : List UInt8 → List UInt8
  | [] => []
  | c :: r => (if c = 39 then [39, 92, 39, 39] else [c]) ++ qR r
def quoteL (l : List UInt8) : List UInt8 := [39] ++ qR l ++ [39]
theorem qR_len (l : List UInt8) : (qR l).length = l.length + 3 * l.count 39 := by
  induction l with
  | nil => rfl
  | cons c r ih =>
    rw [qR, List.length_append, ih, List.length_cons, List.count_cons]
    by_cases h : c = 39
    · subst h; simp; omega
    · have h2 : (c == 39) = false := by simpa using h
      rw [if_neg h, h2]
      simp
      omega
theorem quote_len (l : List UInt8) : (quoteL l).length = l.length + 2 + 3 * l.count 39 := by
  unfold quoteL
  rw [List.length_append, List.length_append, qR_len]
  simp
  omega
theorem replaceK_q : ∀ l : List UInt8, Lib.replaceK [39] [39, 92, 39, 39] (Lib.count l [39]) l = qR l
  | [] => by
    have : Lib.count ([] : List UInt8) [39] = 0 := by rw [count_one]; rfl
    rw [this]; rfl
  | c :: r => by
    have ih := replaceK_q r
    by_cases hc : c = 39
    · subst hc
      have hi : Lib.index (39 :: r) [39] = ((0 : Nat) : Int) := by simp [Lib.index, List.isPrefixOf]
      rw [count_cons_eq, Nat.add_comm, replaceK_hit _ _ _ _ 0 hi, qR, if_pos rfl]
      simpa using ih
    · rw [count_cons_ne c 39 r hc, qR, if_neg hc]
      cases hk : Lib.count r [39] with
      | zero =>
        rw [hk] at ih
        have : r = qR r := ih
        show c :: r = [c] ++ qR r
        rw [← this]
        rfl
      | succ k =>
        rw [hk] at ih
        obtain ⟨i, hi⟩ := index_of_count (s := r) (old := [39]) (by omega)
        have hi2 : Lib.index (c :: r) [39] = ((i + 1 : Nat) : Int) := by
          have hp : ([39] : List UInt8).isPrefixOf (c :: r) = false := by
            simp [List.isPrefixOf]
            exact fun e => hc e.symm
          have hm : (Lib.index r [39] == -1) = false := by rw [hi]; simp
          rw [Lib.index, hp, hm, hi]
          simp
        rw [replaceK_hit _ _ _ _ _ hi2]
        rw [replaceK_hit _ _ _ _ _ hi] at ih
        rw [← ih]
        simp
theorem replaceAll_q (l : List UInt8) : Lib.replaceAll l [39] [39, 92, 39, 39] = qR l := by
  unfold Lib.replaceAll Lib.replace Lib.replaceNum
  rw [if_neg (by decide), if_pos (.inl (by decide))]
  exact replaceK_q l
/-- The library's own number holds one. -/
def Mx12 (w : World) : Prop := ∃ m, w.cell? ⟨0, 0, none⟩ = some (.int .i64 m)
theorem Mx12.lt {w : World} (h : Mx12 w) : 0 < w.heap.size := by
  obtain ⟨m, hm⟩ := h
  rcases Nat.lt_or_ge 0 w.heap.size with h' | h'
  · exact h'
  · rw [World.cell?, Array.getElem?_eq_none h'] at hm
    cases hm
theorem Mx12.below {w w' : World} (h : Mx12 w) (hb : Below w.heap.size w w') : Mx12 w' := by
  have hl := h.lt
  obtain ⟨m, hm⟩ := h
  exact ⟨m, (World.cell?_of_block (hb.block 0 hl)).trans hm⟩
set_option maxHeartbeats 1000000 in
set_option maxRecDepth 20000 in
theorem quote_any (l : List UInt8) (w : World) (hl : l.length ≤ 1000000) (hm : Mx12 w) :
    Calls Tryd.prog 8 #[.string ⟨l.toArray⟩] w fun e w' => e = .returned (.string ⟨(quoteL l).toArray⟩) ∧ Below w.heap.size w w' := by
  obtain ⟨m, hm⟩ := hm
  have hz : (⟨l.toArray⟩ : ByteArray).size = l.length := sizeS l
  have hc : Lib.countB (⟨l.toArray⟩ : ByteArray) ⟨#[39]⟩ = l.count 39 := count_one 39 l
  have hcl : l.count 39 ≤ l.length := List.count_le_length
  have k1 := Tryd.strings_ReplaceAll ⟨l.toArray⟩ ⟨#[39]⟩ ⟨#[39, 92, 39, 39]⟩ m w (by omega) hm (by decide) (by rw [hc, hz]; have : (⟨#[39, 92, 39, 39]⟩ : ByteArray).size = 4 := rfl; rw [this]; omega)
  have e1 : Lib.replaceAll (⟨l.toArray⟩ : ByteArray).data.toList (⟨#[39]⟩ : ByteArray).data.toList (⟨#[39, 92, 39, 39]⟩ : ByteArray).data.toList = qR l := replaceAll_q l
  rw [e1] at k1
  have hR : (⟨#[39]⟩ : ByteArray) ++ ⟨(qR l).toArray⟩ ++ ⟨#[39]⟩ = ⟨(quoteL l).toArray⟩ := by
    apply ByteArray.ext
    simp [quoteL, ByteArray.data_append]
  have hqz : (⟨(qR l).toArray⟩ : ByteArray).size = l.length + 3 * l.count 39 := by rw [sizeS, qR_len]
  have HR := Lib.hid hR
  have n1 : (⟨(qR l).toArray⟩ : ByteArray).size ≤ 4000000 := by omega
  clear hz hc hcl e1 hR hqz hm hl
  generalize (⟨l.toArray⟩ : ByteArray) = S at *
  generalize (⟨(qR l).toArray⟩ : ByteArray) = R at *
  generalize (⟨(quoteL l).toArray⟩ : ByteArray) = Z at *
  go_enter Tryd.func8, Tryd.ntmps8
  go_wp2_with (go_at_call 16; (with_reducible refine k1.mono ?_); rintro e w1 ⟨rfl, h1⟩; have H1 := Lib.hid h1; clear h1 k1)
  refine bodyPost_ret (results_tmp rfl _ _ _) rfl ⟨?_, H1.out⟩
  show Ending.returned (Value.string _) = _
  rw [← HR.out]
end Go.Proofs.YtelfgobjnibooaaDoor
namespace Go.Proofs.YtelfgobjnibooaaDoor
open Go.ChangeShapes Go.WideShapes Go.ChangeAt Go.RowKit

theorem mx12_of_shaped {W : World} (h : W.ShapedOpen Tryd.prog) : Mx12 W :=
  cell_of_shapedOpen_int (zero := #[.int .i64 0]) (t := 3) h (of_decide_eq_true (by kernel_rfl)) (by kernel_rfl) rfl (by kernel_rfl) (by kernel_rfl) Tryd.underlying3
theorem returnsInHanded_shaped_and {H : Type} {enc : TypeId × Value → H} {a : Assume} {C : Checked} {os : Os} {f : FuncId} {fn : Func} {s : ChangeSpec} {conds : List PathCond} {apart fresh handsOn again : Bool} {X : World → Array Value → Prop}
    (hX : ∀ (w w' : World) (args : Array Value), w.heap = w'.heap → X w args → X w' args)
    (own : ownKnob C.prog.godebug = none) (started : os.Started) (noInit : C.prog.inits.idxOf? f = none) (hfn : C.prog.funcs[f]? = some fn)
    (witness : ∃ (w : World) (tape : Tape) (i : Input), w.os = os ∧ (w.forCall tape i).Shaped C.prog ∧ i.vars = [] ∧ Input.okWide C.prog (w.forCall tape i) .any w.heap.size f i ∧
      ((s.pre enc C.prog fn conds apart (w.forCall tape i).memory i.args ∧ X (w.forCall tape i).memory i.args) ∧ sizedMet enc C.prog fn (OpenSpec.ofChange s) apart (w.forCall tape i).memory i.args) ∧ a.holds C.prog (lone (Frame.enter C.prog f i.args .normal) [] (w.forCall tape i)))
    (contract : ∀ (W : World) (base : Nat) (args : Array Value) (ds gs : List (DataW H)) (before : List MemPlace),
      (∀ (j : Nat) t v, fn.params[j]? = some t → args[j]? = some v → Value.okWide C.prog W .any base t v) →
      DataW.Whole enc C.prog fn.params.toList s.vars apart W args.toList ds gs before →
      conds.all (PathCond.test C.prog ⟨fn.params.toList, ds, s.plain.varTypes C.prog, gs⟩) = true →
      (DataW.weightsEach C.prog (fn.params.toList ++ s.plain.varTypes C.prog) (ds ++ gs)).all (· ≤ reachBytes) = true → X W args → W.ShapedOpen C.prog →
      a.holds C.prog (lone (Frame.enter C.prog f args .normal) [] W) →
      Calls C.prog f args W fun e W' => ∃ v, e = .returned v ∧ s.post enc C.prog fn apart fresh handsOn again W args v W') :
    ReturnsInHanded a C os f .any (fun w args => (s.pre enc C.prog fn conds apart w args ∧ X w args) ∧ sizedMet enc C.prog fn (OpenSpec.ofChange s) apart w args) (s.post enc C.prog fn apart fresh handsOn again) := by
  refine returnsInHanded_of_calls own started noInit witness ?_
  intro w tape i _ hsh _ hok hpre hholds
  obtain ⟨_, _, _, fn', hfn', _, _, _, _, hval⟩ := hok
  obtain rfl : fn' = fn := Option.some.inj (hfn'.symm.trans hfn)
  obtain ⟨⟨⟨ds, gs, before, hw, hc⟩, hx⟩, hz⟩ := hpre
  refine (contract (w.forCall tape i) w.heap.size i.args ds gs before hval (DataW.Whole.of_heap (w' := w.forCall tape i) (by rfl) hw) hc (hz.weights hw) (hX _ _ _ (by rfl) hx) hsh hholds).mono fun e W' ⟨v, he, hp⟩ => ?_
  subst he
  exact ChangeSpec.post_blind hp
end Go.Proofs.YtelfgobjnibooaaDoor
namespace Go.Proofs.YtelfgobjnibooaaDoor
open Go.RowKit Go.Lib

theorem lit_onto (st : Sp) (a b : List UInt8) (q : Bool) : (st.lit a q).lit b q = st.lit (a ++ b) q := lit_lit st a b q
/-- Within a word, what is quoted is one text laid on. -/
theorem quote_on {k : Nat} : ∀ (l a : List UInt8) (st : Sp) (r : List UInt8), (39 : UInt8) ∉ a → iterS (wordStep (lvl k)) st (39 :: (a ++ qR l ++ 39 :: r)) = iterS (wordStep (lvl k)) (st.lit (a ++ l) true) r
  | [], a, st, r, h => by
    rw [show a ++ qR [] ++ 39 :: r = a ++ 39 :: r by simp [qR], iterS_eq (wordStep_nice (lvl_good k)), word_quote _ _ h, List.append_nil]
  | c :: l, a, st, r, h => by
    by_cases hc : c = 39
    · subst hc
      have e : a ++ qR (39 :: l) ++ 39 :: r = a ++ 39 :: (92 :: 39 :: 39 :: ([] ++ qR l ++ 39 :: r)) := by simp [qR]
      rw [e, iterS_eq (wordStep_nice (lvl_good k)), word_quote _ _ h]
      show iterS (wordStep (lvl k)) (st.lit a true) (92 :: 39 :: 39 :: ([] ++ qR l ++ 39 :: r)) = _
      rw [word_back (lvl_good k), if_neg (by simp [atS])]
      show iterS (wordStep (lvl k)) ((st.lit a true).lit [39] true) (39 :: ([] ++ qR l ++ 39 :: r)) = _
      rw [quote_on l [] _ r (by simp), lit_onto, lit_onto]
      congr 2
    · have e : a ++ qR (c :: l) ++ 39 :: r = (a ++ [c]) ++ qR l ++ 39 :: r := by simp [qR, hc]
      rw [e, quote_on l (a ++ [c]) st r (by simp [h, Ne.symm hc])]
      congr 2
      simp
/-- A word that is quoted. -/
theorem word_quoteL {k : Nat} {s r : List UInt8} (hr : r = [] ∨ ∃ t, r = 32 :: t) : wordS (lvl k) (quoteL s ++ r) = .ok [litP true s] r := by
  have e : quoteL s ++ r = 39 :: ([] ++ qR s ++ 39 :: r) := by simp [quoteL]
  unfold wordS
  rw [e, quote_on s [] _ r (by simp)]
  show iterS (wordStep (lvl k)) ⟨[], some (true, [] ++ s)⟩ r = _
  rw [iterS_eq (wordStep_nice (lvl_good k))]
  rcases hr with rfl | ⟨t, rfl⟩
  · rfl
  · rfl
def tQ2 (s t : List UInt8) : List UInt8 := [101, 99, 104, 111, 32] ++ quoteL s ++ [32] ++ quoteL t
theorem read_quotes2 (k : Nat) (s t : List UInt8) : lstS k (tQ2 s t) = .ok [.mk 1 [] [] [[litP false [101, 99, 104, 111]], [litP true s], [litP true t]] [] [] []] [] := by
  have hg := lvl_good k
  have es2 : tQ2 s t = 101 :: 99 :: 104 :: 111 :: 32 :: 39 :: (qR s ++ [39] ++ (32 :: quoteL t)) := by simp [tQ2, quoteL]
  have ec : ∀ r, cmdS (lvl k) (101 :: 99 :: 104 :: 111 :: 32 :: 39 :: r) = simpleS (lvl k) (101 :: 99 :: 104 :: 111 :: 32 :: 39 :: r) := fun r => rfl
  have eb : ∀ s r, asgStep (lvl k) s (101 :: 99 :: 104 :: 111 :: 32 :: 39 :: r) = .ok (.stop s) (101 :: 99 :: 104 :: 111 :: 32 :: 39 :: r) := fun s r => rfl
  have ek : ∀ r, keyS (101 :: 99 :: 104 :: 111 :: 32 :: 39 :: r) = [101, 99, 104, 111] := fun r => rfl
  have ew : ∀ r, wordS (lvl k) (gapS (101 :: 99 :: 104 :: 111 :: 32 :: 39 :: r)) = .ok [litP false [101, 99, 104, 111]] (32 :: 39 :: r) := fun r => by
    show iterS (wordStep (lvl k)) ⟨[], none⟩ (101 :: 99 :: 104 :: 111 :: 32 :: 39 :: r) = _
    rw [iterS_eq (wordStep_nice hg)]
    show iterS (wordStep (lvl k)) ⟨[], some (false, [101, 99, 104, 111])⟩ (32 :: 39 :: r) = _
    rw [iterS_eq (wordStep_nice hg)]
    rfl
  have eg : ∀ r, gapS (32 :: 39 :: r) = 39 :: r := fun r => rfl
  rw [es2]
  refine lst_one rfl rfl ?_
  rw [ec, simpleS, iterS_eq (asgStep_nice hg), eb]
  dsimp only [Rr.bind]
  rw [ek, if_neg (by decide)]
  unfold wordsS
  rw [iterS_eq (wordsStep_nice hg)]
  have es : ∀ ws l, wordsStep (lvl k) ws l = (wordS (lvl k) (gapS l)).bind fun ps r => if ps = [] then .ok (.stop ws) r else .ok (.go (ws ++ [ps])) r := fun _ _ => rfl
  rw [es, ew]
  dsimp only [Rr.bind]
  rw [if_neg (by simp)]
  dsimp only
  rw [iterS_eq (wordsStep_nice hg), es, eg]
  rw [show (39 :: (qR s ++ [39] ++ (32 :: quoteL t)) : List UInt8) = quoteL s ++ 32 :: quoteL t by simp [quoteL], word_quoteL (.inr ⟨_, rfl⟩)]
  dsimp only [Rr.bind]
  rw [if_neg (by simp)]
  dsimp only
  rw [iterS_eq (wordsStep_nice hg), es]
  rw [show gapS (32 :: quoteL t) = quoteL t ++ [] by rw [List.append_nil]; rfl, word_quoteL (.inl rfl)]
  dsimp only [Rr.bind]
  rw [if_neg (by simp)]
  rfl
theorem readSh_quotes2 (s t : List UInt8) (h : (tQ2 s t).length ≤ 1048576) : readSh (tQ2 s t) = ([.mk 1 [] [] [[litP false [101, 99, 104, 111]], [litP true s], [litP true t]] [] [] []], 0) := by
  unfold readSh
  rw [if_neg (by omega), read_quotes2]
  rfl
end Go.Proofs.YtelfgobjnibooaaDoor
