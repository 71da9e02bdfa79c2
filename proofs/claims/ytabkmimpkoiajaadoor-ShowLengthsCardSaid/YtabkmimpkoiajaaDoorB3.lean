/- Packed texts: SwMem, SwQuote, SwShaped, SwRow, SwEach, SwTold. What each of them proves stands above its theorems; the conditions stand in these. -/
import Derived.Deep.LoopGhost
import Derived.HandedShaped
import Derived.Lib.ReplaceLaws
import Derived.Lib.SplitLaws
import Derived.Shelf.Vars
import Derived.Test.YtabkmimpkoiajaaDoorShelf
import Derived.Test.YtabkmimpkoiajaaDoorB0
import Derived.Test.YtabkmimpkoiajaaDoorB1
import Derived.Test.YtabkmimpkoiajaaDoorB2
namespace Go.Proofs.YtabkmimpkoiajaaDoor
open Go.RowKit Go.Lib

/-- What a text may move: the builder, and rows of bytes above the first world. -/
def Kp (w0 : World) (b : Nat) (w w' : World) : Prop := Below w0.heap.size w w' ∧ OthersKept 5 (some b) w w'
theorem Kp.refl (w0 : World) (b : Nat) (w : World) : Kp w0 b w w := ⟨Below.refl _ _, OthersKept.refl _ _ _⟩
theorem Kp.trans {w0 : World} {b : Nat} {w w1 w2 : World} (h : Kp w0 b w w1) (k : Kp w0 b w1 w2) : Kp w0 b w w2 := ⟨h.1.trans k.1, h.2.trans k.2⟩
/-- Behind what laid new blocks alone. -/
theorem Kp.new {w0 : World} {b : Nat} {w w' : World} (h : Below w.heap.size w w') (h0 : w0.heap.size ≤ w.heap.size) : Kp w0 b w w' :=
  ⟨h.mono h0, fun k o hk _ _ => by rw [h.block k (Array.getElem?_eq_some_iff.1 hk).1]; exact hk⟩
/-- A later world than the first. -/
def Base (w0 w : World) : Prop := w0.heap.size ≤ w.heap.size ∧ ∀ k, k < w0.heap.size → w.heap[k]? = w0.heap[k]?
theorem Base.refl (w0 : World) : Base w0 w0 := ⟨Nat.le_refl _, fun _ _ => rfl⟩
theorem Base.on {w0 w w' : World} (h : Base w0 w) (hb : Below w0.heap.size w w') : Base w0 w' := ⟨Nat.le_trans h.1 hb.size, fun k hk => (hb.block k hk).trans (h.2 k hk)⟩
theorem Base.new {w0 w w' : World} (h : Base w0 w) (hb : Below w.heap.size w w') : Base w0 w' := h.on (hb.mono h.1)
/-- The builder with what is out. -/
def BldI (w0 : World) (b : Nat) (out : List UInt8) (w : World) : Prop := IsBuilderF 76 5 w0.heap.size b (byteCells out) w
/-- The blocks of F: above the first world's, none of them the builder's nor a row of bytes. -/
def FarF (w0 : World) (b : Nat) (F : Nat → Prop) (w : World) : Prop := ∀ g, F g → w0.heap.size ≤ g ∧ g ≠ b ∧ ∃ cs t fz, w.heap[g]? = some (.cells cs t fz) ∧ t ≠ 5
theorem FarF.same {w0 : World} {b : Nat} {F : Nat → Prop} {w w' : World} (h : FarF w0 b F w) (hs : ∀ g, F g → w'.heap[g]? = w.heap[g]?) : FarF w0 b F w' := fun g hg => by
  obtain ⟨h1, h2, cs, t, fz, h3, h4⟩ := h g hg
  exact ⟨h1, h2, cs, t, fz, (hs g hg).trans h3, h4⟩
theorem FarF.kept {w0 : World} {b : Nat} {F : Nat → Prop} {w w' : World} (h : FarF w0 b F w) (k : Kp w0 b w w') : ∀ g, F g → w'.heap[g]? = w.heap[g]? := fun g hg => by
  obtain ⟨h1, h2, cs, t, fz, h3, h4⟩ := h g hg
  rw [k.2 g _ h3 (fun e => h2 (Option.some.inj e)) (fun c z e => by cases e; exact h4 rfl), h3]
theorem FarF.lt {w0 : World} {b : Nat} {F : Nat → Prop} {w : World} (h : FarF w0 b F w) : ∀ g, F g → g < w.heap.size := fun g hg => by
  obtain ⟨h1, h2, cs, t, fz, h3, h4⟩ := h g hg
  exact (Array.getElem?_eq_some_iff.1 h3).1
theorem FarF.or {w0 : World} {b : Nat} {F G : Nat → Prop} {w : World} (h : FarF w0 b F w) (k : FarF w0 b G w) : FarF w0 b (fun g => F g ∨ G g) w := fun g hg => hg.elim (h g) (k g)
/-- One text: a closure, which hangs on the blocks of F. -/
def PutsP (w0 : World) (b : Nat) (F : Nat → Prop) (w : World) (k : FuncId) (caps : Array Value) (x : List UInt8) : Prop :=
  ∀ W out, Base w0 W → (∀ g, F g → W.heap[g]? = w.heap[g]?) → BldI w0 b out W → out.length + x.length ≤ 1000000000 →
    Calls Tryd.prog k (#[.pointer (some ⟨b, 0, none⟩)] ++ caps) W fun e w' => e = .returned (.tuple #[]) ∧ BldI w0 b (out ++ x) w' ∧ Kp w0 b W w'
/-- A new box. -/
theorem far_box (w0 : World) (b : Nat) (w : World) (cs : Array Value) (t : TypeId) (ht : t ≠ 5) (h0 : w0.heap.size ≤ w.heap.size) (hb : b ≠ w.heap.size) : FarF w0 b (fun g => g = w.heap.size) (w.alloc (.cells cs t)) := fun g hg => by
  subst hg
  exact ⟨h0, fun e => hb e.symm, cs, t, _, heap_alloc_new w _, ht⟩
theorem alloc_below (w : World) (o : Obj) : Below w.heap.size w (w.alloc o) := (Below.refl _ w).alloc (Nat.le_refl _) o
theorem box_cell {w W : World} {v : Value} {t : TypeId} (h : W.heap[w.heap.size]? = (w.alloc (.cells #[v] t)).heap[w.heap.size]?) : W.cell? ⟨w.heap.size, 0, none⟩ = some v := by
  rw [heap_alloc_new] at h
  rw [cell_of_heap h]
  rfl
theorem str_cells (l : List UInt8) : strCells ⟨l.toArray⟩ = byteCells l := by rw [strCells_eq]
theorem bc_app (a b : List UInt8) : byteCells (a ++ b) = byteCells a ++ byteCells b := by unfold byteCells; rw [List.map_append]
theorem BldI.lt {w0 : World} {b : Nat} {out : List UInt8} {w : World} (h : BldI w0 b out w) : b < w.heap.size := h.elim (fun h => h.lt) (fun h => h.lt)
/-- The builder writes a text. -/
theorem puts_any (w0 : World) (b : Nat) (out l : List UInt8) (w : World) (h : BldI w0 b out w) (hb : Base w0 w) (hn : out.length + l.length ≤ 1000000000) :
    Calls Tryd.prog 73 #[.pointer (some ⟨b, 0, none⟩), .string ⟨l.toArray⟩] w fun e w' => e = .returned (.tuple #[.int .i64 l.length, .nilIface]) ∧ BldI w0 b (out ++ l) w' ∧ Kp w0 b w w' := by
  have hz : (⟨l.toArray⟩ : ByteArray).size = l.length := sizeS l
  refine (writeString_any w0.heap.size b (byteCells out) ⟨l.toArray⟩ w h (by rw [byteCells_length, hz]; omega) hb.1).mono ?_
  rintro e w' ⟨rfl, h1, h2, h3⟩
  rw [str_cells, ← bc_app] at h1
  exact ⟨by rw [hz], .inr h1, h2, h3⟩
set_option maxHeartbeats 1000000 in
theorem as1_any (w0 : World) (b g : Nat) (out l : List UInt8) (w : World) (h : BldI w0 b out w) (hb : Base w0 w) (hg : w.cell? ⟨g, 0, none⟩ = some (.string ⟨l.toArray⟩)) (hn : out.length + l.length ≤ 1000000000) :
    Calls Tryd.prog 105 #[.pointer (some ⟨b, 0, none⟩), .pointer (some ⟨g, 0, none⟩)] w fun e w' => e = .returned (.tuple #[]) ∧ BldI w0 b (out ++ l) w' ∧ Kp w0 b w w' := by
  have k := puts_any w0 b out l w h hb hn
  clear h hb hn
  generalize (⟨l.toArray⟩ : ByteArray) = S at *
  go_enter Tryd.func105, Tryd.ntmps105
  go_wp2_with (go_at_call 73; (with_reducible refine k.mono ?_); rintro e w1 ⟨rfl, h1⟩; have HH := Lib.hid h1; clear h1)
  go_end0
  exact ⟨rfl, HH.out⟩
theorem enters_as1 : ∀ args w, (callFunc 105 args).run Tryd.prog w = .ok (.enter 105 args) w := enters_of Tryd.func105 (by kernel_rfl) rfl
set_option maxHeartbeats 1000000 in
theorem as_new (s : ByteArray) (w : World) :
    Calls Tryd.prog 80 #[.string s] w fun e w' => e = .returned (.func (.func 105) #[] #[.pointer (some ⟨w.heap.size, 0, none⟩)]) ∧ w' = w.alloc (.cells #[.string s] 9) := by
  go_enter Tryd.func80, Tryd.ntmps80
  go_wp2
  exact bodyPost_ret (results_tmp rfl _ _ _) rfl ⟨rfl, rfl⟩
end Go.Proofs.YtabkmimpkoiajaaDoor
namespace Go.Proofs.YtabkmimpkoiajaaDoor
open Go.RowKit Go.Lib

/-- A quoted text, but for the ' at both ends. -/
def qR : List UInt8 → List UInt8
  | [] => []
  | c :: r => (if c = 39 then [39, 92, 39, 39] else [c]) ++ qR r
def quoteL (l : List UInt8) : List UInt8 := [39] ++ qR l ++ [39]
theorem qR_app (a b : List UInt8) : qR (a ++ b) = qR a ++ qR b := by
  induction a with
  | nil => rfl
  | cons c r ih => rw [List.cons_append, qR, qR, ih, List.append_assoc]
theorem qR_len (l : List UInt8) : (qR l).length = l.length + 3 * l.count 39 := by
  induction l with
  | nil => rfl
  | cons c r ih =>
    rw [qR, List.length_append, ih, List.length_cons, List.count_cons]
    by_cases h : c = 39
    · subst h; simp; omega
    · have h2 : (c == 39) = false := by simpa using h
      rw [if_neg h, h2]
      simp
      omega
theorem quote_len (l : List UInt8) : (quoteL l).length = l.length + 2 + 3 * l.count 39 := by
  unfold quoteL
  rw [List.length_append, List.length_append, qR_len]
  simp
  omega
theorem qR_inj : ∀ a b : List UInt8, qR a = qR b → a = b
  | [], [], _ => rfl
  | [], c :: r, h => by
    rw [qR, qR] at h
    by_cases hc : c = 39
    · rw [if_pos hc] at h; cases h
    · rw [if_neg hc] at h; cases h
  | c :: r, [], h => by
    rw [qR, qR] at h
    by_cases hc : c = 39
    · rw [if_pos hc] at h; cases h
    · rw [if_neg hc] at h; cases h
  | c :: r, d :: t, h => by
    rw [qR, qR] at h
    by_cases hc : c = 39 <;> by_cases hd : d = 39
    · rw [if_pos hc, if_pos hd] at h
      rw [hc, hd, qR_inj r t (List.append_cancel_left h)]
    · rw [if_pos hc, if_neg hd] at h
      injection h with h1 _
      exact absurd h1.symm hd
    · rw [if_neg hc, if_pos hd] at h
      injection h with h1 _
      exact absurd h1 hc
    · rw [if_neg hc, if_neg hd] at h
      injection h with h1 h2
      rw [h1, qR_inj r t (by simpa using h2)]
theorem quote_inj {a b : List UInt8} (h : quoteL a = quoteL b) : a = b := by
  unfold quoteL at h
  exact qR_inj a b (List.append_cancel_left (List.append_cancel_right h))
theorem replaceK_q : ∀ l : List UInt8, Lib.replaceK [39] [39, 92, 39, 39] (Lib.count l [39]) l = qR l
  | [] => by
    have : Lib.count ([] : List UInt8) [39] = 0 := by rw [count_one]; rfl
    rw [this]; rfl
  | c :: r => by
    have ih := replaceK_q r
    by_cases hc : c = 39
    · subst hc
      have hi : Lib.index (39 :: r) [39] = ((0 : Nat) : Int) := by simp [Lib.index, List.isPrefixOf]
      rw [count_cons_eq, Nat.add_comm, replaceK_hit _ _ _ _ 0 hi, qR, if_pos rfl]
      simpa using ih
    · rw [count_cons_ne c 39 r hc, qR, if_neg hc]
      cases hk : Lib.count r [39] with
      | zero =>
        rw [hk] at ih
        have : r = qR r := ih
        show c :: r = [c] ++ qR r
        rw [← this]
        rfl
      | succ k =>
        rw [hk] at ih
        obtain ⟨i, hi⟩ := index_of_count (s := r) (old := [39]) (by omega)
        have hi2 : Lib.index (c :: r) [39] = ((i + 1 : Nat) : Int) := by
          have hp : ([39] : List UInt8).isPrefixOf (c :: r) = false := by
            simp [List.isPrefixOf]
            exact fun e => hc e.symm
          have hm : (Lib.index r [39] == -1) = false := by rw [hi]; simp
          rw [Lib.index, hp, hm, hi]
          simp
        rw [replaceK_hit _ _ _ _ _ hi2]
        rw [replaceK_hit _ _ _ _ _ hi] at ih
        rw [← ih]
        simp
theorem replaceAll_q (l : List UInt8) : Lib.replaceAll l [39] [39, 92, 39, 39] = qR l := by
  unfold Lib.replaceAll Lib.replace Lib.replaceNum
  rw [if_neg (by decide), if_pos (.inl (by decide))]
  exact replaceK_q l
/-- The library's own number holds one. -/
def Mx12 (w : World) : Prop := ∃ m, w.cell? ⟨0, 0, none⟩ = some (.int .i64 m)
theorem Mx12.lt {w : World} (h : Mx12 w) : 0 < w.heap.size := by
  obtain ⟨m, hm⟩ := h
  rcases Nat.lt_or_ge 0 w.heap.size with h' | h'
  · exact h'
  · rw [World.cell?, Array.getElem?_eq_none h'] at hm
    cases hm
theorem Mx12.below {w w' : World} (h : Mx12 w) (hb : Below w.heap.size w w') : Mx12 w' := by
  have hl := h.lt
  obtain ⟨m, hm⟩ := h
  exact ⟨m, (World.cell?_of_block (hb.block 0 hl)).trans hm⟩
set_option maxHeartbeats 1000000 in
set_option maxRecDepth 20000 in
theorem quote_any (l : List UInt8) (w : World) (hl : l.length ≤ 1000000) (hm : Mx12 w) :
    Calls Tryd.prog 19 #[.string ⟨l.toArray⟩] w fun e w' => e = .returned (.string ⟨(quoteL l).toArray⟩) ∧ Below w.heap.size w w' := by
  obtain ⟨m, hm⟩ := hm
  have hz : (⟨l.toArray⟩ : ByteArray).size = l.length := sizeS l
  have hc : Lib.countB (⟨l.toArray⟩ : ByteArray) ⟨#[39]⟩ = l.count 39 := count_one 39 l
  have hcl : l.count 39 ≤ l.length := List.count_le_length
  have k1 := Tryd.strings_ReplaceAll ⟨l.toArray⟩ ⟨#[39]⟩ ⟨#[39, 92, 39, 39]⟩ m w (by omega) hm (by decide) (by rw [hc, hz]; have : (⟨#[39, 92, 39, 39]⟩ : ByteArray).size = 4 := rfl; rw [this]; omega)
  have e1 : Lib.replaceAll (⟨l.toArray⟩ : ByteArray).data.toList (⟨#[39]⟩ : ByteArray).data.toList (⟨#[39, 92, 39, 39]⟩ : ByteArray).data.toList = qR l := replaceAll_q l
  rw [e1] at k1
  have hR : (⟨#[39]⟩ : ByteArray) ++ ⟨(qR l).toArray⟩ ++ ⟨#[39]⟩ = ⟨(quoteL l).toArray⟩ := by
    apply ByteArray.ext
    simp [quoteL, ByteArray.data_append]
  have hqz : (⟨(qR l).toArray⟩ : ByteArray).size = l.length + 3 * l.count 39 := by rw [sizeS, qR_len]
  have HR := Lib.hid hR
  have n1 : (⟨(qR l).toArray⟩ : ByteArray).size ≤ 4000000 := by omega
  clear hz hc hcl e1 hR hqz hm hl
  generalize (⟨l.toArray⟩ : ByteArray) = S at *
  generalize (⟨(qR l).toArray⟩ : ByteArray) = R at *
  generalize (⟨(quoteL l).toArray⟩ : ByteArray) = Z at *
  go_enter Tryd.func19, Tryd.ntmps19
  go_wp2_with (go_at_call 33; (with_reducible refine k1.mono ?_); rintro e w1 ⟨rfl, h1⟩; have H1 := Lib.hid h1; clear h1 k1)
  refine bodyPost_ret (results_tmp rfl _ _ _) rfl ⟨?_, H1.out⟩
  show Ending.returned (Value.string _) = _
  rw [← HR.out]
end Go.Proofs.YtabkmimpkoiajaaDoor
namespace Go.Proofs.YtabkmimpkoiajaaDoor
open Go.ChangeShapes Go.WideShapes Go.ChangeAt Go.RowKit

theorem mx12_of_shaped {W : World} (h : W.ShapedOpen Tryd.prog) : Mx12 W :=
  cell_of_shapedOpen_int (zero := #[.int .i64 0]) (t := 3) h (of_decide_eq_true (by kernel_rfl)) (by kernel_rfl) rfl (by kernel_rfl) (by kernel_rfl) Tryd.underlying3
theorem returnsInHanded_shaped_and {H : Type} {enc : TypeId × Value → H} {a : Assume} {C : Checked} {os : Os} {f : FuncId} {fn : Func} {s : ChangeSpec} {conds : List PathCond} {apart fresh handsOn again : Bool} {X : World → Array Value → Prop}
    (hX : ∀ (w w' : World) (args : Array Value), w.heap = w'.heap → X w args → X w' args)
    (own : ownKnob C.prog.godebug = none) (started : os.Started) (noInit : C.prog.inits.idxOf? f = none) (hfn : C.prog.funcs[f]? = some fn)
    (witness : ∃ (w : World) (tape : Tape) (i : Input), w.os = os ∧ (w.forCall tape i).Shaped C.prog ∧ i.vars = [] ∧ Input.okWide C.prog (w.forCall tape i) .any w.heap.size f i ∧
      ((s.pre enc C.prog fn conds apart (w.forCall tape i).memory i.args ∧ X (w.forCall tape i).memory i.args) ∧ sizedMet enc C.prog fn (OpenSpec.ofChange s) apart (w.forCall tape i).memory i.args) ∧ a.holds C.prog (lone (Frame.enter C.prog f i.args .normal) [] (w.forCall tape i)))
    (contract : ∀ (W : World) (base : Nat) (args : Array Value) (ds gs : List (DataW H)) (before : List MemPlace),
      (∀ (j : Nat) t v, fn.params[j]? = some t → args[j]? = some v → Value.okWide C.prog W .any base t v) →
      DataW.Whole enc C.prog fn.params.toList s.vars apart W args.toList ds gs before →
      conds.all (PathCond.test C.prog ⟨fn.params.toList, ds, s.plain.varTypes C.prog, gs⟩) = true →
      (DataW.weightsEach C.prog (fn.params.toList ++ s.plain.varTypes C.prog) (ds ++ gs)).all (· ≤ reachBytes) = true → X W args → W.ShapedOpen C.prog →
      a.holds C.prog (lone (Frame.enter C.prog f args .normal) [] W) →
      Calls C.prog f args W fun e W' => ∃ v, e = .returned v ∧ s.post enc C.prog fn apart fresh handsOn again W args v W') :
    ReturnsInHanded a C os f .any (fun w args => (s.pre enc C.prog fn conds apart w args ∧ X w args) ∧ sizedMet enc C.prog fn (OpenSpec.ofChange s) apart w args) (s.post enc C.prog fn apart fresh handsOn again) := by
  refine returnsInHanded_of_calls own started noInit witness ?_
  intro w tape i _ hsh _ hok hpre hholds
  obtain ⟨_, _, _, fn', hfn', _, _, _, _, hval⟩ := hok
  obtain rfl : fn' = fn := Option.some.inj (hfn'.symm.trans hfn)
  obtain ⟨⟨⟨ds, gs, before, hw, hc⟩, hx⟩, hz⟩ := hpre
  refine (contract (w.forCall tape i) w.heap.size i.args ds gs before hval (DataW.Whole.of_heap (w' := w.forCall tape i) (by rfl) hw) hc (hz.weights hw) (hX _ _ _ (by rfl) hx) hsh hholds).mono fun e W' ⟨v, he, hp⟩ => ?_
  subst he
  exact ChangeSpec.post_blind hp
end Go.Proofs.YtabkmimpkoiajaaDoor
namespace Go.Proofs.YtabkmimpkoiajaaDoor
open Go.RowKit Go.Lib

def TxtQ (w0 : World) (b : Nat) (F : Nat → Prop) (w : World) (v : Value) (x : List UInt8) : Prop :=
  ∃ k caps, v = .func (.func k) #[] caps ∧ (∀ args w, (callFunc k args).run Tryd.prog w = .ok (.enter k args) w) ∧ PutsP w0 b F w k caps x
/-- A text as an element of a row. -/
def textE (w0 : World) (b : Nat) : ElemP (List UInt8) where
  q F w x cs := ∃ v, cs = [v] ∧ TxtQ w0 b F w v x
  size := 1
  len _ _ x cs h := by obtain ⟨v, rfl, _⟩ := h; rfl
  mono F F' w x cs hF h := by
    obtain ⟨v, h1, k, caps, h2, h3, h4⟩ := h
    exact ⟨v, h1, k, caps, h2, h3, fun W out hb hg => h4 W out hb (fun g hf => hg g (hF g hf))⟩
  same F w w' x cs hs h := by
    obtain ⟨v, h1, k, caps, h2, h3, h4⟩ := h
    exact ⟨v, h1, k, caps, h2, h3, fun W out hb hg => h4 W out hb (fun g hF => (hg g hF).trans (hs g hF))⟩
/-- A row of texts. -/
def TxtsQ (w0 : World) (b : Nat) (F : Nat → Prop) (w : World) (v : Value) (xs : List (List UInt8)) : Prop := RowM (textE w0 b) 63 F w v xs
/-- Texts with a mark between. -/
def sepB (mk : List UInt8) : List (List UInt8) → List UInt8
  | [] => []
  | x :: r => x ++ (r.map (mk ++ ·)).flatten
theorem sep_snoc (mk x : List UInt8) (xs : List (List UInt8)) : sepB mk (xs ++ [x]) = sepB mk xs ++ ((if xs = [] then [] else mk) ++ x) := by
  cases xs with
  | nil => simp [sepB]
  | cons y r => simp [sepB]
theorem sep_take (mk x : List UInt8) (xs : List (List UInt8)) (j : Nat) (h : xs[j]? = some x) : sepB mk (xs.take (j + 1)) = sepB mk (xs.take j) ++ ((if j = 0 then [] else mk) ++ x) := by
  have hj := (List.getElem?_eq_some_iff.1 h).1
  have e : xs.take (j + 1) = xs.take j ++ [x] := by rw [List.take_add_one, h]; rfl
  rw [e, sep_snoc]
  congr 2
  by_cases hz : j = 0
  · subst hz; simp
  · rw [if_neg hz, if_neg]
    intro h2
    have := congrArg List.length h2
    rw [List.length_take] at this
    simp only [List.length_nil] at this
    omega
theorem sep_app (mk : List UInt8) (a b : List (List UInt8)) : ∃ c, sepB mk (a ++ b) = sepB mk a ++ c := by
  cases a with
  | nil => exact ⟨_, rfl⟩
  | cons y r => exact ⟨(b.map (mk ++ ·)).flatten, by simp [sepB, List.append_assoc]⟩
theorem sep_le (mk : List UInt8) (xs : List (List UInt8)) (j : Nat) : (sepB mk (xs.take j)).length ≤ (sepB mk xs).length := by
  obtain ⟨c, h⟩ := sep_app mk (xs.take j) (xs.drop j)
  rw [List.take_append_drop] at h
  rw [h, List.length_append]
  omega
/-- Where the row's loop stands. -/
def RoP (w0 : World) (b : Nat) (mk out : List UInt8) (xs : List (List UInt8)) (W : World) (j : Nat) (wr : World) : Prop := BldI w0 b (out ++ sepB mk (xs.take j)) wr ∧ Kp w0 b W wr
theorem txts_at {w0 : World} {b : Nat} {F : Nat → Prop} {w : World} {v : Value} {xs : List (List UInt8)} (h : TxtsQ w0 b F w v xs) {i : Nat} {x : List UInt8} (hx : xs[i]? = some x) :
    ∃ g cap k caps, v = .slice (some ⟨g, 0, none⟩) xs.length cap ∧ xs.length ≤ cap ∧ F g ∧ w.cell? ⟨g, i, none⟩ = some (.func (.func k) #[] caps) ∧ (∀ args w, (callFunc k args).run Tryd.prog w = .ok (.enter k args) w) ∧ PutsP w0 b F w k caps x := by
  obtain ⟨g, cap, ds, rfl, h2, h3, h4, ⟨u, rfl, k, caps, rfl, h5, h6⟩, h7⟩ := RowM.at h hx
  have h60 := h7 0 _ (by show 0 < 1; omega) rfl
  have hz : (textE w0 b).size = 1 := rfl
  rw [hz, Nat.mul_one, Nat.add_zero] at h60
  exact ⟨g, cap, k, caps, rfl, h2, h4, h60, h5, h6⟩
set_option maxHeartbeats 4000000 in
set_option maxRecDepth 20000 in
theorem row1_any (w0 : World) (b gl gm : Nat) (F : Nat → Prop) (mk out : List UInt8) (xs : List (List UInt8)) (v : Value) (W : World) (hB : Base w0 W) (hI : BldI w0 b out W) (hF : FarF w0 b F W) (hx : TxtsQ w0 b F W v xs) (hgl : F gl) (hgm : F gm)
    (cl : W.cell? ⟨gl, 0, none⟩ = some v) (cm : W.cell? ⟨gm, 0, none⟩ = some (.string ⟨mk.toArray⟩)) (hn : out.length + (sepB mk xs).length ≤ 1000000000) :
    Calls Tryd.prog 75 #[.pointer (some ⟨b, 0, none⟩), .pointer (some ⟨gl, 0, none⟩), .pointer (some ⟨gm, 0, none⟩)] W fun e w' => e = .returned (.tuple #[]) ∧ BldI w0 b (out ++ sepB mk xs) w' ∧ Kp w0 b W w' := by
  obtain ⟨ao, cap, rfl, hcap⟩ := RowM.shape hx
  have hsh := RowM.short hx
  obtain ⟨N, hN⟩ : ∃ N, N = xs.length := ⟨_, rfl⟩
  have HN := Lib.hid hN
  have HQ := Lib.hid (And.intro hB (And.intro hF (And.intro hx (And.intro hgl (And.intro hgm (And.intro cm hn))))))
  have HS : Hid (RoP w0 b mk out xs W 0 W) := ⟨by rw [List.take_zero]; show BldI w0 b (out ++ []) W; rw [List.append_nil]; exact hI, Kp.refl _ _ _⟩
  rw [← hN] at hcap hsh cl
  have hNb : (N : Int) ≤ 9223372036854775807 := by unfold maxLen at hsh; omega
  clear hB hF hx hgl hgm cm hn hI hN hsh
  go_enter Tryd.func75, Tryd.ntmps75
  go_wp2
  go_loopg [8] (N + 1) (fun k i wr => ∃ (j : Nat), i = .int .i64 j ∧ j ≤ N ∧ Hid (k = N + 1 - j) ∧ Hid (RoP w0 b mk out xs W j wr))
  case atStart => exact ⟨0, rfl, by omega, rfl, HS.out⟩
  case round =>
    obtain ⟨j, rfl, hj, HK, HR⟩ := hrel
    by_cases hlt : j < N
    · obtain ⟨x, hxx⟩ : ∃ x, xs[j]? = some x := ⟨xs[j]'(by have := HN.out; omega), List.getElem?_eq_getElem _⟩
      obtain ⟨hB, hF, hx, hgl, hgm, cm, hn⟩ := HQ.out
      obtain ⟨hI, hK⟩ := HR.out
      obtain ⟨g, cp, k, caps, e, -, hg, c0, hent, hput⟩ := txts_at hx hxx
      cases e
      have keep := hF.kept hK
      have c0 := (World.cell?_of_block (keep g hg)).trans c0
      have cm := (World.cell?_of_block (keep gm hgm)).trans cm
      have hT := sep_take mk x xs j hxx
      have hL := sep_le mk xs (j + 1)
      have hBr := hB.on hK.1
      have hI2 : IntKind.i64.wrap ((j : Int) + 1) = ((j + 1 : Nat) : Int) := by rw [IntWalk.i64_in _ (by omega)]; omega
      by_cases hz : j = 0
      · subst hz
        rw [if_pos rfl, List.nil_append] at hT
        have kC := hput wr _ hBr keep hI (by rw [hT, List.length_append] at hL; rw [List.length_append]; omega)
        have DN := Lib.hid (fun w2 (h : BldI w0 b (out ++ sepB mk (xs.take 0) ++ x) w2 ∧ Kp w0 b wr w2) => (⟨by rw [hT, ← List.append_assoc]; exact h.1, hK.trans h.2⟩ : RoP w0 b mk out xs W (0 + 1) w2))
        clear hB hF hx hgl hgm cm hn hI hK keep hT hL hBr hput hxx hg
        go_wp2_with (go_at_fn k; (with_reducible refine kC.mono ?_); rintro e w2 ⟨rfl, h2⟩; have HH := Lib.hid (DN.out _ h2); clear h2 kC)
        go_roundg (N - 0)
        case measure => have := HK.out; omega
        case rel => exact ⟨0 + 1, by go_num, by omega, by show _ = _; omega, HH.out⟩
      · rw [if_neg hz] at hT
        have kW := puts_any w0 b _ mk wr hI hBr (by rw [hT, List.length_append, List.length_append] at hL; rw [List.length_append]; omega)
        have NX := Lib.hid (fun w2 (h : BldI w0 b (out ++ sepB mk (xs.take j) ++ mk) w2 ∧ Kp w0 b wr w2) => hput w2 _ (hBr.on h.2.1) (fun g hg => hF.kept (hK.trans h.2) g hg) h.1 (by rw [hT, List.length_append, List.length_append] at hL; rw [List.length_append, List.length_append]; omega))
        have DN := Lib.hid (fun w2 w3 (h0 : BldI w0 b (out ++ sepB mk (xs.take j) ++ mk) w2 ∧ Kp w0 b wr w2) (h : BldI w0 b (out ++ sepB mk (xs.take j) ++ mk ++ x) w3 ∧ Kp w0 b w2 w3) => (⟨by rw [hT, ← List.append_assoc, ← List.append_assoc]; exact h.1, (hK.trans h0.2).trans h.2⟩ : RoP w0 b mk out xs W (j + 1) w3))
        have hjp : (0 : Int) < (j : Int) := by omega
        clear hB hF hx hgl hgm hn hI hK keep hT hL hBr hput hxx hg
        go_wp2_with (first
          | (go_at_call 73; (with_reducible refine kW.mono ?_); rintro e w2 ⟨rfl, h2⟩; have kC := NX.out _ h2; have H2 := Lib.hid h2; clear h2 kW)
          | (go_at_fn k; (with_reducible refine kC.mono ?_); rintro e w3 ⟨rfl, h3⟩; have HH := Lib.hid (DN.out _ _ H2.out h3); clear h3 kC))
        go_roundg (N - j)
        case measure => have := HK.out; omega
        case rel => exact ⟨j + 1, by go_num, by omega, by show _ = _; omega, HH.out⟩
    · have hd : decide ((j : Int) < (N : Int)) = false := by simp; omega
      have he : j = N := by omega
      have hR := HR.out
      unfold RoP at hR
      rw [he, HN.out, List.take_length] at hR
      have HH := Lib.hid hR
      clear hR he
      go_wp2
      go_end0
      exact ⟨rfl, HH.out⟩
end Go.Proofs.YtabkmimpkoiajaaDoor
namespace Go.Proofs.YtabkmimpkoiajaaDoor
open Go.RowKit Go.Lib

/-- What lays a text answers it: it hangs on F and on new blocks. -/
def GetT (w0 : World) (b : Nat) (F : Nat → Prop) (w : World) (x : List UInt8) (e : Ending) (w' : World) : Prop := ∃ k caps, e = .returned (.func (.func k) #[] caps) ∧ (∀ args w, (callFunc k args).run Tryd.prog w = .ok (.enter k args) w) ∧ FarF w0 b (fun g => F g ∨ NewF w.heap.size w'.heap.size g) w' ∧ PutsP w0 b (fun g => F g ∨ NewF w.heap.size w'.heap.size g) w' k caps x ∧ Below w.heap.size w w'
theorem enters_row1 : ∀ args w, (callFunc 75 args).run Tryd.prog w = .ok (.enter 75 args) w := enters_of Tryd.func75 (by kernel_rfl) rfl
set_option maxHeartbeats 1000000 in
theorem row_new (s : ByteArray) (a : Option Addr) (n c : Nat) (w : World) :
    Calls Tryd.prog 49 #[.string s, .slice a n c] w fun e w' => e = .returned (.func (.func 75) #[] #[.pointer (some ⟨w.heap.size + 1, 0, none⟩), .pointer (some ⟨w.heap.size, 0, none⟩)]) ∧ w' = (w.alloc (.cells #[.string s] 9)).alloc (.cells #[.slice a n c] 78) := by
  go_enter Tryd.func49, Tryd.ntmps49
  go_wp2
  exact bodyPost_ret (results_tmp rfl _ _ _) rfl ⟨rfl, rfl⟩
theorem rowM_any (w0 : World) (b : Nat) (F : Nat → Prop) (mk : List UInt8) (xs : List (List UInt8)) (a : Option Addr) (n c : Nat) (w : World) (h0 : Base w0 w) (hb : b < w.heap.size) (hF : FarF w0 b F w) (hx : TxtsQ w0 b F w (.slice a n c) xs) :
    Calls Tryd.prog 49 #[.string ⟨mk.toArray⟩, .slice a n c] w (GetT w0 b F w (sepB mk xs)) := by
  refine (row_new ⟨mk.toArray⟩ a n c w).mono ?_
  rintro e w' ⟨rfl, rfl⟩
  obtain ⟨w1, hw1⟩ : ∃ w1, w1 = w.alloc (.cells #[.string ⟨mk.toArray⟩] 9) := ⟨_, rfl⟩
  obtain ⟨w2, hw2⟩ : ∃ w2, w2 = w1.alloc (.cells #[.slice a n c] 78) := ⟨_, rfl⟩
  have hs1 : w1.heap.size = w.heap.size + 1 := by rw [hw1]; simp
  have hs2 : w2.heap.size = w.heap.size + 2 := by rw [hw2]; simp [hs1]
  have hb1 : Below w.heap.size w w1 := by rw [hw1]; exact alloc_below w _
  have hb2 : Below w.heap.size w w2 := by rw [hw2]; exact hb1.alloc (by omega) _
  have c1 : w2.heap[w.heap.size]? = some (.cells #[.string ⟨mk.toArray⟩] 9 (0, 0)) := by
    rw [hw2, alloc_old w1 _ _ (by omega), hw1]
    exact heap_alloc_new w _
  have c2 : w2.heap[w.heap.size + 1]? = some (.cells #[.slice a n c] 78 (0, 0)) := by
    rw [hw2, ← hs1]
    exact heap_alloc_new w1 _
  rw [← hw1, ← hw2]
  have hlt := hF.lt
  have hsm : ∀ g, F g → w2.heap[g]? = w.heap[g]? := fun g hg => hb2.block g (hlt g hg)
  have hFar : FarF w0 b (fun g => F g ∨ NewF w.heap.size w2.heap.size g) w2 := by
    refine (hF.same hsm).or fun g hg => ?_
    obtain ⟨h1, h2⟩ := hg
    refine ⟨Nat.le_trans h0.1 h1, by omega, ?_⟩
    by_cases hg : g = w.heap.size
    · subst hg; exact ⟨_, _, _, c1, by decide⟩
    · obtain rfl : g = w.heap.size + 1 := by omega
      exact ⟨_, _, _, c2, by decide⟩
  refine ⟨_, _, rfl, enters_row1, hFar, ?_, hb2⟩
  intro W out hB hG hI hn
  have g1 := hG w.heap.size (.inr ⟨Nat.le_refl _, by omega⟩)
  have g2 := hG (w.heap.size + 1) (.inr ⟨by omega, by omega⟩)
  rw [c1] at g1
  rw [c2] at g2
  exact row1_any w0 b _ _ (fun g => F g ∨ NewF w.heap.size w2.heap.size g) mk out xs (.slice a n c) W hB hI (hFar.same hG) (RowM.mono (RowM.same hx fun g hg => (hG g (.inl hg)).trans (hsm g hg)) fun g hg => .inl hg) (.inr ⟨by omega, by omega⟩) (.inr ⟨Nat.le_refl _, by omega⟩) (by rw [cell_of_heap g2]; rfl) (by rw [cell_of_heap g1]; rfl) hn
/-- A row of texts in the making. -/
def EachI (w0 : World) (b : Nat) (w : World) (xs : List (List UInt8)) (N j : Nat) (wr : World) : Prop :=
  ∃ vs : List Value, vs.length = j ∧ wr.heap[w.heap.size]? = some (.cells (vs ++ List.replicate (N - j) Value.nilFunc).toArray 63 (0, 0)) ∧ Below w.heap.size w wr ∧ w.heap.size < wr.heap.size ∧ (∀ (i : Nat) (u : Value) (x : List UInt8), vs[i]? = some u → xs[i]? = some x → TxtQ w0 b (NewF (w.heap.size + 1) wr.heap.size) wr u x) ∧ FarF w0 b (NewF (w.heap.size + 1) wr.heap.size) wr
theorem made_nil (n : Nat) : madeCells #[Value.nilFunc] n = (List.replicate n Value.nilFunc).toArray := by
  unfold madeCells
  apply Array.ext
  · simp
  · intro i h1 h2
    have : i % 1 = 0 := Nat.mod_one i
    simp [this]
theorem EachI.start (w0 : World) (b : Nat) (w : World) (xs : List (List UInt8)) (N : Nat) : EachI w0 b w xs N 0 (w.alloc (.cells (madeCells #[Value.nilFunc] N) 63)) :=
  ⟨[], rfl, by rw [made_nil]; exact heap_alloc_new w _, alloc_below w _, by simp, fun i u x h => by simp at h, fun g hg => by obtain ⟨h1, h2⟩ := hg; simp at h2; omega⟩
theorem TxtQ.same {w0 : World} {b : Nat} {F : Nat → Prop} {w w' : World} {v : Value} {x : List UInt8} (h : TxtQ w0 b F w v x) (hs : ∀ g, F g → w'.heap[g]? = w.heap[g]?) : TxtQ w0 b F w' v x := by
  obtain ⟨k, caps, h2, h3, h4⟩ := h
  exact ⟨k, caps, h2, h3, fun W out hb hg => h4 W out hb (fun g hF => (hg g hF).trans (hs g hF))⟩
theorem TxtQ.mono {w0 : World} {b : Nat} {F G : Nat → Prop} {w : World} {v : Value} {x : List UInt8} (h : TxtQ w0 b F w v x) (hs : ∀ g, F g → G g) : TxtQ w0 b G w v x := by
  obtain ⟨k, caps, h2, h3, h4⟩ := h
  exact ⟨k, caps, h2, h3, fun W out hb hg => h4 W out hb (fun g hF => hg g (hs g hF))⟩
theorem EachI.step {w0 : World} {b : Nat} {w wr w1 : World} {xs : List (List UInt8)} {N j : Nat} {x : List UInt8} {k : FuncId} {caps : Array Value} (h : EachI w0 b w xs N j wr) (hj : j < N) (hx : xs[j]? = some x) (hk : ∀ args w, (callFunc k args).run Tryd.prog w = .ok (.enter k args) w)
    (hF : FarF w0 b (fun g => NoneF g ∨ NewF wr.heap.size w1.heap.size g) w1) (hp : PutsP w0 b (fun g => NoneF g ∨ NewF wr.heap.size w1.heap.size g) w1 k caps x) (hb : Below wr.heap.size wr w1) :
    w1.cell? ⟨w.heap.size, j, none⟩ = some .nilFunc ∧ w1.frozen? ⟨w.heap.size, j, none⟩ = false ∧ EachI w0 b w xs N (j + 1) (w1.setCell ⟨w.heap.size, j, none⟩ (.func (.func k) #[] caps)) := by
  obtain ⟨vs, h1, h2, h3, h4, h5, h6⟩ := h
  have g2 := (hb.block _ h4).trans h2
  have hsz := hb.size
  have hoth : ∀ g, g ≠ w.heap.size → (w1.setCell ⟨w.heap.size, j, none⟩ (.func (.func k) #[] caps)).heap[g]? = w1.heap[g]? := fun g hg => Below.heap_setCell _ _ _ _ hg
  have hsz2 : (w1.setCell ⟨w.heap.size, j, none⟩ (.func (.func k) #[] caps)).heap.size = w1.heap.size := by simp [World.setCell]
  refine ⟨?_, frozen_of_heap g2 j, vs ++ [.func (.func k) #[] caps], by simp [h1], ?_, ?_, ?_, ?_, ?_⟩
  · rw [cell_of_heap g2, List.getElem?_toArray, List.getElem?_append_right (by omega), h1, Nat.sub_self, List.getElem?_replicate, if_pos (by omega)]
  · have e : (vs ++ List.replicate (N - j) Value.nilFunc).toArray.setIfInBounds j (Value.func (.func k) #[] caps) = ((vs ++ [Value.func (.func k) #[] caps]) ++ List.replicate (N - (j + 1)) Value.nilFunc).toArray := by
      obtain ⟨m, hm⟩ : ∃ m, N - j = m + 1 := ⟨N - j - 1, by omega⟩
      have hm2 : N - (j + 1) = m := by omega
      rw [hm, hm2, List.replicate_succ, List.setIfInBounds_toArray, ← h1]
      simp
    rw [← e]
    show (w1.heap.modify w.heap.size _)[w.heap.size]? = _
    rw [Array.getElem?_modify, if_pos rfl, g2]
    rfl
  · exact ((h3.trans (hb.mono (by omega)))).setCell (Nat.le_refl _) _
  · rw [hsz2]; omega
  · intro i u y hu hy
    rw [hsz2]
    by_cases hi : i < vs.length
    · rw [List.getElem?_append_left hi] at hu
      refine ((h5 i u y hu hy).same (w' := w1.setCell ⟨w.heap.size, j, none⟩ (.func (.func k) #[] caps)) fun g hg => ?_).mono fun g hg => ⟨hg.1, by have := hg.2; omega⟩
      rw [hoth g (by have := hg.1; omega)]
      exact hb.block g hg.2
    · have hi2 : i = j := by
        have := (List.getElem?_eq_some_iff.1 hu).1
        simp at this
        omega
      subst hi2
      rw [List.getElem?_append_right (by omega), h1, Nat.sub_self] at hu
      cases hu
      rw [hx] at hy
      cases hy
      refine (TxtQ.same (w' := w1.setCell ⟨w.heap.size, i, none⟩ (.func (.func k) #[] caps)) ⟨k, caps, rfl, hk, hp⟩ fun g hg => hoth g ?_).mono fun g hg => ?_
      · rcases hg with hg | hg
        · exact hg.elim
        · have := hg.1; omega
      · rcases hg with hg | hg
        · exact hg.elim
        · exact ⟨by have := hg.1; omega, hg.2⟩
  · rw [hsz2]
    intro g hg
    have hs : (w1.setCell ⟨w.heap.size, j, none⟩ (.func (.func k) #[] caps)).heap[g]? = w1.heap[g]? := hoth g (by have := hg.1; omega)
    by_cases hlt : g < wr.heap.size
    · obtain ⟨a1, a2, cs, t, fz, a3, a4⟩ := h6 g ⟨hg.1, hlt⟩
      exact ⟨a1, a2, cs, t, fz, by rw [hs, hb.block g hlt]; exact a3, a4⟩
    · obtain ⟨a1, a2, cs, t, fz, a3, a4⟩ := hF g (.inr ⟨by omega, hg.2⟩)
      exact ⟨a1, a2, cs, t, fz, by rw [hs]; exact a3, a4⟩
theorem EachI.done {w0 : World} {b : Nat} {w wr : World} {xs : List (List UInt8)} (h : EachI w0 b w xs xs.length xs.length wr) (h0 : Base w0 w) (hb : b < w.heap.size) (hm : xs.length ≤ maxLen) :
    TxtsQ w0 b (NewF w.heap.size wr.heap.size) wr (.slice (some ⟨w.heap.size, 0, none⟩) xs.length xs.length) xs ∧ FarF w0 b (NewF w.heap.size wr.heap.size) wr ∧ Below w.heap.size w wr := by
  obtain ⟨vs, h1, h2, h3, h4, h5, h6⟩ := h
  rw [Nat.sub_self, List.replicate_zero, List.append_nil] at h2
  refine ⟨⟨vs.map fun v => [v], by simp [h1], ?_, ?_, fun g hg => ?_⟩, fun g hg => ?_, h3⟩
  · intro i x cs hx hc
    rw [List.getElem?_map] at hc
    obtain ⟨u, hu, rfl⟩ := Option.map_eq_some_iff.1 hc
    exact ⟨u, rfl, (h5 i u x hu hx).mono fun g hg => ⟨by have := hg.1; omega, hg.2⟩⟩
  · have e : (vs.map fun v => [v]).flatten = vs := by
      clear h1 h2 h5
      induction vs with
      | nil => rfl
      | cons v r ih => simp [ih]
    rw [e]
    exact ⟨by rw [h1]; exact (Nat.mul_one _).symm, .inr ⟨w.heap.size, xs.length, vs.toArray, rfl, Nat.zero_le _, h2, Nat.le_refl _, hm, by rw [List.size_toArray, h1]; exact (Nat.mul_one _).symm, by
      show vs.toArray.toList.take (xs.length * 1) = vs
      rw [Nat.mul_one, ← h1, List.take_length]⟩⟩
  · cases hg
    exact ⟨Nat.le_refl _, h4⟩
  · by_cases hg1 : g = w.heap.size
    · subst hg1
      exact ⟨h0.1, by omega, _, _, _, h2, by decide⟩
    · exact h6 g ⟨by have := hg.1; omega, hg.2⟩
theorem Tryd.infoTextZ : (Tryd.prog.info? 63).map (fun i => (i.zero, i.size, i.bytes)) = some (some .nilFunc, 1, 8) := by kernel_rfl
/-- What each is asked of. -/
def OneT (w0 : World) (b : Nat) (ao : Option Addr) (S : Nat) (k : FuncId) (xs : List (List UInt8)) (w : World) : Prop :=
  ∀ (i : Nat) (x : List UInt8) (W : World), xs[i]? = some x → Base w0 W → Below w.heap.size w W → ∃ g, ao = some ⟨g, 0, none⟩ ∧ Calls Tryd.prog k #[.pointer (some ⟨g, i * S, none⟩)] W (GetT w0 b NoneF W x)
set_option maxHeartbeats 4000000 in
set_option maxRecDepth 20000 in
theorem eachCmd_any (w0 : World) (b : Nat) (ao : Option Addr) (cap : Nat) (k : FuncId) (he : ∀ args w, (callFunc k args).run Tryd.prog w = .ok (.enter k args) w) (xs : List (List UInt8)) (w : World) (h0 : Base w0 w) (hb : b < w.heap.size) (_hcap : xs.length ≤ cap) (hn : xs.length ≤ 1000000000) (H : OneT w0 b ao 7 k xs w) :
    Calls Tryd.prog 50 #[.slice ao xs.length cap, .func (.func k) #[] #[]] w fun e w' => ∃ a n c, e = .returned (.slice a n c) ∧ TxtsQ w0 b (NewF w.heap.size w'.heap.size) w' (.slice a n c) xs ∧ FarF w0 b (NewF w.heap.size w'.heap.size) w' ∧ Below w.heap.size w w' := by
  have FIN := Lib.hid (fun wr (h : EachI w0 b w xs xs.length xs.length wr) => h.done h0 hb (by unfold maxLen; omega))
  have HH := Lib.hid (And.intro H h0)
  obtain ⟨N, hN⟩ : ∃ N, N = xs.length := ⟨_, rfl⟩
  have HN := Lib.hid hN
  rw [← hN] at hn ⊢
  have hNb : (N : Int) ≤ 9223372036854775807 := by omega
  have kmk := fun (w : World) => run_make_row' (P := Tryd.prog) 78 63 .nilFunc 8 Tryd.underlying78 Tryd.infoTextZ rfl .i64 .i64 N (by omega) (by omega) w
  obtain ⟨X0, hX0⟩ : ∃ X0, X0 = Obj.cells (madeCells #[Value.nilFunc] N) 63 := ⟨_, rfl⟩
  have ST : Hid (EachI w0 b w xs N 0 (w.alloc X0)) := by rw [hX0]; exact EachI.start w0 b w xs N
  rw [← hX0] at kmk
  clear H h0 hb hN hX0
  go_enter Tryd.func50, Tryd.ntmps50
  go_wp2
  go_loopg [12] (N + 1) (fun k i wr => ∃ (j : Nat), i = .int .i64 j ∧ j ≤ N ∧ Hid (k = N + 1 - j) ∧ Hid (EachI w0 b w xs N j wr))
  case atStart => exact ⟨0, rfl, by omega, rfl, ST.out⟩
  case round =>
    obtain ⟨j, rfl, hj, HK, HE⟩ := hrel
    by_cases hlt : j < N
    · obtain ⟨x, hxx⟩ : ∃ x, xs[j]? = some x := ⟨xs[j]'(by have := HN.out; omega), List.getElem?_eq_getElem _⟩
      obtain ⟨_, _, _, hbw, _, _, _⟩ := HE.out
      obtain ⟨g, rfl, kC⟩ := HH.out.1 j x wr hxx (HH.out.2.new hbw) hbw
      have STEP := Lib.hid (fun (w1 : World) k caps hk hF hp hb => HE.out.step (w1 := w1) (k := k) (caps := caps) hlt hxx hk hF hp hb)
      have hI2 : IntKind.i64.wrap ((j : Int) + 1) = ((j + 1 : Nat) : Int) := by rw [IntWalk.i64_in _ (by omega)]; omega
      clear hbw hxx
      go_wp2_with (go_at_fn k; (with_reducible refine kC.mono ?_); rintro e w1 ⟨k2, caps, rfl, hk2, hF2, hp2, hb2⟩; obtain ⟨c1, f1, hnx⟩ := STEP.out w1 k2 caps hk2 hF2 hp2 hb2; have NX := Lib.hid hnx; have kst := fun a m W => run_store Tryd.prog W a (.func (.func k2) #[] caps) m rfl; clear hnx hk2 hF2 hp2 hb2 kC)
      go_roundg (N - j)
      case measure => have := HK.out; omega
      case rel => exact ⟨j + 1, by go_num, by omega, by show _ = _; omega, NX.out⟩
    · have hd : decide ((j : Int) < (N : Int)) = false := by simp; omega
      have he2 : j = N := by omega
      have hE := HE.out
      rw [he2] at hE
      have hE2 : EachI w0 b w xs xs.length xs.length wr := by rw [← HN.out]; exact hE
      have F := Lib.hid (FIN.out wr hE2)
      rw [← HN.out] at F
      clear hE hE2 he2
      go_wp2
      exact bodyPost_ret (results_tmp rfl _ _ _) rfl ⟨_, _, _, rfl, F.out⟩
set_option maxHeartbeats 4000000 in
set_option maxRecDepth 20000 in
theorem eachWord_any (w0 : World) (b : Nat) (ao : Option Addr) (cap : Nat) (k : FuncId) (he : ∀ args w, (callFunc k args).run Tryd.prog w = .ok (.enter k args) w) (xs : List (List UInt8)) (w : World) (h0 : Base w0 w) (hb : b < w.heap.size) (_hcap : xs.length ≤ cap) (hn : xs.length ≤ 1000000000) (H : OneT w0 b ao 1 k xs w) :
    Calls Tryd.prog 104 #[.slice ao xs.length cap, .func (.func k) #[] #[]] w fun e w' => ∃ a n c, e = .returned (.slice a n c) ∧ TxtsQ w0 b (NewF w.heap.size w'.heap.size) w' (.slice a n c) xs ∧ FarF w0 b (NewF w.heap.size w'.heap.size) w' ∧ Below w.heap.size w w' := by
  have FIN := Lib.hid (fun wr (h : EachI w0 b w xs xs.length xs.length wr) => h.done h0 hb (by unfold maxLen; omega))
  have HH := Lib.hid (And.intro H h0)
  obtain ⟨N, hN⟩ : ∃ N, N = xs.length := ⟨_, rfl⟩
  have HN := Lib.hid hN
  rw [← hN] at hn ⊢
  have hNb : (N : Int) ≤ 9223372036854775807 := by omega
  have kmk := fun (w : World) => run_make_row' (P := Tryd.prog) 78 63 .nilFunc 8 Tryd.underlying78 Tryd.infoTextZ rfl .i64 .i64 N (by omega) (by omega) w
  obtain ⟨X0, hX0⟩ : ∃ X0, X0 = Obj.cells (madeCells #[Value.nilFunc] N) 63 := ⟨_, rfl⟩
  have ST : Hid (EachI w0 b w xs N 0 (w.alloc X0)) := by rw [hX0]; exact EachI.start w0 b w xs N
  rw [← hX0] at kmk
  clear H h0 hb hN hX0
  go_enter Tryd.func104, Tryd.ntmps104
  go_wp2
  go_loopg [12] (N + 1) (fun k i wr => ∃ (j : Nat), i = .int .i64 j ∧ j ≤ N ∧ Hid (k = N + 1 - j) ∧ Hid (EachI w0 b w xs N j wr))
  case atStart => exact ⟨0, rfl, by omega, rfl, ST.out⟩
  case round =>
    obtain ⟨j, rfl, hj, HK, HE⟩ := hrel
    by_cases hlt : j < N
    · obtain ⟨x, hxx⟩ : ∃ x, xs[j]? = some x := ⟨xs[j]'(by have := HN.out; omega), List.getElem?_eq_getElem _⟩
      obtain ⟨_, _, _, hbw, _, _, _⟩ := HE.out
      obtain ⟨g, rfl, kC⟩ := HH.out.1 j x wr hxx (HH.out.2.new hbw) hbw
      rw [Nat.mul_one] at kC
      have STEP := Lib.hid (fun (w1 : World) k caps hk hF hp hb => HE.out.step (w1 := w1) (k := k) (caps := caps) hlt hxx hk hF hp hb)
      have hI2 : IntKind.i64.wrap ((j : Int) + 1) = ((j + 1 : Nat) : Int) := by rw [IntWalk.i64_in _ (by omega)]; omega
      clear hbw hxx
      go_wp2_with (go_at_fn k; (with_reducible refine kC.mono ?_); rintro e w1 ⟨k2, caps, rfl, hk2, hF2, hp2, hb2⟩; obtain ⟨c1, f1, hnx⟩ := STEP.out w1 k2 caps hk2 hF2 hp2 hb2; have NX := Lib.hid hnx; have kst := fun a m W => run_store Tryd.prog W a (.func (.func k2) #[] caps) m rfl; clear hnx hk2 hF2 hp2 hb2 kC)
      go_roundg (N - j)
      case measure => have := HK.out; omega
      case rel => exact ⟨j + 1, by go_num, by omega, by show _ = _; omega, NX.out⟩
    · have hd : decide ((j : Int) < (N : Int)) = false := by simp; omega
      have he2 : j = N := by omega
      have hE := HE.out
      rw [he2] at hE
      have hE2 : EachI w0 b w xs xs.length xs.length wr := by rw [← HN.out]; exact hE
      have F := Lib.hid (FIN.out wr hE2)
      rw [← HN.out] at F
      clear hE hE2 he2
      go_wp2
      exact bodyPost_ret (results_tmp rfl _ _ _) rfl ⟨_, _, _, rfl, F.out⟩
set_option maxHeartbeats 4000000 in
set_option maxRecDepth 20000 in
theorem eachPart_any (w0 : World) (b : Nat) (ao : Option Addr) (cap : Nat) (k : FuncId) (he : ∀ args w, (callFunc k args).run Tryd.prog w = .ok (.enter k args) w) (xs : List (List UInt8)) (w : World) (h0 : Base w0 w) (hb : b < w.heap.size) (_hcap : xs.length ≤ cap) (hn : xs.length ≤ 1000000000) (H : OneT w0 b ao 5 k xs w) :
    Calls Tryd.prog 54 #[.slice ao xs.length cap, .func (.func k) #[] #[]] w fun e w' => ∃ a n c, e = .returned (.slice a n c) ∧ TxtsQ w0 b (NewF w.heap.size w'.heap.size) w' (.slice a n c) xs ∧ FarF w0 b (NewF w.heap.size w'.heap.size) w' ∧ Below w.heap.size w w' := by
  have FIN := Lib.hid (fun wr (h : EachI w0 b w xs xs.length xs.length wr) => h.done h0 hb (by unfold maxLen; omega))
  have HH := Lib.hid (And.intro H h0)
  obtain ⟨N, hN⟩ : ∃ N, N = xs.length := ⟨_, rfl⟩
  have HN := Lib.hid hN
  rw [← hN] at hn ⊢
  have hNb : (N : Int) ≤ 9223372036854775807 := by omega
  have kmk := fun (w : World) => run_make_row' (P := Tryd.prog) 78 63 .nilFunc 8 Tryd.underlying78 Tryd.infoTextZ rfl .i64 .i64 N (by omega) (by omega) w
  obtain ⟨X0, hX0⟩ : ∃ X0, X0 = Obj.cells (madeCells #[Value.nilFunc] N) 63 := ⟨_, rfl⟩
  have ST : Hid (EachI w0 b w xs N 0 (w.alloc X0)) := by rw [hX0]; exact EachI.start w0 b w xs N
  rw [← hX0] at kmk
  clear H h0 hb hN hX0
  go_enter Tryd.func54, Tryd.ntmps54
  go_wp2
  go_loopg [12] (N + 1) (fun k i wr => ∃ (j : Nat), i = .int .i64 j ∧ j ≤ N ∧ Hid (k = N + 1 - j) ∧ Hid (EachI w0 b w xs N j wr))
  case atStart => exact ⟨0, rfl, by omega, rfl, ST.out⟩
  case round =>
    obtain ⟨j, rfl, hj, HK, HE⟩ := hrel
    by_cases hlt : j < N
    · obtain ⟨x, hxx⟩ : ∃ x, xs[j]? = some x := ⟨xs[j]'(by have := HN.out; omega), List.getElem?_eq_getElem _⟩
      obtain ⟨_, _, _, hbw, _, _, _⟩ := HE.out
      obtain ⟨g, rfl, kC⟩ := HH.out.1 j x wr hxx (HH.out.2.new hbw) hbw
      have STEP := Lib.hid (fun (w1 : World) k caps hk hF hp hb => HE.out.step (w1 := w1) (k := k) (caps := caps) hlt hxx hk hF hp hb)
      have hI2 : IntKind.i64.wrap ((j : Int) + 1) = ((j + 1 : Nat) : Int) := by rw [IntWalk.i64_in _ (by omega)]; omega
      clear hbw hxx
      go_wp2_with (go_at_fn k; (with_reducible refine kC.mono ?_); rintro e w1 ⟨k2, caps, rfl, hk2, hF2, hp2, hb2⟩; obtain ⟨c1, f1, hnx⟩ := STEP.out w1 k2 caps hk2 hF2 hp2 hb2; have NX := Lib.hid hnx; have kst := fun a m W => run_store Tryd.prog W a (.func (.func k2) #[] caps) m rfl; clear hnx hk2 hF2 hp2 hb2 kC)
      go_roundg (N - j)
      case measure => have := HK.out; omega
      case rel => exact ⟨j + 1, by go_num, by omega, by show _ = _; omega, NX.out⟩
    · have hd : decide ((j : Int) < (N : Int)) = false := by simp; omega
      have he2 : j = N := by omega
      have hE := HE.out
      rw [he2] at hE
      have hE2 : EachI w0 b w xs xs.length xs.length wr := by rw [← HN.out]; exact hE
      have F := Lib.hid (FIN.out wr hE2)
      rw [← HN.out] at F
      clear hE hE2 he2
      go_wp2
      exact bodyPost_ret (results_tmp rfl _ _ _) rfl ⟨_, _, _, rfl, F.out⟩
end Go.Proofs.YtabkmimpkoiajaaDoor
namespace Go.Proofs.YtabkmimpkoiajaaDoor
open Go.RowKit Go.Lib

/-- What a text's run answers. -/
def RunT (w0 : World) (b : Nat) (out x : List UInt8) (W : World) (e : Ending) (w' : World) : Prop := e = .returned (.tuple #[]) ∧ BldI w0 b (out ++ x) w' ∧ Kp w0 b W w'
theorem bld_new (w0 w : World) (h : w0.heap.size ≤ w.heap.size) : BldI w0 w.heap.size [] (w.alloc (.cells #[.pointer none, .slice none 0 0] 76)) :=
  .inl ⟨h, _, heap_alloc_new w _, ⟨rfl, .inl ⟨rfl, rfl⟩⟩, by simp [Value.ownBlock]⟩
set_option maxHeartbeats 2000000 in
set_option maxRecDepth 20000 in
/-- told: a closure's text, put out into a new builder. -/
theorem told_any (w0 : World) (k : FuncId) (caps : Array Value) (he : ∀ args w, (callFunc k args).run Tryd.prog w = .ok (.enter k args) w) (x : List UInt8) (w : World) (h0 : Base w0 w)
    (H : ∀ W, Base w0 W → Below w.heap.size w W → BldI w0 w.heap.size [] W → Calls Tryd.prog k (#[.pointer (some ⟨w.heap.size, 0, none⟩)] ++ caps) W (RunT w0 w.heap.size [] x W)) :
    Calls Tryd.prog 34 #[.func (.func k) #[] caps] w fun e w' => e = .returned (.string ⟨x.toArray⟩) ∧ Below w0.heap.size w w' := by
  have k1 := H (w.alloc (.cells #[.pointer none, .slice none 0 0] 76)) (h0.new (alloc_below w _)) (alloc_below w _) (bld_new w0 w h0.1)
  have HB := Lib.hid (fun w2 (h : RunT w0 w.heap.size [] x (w.alloc (.cells #[.pointer none, .slice none 0 0] 76)) (.returned (.tuple #[])) w2) =>
    (⟨by have := h.2.1; rw [List.nil_append] at this; exact this, ((alloc_below w _).mono h0.1).trans h.2.2.1, ((h0.new (alloc_below w _)).on h.2.2.1).1⟩ : IsBuilderF 76 5 w0.heap.size w.heap.size (byteCells x) w2 ∧ Below w0.heap.size w w2 ∧ w0.heap.size ≤ w2.heap.size))
  clear H h0
  go_enter Tryd.func34, Tryd.ntmps34
  go_wp2_with (first
    | (go_at_fn k; (with_reducible refine k1.mono ?_); rintro e w2 ⟨rfl, h2, h3⟩; have H2 := Lib.hid (HB.out _ ⟨rfl, h2, h3⟩); clear h2 h3 k1 HB)
    | (go_at_call 47; (with_reducible refine (Tryd.Builder_String_any_k w0.heap.size w.heap.size x _ H2.out.1 H2.out.2.2).mono ?_); rintro e w6 ⟨rfl, _, hb6, _⟩; have H6 := Lib.hid hb6; clear hb6))
  exact bodyPost_ret (results_tmp rfl _ _ _) rfl ⟨rfl, H2.out.2.1.trans H6.out⟩
theorem enters_lines1 : ∀ args w, (callFunc 48 args).run Tryd.prog w = .ok (.enter 48 args) w := enters_of Tryd.func48 (by kernel_rfl) rfl
theorem enters_word1 : ∀ args w, (callFunc 53 args).run Tryd.prog w = .ok (.enter 53 args) w := enters_of Tryd.func53 (by kernel_rfl) rfl
theorem enters_command : ∀ args w, (callFunc 51 args).run Tryd.prog w = .ok (.enter 51 args) w := enters_of Tryd.func51 (by kernel_rfl) rfl
theorem enters_part : ∀ args w, (callFunc 55 args).run Tryd.prog w = .ok (.enter 55 args) w := enters_of Tryd.func55 (by kernel_rfl) rfl
theorem enters_word : ∀ args w, (callFunc 37 args).run Tryd.prog w = .ok (.enter 37 args) w := enters_of Tryd.func37 (by kernel_rfl) rfl
set_option maxHeartbeats 1000000 in
theorem lines_new (a : Option Addr) (n c : Nat) (w : World) :
    Calls Tryd.prog 35 #[.slice a n c] w fun e w' => e = .returned (.func (.func 48) #[] #[.pointer (some ⟨w.heap.size, 0, none⟩)]) ∧ w' = w.alloc (.cells #[.slice a n c] 23) := by
  go_enter Tryd.func35, Tryd.ntmps35
  go_wp2
  exact bodyPost_ret (results_tmp rfl _ _ _) rfl ⟨rfl, rfl⟩
set_option maxHeartbeats 1000000 in
theorem word_new (p : Addr) (w : World) :
    Calls Tryd.prog 37 #[.pointer (some p)] w fun e w' => e = .returned (.func (.func 53) #[] #[.pointer (some ⟨w.heap.size, 0, none⟩)]) ∧ w' = w.alloc (.cells #[.pointer (some p)] 67) := by
  go_enter Tryd.func37, Tryd.ntmps37
  go_wp2
  exact bodyPost_ret (results_tmp rfl _ _ _) rfl ⟨rfl, rfl⟩
set_option maxHeartbeats 1000000 in
theorem command_new (p : Addr) (w : World) :
    Calls Tryd.prog 51 #[.pointer (some p)] w fun e w' => e = .returned (.func (.func 76) #[] #[.pointer (some ⟨w.heap.size, 0, none⟩)]) ∧ w' = w.alloc (.cells #[.pointer (some p)] 94) := by
  go_enter Tryd.func51, Tryd.ntmps51
  go_wp2
  exact bodyPost_ret (results_tmp rfl _ _ _) rfl ⟨rfl, rfl⟩
/-- A closure with one box answers its text. -/
theorem get_box (w0 : World) (b : Nat) (w : World) (v : Value) (t : TypeId) (ht : t ≠ 5) (k : FuncId) (hk : ∀ args w, (callFunc k args).run Tryd.prog w = .ok (.enter k args) w) (x : List UInt8) (h0 : Base w0 w) (hb : b ≠ w.heap.size)
    (H : ∀ W out, Base w0 W → W.cell? ⟨w.heap.size, 0, none⟩ = some v → BldI w0 b out W → out.length + x.length ≤ 1000000000 → Calls Tryd.prog k #[.pointer (some ⟨b, 0, none⟩), .pointer (some ⟨w.heap.size, 0, none⟩)] W (RunT w0 b out x W)) :
    GetT w0 b NoneF w x (.returned (.func (.func k) #[] #[.pointer (some ⟨w.heap.size, 0, none⟩)])) (w.alloc (.cells #[v] t)) := by
  have hN : ∀ g, NewF w.heap.size (w.alloc (.cells #[v] t)).heap.size g ↔ g = w.heap.size := fun g => by
    unfold NewF; simp; omega
  refine ⟨_, _, rfl, hk, fun g hg => far_box w0 b w _ _ ht h0.1 hb g ((hN g).1 (hg.elim (fun h => h.elim) id)), ?_, alloc_below w _⟩
  intro W out hB hF hI hn
  exact H W out hB (box_cell (hF _ (.inr ((hN _).2 rfl)))) hI hn
theorem as_get (w0 : World) (b : Nat) (l : List UInt8) (w : World) (h0 : Base w0 w) (hb : b ≠ w.heap.size) : Calls Tryd.prog 80 #[.string ⟨l.toArray⟩] w (GetT w0 b NoneF w l) := by
  refine (as_new ⟨l.toArray⟩ w).mono ?_
  rintro e w' ⟨rfl, rfl⟩
  exact get_box w0 b w _ _ (by decide) _ enters_as1 l h0 hb fun W out hB hc hI hn => as1_any w0 b _ out l W hI hB hc hn
/-- Rows of commands can be told, one text each. -/
def EachOk (b : Nat) (w0 : World) (v : Value) (xs : List (List UInt8)) : Prop :=
  ∀ W, Base w0 W → b < W.heap.size → Calls Tryd.prog 50 #[v, .func (.func 51) #[] #[]] W fun e w' => ∃ a n c, e = .returned (.slice a n c) ∧ TxtsQ w0 b (NewF W.heap.size w'.heap.size) w' (.slice a n c) xs ∧ FarF w0 b (NewF W.heap.size w'.heap.size) w' ∧ Below W.heap.size W w'
theorem bldAt_same {T e : TypeId} {B b : Nat} {p : Value} {bs : List Value} {w w' : World} (h : BuilderAtF T e B b p bs w) (hs : ∀ g, g < w.heap.size → w'.heap[g]? = w.heap[g]?) : BuilderAtF T e B b p bs w' := by
  have hb := h.lt
  obtain ⟨h1, v, h2, h3, h4⟩ := h
  refine ⟨h1, v, (hs _ hb).trans h2, ⟨h3.1, ?_⟩, h4⟩
  rcases h3.2 with hn | ⟨g, cap, cur, fz, hv, hbg, hg, rest⟩
  · exact .inl hn
  · exact .inr ⟨g, cap, cur, fz, hv, hbg, (hs g (Array.getElem?_eq_some_iff.1 hg).1).trans hg, rest⟩
theorem BldI.new {w0 : World} {b : Nat} {out : List UInt8} {w w' : World} (h : BldI w0 b out w) (hb : Below w.heap.size w w') : BldI w0 b out w' :=
  h.elim (fun h => .inl (bldAt_same h hb.block)) (fun h => .inr (bldAt_same h hb.block))
theorem put_get {w0 : World} {b : Nat} {F : Nat → Prop} {W w1 w2 : World} {k : FuncId} {caps : Array Value} {out x : List UInt8} (hB : Base w0 W) (hI : BldI w0 b out W) (h1 : Below W.heap.size W w1) (_hF : FarF w0 b (fun g => F g ∨ NewF w1.heap.size w2.heap.size g) w2) (hp : PutsP w0 b (fun g => F g ∨ NewF w1.heap.size w2.heap.size g) w2 k caps x) (h2 : Below w1.heap.size w1 w2) (hn : out.length + x.length ≤ 1000000000) :
    Calls Tryd.prog k (#[.pointer (some ⟨b, 0, none⟩)] ++ caps) w2 fun e w' => e = .returned (.tuple #[]) ∧ BldI w0 b (out ++ x) w' ∧ Kp w0 b W w' := by
  have h12 : Below W.heap.size W w2 := h1.trans (h2.mono h1.size)
  have hI2 : BldI w0 b out w2 := hI.new h12
  refine (hp w2 out (hB.new h12) (fun _ _ => rfl) hI2 hn).mono ?_
  rintro e w' ⟨rfl, a1, a2⟩
  exact ⟨rfl, a1, (Kp.new h12 hB.1).trans a2⟩
end Go.Proofs.YtabkmimpkoiajaaDoor
