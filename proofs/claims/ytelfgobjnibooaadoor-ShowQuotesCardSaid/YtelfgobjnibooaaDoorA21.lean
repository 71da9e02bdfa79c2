/- Packed texts: SwRow, SwEach, SwTold, SwLines, SwApp. What each of them proves stands above its theorems; the conditions stand in these. -/
import Derived.Deep.LoopGhost
import Derived.Test.YtelfgobjnibooaaDoorA2
import Derived.Test.YtelfgobjnibooaaDoorA5
namespace Go.Proofs.YtelfgobjnibooaaDoor
open Go.RowKit Go.Lib

def TxtQ (w0 : World) (b : Nat) (F : Nat → Prop) (w : World) (v : Value) (x : List UInt8) : Prop :=
  ∃ k caps, v = .func (.func k) #[] caps ∧ (∀ args w, (callFunc k args).run Tryd.prog w = .ok (.enter k args) w) ∧ PutsP w0 b F w k caps x
/-- A text as an element of a row. -/
def textE (w0 : World) (b : Nat) : ElemP (List UInt8) where
  q F w x cs := ∃ v, cs = [v] ∧ TxtQ w0 b F w v x
  size := 1
  len _ _ x cs h := by obtain ⟨v, rfl, _⟩ := h; rfl
  mono F F' w x cs hF h := by
    obtain ⟨v, h1, k, caps, h2, h3, h4⟩ := h
    exact ⟨v, h1, k, caps, h2, h3, fun W out hb hg => h4 W out hb (fun g hf => hg g (hF g hf))⟩
  same F w w' x cs hs h := by
    obtain ⟨v, h1, k, caps, h2, h3, h4⟩ := h
    exact ⟨v, h1, k, caps, h2, h3, fun W out hb hg => h4 W out hb (fun g hF => (hg g hF).trans (hs g hF))⟩
/-- A row of texts. -/
def TxtsQ (w0 : World) (b : Nat) (F : Nat → Prop) (w : World) (v : Value) (xs : List (List UInt8)) : Prop := RowM (textE w0 b) 49 F w v xs
/-- Texts with a mark between. -/
def sepB (mk : List UInt8) : List (List UInt8) → List UInt8
  | [] => []
  | x :: r => x ++ (r.map (mk ++ ·)).flatten
theorem sep_snoc (mk x : List UInt8) (xs : List (List UInt8)) : sepB mk (xs ++ [x]) = sepB mk xs ++ ((if xs = [] then [] else mk) ++ x) := by
  cases xs with
  | nil => simp [sepB]
  | cons y r => simp [sepB]
theorem sep_take (mk x : List UInt8) (xs : List (List UInt8)) (j : Nat) (h : xs[j]? = some x) : sepB mk (xs.take (j + 1)) = sepB mk (xs.take j) ++ ((if j = 0 then [] else mk) ++ x) := by
  have hj := (List.getElem?_eq_some_iff.1 h).1
  have e : xs.take (j + 1) = xs.take j ++ [x] := by rw [List.take_add_one, h]; rfl
  rw [e, sep_snoc]
  congr 2
  by_cases hz : j = 0
  · subst hz; simp
  · rw [if_neg hz, if_neg]
    intro h2
    have := congrArg List.length h2
    rw [List.length_take] at this
    simp only [List.length_nil] at this
    omega
theorem sep_app (mk : List UInt8) (a b : List (List UInt8)) : ∃ c, sepB mk (a ++ b) = sepB mk a ++ c := by
  cases a with
  | nil => exact ⟨_, rfl⟩
  | cons y r => exact ⟨(b.map (mk ++ ·)).flatten, by simp [sepB, List.append_assoc]⟩
theorem sep_le (mk : List UInt8) (xs : List (List UInt8)) (j : Nat) : (sepB mk (xs.take j)).length ≤ (sepB mk xs).length := by
  obtain ⟨c, h⟩ := sep_app mk (xs.take j) (xs.drop j)
  rw [List.take_append_drop] at h
  rw [h, List.length_append]
  omega
/-- Where the row's loop stands. -/
def RoP (w0 : World) (b : Nat) (mk out : List UInt8) (xs : List (List UInt8)) (W : World) (j : Nat) (wr : World) : Prop := BldI w0 b (out ++ sepB mk (xs.take j)) wr ∧ Kp w0 b W wr
theorem txts_at {w0 : World} {b : Nat} {F : Nat → Prop} {w : World} {v : Value} {xs : List (List UInt8)} (h : TxtsQ w0 b F w v xs) {i : Nat} {x : List UInt8} (hx : xs[i]? = some x) :
    ∃ g cap k caps, v = .slice (some ⟨g, 0, none⟩) xs.length cap ∧ xs.length ≤ cap ∧ F g ∧ w.cell? ⟨g, i, none⟩ = some (.func (.func k) #[] caps) ∧ (∀ args w, (callFunc k args).run Tryd.prog w = .ok (.enter k args) w) ∧ PutsP w0 b F w k caps x := by
  obtain ⟨g, cap, ds, rfl, h2, h3, h4, ⟨u, rfl, k, caps, rfl, h5, h6⟩, h7⟩ := RowM.at h hx
  have h60 := h7 0 _ (by show 0 < 1; omega) rfl
  have hz : (textE w0 b).size = 1 := rfl
  rw [hz, Nat.mul_one, Nat.add_zero] at h60
  exact ⟨g, cap, k, caps, rfl, h2, h4, h60, h5, h6⟩
set_option maxHeartbeats 4000000 in
set_option maxRecDepth 20000 in
theorem row1_any (w0 : World) (b gl gm : Nat) (F : Nat → Prop) (mk out : List UInt8) (xs : List (List UInt8)) (v : Value) (W : World) (hB : Base w0 W) (hI : BldI w0 b out W) (hF : FarF w0 b F W) (hx : TxtsQ w0 b F W v xs) (hgl : F gl) (hgm : F gm)
    (cl : W.cell? ⟨gl, 0, none⟩ = some v) (cm : W.cell? ⟨gm, 0, none⟩ = some (.string ⟨mk.toArray⟩)) (hn : out.length + (sepB mk xs).length ≤ 1000000000) :
    Calls Tryd.prog 48 #[.pointer (some ⟨b, 0, none⟩), .pointer (some ⟨gl, 0, none⟩), .pointer (some ⟨gm, 0, none⟩)] W fun e w' => e = .returned (.tuple #[]) ∧ BldI w0 b (out ++ sepB mk xs) w' ∧ Kp w0 b W w' := by
  obtain ⟨ao, cap, rfl, hcap⟩ := RowM.shape hx
  have hsh := RowM.short hx
  obtain ⟨N, hN⟩ : ∃ N, N = xs.length := ⟨_, rfl⟩
  have HN := Lib.hid hN
  have HQ := Lib.hid (And.intro hB (And.intro hF (And.intro hx (And.intro hgl (And.intro hgm (And.intro cm hn))))))
  have HS : Hid (RoP w0 b mk out xs W 0 W) := ⟨by rw [List.take_zero]; show BldI w0 b (out ++ []) W; rw [List.append_nil]; exact hI, Kp.refl _ _ _⟩
  rw [← hN] at hcap hsh cl
  have hNb : (N : Int) ≤ 9223372036854775807 := by unfold maxLen at hsh; omega
  clear hB hF hx hgl hgm cm hn hI hN hsh
  go_enter Tryd.func48, Tryd.ntmps48
  go_wp2
  go_loopg [8] (N + 1) (fun k i wr => ∃ (j : Nat), i = .int .i64 j ∧ j ≤ N ∧ Hid (k = N + 1 - j) ∧ Hid (RoP w0 b mk out xs W j wr))
  case atStart => exact ⟨0, rfl, by omega, rfl, HS.out⟩
  case round =>
    obtain ⟨j, rfl, hj, HK, HR⟩ := hrel
    by_cases hlt : j < N
    · obtain ⟨x, hxx⟩ : ∃ x, xs[j]? = some x := ⟨xs[j]'(by have := HN.out; omega), List.getElem?_eq_getElem _⟩
      obtain ⟨hB, hF, hx, hgl, hgm, cm, hn⟩ := HQ.out
      obtain ⟨hI, hK⟩ := HR.out
      obtain ⟨g, cp, k, caps, e, -, hg, c0, hent, hput⟩ := txts_at hx hxx
      cases e
      have keep := hF.kept hK
      have c0 := (World.cell?_of_block (keep g hg)).trans c0
      have cm := (World.cell?_of_block (keep gm hgm)).trans cm
      have hT := sep_take mk x xs j hxx
      have hL := sep_le mk xs (j + 1)
      have hBr := hB.on hK.1
      have hI2 : IntKind.i64.wrap ((j : Int) + 1) = ((j + 1 : Nat) : Int) := by rw [IntWalk.i64_in _ (by omega)]; omega
      by_cases hz : j = 0
      · subst hz
        rw [if_pos rfl, List.nil_append] at hT
        have kC := hput wr _ hBr keep hI (by rw [hT, List.length_append] at hL; rw [List.length_append]; omega)
        have DN := Lib.hid (fun w2 (h : BldI w0 b (out ++ sepB mk (xs.take 0) ++ x) w2 ∧ Kp w0 b wr w2) => (⟨by rw [hT, ← List.append_assoc]; exact h.1, hK.trans h.2⟩ : RoP w0 b mk out xs W (0 + 1) w2))
        clear hB hF hx hgl hgm cm hn hI hK keep hT hL hBr hput hxx hg
        go_wp2_with (go_at_fn k; (with_reducible refine kC.mono ?_); rintro e w2 ⟨rfl, h2⟩; have HH := Lib.hid (DN.out _ h2); clear h2 kC)
        go_roundg (N - 0)
        case measure => have := HK.out; omega
        case rel => exact ⟨0 + 1, by go_num, by omega, by show _ = _; omega, HH.out⟩
      · rw [if_neg hz] at hT
        have kW := puts_any w0 b _ mk wr hI hBr (by rw [hT, List.length_append, List.length_append] at hL; rw [List.length_append]; omega)
        have NX := Lib.hid (fun w2 (h : BldI w0 b (out ++ sepB mk (xs.take j) ++ mk) w2 ∧ Kp w0 b wr w2) => hput w2 _ (hBr.on h.2.1) (fun g hg => hF.kept (hK.trans h.2) g hg) h.1 (by rw [hT, List.length_append, List.length_append] at hL; rw [List.length_append, List.length_append]; omega))
        have DN := Lib.hid (fun w2 w3 (h0 : BldI w0 b (out ++ sepB mk (xs.take j) ++ mk) w2 ∧ Kp w0 b wr w2) (h : BldI w0 b (out ++ sepB mk (xs.take j) ++ mk ++ x) w3 ∧ Kp w0 b w2 w3) => (⟨by rw [hT, ← List.append_assoc, ← List.append_assoc]; exact h.1, (hK.trans h0.2).trans h.2⟩ : RoP w0 b mk out xs W (j + 1) w3))
        have hjp : (0 : Int) < (j : Int) := by omega
        clear hB hF hx hgl hgm hn hI hK keep hT hL hBr hput hxx hg
        go_wp2_with (first
          | (go_at_call 46; (with_reducible refine kW.mono ?_); rintro e w2 ⟨rfl, h2⟩; have kC := NX.out _ h2; have H2 := Lib.hid h2; clear h2 kW)
          | (go_at_fn k; (with_reducible refine kC.mono ?_); rintro e w3 ⟨rfl, h3⟩; have HH := Lib.hid (DN.out _ _ H2.out h3); clear h3 kC))
        go_roundg (N - j)
        case measure => have := HK.out; omega
        case rel => exact ⟨j + 1, by go_num, by omega, by show _ = _; omega, HH.out⟩
    · have hd : decide ((j : Int) < (N : Int)) = false := by simp; omega
      have he : j = N := by omega
      have hR := HR.out
      unfold RoP at hR
      rw [he, HN.out, List.take_length] at hR
      have HH := Lib.hid hR
      clear hR he
      go_wp2
      go_end0
      exact ⟨rfl, HH.out⟩
end Go.Proofs.YtelfgobjnibooaaDoor
namespace Go.Proofs.YtelfgobjnibooaaDoor
open Go.RowKit Go.Lib

/-- What lays a text answers it: it hangs on F and on new blocks. -/
def GetT (w0 : World) (b : Nat) (F : Nat → Prop) (w : World) (x : List UInt8) (e : Ending) (w' : World) : Prop := ∃ k caps, e = .returned (.func (.func k) #[] caps) ∧ (∀ args w, (callFunc k args).run Tryd.prog w = .ok (.enter k args) w) ∧ FarF w0 b (fun g => F g ∨ NwF b w.heap.size w' g) w' ∧ PutsP w0 b (fun g => F g ∨ NwF b w.heap.size w' g) w' k caps x ∧ Below w.heap.size w w'
theorem enters_row1 : ∀ args w, (callFunc 48 args).run Tryd.prog w = .ok (.enter 48 args) w := enters_of Tryd.func48 (by kernel_rfl) rfl
set_option maxHeartbeats 1000000 in
theorem row_new (s : ByteArray) (a : Option Addr) (n c : Nat) (w : World) :
    Calls Tryd.prog 31 #[.string s, .slice a n c] w fun e w' => e = .returned (.func (.func 48) #[] #[.pointer (some ⟨w.heap.size + 1, 0, none⟩), .pointer (some ⟨w.heap.size, 0, none⟩)]) ∧ w' = (w.alloc (.cells #[.string s] 9)).alloc (.cells #[.slice a n c] 66) := by
  go_enter Tryd.func31, Tryd.ntmps31
  go_wp2
  exact bodyPost_ret (results_tmp rfl _ _ _) rfl ⟨rfl, rfl⟩
theorem rowM_any (w0 : World) (b : Nat) (F : Nat → Prop) (mk : List UInt8) (xs : List (List UInt8)) (a : Option Addr) (n c : Nat) (w : World) (h0 : Base w0 w) (hb : b < w.heap.size) (hF : FarF w0 b F w) (hx : TxtsQ w0 b F w (.slice a n c) xs) :
    Calls Tryd.prog 31 #[.string ⟨mk.toArray⟩, .slice a n c] w (GetT w0 b F w (sepB mk xs)) := by
  refine (row_new ⟨mk.toArray⟩ a n c w).mono ?_
  rintro e w' ⟨rfl, rfl⟩
  obtain ⟨w1, hw1⟩ : ∃ w1, w1 = w.alloc (.cells #[.string ⟨mk.toArray⟩] 9) := ⟨_, rfl⟩
  obtain ⟨w2, hw2⟩ : ∃ w2, w2 = w1.alloc (.cells #[.slice a n c] 66) := ⟨_, rfl⟩
  have hs1 : w1.heap.size = w.heap.size + 1 := by rw [hw1]; simp
  have hs2 : w2.heap.size = w.heap.size + 2 := by rw [hw2]; simp [hs1]
  have hb1 : Below w.heap.size w w1 := by rw [hw1]; exact alloc_below w _
  have hb2 : Below w.heap.size w w2 := by rw [hw2]; exact hb1.alloc (by omega) _
  have c1 : w2.heap[w.heap.size]? = some (.cells #[.string ⟨mk.toArray⟩] 9 (0, 0)) := by
    rw [hw2, alloc_old w1 _ _ (by omega), hw1]
    exact heap_alloc_new w _
  have c2 : w2.heap[w.heap.size + 1]? = some (.cells #[.slice a n c] 66 (0, 0)) := by
    rw [hw2, ← hs1]
    exact heap_alloc_new w1 _
  rw [← hw1, ← hw2]
  have hlt := hF.lt
  have hsm : ∀ g, F g → w2.heap[g]? = w.heap[g]? := fun g hg => hb2.block g (hlt g hg)
  have hFar : FarF w0 b (fun g => F g ∨ NwF b w.heap.size w2 g) w2 := (hF.same hsm).or (NwF.far h0.1)
  have n1 : NwF b w.heap.size w2 w.heap.size := ⟨Nat.le_refl _, by omega, by omega, _, _, _, c1, by decide⟩
  have n2 : NwF b w.heap.size w2 (w.heap.size + 1) := ⟨by omega, by omega, by omega, _, _, _, c2, by decide⟩
  refine ⟨_, _, rfl, enters_row1, hFar, ?_, hb2⟩
  intro W out hB hG hI hn
  have g1 := hG w.heap.size (.inr n1)
  have g2 := hG (w.heap.size + 1) (.inr n2)
  rw [c1] at g1
  rw [c2] at g2
  exact row1_any w0 b _ _ (fun g => F g ∨ NwF b w.heap.size w2 g) mk out xs (.slice a n c) W hB hI (hFar.same hG) (RowM.mono (RowM.same hx fun g hg => (hG g (.inl hg)).trans (hsm g hg)) fun g hg => .inl hg) (.inr n2) (.inr n1) (by rw [cell_of_heap g2]; rfl) (by rw [cell_of_heap g1]; rfl) hn
/-- A row of texts in the making. -/
def EachI (w0 : World) (b : Nat) (w : World) (xs : List (List UInt8)) (N j : Nat) (wr : World) : Prop :=
  ∃ vs : List Value, vs.length = j ∧ wr.heap[w.heap.size]? = some (.cells (vs ++ List.replicate (N - j) Value.nilFunc).toArray 49 (0, 0)) ∧ Below w.heap.size w wr ∧ w.heap.size < wr.heap.size ∧ (∀ (i : Nat) (u : Value) (x : List UInt8), vs[i]? = some u → xs[i]? = some x → TxtQ w0 b (NwF b (w.heap.size + 1) wr) wr u x)
theorem made_nil (n : Nat) : madeCells #[Value.nilFunc] n = (List.replicate n Value.nilFunc).toArray := by
  unfold madeCells
  apply Array.ext
  · simp
  · intro i h1 h2
    have : i % 1 = 0 := Nat.mod_one i
    simp [this]
theorem EachI.start (w0 : World) (b : Nat) (w : World) (xs : List (List UInt8)) (N : Nat) : EachI w0 b w xs N 0 (w.alloc (.cells (madeCells #[Value.nilFunc] N) 49)) :=
  ⟨[], rfl, by rw [made_nil]; exact heap_alloc_new w _, alloc_below w _, by simp, fun i u x h => by simp at h⟩
theorem TxtQ.same {w0 : World} {b : Nat} {F : Nat → Prop} {w w' : World} {v : Value} {x : List UInt8} (h : TxtQ w0 b F w v x) (hs : ∀ g, F g → w'.heap[g]? = w.heap[g]?) : TxtQ w0 b F w' v x := by
  obtain ⟨k, caps, h2, h3, h4⟩ := h
  exact ⟨k, caps, h2, h3, fun W out hb hg => h4 W out hb (fun g hF => (hg g hF).trans (hs g hF))⟩
theorem TxtQ.mono {w0 : World} {b : Nat} {F G : Nat → Prop} {w : World} {v : Value} {x : List UInt8} (h : TxtQ w0 b F w v x) (hs : ∀ g, F g → G g) : TxtQ w0 b G w v x := by
  obtain ⟨k, caps, h2, h3, h4⟩ := h
  exact ⟨k, caps, h2, h3, fun W out hb hg => h4 W out hb (fun g hF => hg g (hs g hF))⟩
theorem EachI.step {w0 : World} {b : Nat} {w wr w1 : World} {xs : List (List UInt8)} {N j : Nat} {x : List UInt8} {k : FuncId} {caps : Array Value} (h : EachI w0 b w xs N j wr) (hj : j < N) (hx : xs[j]? = some x) (hk : ∀ args w, (callFunc k args).run Tryd.prog w = .ok (.enter k args) w)
    (hp : PutsP w0 b (fun g => NoneF g ∨ NwF b wr.heap.size w1 g) w1 k caps x) (hb : Below wr.heap.size wr w1) :
    w1.cell? ⟨w.heap.size, j, none⟩ = some .nilFunc ∧ w1.frozen? ⟨w.heap.size, j, none⟩ = false ∧ EachI w0 b w xs N (j + 1) (w1.setCell ⟨w.heap.size, j, none⟩ (.func (.func k) #[] caps)) := by
  obtain ⟨vs, h1, h2, h3, h4, h5⟩ := h
  have g2 := (hb.block _ h4).trans h2
  have hsz := hb.size
  have hoth : ∀ g, g ≠ w.heap.size → (w1.setCell ⟨w.heap.size, j, none⟩ (.func (.func k) #[] caps)).heap[g]? = w1.heap[g]? := fun g hg => Below.heap_setCell _ _ _ _ hg
  have hsz2 : (w1.setCell ⟨w.heap.size, j, none⟩ (.func (.func k) #[] caps)).heap.size = w1.heap.size := by simp [World.setCell]
  refine ⟨?_, frozen_of_heap g2 j, vs ++ [.func (.func k) #[] caps], by simp [h1], ?_, ?_, ?_, ?_⟩
  · rw [cell_of_heap g2, List.getElem?_toArray, List.getElem?_append_right (by omega), h1, Nat.sub_self, List.getElem?_replicate, if_pos (by omega)]
  · have e : (vs ++ List.replicate (N - j) Value.nilFunc).toArray.setIfInBounds j (Value.func (.func k) #[] caps) = ((vs ++ [Value.func (.func k) #[] caps]) ++ List.replicate (N - (j + 1)) Value.nilFunc).toArray := by
      obtain ⟨m, hm⟩ : ∃ m, N - j = m + 1 := ⟨N - j - 1, by omega⟩
      have hm2 : N - (j + 1) = m := by omega
      rw [hm, hm2, List.replicate_succ, List.setIfInBounds_toArray, ← h1]
      simp
    rw [← e]
    show (w1.heap.modify w.heap.size _)[w.heap.size]? = _
    rw [Array.getElem?_modify, if_pos rfl, g2]
    rfl
  · exact ((h3.trans (hb.mono (by omega)))).setCell (Nat.le_refl _) _
  · rw [hsz2]; omega
  · intro i u y hu hy
    by_cases hi : i < vs.length
    · rw [List.getElem?_append_left hi] at hu
      refine ((h5 i u y hu hy).same (w' := w1.setCell ⟨w.heap.size, j, none⟩ (.func (.func k) #[] caps)) fun g hg => ?_).mono fun g hg => (hg.on hb).same (hoth g (by have := hg.1; omega)) (by rw [hsz2]; exact Nat.le_refl _)
      rw [hoth g (by have := hg.1; omega)]
      exact hb.block g hg.2.1
    · have hi2 : i = j := by
        have := (List.getElem?_eq_some_iff.1 hu).1
        simp at this
        omega
      subst hi2
      rw [List.getElem?_append_right (by omega), h1, Nat.sub_self] at hu
      cases hu
      rw [hx] at hy
      cases hy
      refine (TxtQ.same (w' := w1.setCell ⟨w.heap.size, i, none⟩ (.func (.func k) #[] caps)) ⟨k, caps, rfl, hk, hp⟩ fun g hg => hoth g ?_).mono fun g hg => ?_
      · rcases hg with hg | hg
        · exact hg.elim
        · have := hg.1; omega
      · rcases hg with hg | hg
        · exact hg.elim
        · exact (hg.low (by omega)).same (hoth g (by have := hg.1; omega)) (by rw [hsz2]; exact Nat.le_refl _)
theorem EachI.done {w0 : World} {b : Nat} {w wr : World} {xs : List (List UInt8)} (h : EachI w0 b w xs xs.length xs.length wr) (h0 : Base w0 w) (hb : b < w.heap.size) (hm : xs.length ≤ maxLen) :
    TxtsQ w0 b (NwF b w.heap.size wr) wr (.slice (some ⟨w.heap.size, 0, none⟩) xs.length xs.length) xs ∧ FarF w0 b (NwF b w.heap.size wr) wr ∧ Below w.heap.size w wr := by
  obtain ⟨vs, h1, h2, h3, h4, h5⟩ := h
  rw [Nat.sub_self, List.replicate_zero, List.append_nil] at h2
  refine ⟨⟨vs.map fun v => [v], by simp [h1], ?_, ?_, fun g hg => ?_⟩, NwF.far h0.1, h3⟩
  · intro i x cs hx hc
    rw [List.getElem?_map] at hc
    obtain ⟨u, hu, rfl⟩ := Option.map_eq_some_iff.1 hc
    exact ⟨u, rfl, (h5 i u x hu hx).mono fun g hg => hg.low (by omega)⟩
  · have e : (vs.map fun v => [v]).flatten = vs := by
      clear h1 h2 h5
      induction vs with
      | nil => rfl
      | cons v r ih => simp [ih]
    rw [e]
    exact ⟨by rw [h1]; exact (Nat.mul_one _).symm, .inr ⟨w.heap.size, xs.length, vs.toArray, rfl, Nat.zero_le _, h2, Nat.le_refl _, hm, by rw [List.size_toArray, h1]; exact (Nat.mul_one _).symm, by
      show vs.toArray.toList.take (xs.length * 1) = vs
      rw [Nat.mul_one, ← h1, List.take_length]⟩⟩
  · cases hg
    exact ⟨Nat.le_refl _, h4, by show w.heap.size ≠ b; omega, _, _, _, h2, by decide⟩
theorem Tryd.infoTextZ : (Tryd.prog.info? 49).map (fun i => (i.zero, i.size, i.bytes)) = some (some .nilFunc, 1, 8) := by kernel_rfl
/-- What each is asked of. -/
def OneT (w0 : World) (b : Nat) (ao : Option Addr) (S : Nat) (k : FuncId) (xs : List (List UInt8)) (w : World) : Prop :=
  ∀ (i : Nat) (x : List UInt8) (W : World), xs[i]? = some x → Base w0 W → Below w.heap.size w W → ∃ g, ao = some ⟨g, 0, none⟩ ∧ Calls Tryd.prog k #[.pointer (some ⟨g, i * S, none⟩)] W (GetT w0 b NoneF W x)
set_option maxHeartbeats 4000000 in
set_option maxRecDepth 20000 in
theorem eachCmd_any (w0 : World) (b : Nat) (ao : Option Addr) (cap : Nat) (k : FuncId) (he : ∀ args w, (callFunc k args).run Tryd.prog w = .ok (.enter k args) w) (xs : List (List UInt8)) (w : World) (h0 : Base w0 w) (hb : b < w.heap.size) (_hcap : xs.length ≤ cap) (hn : xs.length ≤ 1000000000) (H : OneT w0 b ao 7 k xs w) :
    Calls Tryd.prog 32 #[.slice ao xs.length cap, .func (.func k) #[] #[]] w fun e w' => ∃ a n c, e = .returned (.slice a n c) ∧ TxtsQ w0 b (NwF b w.heap.size w') w' (.slice a n c) xs ∧ FarF w0 b (NwF b w.heap.size w') w' ∧ Below w.heap.size w w' := by
  have FIN := Lib.hid (fun wr (h : EachI w0 b w xs xs.length xs.length wr) => h.done h0 hb (by unfold maxLen; omega))
  have HH := Lib.hid (And.intro H h0)
  obtain ⟨N, hN⟩ : ∃ N, N = xs.length := ⟨_, rfl⟩
  have HN := Lib.hid hN
  rw [← hN] at hn ⊢
  have hNb : (N : Int) ≤ 9223372036854775807 := by omega
  have kmk := fun (w : World) => run_make_row' (P := Tryd.prog) 66 49 .nilFunc 8 Tryd.underlying66 Tryd.infoTextZ rfl .i64 .i64 N (by omega) (by omega) w
  obtain ⟨X0, hX0⟩ : ∃ X0, X0 = Obj.cells (madeCells #[Value.nilFunc] N) 49 := ⟨_, rfl⟩
  have ST : Hid (EachI w0 b w xs N 0 (w.alloc X0)) := by rw [hX0]; exact EachI.start w0 b w xs N
  rw [← hX0] at kmk
  clear H h0 hb hN hX0
  go_enter Tryd.func32, Tryd.ntmps32
  go_wp2
  go_loopg [12] (N + 1) (fun k i wr => ∃ (j : Nat), i = .int .i64 j ∧ j ≤ N ∧ Hid (k = N + 1 - j) ∧ Hid (EachI w0 b w xs N j wr))
  case atStart => exact ⟨0, rfl, by omega, rfl, ST.out⟩
  case round =>
    obtain ⟨j, rfl, hj, HK, HE⟩ := hrel
    by_cases hlt : j < N
    · obtain ⟨x, hxx⟩ : ∃ x, xs[j]? = some x := ⟨xs[j]'(by have := HN.out; omega), List.getElem?_eq_getElem _⟩
      obtain ⟨_, _, _, hbw, _, _⟩ := HE.out
      obtain ⟨g, rfl, kC⟩ := HH.out.1 j x wr hxx (HH.out.2.new hbw) hbw
      have STEP := Lib.hid (fun (w1 : World) k caps hk hp hb => HE.out.step (w1 := w1) (k := k) (caps := caps) hlt hxx hk hp hb)
      have hI2 : IntKind.i64.wrap ((j : Int) + 1) = ((j + 1 : Nat) : Int) := by rw [IntWalk.i64_in _ (by omega)]; omega
      clear hbw hxx
      go_wp2_with (go_at_fn k; (with_reducible refine kC.mono ?_); rintro e w1 ⟨k2, caps, rfl, hk2, hF2, hp2, hb2⟩; obtain ⟨c1, f1, hnx⟩ := STEP.out w1 k2 caps hk2 hp2 hb2; have NX := Lib.hid hnx; have kst := fun a m W => run_store Tryd.prog W a (.func (.func k2) #[] caps) m rfl; clear hnx hk2 hF2 hp2 hb2 kC)
      go_roundg (N - j)
      case measure => have := HK.out; omega
      case rel => exact ⟨j + 1, by go_num, by omega, by show _ = _; omega, NX.out⟩
    · have hd : decide ((j : Int) < (N : Int)) = false := by simp; omega
      have he2 : j = N := by omega
      have hE := HE.out
      rw [he2] at hE
      have hE2 : EachI w0 b w xs xs.length xs.length wr := by rw [← HN.out]; exact hE
      have F := Lib.hid (FIN.out wr hE2)
      rw [← HN.out] at F
      clear hE hE2 he2
      go_wp2
      exact bodyPost_ret (results_tmp rfl _ _ _) rfl ⟨_, _, _, rfl, F.out⟩
set_option maxHeartbeats 4000000 in
set_option maxRecDepth 20000 in
theorem eachWord_any (w0 : World) (b : Nat) (ao : Option Addr) (cap : Nat) (k : FuncId) (he : ∀ args w, (callFunc k args).run Tryd.prog w = .ok (.enter k args) w) (xs : List (List UInt8)) (w : World) (h0 : Base w0 w) (hb : b < w.heap.size) (_hcap : xs.length ≤ cap) (hn : xs.length ≤ 1000000000) (H : OneT w0 b ao 1 k xs w) :
    Calls Tryd.prog 64 #[.slice ao xs.length cap, .func (.func k) #[] #[]] w fun e w' => ∃ a n c, e = .returned (.slice a n c) ∧ TxtsQ w0 b (NwF b w.heap.size w') w' (.slice a n c) xs ∧ FarF w0 b (NwF b w.heap.size w') w' ∧ Below w.heap.size w w' := by
  have FIN := Lib.hid (fun wr (h : EachI w0 b w xs xs.length xs.length wr) => h.done h0 hb (by unfold maxLen; omega))
  have HH := Lib.hid (And.intro H h0)
  obtain ⟨N, hN⟩ : ∃ N, N = xs.length := ⟨_, rfl⟩
  have HN := Lib.hid hN
  rw [← hN] at hn ⊢
  have hNb : (N : Int) ≤ 9223372036854775807 := by omega
  have kmk := fun (w : World) => run_make_row' (P := Tryd.prog) 66 49 .nilFunc 8 Tryd.underlying66 Tryd.infoTextZ rfl .i64 .i64 N (by omega) (by omega) w
  obtain ⟨X0, hX0⟩ : ∃ X0, X0 = Obj.cells (madeCells #[Value.nilFunc] N) 49 := ⟨_, rfl⟩
  have ST : Hid (EachI w0 b w xs N 0 (w.alloc X0)) := by rw [hX0]; exact EachI.start w0 b w xs N
  rw [← hX0] at kmk
  clear H h0 hb hN hX0
  go_enter Tryd.func64, Tryd.ntmps64
  go_wp2
  go_loopg [12] (N + 1) (fun k i wr => ∃ (j : Nat), i = .int .i64 j ∧ j ≤ N ∧ Hid (k = N + 1 - j) ∧ Hid (EachI w0 b w xs N j wr))
  case atStart => exact ⟨0, rfl, by omega, rfl, ST.out⟩
  case round =>
    obtain ⟨j, rfl, hj, HK, HE⟩ := hrel
    by_cases hlt : j < N
    · obtain ⟨x, hxx⟩ : ∃ x, xs[j]? = some x := ⟨xs[j]'(by have := HN.out; omega), List.getElem?_eq_getElem _⟩
      obtain ⟨_, _, _, hbw, _, _⟩ := HE.out
      obtain ⟨g, rfl, kC⟩ := HH.out.1 j x wr hxx (HH.out.2.new hbw) hbw
      rw [Nat.mul_one] at kC
      have STEP := Lib.hid (fun (w1 : World) k caps hk hp hb => HE.out.step (w1 := w1) (k := k) (caps := caps) hlt hxx hk hp hb)
      have hI2 : IntKind.i64.wrap ((j : Int) + 1) = ((j + 1 : Nat) : Int) := by rw [IntWalk.i64_in _ (by omega)]; omega
      clear hbw hxx
      go_wp2_with (go_at_fn k; (with_reducible refine kC.mono ?_); rintro e w1 ⟨k2, caps, rfl, hk2, hF2, hp2, hb2⟩; obtain ⟨c1, f1, hnx⟩ := STEP.out w1 k2 caps hk2 hp2 hb2; have NX := Lib.hid hnx; have kst := fun a m W => run_store Tryd.prog W a (.func (.func k2) #[] caps) m rfl; clear hnx hk2 hF2 hp2 hb2 kC)
      go_roundg (N - j)
      case measure => have := HK.out; omega
      case rel => exact ⟨j + 1, by go_num, by omega, by show _ = _; omega, NX.out⟩
    · have hd : decide ((j : Int) < (N : Int)) = false := by simp; omega
      have he2 : j = N := by omega
      have hE := HE.out
      rw [he2] at hE
      have hE2 : EachI w0 b w xs xs.length xs.length wr := by rw [← HN.out]; exact hE
      have F := Lib.hid (FIN.out wr hE2)
      rw [← HN.out] at F
      clear hE hE2 he2
      go_wp2
      exact bodyPost_ret (results_tmp rfl _ _ _) rfl ⟨_, _, _, rfl, F.out⟩
set_option maxHeartbeats 4000000 in
set_option maxRecDepth 20000 in
theorem eachPart_any (w0 : World) (b : Nat) (ao : Option Addr) (cap : Nat) (k : FuncId) (he : ∀ args w, (callFunc k args).run Tryd.prog w = .ok (.enter k args) w) (xs : List (List UInt8)) (w : World) (h0 : Base w0 w) (hb : b < w.heap.size) (_hcap : xs.length ≤ cap) (hn : xs.length ≤ 1000000000) (H : OneT w0 b ao 5 k xs w) :
    Calls Tryd.prog 36 #[.slice ao xs.length cap, .func (.func k) #[] #[]] w fun e w' => ∃ a n c, e = .returned (.slice a n c) ∧ TxtsQ w0 b (NwF b w.heap.size w') w' (.slice a n c) xs ∧ FarF w0 b (NwF b w.heap.size w') w' ∧ Below w.heap.size w w' := by
  have FIN := Lib.hid (fun wr (h : EachI w0 b w xs xs.length xs.length wr) => h.done h0 hb (by unfold maxLen; omega))
  have HH := Lib.hid (And.intro H h0)
  obtain ⟨N, hN⟩ : ∃ N, N = xs.length := ⟨_, rfl⟩
  have HN := Lib.hid hN
  rw [← hN] at hn ⊢
  have hNb : (N : Int) ≤ 9223372036854775807 := by omega
  have kmk := fun (w : World) => run_make_row' (P := Tryd.prog) 66 49 .nilFunc 8 Tryd.underlying66 Tryd.infoTextZ rfl .i64 .i64 N (by omega) (by omega) w
  obtain ⟨X0, hX0⟩ : ∃ X0, X0 = Obj.cells (madeCells #[Value.nilFunc] N) 49 := ⟨_, rfl⟩
  have ST : Hid (EachI w0 b w xs N 0 (w.alloc X0)) := by rw [hX0]; exact EachI.start w0 b w xs N
  rw [← hX0] at kmk
  clear H h0 hb hN hX0
  go_enter Tryd.func36, Tryd.ntmps36
  go_wp2
  go_loopg [12] (N + 1) (fun k i wr => ∃ (j : Nat), i = .int .i64 j ∧ j ≤ N ∧ Hid (k = N + 1 - j) ∧ Hid (EachI w0 b w xs N j wr))
  case atStart => exact ⟨0, rfl, by omega, rfl, ST.out⟩
  case round =>
    obtain ⟨j, rfl, hj, HK, HE⟩ := hrel
    by_cases hlt : j < N
    · obtain ⟨x, hxx⟩ : ∃ x, xs[j]? = some x := ⟨xs[j]'(by have := HN.out; omega), List.getElem?_eq_getElem _⟩
      obtain ⟨_, _, _, hbw, _, _⟩ := HE.out
      obtain ⟨g, rfl, kC⟩ := HH.out.1 j x wr hxx (HH.out.2.new hbw) hbw
      have STEP := Lib.hid (fun (w1 : World) k caps hk hp hb => HE.out.step (w1 := w1) (k := k) (caps := caps) hlt hxx hk hp hb)
      have hI2 : IntKind.i64.wrap ((j : Int) + 1) = ((j + 1 : Nat) : Int) := by rw [IntWalk.i64_in _ (by omega)]; omega
      clear hbw hxx
      go_wp2_with (go_at_fn k; (with_reducible refine kC.mono ?_); rintro e w1 ⟨k2, caps, rfl, hk2, hF2, hp2, hb2⟩; obtain ⟨c1, f1, hnx⟩ := STEP.out w1 k2 caps hk2 hp2 hb2; have NX := Lib.hid hnx; have kst := fun a m W => run_store Tryd.prog W a (.func (.func k2) #[] caps) m rfl; clear hnx hk2 hF2 hp2 hb2 kC)
      go_roundg (N - j)
      case measure => have := HK.out; omega
      case rel => exact ⟨j + 1, by go_num, by omega, by show _ = _; omega, NX.out⟩
    · have hd : decide ((j : Int) < (N : Int)) = false := by simp; omega
      have he2 : j = N := by omega
      have hE := HE.out
      rw [he2] at hE
      have hE2 : EachI w0 b w xs xs.length xs.length wr := by rw [← HN.out]; exact hE
      have F := Lib.hid (FIN.out wr hE2)
      rw [← HN.out] at F
      clear hE hE2 he2
      go_wp2
      exact bodyPost_ret (results_tmp rfl _ _ _) rfl ⟨_, _, _, rfl, F.out⟩
end Go.Proofs.YtelfgobjnibooaaDoor
namespace Go.Proofs.YtelfgobjnibooaaDoor
open Go.RowKit Go.Lib

/-- What a text's run answers. -/
def RunT (w0 : World) (b : Nat) (out x : List UInt8) (W : World) (e : Ending) (w' : World) : Prop := e = .returned (.tuple #[]) ∧ BldI w0 b (out ++ x) w' ∧ Kp w0 b W w'
theorem bld_new (w0 w : World) (h : w0.heap.size ≤ w.heap.size) : BldI w0 w.heap.size [] (w.alloc (.cells #[.pointer none, .slice none 0 0] 64)) :=
  .inl ⟨h, _, heap_alloc_new w _, ⟨rfl, .inl ⟨rfl, rfl⟩⟩, by simp [Value.ownBlock]⟩
set_option maxHeartbeats 2000000 in
set_option maxRecDepth 20000 in
/-- told: a closure's text, put out into a new builder. -/
theorem told_any (w0 : World) (k : FuncId) (caps : Array Value) (he : ∀ args w, (callFunc k args).run Tryd.prog w = .ok (.enter k args) w) (x : List UInt8) (w : World) (h0 : Base w0 w)
    (H : ∀ W, Base w0 W → Below w.heap.size w W → BldI w0 w.heap.size [] W → Calls Tryd.prog k (#[.pointer (some ⟨w.heap.size, 0, none⟩)] ++ caps) W (RunT w0 w.heap.size [] x W)) :
    Calls Tryd.prog 17 #[.func (.func k) #[] caps] w fun e w' => e = .returned (.string ⟨x.toArray⟩) ∧ Below w0.heap.size w w' := by
  have k1 := H (w.alloc (.cells #[.pointer none, .slice none 0 0] 64)) (h0.new (alloc_below w _)) (alloc_below w _) (bld_new w0 w h0.1)
  have HB := Lib.hid (fun w2 (h : RunT w0 w.heap.size [] x (w.alloc (.cells #[.pointer none, .slice none 0 0] 64)) (.returned (.tuple #[])) w2) =>
    (⟨by have := h.2.1; rw [List.nil_append] at this; exact this, ((alloc_below w _).mono h0.1).trans h.2.2.1, ((h0.new (alloc_below w _)).on h.2.2.1).1⟩ : IsBuilderF 64 5 w0.heap.size w.heap.size (byteCells x) w2 ∧ Below w0.heap.size w w2 ∧ w0.heap.size ≤ w2.heap.size))
  clear H h0
  go_enter Tryd.func17, Tryd.ntmps17
  go_wp2_with (first
    | (go_at_fn k; (with_reducible refine k1.mono ?_); rintro e w2 ⟨rfl, h2, h3⟩; have H2 := Lib.hid (HB.out _ ⟨rfl, h2, h3⟩); clear h2 h3 k1 HB)
    | (go_at_call 29; (with_reducible refine (Tryd.Builder_String_any_k w0.heap.size w.heap.size x _ H2.out.1 H2.out.2.2).mono ?_); rintro e w6 ⟨rfl, _, hb6, _⟩; have H6 := Lib.hid hb6; clear hb6))
  exact bodyPost_ret (results_tmp rfl _ _ _) rfl ⟨rfl, H2.out.2.1.trans H6.out⟩
theorem enters_lines1 : ∀ args w, (callFunc 30 args).run Tryd.prog w = .ok (.enter 30 args) w := enters_of Tryd.func30 (by kernel_rfl) rfl
theorem enters_word1 : ∀ args w, (callFunc 35 args).run Tryd.prog w = .ok (.enter 35 args) w := enters_of Tryd.func35 (by kernel_rfl) rfl
theorem enters_command : ∀ args w, (callFunc 33 args).run Tryd.prog w = .ok (.enter 33 args) w := enters_of Tryd.func33 (by kernel_rfl) rfl
theorem enters_part : ∀ args w, (callFunc 37 args).run Tryd.prog w = .ok (.enter 37 args) w := enters_of Tryd.func37 (by kernel_rfl) rfl
theorem enters_word : ∀ args w, (callFunc 20 args).run Tryd.prog w = .ok (.enter 20 args) w := enters_of Tryd.func20 (by kernel_rfl) rfl
set_option maxHeartbeats 1000000 in
theorem lines_new (a : Option Addr) (n c : Nat) (w : World) :
    Calls Tryd.prog 18 #[.slice a n c] w fun e w' => e = .returned (.func (.func 30) #[] #[.pointer (some ⟨w.heap.size, 0, none⟩)]) ∧ w' = w.alloc (.cells #[.slice a n c] 23) := by
  go_enter Tryd.func18, Tryd.ntmps18
  go_wp2
  exact bodyPost_ret (results_tmp rfl _ _ _) rfl ⟨rfl, rfl⟩
set_option maxHeartbeats 1000000 in
theorem word_new (p : Addr) (w : World) :
    Calls Tryd.prog 20 #[.pointer (some p)] w fun e w' => e = .returned (.func (.func 35) #[] #[.pointer (some ⟨w.heap.size, 0, none⟩)]) ∧ w' = w.alloc (.cells #[.pointer (some p)] 53) := by
  go_enter Tryd.func20, Tryd.ntmps20
  go_wp2
  exact bodyPost_ret (results_tmp rfl _ _ _) rfl ⟨rfl, rfl⟩
set_option maxHeartbeats 1000000 in
theorem command_new (p : Addr) (w : World) :
    Calls Tryd.prog 33 #[.pointer (some p)] w fun e w' => e = .returned (.func (.func 49) #[] #[.pointer (some ⟨w.heap.size, 0, none⟩)]) ∧ w' = w.alloc (.cells #[.pointer (some p)] 81) := by
  go_enter Tryd.func33, Tryd.ntmps33
  go_wp2
  exact bodyPost_ret (results_tmp rfl _ _ _) rfl ⟨rfl, rfl⟩
/-- A closure with one box answers its text. -/
theorem get_box (w0 : World) (b : Nat) (w : World) (v : Value) (t : TypeId) (ht : t ≠ 5) (k : FuncId) (hk : ∀ args w, (callFunc k args).run Tryd.prog w = .ok (.enter k args) w) (x : List UInt8) (h0 : Base w0 w) (hb : b ≠ w.heap.size)
    (H : ∀ W out, Base w0 W → W.cell? ⟨w.heap.size, 0, none⟩ = some v → BldI w0 b out W → out.length + x.length ≤ 1000000000 → Calls Tryd.prog k #[.pointer (some ⟨b, 0, none⟩), .pointer (some ⟨w.heap.size, 0, none⟩)] W (RunT w0 b out x W)) :
    GetT w0 b NoneF w x (.returned (.func (.func k) #[] #[.pointer (some ⟨w.heap.size, 0, none⟩)])) (w.alloc (.cells #[v] t)) := by
  refine ⟨_, _, rfl, hk, fun g hg => hg.elim (fun h => h.elim) (NwF.far h0.1 g), ?_, alloc_below w _⟩
  intro W out hB hF hI hn
  exact H W out hB (box_cell (hF _ (.inr (NwF.new w _ _ ht (Nat.le_refl _) hb)))) hI hn
theorem as_get (w0 : World) (b : Nat) (l : List UInt8) (w : World) (h0 : Base w0 w) (hb : b ≠ w.heap.size) : Calls Tryd.prog 53 #[.string ⟨l.toArray⟩] w (GetT w0 b NoneF w l) := by
  refine (as_new ⟨l.toArray⟩ w).mono ?_
  rintro e w' ⟨rfl, rfl⟩
  exact get_box w0 b w _ _ (by decide) _ enters_as1 l h0 hb fun W out hB hc hI hn => as1_any w0 b _ out l W hI hB hc hn
/-- Rows of commands can be told, one text each. -/
def EachOk (b : Nat) (w0 : World) (v : Value) (xs : List (List UInt8)) : Prop :=
  ∀ W, Base w0 W → b < W.heap.size → Calls Tryd.prog 32 #[v, .func (.func 33) #[] #[]] W fun e w' => ∃ a n c, e = .returned (.slice a n c) ∧ TxtsQ w0 b (NwF b W.heap.size w') w' (.slice a n c) xs ∧ FarF w0 b (NwF b W.heap.size w') w' ∧ Below W.heap.size W w'
theorem bldAt_same {T e : TypeId} {B b : Nat} {p : Value} {bs : List Value} {w w' : World} (h : BuilderAtF T e B b p bs w) (hs : ∀ g, g < w.heap.size → w'.heap[g]? = w.heap[g]?) : BuilderAtF T e B b p bs w' := by
  have hb := h.lt
  obtain ⟨h1, v, h2, h3, h4⟩ := h
  refine ⟨h1, v, (hs _ hb).trans h2, ⟨h3.1, ?_⟩, h4⟩
  rcases h3.2 with hn | ⟨g, cap, cur, fz, hv, hbg, hg, rest⟩
  · exact .inl hn
  · exact .inr ⟨g, cap, cur, fz, hv, hbg, (hs g (Array.getElem?_eq_some_iff.1 hg).1).trans hg, rest⟩
theorem BldI.new {w0 : World} {b : Nat} {out : List UInt8} {w w' : World} (h : BldI w0 b out w) (hb : Below w.heap.size w w') : BldI w0 b out w' :=
  h.elim (fun h => .inl (bldAt_same h hb.block)) (fun h => .inr (bldAt_same h hb.block))
theorem put_get {w0 : World} {b : Nat} {F : Nat → Prop} {W w1 w2 : World} {k : FuncId} {caps : Array Value} {out x : List UInt8} (hB : Base w0 W) (hI : BldI w0 b out W) (h1 : Below W.heap.size W w1) (_hF : FarF w0 b (fun g => F g ∨ NwF b w1.heap.size w2 g) w2) (hp : PutsP w0 b (fun g => F g ∨ NwF b w1.heap.size w2 g) w2 k caps x) (h2 : Below w1.heap.size w1 w2) (hn : out.length + x.length ≤ 1000000000) :
    Calls Tryd.prog k (#[.pointer (some ⟨b, 0, none⟩)] ++ caps) w2 fun e w' => e = .returned (.tuple #[]) ∧ BldI w0 b (out ++ x) w' ∧ Kp w0 b W w' := by
  have h12 : Below W.heap.size W w2 := h1.trans (h2.mono h1.size)
  have hI2 : BldI w0 b out w2 := hI.new h12
  refine (hp w2 out (hB.new h12) (fun _ _ => rfl) hI2 hn).mono ?_
  rintro e w' ⟨rfl, a1, a2⟩
  exact ⟨rfl, a1, (Kp.new h12 hB.1).trans a2⟩
end Go.Proofs.YtelfgobjnibooaaDoor
namespace Go.Proofs.YtelfgobjnibooaaDoor
open Go.RowKit Go.Lib

/-- A row of texts with a mark, put out at once. -/
theorem row_put (w0 : World) (b : Nat) (out mk : List UInt8) (xs : List (List UInt8)) (a : Option Addr) (n c : Nat) (W w1 : World) (hB : Base w0 W) (hI : BldI w0 b out W) (hb1 : Below W.heap.size W w1) (hx : TxtsQ w0 b (NwF b W.heap.size w1) w1 (.slice a n c) xs) (hF : FarF w0 b (NwF b W.heap.size w1) w1) (hn : out.length + (sepB mk xs).length ≤ 1000000000) :
    Calls Tryd.prog 31 #[.string ⟨mk.toArray⟩, .slice a n c] w1 fun e w2 => ∃ k caps, e = .returned (.func (.func k) #[] caps) ∧ (∀ args w, (callFunc k args).run Tryd.prog w = .ok (.enter k args) w) ∧
      Calls Tryd.prog k (#[.pointer (some ⟨b, 0, none⟩)] ++ caps) w2 fun e w' => e = .returned (.tuple #[]) ∧ BldI w0 b (out ++ sepB mk xs) w' ∧ Kp w0 b W w' := by
  have hlt : b < w1.heap.size := Nat.lt_of_lt_of_le hI.lt hb1.size
  refine (rowM_any w0 b _ mk xs a n c w1 (hB.new hb1) hlt hF hx).mono ?_
  rintro e w2 ⟨k, caps, rfl, hk, hF2, hp, hb2⟩
  exact ⟨k, caps, rfl, hk, put_get hB hI hb1 hF2 hp hb2 hn⟩
set_option maxHeartbeats 2000000 in
set_option maxRecDepth 20000 in
theorem lines1_any (w0 : World) (b g : Nat) (out : List UInt8) (ao : Option Addr) (m cap : Nat) (xs : List (List UInt8)) (hE : EachOk b w0 (.slice ao m cap) xs) (W : World) (hB : Base w0 W) (hc : W.cell? ⟨g, 0, none⟩ = some (.slice ao m cap)) (hI : BldI w0 b out W) (hn : out.length + (sepB [10] xs).length ≤ 1000000000) :
    Calls Tryd.prog 30 #[.pointer (some ⟨b, 0, none⟩), .pointer (some ⟨g, 0, none⟩)] W (RunT w0 b out (sepB [10] xs) W) := by
  have kE := hE W hB hI.lt
  have kR := Lib.hid (fun w1 a n c (h : TxtsQ w0 b (NwF b W.heap.size w1) w1 (.slice a n c) xs ∧ FarF w0 b (NwF b W.heap.size w1) w1 ∧ Below W.heap.size W w1) => row_put w0 b out [10] xs a n c W w1 hB hI h.2.2 h.1 h.2.1 hn)
  clear hE hB hI hn
  go_enter Tryd.func30, Tryd.ntmps30
  go_wp2_with (first
    | (go_at_call 32; (with_reducible refine kE.mono ?_); rintro e w1 ⟨a, n, c, rfl, h1⟩; have k2 := kR.out _ _ _ _ h1; clear kE h1)
    | (go_at_call 31; (with_reducible refine k2.mono ?_); rintro e w2 ⟨kk, caps, rfl, hk, k3⟩; clear k2)
    | (go_at_fn kk; (with_reducible refine k3.mono ?_); rintro e w3 ⟨rfl, h3⟩; have HH := Lib.hid h3; clear h3 k3))
  go_end0
  exact ⟨rfl, HH.out⟩
/-- A word's parts can be told, one text each. -/
def PartsOk (b : Nat) (w0 : World) (v : Value) (xs : List (List UInt8)) : Prop :=
  ∀ W, Base w0 W → b < W.heap.size → Calls Tryd.prog 36 #[v, .func (.func 37) #[] #[]] W fun e w' => ∃ a n c, e = .returned (.slice a n c) ∧ TxtsQ w0 b (NwF b W.heap.size w') w' (.slice a n c) xs ∧ FarF w0 b (NwF b W.heap.size w') w' ∧ Below W.heap.size W w'
set_option maxHeartbeats 2000000 in
set_option maxRecDepth 20000 in
theorem word1_any (w0 : World) (b g gw i : Nat) (out : List UInt8) (ao : Option Addr) (m cap : Nat) (xs : List (List UInt8)) (hE : PartsOk b w0 (.slice ao m cap) xs) (W : World) (hB : Base w0 W) (hg : gw < w0.heap.size) (hw : w0.cell? ⟨gw, i, none⟩ = some (.slice ao m cap)) (hc : W.cell? ⟨g, 0, none⟩ = some (.pointer (some ⟨gw, i, none⟩))) (hI : BldI w0 b out W) (hn : out.length + (sepB [] xs).length ≤ 1000000000) :
    Calls Tryd.prog 35 #[.pointer (some ⟨b, 0, none⟩), .pointer (some ⟨g, 0, none⟩)] W (RunT w0 b out (sepB [] xs) W) := by
  have kE := hE W hB hI.lt
  have kR := Lib.hid (fun w1 a n c (h : TxtsQ w0 b (NwF b W.heap.size w1) w1 (.slice a n c) xs ∧ FarF w0 b (NwF b W.heap.size w1) w1 ∧ Below W.heap.size W w1) => row_put w0 b out [] xs a n c W w1 hB hI h.2.2 h.1 h.2.1 hn)
  have c1 : W.cell? ⟨gw, i, none⟩ = some (.slice ao m cap) := (World.cell?_of_block (hB.2 gw hg)).trans hw
  have e0 : (⟨([] : List UInt8).toArray⟩ : ByteArray) = ⟨#[]⟩ := rfl
  rw [e0] at kR
  clear hE hB hI hn hw hg e0
  go_enter Tryd.func35, Tryd.ntmps35
  go_wp2_with (first
    | (go_at_call 36; (with_reducible refine kE.mono ?_); rintro e w1 ⟨a, n, c, rfl, h1⟩; have k2 := kR.out _ _ _ _ h1; clear kE h1)
    | (go_at_call 31; (with_reducible refine k2.mono ?_); rintro e w2 ⟨kk, caps, rfl, hk, k3⟩; clear k2)
    | (go_at_fn kk; (with_reducible refine k3.mono ?_); rintro e w3 ⟨rfl, h3⟩; have HH := Lib.hid h3; clear h3 k3))
  go_end0
  exact ⟨rfl, HH.out⟩
theorem word_get (w0 : World) (b gw i : Nat) (ao : Option Addr) (m cap : Nat) (xs : List (List UInt8)) (hE : PartsOk b w0 (.slice ao m cap) xs) (hg : gw < w0.heap.size) (hw : w0.cell? ⟨gw, i, none⟩ = some (.slice ao m cap)) (w : World) (h0 : Base w0 w) (hb : b ≠ w.heap.size) :
    Calls Tryd.prog 20 #[.pointer (some ⟨gw, i, none⟩)] w (GetT w0 b NoneF w (sepB [] xs)) := by
  refine (word_new ⟨gw, i, none⟩ w).mono ?_
  rintro e w' ⟨rfl, rfl⟩
  exact get_box w0 b w _ _ (by decide) _ enters_word1 _ h0 hb fun W out hB hc hI hn => word1_any w0 b _ gw i out ao m cap xs hE W hB hg hw hc hI hn
set_option maxHeartbeats 2000000 in
set_option maxRecDepth 20000 in
/-- show.Text of a row that can be told. -/
theorem text_any (w : World) (ao : Option Addr) (m cap : Nat) (xs : List (List UInt8)) (hE : EachOk (w.heap.size + 1) w (.slice ao m cap) xs) (hn : (sepB [10] xs).length ≤ 1000000000) :
    Calls Tryd.prog 10 #[.slice ao m cap] w fun e w' => e = .returned (.string ⟨(sepB [10] xs).toArray⟩) ∧ Below w.heap.size w w' := by
  have k1 := lines_new ao m cap w
  have hs : (w.alloc (.cells #[.slice ao m cap] 23)).heap.size = w.heap.size + 1 := by simp
  have k2 := told_any w 30 #[.pointer (some ⟨w.heap.size, 0, none⟩)] enters_lines1 (sepB [10] xs) (w.alloc (.cells #[.slice ao m cap] 23)) ((Base.refl w).new (alloc_below w _)) (fun W hB hb hI => by
    rw [hs] at hI ⊢
    exact lines1_any w _ _ [] ao m cap xs hE W hB (box_cell (hb.block _ (by rw [hs]; omega))) hI (by simpa using hn))
  have KB := Lib.hid (fun w2 (h : Below w.heap.size (w.alloc (.cells #[.slice ao m cap] 23)) w2) => (alloc_below w _).trans h)
  clear hE hn hs
  generalize (⟨(sepB [10] xs).toArray⟩ : ByteArray) = R at *
  go_enter Tryd.func10, Tryd.ntmps10
  go_wp2_with (first
    | (go_at_call 18; (with_reducible refine k1.mono ?_); rintro e w1 ⟨rfl, rfl⟩; clear k1)
    | (go_at_call 17; (with_reducible refine k2.mono ?_); rintro e w2 ⟨rfl, h2⟩; have HH := Lib.hid (KB.out _ h2); clear h2 k2))
  exact bodyPost_ret (results_tmp rfl _ _ _) rfl ⟨rfl, HH.out⟩
end Go.Proofs.YtelfgobjnibooaaDoor
namespace Go.Proofs.YtelfgobjnibooaaDoor
open Go.RowKit Go.Lib

/-- The blocks since W0, but for the row's own. -/
def ExcF (b : Nat) (W0 w : World) (v : Value) : Nat → Prop := fun g => NwF b W0.heap.size w g ∧ v.ownBlock ≠ some g
def MakI (w0 : World) (b : Nat) (W0 w : World) (v : Value) (xs : List (List UInt8)) : Prop :=
  ∃ vs : List Value, vs.length = xs.length ∧ w.ownsRow W0.heap.size 49 1 v xs.length vs ∧ (∀ (i : Nat) (u : Value) (x : List UInt8), vs[i]? = some u → xs[i]? = some x → TxtQ w0 b (ExcF b W0 w v) w u x) ∧ Below W0.heap.size W0 w
theorem MakI.nil (w0 : World) (b : Nat) (W0 : World) : MakI w0 b W0 W0 (.slice none 0 0) [] :=
  ⟨[], rfl, World.ownsRow_nil _ _ _ _, fun i u x h => by simp at h, Below.refl _ _⟩
theorem MakI.move {w0 : World} {b : Nat} {W0 w w1 : World} {v : Value} {xs : List (List UInt8)} (h : MakI w0 b W0 w v xs) (hb : Below w.heap.size w w1) : MakI w0 b W0 w1 v xs := by
  obtain ⟨vs, h1, h2, h3, h5⟩ := h
  exact ⟨vs, h1, ownS_same h2 fun g hg => hb.block g (ownS_lt h2 hg).2, fun i u x hu hx => ((h3 i u x hu hx).same fun g hg => hb.block g hg.1.2.1).mono fun g hg => ⟨hg.1.on hb, hg.2⟩, h5.trans (hb.mono h5.size)⟩
theorem MakI.row {w0 : World} {b : Nat} {W0 w : World} {v : Value} {xs : List (List UInt8)} (h : MakI w0 b W0 w v xs) (hb : b < W0.heap.size) : TxtsQ w0 b (NwF b W0.heap.size w) w v xs := by
  obtain ⟨vs, h1, h2, h3, h5⟩ := h
  refine ⟨vs.map fun v => [v], by simp [h1], ?_, ?_, fun g hg => ?_⟩
  · intro i x cs hx hc
    rw [List.getElem?_map] at hc
    obtain ⟨u, hu, rfl⟩ := Option.map_eq_some_iff.1 hc
    exact ⟨u, rfl, (h3 i u x hu hx).mono fun g hg => hg.1⟩
  · have e : (vs.map fun v => [v]).flatten = vs := by
      clear h1 h2 h3
      induction vs with
      | nil => rfl
      | cons v r ih => simp [ih]
    rw [e]
    exact ownS_base h2 (Nat.zero_le _)
  · have hl := ownS_lt h2 hg
    rcases h2.2 with ⟨e1, _⟩ | ⟨g2, cap2, cur2, e2, _, hg2, _⟩
    · rw [e1] at hg; cases hg
    · rw [e2] at hg
      cases hg
      exact ⟨hl.1, hl.2, by have := hl.1; omega, _, _, _, hg2, by decide⟩
/-- A row's values, one by one. -/
theorem txts_vals {w0 : World} {b : Nat} {F : Nat → Prop} {w : World} {v : Value} {xs : List (List UInt8)} (h : TxtsQ w0 b F w v xs) : ∃ us : List Value, us.length = xs.length ∧ w.ownsRow 0 49 1 v xs.length us ∧ ∀ (i : Nat) (u : Value) (x : List UInt8), us[i]? = some u → xs[i]? = some x → TxtQ w0 b F w u x := by
  obtain ⟨css, h1, h2, h3, h4⟩ := h
  have h3 : w.ownsRow 0 49 1 v xs.length css.flatten := h3
  refine ⟨css.flatten, by have := h3.1; omega, h3, fun i u x hu hx => ?_⟩
  have hi := (List.getElem?_eq_some_iff.1 hx).1
  obtain ⟨cs, hc⟩ : ∃ cs, css[i]? = some cs := ⟨css[i], List.getElem?_eq_getElem (by omega)⟩
  obtain ⟨y, rfl, hq⟩ := h2 i x cs hx hc
  have hall : ∀ y ∈ css, y.length = 1 := by
    intro y hy
    obtain ⟨k, hk⟩ := List.mem_iff_getElem?.1 hy
    have hkl : k < xs.length := by have := (List.getElem?_eq_some_iff.1 hk).1; omega
    exact (textE w0 b).len _ _ _ _ (h2 k _ _ (List.getElem?_eq_getElem hkl) hk)
  have := flat_eq css i 0 [y] hall hc (by omega)
  rw [Nat.mul_one, Nat.add_zero, hu] at this
  cases this
  exact hq
theorem TxtQ.one {w0 : World} {b : Nat} {F : Nat → Prop} {w : World} {v : Value} {x : List UInt8} (h : TxtQ w0 b F w v x) : v.oneCell' = true := by
  obtain ⟨k, caps, rfl, _⟩ := h
  rfl
theorem Tryd.infoTextM : (Tryd.prog.info? 49).map (fun i => (i.zero, i.size, i.bytes)) = some (some .nilFunc, 1, 8) := by kernel_rfl
/-- What append does to a row of texts. -/
theorem app_far (w : World) (base : Nat) (ty : TypeId) (v : Value) (n : Nat) (xs : List Value) (hown : w.ownsRow base 49 1 v n xs) (ad : Addr) (m c : Nat) (news : List Value) (hl : news.length = m) (hm : 0 < m) (hnews : ∀ j u, news[j]? = some u → w.cell? (ad.add j) = some u) (h1 : ∀ u ∈ news, u.oneCell' = true)
    (hn : n + m ≤ 1000000000) (hbase : base ≤ w.heap.size) :
    ∃ v' w', (Builtin.append_ #[66, 66] ty #[v, .slice (some ad) m c]).run Tryd.prog w = .ok v' w' ∧ w'.ownsRow base 49 1 v' (n + m) (xs ++ news) ∧ w.grownBy w' v.ownBlock ∧ ((v'.ownBlock = v.ownBlock ∧ w'.heap.size = w.heap.size) ∨ (v'.ownBlock = some w.heap.size ∧ w'.heap.size = w.heap.size + 1 ∧ ∀ k, k < w.heap.size → w'.heap[k]? = w.heap[k]?)) := by
  obtain ⟨i, hi, hz, hs, hby⟩ := info_parts Tryd.infoTextM
  have ht := Tryd.underlying66
  have hl1 : news.length = m * 1 := by omega
  obtain ⟨v', w', hr, h2, h3, _⟩ := run_append_own (P := Tryd.prog) w base 66 ty 49 i .nilFunc 1 8 ht hi hz hs hby rfl (by omega) v n xs hown ad m c news hl1 hnews h1 (by unfold maxLen; omega) (by omega) hbase
  refine ⟨v', w', hr, h2, h3, ?_⟩
  rcases hown.2 with ⟨rfl, rfl⟩ | ⟨g, cap, cur, rfl, hbg, hg, hnc, hcm, hcs, htake⟩
  · have hr2 := run_append_nil (P := Tryd.prog) w 66 ty 49 i .nilFunc ht hi hz ad m c news (by rw [hs]; exact hl1) hnews hm (by omega) (by rw [hby]; omega)
    rw [hr] at hr2
    injection hr2 with e1 e2
    exact .inr ⟨by rw [e1]; rfl, by rw [e2]; simp, fun k hk => by rw [e2]; exact alloc_old w.drew _ k hk⟩
  · by_cases hroom : n + m ≤ cap
    · have hfit : n * i.size + news.length ≤ cur.size := by
        rw [hs, hcs, hl]
        omega
      have hr2 := run_append_room (P := Tryd.prog) w 66 ty 49 i ht hi g n cap cur hg ad m c news (by rw [hs]; exact hl1) hnews h1 hroom hfit
      rw [hr] at hr2
      injection hr2 with e1 e2
      exact .inl ⟨by rw [e1]; rfl, by rw [e2]; simp [World.setRow]⟩
    · have holds : ∀ j x, xs[j]? = some x → w.cell? ((⟨g, 0, none⟩ : Addr).add j) = some x := hown.cells (g := g) rfl
      have hr2 := run_append_grow (P := Tryd.prog) w 66 ty 49 i .nilFunc ht hi hz ⟨g, 0, none⟩ n cap xs (by rw [hs]; exact hown.1) holds ad m c news (by rw [hs]; exact hl1) hnews (by omega) (by omega) (growslice_fits (by omega) (by rw [hby]; omega))
      rw [hr] at hr2
      injection hr2 with e1 e2
      exact .inr ⟨by rw [e1]; rfl, by rw [e2]; simp, fun k hk => by rw [e2]; exact alloc_old w.drew _ k hk⟩
theorem run_append_zero (w : World) (base : Nat) (ty : TypeId) (i : TypeInfo) (hi : Tryd.prog.info? 49 = some i) (_hs : i.size = 1)
    (v : Value) (n : Nat) (xs : List Value) (hown : w.ownsRow base 49 1 v n xs) (a : Addr) (c : Nat) : (Builtin.append_ #[66, 66] ty #[v, .slice (some a) 0 c]).run Tryd.prog w = .ok v w := by
  have ht := Tryd.underlying66
  have hf := run_firstCells_some (P := Tryd.prog) w i.size 0 a 0 c [] (by simp) (by simp)
  obtain ⟨ao, cap, rfl, hc⟩ := ownS_shape hown
  cases ao with
  | none => simp [Builtin.append_, run_underlying ht, sizeOf, typeInfo, hi, Builtin.lenOf, hf, Result.andThen, hc]
  | some b => simp [Builtin.append_, run_underlying ht, sizeOf, typeInfo, hi, Builtin.lenOf, hf, Result.andThen, hc, storeCells]
theorem run_append_mak (ty : TypeId) {w0 : World} {b : Nat} {W0 w : World} {v u : Value} {xs ys : List (List UInt8)} {G : Nat → Prop} (h : MakI w0 b W0 w v xs) (k : TxtsQ w0 b G w u ys) (hG : ∀ g, G g → ExcF b W0 w v g) (hn : xs.length + ys.length ≤ 1000000000) :
    ∃ v' w', (Builtin.append_ #[66, 66] ty #[v, u]).run Tryd.prog w = .ok v' w' ∧ MakI w0 b W0 w' v' (xs ++ ys) := by
  have hM := h
  obtain ⟨vs, h1, h2, h3, h5⟩ := h
  obtain ⟨us, k1, k2, k3⟩ := txts_vals k
  rcases k2.2 with ⟨hu, hu0⟩ | ⟨g, cap, cur, hv, _, hg, hc, hm, hcs, htk⟩
  · have e0 : ys = [] := List.eq_nil_of_length_eq_zero hu0
    subst e0
    subst hu
    obtain ⟨i, hi, hz, hs, hby⟩ := info_parts Tryd.infoTextM
    exact ⟨v, w, run_append_none w W0.heap.size 66 ty 49 i 1 Tryd.underlying66 hi v xs.length _ h2, by rw [List.append_nil]; exact hM⟩
  · by_cases hz : ys.length = 0
    · have e0 : ys = [] := List.eq_nil_of_length_eq_zero hz
      subst e0
      obtain ⟨i, hi, hzz, hs, hby⟩ := info_parts Tryd.infoTextM
      rw [hv]
      exact ⟨v, w, run_append_zero w W0.heap.size ty i hi hs v xs.length _ h2 _ cap, by rw [List.append_nil]; exact hM⟩
    · have hnews : ∀ j u, us[j]? = some u → w.cell? ((⟨g, 0, none⟩ : Addr).add j) = some u := k2.cells (by rw [hv]; rfl)
      rw [hv]
      obtain ⟨v', w', hr, r1, r2, r3⟩ := app_far w W0.heap.size ty v xs.length vs h2 ⟨g, 0, none⟩ ys.length cap us k1 (by omega) hnews (fun u hu => by
        obtain ⟨j, hj⟩ := List.mem_iff_getElem?.1 hu
        have hjl : j < ys.length := by have := (List.getElem?_eq_some_iff.1 hj).1; omega
        exact (k3 j u _ hj (List.getElem?_eq_getElem hjl)).one) hn h5.size
      have hsame : ∀ g, ExcF b W0 w v g → w'.heap[g]? = w.heap[g]? := fun g hg => r2.block g hg.1.2.1 (fun e => hg.2 e.symm)
      have hexc : ∀ g, ExcF b W0 w v g → ExcF b W0 w' v' g := fun g hg => by
        refine ⟨hg.1.same (hsame g hg) r2.size, ?_⟩
        rcases r3 with ⟨r3, _⟩ | ⟨r3, _⟩
        · rw [r3]; exact hg.2
        · rw [r3]; intro e; have := hg.1.2.1; have := Option.some.inj e; omega
      refine ⟨v', w', hr, vs ++ us, by simp [h1, k1], by rw [List.length_append]; exact r1, ?_, h5.grown r2 h5.size fun k hk => (ownS_lt h2 hk).1⟩
      intro i u x hu hx
      by_cases hi : i < vs.length
      · rw [List.getElem?_append_left hi] at hu
        rw [List.getElem?_append_left (by omega)] at hx
        exact ((h3 i u x hu hx).same hsame).mono hexc
      · rw [List.getElem?_append_right (by omega)] at hu
        rw [List.getElem?_append_right (by omega), ← h1] at hx
        exact ((k3 _ u x hu hx).same fun g hg => hsame g (hG g hg)).mono fun g hg => hexc g (hG g hg)
end Go.Proofs.YtelfgobjnibooaaDoor
