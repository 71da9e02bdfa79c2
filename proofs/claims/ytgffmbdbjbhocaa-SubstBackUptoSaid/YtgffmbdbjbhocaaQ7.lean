/- Packed texts: MaFar2, MaRange, MaSpans, MaSpan, MaSpansRow, MaShown0. What each of them proves stands above its theorems; the conditions stand in these. -/
import Derived.Test.YtgffmbdbjbhocaaQ0
import Derived.Test.YtgffmbdbjbhocaaQ6
namespace Go.Proofs.Ytgffmbdbjbhocaa
open Go.RowKit Go.Lib

/-- The greatest ends from a place on. -/
def FarFrom (s : List UInt8) (T : Tr) (k : Nat) (G : Nat → Int) : Prop :=
  ∀ b : Nat, k ≤ b → b ≤ s.length → (G b = -1 ∧ ∀ a : Nat, a ≤ s.length → ¬ St s T b a) ∨ ∃ a : Nat, a ≤ s.length ∧ G b = a ∧ St s T b a ∧ ∀ a' : Nat, a < a' → a' ≤ s.length → ¬ St s T b a'
theorem FarOk.from_ {s : List UInt8} {T : Tr} {e : Int} {k : Nat} {G : Nat → Int} (h : FarOk s T e G) (hk : e < (k : Int)) : FarFrom s T k G := fun b h1 h2 => by
  rcases h b with ⟨g1, g2⟩ | ⟨a, g1, g2, g3, g4, g5⟩
  · refine .inl ⟨g1, fun a ha hs => g2 a ?_ ha hs⟩
    have := St.le s T b a hs
    omega
  · exact .inr ⟨a, g2, g3, g4, g5⟩
set_option maxHeartbeats 8000000 in
set_option maxRecDepth 20000 in
theorem far_any (b o cap : Nat) (T : Tr) (ts : List Nd) (s : ByteArray) (k : Nat) (w : World) (hts : ts = T.row 0) (hok : T.ok) (hsz : ts.length ≤ 2000) (hs : s.size ≤ 1000000) (hL : Lies (.slice (some ⟨b, o, none⟩) ts.length cap) ts w) :
    Calls Try.prog 100 #[.slice (some ⟨b, o, none⟩) ts.length cap, .string s, .int .i64 (k : Int)] w fun e w' => ∃ hr G, e = .returned (.slice (some ⟨hr, 0, none⟩) (s.size + 1) (s.size + 1)) ∧ w.heap.size ≤ hr ∧ w'.heap[hr]? = some (.cells ⟨intC s.size G⟩ 3 (0, 0)) ∧ FarFrom s.data.toList T k G ∧ Below w.heap.size w w' := by
  have hbw : b < w.heap.size := by
    obtain ⟨b', o', h1, h2, _⟩ := hL.at (List.getElem?_eq_getElem (by rw [hts, Tr.row_length]; exact T.size_pos))
    cases h1
    exact h2
  have hlen : s.data.toList.length = s.size := Array.length_toList
  have hNw : IntKind.i64.wrap ((s.size : Int) + 1) = ((s.size + 1 : Nat) : Int) := by rw [IntWalk.i64_in _ (by omega)]; omega
  obtain ⟨N, hN⟩ : ∃ N, N = s.size + 1 := ⟨_, rfl⟩
  rw [← hN] at hNw ⊢
  have hT : Tree ts (upT T) T := by rw [hts]; exact tree_of T hok
  have hst : ∀ (a : Addr) (fn : Fn) (x y : Array Value) (m : Mode) (w : World), (store a (.func fn x y) m).run Try.prog w = stored Try.prog w a (.func fn x y) m := fun a fn x y m w => run_store Try.prog w a (.func fn x y) m rfl
  have hmf : ∀ (fn : Fn) (first cap : Array Value) (w : World), (Instr.makeFunc fn first cap).run Try.prog w = .ok (.func fn first cap) w := fun _ _ _ _ => rfl
  have krep := repeat_any w.heap.size (-1) N (w.alloc (.cells #[.int .i64 (-1)] 3)) (by omega) (by omega) (by rw [cell_of_heap (heap_alloc_new w _)]; rfl)
  have kr := fun (w : World) (h : Lies (.slice (some ⟨b, o, none⟩) ts.length cap) ts w) => reacher_any b o cap T ts s true w hts hok hsz hs h
  have hb0 : Below w.heap.size w (w.alloc (.cells #[.int .i64 (-1)] 3)) := (Below.refl _ _).alloc (Nat.le_refl _) _
  have H0 := Lib.hid (And.intro hN (And.intro hT (And.intro hs (And.intro hbw (And.intro hL (And.intro hlen hb0))))))
  clear hN hT hs hbw hL hlen hb0 hts hok hsz
  go_enter Try.func100, Try.ntmps100
  go_wp2_with (first
    | (go_at_call 126; refine krep.mono ?_; rintro e w2 ⟨rfl, hr2, hb2⟩
       rw [World.size_alloc] at hr2 ⊢
       have hb2' : Below w.heap.size w w2 := H0.out.2.2.2.2.2.2.trans (hb2.mono (by simp))
       have hz2 : w.heap.size + 1 < w2.heap.size := block_lt hr2
       have hL2 := H0.out.2.2.2.2.1.below (hb2'.alloc (by omega) (.cells #[.slice (some ⟨w.heap.size + 1, 0, none⟩) N N] 42))
       have H2 := Lib.hid (And.intro hr2 (And.intro hb2' hz2))
       clear krep hr2 hb2 hb2' hz2)
    | (go_at_call 76; refine (kr _ hL2).mono ?_; rintro e w3 ⟨c, hcB, hcb, hcs, hb3, rfl, hE, hM⟩
       have H3 := Lib.hid (And.intro hcB (And.intro hcb (And.intro hcs (And.intro hb3 (And.intro hE hM)))))
       clear kr hL2 hcB hcb hcs hb3 hE hM)
    | fail)
  obtain ⟨hN, hT, hs, hbw, -, hlen, -⟩ := H0.out
  obtain ⟨hr2, hb2, hz2⟩ := H2.out
  obtain ⟨hcB, hcb, hcs, hb3, hE, hM⟩ := H3.out
  have hcB2 : c.B = w2.heap.size + 1 := by rw [hcB]; simp
  have hlt2 : w2.heap.size < w3.heap.size := by have := hb3.size; simp at this; omega
  have hbw2 : Below w.heap.size w w3 := (hb2.alloc (by omega) _).trans (hb3.mono (by simp; omega))
  have hne7 : c.bw < w3.heap.size ∧ c.bu < w3.heap.size ∧ c.bm < w3.heap.size ∧ c.bn < w3.heap.size ∧ c.bp < w3.heap.size ∧ c.bl < w3.heap.size := ⟨block_lt hE.wk, block_lt hE.up, block_lt hE.bm, block_lt hE.bn, block_lt hE.bp, block_lt hE.bl⟩
  have hba : Below w3.heap.size w3 (w3.alloc (.cells #[.int .i64 (s.size : Int)] 3)) := (Below.refl _ _).alloc (Nat.le_refl _) _
  have hfb : w3.heap[w2.heap.size]? = some (.cells #[.slice (some ⟨w.heap.size + 1, 0, none⟩) N N] 42 (0, 0)) := (hb3.block _ (by simp)).trans (heap_alloc_new w2 _)
  have hrw : w3.heap[w.heap.size + 1]? = some (.cells ⟨List.replicate N (Value.int .i64 (-1))⟩ 3 (0, 0)) := (hb3.block _ (by simp; omega)).trans ((Below.heap_alloc _ _ _ (by omega)).trans hr2)
  have hS0 : FarS c w.heap.size w3.heap.size w2.heap.size (w.heap.size + 1) s ts T w (s.size : Int) (fun _ _ => false) (fun _ => -1) (w3.alloc (.cells #[.int .i64 (s.size : Int)] 3)) := by
    refine ⟨hE.kept (Kept.of_below hba (by omega)), hM.below hba, ⟨heap_alloc_new w3 _, ?_, ?_, hbw2.alloc (by omega) _⟩, fun b => .inl ⟨rfl, fun a h1 h2 => by omega⟩, ⟨fun _ _ h => Bool.noConfusion h, fun a h1 h2 => by omega, fun _ _ _ _ _ h => Bool.noConfusion h⟩, by omega⟩
    · rw [← hN]; exact (hba.block _ hlt2).trans hfb
    · rw [← intC_rep, ← hN]; exact (hba.block _ (by omega)).trans hrw
  have HS0 := Lib.hid hS0
  have HQ := Lib.hid (And.intro hcB2 (And.intro hlt2 (And.intro hne7 (And.intro hz2 (And.intro hbw (And.intro hcb (And.intro hcs (And.intro hT (And.intro hN (And.intro hlen hs))))))))))
  clear hN hT hs hbw hlen hr2 hb2 hz2 hcB hcb hcs hb3 hE hM hcB2 hlt2 hbw2 hne7 hba hfb hrw hS0
  go_loopg [] (s.size + 1) (fun m wr => Hid (∃ (e : Int) (M : Nat → Nat → Bool) (G : Nat → Int), FarS c w.heap.size w3.heap.size w2.heap.size (w.heap.size + 1) s ts T w e M G wr ∧ m = (e + 1).toNat))
  case atStart => exact ⟨_, _, _, HS0.out, by omega⟩
  case round =>
    obtain ⟨e, M, G, h, hm⟩ := hrel.out
    obtain ⟨hcB2, hlt2, hne7, hz2, hbw, hcb, hcs, hT, hN, hlen, hs⟩ := HQ.out
    have ce : wr.cell? ⟨w3.heap.size, 0, none⟩ = some (.int .i64 e) := by rw [cell_of_heap h.at_.ebox]; rfl
    have hle := h.le
    by_cases hge : (k : Int) ≤ e
    · obtain ⟨e', rfl⟩ : ∃ e' : Nat, e = (e' : Int) := ⟨e.toNat, by omega⟩
      have kc := far_call hT hcs (by omega) (by omega) (by omega) (by omega) (by omega) (by omega) h
      have hI : IntKind.i64.wrap ((e' : Int) - 1) = (e' : Int) - 1 := IntWalk.i64_in _ (by omega)
      have HH := Lib.hid h
      have HM := Lib.hid hm
      clear h hm hrel hcB2 hlt2 hne7 hz2 hbw hcb hcs hT hN hlen hs
      go_wp2_with (first
        | (go_at_call 106; refine kc.mono ?_; rintro en w5 ⟨rfl, M', G', hE5, hM5, hA5, hO5, hI5⟩
           have ce5 : w5.cell? ⟨w3.heap.size, 0, none⟩ = some (.int .i64 (e' : Int)) := by rw [cell_of_heap hA5.ebox]; rfl
           have fe5 : w5.frozen? ⟨w3.heap.size, 0, none⟩ = false := frozen_of_heap hA5.ebox 0
           have H5 := Lib.hid (And.intro hE5 (And.intro hM5 (And.intro hA5 (And.intro hO5 hI5))))
           clear kc ce hE5 hM5 hA5 hO5 hI5)
        | fail)
      go_roundg e'
      case rel =>
        obtain ⟨hE5, hM5, hA5, hO5, hI5⟩ := H5.out
        obtain ⟨hcB2, hlt2, hne7, hz2, hbw, hcb, hcs, hT, hN, hlen, hs⟩ := HQ.out
        have hsame : ∀ j, j ≠ w3.heap.size → (w5.setCell ⟨w3.heap.size, 0, none⟩ (.int .i64 ((e' : Int) - 1))).heap[j]? = w5.heap[j]? := fun j hj => Below.heap_setCell _ _ _ _ hj
        refine ⟨(e' : Int) - 1, M', G', ⟨hE5.end (he := w3.heap.size) (by omega) hsame, hM5.end hA5.ebox hsame, ⟨?_, (hsame _ (by omega)).trans hA5.fbox, (hsame _ (by omega)).trans hA5.row, hA5.low.setCell (p := ⟨w3.heap.size, 0, none⟩) (by dsimp only; omega) _⟩, hO5, hI5, by omega⟩, by omega⟩
        have h := heap_setCell_same w5 w3.heap.size 0 _ _ (Value.int .i64 ((e' : Int) - 1)) hA5.ebox
        simpa using h
      case measure => have := HM.out; omega
    · have cf : wr.cell? ⟨w2.heap.size, 0, none⟩ = some (.slice (some ⟨w.heap.size + 1, 0, none⟩) N N) := by rw [cell_of_heap h.at_.fbox, hN]; rfl
      have HH := Lib.hid h
      clear h hm hrel hcB2 hlt2 hne7 hz2 hbw hcb hcs hT hN hlen hs
      go_wp2
      exact bodyPost_ret (results_tmp rfl _ _ _) rfl (by first | exact ⟨_, G, rfl, by omega, HH.out.at_.row, HH.out.ok.from_ (by omega), HH.out.at_.low⟩ | exact ⟨_, rfl, by omega, G, HH.out.at_.row, HH.out.ok.from_ (by omega), HH.out.at_.low⟩ | exact ⟨_, rfl, by omega, ⟨G, HH.out.at_.row, HH.out.ok.from_ (by omega)⟩, HH.out.at_.low⟩)
end Go.Proofs.Ytgffmbdbjbhocaa
namespace Go.Proofs.Ytgffmbdbjbhocaa
open Go.RowKit

/-- WHAT AN ITERATOR DOES, called at W: it hands the elements of L to yield, one behind the other, till a round says 'no more'. It lays c blocks of its own ahead of the first round, whatever c is; the rounds keep these, and those of K. -/
def SeqF {α : Type} (P : Program) (g : Nat) (lb : Array Value) (encs : α → Array Value) (L : List α) (K : Nat → Prop) (W : World) : Prop :=
  ∀ (l : Nat) (J Jx : Nat → List α → World → Prop), (∀ c, OwnC W.heap.size 0 (J c)) → (∀ c, OwnC W.heap.size 0 (Jx c)) →
    (∀ c pre x W1, W.heap.size + c ≤ W1.heap.size → J c pre W1 → (∃ rest, L = pre ++ x :: rest) → YieldAt Fence.wide 0 P l (encs x) W1 fun e W' =>
      W1.heap.size ≤ W'.heap.size ∧ Same (fun j => K j ∨ (W.heap.size ≤ j ∧ j < W.heap.size + c)) W1 W' ∧
        ((e = .returned (.bool true) ∧ J c (pre ++ [x]) W') ∨ (e = .returned (.bool false) ∧ Jx c (pre ++ [x]) W'))) →
    (∀ c, J c [] W) →
    CallsIn Fence.wide 0 P g (#[.func (.yield l) #[] #[]] ++ lb) W fun e W' => (∃ v, e = .returned v) ∧ ∃ c, J c L W' ∨ (∃ pre, Jx c pre W')

/-- How a round's body may be left: off its end, or by a return. -/
def postF {α : Type} (B c : Nat) (K : Nat → Prop) (I : List α → World → Prop) (Ix : List α → World → Prop) (xs : List α) (W : World) : Exit → Act → World → Prop
  | .normal, _, W' => W.heap.size ≤ W'.heap.size ∧ Same (fun j => K j ∨ (B ≤ j ∧ j < B + 2 + c)) W W' ∧ I xs W'
  | .ret, _, W' => W.heap.size ≤ W'.heap.size ∧ Same (fun j => K j ∨ (B ≤ j ∧ j < B + 2 + c)) W W' ∧ Ix xs W'
  | _, _, _ => False

/-- THE LOOP. -/
theorem wp_rangeF {α : Type} {P : Program} {g : Operand} {ps : Array Tmp} {assign body : Code} {Q : Exit → Act → World → Prop} {a : Act} {w : World} {gf : Nat} {lb : Array Value}
    (hg : a.eval g = .func (.func gf) #[] lb) (eg : ∀ args w, (callFunc gf args).run P w = .ok (.enter gf args) w) {encs : α → Array Value} {L : List α} {K : Nat → Prop} (hps : ∀ x, (encs x).size = ps.size)
    (hseq : ∀ W, W.heap.size = w.heap.size + 2 → (∀ j, j < w.heap.size → W.heap[j]? = w.heap[j]?) → SeqF P gf lb encs L K W) (hK : ∀ j, K j → j ≠ w.heap.size + 1)
    (I Ix : Nat → List α → World → Prop) (hI : ∀ c, OwnC w.heap.size 2 (I c)) (hIx : ∀ c, OwnC w.heap.size 2 (Ix c)) (h0 : ∀ c, I c [] w) (a₁ : α → Act)
    (hassign : ∀ (l : Nat) (x : α) (W : World) (k : Act → World → Prop), k (a₁ x) W →
      assign.wpIn (Fence.wide.inRound l) 0 P (Exit.then k (fun _ _ _ => False)) { tmps := (ps.zip (encs x)).foldl (fun t (p, v) => t.setIfInBounds p v) a.tmps, defers := [] } W)
    (hbody : ∀ (l c : Nat) (pre : List α) (x : α) (W : World), w.heap.size + 2 + c ≤ W.heap.size → I c pre W → (∃ rest, L = pre ++ x :: rest) → body.wpIn (Fence.wide.inRound l) 0 P (postF w.heap.size c K (I c) (Ix c) (pre ++ [x]) W) (a₁ x) W)
    (hdone : ∀ (c : Nat) (W : World), I c L W → W.heap[w.heap.size]? = some (.deferred (some [])) → Q .normal { a with defers := { target := .collected w.heap.size, args := #[] } :: a.defers } W)
    (hstop : ∀ (c : Nat) (pre : List α) (W : World), Ix c pre W → W.heap[w.heap.size]? = some (.deferred (some [])) → Code.ret.wpIn Fence.wide 0 P Q { a with defers := { target := .collected w.heap.size, args := #[] } :: a.defers } W) :
    (Code.rangeFunc g ps assign body).wpIn Fence.wide 0 P Q a w := by
  refine wpIn_rangeFunc fun fn hfn => ?_
  -- the two blocks of book-keeping: D for the rounds' deferred calls, D + 1 the record, in its states
  obtain ⟨D, hD⟩ : ∃ D, D = w.heap.size := ⟨_, rfl⟩
  rw [← hD] at hI hIx hK hbody hdone hstop hseq
  let st : LoopState → Option Code → Obj := fun s pe => .loop { state := s, pending := pe, fn, tmps := a.tmps, params := ps, assign, body, defers := D }
  obtain ⟨W1, hW1⟩ : ∃ W1, (w.alloc (.deferred (some []))).alloc (st .ready none) = W1 := ⟨_, rfl⟩
  have hz1 : W1.heap.size = D + 2 := by rw [← hW1, hD]; simp
  have hrec1 : W1.heap[D + 1]? = some (st .ready none) := by
    rw [← hW1, hD]
    have := World.alloc_heap_new (w.alloc (.deferred (some []))) (st .ready none)
    rwa [World.size_alloc] at this
  have hdef1 : W1.heap[D]? = some (.deferred (some [])) := by
    rw [← hW1, hD]
    exact (Below.heap_alloc _ _ _ (by simp)).trans (World.alloc_heap_new w _)
  have hold1 : ∀ j, j < D → W1.heap[j]? = w.heap[j]? := fun j hj => by
    rw [← hW1]
    exact (Below.heap_alloc _ _ _ (by simp; omega)).trans (Below.heap_alloc _ _ _ (by omega))
  have hI1 : ∀ c, I c [] W1 := fun c => by
    rw [← hW1]
    exact hI c _ _ _ none (hI c _ _ _ none (h0 c) (World.grownBy_alloc _ _ none) (fun _ e => by cases e)) (World.grownBy_alloc _ _ none) (fun _ e => by cases e)
  refine ⟨D + 1, [{ target := .collected D, args := #[] }], W1, { target := .fn (.func gf) lb, args := #[.func (.yield (D + 1)) #[] #[]] }, W1, gf, #[.func (.yield (D + 1)) #[] #[]] ++ lb, W1, ?_, ?_, fun _ _ => trivial, ?_, (fun h => by cases h), ?_⟩
  · subst hD; rw [← hW1]; exact run_enterLoop_outer _ _ _ _ _
  · simp only [resolve, hg]
    simp [go_sem]
  · simp [invoke, go_sem, eg]
  -- the record turns; what abides that goes on
  have turn : ∀ {Z : List α → World → Prop}, OwnC D 2 Z → ∀ {s : List α} {W : World} {o : Obj} (o' : Obj), Z s W → W.heap[D + 1]? = some o → o.isCells = false → Z s (W.putObj (D + 1) o') :=
    fun hZ _ _ _ o' hs ho hc => hZ _ _ _ (some (D + 1)) hs (putObj_grown _ _ _) (fun r e => by cases e; exact ⟨by omega, .inr ⟨_, ho, hc⟩⟩)
  have stay : ∀ {W W' : World} {row : Option Nat} {o : Obj} {j : Nat}, j < D + 2 → W.grownBy W' row → (∀ r, row = some r → W1.heap.size ≤ r ∧ ((r < W1.heap.size + 0 ∧ ∃ x t, W.heap[r]? = some (.cells #[x] t (0, 0))) ∨ ∃ o : Obj, W.heap[r]? = some o ∧ o.isCells = false)) → W.heap[j]? = some o → W'.heap[j]? = some o :=
    fun {W W' row o j} hj hgr hr ho => (hgr.block j (Array.getElem?_eq_some_iff.1 ho).1 (fun e => by have := (hr j e.symm).1; omega)).trans ho
  have low : ∀ {W : World} {row : Option Nat}, (∀ r, row = some r → W1.heap.size ≤ r ∧ ((r < W1.heap.size + 0 ∧ ∃ x t, W.heap[r]? = some (.cells #[x] t (0, 0))) ∨ ∃ o : Obj, W.heap[r]? = some o ∧ o.isCells = false)) → (∀ r, row = some r → D ≤ r ∧ ((r < D + 2 ∧ ∃ x t, W.heap[r]? = some (.cells #[x] t (0, 0))) ∨ ∃ o : Obj, W.heap[r]? = some o ∧ o.isCells = false)) :=
    fun hr r e => ⟨by have := (hr r e).1; omega, (hr r e).2.elim (fun h => .inl ⟨by omega, h.2⟩) .inr⟩
  refine (hseq W1 hz1 hold1 (D + 1)
    (fun c pre W => I c pre W ∧ W.heap[D + 1]? = some (st .ready none) ∧ W.heap[D]? = some (.deferred (some [])))
    (fun c pre W => Ix c pre W ∧ W.heap[D + 1]? = some (st .done (some .ret)) ∧ W.heap[D]? = some (.deferred (some [])))
    (fun c s A B row hs hgr hr => ⟨hI c s A B row hs.1 hgr (low hr), stay (by omega) hgr hr hs.2.1, stay (by omega) hgr hr hs.2.2⟩)
    (fun c s A B row hs hgr hr => ⟨hIx c s A B row hs.1 hgr (low hr), stay (by omega) hgr hr hs.2.1, stay (by omega) hgr hr hs.2.2⟩)
    ?_ (fun c => ⟨hI1 c, hrec1, hdef1⟩)).mono ?_
  · -- one round
    rintro c pre x W hsz ⟨hi, hl, hk⟩ hlen
    have hlt : D + 1 < W.heap.size := (Array.getElem?_eq_some_iff.1 hl).1
    refine ⟨fn, _, assign, body, run_yield (args := encs x) hl (hps x), roundIn_of_wpIn hfn (hassign _ x W _ ⟨_, run_beginRound hl rfl, ?_⟩)⟩
    have hl2 : (W.putObj (D + 1) (st .busy none)).heap[D + 1]? = some (st .busy none) := World.putObj_heap_same hlt
    have hk2 : (W.putObj (D + 1) (st .busy none)).heap[D]? = some (.deferred (some [])) := (World.putObj_heap_other (by omega)).trans hk
    refine wpIn_mono (hbody _ c pre x _ (by simp; omega) (turn (hI c) _ hi hl rfl) hlen) ?_
    have other : ∀ {j : Nat} (o : Obj) (V : World), K j ∨ (W1.heap.size ≤ j ∧ j < W1.heap.size + c) → (V.putObj (D + 1) o).heap[j]? = V.heap[j]? := fun {j} o V hj =>
      World.putObj_heap_other (hj.elim (hK j) (fun h => by omega))
    rintro e a3 W3 hp
    cases e with
    | normal =>
      obtain ⟨hs3, hk3, hi3⟩ := hp
      have hl3 := (hk3 (D + 1) (.inr (by omega))).trans hl2
      have hd3 := (hk3 D (.inr (by omega))).trans hk2
      refine ⟨_, _, run_endRound none hl3, by simpa using hs3, fun j hj => ?_, .inl ⟨rfl, turn (hI c) _ hi3 hl3 rfl, World.putObj_heap_same (Array.getElem?_eq_some_iff.1 hl3).1, (World.putObj_heap_other (by omega)).trans hd3⟩⟩
      rw [other _ _ hj, hk3 j (hj.elim .inl (fun h => .inr (by omega))), other _ _ hj]
    | ret =>
      obtain ⟨hs3, hk3, hi3⟩ := hp
      have hl3 := (hk3 (D + 1) (.inr (by omega))).trans hl2
      have hd3 := (hk3 D (.inr (by omega))).trans hk2
      refine ⟨_, _, run_endRound (some .ret) hl3, by simpa using hs3, fun j hj => ?_, .inr ⟨rfl, turn (hIx c) _ hi3 hl3 rfl, World.putObj_heap_same (Array.getElem?_eq_some_iff.1 hl3).1, (World.putObj_heap_other (by omega)).trans hd3⟩⟩
      rw [other _ _ hj, hk3 j (hj.elim .inl (fun h => .inr (by omega))), other _ _ hj]
    | exit id => exact hp.elim
    | goto t => exact hp.elim
    | panic ch => exact hp.elim
    | outgrown => exact hp.elim
  · -- behind the iterator
    rintro e W2 ⟨⟨v, rfl⟩, c, ⟨hi, hl, hk⟩ | ⟨pre, hi, hl, hk⟩⟩
    · exact ⟨none, _, run_endLoop hl (by simp), hdone c _ (turn (hI c) _ hi hl rfl) ((World.putObj_heap_other (by omega)).trans hk)⟩
    · exact ⟨some .ret, _, run_endLoop hl (by simp), hstop c pre _ (turn (hIx c) _ hi hl rfl) ((World.putObj_heap_other (by omega)).trans hk)⟩
end Go.Proofs.Ytgffmbdbjbhocaa
namespace Go.Proofs.Ytgffmbdbjbhocaa
open Go.RowKit Go.Lib
attribute [local go_sem] Oper.semAt_some

open Classical in
noncomputable def farG (s : List UInt8) (T : Tr) (b : Nat) : Int :=
  if h : ∃ a : Nat, a ≤ s.length ∧ St s T b a ∧ ∀ a' : Nat, a < a' → a' ≤ s.length → ¬ St s T b a' then ((Classical.choose h : Nat) : Int) else -1
theorem farG_some {s : List UInt8} {T : Tr} {b a : Nat} (h1 : a ≤ s.length) (h2 : St s T b a) (h3 : ∀ a' : Nat, a < a' → a' ≤ s.length → ¬ St s T b a') : farG s T b = a := by
  have hex : ∃ a : Nat, a ≤ s.length ∧ St s T b a ∧ ∀ a' : Nat, a < a' → a' ≤ s.length → ¬ St s T b a' := ⟨a, h1, h2, h3⟩
  unfold farG
  rw [dif_pos hex]
  have hc := Classical.choose_spec hex
  generalize Classical.choose hex = c at hc
  obtain ⟨g1, g2, g3⟩ := hc
  have : ¬ a < c := fun h => h3 c h g1 g2
  have : ¬ c < a := fun h => g3 a h h1 h2
  omega
theorem farG_none {s : List UInt8} {T : Tr} {b : Nat} (h : ∀ a : Nat, a ≤ s.length → ¬ St s T b a) : farG s T b = -1 := by
  unfold farG
  rw [dif_neg (by rintro ⟨a, h1, h2, _⟩; exact h a h1 h2)]
theorem FarFrom.eq {s : List UInt8} {T : Tr} {k : Nat} {G : Nat → Int} (h : FarFrom s T k G) {b : Nat} (h1 : k ≤ b) (h2 : b ≤ s.length) : G b = farG s T b := by
  rcases h b h1 h2 with ⟨g1, g2⟩ | ⟨a, g1, g2, g3, g4⟩
  · rw [g1, farG_none g2]
  · rw [g2, farG_some g1 g3 g4]
theorem farG_cases (s : List UInt8) (T : Tr) (b : Nat) : farG s T b = -1 ∨ ∃ a : Nat, farG s T b = a ∧ b ≤ a ∧ a ≤ s.length ∧ St s T b a := by
  by_cases hex : ∃ a : Nat, a ≤ s.length ∧ St s T b a ∧ ∀ a' : Nat, a < a' → a' ≤ s.length → ¬ St s T b a'
  · obtain ⟨a, h1, h2, h3⟩ := hex
    exact .inr ⟨a, farG_some h1 h2 h3, St.le s T b a h2, h1, h2⟩
  · left
    unfold farG
    rw [dif_neg hex]
/-- The spans from a place on, when the last one ended somewhere. -/
def goL (G : Nat → Int) (n : Nat) : Nat → Nat → Int → List (Nat × Nat)
  | 0, _, _ => []
  | f + 1, a, e => if n < a then [] else if G a = -1 ∨ (G a = a ∧ e = a) then goL G n f (a + 1) e else (a, (G a).toNat) :: goL G n f (G a).toNat (G a)
def muL (n a : Nat) (e : Int) : Nat := 2 * (n + 1 - a) + (if e = a then 0 else 1)
noncomputable def spansL (s : List UInt8) (T : Tr) (k : Nat) : List (Nat × Nat) := goL (farG s T) s.length (2 * (s.length + 1 - k) + 2) k (-1)
abbrev encP (x : Nat × Nat) : Array Value := #[.int .i64 (x.1 : Int), .int .i64 (x.2 : Int)]
/-- What lies between two rounds. -/
structure SpS (s : ByteArray) (T : Tr) (k hr sb : Nat) (W w1 : World) (G : Nat → Int) (J : Nat → List (Nat × Nat) → World → Prop) (a : Nat) (e : Int) (wr : World) : Prop where
  row : wr.heap[hr]? = some (.cells ⟨intC s.size G⟩ 3 (0, 0))
  str : wr.heap[sb]? = some (.cells #[.string s] 9 (0, 0))
  size : w1.heap.size ≤ wr.heap.size
  at_ : k ≤ a
  list : ∃ pre f, spansL s.data.toList T k = pre ++ goL (farG s.data.toList T) s.size f a e ∧ muL s.size a e < f ∧ J (w1.heap.size - W.heap.size) pre wr
theorem muL_next (n a : Nat) (e : Int) (h : a ≤ n) : muL n (a + 1) e < muL n a e := by
  unfold muL
  split <;> split <;> omega
theorem muL_take (n a b : Nat) (e : Int) (h : a ≤ n) (hb : a ≤ b) (hne : ¬ (b = a ∧ e = a)) : muL n b (b : Int) < muL n a e := by
  unfold muL
  rw [if_pos rfl]
  by_cases hab : b = a
  · subst hab
    rw [if_neg (fun he => hne ⟨rfl, he⟩)]
    omega
  · split <;> omega
section
variable {s : ByteArray} {T : Tr} {k hr sb : Nat} {W w1 : World} {G : Nat → Int} {J : Nat → List (Nat × Nat) → World → Prop} {a : Nat} {e : Int} {wr : World}
theorem SpS.skip (h : SpS s T k hr sb W w1 G J a e wr) (ha : a ≤ s.size) (hc : farG s.data.toList T a = -1 ∨ (farG s.data.toList T a = a ∧ e = a)) : SpS s T k hr sb W w1 G J (a + 1) e wr := by
  obtain ⟨pre, f, h1, h2, h3⟩ := h.list
  cases f with
  | zero => omega
  | succ f =>
    refine ⟨h.row, h.str, h.size, by have := h.at_; omega, pre, f, ?_, by have := muL_next s.size a e ha; omega, h3⟩
    rw [h1]
    show pre ++ (if s.size < a then [] else if farG s.data.toList T a = -1 ∨ (farG s.data.toList T a = a ∧ e = a) then goL (farG s.data.toList T) s.size f (a + 1) e else _) = _
    rw [if_neg (by omega), if_pos hc]
theorem SpS.done (h : SpS s T k hr sb W w1 G J a e wr) (ha : s.size < a) : J (w1.heap.size - W.heap.size) (spansL s.data.toList T k) wr := by
  obtain ⟨pre, f, h1, h2, h3⟩ := h.list
  cases f with
  | zero => omega
  | succ f =>
    have : spansL s.data.toList T k = pre := by
      rw [h1]
      show pre ++ (if s.size < a then [] else _) = _
      rw [if_pos ha, List.append_nil]
    rw [this]
    exact h3
theorem SpS.take {b : Nat} (h : SpS s T k hr sb W w1 G J a e wr) (ha : a ≤ s.size) (hb : farG s.data.toList T a = (b : Int)) (hab : a ≤ b) (hne : ¬ (b = a ∧ e = a)) :
    ∃ pre, J (w1.heap.size - W.heap.size) pre wr ∧ (∃ rest, spansL s.data.toList T k = pre ++ (a, b) :: rest) ∧ ∀ W3, wr.heap.size ≤ W3.heap.size → W3.heap[hr]? = wr.heap[hr]? → W3.heap[sb]? = wr.heap[sb]? → J (w1.heap.size - W.heap.size) (pre ++ [(a, b)]) W3 → SpS s T k hr sb W w1 G J b (b : Int) W3 := by
  obtain ⟨pre, f, h1, h2, h3⟩ := h.list
  cases f with
  | zero => omega
  | succ f =>
    have e1 : spansL s.data.toList T k = pre ++ (a, b) :: goL (farG s.data.toList T) s.size f b (b : Int) := by
      rw [h1]
      show pre ++ (if s.size < a then [] else if farG s.data.toList T a = -1 ∨ (farG s.data.toList T a = a ∧ e = a) then _ else (a, (farG s.data.toList T a).toNat) :: goL (farG s.data.toList T) s.size f (farG s.data.toList T a).toNat (farG s.data.toList T a)) = _
      rw [if_neg (by omega), if_neg (by rw [hb]; exact fun hh => hh.elim (fun h => by omega) (fun h => hne ⟨by omega, h.2⟩)), hb, Int.toNat_natCast]
    refine ⟨pre, h3, ⟨_, e1⟩, fun W3 g1 g2 g3 g4 => ⟨g2.trans h.row, g3.trans h.str, Nat.le_trans h.size g1, by have := h.at_; omega, pre ++ [(a, b)], f, ?_, by have := muL_take s.size a b e ha hab hne; omega, g4⟩⟩
    rw [e1, List.append_assoc]
    rfl
end
set_option maxHeartbeats 8000000 in
set_option maxRecDepth 20000 in
theorem spans1 (tb sb fb b o cap k : Nat) (T : Tr) (ts : List Nd) (s : ByteArray) (W : World) (hts : ts = T.row 0) (hok : T.ok) (hsz : ts.length ≤ 2000) (hs : s.size ≤ 1000000) (hL : Lies (.slice (some ⟨b, o, none⟩) ts.length cap) ts W)
    (htb : W.heap[tb]? = some (.cells #[.slice (some ⟨b, o, none⟩) ts.length cap] 22 (0, 0))) (hsb : W.heap[sb]? = some (.cells #[.string s] 9 (0, 0))) (hfb : W.heap[fb]? = some (.cells #[.int .i64 (k : Int)] 3 (0, 0))) :
    SeqF Try.prog 99 #[.pointer (some ⟨tb, 0, none⟩), .pointer (some ⟨sb, 0, none⟩), .pointer (some ⟨fb, 0, none⟩)] encP (spansL s.data.toList T k) (fun j => j = sb) W := fun l J Jx hJ hJx hY h0 => by
  have hlen : s.data.toList.length = s.size := Array.length_toList
  have k1 := callsIn_wide (n := 0).2 (far_any b o cap T ts s k W hts hok hsz hs hL)
  have ct : W.cell? ⟨tb, 0, none⟩ = some (.slice (some ⟨b, o, none⟩) ts.length cap) := by rw [cell_of_heap htb]; rfl
  have cs : W.cell? ⟨sb, 0, none⟩ = some (.string s) := by rw [cell_of_heap hsb]; rfl
  have cf : W.cell? ⟨fb, 0, none⟩ = some (.int .i64 (k : Int)) := by rw [cell_of_heap hfb]; rfl
  have HY := Lib.hid hY
  have HJ := Lib.hid (And.intro hJ h0)
  have HB := Lib.hid (And.intro hsb (And.intro hfb (And.intro hlen hs)))
  clear hY hJ hJx h0 hts hok hsz hs hL htb hsb hfb hlen
  refine callsIn_of_wp Try.func99 rfl trivial ?_ rfl
  simp only [Try.ntmps99, List.size_toArray, List.length_cons, List.length_nil, Nat.reduceAdd, Nat.reduceSub, Array.replicate_succ, Array.replicate_zero, List.push_toArray, List.append_toArray, List.nil_append, List.cons_append]
  gi_wp2_with (refine ⟨trivial, rfl, ?_⟩; gi_at_call 100; refine (k1).mono ?_; rintro e w1 ⟨hr, G, rfl, hhr, hrow, hfar, hb1⟩
               have cf1 := cell_kept hb1 cf
               have H1 := Lib.hid (And.intro hhr (And.intro hrow (And.intro hfar hb1)))
               clear k1 ct cs cf hhr hrow hfar hb1)
  gi_loopw [6, 7] (fun v6 v7 wr => ∃ (a : Nat) (e : Int), v6 = .int .i64 e ∧ v7 = .int .i64 a ∧ Hid (SpS s T k hr sb W w1 G J a e wr))
    (fun v6 v7 _ => muL s.size (RowKit.intOf v7).toNat (RowKit.intOf v6))
  case atStart =>
    obtain ⟨hhr, hrow, hfar, hb1⟩ := H1.out
    obtain ⟨hsb, hfb, hlen, hs⟩ := HB.out
    refine ⟨k, -1, rfl, rfl, ⟨hrow, (hb1.block _ (block_lt hsb)).trans hsb, Nat.le_refl _, Nat.le_refl _, [], 2 * (s.size + 1 - k) + 2, (by unfold spansL; rw [hlen]; rfl), ?_, ?_⟩⟩
    · unfold muL; split <;> omega
    · exact (HJ.out.1 _).grow (HJ.out.2 _) (grown_of_below hb1 none)
  case round =>
    obtain ⟨a, e, rfl, rfl, HS⟩ := hrel
    have cs : wr.cell? ⟨sb, 0, none⟩ = some (.string s) := by rw [cell_of_heap HS.out.str]; rfl
    obtain ⟨-, -, hlen, hs⟩ := HB.out
    obtain ⟨hhr, -, hfar, hb1⟩ := H1.out
    by_cases hlt : a ≤ s.size
    · have hka := HS.out.at_
      have hG := hfar.eq hka (by rw [hlen]; exact hlt)
      have cg : wr.cell? ⟨hr, a, none⟩ = some (.int .i64 (G a)) := by rw [cell_of_heap HS.out.row]; simpa using intC_get s.size G a hlt
      have a0 : (0 : Int) ≤ (a : Int) := by omega
      have a1 : (a : Int) ≤ (s.size : Int) := by omega
      have a2 : (a : Int) < (s.size : Int) + 1 := by omega
      have aw : IntKind.i64.wrap ((a : Int) + 1) = ((a + 1 : Nat) : Int) := by rw [IntWalk.i64_in _ (by omega)]; omega
      rw [hG] at cg
      rcases farG_cases s.data.toList T a with hc | ⟨b, hc, hab, hbn, -⟩
      · rw [hc] at cg
        have f1 : ((-1 : Int) == (a : Int)) = false := beq_eq_false_iff_ne.2 (by omega)
        have HN := Lib.hid (HS.out.skip hlt (.inl hc))
        have HM := Lib.hid (muL_next s.size a e hlt)
        clear hG hc hfar hlen hs hka hb1 hhr
        gi_wp2
        go_roundw
        case rel => exact ⟨a + 1, e, rfl, by go_num, HN.out⟩
        case measure => simpa [RowKit.intOf] using HM.out
      · rw [hc] at cg
        by_cases hag : b = a ∧ e = a
        · obtain ⟨rfl, rfl⟩ := hag
          have f1 : ((b : Int) == -1) = false := beq_eq_false_iff_ne.2 (by omega)
          have HN := Lib.hid (HS.out.skip hlt (.inr ⟨hc, rfl⟩))
          have HM := Lib.hid (muL_next s.size b (b : Int) hlt)
          clear hG hc hfar hlen hs hka hb1 hhr
          gi_wp2
          go_roundw
          case rel => exact ⟨b + 1, (b : Int), rfl, by go_num, HN.out⟩
          case measure => simpa [RowKit.intOf] using HM.out
        · obtain ⟨pre, hJp, hpre, hnext⟩ := HS.out.take hlt hc hab hag
          have hwz := HS.out.size
          have hw1 := hb1.size
          have hrl := block_lt H1.out.2.1
          obtain ⟨fn, tmps, assign, body, hy, hR⟩ := HY.out (w1.heap.size - W.heap.size) pre (a, b) wr (by omega) hJp hpre
          dsimp only [encP] at hy
          have f1 : ((b : Int) == -1) = false := beq_eq_false_iff_ne.2 (by omega)
          have HN := Lib.hid (And.intro hnext (And.intro (muL_take s.size a b e hlt hab hag) (And.intro hhr (And.intro hw1 hrl))))
          clear hG hc hfar hlen hs hka hb1 hhr hnext hJp hpre hwz hw1 hrl
          by_cases hba : b = a
          · have f2 : ((b : Int) == (a : Int)) = true := by simp; omega
            have f3 : (e == (a : Int)) = false := beq_eq_false_iff_ne.2 (fun h => hag ⟨hba, h⟩)
            clear hba hag
            gi_wp2
            refine ⟨rfl, hR.mono ?_⟩
            clear hy hR
            rintro en W3 ⟨hs3, hk3, ⟨rfl, hJ3⟩ | ⟨rfl, hJx3⟩⟩
            · have HJ3 := Lib.hid (And.intro hs3 (And.intro hk3 hJ3))
              clear hs3 hk3 hJ3
              gi_wp2
              go_roundw
              case rel => exact ⟨b, (b : Int), rfl, rfl, HN.out.1 W3 HJ3.out.1 (HJ3.out.2.1 hr (.inr (by have := HN.out.2.2; omega))) (HJ3.out.2.1 sb (.inl rfl)) HJ3.out.2.2⟩
              case measure => simpa [RowKit.intOf] using HN.out.2.1
            · have HX := Lib.hid hJx3
              clear hJx3
              gi_wp2
              refine bodyPost_ret (results_none rfl _ _ _) rfl ?_
              exact ⟨⟨_, rfl⟩, _, .inr ⟨_, HX.out⟩⟩
          · have f2 : ((b : Int) == (a : Int)) = false := beq_eq_false_iff_ne.2 (by omega)
            clear hba hag
            gi_wp2
            refine ⟨rfl, hR.mono ?_⟩
            clear hy hR
            rintro en W3 ⟨hs3, hk3, ⟨rfl, hJ3⟩ | ⟨rfl, hJx3⟩⟩
            · have HJ3 := Lib.hid (And.intro hs3 (And.intro hk3 hJ3))
              clear hs3 hk3 hJ3
              gi_wp2
              go_roundw
              case rel => exact ⟨b, (b : Int), rfl, rfl, HN.out.1 W3 HJ3.out.1 (HJ3.out.2.1 hr (.inr (by have := HN.out.2.2; omega))) (HJ3.out.2.1 sb (.inl rfl)) HJ3.out.2.2⟩
              case measure => simpa [RowKit.intOf] using HN.out.2.1
            · have HX := Lib.hid hJx3
              clear hJx3
              gi_wp2
              refine bodyPost_ret (results_none rfl _ _ _) rfl ?_
              exact ⟨⟨_, rfl⟩, _, .inr ⟨_, HX.out⟩⟩
    · gi_wp2
      go_end0
      exact ⟨⟨_, rfl⟩, _, .inl (HS.out.done (by omega))⟩
end Go.Proofs.Ytgffmbdbjbhocaa
namespace Go.Proofs.Ytgffmbdbjbhocaa
open Go.RowKit Go.Lib
attribute [local go_sem] Oper.semAt_some

set_option maxHeartbeats 1000000 in
theorem spans_make (v : Value) (s : ByteArray) (k : Int) (w : World) (hv : ∃ ao n c, v = .slice ao n c) :
    Calls Try.prog 74 #[v, .string s, .int .i64 k] w fun e w' => e = .returned (.func (.func 99) #[] #[.pointer (some ⟨w.heap.size, 0, none⟩), .pointer (some ⟨w.heap.size + 1, 0, none⟩), .pointer (some ⟨w.heap.size + 1 + 1, 0, none⟩)]) ∧
      w' = ((w.alloc (.cells #[v] 22)).alloc (.cells #[.string s] 9)).alloc (.cells #[.int .i64 k] 3) := by
  obtain ⟨ao, n, c, rfl⟩ := hv
  have hmf : ∀ (fn : Fn) (first cap : Array Value) (w : World), (Instr.makeFunc fn first cap).run Try.prog w = .ok (.func fn first cap) w := fun _ _ _ _ => rfl
  go_enter Try.func74, Try.ntmps74
  go_wp2
  go_ret
  exact ⟨rfl, rfl⟩
/-- Three named results. -/
structure R3 (h : Nat) (w : World) (x y : Int) (t : Bool) (Z : World) : Prop where
  c0 : Z.heap[h]? = some (.cells #[.int .i64 x] 3 (0, 0))
  c1 : Z.heap[h + 1]? = some (.cells #[.int .i64 y] 3 (0, 0))
  c2 : Z.heap[h + 2]? = some (.cells #[.bool t] 4 (0, 0))
  low : Below h w Z
theorem R3.grown {h : Nat} {w A B : World} {x y : Int} {t : Bool} {row : Option Nat} {D : Nat} (r : R3 h w x y t A) (hD : h + 3 ≤ D) (hg : A.grownBy B row) (hr : ∀ q, row = some q → D ≤ q) : R3 h w x y t B := by
  have e : ∀ {j : Nat} {o : Obj}, A.heap[j]? = some o → j < D → B.heap[j]? = some o := fun {j o} hj hl => (hg.block j (block_lt hj) (fun e => by have := hr j e.symm; omega)).trans hj
  exact ⟨e r.c0 (by omega), e r.c1 (by omega), e r.c2 (by omega), r.low.grown hg (by have := block_lt r.c0; omega) (fun q hq => by have := hr q hq; omega)⟩
theorem R3.set {h : Nat} {w Z : World} {x y : Int} {t : Bool} (r : R3 h w x y t Z) (x' y' : Int) (t' : Bool) : R3 h w x' y' t' (((Z.setCell ⟨h, 0, none⟩ (.int .i64 x')).setCell ⟨h + 1, 0, none⟩ (.int .i64 y')).setCell ⟨h + 2, 0, none⟩ (.bool t')) := by
  refine ⟨?_, ?_, ?_, ((r.low.setCell (p := ⟨h, 0, none⟩) (Nat.le_refl _) _).setCell (p := ⟨h + 1, 0, none⟩) (by dsimp only; omega) _).setCell (p := ⟨h + 2, 0, none⟩) (by dsimp only; omega) _⟩
  · refine (Below.heap_setCell _ _ _ _ (by dsimp only; omega)).trans ((Below.heap_setCell _ _ _ _ (by dsimp only; omega)).trans ?_)
    simpa using heap_setCell_same Z h 0 _ _ (Value.int .i64 x') r.c0
  · refine (Below.heap_setCell _ _ _ _ (by dsimp only; omega)).trans ?_
    simpa using heap_setCell_same _ (h + 1) 0 _ _ (Value.int .i64 y') ((Below.heap_setCell _ _ _ _ (by dsimp only; omega)).trans r.c1)
  · simpa using heap_setCell_same _ (h + 2) 0 _ _ (Value.bool t') ((Below.heap_setCell _ _ _ _ (by dsimp only; omega)).trans ((Below.heap_setCell _ _ _ _ (by dsimp only; omega)).trans r.c2))
theorem lies_ptr {v : Value} {ts : List Nd} {w : World} {T : Tr} (hts : ts = T.row 0) (hL : Lies v ts w) : ∃ b o cap, v = .slice (some ⟨b, o, none⟩) ts.length cap := by
  obtain ⟨ao, cap, rfl, _, hq⟩ := hL
  obtain ⟨b, o, rfl, _, _⟩ := hq 0 _ (List.getElem?_eq_getElem (by rw [hts, Tr.row_length]; exact T.size_pos))
  exact ⟨b, o, cap, rfl⟩
end Go.Proofs.Ytgffmbdbjbhocaa
namespace Go.Proofs.Ytgffmbdbjbhocaa
open Go.RowKit Go.Lib
attribute [local go_sem] Oper.semAt_some

theorem Try.infoTwo : (Try.prog.info? 41).map (fun i => (i.zero, i.size, i.bytes)) = some (some (.agg #[.int .i64 0, .int .i64 0]), 2, 16) := by kernel_rfl
def pairC (l : List (Nat × Nat)) : List Value := l.flatMap fun x => [.int .i64 (x.1 : Int), .int .i64 (x.2 : Int)]
theorem pairC_snoc (l : List (Nat × Nat)) (x : Nat × Nat) : pairC (l ++ [x]) = pairC l ++ [.int .i64 (x.1 : Int), .int .i64 (x.2 : Int)] := by unfold pairC; rw [List.flatMap_append]; rfl
theorem goL_length (G : Nat → Int) (n : Nat) : ∀ (f a : Nat) (e : Int), (goL G n f a e).length ≤ f
  | 0, _, _ => Nat.le_refl _
  | f + 1, a, e => by
    unfold goL
    split
    · exact Nat.zero_le _
    · split
      · exact Nat.le_succ_of_le (goL_length G n f _ _)
      · exact Nat.succ_le_succ (goL_length G n f _ _)
/-- The row of spans in the making. -/
structure RowS (h D c : Nat) (w : World) (pre : List (Nat × Nat)) (Z : World) : Prop where
  box : ∃ v, Z.heap[h]? = some (.cells #[v] 39 (0, 0)) ∧ Z.ownsRow (D + 2 + c) 41 2 v pre.length (pairC pre)
  low : Below h w Z
theorem RowS.grown {h D c : Nat} {w A B : World} {pre : List (Nat × Nat)} {row : Option Nat} (r : RowS h D c w pre A) (hD : h < D) (hg : A.grownBy B row) (hr : ∀ q, row = some q → D ≤ q ∧ ((q < D + 2 ∧ ∃ x t, A.heap[q]? = some (.cells #[x] t (0, 0))) ∨ ∃ o : Obj, A.heap[q]? = some o ∧ o.isCells = false)) : RowS h D c w pre B := by
  obtain ⟨v, h1, h2⟩ := r.box
  refine ⟨⟨v, (hg.block h (block_lt h1) (fun e => by have := (hr h e.symm).1; omega)).trans h1, owns_same h2 fun q hq => hg.block q (own_block_lt h2 hq) (fun e => ?_)⟩, r.low.grown hg (Nat.le_of_lt (block_lt h1)) (fun q hq => by have := (hr q hq).1; omega)⟩
  have hb := own_base h2 hq
  rcases (hr q e.symm).2 with ⟨hlt, _⟩ | ⟨o, ho, hc⟩
  · omega
  · rcases h2.2 with ⟨hv, _⟩ | ⟨g, cap, cur, hv, _, hgg, _⟩
    · rw [hv] at hq; cases hq
    · rw [hv] at hq
      cases hq
      rw [hgg] at ho
      cases ho
      cases hc
set_option maxHeartbeats 4000000 in
set_option maxRecDepth 100000 in
theorem spans_walk (b o cap : Nat) (T : Tr) (ts : List Nd) (s : ByteArray) (w : World) (hts : ts = T.row 0) (hok : T.ok) (hsz : ts.length ≤ 2000) (hs : s.size ≤ 1000000) (hL : Lies (.slice (some ⟨b, o, none⟩) ts.length cap) ts w) :
    CallsIn Fence.wide 0 Try.prog 29 #[.slice (some ⟨b, o, none⟩) ts.length cap, .string s] w fun e w' => ∃ v, e = .returned v ∧ w'.ownsRow w.heap.size 41 2 v (spansL s.data.toList T 0).length (pairC (spansL s.data.toList T 0)) ∧ Below w.heap.size w w' := by
  have k1 := fun w => callsIn_wide (n := 0).2 (spans_make (.slice (some ⟨b, o, none⟩) ts.length cap) s 0 w ⟨_, _, _, rfl⟩)
  have hLn : (spansL s.data.toList T 0).length ≤ 2000010 := by
    have := goL_length (farG s.data.toList T) s.data.toList.length (2 * (s.data.toList.length + 1 - 0) + 2) 0 (-1)
    have e : s.data.toList.length = s.size := Array.length_toList
    unfold spansL
    omega
  have H := Lib.hid (And.intro hts (And.intro hok (And.intro hsz (And.intro hs (And.intro hL hLn)))))
  clear hts hok hsz hs hL hLn
  obtain ⟨i0, hi, hz0, hz1, hz2⟩ := info_parts Try.infoTwo
  have HI0 := Lib.hid (And.intro hi (And.intro hz0 (And.intro hz1 hz2)))
  clear hi hz0 hz1 hz2
  refine callsIn_of_wp_marks Try.func29 rfl trivial ?_ rfl
  simp only [Try.ntmps29, List.size_toArray, List.length_cons, List.length_nil, Nat.reduceAdd, Nat.reduceSub, Array.replicate_succ, Array.replicate_zero, List.push_toArray, List.append_toArray, List.nil_append, List.cons_append]
  gi_wp2_with (first
    | (refine ⟨trivial, rfl, ?_⟩; gi_at_call 74; refine (k1 _).mono ?_; rintro e w2 ⟨rfl, rfl⟩)
    | fail)
  obtain ⟨h, hh⟩ : ∃ h, h = w.heap.size := ⟨_, rfl⟩
  rw [← hh]
  obtain ⟨V, hV⟩ : ∃ V, V = (((w.alloc (.cells #[.slice none 0 0] 39)).alloc (.cells #[.slice (some ⟨b, o, none⟩) ts.length cap] 22)).alloc (.cells #[.string s] 9)).alloc (.cells #[.int .i64 0] 3) := ⟨_, rfl⟩
  rw [← hV]
  have z1 : (w.alloc (.cells #[.slice none 0 0] 39)).heap.size = h + 1 := by rw [hh]; simp
  have z4 : ((w.alloc (.cells #[.slice none 0 0] 39)).alloc (.cells #[.slice (some ⟨b, o, none⟩) ts.length cap] 22)).heap.size = h + 2 := by rw [hh]; simp
  have z5 : (((w.alloc (.cells #[.slice none 0 0] 39)).alloc (.cells #[.slice (some ⟨b, o, none⟩) ts.length cap] 22)).alloc (.cells #[.string s] 9)).heap.size = h + 3 := by rw [hh]; simp
  have z6 : V.heap.size = h + 4 := by rw [hV, hh]; simp
  have v5 : V.heap[h + 3]? = some (.cells #[.int .i64 ((0 : Nat) : Int)] 3 (0, 0)) := by rw [hV, ← z5]; exact heap_alloc_new _ _
  have v4 : V.heap[h + 2]? = some (.cells #[.string s] 9 (0, 0)) := by rw [hV]; refine (Below.heap_alloc _ _ _ (by rw [z5]; omega)).trans ?_; rw [← z4]; exact heap_alloc_new _ _
  have v3 : V.heap[h + 1]? = some (.cells #[.slice (some ⟨b, o, none⟩) ts.length cap] 22 (0, 0)) := by rw [hV]; refine (Below.heap_alloc _ _ _ (by rw [z5]; omega)).trans ((Below.heap_alloc _ _ _ (by rw [z4]; omega)).trans ?_); rw [← z1]; exact heap_alloc_new _ _
  have v0 : V.heap[h]? = some (.cells #[.slice none 0 0] 39 (0, 0)) := by rw [hV]; refine (Below.heap_alloc _ _ _ (by rw [z5]; omega)).trans ((Below.heap_alloc _ _ _ (by rw [z4]; omega)).trans ((Below.heap_alloc _ _ _ (by rw [z1]; omega)).trans ?_)); rw [hh]; exact heap_alloc_new _ _
  have vB : Below h w V := by rw [hV, hh]; exact ((((Below.refl _ w).alloc (Nat.le_refl _) _).alloc (by simp) _).alloc (by simp; omega) _).alloc (by simp; omega) _
  have hLV := H.out.2.2.2.2.1.below (w' := V) (by rw [← hh]; exact vB)
  have HV := Lib.hid (And.intro v5 (And.intro v4 (And.intro v3 (And.intro hLV (And.intro v0 vB)))))
  have HH := Lib.hid hh
  clear hV z1 z4 z5 v5 v4 v3 v0 vB hLV k1 hh
  refine wp_rangeF (gf := 99) (lb := #[.pointer (some ⟨h + 1, 0, none⟩), .pointer (some ⟨h + 2, 0, none⟩), .pointer (some ⟨h + 3, 0, none⟩)]) (encs := encP) (L := spansL s.data.toList T 0) (K := fun j => j = h + 2) rfl (enters_of Try.func99 (by kernel_rfl) rfl) (fun _ => rfl)
    (fun Z hz ho => by
      obtain ⟨hts, hok, hsz, hs, _⟩ := H.out
      exact spans1 (h + 1) (h + 2) (h + 3) b o cap 0 T ts s Z hts hok hsz hs (by
        obtain ⟨ao, cp, e1, e2, e3⟩ := HV.out.2.2.2.1
        refine ⟨ao, cp, e1, e2, fun j n hj => ?_⟩
        obtain ⟨b', o', g1, g2, g3⟩ := e3 j n hj
        refine ⟨b', o', g1, by omega, ?_⟩
        have e : ∀ i, Z.cell? ⟨b', i, none⟩ = V.cell? ⟨b', i, none⟩ := fun i => by unfold World.cell?; rw [ho b' g2]
        unfold NdAt at g3 ⊢
        rw [e, e, e, e, e, e, e]
        exact g3) ((ho _ (by omega)).trans HV.out.2.2.1) ((ho _ (by omega)).trans HV.out.2.1) ((ho _ (by omega)).trans HV.out.1)) (fun j hj => by omega)
    (fun c pre Z => RowS h V.heap.size c w pre Z) (fun _ _ _ => False)
    (fun c pre A B row hs hg hr => hs.grown (by omega) hg hr)
    (fun _ _ _ _ _ hs _ _ => hs.elim)
    (fun c => ⟨⟨_, HV.out.2.2.2.2.1, World.ownsRow_nil _ _ _ _⟩, HV.out.2.2.2.2.2⟩)
    (fun x => { tmps := #[.slice (some ⟨b, o, none⟩) ts.length cap, .string s, undef, undef, .slice none 0 0, .pointer (some ⟨h, 0, none⟩), .int .i64 (x.1 : Int), .int .i64 (x.2 : Int),
      .slice (some ⟨b, o, none⟩) ts.length cap, .string s, .func (.func 99) #[] #[.pointer (some ⟨h + 1, 0, none⟩), .pointer (some ⟨h + 1 + 1, 0, none⟩), .pointer (some ⟨h + 1 + 1 + 1, 0, none⟩)], .int .i64 (x.1 : Int), .int .i64 (x.2 : Int), undef, undef, undef, undef, undef, undef, undef], defers := [] })
    ?assign ?body ?done ?stop
  case assign =>
    intro l2 x Z kk hK
    gi_wp2
    exact hK
  case body =>
    rintro l2 c pre x Z hsz hR ⟨rest, hpre⟩
    obtain ⟨v, hbox, hown⟩ := hR.box
    have hlow := hR.low
    have cb : Z.cell? ⟨h, 0, none⟩ = some v := by rw [cell_of_heap hbox]; rfl
    have n0 := World.new_ne Z ⟨h, 0, none⟩ cb
    have hm : pre.length + 1 ≤ 2000010 := by have := H.out.2.2.2.2.2; rw [hpre, List.length_append, List.length_cons] at this; omega
    have hZ := Lib.hid hbox
    have HOWN := Lib.hid hown
    have HLOW := Lib.hid hlow
    obtain ⟨m, hmm⟩ : ∃ m, m = pre.length := ⟨_, rfl⟩
    rw [← hmm] at HOWN hm
    have HM := Lib.hid hmm
    have hzs := block_lt hbox
    clear hR hpre hbox hown hlow hmm
    gi_wp2_with (first
      | (refine wpListIn_append_own _ rfl (.tmp 13) (.tmp 17) 39 rfl (V.heap.size + 2 + c) 41 i0 (.agg #[.int .i64 0, .int .i64 0]) 2 16 Try.underlying39 HI0.out.1 HI0.out.2.1 HI0.out.2.2.1 HI0.out.2.2.2 rfl (by decide) v m (pairC pre) rfl (owns_alloc HOWN.out) ⟨Z.heap.size, 0, none⟩ 1 1 [.int .i64 (x.1 : Int), .int .i64 (x.2 : Int)] rfl rfl (cells_twoM _ _ rfl _ _ _) (by simp [Value.oneCell']) (by unfold maxLen; omega) (by omega) (by simp; omega) ?_; intro v5 w5 hown5 hgrow5 _
         have hb5 : w5.heap[h]? = some (.cells #[v] 39 (0, 0)) := (hgrow5.block h (by simp; omega) (fun e => by have := own_base HOWN.out e.symm; omega)).trans ((Below.heap_alloc _ _ _ hzs).trans hZ.out)
         have cb5 : w5.cell? ⟨h, 0, none⟩ = some v := by rw [cell_of_heap hb5]; rfl
         have fb5 : w5.frozen? ⟨h, 0, none⟩ = false := frozen_of_heap hb5 0
         obtain ⟨g5, cap5, rfl⟩ := owned_slice hown5 (by omega)
         have H5 := Lib.hid (And.intro hown5 (And.intro hgrow5 hb5))
         clear hown5 hgrow5 hb5 cb n0)
      | fail)
    obtain ⟨hown5, hgrow5, hb5⟩ := H5.out
    have hz5 := hgrow5.size
    rw [World.size_alloc] at hz5
    refine ⟨by simp [World.setCell]; omega, fun j hj => ?_, ⟨⟨_, by simpa using heap_setCell_same w5 h 0 _ _ (Value.slice (some ⟨g5, 0, none⟩) (m + 1) cap5) hb5, ?_⟩, ?_⟩⟩
    · refine (Below.heap_setCell _ _ _ _ (by dsimp only; omega)).trans ((hgrow5.block j (by simp; omega) (fun e => by have := own_base HOWN.out e.symm; omega)).trans (Below.heap_alloc _ _ _ (by omega)))
    · have e : (pre ++ [x]).length = m + 1 := by rw [List.length_append, HM.out]; rfl
      rw [e, pairC_snoc]
      exact owns_same hown5 fun q hq => Below.heap_setCell _ _ _ _ (by have := own_base hown5 hq; dsimp only; omega)
    · exact ((HLOW.out.alloc (by omega) _).grown hgrow5 (by simp; omega) (fun q hq => by have := own_base HOWN.out hq; omega)).setCell (p := ⟨h, 0, none⟩) (Nat.le_refl _) _
  case done =>
    rintro c Z hR hK
    obtain ⟨v, hbox, hown⟩ := hR.box
    have hlow := hR.low
    have cb : Z.cell? ⟨h, 0, none⟩ = some v := by rw [cell_of_heap hbox]; rfl
    have HK := Lib.hid (And.intro hK (And.intro hown (And.intro hlow (block_lt hbox))))
    clear hR hbox hown hlow hK
    gi_wp2
    refine ⟨by simp, .inl ⟨_, _, rfl, run_takeDeferred HK.out.1, ?_⟩⟩
    obtain ⟨hK, hown, hlow, hz⟩ := HK.out
    refine ⟨_, results_tmp rfl _ _ _, _, rfl, ?_, ?_⟩
    · rw [← HH.out]
      refine owns_baseM (owns_same hown fun q hq => World.putObj_heap_other ?_) (by omega)
      rintro rfl
      rcases hown.2 with ⟨hv, _⟩ | ⟨g, cap, cur, hv, _, hgg, _⟩
      · rw [hv] at hq; cases hq
      · rw [hv] at hq
        cases hq
        have e := hgg.symm.trans hK
        cases e
    · rw [← HH.out]
      exact hlow.grown (putObj_grown _ _ _) (by omega) (fun k e => by cases e; omega)
  case stop =>
    rintro c pre Z hF hK
    exact hF.elim
/-- Package match's Spans, of a tree's row. -/
theorem spans_any (v : Value) (T : Tr) (ts : List Nd) (s : ByteArray) (w : World) (hts : ts = T.row 0) (hok : T.ok) (hsz : ts.length ≤ 2000) (hs : s.size ≤ 1000000) (hL : Lies v ts w) :
    Calls Try.prog 29 #[v, .string s] w fun e w' => ∃ v', e = .returned v' ∧ w'.ownsRow w.heap.size 41 2 v' (spansL s.data.toList T 0).length (pairC (spansL s.data.toList T 0)) ∧ Below w.heap.size w w' := by
  obtain ⟨b, o, cap, rfl⟩ := lies_ptr hts hL
  exact callsIn_wide.1 (spans_walk b o cap T ts s w hts hok hsz hs hL)
end Go.Proofs.Ytgffmbdbjbhocaa
namespace Go.Proofs.Ytgffmbdbjbhocaa
open Go.RowKit Go.Lib

theorem goL_end {G : Nat → Int} {n f a : Nat} {e : Int} (h : n < a) : goL G n (f + 1) a e = [] := by
  show (if n < a then [] else _) = _
  rw [if_pos h]
theorem goL_skip {G : Nat → Int} {n f a : Nat} {e : Int} (h : a ≤ n) (hc : G a = -1 ∨ (G a = a ∧ e = a)) : goL G n (f + 1) a e = goL G n f (a + 1) e := by
  show (if n < a then [] else if G a = -1 ∨ (G a = a ∧ e = a) then goL G n f (a + 1) e else _) = _
  rw [if_neg (by omega), if_pos hc]
theorem goL_take {G : Nat → Int} {n f a b : Nat} {e : Int} (h : a ≤ n) (hG : G a = (b : Int)) (hne : ¬ (b = a ∧ e = a)) : goL G n (f + 1) a e = (a, b) :: goL G n f b (b : Int) := by
  show (if n < a then [] else if G a = -1 ∨ (G a = a ∧ e = a) then _ else (a, (G a).toNat) :: goL G n f (G a).toNat (G a)) = _
  rw [if_neg (by omega), if_neg (by rw [hG]; exact fun hh => hh.elim (fun h => by omega) (fun h => hne ⟨by omega, h.2⟩)), hG, Int.toNat_natCast]
theorem inSet_one {s : List UInt8} {n p : Nat} {c : UInt8} (h : s[p]? = some c) : inSet s (k4 (oneK n)) p = (decide (c.toNat = n)) := by
  unfold inSet
  rw [h]
  dsimp only
  rw [has_k4 _ c.toNat_lt, has_one]
end Go.Proofs.Ytgffmbdbjbhocaa
