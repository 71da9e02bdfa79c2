/- Packed texts: MaRange. What each of them proves stands above its theorems; the conditions stand in these. -/
import Derived.Test.YtkgpnlldlekcbaaM4
namespace Go.Proofs.Ytkgpnlldlekcbaa
open Go.RowKit

/-- WHAT AN ITERATOR DOES, called at W: it hands the elements of L to yield, one behind the other, till a round says 'no more'. It lays c blocks of its own ahead of the first round, whatever c is; the rounds keep these, and those of K. -/
def SeqF {α : Type} (P : Program) (g : Nat) (lb : Array Value) (encs : α → Array Value) (L : List α) (K : Nat → Prop) (W : World) : Prop :=
  ∀ (l : Nat) (J Jx : Nat → List α → World → Prop), (∀ c, OwnC W.heap.size 0 (J c)) → (∀ c, OwnC W.heap.size 0 (Jx c)) →
    (∀ c pre x W1, W.heap.size + c ≤ W1.heap.size → J c pre W1 → (∃ rest, L = pre ++ x :: rest) → YieldAt Fence.wide 0 P l (encs x) W1 fun e W' =>
      W1.heap.size ≤ W'.heap.size ∧ Same (fun j => K j ∨ (W.heap.size ≤ j ∧ j < W.heap.size + c)) W1 W' ∧
        ((e = .returned (.bool true) ∧ J c (pre ++ [x]) W') ∨ (e = .returned (.bool false) ∧ Jx c (pre ++ [x]) W'))) →
    (∀ c, J c [] W) →
    CallsIn Fence.wide 0 P g (#[.func (.yield l) #[] #[]] ++ lb) W fun e W' => (∃ v, e = .returned v) ∧ ∃ c, J c L W' ∨ (∃ pre, Jx c pre W')

/-- How a round's body may be left: off its end, or by a return. -/
def postF {α : Type} (B c : Nat) (K : Nat → Prop) (I : List α → World → Prop) (Ix : List α → World → Prop) (xs : List α) (W : World) : Exit → Act → World → Prop
  | .normal, _, W' => W.heap.size ≤ W'.heap.size ∧ Same (fun j => K j ∨ (B ≤ j ∧ j < B + 2 + c)) W W' ∧ I xs W'
  | .ret, _, W' => W.heap.size ≤ W'.heap.size ∧ Same (fun j => K j ∨ (B ≤ j ∧ j < B + 2 + c)) W W' ∧ Ix xs W'
  | _, _, _ => False

/-- THE LOOP. -/
theorem wp_rangeF {α : Type} {P : Program} {g : Operand} {ps : Array Tmp} {assign body : Code} {Q : Exit → Act → World → Prop} {a : Act} {w : World} {gf : Nat} {lb : Array Value}
    (hg : a.eval g = .func (.func gf) #[] lb) (eg : ∀ args w, (callFunc gf args).run P w = .ok (.enter gf args) w) {encs : α → Array Value} {L : List α} {K : Nat → Prop} (hps : ∀ x, (encs x).size = ps.size)
    (hseq : ∀ W, W.heap.size = w.heap.size + 2 → (∀ j, j < w.heap.size → W.heap[j]? = w.heap[j]?) → SeqF P gf lb encs L K W) (hK : ∀ j, K j → j ≠ w.heap.size + 1)
    (I Ix : Nat → List α → World → Prop) (hI : ∀ c, OwnC w.heap.size 2 (I c)) (hIx : ∀ c, OwnC w.heap.size 2 (Ix c)) (h0 : ∀ c, I c [] w) (a₁ : α → Act)
    (hassign : ∀ (l : Nat) (x : α) (W : World) (k : Act → World → Prop), k (a₁ x) W →
      assign.wpIn (Fence.wide.inRound l) 0 P (Exit.then k (fun _ _ _ => False)) { tmps := (ps.zip (encs x)).foldl (fun t (p, v) => t.setIfInBounds p v) a.tmps, defers := [] } W)
    (hbody : ∀ (l c : Nat) (pre : List α) (x : α) (W : World), w.heap.size + 2 + c ≤ W.heap.size → I c pre W → (∃ rest, L = pre ++ x :: rest) → body.wpIn (Fence.wide.inRound l) 0 P (postF w.heap.size c K (I c) (Ix c) (pre ++ [x]) W) (a₁ x) W)
    (hdone : ∀ (c : Nat) (W : World), I c L W → W.heap[w.heap.size]? = some (.deferred (some [])) → Q .normal { a with defers := { target := .collected w.heap.size, args := #[] } :: a.defers } W)
    (hstop : ∀ (c : Nat) (pre : List α) (W : World), Ix c pre W → W.heap[w.heap.size]? = some (.deferred (some [])) → Code.ret.wpIn Fence.wide 0 P Q { a with defers := { target := .collected w.heap.size, args := #[] } :: a.defers } W) :
    (Code.rangeFunc g ps assign body).wpIn Fence.wide 0 P Q a w := by
  refine wpIn_rangeFunc fun fn hfn => ?_
  -- the two blocks of book-keeping: D for the rounds' deferred calls, D + 1 the record, in its states
  obtain ⟨D, hD⟩ : ∃ D, D = w.heap.size := ⟨_, rfl⟩
  rw [← hD] at hI hIx hK hbody hdone hstop hseq
  let st : LoopState → Option Code → Obj := fun s pe => .loop { state := s, pending := pe, fn, tmps := a.tmps, params := ps, assign, body, defers := D }
  obtain ⟨W1, hW1⟩ : ∃ W1, (w.alloc (.deferred (some []))).alloc (st .ready none) = W1 := ⟨_, rfl⟩
  have hz1 : W1.heap.size = D + 2 := by rw [← hW1, hD]; simp
  have hrec1 : W1.heap[D + 1]? = some (st .ready none) := by
    rw [← hW1, hD]
    have := World.alloc_heap_new (w.alloc (.deferred (some []))) (st .ready none)
    rwa [World.size_alloc] at this
  have hdef1 : W1.heap[D]? = some (.deferred (some [])) := by
    rw [← hW1, hD]
    exact (Below.heap_alloc _ _ _ (by simp)).trans (World.alloc_heap_new w _)
  have hold1 : ∀ j, j < D → W1.heap[j]? = w.heap[j]? := fun j hj => by
    rw [← hW1]
    exact (Below.heap_alloc _ _ _ (by simp; omega)).trans (Below.heap_alloc _ _ _ (by omega))
  have hI1 : ∀ c, I c [] W1 := fun c => by
    rw [← hW1]
    exact hI c _ _ _ none (hI c _ _ _ none (h0 c) (World.grownBy_alloc _ _ none) (fun _ e => by cases e)) (World.grownBy_alloc _ _ none) (fun _ e => by cases e)
  refine ⟨D + 1, [{ target := .collected D, args := #[] }], W1, { target := .fn (.func gf) lb, args := #[.func (.yield (D + 1)) #[] #[]] }, W1, gf, #[.func (.yield (D + 1)) #[] #[]] ++ lb, W1, ?_, ?_, fun _ _ => trivial, ?_, (fun h => by cases h), ?_⟩
  · subst hD; rw [← hW1]; exact run_enterLoop_outer _ _ _ _ _
  · simp only [resolve, hg]
    simp [go_sem]
  · simp [invoke, go_sem, eg]
  -- the record turns; what abides that goes on
  have turn : ∀ {Z : List α → World → Prop}, OwnC D 2 Z → ∀ {s : List α} {W : World} {o : Obj} (o' : Obj), Z s W → W.heap[D + 1]? = some o → o.isCells = false → Z s (W.putObj (D + 1) o') :=
    fun hZ _ _ _ o' hs ho hc => hZ _ _ _ (some (D + 1)) hs (putObj_grown _ _ _) (fun r e => by cases e; exact ⟨by omega, .inr ⟨_, ho, hc⟩⟩)
  have stay : ∀ {W W' : World} {row : Option Nat} {o : Obj} {j : Nat}, j < D + 2 → W.grownBy W' row → (∀ r, row = some r → W1.heap.size ≤ r ∧ ((r < W1.heap.size + 0 ∧ ∃ x t, W.heap[r]? = some (.cells #[x] t (0, 0))) ∨ ∃ o : Obj, W.heap[r]? = some o ∧ o.isCells = false)) → W.heap[j]? = some o → W'.heap[j]? = some o :=
    fun {W W' row o j} hj hgr hr ho => (hgr.block j (Array.getElem?_eq_some_iff.1 ho).1 (fun e => by have := (hr j e.symm).1; omega)).trans ho
  have low : ∀ {W : World} {row : Option Nat}, (∀ r, row = some r → W1.heap.size ≤ r ∧ ((r < W1.heap.size + 0 ∧ ∃ x t, W.heap[r]? = some (.cells #[x] t (0, 0))) ∨ ∃ o : Obj, W.heap[r]? = some o ∧ o.isCells = false)) → (∀ r, row = some r → D ≤ r ∧ ((r < D + 2 ∧ ∃ x t, W.heap[r]? = some (.cells #[x] t (0, 0))) ∨ ∃ o : Obj, W.heap[r]? = some o ∧ o.isCells = false)) :=
    fun hr r e => ⟨by have := (hr r e).1; omega, (hr r e).2.elim (fun h => .inl ⟨by omega, h.2⟩) .inr⟩
  refine (hseq W1 hz1 hold1 (D + 1)
    (fun c pre W => I c pre W ∧ W.heap[D + 1]? = some (st .ready none) ∧ W.heap[D]? = some (.deferred (some [])))
    (fun c pre W => Ix c pre W ∧ W.heap[D + 1]? = some (st .done (some .ret)) ∧ W.heap[D]? = some (.deferred (some [])))
    (fun c s A B row hs hgr hr => ⟨hI c s A B row hs.1 hgr (low hr), stay (by omega) hgr hr hs.2.1, stay (by omega) hgr hr hs.2.2⟩)
    (fun c s A B row hs hgr hr => ⟨hIx c s A B row hs.1 hgr (low hr), stay (by omega) hgr hr hs.2.1, stay (by omega) hgr hr hs.2.2⟩)
    ?_ (fun c => ⟨hI1 c, hrec1, hdef1⟩)).mono ?_
  · -- one round
    rintro c pre x W hsz ⟨hi, hl, hk⟩ hlen
    have hlt : D + 1 < W.heap.size := (Array.getElem?_eq_some_iff.1 hl).1
    refine ⟨fn, _, assign, body, run_yield (args := encs x) hl (hps x), roundIn_of_wpIn hfn (hassign _ x W _ ⟨_, run_beginRound hl rfl, ?_⟩)⟩
    have hl2 : (W.putObj (D + 1) (st .busy none)).heap[D + 1]? = some (st .busy none) := World.putObj_heap_same hlt
    have hk2 : (W.putObj (D + 1) (st .busy none)).heap[D]? = some (.deferred (some [])) := (World.putObj_heap_other (by omega)).trans hk
    refine wpIn_mono (hbody _ c pre x _ (by simp; omega) (turn (hI c) _ hi hl rfl) hlen) ?_
    have other : ∀ {j : Nat} (o : Obj) (V : World), K j ∨ (W1.heap.size ≤ j ∧ j < W1.heap.size + c) → (V.putObj (D + 1) o).heap[j]? = V.heap[j]? := fun {j} o V hj =>
      World.putObj_heap_other (hj.elim (hK j) (fun h => by omega))
    rintro e a3 W3 hp
    cases e with
    | normal =>
      obtain ⟨hs3, hk3, hi3⟩ := hp
      have hl3 := (hk3 (D + 1) (.inr (by omega))).trans hl2
      have hd3 := (hk3 D (.inr (by omega))).trans hk2
      refine ⟨_, _, run_endRound none hl3, by simpa using hs3, fun j hj => ?_, .inl ⟨rfl, turn (hI c) _ hi3 hl3 rfl, World.putObj_heap_same (Array.getElem?_eq_some_iff.1 hl3).1, (World.putObj_heap_other (by omega)).trans hd3⟩⟩
      rw [other _ _ hj, hk3 j (hj.elim .inl (fun h => .inr (by omega))), other _ _ hj]
    | ret =>
      obtain ⟨hs3, hk3, hi3⟩ := hp
      have hl3 := (hk3 (D + 1) (.inr (by omega))).trans hl2
      have hd3 := (hk3 D (.inr (by omega))).trans hk2
      refine ⟨_, _, run_endRound (some .ret) hl3, by simpa using hs3, fun j hj => ?_, .inr ⟨rfl, turn (hIx c) _ hi3 hl3 rfl, World.putObj_heap_same (Array.getElem?_eq_some_iff.1 hl3).1, (World.putObj_heap_other (by omega)).trans hd3⟩⟩
      rw [other _ _ hj, hk3 j (hj.elim .inl (fun h => .inr (by omega))), other _ _ hj]
    | exit id => exact hp.elim
    | goto t => exact hp.elim
    | panic ch => exact hp.elim
    | outgrown => exact hp.elim
  · -- behind the iterator
    rintro e W2 ⟨⟨v, rfl⟩, c, ⟨hi, hl, hk⟩ | ⟨pre, hi, hl, hk⟩⟩
    · exact ⟨none, _, run_endLoop hl (by simp), hdone c _ (turn (hI c) _ hi hl rfl) ((World.putObj_heap_other (by omega)).trans hk)⟩
    · exact ⟨some .ret, _, run_endLoop hl (by simp), hstop c pre _ (turn (hIx c) _ hi hl rfl) ((World.putObj_heap_other (by omega)).trans hk)⟩
end Go.Proofs.Ytkgpnlldlekcbaa
