/- Packed texts: Range. What each of them proves stands above its theorems; the conditions stand in these. -/
import Derived.LoopIn
import Derived.LoopNIn
import Derived.OwnWalkIn
import Derived.RangeFuncBound
import Derived.RangeFuncLeaves
import Derived.RangeFuncNested
import Derived.Shelf.Abstract
import Derived.TacticsInMore
import Derived.Test.YtgceckejchdnlaaGreatDoorProg
import Derived.WalkKit
namespace Go.Proofs.YtgceckejchdnlaaGreatDoor
open Go.RowKit

/-- The blocks of K lie in both worlds alike. -/
def Same (K : Nat → Prop) (W W' : World) : Prop := ∀ j, K j → W'.heap[j]? = W.heap[j]?
theorem Same.refl (K : Nat → Prop) (W : World) : Same K W W := fun _ _ => rfl
theorem Same.trans {K : Nat → Prop} {A B C : World} (h : Same K A B) (k : Same K B C) : Same K A C := fun j hj => (k j hj).trans (h j hj)
theorem Same.mono {K K' : Nat → Prop} {A B : World} (h : Same K A B) (hk : ∀ j, K' j → K j) : Same K' A B := fun j hj => h j (hk j hj)

/-- A block that is no row of bytes, or one of one byte at most. -/
def Odd (W : World) (r : Nat) : Prop := ∀ cs fz, W.heap[r]? = some (.cells cs 5 fz) → cs.size ≤ 1
theorem Odd.same {W W' : World} {r : Nat} (h : Odd W r) (hs : W'.heap[r]? = W.heap[r]?) : Odd W' r := fun cs fz e => h cs fz (hs ▸ e)
theorem Odd.of {W : World} {r : Nat} {o : Obj} (h : W.heap[r]? = some o) (ho : o.isCells = false) : Odd W r := fun cs fz e => by rw [h] at e; cases e; cases ho
theorem Odd.box {W : World} {r : Nat} {x : Value} {t : TypeId} {fz : Nat × Nat} (h : W.heap[r]? = some (.cells #[x] t fz)) : Odd W r := fun cs fz2 e => by rw [h] at e; cases e; simp
theorem Odd.other {W : World} {r : Nat} {cs : Array Value} {t : TypeId} {fz : Nat × Nat} (h : W.heap[r]? = some (.cells cs t fz)) (ht : t ≠ 5) : Odd W r := fun cs2 fz2 e => by rw [h] at e; cases e; exact absurd rfl ht

/-- What abides the heap's growth, the turn of a box among the c blocks from B on, and that of a block from B on that holds no cells. -/
def OwnC {β : Type} (B c : Nat) (I : β → World → Prop) : Prop :=
  ∀ s W W' row, I s W → W.grownBy W' row → (∀ r, row = some r → B ≤ r ∧ ((r < B + c ∧ ∃ x t, W.heap[r]? = some (.cells #[x] t (0, 0))) ∨ ∃ o : Obj, W.heap[r]? = some o ∧ o.isCells = false)) → I s W'
theorem OwnC.grow {β : Type} {B c : Nat} {I : β → World → Prop} (h : OwnC B c I) {s : β} {W W' : World} (hs : I s W) (hg : W.grownBy W' none) : I s W' := h s W W' none hs hg (fun _ e => by cases e)

/-- WHAT AN ITERATOR DOES, called at W: it hands the elements to yield, one behind the other; all have come, or a round has said 'no more'. It lays at most its own c blocks ahead of the first round; the rounds keep these, and those of K. -/
def SeqX {α : Type} (P : Program) (g : Nat) (lb : Array Value) (encs : α → Array Value) (c N : Nat) (S : List α → Prop) (K : Nat → Prop) (W : World) : Prop :=
  ∀ (l : Nat) (J Jx : List α → World → Prop), OwnC W.heap.size c J → OwnC W.heap.size c Jx →
    (∀ pre x W1, W.heap.size + c ≤ W1.heap.size → (∀ r, W.heap.size ≤ r → r < W.heap.size + c → Odd W1 r) → J pre W1 → pre.length < N → YieldAt Fence.wide 0 P l (encs x) W1 fun e W' =>
      W1.heap.size ≤ W'.heap.size ∧ Same (fun j => K j ∨ (W.heap.size ≤ j ∧ j < W.heap.size + c)) W1 W' ∧
        ((e = .returned (.bool true) ∧ J (pre ++ [x]) W') ∨ (e = .returned (.bool false) ∧ Jx (pre ++ [x]) W'))) →
    J [] W →
    CallsIn Fence.wide 0 P g (#[.func (.yield l) #[] #[]] ++ lb) W fun e W' => (∃ v, e = .returned v) ∧ ((∃ xs, S xs ∧ J xs W') ∨ (∃ pre, Jx pre W'))

/-- How a round's body may be left: off its end, or by a return. -/
def postX {α : Type} (B c : Nat) (K : Nat → Prop) (I : List α → World → Prop) (Ix : List α → World → Prop) (xs : List α) (W : World) : Exit → Act → World → Prop
  | .normal, _, W' => W.heap.size ≤ W'.heap.size ∧ Same (fun j => K j ∨ (B ≤ j ∧ j < B + 2 + c)) W W' ∧ I xs W'
  | .ret, _, W' => W.heap.size ≤ W'.heap.size ∧ Same (fun j => K j ∨ (B ≤ j ∧ j < B + 2 + c)) W W' ∧ Ix xs W'
  | _, _, _ => False

theorem putObj_grown (W : World) (l : Nat) (o : Obj) : W.grownBy (W.putObj l o) (some l) := grownBy_putObj' W l o

/-- THE LOOP. -/
theorem wp_rangeX {α : Type} {P : Program} {g : Operand} {ps : Array Tmp} {assign body : Code} {Q : Exit → Act → World → Prop} {a : Act} {w : World} {gf : Nat} {lb : Array Value}
    (hg : a.eval g = .func (.func gf) #[] lb) (eg : ∀ args w, (callFunc gf args).run P w = .ok (.enter gf args) w) {encs : α → Array Value} {c N : Nat} {S : List α → Prop} {K : Nat → Prop} (hps : ∀ x, (encs x).size = ps.size)
    (hseq : ∀ W, W.heap.size = w.heap.size + 2 → (∀ j, j < w.heap.size → W.heap[j]? = w.heap[j]?) → SeqX P gf lb encs c N S K W) (hK : ∀ j, K j → j ≠ w.heap.size + 1)
    (I Ix : List α → World → Prop) (hI : OwnC w.heap.size (2 + c) I) (hIx : OwnC w.heap.size (2 + c) Ix) (h0 : I [] w) (a₁ : α → Act)
    (hassign : ∀ (l : Nat) (x : α) (W : World) (k : Act → World → Prop), k (a₁ x) W →
      assign.wpIn (Fence.wide.inRound l) 0 P (Exit.then k (fun _ _ _ => False)) { tmps := (ps.zip (encs x)).foldl (fun t (p, v) => t.setIfInBounds p v) a.tmps, defers := [] } W)
    (hbody : ∀ (l : Nat) (pre : List α) (x : α) (W : World), w.heap.size + 2 + c ≤ W.heap.size → (∀ r, w.heap.size ≤ r → r < w.heap.size + 2 + c → Odd W r) → I pre W → pre.length < N → body.wpIn (Fence.wide.inRound l) 0 P (postX w.heap.size c K I Ix (pre ++ [x]) W) (a₁ x) W)
    (hdone : ∀ (xs : List α) (W : World), S xs → I xs W → W.heap[w.heap.size]? = some (.deferred (some [])) → Q .normal { a with defers := { target := .collected w.heap.size, args := #[] } :: a.defers } W)
    (hstop : ∀ (pre : List α) (W : World), Ix pre W → W.heap[w.heap.size]? = some (.deferred (some [])) → Code.ret.wpIn Fence.wide 0 P Q { a with defers := { target := .collected w.heap.size, args := #[] } :: a.defers } W) :
    (Code.rangeFunc g ps assign body).wpIn Fence.wide 0 P Q a w := by
  refine wpIn_rangeFunc fun fn hfn => ?_
  -- the two blocks of book-keeping: D for the rounds' deferred calls, D + 1 the record, in its states
  obtain ⟨D, hD⟩ : ∃ D, D = w.heap.size := ⟨_, rfl⟩
  rw [← hD] at hI hIx hK hbody hdone hstop hseq
  let st : LoopState → Option Code → Obj := fun s pe => .loop { state := s, pending := pe, fn, tmps := a.tmps, params := ps, assign, body, defers := D }
  obtain ⟨W1, hW1⟩ : ∃ W1, (w.alloc (.deferred (some []))).alloc (st .ready none) = W1 := ⟨_, rfl⟩
  have hz1 : W1.heap.size = D + 2 := by rw [← hW1, hD]; simp
  have hrec1 : W1.heap[D + 1]? = some (st .ready none) := by
    rw [← hW1, hD]
    have := World.alloc_heap_new (w.alloc (.deferred (some []))) (st .ready none)
    rwa [World.size_alloc] at this
  have hdef1 : W1.heap[D]? = some (.deferred (some [])) := by
    rw [← hW1, hD]
    exact (Below.heap_alloc _ _ _ (by simp)).trans (World.alloc_heap_new w _)
  have hold1 : ∀ j, j < D → W1.heap[j]? = w.heap[j]? := fun j hj => by
    rw [← hW1]
    exact (Below.heap_alloc _ _ _ (by simp; omega)).trans (Below.heap_alloc _ _ _ (by omega))
  have hI1 : I [] W1 := by
    rw [← hW1]
    exact hI _ _ _ none (hI _ _ _ none h0 (World.grownBy_alloc _ _ none) (fun _ e => by cases e)) (World.grownBy_alloc _ _ none) (fun _ e => by cases e)
  refine ⟨D + 1, [{ target := .collected D, args := #[] }], W1, { target := .fn (.func gf) lb, args := #[.func (.yield (D + 1)) #[] #[]] }, W1, gf, #[.func (.yield (D + 1)) #[] #[]] ++ lb, W1, ?_, ?_, fun _ _ => trivial, ?_, (fun h => by cases h), ?_⟩
  · subst hD; rw [← hW1]; exact run_enterLoop_outer _ _ _ _ _
  · simp only [resolve, hg]
    simp [go_sem]
  · simp [invoke, go_sem, eg]
  -- the record turns; what abides that goes on
  have turn : ∀ {Z : List α → World → Prop}, OwnC D (2 + c) Z → ∀ {s : List α} {W : World} {o : Obj} (o' : Obj), Z s W → W.heap[D + 1]? = some o → o.isCells = false → Z s (W.putObj (D + 1) o') :=
    fun hZ _ _ _ o' hs ho hc => hZ _ _ _ (some (D + 1)) hs (putObj_grown _ _ _) (fun r e => by cases e; exact ⟨by omega, .inr ⟨_, ho, hc⟩⟩)
  have stay : ∀ {W W' : World} {row : Option Nat} {o : Obj} {j : Nat}, j < D + 2 → W.grownBy W' row → (∀ r, row = some r → W1.heap.size ≤ r ∧ ((r < W1.heap.size + c ∧ ∃ x t, W.heap[r]? = some (.cells #[x] t (0, 0))) ∨ ∃ o : Obj, W.heap[r]? = some o ∧ o.isCells = false)) → W.heap[j]? = some o → W'.heap[j]? = some o :=
    fun {W W' row o j} hj hgr hr ho => (hgr.block j (Array.getElem?_eq_some_iff.1 ho).1 (fun e => by have := (hr j e.symm).1; omega)).trans ho
  have low : ∀ {W : World} {row : Option Nat}, (∀ r, row = some r → W1.heap.size ≤ r ∧ ((r < W1.heap.size + c ∧ ∃ x t, W.heap[r]? = some (.cells #[x] t (0, 0))) ∨ ∃ o : Obj, W.heap[r]? = some o ∧ o.isCells = false)) → (∀ r, row = some r → D ≤ r ∧ ((r < D + (2 + c) ∧ ∃ x t, W.heap[r]? = some (.cells #[x] t (0, 0))) ∨ ∃ o : Obj, W.heap[r]? = some o ∧ o.isCells = false)) :=
    fun hr r e => ⟨by have := (hr r e).1; omega, (hr r e).2.elim (fun h => .inl ⟨by omega, h.2⟩) .inr⟩
  refine (hseq W1 hz1 hold1 (D + 1)
    (fun pre W => I pre W ∧ W.heap[D + 1]? = some (st .ready none) ∧ W.heap[D]? = some (.deferred (some [])))
    (fun pre W => Ix pre W ∧ W.heap[D + 1]? = some (st .done (some .ret)) ∧ W.heap[D]? = some (.deferred (some [])))
    (fun s A B row hs hgr hr => ⟨hI s A B row hs.1 hgr (low hr), stay (by omega) hgr hr hs.2.1, stay (by omega) hgr hr hs.2.2⟩)
    (fun s A B row hs hgr hr => ⟨hIx s A B row hs.1 hgr (low hr), stay (by omega) hgr hr hs.2.1, stay (by omega) hgr hr hs.2.2⟩)
    ?_ ⟨hI1, hrec1, hdef1⟩).mono ?_
  · -- one round
    rintro pre x W hsz hodd ⟨hi, hl, hk⟩ hlen
    have hlt : D + 1 < W.heap.size := (Array.getElem?_eq_some_iff.1 hl).1
    refine ⟨fn, _, assign, body, run_yield (args := encs x) hl (hps x), roundIn_of_wpIn hfn (hassign _ x W _ ⟨_, run_beginRound hl rfl, ?_⟩)⟩
    have hl2 : (W.putObj (D + 1) (st .busy none)).heap[D + 1]? = some (st .busy none) := World.putObj_heap_same hlt
    have hk2 : (W.putObj (D + 1) (st .busy none)).heap[D]? = some (.deferred (some [])) := (World.putObj_heap_other (by omega)).trans hk
    refine wpIn_mono (hbody _ pre x _ (by simp; omega) (fun r h1 h2 => by
      by_cases e1 : r = D
      · rw [e1]; exact Odd.of hk2 rfl
      · by_cases e2 : r = D + 1
        · rw [e2]; exact Odd.of hl2 rfl
        · exact (hodd r (by omega) (by omega)).same (World.putObj_heap_other e2)) (turn hI _ hi hl rfl) hlen) ?_
    have other : ∀ {j : Nat} (o : Obj) (V : World), K j ∨ (W1.heap.size ≤ j ∧ j < W1.heap.size + c) → (V.putObj (D + 1) o).heap[j]? = V.heap[j]? := fun {j} o V hj =>
      World.putObj_heap_other (hj.elim (hK j) (fun h => by omega))
    rintro e a3 W3 hp
    cases e with
    | normal =>
      obtain ⟨hs3, hk3, hi3⟩ := hp
      have hl3 := (hk3 (D + 1) (.inr (by omega))).trans hl2
      have hd3 := (hk3 D (.inr (by omega))).trans hk2
      refine ⟨_, _, run_endRound none hl3, by simpa using hs3, fun j hj => ?_, .inl ⟨rfl, turn hI _ hi3 hl3 rfl, World.putObj_heap_same (Array.getElem?_eq_some_iff.1 hl3).1, (World.putObj_heap_other (by omega)).trans hd3⟩⟩
      rw [other _ _ hj, hk3 j (hj.elim .inl (fun h => .inr (by omega))), other _ _ hj]
    | ret =>
      obtain ⟨hs3, hk3, hi3⟩ := hp
      have hl3 := (hk3 (D + 1) (.inr (by omega))).trans hl2
      have hd3 := (hk3 D (.inr (by omega))).trans hk2
      refine ⟨_, _, run_endRound (some .ret) hl3, by simpa using hs3, fun j hj => ?_, .inr ⟨rfl, turn hIx _ hi3 hl3 rfl, World.putObj_heap_same (Array.getElem?_eq_some_iff.1 hl3).1, (World.putObj_heap_other (by omega)).trans hd3⟩⟩
      rw [other _ _ hj, hk3 j (hj.elim .inl (fun h => .inr (by omega))), other _ _ hj]
    | exit id => exact hp.elim
    | goto t => exact hp.elim
    | panic ch => exact hp.elim
    | outgrown => exact hp.elim
  · -- behind the iterator
    rintro e W2 ⟨⟨v, rfl⟩, ⟨xs, hS, hi, hl, hk⟩ | ⟨pre, hi, hl, hk⟩⟩
    · exact ⟨none, _, run_endLoop hl (by simp), hdone xs _ hS (turn hI _ hi hl rfl) ((World.putObj_heap_other (by omega)).trans hk)⟩
    · exact ⟨some .ret, _, run_endLoop hl (by simp), hstop pre _ (turn hIx _ hi hl rfl) ((World.putObj_heap_other (by omega)).trans hk)⟩
end Go.Proofs.YtgceckejchdnlaaGreatDoor
