/- Packed texts: ReOwn, SuMem. What each of them proves stands above its theorems; the conditions stand in these. -/
import Derived.Deep.LoopGhost
import Derived.Laws.CopyOwn
import Derived.Lib.Hide
import Derived.Lib.Join
import Derived.Test.YtkgpnlldlekcbaaGreatDoorShelf
import Derived.Test.YtkgpnlldlekcbaaGreatDoorX3
namespace Go.Proofs.YtkgpnlldlekcbaaGreatDoor
open Go.RowKit Go.Lib

theorem owns_take {w : World} {B L r cp : Nat} {e : TypeId} {ao : Option Addr} {xs : List Value} (h : w.ownsRow B e 1 (.slice ao L cp) L xs) (hr : r ≤ L) : w.ownsRow B e 1 (.slice ao r cp) r (xs.take r) := by
  obtain ⟨h1, h2⟩ := h
  refine ⟨by rw [List.length_take]; omega, ?_⟩
  rcases h2 with ⟨hv, h0⟩ | ⟨g, cap, cur, hv, hB, hg, hc, hm, hs, htk⟩
  · cases hv
    have : r = 0 := by omega
    subst this
    exact .inl ⟨rfl, rfl⟩
  · cases hv
    refine .inr ⟨g, cp, cur, rfl, hB, hg, by omega, hm, hs, ?_⟩
    rw [← htk, List.take_take]
    congr 1
    omega
theorem owns_kind {w : World} {B n size : Nat} {e t : TypeId} {v : Value} {xs : List Value} {g : Nat} {cs : Array Value} {fz : Nat × Nat} (h : w.ownsRow B e size v n xs) (hg : w.heap[g]? = some (.cells cs t fz)) (hne : t ≠ e) : v.ownBlock ≠ some g := by
  intro e0
  rcases h.2 with ⟨hv, _⟩ | ⟨g', cap, cur, hv, _, hh, _⟩
  · rw [hv] at e0; cases e0
  · rw [hv] at e0
    cases e0
    rw [hg] at hh
    injection hh with hh
    injection hh with _ hh _
    exact hne hh
theorem own_zeroB {w : World} {B k : Nat} {e : TypeId} {v : Value} {xs : List Value} {n : Nat} (h : w.ownsRow B e k v n xs) : ∃ ao cap, v = .slice ao n cap := by
  rcases h.2 with ⟨hv, h0⟩ | ⟨g, cap, cur, hv, _⟩
  · exact ⟨_, _, by rw [hv, h0]⟩
  · exact ⟨_, _, hv⟩
theorem owns_alloc {w : World} {B n size : Nat} {e : TypeId} {v : Value} {xs : List Value} {o : Obj} (h : w.ownsRow B e size v n xs) : (w.alloc o).ownsRow B e size v n xs := owns_same h fun _g hg => Below.heap_alloc _ _ _ (own_block_lt h hg)
theorem cell_one' (w : World) (t : TypeId) (p : Value) : ∀ j x, [p][j]? = some x → (w.alloc (.cells #[p] t)).cell? ((⟨w.heap.size, 0, none⟩ : Addr).add j) = some x := by
  intro j x hj
  have h := heap_alloc_new w (.cells #[p] t)
  have e : (⟨w.heap.size, 0, none⟩ : Addr).add j = ⟨w.heap.size, j, none⟩ := by simp [Addr.add]; intro h; exact h.symm
  rw [e, cell_of_heap h]
  simpa using hj
end Go.Proofs.YtkgpnlldlekcbaaGreatDoor
namespace Go.Proofs.YtkgpnlldlekcbaaGreatDoor
open Go.RowKit Go.Lib

/-- A row of texts that can be read. -/
def Strs (v : Value) (xs : List ByteArray) (w : World) : Prop :=
  ∃ ao cap, v = .slice ao xs.length cap ∧ xs.length ≤ cap ∧ xs.length ≤ 140737488355328 ∧ ∀ j x, xs[j]? = some x → ∃ b o, ao = some ⟨b, o, none⟩ ∧ b < w.heap.size ∧ w.cell? ⟨b, o + j, none⟩ = some (.string x)
theorem Strs.below {v : Value} {xs : List ByteArray} {w w' : World} (h : Strs v xs w) (hb : Below w.heap.size w w') : Strs v xs w' := by
  obtain ⟨ao, cap, h1, hc, hl, h2⟩ := h
  refine ⟨ao, cap, h1, hc, hl, fun j x hj => ?_⟩
  obtain ⟨b, o, h3, h4, h5⟩ := h2 j x hj
  refine ⟨b, o, h3, Nat.lt_of_lt_of_le h4 hb.size, ?_⟩
  rw [← h5]
  unfold World.cell?
  rw [hb.block b h4]
theorem Strs.len {ao : Option Addr} {N cap : Nat} {xs : List ByteArray} {w : World} (h : Strs (.slice ao N cap) xs w) : N = xs.length ∧ N ≤ cap ∧ N ≤ 140737488355328 := by
  obtain ⟨_, _, h1, h2, h3, _⟩ := h
  cases h1
  exact ⟨rfl, h2, h3⟩
theorem Strs.at {ao : Option Addr} {N cap : Nat} {xs : List ByteArray} {w : World} (h : Strs (.slice ao N cap) xs w) {j : Nat} {x : ByteArray} (hj : xs[j]? = some x) : ∃ b o, ao = some ⟨b, o, none⟩ ∧ b < w.heap.size ∧ w.cell? ⟨b, o + j, none⟩ = some (.string x) := by
  obtain ⟨_, _, h1, _, _, h2⟩ := h
  cases h1
  exact h2 j x hj
theorem Strs.nil (w : World) : Strs (.slice none 0 0) [] w := ⟨none, 0, rfl, Nat.le_refl _, Nat.zero_le _, fun j x h => by simp at h⟩
end Go.Proofs.YtkgpnlldlekcbaaGreatDoor
