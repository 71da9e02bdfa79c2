/- Packed texts: ReMem, ReLies. What each of them proves stands above its theorems; the conditions stand in these. -/
import Derived.Deep.RegionHeld3
import Derived.Deep.RegionLaw
import Derived.Test.YtkgpnlldlekcbaaM0
import Derived.Test.YtkgpnlldlekcbaaM1
import Derived.Test.YtkgpnlldlekcbaaM2
namespace Go.Proofs.Ytkgpnlldlekcbaa
open Go.RowKit Go.Lib

theorem Try.infoRe : (Try.prog.info? 50).map (fun i => (i.zero, i.size, i.bytes)) = some (some (.agg #[.int .i64 0, .int .u64 0, .int .u64 0, .int .u64 0, .int .u64 0, .int .i64 0, .int .i64 0]), 7, 56) := by kernel_rfl
theorem cells_seven (w : World) (t : TypeId) (p q r s u v z : Value) : ∀ j x, [p, q, r, s, u, v, z][j]? = some x → (w.alloc (.cells #[p, q, r, s, u, v, z] t)).cell? ((⟨w.heap.size, 0, none⟩ : Addr).add j) = some x := by
  intro j x hj
  have h := heap_alloc_new w (.cells #[p, q, r, s, u, v, z] t)
  have e : (⟨w.heap.size, 0, none⟩ : Addr).add j = ⟨w.heap.size, j, none⟩ := by simp [Addr.add]; intro h; exact h.symm
  rw [e, cell_of_heap h]
  simpa using hj
theorem own_block_lt {w : World} {B g n size : Nat} {e : TypeId} {v : Value} {xs : List Value} (h : w.ownsRow B e size v n xs) (hg : v.ownBlock = some g) : g < w.heap.size := by
  rcases h.2 with ⟨rfl, _⟩ | ⟨g', _, _, rfl, _, hh, _⟩
  · cases hg
  · cases hg; exact block_lt hh
theorem owns_same {w w' : World} {base n size : Nat} {e : TypeId} {v : Value} {xs : List Value} (h : w.ownsRow base e size v n xs) (hb : ∀ g, v.ownBlock = some g → w'.heap[g]? = w.heap[g]?) : w'.ownsRow base e size v n xs := by
  obtain ⟨h1, h2⟩ := h
  refine ⟨h1, ?_⟩
  rcases h2 with h2 | ⟨g, cap, cur, hv, hg, hh, r⟩
  · exact .inl h2
  · exact .inr ⟨g, cap, cur, hv, hg, (hb g (by rw [hv]; rfl)).trans hh, r⟩
theorem owned_slice {w : World} {B n size : Nat} {e : TypeId} {v : Value} {xs : List Value} (h : w.ownsRow B e size v n xs) (hn : 1 ≤ n) : ∃ g cap, v = .slice (some ⟨g, 0, none⟩) n cap := by
  rcases h.2 with ⟨_, h0⟩ | ⟨g, cap, cur, hv, _⟩
  · omega
  · exact ⟨g, cap, hv⟩
theorem node_cells {w : World} {g : Nat} {t : TypeId} {p q r s u v z : Value} (h : w.heap[g]? = some (.cells #[p, q, r, s, u, v, z] t (0, 0))) :
    w.cell? ⟨g, 0, none⟩ = some p ∧ w.cell? ⟨g, 1, none⟩ = some q ∧ w.cell? ⟨g, 2, none⟩ = some r ∧ w.cell? ⟨g, 3, none⟩ = some s ∧ w.cell? ⟨g, 4, none⟩ = some u ∧ w.cell? ⟨g, 5, none⟩ = some v ∧ w.cell? ⟨g, 6, none⟩ = some z :=
  ⟨cell_of_row w g 0 _ _ _ h, cell_of_row w g 1 _ _ _ h, cell_of_row w g 2 _ _ _ h, cell_of_row w g 3 _ _ _ h, cell_of_row w g 4 _ _ _ h, cell_of_row w g 5 _ _ _ h, cell_of_row w g 6 _ _ _ h⟩

end Go.Proofs.Ytkgpnlldlekcbaa
namespace Go.Proofs.Ytkgpnlldlekcbaa
open Go.RowKit Go.Lib

def kidsN (k : Int) : Int := if k = 0 ∨ k = 1 ∨ k = 7 ∨ k = 8 then 0 else if k = 4 ∨ k = 5 ∨ k = 6 then 1 else if k = 2 ∨ k = 3 then 2 else -1
theorem kinds_cases (k : Int) : k = 0 ∨ k = 1 ∨ k = 2 ∨ k = 3 ∨ k = 4 ∨ k = 5 ∨ k = 6 ∨ k = 7 ∨ k = 8 ∨ ((k == 0) = false ∧ (k == 1) = false ∧ (k == 2) = false ∧ (k == 3) = false ∧ (k == 4) = false ∧ (k == 5) = false ∧ (k == 6) = false ∧ (k == 7) = false ∧ (k == 8) = false ∧ kidsN k = -1) := by
  by_cases h0 : k = 0
  · exact .inl h0
  by_cases h1 : k = 1
  · exact .inr (.inl h1)
  by_cases h2 : k = 2
  · exact .inr (.inr (.inl h2))
  by_cases h3 : k = 3
  · exact .inr (.inr (.inr (.inl h3)))
  by_cases h4 : k = 4
  · exact .inr (.inr (.inr (.inr (.inl h4))))
  by_cases h5 : k = 5
  · exact .inr (.inr (.inr (.inr (.inr (.inl h5)))))
  by_cases h6 : k = 6
  · exact .inr (.inr (.inr (.inr (.inr (.inr (.inl h6))))))
  by_cases h7 : k = 7
  · exact .inr (.inr (.inr (.inr (.inr (.inr (.inr (.inl h7)))))))
  by_cases h8 : k = 8
  · exact .inr (.inr (.inr (.inr (.inr (.inr (.inr (.inr (.inl h8))))))))
  refine .inr (.inr (.inr (.inr (.inr (.inr (.inr (.inr (.inr ⟨beq_eq_false_iff_ne.2 h0, beq_eq_false_iff_ne.2 h1, beq_eq_false_iff_ne.2 h2, beq_eq_false_iff_ne.2 h3, beq_eq_false_iff_ne.2 h4, beq_eq_false_iff_ne.2 h5, beq_eq_false_iff_ne.2 h6, beq_eq_false_iff_ne.2 h7, beq_eq_false_iff_ne.2 h8, ?_⟩))))))))
  unfold kidsN
  simp [h0, h1, h2, h3, h4, h5, h6, h7, h8]

/-- The cells of a node, one by one. -/
def NdAt (b o : Nat) (n : Nd) (w : World) : Prop :=
  w.cell? ⟨b, o, none⟩ = some (.int .i64 n.k) ∧ w.cell? ⟨b, o + 1, none⟩ = some (wd n.s.a) ∧ w.cell? ⟨b, o + 2, none⟩ = some (wd n.s.b) ∧ w.cell? ⟨b, o + 3, none⟩ = some (wd n.s.c) ∧ w.cell? ⟨b, o + 4, none⟩ = some (wd n.s.d) ∧ w.cell? ⟨b, o + 5, none⟩ = some (.int .i64 n.x) ∧ w.cell? ⟨b, o + 6, none⟩ = some (.int .i64 n.y)
/-- A row of nodes that can be read. -/
def Lies (v : Value) (ts : List Nd) (w : World) : Prop :=
  ∃ ao cap, v = .slice ao ts.length cap ∧ ts.length ≤ 140737488355328 ∧ ∀ (j : Nat) (n : Nd), ts[j]? = some n → ∃ b o, ao = some ⟨b, o, none⟩ ∧ b < w.heap.size ∧ NdAt b (o + j * 7) n w
theorem Lies.below {v : Value} {ts : List Nd} {w w' : World} (h : Lies v ts w) (hb : Below w.heap.size w w') : Lies v ts w' := by
  obtain ⟨ao, cap, h1, hl, h2⟩ := h
  refine ⟨ao, cap, h1, hl, fun j n hj => ?_⟩
  obtain ⟨b, o, h3, h4, h5⟩ := h2 j n hj
  refine ⟨b, o, h3, Nat.lt_of_lt_of_le h4 hb.size, ?_⟩
  have e : ∀ i, w'.cell? ⟨b, i, none⟩ = w.cell? ⟨b, i, none⟩ := fun i => by unfold World.cell?; rw [hb.block b h4]
  unfold NdAt
  rw [e, e, e, e, e, e, e]
  exact h5
theorem NdAt.below {b o : Nat} {n : Nd} {w w' : World} {B : Nat} (h : NdAt b o n w) (hb : Below B w w') (hlt : b < B) : NdAt b o n w' := by
  have e : ∀ i, w'.cell? ⟨b, i, none⟩ = w.cell? ⟨b, i, none⟩ := fun i => by unfold World.cell?; rw [hb.block b hlt]
  unfold NdAt
  rw [e, e, e, e, e, e, e]
  exact h
theorem Lies.at {ao : Option Addr} {N cap : Nat} {ts : List Nd} {w : World} (h : Lies (.slice ao N cap) ts w) {j : Nat} {n : Nd} (hj : ts[j]? = some n) : ∃ b o, ao = some ⟨b, o, none⟩ ∧ b < w.heap.size ∧ NdAt b (o + j * 7) n w := by
  obtain ⟨_, _, h1, _, h2⟩ := h
  cases h1
  exact h2 j n hj
theorem ndC_get : ∀ (ts : List Nd) (j i : Nat) (n : Nd), ts[j]? = some n → i < 7 → (ndC ts)[j * 7 + i]? = n.cells[i]?
  | [], j, i, n, h, _ => by simp at h
  | t :: ts, 0, i, n, h, hi => by
    simp at h
    subst h
    show (t.cells ++ ndC ts)[0 * 7 + i]? = _
    rw [List.getElem?_append_left (by show 0 * 7 + i < 7; omega)]
    congr 1
    omega
  | t :: ts, j + 1, i, n, h, hi => by
    have h : ts[j]? = some n := by simpa using h
    show (t.cells ++ ndC ts)[(j + 1) * 7 + i]? = _
    rw [List.getElem?_append_right (by show 7 ≤ _; omega)]
    have e : (j + 1) * 7 + i - t.cells.length = j * 7 + i := by show (j + 1) * 7 + i - 7 = _; omega
    rw [e, ndC_get ts j i n h hi]
end Go.Proofs.Ytkgpnlldlekcbaa
