/- Packed texts: ReKept, ReKids, ReFrame. What each of them proves stands above its theorems; the conditions stand in these. -/
import Derived.BigQuiet
import Derived.Deep.Cut
import Derived.Deep.DeepCutAuto
import Derived.Deep.LoopGhost
import Derived.Deep.RegionWith
import Derived.Deep.Strs
import Derived.Defers
import Derived.Laws.Pointers
import Derived.Laws.ResultCell
import Derived.Lib.Hide
import Derived.Recover
import Derived.Shelf.Abstract
import Derived.StillTailTactics
import Derived.Test.YtkgpnlldlekcbaaShelf
import Derived.WideKeyArgs
import Derived.Test.YtkgpnlldlekcbaaM0
import Derived.Test.YtkgpnlldlekcbaaM1
import Derived.Test.YtkgpnlldlekcbaaM3
import Derived.Test.YtkgpnlldlekcbaaM5
import Derived.Test.YtkgpnlldlekcbaaM7
namespace Go.Proofs.Ytkgpnlldlekcbaa
open Go.RowKit Go.Lib

/-- A row of a tree that a call answers: of its own making. -/
def IsRow (B : Nat) (ys : List Nd) (v : Value) (w : World) : Prop := w.ownsRow B 50 7 v ys.length (ndC ys)
theorem isRow_slice {B : Nat} {ys : List Nd} {v : Value} {w : World} (h : IsRow B ys v w) : ∃ ao cap, v = .slice ao ys.length cap := by
  rcases h.2 with ⟨hv, h0⟩ | ⟨g, cap, cur, hv, _⟩
  · exact ⟨_, _, by rw [hv, h0]⟩
  · exact ⟨_, _, hv⟩
end Go.Proofs.Ytkgpnlldlekcbaa
namespace Go.Proofs.Ytkgpnlldlekcbaa
open Go.RowKit Go.Lib

theorem IsRow.lies {B : Nat} {ts : List Nd} {v : Value} {w : World} (h : IsRow B ts v w) (hl : ts.length ≤ 140737488355328) : Lies v ts w := by
  obtain ⟨ao, cap, hv⟩ := isRow_slice h
  refine ⟨ao, cap, hv, hl, fun j n hj => ?_⟩
  rcases h.2 with ⟨_, h0⟩ | ⟨g, cap', cur, hv', hB, hg, _, _, _, htk⟩
  · rw [List.eq_nil_of_length_eq_zero h0] at hj; simp at hj
  · rw [hv] at hv'
    cases hv'
    refine ⟨g, 0, rfl, block_lt hg, ?_⟩
    have hjl : j < ts.length := by
      by_cases hlt : j < ts.length
      · exact hlt
      · rw [List.getElem?_eq_none (by omega)] at hj; cases hj
    have e : ∀ i, i < 7 → w.cell? ⟨g, 0 + j * 7 + i, none⟩ = n.cells[i]? := fun i hi => by
      rw [cell_of_heap hg, ← ndC_get ts j i n hj hi, ← htk, List.getElem?_take_of_lt (by omega)]
      simp
    refine ⟨e 0 (by omega), e 1 (by omega), e 2 (by omega), e 3 (by omega), e 4 (by omega), e 5 (by omega), e 6 (by omega)⟩
end Go.Proofs.Ytkgpnlldlekcbaa
namespace Go.Proofs.Ytkgpnlldlekcbaa
open Go.ChangeShapes Go.WideShapes Go.ChangeAt Go.RowKit Go.Deep

theorem cellsRe : Try.prog.cellsOf 50 = 7 := by kernel_rfl
theorem cellsK : Try.prog.cellsOf 48 = 2 := by kernel_rfl
theorem cellsI : Try.prog.cellsOf 3 = 1 := by kernel_rfl
theorem cell_plain {w : World} {a : Addr} {v : Value} (h : w.cell? a = some v) : a.spot = none ∧ a.block < w.heap.size := by
  unfold World.cell? at h
  split at h
  · rename_i hh
    constructor
    · by_cases hs : a.spot.isSome = true
      · rw [if_pos hs] at h; cases h
      · simpa using hs
    · by_cases hl : a.block < w.heap.size
      · exact hl
      · rw [Array.getElem?_eq_none (by omega)] at hh; cases hh
  · cases h
theorem list_seven {α : Type} (l : List α) (h : l.length = 7) : ∃ a b c d e f g, l = [a, b, c, d, e, f, g] := by
  match l, h with
  | [a, b, c, d, e, f, g], _ => exact ⟨a, b, c, d, e, f, g, rfl⟩
set_option maxRecDepth 20000 in
/-- A node's cells. -/
theorem trod_node {H : Type} {enc : TypeId × Value → H} {W : World} {sp : Nat → Bool} {n : Nat} {cs : List Value} {y : DataW H × List MemPlace} (h : DataW.trod enc Try.prog W 0 sp true n 50 cs = some y) : ∃ q : Nd, cs = q.cells := by
  obtain ⟨y0, y1, y2, m, hx, hl, h0, h1, h2⟩ := trod_struct3 Try.underlying50 h
  rw [cellsRe] at hl
  obtain ⟨c0, c1, c2, c3, c4, c5, c6, rfl⟩ := list_seven cs hl
  have h0 : DataW.trod enc Try.prog W 0 sp true m 3 [c0] = some y0 := by simpa [cellsI] using h0
  have h1 : DataW.trod enc Try.prog W 0 sp true m 47 [c1, c2, c3, c4] = some y1 := by simpa [cellsC] using h1
  have h2 : DataW.trod enc Try.prog W 0 sp true m 48 [c5, c6] = some y2 := by simpa [cellsK] using h2
  obtain ⟨z0, z1, z2, z3, m1, _, hz0, hz1, hz2, hz3⟩ := trod_array4 Try.underlying47 cellsW h1
  obtain ⟨xs, m2, _, _, _, hxl, hxs⟩ := DataW.trod_array Try.underlying48 h2
  have g5 : DataW.trod enc Try.prog W 0 sp true m2 3 [c5] = xs[0]? := by simpa [cellsI] using hxs 0 (by omega)
  have g6 : DataW.trod enc Try.prog W 0 sp true m2 3 [c6] = xs[1]? := by simpa [cellsI] using hxs 1 (by omega)
  rw [List.getElem?_eq_getElem (by omega)] at g5 g6
  obtain ⟨x0, e0, _, _⟩ := DataW.trod_int Try.underlying3 h0
  obtain ⟨x5, e5, _, _⟩ := DataW.trod_int Try.underlying3 g5
  obtain ⟨x6, e6, _, _⟩ := DataW.trod_int Try.underlying3 g6
  obtain ⟨x1, e1, _, w1⟩ := DataW.trod_int Try.underlying45 hz0
  obtain ⟨x2, e2, _, w2⟩ := DataW.trod_int Try.underlying45 hz1
  obtain ⟨x3, e3, _, w3⟩ := DataW.trod_int Try.underlying45 hz2
  obtain ⟨x4, e4, _, w4⟩ := DataW.trod_int Try.underlying45 hz3
  simp at e0 e1 e2 e3 e4 e5 e6
  subst e0 e1 e2 e3 e4 e5 e6
  obtain ⟨b1, rfl⟩ := word_of_wf w1
  obtain ⟨b2, rfl⟩ := word_of_wf w2
  obtain ⟨b3, rfl⟩ := word_of_wf w3
  obtain ⟨b4, rfl⟩ := word_of_wf w4
  exact ⟨⟨x0, ⟨b1, b2, b3, b4⟩, x5, x6⟩, rfl⟩
instance : Inhabited Nd := ⟨⟨0, k0, 0, 0⟩⟩
set_option maxRecDepth 20000 in
/-- An argument that is a row of nodes. -/
theorem open_resS {H : Type} {enc : TypeId × Value → H} {W : World} {v : Value} {d : DataW H} {p : List MemPlace} (hv : ∃ ao N cap, v = .slice ao N cap) (h : DataW.Trod enc Try.prog W 0 (fun _ => true) true 22 v d p) :
    ∃ (ao : Option Addr) (cap : Nat) (ts : List Nd), v = .slice ao ts.length cap ∧ ts.length ≤ 9223372036854775807 ∧ (ts.length ≤ 140737488355328 → Lies v ts W) := by
  obtain ⟨ao, N, cap, rfl⟩ := hv
  obtain ⟨fuel, hf⟩ := h
  have hf : DataW.trod enc Try.prog W 0 (fun _ => true) true fuel 22 [.slice ao N cap] = some (d, p) := hf
  rcases open_slice Try.underlying22 hf with ⟨h1, _⟩ | ⟨a, len, cap', m, n, D, Pl, h1, _, hl, hm, hmm, _, hx⟩
  · obtain ⟨rfl, rfl, rfl⟩ : ao = none ∧ N = 0 ∧ cap = 0 := by simpa using h1
    exact ⟨none, 0, [], rfl, Nat.zero_le _, fun _ => ⟨none, 0, rfl, Nat.zero_le _, fun j n h => by simp at h⟩⟩
  · obtain ⟨rfl, rfl, rfl⟩ : ao = some a ∧ N = len ∧ cap = cap' := by simpa using h1
    rw [if_pos rfl] at hmm
    have each : ∀ i, i < m → ∃ q : Nd, W.cells? 0 (a.add (i * 7)) 7 = some q.cells := fun i hi => by
      obtain ⟨cs', h2, h3⟩ := hx i hi
      obtain ⟨q, rfl⟩ := trod_node h3
      rw [cellsRe] at h2
      exact ⟨q, h2⟩
    obtain ⟨F, hF⟩ := choose_lt each
    refine ⟨some a, cap, (List.range N).map F, by simp, ?_, fun hN => ⟨some a, cap, by simp, hN, fun j q hj => ?_⟩⟩
    · unfold maxLen at hm; simp; omega
    · have hjN : j < N := by
        by_cases h : j < N
        · exact h
        · rw [List.getElem?_eq_none (by simp; omega)] at hj; cases hj
      have hq : F j = q := by simpa [hjN] using hj
      have hc := hF j (by omega)
      rw [hq] at hc
      obtain ⟨_, _, hcs⟩ := World.cells?_some hc
      have c0 := hcs 0 (by omega)
      obtain ⟨ab, aoff, asp⟩ := a
      have hone : ∀ i, i < 7 → ∃ u, q.cells[i]? = some u := fun i hi => ⟨q.cells[i]'hi, List.getElem?_eq_getElem _⟩
      have hblk : ab < W.heap.size := by
        have h := (cell_plain (show W.cell? _ = some (.int .i64 q.k) from c0)).2
        have e : (((⟨ab, aoff, asp⟩ : Addr).add (j * 7)).add 0).block = ab := by unfold Addr.add; split <;> split <;> rfl
        rwa [e] at h
      have hsp : asp = none := by
        have c00 := (World.cells?_some (hF 0 (by omega))).2.2 0 (by omega)
        have e : ((⟨ab, aoff, asp⟩ : Addr).add (0 * 7)).add 0 = ⟨ab, aoff, asp⟩ := rfl
        rw [e] at c00
        exact (cell_plain (show W.cell? _ = some (.int .i64 (F 0).k) from c00)).1
      subst hsp
      have ea : ∀ i, ((⟨ab, aoff, none⟩ : Addr).add (j * 7)).add i = ⟨ab, aoff + j * 7 + i, none⟩ := fun i => by
        unfold Addr.add
        by_cases h1 : j * 7 = 0 <;> by_cases h2 : i = 0 <;> simp [h1, h2]
      refine ⟨ab, aoff, rfl, hblk, ?_⟩
      have c1 := hcs 1 (by omega)
      have c2 := hcs 2 (by omega)
      have c3 := hcs 3 (by omega)
      have c4 := hcs 4 (by omega)
      have c5 := hcs 5 (by omega)
      have c6 := hcs 6 (by omega)
      rw [ea] at c0 c1 c2 c3 c4 c5 c6
      exact ⟨c0, c1, c2, c3, c4, c5, c6⟩
end Go.Proofs.Ytkgpnlldlekcbaa
