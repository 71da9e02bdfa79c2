/- Packed texts: SuFrameUp. What each of them proves stands above its theorems; the conditions stand in these. -/
import Derived.Test.YtkgpnlldlekcbaaGreatDoorRows
import Derived.Test.YtkgpnlldlekcbaaGreatDoorX15
import Derived.Test.YtkgpnlldlekcbaaGreatDoorX16
namespace Go.Proofs.YtkgpnlldlekcbaaGreatDoor
open Go.ChangeShapes Go.WideShapes Go.ChangeAt Go.RowKit Go.Deep

theorem up_string {H : Type} (bytes : List UInt8) : Rows.uptoBulk (DataW.lit (H := H) (.string bytes)) = bytes.length + 1 := by
  simp [Rows.uptoBulk]
theorem up_range {H : Type} (F : Nat → ByteArray) : ∀ n, Rows.uptoBulkAll ((List.range n).map fun i => DataW.lit (H := H) (.string (F i).data.toList)) = longN ((List.range n).map F) := by
  have app : ∀ l r : List (DataW H), Rows.uptoBulkAll (l ++ r) = Rows.uptoBulkAll l + Rows.uptoBulkAll r := by
    intro l r
    induction l with
    | nil => simp [Rows.uptoBulkAll]
    | cons x l ih => simp only [List.cons_append, Rows.uptoBulkAll, ih]; omega
  intro n
  induction n with
  | zero => rfl
  | succ n ih =>
    rw [List.range_succ, List.map_append, app, ih, List.map_append]
    have e : (F n).data.toList.length = (F n).size := Array.length_toList
    simp only [List.map_cons, List.map_nil, Rows.uptoBulkAll, up_string, longN, List.length_append, List.map_append, List.sum_append, List.length_cons, List.length_nil, List.sum_cons, List.sum_nil]
    omega
theorem long_len (xs : List ByteArray) : xs.length ≤ longN xs := Nat.le_add_right _ _
set_option maxRecDepth 20000 in
/-- An argument that is a row of texts, and its bulk. -/
theorem open_bulk {H : Type} {enc : TypeId × Value → H} {W : World} {base : Nat} {v : Value} {d : DataW H} {p : List MemPlace} (hv : Value.okWide Tryz.prog W .any base 22 v) (h : DataW.Trod enc Tryz.prog W 0 (fun _ => true) true 22 v d p) :
    ∃ (ao : Option Addr) (cap : Nat) (xs : List ByteArray), v = .slice ao xs.length cap ∧ (xs.length ≤ 140737488355328 → Strs v xs W) ∧ longN xs ≤ Rows.uptoBulk d := by
  obtain ⟨ao, N, cap, rfl⟩ : ∃ ao N cap, v = .slice ao N cap := by
    cases v <;> first | exact ⟨_, _, _, rfl⟩ | (exfalso; simp [Value.okWide, Cell.okWide, Cell.ok, Tryz.underlying22] at hv)
  obtain ⟨fuel, hf⟩ := h
  have hf : DataW.trod enc Tryz.prog W 0 (fun _ => true) true fuel 22 [.slice ao N cap] = some (d, p) := hf
  rcases open_strs Tryz.underlying22 Tryz.underlying9 cellsStr hf with ⟨h1, h2⟩ | ⟨a, len, cap', m, Sx, h1, _, hl, hm, hmm, h2, hx⟩
  · obtain ⟨rfl, rfl, rfl⟩ : ao = none ∧ N = 0 ∧ cap = 0 := by simpa using h1
    exact ⟨none, 0, [], rfl, fun _ => Strs.nil W, Nat.zero_le _⟩
  · obtain ⟨rfl, rfl, rfl⟩ : ao = some a ∧ N = len ∧ cap = cap' := by simpa using h1
    have hd : d = .slice ((List.range N).map fun i => .lit (.string (Sx i).data.toList)) ((List.range (m - N)).map fun j => .lit (.string (Sx (N + j)).data.toList)) := (Prod.mk.inj h2).1
    rw [if_pos rfl] at hmm
    refine ⟨some a, cap, (List.range N).map Sx, by simp, fun hN => ⟨some a, cap, by simp, by simpa using hl, hN, fun j x hj => ?_⟩, ?_⟩
    · have hjN : j < N := by
        by_cases h : j < N
        · exact h
        · rw [List.getElem?_eq_none (by simp; omega)] at hj; cases hj
      have hq : Sx j = x := by simpa [hjN] using hj
      have hc := (hx j (by omega)).1
      have hc0 := (hx 0 (by omega)).1
      rw [hq] at hc
      obtain ⟨ab, aoff, asp⟩ := a
      have hsp : asp = none := by
        have e : (⟨ab, aoff, asp⟩ : Addr).add 0 = ⟨ab, aoff, asp⟩ := rfl
        rw [e] at hc0
        exact (cell_plain hc0).1
      subst hsp
      have ea : (⟨ab, aoff, none⟩ : Addr).add j = ⟨ab, aoff + j, none⟩ := by
        unfold Addr.add
        by_cases h2 : j = 0 <;> simp [h2]
      rw [ea] at hc
      exact ⟨ab, aoff, rfl, (cell_plain hc).2, hc⟩
    · rw [hd, ← up_range (H := H) Sx N]
      simp only [Rows.uptoBulk]
      omega
end Go.Proofs.YtkgpnlldlekcbaaGreatDoor
