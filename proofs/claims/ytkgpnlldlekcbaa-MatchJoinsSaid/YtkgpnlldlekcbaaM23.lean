/- Packed texts: MbKid. What each of them proves stands above its theorems; the conditions stand in these. -/
import Derived.Test.YtkgpnlldlekcbaaM14
namespace Go.Proofs.Ytkgpnlldlekcbaa
open Go.RowKit Go.Lib

/-- Has a node this one as a kid? -/
def isKid (n : Nd) (i : Nat) : Prop := ((n.k = 2 ∨ n.k = 3 ∨ n.k = 4 ∨ n.k = 5 ∨ n.k = 6) ∧ n.x = (i : Int)) ∨ ((n.k = 2 ∨ n.k = 3) ∧ n.y = (i : Int))
theorem up_kid {up : Nat → Nat} : ∀ (t : Tr) (n : Nat), t.ok → UpOk up t n → ∀ r, n ≤ r → r + 1 < n + t.size → ∃ nd : Nd, r < up r ∧ up r < n + t.size ∧ (t.row n)[up r - n]? = some nd ∧ isKid nd r
  | .leaf k, n, _, _, r, h1, h2 => by have ez : (Tr.leaf k).size = 1 := rfl; omega
  | .set k, n, _, _, r, h1, h2 => by have ez : (Tr.set k).size = 1 := rfl; omega
  | .rep k a, n, hok, hu, r, h1, h2 => by
    have ez : (Tr.rep k a).size = a.size + 1 := rfl
    have hl := Tr.row_length a n
    have hz := a.size_pos
    by_cases h : r + 1 < n + a.size
    · obtain ⟨nd, e1, e2, e3, e4⟩ := up_kid a n hok.2 hu.2 r h1 h
      refine ⟨nd, e1, by omega, ?_, e4⟩
      show (a.row n ++ [_])[up r - n]? = _
      rw [List.getElem?_append_left (by omega)]
      exact e3
    · have hr : r = n + a.size - 1 := by omega
      have e := hu.1
      rw [← hr] at e
      have hk := hok.1
      refine ⟨⟨(k : Int), k0, (n : Int) + a.size - 1, 0⟩, by omega, by omega, ?_, .inl ⟨by dsimp only; omega, by dsimp only; omega⟩⟩
      show (a.row n ++ [_])[up r - n]? = _
      rw [List.getElem?_append_right (by omega), hl, e]
      simp
  | .two k a b, n, hok, hu, r, h1, h2 => by
    have ez : (Tr.two k a b).size = a.size + b.size + 1 := rfl
    have hl := Tr.row_length a n
    have hl2 := Tr.row_length b (n + a.size)
    have hz := a.size_pos
    have hz2 := b.size_pos
    have hk := hok.1
    by_cases h : r + 1 < n + a.size
    · obtain ⟨nd, e1, e2, e3, e4⟩ := up_kid a n hok.2.1 hu.2.2.1 r h1 h
      refine ⟨nd, e1, by omega, ?_, e4⟩
      show (a.row n ++ _)[up r - n]? = _
      rw [List.getElem?_append_left (by omega)]
      exact e3
    · by_cases h3 : r + 1 = n + a.size
      · have hr : r = n + a.size - 1 := by omega
        have e := hu.1
        rw [← hr] at e
        refine ⟨⟨(k : Int), k0, (n : Int) + a.size - 1, (n : Int) + a.size + b.size - 1⟩, by omega, by omega, ?_, .inl ⟨by dsimp only; omega, by dsimp only; omega⟩⟩
        show (a.row n ++ (b.row (n + a.size) ++ [_]))[up r - n]? = _
        rw [List.getElem?_append_right (by omega), List.getElem?_append_right (by omega), hl, hl2, e]
        rw [show n + a.size + b.size - n - a.size - b.size = 0 by omega]
        rfl
      · by_cases h4 : r + 1 < n + a.size + b.size
        · obtain ⟨nd, e1, e2, e3, e4⟩ := up_kid b (n + a.size) hok.2.2 hu.2.2.2 r (by omega) h4
          refine ⟨nd, e1, by omega, ?_, e4⟩
          show (a.row n ++ (b.row (n + a.size) ++ [_]))[up r - n]? = _
          rw [List.getElem?_append_right (by omega), hl, List.getElem?_append_left (by omega), ← e3]
          congr 1
          omega
        · have hr : r = n + a.size + b.size - 1 := by omega
          have e := hu.2.1
          rw [← hr] at e
          refine ⟨⟨(k : Int), k0, (n : Int) + a.size - 1, (n : Int) + a.size + b.size - 1⟩, by omega, by omega, ?_, .inr ⟨by dsimp only; omega, by dsimp only; omega⟩⟩
          show (a.row n ++ (b.row (n + a.size) ++ [_]))[up r - n]? = _
          rw [List.getElem?_append_right (by omega), List.getElem?_append_right (by omega), hl, hl2, e]
          rw [show n + a.size + b.size - n - a.size - b.size = 0 by omega]
          rfl
theorem Tree.up {ts : List Nd} {up : Nat → Nat} {T : Tr} (h : Tree ts up T) {r : Nat} (hr : r + 1 < ts.length) : ∃ n, r < up r ∧ up r < ts.length ∧ ts[up r]? = some n ∧ isKid n r := by
  have hl := h.len
  obtain ⟨nd, e1, e2, e3, e4⟩ := up_kid T 0 h.ok h.occ.up r (by omega) (by omega)
  exact ⟨nd, e1, by omega, by rw [h.row]; exact e3, e4⟩
end Go.Proofs.Ytkgpnlldlekcbaa
