/- The document's whole numbers of twelve figures of 32 bits: by two. -/
import Derived.Test.YtokfkckfclnoaaaGreatDoorDecRefTimes2
namespace Go.Proofs.YtokfkckfclnoaaaGreatDoor
open Go.RowKit

theorem digs_valL (l : List Int) (h : fig32 l) : digs l.length (valL l) = l := by
  induction l with
  | nil => rfl
  | cons d r ih =>
    obtain ⟨h0, h1⟩ := h d (by simp)
    have hr := ih (fun e he => h e (by simp [he]))
    simp only [valL, List.length_cons, digs]
    rw [show (d + 4294967296 * valL r) % 4294967296 = d by omega, show (d + 4294967296 * valL r) / 4294967296 = valL r by omega, hr]
theorem valL_of (l : List Int) (n : Int) (h : fig32 l) (hl : l.length = 12) (e : valL l = n) : l = digs 12 n := by
  rw [← e, ← hl, digs_valL l h]
theorem fig32_snoc {a : List Int} {d : Int} (h : fig32 (a ++ [d])) : fig32 a ∧ 0 ≤ d ∧ d ≤ 4294967295 := ⟨fun e he => h e (by simp [he]), h d (by simp)⟩

end Go.Proofs.YtokfkckfclnoaaaGreatDoor
