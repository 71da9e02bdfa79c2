/- What a class's text comes to: the items between its brackets, one behind the other. -/
import Derived.Test.YtolofcfegoeenaaClsRead
namespace Go.Proofs.Ytolofcfegoeenaa
open Go.RowKit Go.Lib

def zeroK : Cl := fun _ => 0
/-- A sign, or two with - between, that a text begins with: the two bytes, and how many bytes of the text they take. -/
def itemD (l : List UInt8) : Option (Int × Int × Nat) :=
  match signD l with
  | none => none
  | some (a, n) =>
    if (l.drop n.toNat).head? = some 45 then
      match signD (l.drop (n.toNat + 1)) with
      | none => none
      | some (b, m) => if b < a then none else some (a, b, n.toNat + 1 + m.toNat)
    else some (a, a, n.toNat)
theorem itemD_used {l : List UInt8} {a b : Int} {n : Nat} (h : itemD l = some (a, b, n)) : 1 ≤ n ∧ n ≤ l.length ∧ 0 ≤ a ∧ a ≤ b ∧ b ≤ 255 := by
  unfold itemD at h
  cases hs : signD l with
  | none => rw [hs] at h; cases h
  | some r =>
    obtain ⟨x, i⟩ := r
    rw [hs] at h
    obtain ⟨h1, h2, h3, h4⟩ := signD_used hs
    dsimp only at h
    split at h
    · cases hs2 : signD (l.drop (i.toNat + 1)) with
      | none => rw [hs2] at h; cases h
      | some r2 =>
        obtain ⟨y, j⟩ := r2
        rw [hs2] at h
        obtain ⟨k1, k2, k3, k4⟩ := signD_used hs2
        rw [List.length_drop] at k2
        dsimp only at h
        split at h
        · cases h
        · cases h
          exact ⟨by omega, by omega, h3, by omega, k4⟩
    · cases h
      exact ⟨by omega, by omega, h3, Int.le_refl _, h4⟩
/-- The items ahead of a ]: what they come to, and the place behind the ]. -/
def listedD (l : List UInt8) (K : Cl) (pos : Nat) : Option (Cl × Nat) :=
  match itemD l with
  | none => none
  | some (a, b, n) =>
    if (l.drop n).head? = some 93 then some (orK K (spanK a.toNat b.toNat), pos + n + 1)
    else if _h : (l.drop n).length < l.length then listedD (l.drop n) (orK K (spanK a.toNat b.toNat)) (pos + n) else none
termination_by l.length
decreasing_by exact _h

theorem listed_none {l : List UInt8} {K : Cl} {pos : Nat} (h : itemD l = none) : listedD l K pos = none := by
  rw [listedD, h]
theorem listed_end {l : List UInt8} {K : Cl} {pos : Nat} {a b : Int} {n : Nat} (h : itemD l = some (a, b, n)) (he : (l.drop n).head? = some 93) : listedD l K pos = some (orK K (spanK a.toNat b.toNat), pos + n + 1) := by
  rw [listedD, h]
  dsimp only
  rw [if_pos he]
theorem listed_more {l : List UInt8} {K : Cl} {pos : Nat} {a b : Int} {n : Nat} (h : itemD l = some (a, b, n)) (he : ¬ (l.drop n).head? = some 93) : listedD l K pos = listedD (l.drop n) (orK K (spanK a.toNat b.toNat)) (pos + n) := by
  have hu := itemD_used h
  rw [listedD, h]
  dsimp only
  rw [if_neg he, dif_pos (by rw [List.length_drop]; omega)]
theorem head_drop (l : List UInt8) (i : Nat) : (l.drop i).head? = l[i]? := by rw [List.head?_drop]

/-- A class's text, read: the class, and the place behind its ]. -/
def readD (l : List UInt8) : Option (Cl × Nat) :=
  if l.head? = some 91 then
    if l[1]? = some 94 then (listedD (l.drop 2) zeroK 2).map fun r => (notK (orK r.1 (oneK 10)), r.2)
    else listedD (l.drop 1) zeroK 1
  else none
def readE : Option (Cl × Nat) → Ending
  | none => .returned (.tuple #[clsV zeroK, .int .i64 0, .int .i64 2])
  | some (K, n) => .returned (.tuple #[clsV K, .int .i64 (n : Int), .int .i64 0])
end Go.Proofs.Ytolofcfegoeenaa
