/- The document's examples of spans, as plain rules. No condition. -/
import Derived.Test.YtolofcfegoeenaaMaSpansRow
namespace Go.Proofs.Ytolofcfegoeenaa
open Go.RowKit Go.Lib

theorem many_set {s : List UInt8} {k : K4} {a b : Nat} : Many (St s (.set k)) a b ↔ a ≤ b ∧ ∀ i, a ≤ i → i < b → inSet s k i = true := by
  constructor
  · intro h
    induction h with
    | refl => exact ⟨Nat.le_refl _, fun i h1 h2 => by omega⟩
    | @tail b c h1 h2 ih =>
      have h2 : c = b + 1 ∧ inSet s k b = true := h2
      refine ⟨by omega, fun i g1 g2 => ?_⟩
      by_cases hi : i < b
      · exact ih.2 i g1 hi
      · rw [show i = b by omega]; exact h2.2
  · rintro ⟨h1, h2⟩
    obtain ⟨d, rfl⟩ : ∃ d, b = a + d := ⟨b - a, by omega⟩
    induction d with
    | zero => exact .refl _
    | succ d ih => exact (ih (by omega) (fun i g1 g2 => h2 i g1 (by omega))).tail ⟨by omega, h2 _ (by omega) (by omega)⟩
theorem st_star {s : List UInt8} {k : K4} {a b : Nat} : St s (.rep 4 (.set k)) a b ↔ a ≤ b ∧ ∀ i, a ≤ i → i < b → inSet s k i = true := by
  rw [← many_set]
  exact Iff.rfl
theorem st_plus {s : List UInt8} {k : K4} {a b : Nat} : St s (.rep 5 (.set k)) a b ↔ a < b ∧ ∀ i, a ≤ i → i < b → inSet s k i = true := by
  show (∃ c, St s (.set k) a c ∧ Many (St s (.set k)) c b) ↔ _
  constructor
  · rintro ⟨c, hc, hm⟩
    have hc : c = a + 1 ∧ inSet s k a = true := hc
    obtain ⟨h1, h2⟩ := many_set.1 hm
    refine ⟨by omega, fun i g1 g2 => ?_⟩
    by_cases hi : i = a
    · rw [hi]; exact hc.2
    · exact h2 i (by omega) g2
  · rintro ⟨h1, h2⟩
    exact ⟨a + 1, ⟨rfl, h2 a (Nat.le_refl _) h1⟩, many_set.2 ⟨h1, fun i g1 g2 => h2 i (by omega) g2⟩⟩
theorem goL_end {G : Nat → Int} {n f a : Nat} {e : Int} (h : n < a) : goL G n (f + 1) a e = [] := by
  show (if n < a then [] else _) = _
  rw [if_pos h]
theorem goL_skip {G : Nat → Int} {n f a : Nat} {e : Int} (h : a ≤ n) (hc : G a = -1 ∨ (G a = a ∧ e = a)) : goL G n (f + 1) a e = goL G n f (a + 1) e := by
  show (if n < a then [] else if G a = -1 ∨ (G a = a ∧ e = a) then goL G n f (a + 1) e else _) = _
  rw [if_neg (by omega), if_pos hc]
theorem goL_take {G : Nat → Int} {n f a b : Nat} {e : Int} (h : a ≤ n) (hG : G a = (b : Int)) (hne : ¬ (b = a ∧ e = a)) : goL G n (f + 1) a e = (a, b) :: goL G n f b (b : Int) := by
  show (if n < a then [] else if G a = -1 ∨ (G a = a ∧ e = a) then _ else (a, (G a).toNat) :: goL G n f (G a).toNat (G a)) = _
  rw [if_neg (by omega), if_neg (by rw [hG]; exact fun hh => hh.elim (fun h => by omega) (fun h => hne ⟨by omega, h.2⟩)), hG, Int.toNat_natCast]
def tA : Tr := .rep 5 (.set (k4 (oneK 97)))
def tB : Tr := .rep 4 (.set (k4 (oneK 98)))
theorem inSet_one {s : List UInt8} {n p : Nat} {c : UInt8} (h : s[p]? = some c) : inSet s (k4 (oneK n)) p = (decide (c.toNat = n)) := by
  unfold inSet
  rw [h]
  dsimp only
  rw [has_k4 _ c.toNat_lt, has_one]
theorem spans_A : spansL [120, 97, 97, 121] tA 0 = [(1, 3)] := by
  have i0 : inSet [120, 97, 97, 121] (k4 (oneK 97)) 0 = false := (inSet_one rfl).trans rfl
  have i1 : inSet [120, 97, 97, 121] (k4 (oneK 97)) 1 = true := (inSet_one rfl).trans rfl
  have i2 : inSet [120, 97, 97, 121] (k4 (oneK 97)) 2 = true := (inSet_one rfl).trans rfl
  have i3 : inSet [120, 97, 97, 121] (k4 (oneK 97)) 3 = false := (inSet_one rfl).trans rfl
  have g0 : farG [120, 97, 97, 121] tA 0 = -1 := farG_none fun a _ h => by
    have := (st_plus.1 h).2 0 (Nat.le_refl _) (st_plus.1 h).1
    rw [i0] at this; cases this
  have g1 : farG [120, 97, 97, 121] tA 1 = ((3 : Nat) : Int) := farG_some (by decide) (st_plus.2 ⟨by omega, fun i h1 h2 => by
    rcases (show i = 1 ∨ i = 2 by omega) with rfl | rfl
    · exact i1
    · exact i2⟩) fun a' h1 _ h => by
      have := (st_plus.1 h).2 3 (by omega) h1
      rw [i3] at this; cases this
  have g3 : farG [120, 97, 97, 121] tA 3 = -1 := farG_none fun a _ h => by
    have := (st_plus.1 h).2 3 (Nat.le_refl _) (st_plus.1 h).1
    rw [i3] at this; cases this
  have g4 : farG [120, 97, 97, 121] tA 4 = -1 := farG_none fun a ha h => by
    have := (st_plus.1 h).1
    have ha : a ≤ 4 := ha
    omega
  show goL (farG [120, 97, 97, 121] tA) 4 12 0 (-1) = _
  rw [goL_skip (f := 11) (by omega) (.inl g0), goL_take (f := 10) (by omega) g1 (by omega), goL_skip (f := 9) (by omega) (.inl g3), goL_skip (f := 8) (by omega) (.inl g4), goL_end (f := 7) (by omega)]
theorem spans_B : spansL [97, 98, 98] tB 0 = [(0, 0), (1, 3)] := by
  have i0 : inSet [97, 98, 98] (k4 (oneK 98)) 0 = false := (inSet_one rfl).trans rfl
  have i1 : inSet [97, 98, 98] (k4 (oneK 98)) 1 = true := (inSet_one rfl).trans rfl
  have i2 : inSet [97, 98, 98] (k4 (oneK 98)) 2 = true := (inSet_one rfl).trans rfl
  have g0 : farG [97, 98, 98] tB 0 = ((0 : Nat) : Int) := farG_some (by decide) (st_star.2 ⟨Nat.le_refl _, fun i h1 h2 => by omega⟩) fun a' h1 _ h => by
    have := (st_star.1 h).2 0 (Nat.le_refl _) h1
    rw [i0] at this; cases this
  have g1 : farG [97, 98, 98] tB 1 = ((3 : Nat) : Int) := farG_some (by decide) (st_star.2 ⟨by omega, fun i h1 h2 => by
    rcases (show i = 1 ∨ i = 2 by omega) with rfl | rfl
    · exact i1
    · exact i2⟩) fun a' h1 h2 _ => by
      have h2 : a' ≤ 3 := h2
      omega
  have g3 : farG [97, 98, 98] tB 3 = ((3 : Nat) : Int) := farG_some (by decide) (st_star.2 ⟨Nat.le_refl _, fun i h1 h2 => by omega⟩) fun a' h1 h2 _ => by
    have h2 : a' ≤ 3 := h2
    omega
  show goL (farG [97, 98, 98] tB) 3 10 0 (-1) = _
  rw [goL_take (f := 9) (by omega) g0 (by omega), goL_skip (f := 8) (by omega) (.inr ⟨g0, rfl⟩), goL_take (f := 7) (by omega) g1 (by omega), goL_skip (f := 6) (by omega) (.inr ⟨g3, rfl⟩), goL_end (f := 5) (by omega)]
end Go.Proofs.Ytolofcfegoeenaa
