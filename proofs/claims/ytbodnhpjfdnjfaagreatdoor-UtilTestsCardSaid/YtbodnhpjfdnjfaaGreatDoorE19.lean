/- Packed texts: DecRefRead. What each of them proves stands above its theorems; the conditions stand in these. -/
import Derived.Test.YtbodnhpjfdnjfaaGreatDoorE3
import Derived.Test.YtbodnhpjfdnjfaaGreatDoorE17
namespace Go.Proofs.YtbodnhpjfdnjfaaGreatDoor
open Go.RowKit

/-- Is a figure at a place? -/
def figAt (l : List UInt8) (k : Nat) : Bool := match l[k]? with | some c => isFig c | none => false
theorem figAt_out {l : List UInt8} {k : Nat} (h : l.length ≤ k) : figAt l k = false := by unfold figAt; rw [List.getElem?_eq_none h]
theorem figAt_in {l : List UInt8} {k : Nat} (h : k < l.length) : figAt l k = isFig l[k] := by unfold figAt; rw [List.getElem?_eq_getElem h]
theorem refFigure_any (s : ByteArray) (k : Nat) (w : World) (_hs : s.size ≤ 70000000000000) :
    Calls Tryz.prog 153 #[.string s, .int .i64 (k : Int)] w fun e w' => e = .returned (.bool (figAt s.data.toList k)) ∧ w = w' := by
  by_cases hk : k < s.size
  · have hl : k < s.data.toList.length := by rw [Array.length_toList]; exact hk
    have hf : figAt s.data.toList k = isFig s[k] := figAt_in hl
    obtain ⟨c, hc⟩ : ∃ c, s[k] = c := ⟨_, rfl⟩
    rw [hf, hc]
    obtain ⟨z, hz⟩ : ∃ z : Int, (c.toNat : Int) = z := ⟨_, rfl⟩
    have hfz : isFig c = (decide (48 ≤ z) && decide (z ≤ 57)) := by rw [← hz]; rfl
    rw [hfz]
    clear hf hfz
    by_cases h1 : (48 : Int) ≤ z <;> by_cases h2 : z ≤ 57
    all_goals
      have HR : Hid ((decide (48 ≤ z) && decide (z ≤ 57)) = (decide (48 ≤ z) && decide (z ≤ 57))) := rfl
      go_enter Tryz.func153, Tryz.ntmps153
      go_wp2
      go_ret
      refine ⟨?_, rfl⟩
      simp [h1, h2]
  · rw [figAt_out (by rw [Array.length_toList]; exact Nat.le_of_not_lt hk)]
    go_enter Tryz.func153, Tryz.ntmps153
    go_wp2
    go_ret
    exact ⟨rfl, rfl⟩
/-- The ninth figure of 32 bits: whether a number is 2^256 or more. -/
theorem digs_eight (n : Int) (h0 : 0 ≤ n) (h1 : n < 115792089237316195423570985008687907853269984665640564039457584007913129639936 * 4294967296) (l : List Int) (hl : digs 12 n = l) :
    l.getD 8 0 = n / 115792089237316195423570985008687907853269984665640564039457584007913129639936 := by
  subst hl
  have e : (digs 12 n).getD 8 0 = n / 4294967296 / 4294967296 / 4294967296 / 4294967296 / 4294967296 / 4294967296 / 4294967296 / 4294967296 % 4294967296 := rfl
  rw [e]
  omega
theorem ref_take_snoc (l : List UInt8) (k : Nat) (h : k < l.length) : l.take (k + 1) = l.take k ++ [l[k]] := by
  rw [List.take_add_one, List.getElem?_eq_getElem h]; rfl
theorem figs_in {U : List UInt8} {m : Nat} (h : m < (figs U).length) : ∃ h2 : m < U.length, isFig U[m] = true ∧ U.take (m + 1) = U.take m ++ [U[m]] := by
  have hl := figs_length_le U
  have h2 : m < U.length := by omega
  refine ⟨h2, ?_, ref_take_snoc U m h2⟩
  have h3 := figs_isFig U
  rw [List.all_eq_true] at h3
  have h4 : (figs U)[m] = U[m] := by
    have h5 : (figs U)[m]? = (U.take (figs U).length)[m]? := by rw [← figs_prefix U]
    rw [List.getElem?_take_of_lt h, List.getElem?_eq_getElem h, List.getElem?_eq_getElem h2] at h5
    exact Option.some.inj h5
  rw [← h4]
  exact h3 _ (List.getElem_mem h)
theorem figAt_end (U : List UInt8) : figAt U (figs U).length = false := by
  have hl := figs_length_le U
  by_cases h : (figs U).length < U.length
  · rw [figAt_in h]
    cases hb : isFig U[(figs U).length] with
    | false => rfl
    | true =>
      exfalso
      have h1 := figs_rest1 U
      have h2 : rest1 U = U.drop (figs U).length := rfl
      rw [List.drop_eq_getElem_cons h] at h2
      have h3 : ∀ (a : List UInt8) (c : UInt8) (r : List UInt8), a.all isFig = true → isFig c = true → (figs (a ++ c :: r)).length > a.length := by
        intro a
        induction a with
        | nil => intro c r _ hc; show (List.takeWhile isFig (c :: r)).length > 0; rw [List.takeWhile_cons_of_pos hc]; simp
        | cons d a ih =>
          intro c r ha hc
          rw [List.all_cons, Bool.and_eq_true] at ha
          show (List.takeWhile isFig (d :: (a ++ c :: r))).length > (d :: a).length
          rw [List.takeWhile_cons_of_pos ha.1]
          have := ih c r ha.2 hc
          simp only [List.length_cons]
          unfold figs at this
          omega
      have h4 := h3 (figs U) _ (U.drop ((figs U).length + 1)) (figs_isFig U) hb
      rw [← h2, h1] at h4
      omega
  · exact figAt_out (by omega)
theorem figAt_drop (l : List UInt8) (i m : Nat) : figAt l (i + m) = figAt (l.drop i) m := by
  unfold figAt
  rw [List.getElem?_drop]

/-- How far the figures ahead of the point have come: their number, or that it has 256 bits or more. -/
def Come (U : List UInt8) (m : Nat) (ov : Bool) (V : Int) : Prop :=
  (0 ≤ V ∧ V < 115792089237316195423570985008687907853269984665640564039457584007913129639936) ∧
  ((ov = false ∧ V = (natOf (U.take m) : Int)) ∨ (ov = true ∧ (115792089237316195423570985008687907853269984665640564039457584007913129639936 : Int) ≤ (natOf (U.take m) : Int)))
theorem come_step {U : List UInt8} {m : Nat} {ov : Bool} {V : Int} (h : Come U m ov V) (hm : m < (figs U).length) (d : Int) (hd : ∀ h2 : m < U.length, d = (figV U[m] : Int)) (z8 : Int) (h8 : z8 = (V * 10 + d) / 115792089237316195423570985008687907853269984665640564039457584007913129639936) (h9 : 0 ≤ d ∧ d ≤ 9) :
    ((ov || !(z8 == 0)) = true → Come U (m + 1) true 0) ∧ ((ov || !(z8 == 0)) = false → Come U (m + 1) false (V * 10 + d)) := by
  obtain ⟨h2, _, ht⟩ := figs_in hm
  obtain ⟨⟨v0, v1⟩, hc⟩ := h
  have hs : (natOf (U.take (m + 1)) : Int) = 10 * (natOf (U.take m) : Int) + d := by
    rw [ht, natOf_snoc, hd h2]; omega
  unfold Come
  rw [hs]
  constructor
  · intro hb
    refine ⟨⟨by omega, by omega⟩, .inr ⟨rfl, ?_⟩⟩
    rcases hc with ⟨rfl, e⟩ | ⟨rfl, e⟩
    · have : ¬ z8 = 0 := by
        intro e2
        rw [e2] at hb
        exact absurd hb (by decide)
      omega
    · omega
  · intro hb
    rcases hc with ⟨rfl, e⟩ | ⟨rfl, e⟩
    · have : z8 = 0 := by
        rw [Bool.false_or] at hb
        have h1 : (z8 == 0) = true := by
          cases hz : (z8 == 0) with
          | true => rfl
          | false => rw [hz] at hb; exact absurd hb (by decide)
        exact beq_iff_eq.1 h1
      exact ⟨⟨by omega, by omega⟩, .inl ⟨rfl, by omega⟩⟩
    · exact absurd hb (by simp)
end Go.Proofs.YtbodnhpjfdnjfaaGreatDoor
