/- What the statement DecReads asks of a number's text: its point, how many figures stand behind it, and how it is read with noughts added. No program stands in this file. -/
import Derived.Test.YtbogojecnonepaaDoorDecParse
namespace Go.Proofs.YtbogojecnonepaaDoor
open Go.RowKit Go.Lib

/-- Whether a point has come by, and how many bytes since. -/
def seen (x : Bool × Nat) (c : UInt8) : Bool × Nat := (x.1 || c == 46, if x.1 then x.2 + 1 else x.2)
def seenL (l : List UInt8) : Bool × Nat := l.foldl seen (false, 0)
theorem seenL_snoc (l : List UInt8) (c : UInt8) : seenL (l ++ [c]) = seen (seenL l) c := by unfold seenL; rw [List.foldl_append]; rfl
theorem seen_none (l : List UInt8) (h : ∀ c ∈ l, c ≠ 46) : ∀ k, l.foldl seen (false, k) = (false, k) := by
  induction l with
  | nil => intro k; rfl
  | cons c r ih =>
    intro k
    have h1 : (c == 46) = false := beq_eq_false_iff_ne.2 (h c (List.mem_cons_self ..))
    rw [List.foldl_cons]
    have : seen (false, k) c = (false, k) := by unfold seen; rw [h1]; rfl
    rw [this, ih (fun d hd => h d (List.mem_cons_of_mem _ hd))]
theorem seen_all (l : List UInt8) : ∀ k, l.foldl seen (true, k) = (true, k + l.length) := by
  induction l with
  | nil => intro k; rfl
  | cons c r ih =>
    intro k
    rw [List.foldl_cons]
    have : seen (true, k) c = (true, k + 1) := rfl
    rw [this, ih, List.length_cons]
    congr 1; omega
theorem fig_no_point {l : List UInt8} (h : l.all isFig = true) : ∀ c ∈ l, c ≠ 46 := by
  rw [List.all_eq_true] at h
  exact fun c hc => (fig_plain c (h c hc)).2.2
theorem seen_text (sg de fr : List UInt8) (point : Bool) (hs : sg = [] ∨ sg = [45]) (hd : de.all isFig = true) (hp : point = false → fr = []) :
    seenL (sg ++ (de ++ ptL point fr)) = (point, fr.length) := by
  unfold seenL
  have h1 : ∀ c ∈ sg ++ de, c ≠ 46 := by
    intro c hc
    rw [List.mem_append] at hc
    rcases hc with h | h
    · rcases hs with rfl | rfl
      · cases h
      · have : c = 45 := by simpa using h
        rw [this]; decide
    · exact fig_no_point hd c h
  rw [← List.append_assoc, List.foldl_append, seen_none _ h1]
  cases point with
  | false => rw [hp rfl]; rfl
  | true =>
    show (46 :: fr).foldl seen (false, 0) = _
    rw [List.foldl_cons]
    have : seen (false, 0) 46 = (true, 0) := rfl
    rw [this, seen_all, Nat.zero_add]

/-- The two numerals that the statement reads. -/
theorem reads_seventh (n : Int) (hn : -9223372036854775808 ≤ n ∧ n ≤ 9223372036854775807) (sg fr : List UInt8) (d : UInt8) (hd : isFig d = true)
    (hsg : n < 0 ∧ sg = [45] ∨ 0 ≤ n ∧ sg = []) (_hff : fr.all isFig = true) (hfr : (fr ++ zeros6).take 6 = frac 6 (n.natAbs % 1000000)) (hl : fr.length ≤ 6) :
    readD (sg ++ (decDigits (n.natAbs / 1000000) ++ (46 :: (fr ++ List.replicate (6 - fr.length) 48 ++ [d])))) = (n, ((sg ++ (decDigits (n.natAbs / 1000000) ++ (46 :: (fr ++ List.replicate (6 - fr.length) 48 ++ [d])))).length : Int), 0) := by
  have h6 : fr ++ List.replicate (6 - fr.length) 48 = frac 6 (n.natAbs % 1000000) := by
    rw [← hfr, zeros6_take fr (6 - fr.length) (by rw [List.length_append, List.length_replicate]; omega)]
  rw [h6]
  have := read_of n n.natAbs 0 hn rfl sg [] (frac 6 (n.natAbs % 1000000) ++ [d]) [] true (by rcases hsg with h | h; exact .inl h; exact .inr ⟨h.1, .inl h.2⟩) rfl rfl
    (by rw [List.all_append, frac_figs, List.all_cons, List.all_nil, hd]; rfl)
    (by rw [List.append_assoc]; exact List.take_left' (frac_length 6 _)) (by intro h; cases h) (by intro c r h; cases h) (by intro h; cases h)
  rw [List.nil_append, List.append_nil] at this
  exact this
theorem reads_noughts (n : Int) (hn : -9223372036854775808 ≤ n ∧ n ≤ 9223372036854775807) (h0 : 0 ≤ n) :
    readD (43 :: 48 :: 48 :: textL n) = (n, ((textL n).length : Int) + 3, 0) := by
  obtain ⟨sg, fr, point, hsg, ht, hff, hfr, hp, _, _⟩ := text_parts n
  have hs : sg = [] := by rcases hsg with h | h; omega; exact h.2
  have := read_of n n.natAbs 0 hn rfl [43] [48, 48] fr [] point (.inr ⟨h0, .inr rfl⟩) (by decide) (by decide) hff hfr hp (by intro c r h; cases h) (by intro _; simp)
  rw [List.append_nil] at this
  rw [ht, hs]
  refine Eq.trans this ?_
  congr 2
end Go.Proofs.YtbogojecnonepaaDoor
