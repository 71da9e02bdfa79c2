/- For each place the greatest one to which a tree stands: package match's farthest. Conditions: 2000 nodes, 1000000 bytes. -/
import Derived.Test.YtolofcfegoeenaaMaReacher
import Derived.Test.YtolofcfegoeenaaMaReachF
import Derived.Test.YtolofcfegoeenaaMaRepeat
import Derived.Test.YtolofcfegoeenaaMaEnds
namespace Go.Proofs.Ytolofcfegoeenaa
open Go.RowKit Go.Lib

def intC (n : Nat) (G : Nat → Int) : List Value := (List.range (n + 1)).map fun q => .int .i64 (G q)
theorem intC_get (n : Nat) (G : Nat → Int) (q : Nat) (h : q ≤ n) : (intC n G)[q]? = some (.int .i64 (G q)) := by
  unfold intC
  rw [List.getElem?_map, List.getElem?_range (by omega)]
  rfl
theorem intC_set (n : Nat) (G : Nat → Int) (p : Nat) (e : Int) : (intC n G).set p (.int .i64 e) = intC n (fun q => if q = p then e else G q) := by
  have hl : ∀ G, (intC n G).length = n + 1 := fun G => by unfold intC; simp
  apply List.ext_getElem?
  intro j
  rw [List.getElem?_set]
  by_cases hj : j ≤ n
  · rw [intC_get _ _ _ hj, intC_get _ _ _ hj, hl]
    by_cases h : p = j
    · subst h; simp [show p < n + 1 by omega]
    · rw [if_neg h, if_neg (fun e => h e.symm)]
  · rw [List.getElem?_eq_none (by rw [hl]; omega), List.getElem?_eq_none (by rw [hl]; omega), hl]
    by_cases h : p = j
    · subst h; simp [show ¬ p < n + 1 by omega]
    · rw [if_neg h]
theorem intC_rep (n : Nat) (x : Int) : List.replicate (n + 1) (Value.int .i64 x) = intC n (fun _ => x) := by
  unfold intC
  apply List.ext_getElem?
  intro j
  by_cases h : j < n + 1
  · rw [List.getElem?_replicate, if_pos h, List.getElem?_map, List.getElem?_range h]; rfl
  · rw [List.getElem?_eq_none (by simpa using h), List.getElem?_eq_none (by simpa using h)]
/-- The row of the greatest ends, and what is told of at the time. -/
structure FarAt (B he hb hr n : Nat) (w0 : World) (e : Int) (G : Nat → Int) (w : World) : Prop where
  ebox : w.heap[he]? = some (.cells #[.int .i64 e] 3 (0, 0))
  fbox : w.heap[hb]? = some (.cells #[.slice (some ⟨hr, 0, none⟩) (n + 1) (n + 1)] 42 (0, 0))
  row : w.heap[hr]? = some (.cells ⟨intC n G⟩ 3 (0, 0))
  low : Below B w0 w
theorem FarAt.kept {B he hb hr n C : Nat} {w0 w w' : World} {e : Int} {G : Nat → Int} (h : FarAt B he hb hr n w0 e G w) (hB : B ≤ C) (k : Kept C w w') : FarAt B he hb hr n w0 e G w' :=
  ⟨k.other _ _ _ _ h.ebox (by decide) (by decide) (by decide) (by decide), k.other _ _ _ _ h.fbox (by decide) (by decide) (by decide) (by decide), k.other _ _ _ _ h.row (by decide) (by decide) (by decide) (by decide), h.low.trans (k.low.mono hB)⟩
set_option maxHeartbeats 1000000 in
theorem tell_far (B he hb hr n p : Nat) (w0 : World) (e : Int) (G : Nat → Int) (w : World) (h : FarAt B he hb hr n w0 e G w) (hp : p ≤ n) (hBr : B ≤ hr) (hne : he ≠ hr) (hnb : hb ≠ hr) :
    Calls Try.prog 98 #[.int .i64 (p : Int), .pointer (some ⟨he, 0, none⟩), .pointer (some ⟨hb, 0, none⟩)] w fun en w' => en = .returned (.tuple #[]) ∧ FarAt B he hb hr n w0 e (fun q => if q = p then e else G q) w' ∧ ∀ j, j ≠ hr → w'.heap[j]? = w.heap[j]? := by
  have c0 : w.cell? ⟨hb, 0, none⟩ = some (.slice (some ⟨hr, 0, none⟩) (n + 1) (n + 1)) := by rw [cell_of_heap h.fbox]; rfl
  have ce : w.cell? ⟨he, 0, none⟩ = some (.int .i64 e) := by rw [cell_of_heap h.ebox]; rfl
  have c1 : w.cell? ⟨hr, p, none⟩ = some (.int .i64 (G p)) := by rw [cell_of_heap h.row]; simpa using intC_get n G p hp
  have f1 : w.frozen? ⟨hr, p, none⟩ = false := frozen_of_heap h.row p
  have p0 : (0 : Int) ≤ (p : Int) := by omega
  obtain ⟨N, hN⟩ : ∃ N, N = n + 1 := ⟨_, rfl⟩
  rw [← hN] at c0
  have p1 : (p : Int) < (N : Int) := by omega
  have H := Lib.hid h
  clear h hN hp
  go_enter Try.func98, Try.ntmps98
  go_wp2
  go_end0
  have hrow : (w.setCell ⟨hr, p, none⟩ (.int .i64 e)).heap[hr]? = some (.cells ⟨intC n (fun q => if q = p then e else G q)⟩ 3 (0, 0)) := by
    rw [heap_setCell_same w hr p _ _ (.int .i64 e) H.out.row]
    have e := intC_set n G p e
    simp [e]
  exact ⟨rfl, ⟨(Below.heap_setCell _ _ _ _ hne).trans H.out.ebox, (Below.heap_setCell _ _ _ _ hnb).trans H.out.fbox, hrow, H.out.low.setCell (p := ⟨hr, p, none⟩) hBr _⟩, fun j hj => Below.heap_setCell _ _ _ _ hj⟩
/-- The greatest ends above a bound. -/
def FarOk (s : List UInt8) (T : Tr) (e : Int) (G : Nat → Int) : Prop :=
  ∀ b, (G b = -1 ∧ ∀ a : Nat, e < a → a ≤ s.length → ¬ St s T b a) ∨ ∃ a : Nat, e < a ∧ a ≤ s.length ∧ G b = a ∧ St s T b a ∧ ∀ a' : Nat, a < a' → a' ≤ s.length → ¬ St s T b a'
/-- The marks, when all from a bound on have been gone back from. -/
structure MInv (s : List UInt8) (ts : List Nd) (up : Nat → Nat) (last : Nat) (e : Int) (M : Nat → Nat → Bool) : Prop where
  closed : ∀ g p, M g p = true → ∀ q ∈ nextD true s ts up g p, M q.1 q.2 = true
  src : ∀ a : Nat, e < a → a ≤ s.length → M (2 * last) a = true
  least : ∀ X : Nat → Nat → Prop, Closed true s ts up X → (∀ a : Nat, e < a → a ≤ s.length → X (2 * last) a) → ∀ g p, M g p = true → X g p
theorem MInv.step {s : List UInt8} {ts : List Nd} {up : Nat → Nat} {last e : Nat} {M M' : Nat → Nat → Bool} (he : e ≤ s.length) (h : MInv s ts up last (e : Int) M) (d : Done true s ts up last e M M') : MInv s ts up last ((e : Int) - 1) M' := by
  refine ⟨d.closed, fun a h1 h2 => ?_, fun X hX hs g p hm => d.least X hX (fun g p hm => h.least X hX (fun a h1 h2 => hs a (by omega) h2) g p hm) (hs e (by omega) he) g p hm⟩
  · by_cases ha : a = e
    · rw [ha]; exact d.src
    · exact d.old _ _ (h.src a (by omega) h2)
theorem MInv.is {s : List UInt8} {ts : List Nd} {T : Tr} {e : Int} {M : Nat → Nat → Bool} (hT : Tree ts (upT T) T) (h : MInv s ts (upT T) (ts.length - 1) e M) (b : Nat) :
    M (2 * (ts.length - 1) + 1) b = true ↔ ∃ a : Nat, (e < a ∧ a ≤ s.length) ∧ St s T b a := by
  have hp := T.size_pos
  have hl := hT.len
  exact marked_is (bk := true) (s := s) (ts := ts) (up := upT T) (T := T) (Src := fun a => e < (a : Int) ∧ a ≤ s.length) (M := fun g p => M g p = true) (last := ts.length - 1) hT.occ hl (by omega)
    h.closed (fun a ha => h.src a ha.1 ha.2) (fun X hX hs g p hm => h.least X hX (fun a h1 h2 => hs a ⟨h1, h2⟩) g p hm) b
theorem far_step {s : List UInt8} {ts : List Nd} {T : Tr} {e : Nat} {M M' : Nat → Nat → Bool} {G : Nat → Int} (hT : Tree ts (upT T) T) (he : e ≤ s.length) (h : MInv s ts (upT T) (ts.length - 1) (e : Int) M) (h' : MInv s ts (upT T) (ts.length - 1) ((e : Int) - 1) M') (hG : FarOk s T e G) :
    FarOk s T ((e : Int) - 1) (fun q => if (M' (2 * (ts.length - 1) + 1) q && !M (2 * (ts.length - 1) + 1) q) = true then (e : Int) else G q) := by
  intro b
  have i1 := h.is hT b
  have i2 := h'.is hT b
  dsimp only
  cases hM : M (2 * (ts.length - 1) + 1) b with
  | true =>
    have hc : (M' (2 * (ts.length - 1) + 1) b && !true) = false := by simp
    rw [hc, if_neg (by simp)]
    rcases hG b with ⟨_, g2⟩ | ⟨a, g1, g2, g3, g4, g5⟩
    · obtain ⟨a, ⟨h1, h2⟩, h3⟩ := i1.1 hM
      exact absurd h3 (g2 a h1 h2)
    · exact .inr ⟨a, by omega, g2, g3, g4, g5⟩
  | false =>
    have hno : ∀ a : Nat, (e : Int) < a → a ≤ s.length → ¬ St s T b a := fun a h1 h2 h3 => by rw [i1.2 ⟨a, ⟨h1, h2⟩, h3⟩] at hM; cases hM
    cases hM' : M' (2 * (ts.length - 1) + 1) b with
    | true =>
      have hc : (true && !false) = true := rfl
      rw [hc, if_pos rfl]
      obtain ⟨a, ⟨h1, h2⟩, h3⟩ := i2.1 hM'
      have ha : a = e := by
        by_cases hh : (e : Int) < a
        · exact absurd h3 (hno a hh h2)
        · omega
      subst ha
      exact .inr ⟨a, by omega, h2, rfl, h3, fun a' h4 h5 => hno a' (by omega) h5⟩
    | false =>
      have hc : (false && !false) = false := rfl
      rw [hc, if_neg (by simp)]
      have hno' : ∀ a : Nat, (e : Int) - 1 < a → a ≤ s.length → ¬ St s T b a := fun a h1 h2 h3 => by rw [i2.2 ⟨a, ⟨h1, h2⟩, h3⟩] at hM'; cases hM'
      rcases hG b with ⟨g1, _⟩ | ⟨a, g1, g2, _, g4, _⟩
      · exact .inl ⟨g1, hno'⟩
      · exact absurd g4 (hno a g1 g2)
theorem Env.end {c : Cf} {s : ByteArray} {bk : Bool} {ts : List Nd} {up : Nat → Nat} {w w' : World} {he : Nat} (h : Env c s bk ts up w) (hb : c.bw ≠ he ∧ c.bu ≠ he ∧ c.bm ≠ he ∧ c.bn ≠ he ∧ c.bp ≠ he ∧ c.bl ≠ he ∧ c.bt ≠ he) (hs : ∀ j, j ≠ he → w'.heap[j]? = w.heap[j]?) : Env c s bk ts up w' := by
  obtain ⟨g1, g2, g3, g4, g5, g6, g7⟩ := hb
  refine ⟨(hs _ g1).trans h.wk, (hs _ g2).trans h.up, (hs _ g3).trans h.bm, (hs _ g4).trans h.bn, (hs _ g5).trans h.bp, (hs _ g6).trans h.bl, fun j n hj => ?_, h.lt, h.ge⟩
  have e : ∀ i, w'.cell? ⟨c.bt, i, none⟩ = w.cell? ⟨c.bt, i, none⟩ := fun i => by unfold World.cell?; rw [hs c.bt g7]
  have := h.tree j n hj
  unfold NdAt at this ⊢
  rw [e, e, e, e, e, e, e]
  exact this
theorem Mk.end {B br bR bs bf L he : Nat} {s : ByteArray} {M : Nat → Nat → Bool} {F : List (Nat × Nat)} {w w' : World} {cs : Array Value} (h : Mk B br bR bs bf L s M F w) (hh : w.heap[he]? = some (.cells cs 3 (0, 0))) (hs : ∀ j, j ≠ he → w'.heap[j]? = w.heap[j]?) : Mk B br bR bs bf L s M F w' := by
  have ty : ∀ {i : Nat} {a : Array Value} {U : TypeId} {fz : Nat × Nat}, w.heap[i]? = some (.cells a U fz) → U ≠ 3 → w'.heap[i]? = some (.cells a U fz) := fun {i a U fz} hi hne => by
    refine (hs i fun e => ?_).trans hi
    subst e
    rw [hh] at hi
    injection hi with hi
    injection hi with _ hi _
    exact hne hi.symm
  obtain ⟨rv, h1, h2, h3, h4⟩ := h.cells
  obtain ⟨v, h5, h6⟩ := h.fresh
  refine ⟨h.hB, ty h.rows (by decide), ⟨rv, h1, ty h2 (by decide), fun g v hv => ?_, h4⟩, ty h.str (by decide), ⟨v, ty h5 (by decide), ?_⟩, h.inb, h.cnt, h.small⟩
  · rcases h3 g v hv with hx | ⟨b, e1, e2, e3⟩
    · exact .inl hx
    · exact .inr ⟨b, e1, e2, ty e3 (by decide)⟩
  · refine owns_same h6 fun q hq => ?_
    rcases h6.2 with ⟨hv, _⟩ | ⟨g, cap, cur, hv, _, hg, _⟩
    · rw [hv] at hq; cases hq
    · rw [hv] at hq
      cases hq
      exact (ty hg (by decide)).trans hg.symm
/-- Between two ends. -/
structure FarS (c : Cf) (B he hb hr : Nat) (s : ByteArray) (ts : List Nd) (T : Tr) (w0 : World) (e : Int) (M : Nat → Nat → Bool) (G : Nat → Int) (w : World) : Prop where
  env : Env c s true ts (upT T) w
  mm : Mk c.B c.br c.bR c.bs c.bf ts.length s M [] w
  at_ : FarAt B he hb hr s.size w0 e G w
  ok : FarOk s.data.toList T e G
  inv : MInv s.data.toList ts (upT T) (ts.length - 1) e M
  le : -1 ≤ e ∧ e ≤ (s.size : Int)
theorem far_call {c : Cf} {B he hb hr e : Nat} {s : ByteArray} {ts : List Nd} {T : Tr} {w0 w : World} {M : Nat → Nat → Bool} {G : Nat → Int} (hT : Tree ts (upT T) T) (hbs : c.B ≤ c.bs) (hBr : B ≤ hr) (hBc : B ≤ c.B) (hrc : hr < c.B) (hrt : c.bt < hr) (hne : he ≠ hr) (hnb : hb ≠ hr) (h : FarS c B he hb hr s ts T w0 (e : Int) M G w) :
    Calls Try.prog 82 #[.int .i64 (e : Int), .func (.func 98) #[] #[.pointer (some ⟨he, 0, none⟩), .pointer (some ⟨hb, 0, none⟩)], .pointer (some ⟨c.bm, 0, none⟩), .pointer (some ⟨c.bl, 0, none⟩), .pointer (some ⟨c.bn, 0, none⟩), .pointer (some ⟨c.bp, 0, none⟩)] w fun en w' =>
      en = .returned (.tuple #[]) ∧ ∃ M' G', Env c s true ts (upT T) w' ∧ Mk c.B c.br c.bR c.bs c.bf ts.length s M' [] w' ∧ FarAt B he hb hr s.size w0 (e : Int) G' w' ∧ FarOk s.data.toList T ((e : Int) - 1) G' ∧ MInv s.data.toList ts (upT T) (ts.length - 1) ((e : Int) - 1) M' := by
  have hlen : s.data.toList.length = s.size := Array.length_toList
  have hle := h.le
  refine (reach_far c s true ts (upT T) T hT (fun D w => FarAt B he hb hr s.size w0 (e : Int) (fun q => if D q = true then (e : Int) else G q) w) he hb hbs (fun D a b h k => h.kept hBc k)
    (fun D p a h hp => (tell_far B he hb hr s.size p w0 (e : Int) _ a h hp hBr hne hnb).mono fun en a' hh => ⟨hh.1, ?_, fun j hj => hh.2.2 j (by rcases hj with hj | hj <;> omega)⟩)
    M e (by omega) w h.env h.mm ?_ h.inv.closed).mono ?_
  · have e2 : (fun q => if setT D p q = true then (e : Int) else G q) = fun q => if q = p then (e : Int) else if D q = true then (e : Int) else G q := by
      funext q
      unfold setT
      by_cases hq : q = p <;> simp [hq]
    rw [e2]
    exact hh.2.1
  · have e2 : (fun q : Nat => if (fun _ : Nat => false) q = true then (e : Int) else G q) = G := by funext q; simp
    show FarAt B he hb hr s.size w0 (e : Int) (fun q : Nat => if (fun _ : Nat => false) q = true then (e : Int) else G q) w
    rw [e2]
    exact h.at_
  · rintro en w' ⟨rfl, M', hE, hM, hJ, hD⟩
    have hi := h.inv.step (by rw [hlen]; omega) hD
    exact ⟨rfl, M', _, hE, hM, hJ, far_step hT (by rw [hlen]; omega) h.inv hi h.ok, hi⟩
end Go.Proofs.Ytolofcfegoeenaa
