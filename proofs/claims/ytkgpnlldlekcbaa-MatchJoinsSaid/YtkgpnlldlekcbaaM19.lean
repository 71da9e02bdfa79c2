/- Packed texts: MaFar, MaFar2. What each of them proves stands above its theorems; the conditions stand in these. -/
import Derived.Test.YtkgpnlldlekcbaaM16
import Derived.Test.YtkgpnlldlekcbaaM17
import Derived.Test.YtkgpnlldlekcbaaM18
namespace Go.Proofs.Ytkgpnlldlekcbaa
open Go.RowKit Go.Lib

def intC (n : Nat) (G : Nat → Int) : List Value := (List.range (n + 1)).map fun q => .int .i64 (G q)
theorem intC_get (n : Nat) (G : Nat → Int) (q : Nat) (h : q ≤ n) : (intC n G)[q]? = some (.int .i64 (G q)) := by
  unfold intC
  rw [List.getElem?_map, List.getElem?_range (by omega)]
  rfl
theorem intC_set (n : Nat) (G : Nat → Int) (p : Nat) (e : Int) : (intC n G).set p (.int .i64 e) = intC n (fun q => if q = p then e else G q) := by
  have hl : ∀ G, (intC n G).length = n + 1 := fun G => by unfold intC; simp
  apply List.ext_getElem?
  intro j
  rw [List.getElem?_set]
  by_cases hj : j ≤ n
  · rw [intC_get _ _ _ hj, intC_get _ _ _ hj, hl]
    by_cases h : p = j
    · subst h; simp [show p < n + 1 by omega]
    · rw [if_neg h, if_neg (fun e => h e.symm)]
  · rw [List.getElem?_eq_none (by rw [hl]; omega), List.getElem?_eq_none (by rw [hl]; omega), hl]
    by_cases h : p = j
    · subst h; simp [show ¬ p < n + 1 by omega]
    · rw [if_neg h]
theorem intC_rep (n : Nat) (x : Int) : List.replicate (n + 1) (Value.int .i64 x) = intC n (fun _ => x) := by
  unfold intC
  apply List.ext_getElem?
  intro j
  by_cases h : j < n + 1
  · rw [List.getElem?_replicate, if_pos h, List.getElem?_map, List.getElem?_range h]; rfl
  · rw [List.getElem?_eq_none (by simpa using h), List.getElem?_eq_none (by simpa using h)]
/-- The row of the greatest ends, and what is told of at the time. -/
structure FarAt (B he hb hr n : Nat) (w0 : World) (e : Int) (G : Nat → Int) (w : World) : Prop where
  ebox : w.heap[he]? = some (.cells #[.int .i64 e] 3 (0, 0))
  fbox : w.heap[hb]? = some (.cells #[.slice (some ⟨hr, 0, none⟩) (n + 1) (n + 1)] 41 (0, 0))
  row : w.heap[hr]? = some (.cells ⟨intC n G⟩ 3 (0, 0))
  low : Below B w0 w
theorem FarAt.kept {B he hb hr n C : Nat} {w0 w w' : World} {e : Int} {G : Nat → Int} (h : FarAt B he hb hr n w0 e G w) (hB : B ≤ C) (k : Kept C w w') : FarAt B he hb hr n w0 e G w' :=
  ⟨k.other _ _ _ _ h.ebox (by decide) (by decide) (by decide) (by decide), k.other _ _ _ _ h.fbox (by decide) (by decide) (by decide) (by decide), k.other _ _ _ _ h.row (by decide) (by decide) (by decide) (by decide), h.low.trans (k.low.mono hB)⟩
set_option maxHeartbeats 1000000 in
theorem tell_far (B he hb hr n p : Nat) (w0 : World) (e : Int) (G : Nat → Int) (w : World) (h : FarAt B he hb hr n w0 e G w) (hp : p ≤ n) (hBr : B ≤ hr) (hne : he ≠ hr) (hnb : hb ≠ hr) :
    Calls Try.prog 99 #[.int .i64 (p : Int), .pointer (some ⟨he, 0, none⟩), .pointer (some ⟨hb, 0, none⟩)] w fun en w' => en = .returned (.tuple #[]) ∧ FarAt B he hb hr n w0 e (fun q => if q = p then e else G q) w' ∧ ∀ j, j ≠ hr → w'.heap[j]? = w.heap[j]? := by
  have c0 : w.cell? ⟨hb, 0, none⟩ = some (.slice (some ⟨hr, 0, none⟩) (n + 1) (n + 1)) := by rw [cell_of_heap h.fbox]; rfl
  have ce : w.cell? ⟨he, 0, none⟩ = some (.int .i64 e) := by rw [cell_of_heap h.ebox]; rfl
  have c1 : w.cell? ⟨hr, p, none⟩ = some (.int .i64 (G p)) := by rw [cell_of_heap h.row]; simpa using intC_get n G p hp
  have f1 : w.frozen? ⟨hr, p, none⟩ = false := frozen_of_heap h.row p
  have p0 : (0 : Int) ≤ (p : Int) := by omega
  obtain ⟨N, hN⟩ : ∃ N, N = n + 1 := ⟨_, rfl⟩
  rw [← hN] at c0
  have p1 : (p : Int) < (N : Int) := by omega
  have H := Lib.hid h
  clear h hN hp
  go_enter Try.func99, Try.ntmps99
  go_wp2
  go_end0
  have hrow : (w.setCell ⟨hr, p, none⟩ (.int .i64 e)).heap[hr]? = some (.cells ⟨intC n (fun q => if q = p then e else G q)⟩ 3 (0, 0)) := by
    rw [heap_setCell_same w hr p _ _ (.int .i64 e) H.out.row]
    have e := intC_set n G p e
    simp [e]
  exact ⟨rfl, ⟨(Below.heap_setCell _ _ _ _ hne).trans H.out.ebox, (Below.heap_setCell _ _ _ _ hnb).trans H.out.fbox, hrow, H.out.low.setCell (p := ⟨hr, p, none⟩) hBr _⟩, fun j hj => Below.heap_setCell _ _ _ _ hj⟩
/-- The greatest ends above a bound. -/
def FarOk (s : List UInt8) (T : Tr) (e : Int) (G : Nat → Int) : Prop :=
  ∀ b, (G b = -1 ∧ ∀ a : Nat, e < a → a ≤ s.length → ¬ St s T b a) ∨ ∃ a : Nat, e < a ∧ a ≤ s.length ∧ G b = a ∧ St s T b a ∧ ∀ a' : Nat, a < a' → a' ≤ s.length → ¬ St s T b a'
/-- The marks, when all from a bound on have been gone back from. -/
structure MInv (s : List UInt8) (ts : List Nd) (up : Nat → Nat) (last : Nat) (e : Int) (M : Nat → Nat → Bool) : Prop where
  closed : ∀ g p, M g p = true → ∀ q ∈ nextD true s ts up g p, M q.1 q.2 = true
  src : ∀ a : Nat, e < a → a ≤ s.length → M (2 * last) a = true
  least : ∀ X : Nat → Nat → Prop, Closed true s ts up X → (∀ a : Nat, e < a → a ≤ s.length → X (2 * last) a) → ∀ g p, M g p = true → X g p
theorem MInv.step {s : List UInt8} {ts : List Nd} {up : Nat → Nat} {last e : Nat} {M M' : Nat → Nat → Bool} (he : e ≤ s.length) (h : MInv s ts up last (e : Int) M) (d : Done true s ts up last e M M') : MInv s ts up last ((e : Int) - 1) M' := by
  refine ⟨d.closed, fun a h1 h2 => ?_, fun X hX hs g p hm => d.least X hX (fun g p hm => h.least X hX (fun a h1 h2 => hs a (by omega) h2) g p hm) (hs e (by omega) he) g p hm⟩
  · by_cases ha : a = e
    · rw [ha]; exact d.src
    · exact d.old _ _ (h.src a (by omega) h2)
theorem MInv.is {s : List UInt8} {ts : List Nd} {T : Tr} {e : Int} {M : Nat → Nat → Bool} (hT : Tree ts (upT T) T) (h : MInv s ts (upT T) (ts.length - 1) e M) (b : Nat) :
    M (2 * (ts.length - 1) + 1) b = true ↔ ∃ a : Nat, (e < a ∧ a ≤ s.length) ∧ St s T b a := by
  have hp := T.size_pos
  have hl := hT.len
  exact marked_is (bk := true) (s := s) (ts := ts) (up := upT T) (T := T) (Src := fun a => e < (a : Int) ∧ a ≤ s.length) (M := fun g p => M g p = true) (last := ts.length - 1) hT.occ hl (by omega)
    h.closed (fun a ha => h.src a ha.1 ha.2) (fun X hX hs g p hm => h.least X hX (fun a h1 h2 => hs a ⟨h1, h2⟩) g p hm) b
theorem far_step {s : List UInt8} {ts : List Nd} {T : Tr} {e : Nat} {M M' : Nat → Nat → Bool} {G : Nat → Int} (hT : Tree ts (upT T) T) (he : e ≤ s.length) (h : MInv s ts (upT T) (ts.length - 1) (e : Int) M) (h' : MInv s ts (upT T) (ts.length - 1) ((e : Int) - 1) M') (hG : FarOk s T e G) :
    FarOk s T ((e : Int) - 1) (fun q => if (M' (2 * (ts.length - 1) + 1) q && !M (2 * (ts.length - 1) + 1) q) = true then (e : Int) else G q) := by
  intro b
  have i1 := h.is hT b
  have i2 := h'.is hT b
  dsimp only
  cases hM : M (2 * (ts.length - 1) + 1) b with
  | true =>
    have hc : (M' (2 * (ts.length - 1) + 1) b && !true) = false := by simp
    rw [hc, if_neg (by simp)]
    rcases hG b with ⟨_, g2⟩ | ⟨a, g1, g2, g3, g4, g5⟩
    · obtain ⟨a, ⟨h1, h2⟩, h3⟩ := i1.1 hM
      exact absurd h3 (g2 a h1 h2)
    · exact .inr ⟨a, by omega, g2, g3, g4, g5⟩
  | false =>
    have hno : ∀ a : Nat, (e : Int) < a → a ≤ s.length → ¬ St s T b a := fun a h1 h2 h3 => by rw [i1.2 ⟨a, ⟨h1, h2⟩, h3⟩] at hM; cases hM
    cases hM' : M' (2 * (ts.length - 1) + 1) b with
    | true =>
      have hc : (true && !false) = true := rfl
      rw [hc, if_pos rfl]
      obtain ⟨a, ⟨h1, h2⟩, h3⟩ := i2.1 hM'
      have ha : a = e := by
        by_cases hh : (e : Int) < a
        · exact absurd h3 (hno a hh h2)
        · omega
      subst ha
      exact .inr ⟨a, by omega, h2, rfl, h3, fun a' h4 h5 => hno a' (by omega) h5⟩
    | false =>
      have hc : (false && !false) = false := rfl
      rw [hc, if_neg (by simp)]
      have hno' : ∀ a : Nat, (e : Int) - 1 < a → a ≤ s.length → ¬ St s T b a := fun a h1 h2 h3 => by rw [i2.2 ⟨a, ⟨h1, h2⟩, h3⟩] at hM'; cases hM'
      rcases hG b with ⟨g1, _⟩ | ⟨a, g1, g2, _, g4, _⟩
      · exact .inl ⟨g1, hno'⟩
      · exact absurd g4 (hno a g1 g2)
theorem Env.end {c : Cf} {s : ByteArray} {bk : Bool} {ts : List Nd} {up : Nat → Nat} {w w' : World} {he : Nat} (h : Env c s bk ts up w) (hb : c.bw ≠ he ∧ c.bu ≠ he ∧ c.bm ≠ he ∧ c.bn ≠ he ∧ c.bp ≠ he ∧ c.bl ≠ he ∧ c.bt ≠ he) (hs : ∀ j, j ≠ he → w'.heap[j]? = w.heap[j]?) : Env c s bk ts up w' := by
  obtain ⟨g1, g2, g3, g4, g5, g6, g7⟩ := hb
  refine ⟨(hs _ g1).trans h.wk, (hs _ g2).trans h.up, (hs _ g3).trans h.bm, (hs _ g4).trans h.bn, (hs _ g5).trans h.bp, (hs _ g6).trans h.bl, fun j n hj => ?_, h.lt, h.ge⟩
  have e : ∀ i, w'.cell? ⟨c.bt, i, none⟩ = w.cell? ⟨c.bt, i, none⟩ := fun i => by unfold World.cell?; rw [hs c.bt g7]
  have := h.tree j n hj
  unfold NdAt at this ⊢
  rw [e, e, e, e, e, e, e]
  exact this
theorem Mk.end {B br bR bs bf L he : Nat} {s : ByteArray} {M : Nat → Nat → Bool} {F : List (Nat × Nat)} {w w' : World} {cs : Array Value} (h : Mk B br bR bs bf L s M F w) (hh : w.heap[he]? = some (.cells cs 3 (0, 0))) (hs : ∀ j, j ≠ he → w'.heap[j]? = w.heap[j]?) : Mk B br bR bs bf L s M F w' := by
  have ty : ∀ {i : Nat} {a : Array Value} {U : TypeId} {fz : Nat × Nat}, w.heap[i]? = some (.cells a U fz) → U ≠ 3 → w'.heap[i]? = some (.cells a U fz) := fun {i a U fz} hi hne => by
    refine (hs i fun e => ?_).trans hi
    subst e
    rw [hh] at hi
    injection hi with hi
    injection hi with _ hi _
    exact hne hi.symm
  obtain ⟨rv, h1, h2, h3, h4⟩ := h.cells
  obtain ⟨v, h5, h6⟩ := h.fresh
  refine ⟨h.hB, ty h.rows (by decide), ⟨rv, h1, ty h2 (by decide), fun g v hv => ?_, h4⟩, ty h.str (by decide), ⟨v, ty h5 (by decide), ?_⟩, h.inb, h.cnt, h.small⟩
  · rcases h3 g v hv with hx | ⟨b, e1, e2, e3⟩
    · exact .inl hx
    · exact .inr ⟨b, e1, e2, ty e3 (by decide)⟩
  · refine owns_same h6 fun q hq => ?_
    rcases h6.2 with ⟨hv, _⟩ | ⟨g, cap, cur, hv, _, hg, _⟩
    · rw [hv] at hq; cases hq
    · rw [hv] at hq
      cases hq
      exact (ty hg (by decide)).trans hg.symm
/-- Between two ends. -/
structure FarS (c : Cf) (B he hb hr : Nat) (s : ByteArray) (ts : List Nd) (T : Tr) (w0 : World) (e : Int) (M : Nat → Nat → Bool) (G : Nat → Int) (w : World) : Prop where
  env : Env c s true ts (upT T) w
  mm : Mk c.B c.br c.bR c.bs c.bf ts.length s M [] w
  at_ : FarAt B he hb hr s.size w0 e G w
  ok : FarOk s.data.toList T e G
  inv : MInv s.data.toList ts (upT T) (ts.length - 1) e M
  le : -1 ≤ e ∧ e ≤ (s.size : Int)
theorem far_call {c : Cf} {B he hb hr e : Nat} {s : ByteArray} {ts : List Nd} {T : Tr} {w0 w : World} {M : Nat → Nat → Bool} {G : Nat → Int} (hT : Tree ts (upT T) T) (hbs : c.B ≤ c.bs) (hBr : B ≤ hr) (hBc : B ≤ c.B) (hrc : hr < c.B) (hrt : c.bt < hr) (hne : he ≠ hr) (hnb : hb ≠ hr) (h : FarS c B he hb hr s ts T w0 (e : Int) M G w) :
    Calls Try.prog 68 #[.int .i64 (e : Int), .func (.func 99) #[] #[.pointer (some ⟨he, 0, none⟩), .pointer (some ⟨hb, 0, none⟩)], .pointer (some ⟨c.bm, 0, none⟩), .pointer (some ⟨c.bl, 0, none⟩), .pointer (some ⟨c.bn, 0, none⟩), .pointer (some ⟨c.bp, 0, none⟩)] w fun en w' =>
      en = .returned (.tuple #[]) ∧ ∃ M' G', Env c s true ts (upT T) w' ∧ Mk c.B c.br c.bR c.bs c.bf ts.length s M' [] w' ∧ FarAt B he hb hr s.size w0 (e : Int) G' w' ∧ FarOk s.data.toList T ((e : Int) - 1) G' ∧ MInv s.data.toList ts (upT T) (ts.length - 1) ((e : Int) - 1) M' := by
  have hlen : s.data.toList.length = s.size := Array.length_toList
  have hle := h.le
  refine (reach_far c s true ts (upT T) T hT (fun D w => FarAt B he hb hr s.size w0 (e : Int) (fun q => if D q = true then (e : Int) else G q) w) he hb hbs (fun D a b h k => h.kept hBc k)
    (fun D p a h hp => (tell_far B he hb hr s.size p w0 (e : Int) _ a h hp hBr hne hnb).mono fun en a' hh => ⟨hh.1, ?_, fun j hj => hh.2.2 j (by rcases hj with hj | hj <;> omega)⟩)
    M e (by omega) w h.env h.mm ?_ h.inv.closed).mono ?_
  · have e2 : (fun q => if setT D p q = true then (e : Int) else G q) = fun q => if q = p then (e : Int) else if D q = true then (e : Int) else G q := by
      funext q
      unfold setT
      by_cases hq : q = p <;> simp [hq]
    rw [e2]
    exact hh.2.1
  · have e2 : (fun q : Nat => if (fun _ : Nat => false) q = true then (e : Int) else G q) = G := by funext q; simp
    show FarAt B he hb hr s.size w0 (e : Int) (fun q : Nat => if (fun _ : Nat => false) q = true then (e : Int) else G q) w
    rw [e2]
    exact h.at_
  · rintro en w' ⟨rfl, M', hE, hM, hJ, hD⟩
    have hi := h.inv.step (by rw [hlen]; omega) hD
    exact ⟨rfl, M', _, hE, hM, hJ, far_step hT (by rw [hlen]; omega) h.inv hi h.ok, hi⟩
end Go.Proofs.Ytkgpnlldlekcbaa
namespace Go.Proofs.Ytkgpnlldlekcbaa
open Go.RowKit Go.Lib

/-- The greatest ends from a place on. -/
def FarFrom (s : List UInt8) (T : Tr) (k : Nat) (G : Nat → Int) : Prop :=
  ∀ b : Nat, k ≤ b → b ≤ s.length → (G b = -1 ∧ ∀ a : Nat, a ≤ s.length → ¬ St s T b a) ∨ ∃ a : Nat, a ≤ s.length ∧ G b = a ∧ St s T b a ∧ ∀ a' : Nat, a < a' → a' ≤ s.length → ¬ St s T b a'
theorem FarOk.from_ {s : List UInt8} {T : Tr} {e : Int} {k : Nat} {G : Nat → Int} (h : FarOk s T e G) (hk : e < (k : Int)) : FarFrom s T k G := fun b h1 h2 => by
  rcases h b with ⟨g1, g2⟩ | ⟨a, g1, g2, g3, g4, g5⟩
  · refine .inl ⟨g1, fun a ha hs => g2 a ?_ ha hs⟩
    have := St.le s T b a hs
    omega
  · exact .inr ⟨a, g2, g3, g4, g5⟩
set_option maxHeartbeats 8000000 in
set_option maxRecDepth 20000 in
theorem far_any (b o cap : Nat) (T : Tr) (ts : List Nd) (s : ByteArray) (k : Nat) (w : World) (hts : ts = T.row 0) (hok : T.ok) (hsz : ts.length ≤ 2000) (hs : s.size ≤ 1000000) (hL : Lies (.slice (some ⟨b, o, none⟩) ts.length cap) ts w) :
    Calls Try.prog 85 #[.slice (some ⟨b, o, none⟩) ts.length cap, .string s, .int .i64 (k : Int)] w fun e w' => ∃ hr G, e = .returned (.slice (some ⟨hr, 0, none⟩) (s.size + 1) (s.size + 1)) ∧ w.heap.size ≤ hr ∧ w'.heap[hr]? = some (.cells ⟨intC s.size G⟩ 3 (0, 0)) ∧ FarFrom s.data.toList T k G ∧ Below w.heap.size w w' := by
  have hbw : b < w.heap.size := by
    obtain ⟨b', o', h1, h2, _⟩ := hL.at (List.getElem?_eq_getElem (by rw [hts, Tr.row_length]; exact T.size_pos))
    cases h1
    exact h2
  have hlen : s.data.toList.length = s.size := Array.length_toList
  have hNw : IntKind.i64.wrap ((s.size : Int) + 1) = ((s.size + 1 : Nat) : Int) := by rw [IntWalk.i64_in _ (by omega)]; omega
  obtain ⟨N, hN⟩ : ∃ N, N = s.size + 1 := ⟨_, rfl⟩
  rw [← hN] at hNw ⊢
  have hT : Tree ts (upT T) T := by rw [hts]; exact tree_of T hok
  have hst : ∀ (a : Addr) (fn : Fn) (x y : Array Value) (m : Mode) (w : World), (store a (.func fn x y) m).run Try.prog w = stored Try.prog w a (.func fn x y) m := fun a fn x y m w => run_store Try.prog w a (.func fn x y) m rfl
  have hmf : ∀ (fn : Fn) (first cap : Array Value) (w : World), (Instr.makeFunc fn first cap).run Try.prog w = .ok (.func fn first cap) w := fun _ _ _ _ => rfl
  have krep := repeat_any w.heap.size (-1) N (w.alloc (.cells #[.int .i64 (-1)] 3)) (by omega) (by omega) (by rw [cell_of_heap (heap_alloc_new w _)]; rfl)
  have kr := fun (w : World) (h : Lies (.slice (some ⟨b, o, none⟩) ts.length cap) ts w) => reacher_any b o cap T ts s true w hts hok hsz hs h
  have hb0 : Below w.heap.size w (w.alloc (.cells #[.int .i64 (-1)] 3)) := (Below.refl _ _).alloc (Nat.le_refl _) _
  have H0 := Lib.hid (And.intro hN (And.intro hT (And.intro hs (And.intro hbw (And.intro hL (And.intro hlen hb0))))))
  clear hN hT hs hbw hL hlen hb0 hts hok hsz
  go_enter Try.func85, Try.ntmps85
  go_wp2_with (first
    | (go_at_call 98; refine krep.mono ?_; rintro e w2 ⟨rfl, hr2, hb2⟩
       rw [World.size_alloc] at hr2 ⊢
       have hb2' : Below w.heap.size w w2 := H0.out.2.2.2.2.2.2.trans (hb2.mono (by simp))
       have hz2 : w.heap.size + 1 < w2.heap.size := block_lt hr2
       have hL2 := H0.out.2.2.2.2.1.below (hb2'.alloc (by omega) (.cells #[.slice (some ⟨w.heap.size + 1, 0, none⟩) N N] 41))
       have H2 := Lib.hid (And.intro hr2 (And.intro hb2' hz2))
       clear krep hr2 hb2 hb2' hz2)
    | (go_at_call 44; refine (kr _ hL2).mono ?_; rintro e w3 ⟨c, hcB, hcb, hcs, hb3, rfl, hE, hM⟩
       have H3 := Lib.hid (And.intro hcB (And.intro hcb (And.intro hcs (And.intro hb3 (And.intro hE hM)))))
       clear kr hL2 hcB hcb hcs hb3 hE hM)
    | fail)
  obtain ⟨hN, hT, hs, hbw, -, hlen, -⟩ := H0.out
  obtain ⟨hr2, hb2, hz2⟩ := H2.out
  obtain ⟨hcB, hcb, hcs, hb3, hE, hM⟩ := H3.out
  have hcB2 : c.B = w2.heap.size + 1 := by rw [hcB]; simp
  have hlt2 : w2.heap.size < w3.heap.size := by have := hb3.size; simp at this; omega
  have hbw2 : Below w.heap.size w w3 := (hb2.alloc (by omega) _).trans (hb3.mono (by simp; omega))
  have hne7 : c.bw < w3.heap.size ∧ c.bu < w3.heap.size ∧ c.bm < w3.heap.size ∧ c.bn < w3.heap.size ∧ c.bp < w3.heap.size ∧ c.bl < w3.heap.size := ⟨block_lt hE.wk, block_lt hE.up, block_lt hE.bm, block_lt hE.bn, block_lt hE.bp, block_lt hE.bl⟩
  have hba : Below w3.heap.size w3 (w3.alloc (.cells #[.int .i64 (s.size : Int)] 3)) := (Below.refl _ _).alloc (Nat.le_refl _) _
  have hfb : w3.heap[w2.heap.size]? = some (.cells #[.slice (some ⟨w.heap.size + 1, 0, none⟩) N N] 41 (0, 0)) := (hb3.block _ (by simp)).trans (heap_alloc_new w2 _)
  have hrw : w3.heap[w.heap.size + 1]? = some (.cells ⟨List.replicate N (Value.int .i64 (-1))⟩ 3 (0, 0)) := (hb3.block _ (by simp; omega)).trans ((Below.heap_alloc _ _ _ (by omega)).trans hr2)
  have hS0 : FarS c w.heap.size w3.heap.size w2.heap.size (w.heap.size + 1) s ts T w (s.size : Int) (fun _ _ => false) (fun _ => -1) (w3.alloc (.cells #[.int .i64 (s.size : Int)] 3)) := by
    refine ⟨hE.kept (Kept.of_below hba (by omega)), hM.below hba, ⟨heap_alloc_new w3 _, ?_, ?_, hbw2.alloc (by omega) _⟩, fun b => .inl ⟨rfl, fun a h1 h2 => by omega⟩, ⟨fun _ _ h => Bool.noConfusion h, fun a h1 h2 => by omega, fun _ _ _ _ _ h => Bool.noConfusion h⟩, by omega⟩
    · rw [← hN]; exact (hba.block _ hlt2).trans hfb
    · rw [← intC_rep, ← hN]; exact (hba.block _ (by omega)).trans hrw
  have HS0 := Lib.hid hS0
  have HQ := Lib.hid (And.intro hcB2 (And.intro hlt2 (And.intro hne7 (And.intro hz2 (And.intro hbw (And.intro hcb (And.intro hcs (And.intro hT (And.intro hN (And.intro hlen hs))))))))))
  clear hN hT hs hbw hlen hr2 hb2 hz2 hcB hcb hcs hb3 hE hM hcB2 hlt2 hbw2 hne7 hba hfb hrw hS0
  go_loopg [] (s.size + 1) (fun m wr => Hid (∃ (e : Int) (M : Nat → Nat → Bool) (G : Nat → Int), FarS c w.heap.size w3.heap.size w2.heap.size (w.heap.size + 1) s ts T w e M G wr ∧ m = (e + 1).toNat))
  case atStart => exact ⟨_, _, _, HS0.out, by omega⟩
  case round =>
    obtain ⟨e, M, G, h, hm⟩ := hrel.out
    obtain ⟨hcB2, hlt2, hne7, hz2, hbw, hcb, hcs, hT, hN, hlen, hs⟩ := HQ.out
    have ce : wr.cell? ⟨w3.heap.size, 0, none⟩ = some (.int .i64 e) := by rw [cell_of_heap h.at_.ebox]; rfl
    have hle := h.le
    by_cases hge : (k : Int) ≤ e
    · obtain ⟨e', rfl⟩ : ∃ e' : Nat, e = (e' : Int) := ⟨e.toNat, by omega⟩
      have kc := far_call hT hcs (by omega) (by omega) (by omega) (by omega) (by omega) (by omega) h
      have hI : IntKind.i64.wrap ((e' : Int) - 1) = (e' : Int) - 1 := IntWalk.i64_in _ (by omega)
      have HH := Lib.hid h
      have HM := Lib.hid hm
      clear h hm hrel hcB2 hlt2 hne7 hz2 hbw hcb hcs hT hN hlen hs
      go_wp2_with (first
        | (go_at_call 68; refine kc.mono ?_; rintro en w5 ⟨rfl, M', G', hE5, hM5, hA5, hO5, hI5⟩
           have ce5 : w5.cell? ⟨w3.heap.size, 0, none⟩ = some (.int .i64 (e' : Int)) := by rw [cell_of_heap hA5.ebox]; rfl
           have fe5 : w5.frozen? ⟨w3.heap.size, 0, none⟩ = false := frozen_of_heap hA5.ebox 0
           have H5 := Lib.hid (And.intro hE5 (And.intro hM5 (And.intro hA5 (And.intro hO5 hI5))))
           clear kc ce hE5 hM5 hA5 hO5 hI5)
        | fail)
      go_roundg e'
      case rel =>
        obtain ⟨hE5, hM5, hA5, hO5, hI5⟩ := H5.out
        obtain ⟨hcB2, hlt2, hne7, hz2, hbw, hcb, hcs, hT, hN, hlen, hs⟩ := HQ.out
        have hsame : ∀ j, j ≠ w3.heap.size → (w5.setCell ⟨w3.heap.size, 0, none⟩ (.int .i64 ((e' : Int) - 1))).heap[j]? = w5.heap[j]? := fun j hj => Below.heap_setCell _ _ _ _ hj
        refine ⟨(e' : Int) - 1, M', G', ⟨hE5.end (he := w3.heap.size) (by omega) hsame, hM5.end hA5.ebox hsame, ⟨?_, (hsame _ (by omega)).trans hA5.fbox, (hsame _ (by omega)).trans hA5.row, hA5.low.setCell (p := ⟨w3.heap.size, 0, none⟩) (by dsimp only; omega) _⟩, hO5, hI5, by omega⟩, by omega⟩
        have h := heap_setCell_same w5 w3.heap.size 0 _ _ (Value.int .i64 ((e' : Int) - 1)) hA5.ebox
        simpa using h
      case measure => have := HM.out; omega
    · have cf : wr.cell? ⟨w2.heap.size, 0, none⟩ = some (.slice (some ⟨w.heap.size + 1, 0, none⟩) N N) := by rw [cell_of_heap h.at_.fbox, hN]; rfl
      have HH := Lib.hid h
      clear h hm hrel hcB2 hlt2 hne7 hz2 hbw hcb hcs hT hN hlen hs
      go_wp2
      exact bodyPost_ret (results_tmp rfl _ _ _) rfl (by first | exact ⟨_, G, rfl, by omega, HH.out.at_.row, HH.out.ok.from_ (by omega), HH.out.at_.low⟩ | exact ⟨_, rfl, by omega, G, HH.out.at_.row, HH.out.ok.from_ (by omega), HH.out.at_.low⟩ | exact ⟨_, rfl, by omega, ⟨G, HH.out.at_.row, HH.out.ok.from_ (by omega)⟩, HH.out.at_.low⟩)
end Go.Proofs.Ytkgpnlldlekcbaa
