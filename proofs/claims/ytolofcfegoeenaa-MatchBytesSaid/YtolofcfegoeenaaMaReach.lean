/- The search from a place: package match's closure that goes on till nothing new comes. Conditions: 2000 nodes, 1000000 bytes. -/
import Derived.Test.YtolofcfegoeenaaMaInv
namespace Go.Proofs.Ytolofcfegoeenaa
open Go.RowKit Go.Lib

/-- Between two steps. -/
structure AtS (c : Cf) (s : ByteArray) (bk : Bool) (ts : List Nd) (up : Nat → Nat) (J : (Nat → Bool) → World → Prop) (a : Nat) (M0 M : Nat → Nat → Bool) (F : List (Nat × Nat)) (D : Nat → Bool) (w : World) : Prop where
  env : Env c s bk ts up w
  mm : Mk c.B c.br c.bR c.bs c.bf ts.length s M F w
  j : J D w
  inv : Inv bk s.data.toList ts up (ts.length - 1) a M0 M F D
theorem Env.same {c : Cf} {s : ByteArray} {bk : Bool} {ts : List Nd} {up : Nat → Nat} {w w' : World} (h : Env c s bk ts up w) (hs : ∀ j, (c.B ≤ j ∨ j = c.bt) → w'.heap[j]? = w.heap[j]?) : Env c s bk ts up w' := by
  obtain ⟨g1, g2, g3, g4, g5, g6⟩ := h.ge
  refine ⟨(hs _ (.inl g1)).trans h.wk, (hs _ (.inl g2)).trans h.up, (hs _ (.inl g3)).trans h.bm, (hs _ (.inl g4)).trans h.bn, (hs _ (.inl g5)).trans h.bp, (hs _ (.inl g6)).trans h.bl, fun j n hj => ?_, h.lt, h.ge⟩
  have e : ∀ i, w'.cell? ⟨c.bt, i, none⟩ = w.cell? ⟨c.bt, i, none⟩ := fun i => by unfold World.cell?; rw [hs c.bt (.inr rfl)]
  have := h.tree j n hj
  unfold NdAt at this ⊢
  rw [e, e, e, e, e, e, e]
  exact this
theorem Mk.same {B br bR bs bf L : Nat} {s : ByteArray} {M : Nat → Nat → Bool} {F : List (Nat × Nat)} {w w' : World} (h : Mk B br bR bs bf L s M F w) (hbs : B ≤ bs) (hs : ∀ j, B ≤ j → w'.heap[j]? = w.heap[j]?) : Mk B br bR bs bf L s M F w' := by
  obtain ⟨rv, h1, h2, h3, h4⟩ := h.cells
  obtain ⟨v, h5, h6⟩ := h.fresh
  refine ⟨h.hB, (hs _ h.hB.1).trans h.rows, ⟨rv, h1, (hs _ h.hB.2.1).trans h2, fun g v hv => ?_, h4⟩, (hs _ hbs).trans h.str, ⟨v, (hs _ h.hB.2.2).trans h5, owns_same h6 fun q hq => hs q (own_base h6 hq)⟩, h.inb, h.cnt, h.small⟩
  rcases h3 g v hv with hh | ⟨b, e1, e2, e3⟩
  · exact .inl hh
  · exact .inr ⟨b, e1, e2, (hs _ e2).trans e3⟩
section
variable {c : Cf} {s : ByteArray} {bk : Bool} {ts : List Nd} {up : Nat → Nat} {J : (Nat → Bool) → World → Prop} {a : Nat} {M0 M : Nat → Nat → Bool} {F : List (Nat × Nat)} {D : Nat → Bool} {w : World}
theorem AtS.bl (h : AtS c s bk ts up J a M0 M F D w) : w.cell? ⟨c.bl, 0, none⟩ = some (.int .i64 ((ts.length - 1 : Nat) : Int)) := by rw [cell_of_heap h.env.bl]; rfl
theorem AtS.bp (h : AtS c s bk ts up J a M0 M F D w) : w.cell? ⟨c.bp, 0, none⟩ = some (.pointer (some ⟨c.bw, 0, none⟩)) := by rw [cell_of_heap h.env.bp]; rfl
theorem AtS.bn (h : AtS c s bk ts up J a M0 M F D w) : w.cell? ⟨c.bn, 0, none⟩ = some (.func (.func 81) #[] #[.pointer (some ⟨c.bf, 0, none⟩)]) := by rw [cell_of_heap h.env.bn]; rfl
end
/-- What one step of the search does, from the popped spot on. -/
def After (c : Cf) (s : ByteArray) (bk : Bool) (ts : List Nd) (up : Nat → Nat) (J : (Nat → Bool) → World → Prop) (a : Nat) (M0 : Nat → Nat → Bool) (k : Nat) (w : World) : Prop :=
  ∃ M F D, AtS c s bk ts up J a M0 M F D w ∧ F.length + free M s.size ts.length < k
/-- The step's three ways, each as a contract from the world in which the spot has been taken. -/
theorem way_enter {c : Cf} {s : ByteArray} {bk : Bool} {ts : List Nd} {up : Nat → Nat} {T : Tr} (hT : Tree ts up T) {J : (Nat → Bool) → World → Prop} (hJk : ∀ D w w', J D w → Kept c.B w w' → J D w') {a : Nat} {M0 M : Nat → Nat → Bool} {F : List (Nat × Nat)} {D : Nat → Bool} {r p : Nat} {w W : World}
    (hi : Inv bk s.data.toList ts up (ts.length - 1) a M0 M (F ++ [(2 * r, p)]) D) (h : Srch c s bk ts up w (M, F) W) (hj : J D W) (hr : r < ts.length) (hp : p ≤ s.size) :
    Calls Try.prog 84 #[.pointer (some ⟨c.bw, 0, none⟩), .int .i64 (r : Int), .int .i64 (p : Int)] W fun e w' => e = .returned (.tuple #[]) ∧ After c s bk ts up J a M0 ((F ++ [(2 * r, p)]).length + free M s.size ts.length) w' := by
  have hn : ts[r]? = some ts[r] := List.getElem?_eq_getElem hr
  refine (enter_any (w0 := W) ⟨h.env, h.mm, Kept.refl _ _⟩ hn (hT.fit hn) hp).mono ?_
  rintro e w' ⟨rfl, h2⟩
  have hst := hi.step (T' := D) (.inl ⟨by omega, rfl⟩)
  rw [next_even _ _ _ _ hn] at hst
  have hfr := mks_free (n := s.size) (L := ts.length) (enterD bk s.data.toList ts[r] r p) (M, F) (fun q hq => by have := enter_inb (hT.fit hn) hr (by rw [Array.length_toList]; exact hp) q hq; rwa [Array.length_toList] at this)
  exact ⟨rfl, _, _, D, ⟨h2.env, h2.mm, hJk _ _ _ hj h2.kept, hst⟩, by rw [hfr, List.length_append]; dsimp only [List.length_cons, List.length_nil]; omega⟩
theorem way_leave {c : Cf} {s : ByteArray} {bk : Bool} {ts : List Nd} {up : Nat → Nat} {T : Tr} (hT : Tree ts up T) {J : (Nat → Bool) → World → Prop} (hJk : ∀ D w w', J D w → Kept c.B w w' → J D w') {a : Nat} {M0 M : Nat → Nat → Bool} {F : List (Nat × Nat)} {D : Nat → Bool} {r p : Nat} {w W : World}
    (hi : Inv bk s.data.toList ts up (ts.length - 1) a M0 M (F ++ [(2 * r + 1, p)]) D) (h : Srch c s bk ts up w (M, F) W) (hj : J D W) (hr : r + 1 < ts.length) (hp : p ≤ s.size) :
    Calls Try.prog 85 #[.pointer (some ⟨c.bw, 0, none⟩), .int .i64 (r : Int), .int .i64 (p : Int)] W fun e w' => e = .returned (.tuple #[]) ∧ After c s bk ts up J a M0 ((F ++ [(2 * r + 1, p)]).length + free M s.size ts.length) w' := by
  obtain ⟨n, hn, hk, hu⟩ := hT.parent hr
  refine (leave_any (w0 := W) ⟨h.env, h.mm, Kept.refl _ _⟩ (by omega) hn (hT.fit hn) hk hp).mono ?_
  rintro e w' ⟨rfl, h2⟩
  have hst := hi.step (T' := D) (.inl ⟨by omega, rfl⟩)
  rw [next_odd _ _ _ hr hn] at hst
  have hfr := mks_free (n := s.size) (L := ts.length) (leaveD bk n (up r) r p) (M, F) (leave_inb (hT.fit hn) (by omega) hu hp)
  exact ⟨rfl, _, _, D, ⟨h2.env, h2.mm, hJk _ _ _ hj h2.kept, hst⟩, by rw [hfr, List.length_append]; dsimp only [List.length_cons, List.length_nil]; omega⟩
theorem way_tell {c : Cf} {s : ByteArray} {bk : Bool} {ts : List Nd} {up : Nat → Nat} {J : (Nat → Bool) → World → Prop} {a : Nat} {M0 M : Nat → Nat → Bool} {F : List (Nat × Nat)} {D : Nat → Bool} {p : Nat} {w W w' : World} (hbs : c.B ≤ c.bs) (hl : 0 < ts.length)
    (hi : Inv bk s.data.toList ts up (ts.length - 1) a M0 M (F ++ [(2 * (ts.length - 1) + 1, p)]) D) (h : Srch c s bk ts up w (M, F) W)
    (hj : J (setT D p) w') (hs : ∀ j, (c.B ≤ j ∨ j = c.bt) → w'.heap[j]? = W.heap[j]?) : After c s bk ts up J a M0 ((F ++ [(2 * (ts.length - 1) + 1, p)]).length + free M s.size ts.length) w' := by
  have hst := hi.step (T' := setT D p) (.inr ⟨rfl, rfl⟩)
  rw [next_top _ _ _ _ (by omega)] at hst
  exact ⟨M, F, _, ⟨h.env.same hs, h.mm.same hbs fun j hj => hs j (.inl hj), hj, hst⟩, by rw [List.length_append]; dsimp only [List.length_cons, List.length_nil]; omega⟩
end Go.Proofs.Ytolofcfegoeenaa
