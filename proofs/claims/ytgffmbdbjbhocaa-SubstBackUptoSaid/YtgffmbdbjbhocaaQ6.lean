/- Packed texts: MaReach, MaReacher, MaEnds, MbFrom, MaReachF, MaRepeat, MaFar. What each of them proves stands above its theorems; the conditions stand in these. -/
import Derived.Deep.LoopGhost
import Derived.Laws.AppendOwnNone
import Derived.Laws.CopyOwn
import Derived.Test.YtgffmbdbjbhocaaShelf
import Derived.WalkMore
import Derived.Test.YtgffmbdbjbhocaaQ4
import Derived.Test.YtgffmbdbjbhocaaQ5
namespace Go.Proofs.Ytgffmbdbjbhocaa
open Go.RowKit Go.Lib

/-- Between two steps. -/
structure AtS (c : Cf) (s : ByteArray) (bk : Bool) (ts : List Nd) (up : Nat → Nat) (J : (Nat → Bool) → World → Prop) (a : Nat) (M0 M : Nat → Nat → Bool) (F : List (Nat × Nat)) (D : Nat → Bool) (w : World) : Prop where
  env : Env c s bk ts up w
  mm : Mk c.B c.br c.bR c.bs c.bf ts.length s M F w
  j : J D w
  inv : Inv bk s.data.toList ts up (ts.length - 1) a M0 M F D
theorem Env.same {c : Cf} {s : ByteArray} {bk : Bool} {ts : List Nd} {up : Nat → Nat} {w w' : World} (h : Env c s bk ts up w) (hs : ∀ j, (c.B ≤ j ∨ j = c.bt) → w'.heap[j]? = w.heap[j]?) : Env c s bk ts up w' := by
  obtain ⟨g1, g2, g3, g4, g5, g6⟩ := h.ge
  refine ⟨(hs _ (.inl g1)).trans h.wk, (hs _ (.inl g2)).trans h.up, (hs _ (.inl g3)).trans h.bm, (hs _ (.inl g4)).trans h.bn, (hs _ (.inl g5)).trans h.bp, (hs _ (.inl g6)).trans h.bl, fun j n hj => ?_, h.lt, h.ge⟩
  have e : ∀ i, w'.cell? ⟨c.bt, i, none⟩ = w.cell? ⟨c.bt, i, none⟩ := fun i => by unfold World.cell?; rw [hs c.bt (.inr rfl)]
  have := h.tree j n hj
  unfold NdAt at this ⊢
  rw [e, e, e, e, e, e, e]
  exact this
theorem Mk.same {B br bR bs bf L : Nat} {s : ByteArray} {M : Nat → Nat → Bool} {F : List (Nat × Nat)} {w w' : World} (h : Mk B br bR bs bf L s M F w) (hbs : B ≤ bs) (hs : ∀ j, B ≤ j → w'.heap[j]? = w.heap[j]?) : Mk B br bR bs bf L s M F w' := by
  obtain ⟨rv, h1, h2, h3, h4⟩ := h.cells
  obtain ⟨v, h5, h6⟩ := h.fresh
  refine ⟨h.hB, (hs _ h.hB.1).trans h.rows, ⟨rv, h1, (hs _ h.hB.2.1).trans h2, fun g v hv => ?_, h4⟩, (hs _ hbs).trans h.str, ⟨v, (hs _ h.hB.2.2).trans h5, owns_same h6 fun q hq => hs q (own_base h6 hq)⟩, h.inb, h.cnt, h.small⟩
  rcases h3 g v hv with hh | ⟨b, e1, e2, e3⟩
  · exact .inl hh
  · exact .inr ⟨b, e1, e2, (hs _ e2).trans e3⟩
section
variable {c : Cf} {s : ByteArray} {bk : Bool} {ts : List Nd} {up : Nat → Nat} {J : (Nat → Bool) → World → Prop} {a : Nat} {M0 M : Nat → Nat → Bool} {F : List (Nat × Nat)} {D : Nat → Bool} {w : World}
theorem AtS.bl (h : AtS c s bk ts up J a M0 M F D w) : w.cell? ⟨c.bl, 0, none⟩ = some (.int .i64 ((ts.length - 1 : Nat) : Int)) := by rw [cell_of_heap h.env.bl]; rfl
theorem AtS.bp (h : AtS c s bk ts up J a M0 M F D w) : w.cell? ⟨c.bp, 0, none⟩ = some (.pointer (some ⟨c.bw, 0, none⟩)) := by rw [cell_of_heap h.env.bp]; rfl
theorem AtS.bn (h : AtS c s bk ts up J a M0 M F D w) : w.cell? ⟨c.bn, 0, none⟩ = some (.func (.func 105) #[] #[.pointer (some ⟨c.bf, 0, none⟩)]) := by rw [cell_of_heap h.env.bn]; rfl
end
/-- What one step of the search does, from the popped spot on. -/
def After (c : Cf) (s : ByteArray) (bk : Bool) (ts : List Nd) (up : Nat → Nat) (J : (Nat → Bool) → World → Prop) (a : Nat) (M0 : Nat → Nat → Bool) (k : Nat) (w : World) : Prop :=
  ∃ M F D, AtS c s bk ts up J a M0 M F D w ∧ F.length + free M s.size ts.length < k
/-- The step's three ways, each as a contract from the world in which the spot has been taken. -/
theorem way_enter {c : Cf} {s : ByteArray} {bk : Bool} {ts : List Nd} {up : Nat → Nat} {T : Tr} (hT : Tree ts up T) {J : (Nat → Bool) → World → Prop} (hJk : ∀ D w w', J D w → Kept c.B w w' → J D w') {a : Nat} {M0 M : Nat → Nat → Bool} {F : List (Nat × Nat)} {D : Nat → Bool} {r p : Nat} {w W : World}
    (hi : Inv bk s.data.toList ts up (ts.length - 1) a M0 M (F ++ [(2 * r, p)]) D) (h : Srch c s bk ts up w (M, F) W) (hj : J D W) (hr : r < ts.length) (hp : p ≤ s.size) :
    Calls Try.prog 108 #[.pointer (some ⟨c.bw, 0, none⟩), .int .i64 (r : Int), .int .i64 (p : Int)] W fun e w' => e = .returned (.tuple #[]) ∧ After c s bk ts up J a M0 ((F ++ [(2 * r, p)]).length + free M s.size ts.length) w' := by
  have hn : ts[r]? = some ts[r] := List.getElem?_eq_getElem hr
  refine (enter_any (w0 := W) ⟨h.env, h.mm, Kept.refl _ _⟩ hn (hT.fit hn) hp).mono ?_
  rintro e w' ⟨rfl, h2⟩
  have hst := hi.step (T' := D) (.inl ⟨by omega, rfl⟩)
  rw [next_even _ _ _ _ hn] at hst
  have hfr := mks_free (n := s.size) (L := ts.length) (enterD bk s.data.toList ts[r] r p) (M, F) (fun q hq => by have := enter_inb (hT.fit hn) hr (by rw [Array.length_toList]; exact hp) q hq; rwa [Array.length_toList] at this)
  exact ⟨rfl, _, _, D, ⟨h2.env, h2.mm, hJk _ _ _ hj h2.kept, hst⟩, by rw [hfr, List.length_append]; dsimp only [List.length_cons, List.length_nil]; omega⟩
theorem way_leave {c : Cf} {s : ByteArray} {bk : Bool} {ts : List Nd} {up : Nat → Nat} {T : Tr} (hT : Tree ts up T) {J : (Nat → Bool) → World → Prop} (hJk : ∀ D w w', J D w → Kept c.B w w' → J D w') {a : Nat} {M0 M : Nat → Nat → Bool} {F : List (Nat × Nat)} {D : Nat → Bool} {r p : Nat} {w W : World}
    (hi : Inv bk s.data.toList ts up (ts.length - 1) a M0 M (F ++ [(2 * r + 1, p)]) D) (h : Srch c s bk ts up w (M, F) W) (hj : J D W) (hr : r + 1 < ts.length) (hp : p ≤ s.size) :
    Calls Try.prog 109 #[.pointer (some ⟨c.bw, 0, none⟩), .int .i64 (r : Int), .int .i64 (p : Int)] W fun e w' => e = .returned (.tuple #[]) ∧ After c s bk ts up J a M0 ((F ++ [(2 * r + 1, p)]).length + free M s.size ts.length) w' := by
  obtain ⟨n, hn, hk, hu⟩ := hT.parent hr
  refine (leave_any (w0 := W) ⟨h.env, h.mm, Kept.refl _ _⟩ (by omega) hn (hT.fit hn) hk hp).mono ?_
  rintro e w' ⟨rfl, h2⟩
  have hst := hi.step (T' := D) (.inl ⟨by omega, rfl⟩)
  rw [next_odd _ _ _ hr hn] at hst
  have hfr := mks_free (n := s.size) (L := ts.length) (leaveD bk n (up r) r p) (M, F) (leave_inb (hT.fit hn) (by omega) hu hp)
  exact ⟨rfl, _, _, D, ⟨h2.env, h2.mm, hJk _ _ _ hj h2.kept, hst⟩, by rw [hfr, List.length_append]; dsimp only [List.length_cons, List.length_nil]; omega⟩
theorem way_tell {c : Cf} {s : ByteArray} {bk : Bool} {ts : List Nd} {up : Nat → Nat} {J : (Nat → Bool) → World → Prop} {a : Nat} {M0 M : Nat → Nat → Bool} {F : List (Nat × Nat)} {D : Nat → Bool} {p : Nat} {w W w' : World} (hbs : c.B ≤ c.bs) (hl : 0 < ts.length)
    (hi : Inv bk s.data.toList ts up (ts.length - 1) a M0 M (F ++ [(2 * (ts.length - 1) + 1, p)]) D) (h : Srch c s bk ts up w (M, F) W)
    (hj : J (setT D p) w') (hs : ∀ j, (c.B ≤ j ∨ j = c.bt) → w'.heap[j]? = W.heap[j]?) : After c s bk ts up J a M0 ((F ++ [(2 * (ts.length - 1) + 1, p)]).length + free M s.size ts.length) w' := by
  have hst := hi.step (T' := setT D p) (.inr ⟨rfl, rfl⟩)
  rw [next_top _ _ _ _ (by omega)] at hst
  exact ⟨M, F, _, ⟨h.env.same hs, h.mm.same hbs fun j hj => hs j (.inl hj), hj, hst⟩, by rw [List.length_append]; dsimp only [List.length_cons, List.length_nil]; omega⟩
end Go.Proofs.Ytgffmbdbjbhocaa
namespace Go.Proofs.Ytgffmbdbjbhocaa
open Go.RowKit Go.Lib

theorem free_none (n L : Nat) : free (fun _ _ => false) n L = 2 * L * (n + 1) := by
  unfold free
  have : ∀ m, (List.range m).countP (fun i => !(fun (_ _ : Nat) => false) (i / (n + 1)) (i % (n + 1))) = m := fun m => by
    induction m with
    | zero => rfl
    | succ m ih => rw [List.range_succ, List.countP_append, ih]; simp
  exact this _
set_option maxHeartbeats 8000000 in
set_option maxRecDepth 20000 in
theorem reacher_any (b o cap : Nat) (T : Tr) (ts : List Nd) (s : ByteArray) (bk : Bool) (w : World) (hts : ts = T.row 0) (hok : T.ok) (hsz : ts.length ≤ 2000) (hs : s.size ≤ 1000000) (hL : Lies (.slice (some ⟨b, o, none⟩) ts.length cap) ts w) :
    Calls Try.prog 76 #[.slice (some ⟨b, o, none⟩) ts.length cap, .string s, .bool bk] w fun e w' => ∃ c : Cf, c.B = w.heap.size ∧ c.bt = b ∧ c.B ≤ c.bs ∧ Below w.heap.size w w' ∧
      e = .returned (.func (.func 106) #[] #[.pointer (some ⟨c.bm, 0, none⟩), .pointer (some ⟨c.bl, 0, none⟩), .pointer (some ⟨c.bn, 0, none⟩), .pointer (some ⟨c.bp, 0, none⟩)]) ∧
      Env c s bk ts (upT T) w' ∧ Mk c.B c.br c.bR c.bs c.bf ts.length s (fun _ _ => false) [] w' := by
  have hpos : 0 < ts.length := by rw [hts, Tr.row_length]; exact T.size_pos
  have hbw : b < w.heap.size := by
    obtain ⟨b', o', h1, h2, _⟩ := hL.at (List.getElem?_eq_getElem hpos)
    cases h1
    exact h2
  have kp := fun (w : World) (h : Lies (.slice (some ⟨b, o, none⟩) ts.length cap) ts w) => parents_any (.slice (some ⟨b, o, none⟩) ts.length cap) T ts w hts hok hsz h
  have HL := Lib.hid hL
  have hL1 := hL.below ((Below.refl _ w).alloc (Nat.le_refl _) (.cells #[.string s] 9))
  obtain ⟨N, hN⟩ : ∃ N, N = ts.length := ⟨_, rfl⟩
  rw [← hN] at hsz hpos hL1 kp ⊢
  have hN2 : IntKind.i64.wrap (2 * (N : Int)) = ((2 * N : Nat) : Int) := by rw [IntWalk.i64_in _ (by omega)]; omega
  obtain ⟨D, hD⟩ : ∃ D, D = 2 * N := ⟨_, rfl⟩
  rw [← hD] at hN2
  have hN1 : IntKind.i64.wrap ((N : Int) - 1) = ((N - 1 : Nat) : Int) := by rw [IntWalk.i64_in _ (by omega)]; omega
  obtain ⟨P, hP⟩ : ∃ P, P = N - 1 := ⟨_, rfl⟩
  rw [← hP] at hN1
  have kmk := fun (w : World) => run_make_row' (P := Try.prog) 134 46 (.slice none 0 0) 24 Try.underlying134 Try.infoBools rfl .i64 .i64 D (by omega) (by omega) w
  obtain ⟨X0, hX0⟩ : ∃ X0, X0 = Obj.cells (madeCells #[.slice none 0 0] D) 46 := ⟨_, rfl⟩
  rw [← hX0] at kmk
  have HH := Lib.hid (And.intro hX0 (And.intro hN (And.intro hD hP)))
  have HW := Lib.hid (And.intro hts (And.intro hok (And.intro hs (And.intro hbw hpos))))
  clear hX0 hN hD hP hts hok hs hpos
  have hst : ∀ (a : Addr) (fn : Fn) (x y : Array Value) (m : Mode) (w : World), (store a (.func fn x y) m).run Try.prog w = stored Try.prog w a (.func fn x y) m := fun a fn x y m w => run_store Try.prog w a (.func fn x y) m rfl
  have hmf : ∀ (fn : Fn) (first cap : Array Value) (w : World), (Instr.makeFunc fn first cap).run Try.prog w = .ok (.func fn first cap) w := fun _ _ _ _ => rfl
  go_enter Try.func76, Try.ntmps76
  go_upto_region 8 with (first
    | (go_at_call 102; refine (kp _ hL1).mono ?_; rintro e w1 ⟨rfl, hup, hb1⟩
       have hbs : w1.heap[w.heap.size]? = some (.cells #[.string s] 9 (0, 0)) := (hb1.block _ (by simp)).trans (heap_alloc_new w _)
       have HB := Lib.hid (And.intro hup (And.intro hb1 hbs))
       clear kp hL1 hup hb1 hbs)
    | fail)
  obtain ⟨h, hh⟩ : ∃ h, h = w.heap.size := ⟨_, rfl⟩
  obtain ⟨g, hg⟩ : ∃ g, g = w1.heap.size := ⟨_, rfl⟩
  rw [← hh, ← hg]
  obtain ⟨O1, hO1⟩ : ∃ O, O = Obj.cells #[.slice (some ⟨g, 0, none⟩) D D] 134 := ⟨_, rfl⟩
  obtain ⟨O2, hO2⟩ : ∃ O, O = Obj.cells #[.slice none 0 0] 135 := ⟨_, rfl⟩
  obtain ⟨O3, hO3⟩ : ∃ O, O = Obj.cells #[.func (.func 104) #[] #[.pointer (some ⟨g + 1, 0, none⟩), .pointer (some ⟨h, 0, none⟩), .pointer (some ⟨g + 1 + 1, 0, none⟩)]] 83 := ⟨_, rfl⟩
  obtain ⟨O4, hO4⟩ : ∃ O, O = Obj.cells #[.func (.func 105) #[] #[.pointer (some ⟨g + 1 + 1, 0, none⟩)]] 138 := ⟨_, rfl⟩
  rw [← hO1, ← hO2, ← hO3, ← hO4]
  obtain ⟨W, hW⟩ : ∃ W, W = ((((w1.alloc X0).alloc O1).alloc O2).alloc O3).alloc O4 := ⟨_, rfl⟩
  rw [← hW]
  have z0 : (w1.alloc X0).heap.size = g + 1 := by rw [hg]; simp
  have z1 : ((w1.alloc X0).alloc O1).heap.size = g + 2 := by rw [hg]; simp
  have z2 : (((w1.alloc X0).alloc O1).alloc O2).heap.size = g + 3 := by rw [hg]; simp
  have z3 : ((((w1.alloc X0).alloc O1).alloc O2).alloc O3).heap.size = g + 4 := by rw [hg]; simp
  have z4 : W.heap.size = g + 5 := by rw [hW, hg]; simp
  have y4 : W.heap[g + 4]? = some O4 := by rw [hW, ← z3]; exact heap_alloc_new _ _
  have y3 : W.heap[g + 3]? = some O3 := by rw [hW]; refine (Below.heap_alloc _ _ _ (by rw [z3]; omega)).trans ?_; rw [← z2]; exact heap_alloc_new _ _
  have y2 : W.heap[g + 2]? = some O2 := by rw [hW]; refine (Below.heap_alloc _ _ _ (by rw [z3]; omega)).trans ((Below.heap_alloc _ _ _ (by rw [z2]; omega)).trans ?_); rw [← z1]; exact heap_alloc_new _ _
  have y1 : W.heap[g + 1]? = some O1 := by rw [hW]; refine (Below.heap_alloc _ _ _ (by rw [z3]; omega)).trans ((Below.heap_alloc _ _ _ (by rw [z2]; omega)).trans ((Below.heap_alloc _ _ _ (by rw [z1]; omega)).trans ?_)); rw [← z0]; exact heap_alloc_new _ _
  have y0 : ∀ j, j < g + 1 → W.heap[j]? = (w1.alloc X0).heap[j]? := fun j hj => by rw [hW]; exact (Below.heap_alloc _ _ _ (by rw [z3]; omega)).trans ((Below.heap_alloc _ _ _ (by rw [z2]; omega)).trans ((Below.heap_alloc _ _ _ (by rw [z1]; omega)).trans (Below.heap_alloc _ _ _ (by rw [z0]; omega))))
  have yX : W.heap[g]? = some X0 := by rw [y0 g (by omega), hg]; exact heap_alloc_new _ _
  have yo : ∀ j, j < g → W.heap[j]? = w1.heap[j]? := fun j hj => (y0 j (by omega)).trans (Below.heap_alloc _ _ _ (by omega))
  have hhg : h + 1 ≤ g := by rw [hh, hg]; have := HB.out.2.1.size; simpa using this
  have yB : Below h w W := by
    rw [hW, hh]
    have hb := HB.out.2.1
    have hb0 : Below w.heap.size w w1 := ((Below.refl _ w).alloc (Nat.le_refl _) _).trans (hb.mono (by simp))
    exact ((((hb0.alloc (by omega) _).alloc (by rw [z0]; omega) _).alloc (by rw [z1]; omega) _).alloc (by rw [z2]; omega) _).alloc (by rw [z3]; omega) _
  have ys : W.heap[h]? = some (.cells #[.string s] 9 (0, 0)) := (yo h (by omega)).trans (by rw [hh]; exact HB.out.2.2)
  have yu : W.heap[h + 1]? = some (.cells ⟨upC N (upT T)⟩ 3 (0, 0)) := by
    by_cases e : h + 1 < g
    · refine (yo _ e).trans ?_
      have := HB.out.1
      rw [World.size_alloc, ← hh] at this
      exact this
    · have := block_lt HB.out.1
      rw [World.size_alloc, ← hh, ← hg] at this
      omega
  have cs : W.cell? ⟨h, 0, none⟩ = some (.string s) := by rw [cell_of_heap ys]; rfl
  have cm : W.cell? ⟨g + 3, 0, none⟩ = some (.func (.func 104) #[] #[.pointer (some ⟨g + 1, 0, none⟩), .pointer (some ⟨h, 0, none⟩), .pointer (some ⟨g + 1 + 1, 0, none⟩)]) := by rw [hO3] at y3; rw [cell_of_heap y3]; rfl
  have HY := Lib.hid (And.intro y4 (And.intro y3 (And.intro y2 (And.intro y1 (And.intro yX (And.intro yo (And.intro yB (And.intro ys (And.intro yu (And.intro z4 hhg))))))))))
  have HO := Lib.hid (And.intro hO1 (And.intro hO2 (And.intro hO3 hO4)))
  have HG := Lib.hid (And.intro hh hg)
  clear y4 y3 y2 y1 y0 yX yo yB ys yu hO1 hO2 hO3 hO4 hW z0 z1 z2 z3 hhg hh hg
  have z5 := z4
  clear z4
  go_wp2
  obtain ⟨Y4, Y3, Y2, Y1, YX, Yo, YB, Ys, Yu, Yz, Yg⟩ := HY.out
  obtain ⟨O1e, O2e, O3e, O4e⟩ := HO.out
  obtain ⟨hh, hg⟩ := HG.out
  obtain ⟨X0e, hN, hD, hP⟩ := HH.out
  obtain ⟨hts, hok, hs, hbw, hpos⟩ := HW.out
  have f0 : (W.alloc (.cells #[.slice (some ⟨b, o, none⟩) N cap, .string s, .bool bk, .slice (some ⟨h + 1, 0, none⟩) N N, markV (g + 1) h (g + 1 + 1)] 141)).heap.size = g + 6 := by simp; omega
  have f1 : ((W.alloc (.cells #[.slice (some ⟨b, o, none⟩) N cap, .string s, .bool bk, .slice (some ⟨h + 1, 0, none⟩) N N, markV (g + 1) h (g + 1 + 1)] 141)).alloc (.cells #[.pointer (some ⟨g + 5, 0, none⟩)] 139)).heap.size = g + 7 := by simp; omega
  obtain ⟨V, hV⟩ : ∃ V, V = ((W.alloc (.cells #[.slice (some ⟨b, o, none⟩) N cap, .string s, .bool bk, .slice (some ⟨h + 1, 0, none⟩) N N, markV (g + 1) h (g + 1 + 1)] 141)).alloc (.cells #[.pointer (some ⟨g + 5, 0, none⟩)] 139)).alloc (.cells #[.int .i64 (P : Int)] 3) := ⟨_, rfl⟩
  have v7 : V.heap[g + 7]? = some (.cells #[.int .i64 (P : Int)] 3 (0, 0)) := by rw [hV, ← f1]; exact heap_alloc_new _ _
  have v6 : V.heap[g + 6]? = some (.cells #[.pointer (some ⟨g + 5, 0, none⟩)] 139 (0, 0)) := by rw [hV]; refine (Below.heap_alloc _ _ _ (by rw [f1]; omega)).trans ?_; rw [← f0]; exact heap_alloc_new _ _
  have v5 : V.heap[g + 5]? = some (.cells #[.slice (some ⟨b, o, none⟩) N cap, .string s, .bool bk, .slice (some ⟨h + 1, 0, none⟩) N N, markV (g + 1) h (g + 1 + 1)] 141 (0, 0)) := by rw [hV]; refine (Below.heap_alloc _ _ _ (by rw [f1]; omega)).trans ((Below.heap_alloc _ _ _ (by rw [f0]; omega)).trans ?_); rw [← Yz]; exact heap_alloc_new _ _
  have vo : ∀ j, j < g + 5 → V.heap[j]? = W.heap[j]? := fun j hj => by rw [hV]; exact (Below.heap_alloc _ _ _ (by rw [f1]; omega)).trans ((Below.heap_alloc _ _ _ (by rw [f0]; omega)).trans (Below.heap_alloc _ _ _ (by omega)))
  have vB : Below h w V := by rw [hV]; exact ((YB.alloc (by omega) _).alloc (by rw [f0]; omega) _).alloc (by rw [f1]; omega) _
  have hE : Env { B := h, br := g + 1, bR := g, bs := h, bf := g + 1 + 1, bw := g + 5, bu := h + 1, bm := g + 3, bn := g + 4, bp := g + 6, bl := g + 7, bt := b, o := o, cap := cap } s bk ts (upT T) V := by
    refine ⟨by rw [← hN]; exact v5, ?_, ?_, ?_, v6, by rw [← hN, ← hP]; exact v7, fun j n hj => ?_, by dsimp only; omega, by dsimp only; omega⟩
    · rw [← hN]; exact (vo (h + 1) (by omega)).trans Yu
    · exact (vo (g + 3) (by omega)).trans (Y3.trans (by rw [O3e]; rfl))
    · exact (vo (g + 4) (by omega)).trans (Y4.trans (by rw [O4e]))
    · obtain ⟨b', o', e1, e2, e3⟩ := HL.out.at hj
      cases e1
      exact e3.below vB (by omega)
  have hM : Mk h (g + 1) g h (g + 1 + 1) N s (fun _ _ => false) [] V := by
    refine ⟨by omega, ?_, ⟨List.replicate (2 * N) (.slice none 0 0), by simp, ?_, fun q v hv => .inl ⟨?_, fun _ => rfl⟩, fun q r bb n c m d h1 _ => ?_⟩, ?_, ⟨.slice none 0 0, ?_, World.ownsRow_nil _ _ _ _⟩, fun _ _ h => Bool.noConfusion h, ?_, by omega⟩
    · refine (vo _ (by omega)).trans (Y1.trans ?_)
      rw [O1e, hD]
    · refine (vo _ (by omega)).trans (YX.trans ?_)
      rw [X0e, hD]
      have : madeCells #[Value.slice none 0 0] (2 * N) = ⟨List.replicate (2 * N) (.slice none 0 0)⟩ := by
        apply Array.ext'
        rw [toList_madeCells_one]
      rw [this]
    · have := List.mem_of_getElem? hv
      exact (List.mem_replicate.1 this).2
    · have := (List.mem_replicate.1 (List.mem_of_getElem? h1)).2
      cases this
    · exact (vo _ (by omega)).trans Ys
    · exact (vo _ (by omega)).trans (Y2.trans (by rw [O2e]))
    · rw [free_none]; simp
  refine bodyPost_ret (results_tmp rfl _ _ _) rfl ⟨{ B := h, br := g + 1, bR := g, bs := h, bf := g + 1 + 1, bw := g + 5, bu := h + 1, bm := g + 3, bn := g + 4, bp := g + 6, bl := g + 7, bt := b, o := o, cap := cap }, hh, rfl, Nat.le_refl _, ?_, rfl, ?_, ?_⟩
  · rw [← hh]; rw [hV] at vB; exact vB
  · rw [hV] at hE; exact hE
  · rw [hV] at hM; exact hM
end Go.Proofs.Ytgffmbdbjbhocaa
namespace Go.Proofs.Ytgffmbdbjbhocaa
open Go.RowKit Go.Lib

theorem tree_of (T : Tr) (hok : T.ok) : Tree (T.row 0) (upT T) T := ⟨rfl, hok, upT_occ T hok⟩
theorem owns_baseM {w : World} {B B' k n : Nat} {e : TypeId} {v : Value} {xs : List Value} (h : w.ownsRow B e k v n xs) (hB : B' ≤ B) : w.ownsRow B' e k v n xs := by
  refine ⟨h.1, h.2.imp id ?_⟩
  rintro ⟨g, cap, cur, h1, h2, h3⟩
  exact ⟨g, cap, cur, h1, Nat.le_trans hB h2, h3⟩
end Go.Proofs.Ytgffmbdbjbhocaa
namespace Go.Proofs.Ytgffmbdbjbhocaa
open Go.RowKit Go.Lib
attribute [local go_sem] Oper.semAt_some

theorem owns_kind {w : World} {B n size : Nat} {e t : TypeId} {v : Value} {xs : List Value} {g : Nat} {cs : Array Value} {fz : Nat × Nat} (h : w.ownsRow B e size v n xs) (hg : w.heap[g]? = some (.cells cs t fz)) (hne : t ≠ e) : v.ownBlock ≠ some g := by
  intro e0
  rcases h.2 with ⟨hv, _⟩ | ⟨g', cap, cur, hv, _, hh, _⟩
  · rw [hv] at e0; cases e0
  · rw [hv] at e0
    cases e0
    rw [hg] at hh
    injection hh with hh
    injection hh with _ hh _
    exact hne hh
end Go.Proofs.Ytgffmbdbjbhocaa
namespace Go.Proofs.Ytgffmbdbjbhocaa
open Go.RowKit Go.Lib

set_option maxHeartbeats 8000000 in
set_option maxRecDepth 20000 in
theorem reach_far (c : Cf) (s : ByteArray) (bk : Bool) (ts : List Nd) (up : Nat → Nat) (T : Tr) (hT : Tree ts up T) (J : (Nat → Bool) → World → Prop) (b1 b2 : Nat) (hbs : c.B ≤ c.bs)
    (hJk : ∀ D w w', J D w → Kept c.B w w' → J D w')
    (hJt : ∀ D p w, J D w → p ≤ s.size → Calls Try.prog 127 #[.int .i64 (p : Int), .pointer (some ⟨b1, 0, none⟩), .pointer (some ⟨b2, 0, none⟩)] w fun e w' => e = .returned (.tuple #[]) ∧ J (setT D p) w' ∧ ∀ j, (c.B ≤ j ∨ j = c.bt) → w'.heap[j]? = w.heap[j]?)
    (M0 : Nat → Nat → Bool) (a : Nat) (ha : a ≤ s.size) (w : World) (hE : Env c s bk ts up w) (hM : Mk c.B c.br c.bR c.bs c.bf ts.length s M0 [] w) (hJ : J (fun _ => false) w)
    (h0 : ∀ g p, M0 g p = true → ∀ q ∈ nextD bk s.data.toList ts up g p, M0 q.1 q.2 = true) :
    Calls Try.prog 106 #[.int .i64 (a : Int), .func (.func 127) #[] #[.pointer (some ⟨b1, 0, none⟩), .pointer (some ⟨b2, 0, none⟩)], .pointer (some ⟨c.bm, 0, none⟩), .pointer (some ⟨c.bl, 0, none⟩), .pointer (some ⟨c.bn, 0, none⟩), .pointer (some ⟨c.bp, 0, none⟩)] w fun e w' =>
      e = .returned (.tuple #[]) ∧ ∃ M, Env c s bk ts up w' ∧ Mk c.B c.br c.bR c.bs c.bf ts.length s M [] w' ∧ J (fun p => M (2 * (ts.length - 1) + 1) p && !M0 (2 * (ts.length - 1) + 1) p) w' ∧ Done bk s.data.toList ts up (ts.length - 1) a M0 M := by
  have hl : 0 < ts.length := by rw [← hT.len]; exact T.size_pos
  have hsm := hM.small
  obtain ⟨last, hlast⟩ : ∃ last, last = ts.length - 1 := ⟨_, rfl⟩
  have cbm : w.cell? ⟨c.bm, 0, none⟩ = some (.func (.func 104) #[] #[.pointer (some ⟨c.br, 0, none⟩), .pointer (some ⟨c.bs, 0, none⟩), .pointer (some ⟨c.bf, 0, none⟩)]) := by rw [cell_of_heap hE.bm]; rfl
  have cbl : w.cell? ⟨c.bl, 0, none⟩ = some (.int .i64 (last : Int)) := by rw [cell_of_heap hE.bl, hlast]; rfl
  have ki := fun w => in_any last w (by omega)
  have hst : Srch c s bk ts up w (M0, []) w := ⟨hE, hM, Kept.refl _ _⟩
  have km := hst.mark (g := 2 * last) (p := a) (by omega) ha
  have hA : ∀ w', Srch c s bk ts up w (mks [(2 * last, a)] (M0, [])) w' → ∃ M F D, AtS c s bk ts up J a M0 M F D w' := fun w' h => ⟨_, _, _, h.env, h.mm, hJk _ _ _ hJ h.kept, by rw [← hlast]; exact Inv.start h0⟩
  have SB := Lib.hid (fun W' (hb : Below w.heap.size w W') => (show W'.cell? ⟨c.bm, 0, none⟩ = some (.func (.func 104) #[] #[.pointer (some ⟨c.br, 0, none⟩), .pointer (some ⟨c.bs, 0, none⟩), .pointer (some ⟨c.bf, 0, none⟩)]) ∧ W'.cell? ⟨c.bl, 0, none⟩ = some (.int .i64 (last : Int)) from ⟨cell_kept hb cbm, cell_kept hb cbl⟩))
  have SP := Lib.hid (fun W' (h : Srch c s bk ts up w (mks [(2 * last, a)] (M0, [])) W') => (show W'.cell? ⟨c.bm, 0, none⟩ = some (.func (.func 104) #[] #[.pointer (some ⟨c.br, 0, none⟩), .pointer (some ⟨c.bs, 0, none⟩), .pointer (some ⟨c.bf, 0, none⟩)]) ∧ W'.cell? ⟨c.bl, 0, none⟩ = some (.int .i64 (last : Int)) from ⟨by rw [cell_of_heap h.env.bm]; rfl, by rw [cell_of_heap h.env.bl, hlast]; rfl⟩))
  have HJK := Lib.hid hJk
  have HJT := Lib.hid hJt
  have HT := Lib.hid hT
  have HLA := Lib.hid hlast
  have HA := Lib.hid hA
  clear hJk hJt hJ h0 hE hM hst hT cbm cbl hA hlast ha
  go_enter Try.func106, Try.ntmps106
  go_step3
  go_wp2_with fail
  go_region_held3 (fun W' => W'.cell? ⟨c.bm, 0, none⟩ = some (.func (.func 104) #[] #[.pointer (some ⟨c.br, 0, none⟩), .pointer (some ⟨c.bs, 0, none⟩), .pointer (some ⟨c.bf, 0, none⟩)]) ∧ W'.cell? ⟨c.bl, 0, none⟩ = some (.int .i64 (last : Int)))
    (first | with_reducible exact SB.out _ (Below.refl _ w).drew | with_reducible exact SP.out _ h1)
    (first
      | (go_at_call 107; refine (ki _).mono ?_; rintro e w2 ⟨rfl, rfl⟩)
      | (go_at_call 104; refine (km _ (Below.refl _ _).drew).mono ?_; rintro e w1 ⟨rfl, h1⟩))
  have H1 := Lib.hid (HA.out _ h1)
  clear h1 km ki SB SP HA
  go_wp2_with fail
  go_step3
  go_wp2_with fail
  go_loopg [] (2 * ts.length * (s.size + 1) + 1) (fun k wr => Hid (∃ M F D, AtS c s bk ts up J a M0 M F D wr ∧ F.length + free M s.size ts.length < k))
  case atStart =>
    obtain ⟨M, F, D, h⟩ := H1.out
    exact ⟨M, F, D, h, by have := h.mm.cnt; omega⟩
  case round =>
    obtain ⟨M, F, D, h, hk⟩ := hrel.out
    clear hrel H1
    rcases List.eq_nil_or_concat F with rfl | ⟨F', ⟨g, p⟩, hF⟩
    · have kn := next_empty (⟨h.env, h.mm, Kept.refl _ _⟩ : Srch c s bk ts up wr (M, []) wr)
      have cbn := h.bn
      have H := Lib.hid h
      clear h
      go_wp2_with (first
        | (go_at_call 105; refine kn.mono ?_; rintro e w2 ⟨rfl, h2⟩; have H2 := Lib.hid h2; clear h2 kn cbn)
        | fail)
      rw [Exit.noGoto_normal]
      go_end0
      have h3 := H2.out.below ((Below.refl _ w2).alloc (Nat.le_refl _) (.cells #[.int .i64 0, .int .i64 0] 137))
      obtain ⟨hd, hD⟩ := H.out.inv.done
      exact ⟨rfl, M, h3.env, h3.mm, hD ▸ HJK.out _ _ _ H.out.j h3.kept, hd⟩
    · rw [List.concat_eq_append] at hF
      subst hF
      obtain ⟨hMg, hM0g⟩ := h.inv.i1 (g, p) (List.mem_append_right _ (List.mem_singleton.2 rfl))
      obtain ⟨hg, hp⟩ := h.mm.inb g p hMg
      have kn := next_last (⟨h.env, h.mm, Kept.refl _ _⟩ : Srch c s bk ts up wr (M, F' ++ [(g, p)]) wr)
      have cbn := h.bn
      have hj := h.j
      have hi := h.inv
      have H := Lib.hid (And.intro hj (And.intro hi (And.intro hMg hM0g)))
      clear h hj hi hMg hM0g
      rcases Nat.mod_two_eq_zero_or_one g with hm | hm
      · obtain ⟨r, rfl⟩ : ∃ r, g = 2 * r := ⟨g / 2, by omega⟩
        obtain ⟨G, hG⟩ : ∃ G : Int, G = ((2 * r : Nat) : Int) := ⟨_, rfl⟩
        rw [← hG] at kn
        have hq : G / 2 = (r : Int) := by omega
        have HG := Lib.hid hG
        clear hG
        go_wp2_with (first
          | (go_at_call 105; refine kn.mono ?_; rintro e w2 ⟨rfl, h2⟩; have H2 := Lib.hid h2; clear h2 kn cbn)
          | fail)
        obtain ⟨W, hW⟩ : ∃ W, W = w2.alloc (.cells #[.int .i64 G, .int .i64 (p : Int)] 137) := ⟨_, rfl⟩
        rw [← hW]
        obtain ⟨h, hh⟩ : ∃ h, h = w2.heap.size := ⟨_, rfl⟩
        rw [← hh]
        have w0 : W.heap[h]? = some (.cells #[.int .i64 G, .int .i64 (p : Int)] 137 (0, 0)) := by rw [hW, hh]; exact heap_alloc_new _ _
        have d0 : W.cell? ⟨h, 0, none⟩ = some (.int .i64 G) := by rw [cell_of_heap w0]; rfl
        have d1 : W.cell? ⟨h, 1, none⟩ = some (.int .i64 (p : Int)) := by rw [cell_of_heap w0]; rfl
        have hWB : Below w2.heap.size w2 W := by rw [hW]; exact (Below.refl _ _).alloc (Nat.le_refl _) _
        have hVS : Srch c s bk ts up wr (M, F') W.drew := H2.out.below hWB.drew
        have hVJ : J D W.drew := HJK.out _ _ _ H.out.1 hVS.kept
        have SB := Lib.hid (fun W' (hb : Below W.heap.size W W') => (show W'.cell? ⟨h, 0, none⟩ = some (.int .i64 G) from cell_kept hb d0))
        have e1 : W.drew.cell? ⟨h, 1, none⟩ = some (.int .i64 (p : Int)) := d1
        obtain ⟨I, hI⟩ : ∃ I : Int, I = ((2 * r : Nat) : Int) := ⟨_, rfl⟩
        have ki2 : ∀ w, Calls Try.prog 107 #[.int .i64 (r : Int)] w fun e w' => e = .returned (.int .i64 I) ∧ w = w' := fun w => by rw [hI]; exact in_any r w (by omega)
        have heq : (G == I) = true := by have := HG.out; simp; omega
        have HI := Lib.hid hI
        clear hI
        have ke := way_enter HT.out HJK.out H.out.2.1 hVS hVJ (by omega) hp
        have cbp : W.drew.cell? ⟨c.bp, 0, none⟩ = some (.pointer (some ⟨c.bw, 0, none⟩)) := by rw [cell_of_heap hVS.env.bp]; rfl
        clear hW hh w0 d0 d1 hWB hVS hVJ
        go_region_held3 (fun W' => W'.cell? ⟨h, 0, none⟩ = some (.int .i64 G))
          (first | with_reducible exact SB.out _ (Below.refl _ W).drew)
          (first
            | (go_at_call 107; refine (ki2 _).mono ?_; rintro e w4 ⟨rfl, rfl⟩))
        clear ki2 SB
        go_wp2_with (first
          | (go_at_call 108; refine ke.mono ?_; rintro e w5 ⟨rfl, hAf⟩)
          | fail)
        obtain ⟨M', F'', D', hA', hlt⟩ := hAf
        go_roundg (gk - 1)
        case rel => exact ⟨M', F'', D', hA', by omega⟩
        case measure => omega
      · obtain ⟨r, rfl⟩ : ∃ r, g = 2 * r + 1 := ⟨g / 2, by omega⟩
        by_cases hrl : r = last
        · rw [hrl] at hg kn H hk
          clear hm hrl r
          obtain ⟨G, hG⟩ : ∃ G : Int, G = ((2 * last + 1 : Nat) : Int) := ⟨_, rfl⟩
          rw [← hG] at kn
          have hq : G / 2 = (last : Int) := by omega
          have HG := Lib.hid hG
          clear hG
          go_wp2_with (first
            | (go_at_call 105; refine kn.mono ?_; rintro e w2 ⟨rfl, h2⟩; have H2 := Lib.hid h2; clear h2 kn cbn)
            | fail)
          obtain ⟨W, hW⟩ : ∃ W, W = w2.alloc (.cells #[.int .i64 G, .int .i64 (p : Int)] 137) := ⟨_, rfl⟩
          rw [← hW]
          obtain ⟨h, hh⟩ : ∃ h, h = w2.heap.size := ⟨_, rfl⟩
          rw [← hh]
          have w0 : W.heap[h]? = some (.cells #[.int .i64 G, .int .i64 (p : Int)] 137 (0, 0)) := by rw [hW, hh]; exact heap_alloc_new _ _
          have d0 : W.cell? ⟨h, 0, none⟩ = some (.int .i64 G) := by rw [cell_of_heap w0]; rfl
          have d1 : W.cell? ⟨h, 1, none⟩ = some (.int .i64 (p : Int)) := by rw [cell_of_heap w0]; rfl
          have hWB : Below w2.heap.size w2 W := by rw [hW]; exact (Below.refl _ _).alloc (Nat.le_refl _) _
          have hVS : Srch c s bk ts up wr (M, F') W.drew := H2.out.below hWB.drew
          have hVJ : J D W.drew := HJK.out _ _ _ H.out.1 hVS.kept
          have SB := Lib.hid (fun W' (hb : Below W.heap.size W W') => (show W'.cell? ⟨h, 0, none⟩ = some (.int .i64 G) from cell_kept hb d0))
          have e1 : W.drew.cell? ⟨h, 1, none⟩ = some (.int .i64 (p : Int)) := d1
          obtain ⟨I, hI⟩ : ∃ I : Int, I = ((2 * last : Nat) : Int) := ⟨_, rfl⟩
          have ki2 : ∀ w, Calls Try.prog 107 #[.int .i64 (last : Int)] w fun e w' => e = .returned (.int .i64 I) ∧ w = w' := fun w => by rw [hI]; exact in_any last w (by omega)
          have hne : (G == I) = false := by have := HG.out; simp; omega
          have HI := Lib.hid hI
          clear hI
          have cbl : W.drew.cell? ⟨c.bl, 0, none⟩ = some (.int .i64 (last : Int)) := by rw [cell_of_heap hVS.env.bl, HLA.out]; rfl
          have hi : Inv bk s.data.toList ts up (ts.length - 1) a M0 M (F' ++ [(2 * (ts.length - 1) + 1, p)]) D := by have h := H.out.2.1; have e := HLA.out; rw [e] at h; exact h
          have kt := HJT.out D p W.drew hVJ hp
          have HVS := Lib.hid (And.intro hVS hi)
          clear hW hh w0 d0 d1 hWB hVS hVJ hi
          go_region_held3 (fun W' => W'.cell? ⟨h, 0, none⟩ = some (.int .i64 G))
            (first | with_reducible exact SB.out _ (Below.refl _ W).drew)
            (first
              | (go_at_call 107; refine (ki2 _).mono ?_; rintro e w4 ⟨rfl, rfl⟩))
          clear ki2 SB
          go_wp2_with (first
            | (go_at_call 127; refine kt.mono ?_; rintro e w5 ⟨rfl, hj5, hs5⟩)
            | fail)
          have hAf := way_tell hbs hl HVS.out.2 HVS.out.1 hj5 hs5
          rw [← HLA.out] at hAf
          obtain ⟨M', F'', D', hA', hlt⟩ := hAf
          go_roundg (gk - 1)
          case rel => exact ⟨M', F'', D', hA', by omega⟩
          case measure => omega
        · obtain ⟨G, hG⟩ : ∃ G : Int, G = ((2 * r + 1 : Nat) : Int) := ⟨_, rfl⟩
          rw [← hG] at kn
          have hq : G / 2 = (r : Int) := by omega
          have HG := Lib.hid hG
          clear hG
          go_wp2_with (first
            | (go_at_call 105; refine kn.mono ?_; rintro e w2 ⟨rfl, h2⟩; have H2 := Lib.hid h2; clear h2 kn cbn)
            | fail)
          obtain ⟨W, hW⟩ : ∃ W, W = w2.alloc (.cells #[.int .i64 G, .int .i64 (p : Int)] 137) := ⟨_, rfl⟩
          rw [← hW]
          obtain ⟨h, hh⟩ : ∃ h, h = w2.heap.size := ⟨_, rfl⟩
          rw [← hh]
          have w0 : W.heap[h]? = some (.cells #[.int .i64 G, .int .i64 (p : Int)] 137 (0, 0)) := by rw [hW, hh]; exact heap_alloc_new _ _
          have d0 : W.cell? ⟨h, 0, none⟩ = some (.int .i64 G) := by rw [cell_of_heap w0]; rfl
          have d1 : W.cell? ⟨h, 1, none⟩ = some (.int .i64 (p : Int)) := by rw [cell_of_heap w0]; rfl
          have hWB : Below w2.heap.size w2 W := by rw [hW]; exact (Below.refl _ _).alloc (Nat.le_refl _) _
          have hVS : Srch c s bk ts up wr (M, F') W.drew := H2.out.below hWB.drew
          have hVJ : J D W.drew := HJK.out _ _ _ H.out.1 hVS.kept
          have SB := Lib.hid (fun W' (hb : Below W.heap.size W W') => (show W'.cell? ⟨h, 0, none⟩ = some (.int .i64 G) from cell_kept hb d0))
          have e1 : W.drew.cell? ⟨h, 1, none⟩ = some (.int .i64 (p : Int)) := d1
          obtain ⟨I, hI⟩ : ∃ I : Int, I = ((2 * r : Nat) : Int) := ⟨_, rfl⟩
          have ki2 : ∀ w, Calls Try.prog 107 #[.int .i64 (r : Int)] w fun e w' => e = .returned (.int .i64 I) ∧ w = w' := fun w => by rw [hI]; exact in_any r w (by omega)
          have hne : (G == I) = false := by have := HG.out; simp; omega
          have HI := Lib.hid hI
          clear hI
          have ke := way_leave HT.out HJK.out H.out.2.1 hVS hVJ (by have := HLA.out; omega) hp
          have cbl : W.drew.cell? ⟨c.bl, 0, none⟩ = some (.int .i64 (last : Int)) := by rw [cell_of_heap hVS.env.bl, HLA.out]; rfl
          have cbp : W.drew.cell? ⟨c.bp, 0, none⟩ = some (.pointer (some ⟨c.bw, 0, none⟩)) := by rw [cell_of_heap hVS.env.bp]; rfl
          have hnl : ((r : Int) == (last : Int)) = false := by simp; omega
          clear hW hh w0 d0 d1 hWB hVS hVJ
          go_region_held3 (fun W' => W'.cell? ⟨h, 0, none⟩ = some (.int .i64 G))
            (first | with_reducible exact SB.out _ (Below.refl _ W).drew)
            (first
              | (go_at_call 107; refine (ki2 _).mono ?_; rintro e w4 ⟨rfl, rfl⟩))
          clear ki2 SB
          go_wp2_with (first
            | (go_at_call 109; refine ke.mono ?_; rintro e w5 ⟨rfl, hAf⟩)
            | fail)
          obtain ⟨M', F'', D', hA', hlt⟩ := hAf
          go_roundg (gk - 1)
          case rel => exact ⟨M', F'', D', hA', by omega⟩
          case measure => omega
end Go.Proofs.Ytgffmbdbjbhocaa
namespace Go.Proofs.Ytgffmbdbjbhocaa
open Go.RowKit Go.Lib

set_option maxHeartbeats 1000000 in
theorem bitsMul_any (x y : Nat) (hx : x < 18446744073709551616) (hy : y < 18446744073709551616) (w : World) :
    Calls Try.prog 148 #[.int .u64 x, .int .u64 y] w fun e w' => e = .returned (.tuple #[.int .u64 ((x * y / 18446744073709551616 : Nat) : Int), .int .u64 ((x * y % 18446744073709551616 : Nat) : Int)]) ∧ w' = w := by
  have k := fun w => Try.bits_Mul64 x y hx hy w
  obtain ⟨p, hp⟩ : ∃ p : Int, p = ((x * y / 18446744073709551616 : Nat) : Int) := ⟨_, rfl⟩
  obtain ⟨q, hq⟩ : ∃ q : Int, q = ((x * y % 18446744073709551616 : Nat) : Int) := ⟨_, rfl⟩
  rw [← hp, ← hq] at k ⊢
  clear hp hq hx hy
  go_enter Try.func148, Try.ntmps148
  go_wp2_with (first
    | (go_at_call 164; refine (k _).mono ?_; rintro e w1 ⟨rfl, rfl⟩)
    | fail)
  exact bodyPost_ret (results_tmp2 rfl _ _ _) rfl ⟨rfl, rfl⟩
theorem rep_get (N m : Nat) (x z : Value) (i : Nat) (h : i < m) : (List.replicate m x ++ List.replicate (N - m) z)[i]? = some x := by
  rw [List.getElem?_append_left (by simpa using h), List.getElem?_replicate, if_pos h]
theorem rep_splice (N m k : Nat) (x z : Value) (h : m + k ≤ N) : splice (List.replicate m x ++ List.replicate (N - m) z) m (List.replicate k x) = List.replicate (m + k) x ++ List.replicate (N - (m + k)) z := by
  unfold splice
  rw [List.take_append_of_le_length (by simp), List.take_of_length_le (by simp), List.drop_append, List.drop_of_length_le (by simp), List.nil_append, List.drop_replicate, List.length_replicate, List.length_replicate, ← List.append_assoc, List.replicate_append_replicate]
  congr 2
  omega
theorem wp_copy_spliceM {P : Program} {o : Oper} {a : Act} {w : World} {K : Act → World → Prop} {Q : Exit → Act → World → Prop} (hgd : o.guard = none) (d s : Operand) (dT sT : TypeId)
    (ho : o.op = .call { callee := .builtin .copy, args := #[d, s], argTypes := #[dT, sT] }) (elem : TypeId) (hu : P.underlying dT = some (.slice elem)) (hsz : (P.info? elem).map (·.size) = some 1)
    (dp sp : Option Addr) (dLen dCap sLen sCap : Nat) (hd : a.eval d = .slice dp dLen dCap) (hs : a.eval s = .slice sp sLen sCap)
    (g off : Nat) (cur : List Value) (t : TypeId) (hg : w.heap[g]? = some (.cells cur.toArray t (0, 0))) (cs : List Value) (hn : cs.length = Nat.min sLen dLen)
    (hpos : 0 < cs.length → dp = some ⟨g, off, none⟩ ∧ ∃ ad, sp = some ad ∧ ∀ j v, cs[j]? = some v → w.cell? (ad.add j) = some v)
    (hfit : off + cs.length ≤ cur.length) (h1 : ∀ v ∈ cs, v.oneCell' = true) (B : Nat) (w0 : World) (hb : RowKit.Below B w0 w) (hBg : B ≤ g)
    (h : ∀ w', RowKit.Hid (w'.heap[g]? = some (.cells (splice cur off cs).toArray t (0, 0))) → RowKit.Below B w0 w' → K (a.put o.dst (goInt cs.length)) w') : Oper.wp P o a w K Q := by
  have h := step_copy_splice (ops := #[]) (Q := Q) (E := False) hgd d s dT sT ho elem hu hsz dp sp dLen dCap sLen sCap hd hs g off cur t hg cs hn hpos hfit h1 B w0 hb hBg h
  rwa [if_pos (by simp [Region.wanted, hgd])] at h
set_option maxHeartbeats 8000000 in
set_option maxRecDepth 20000 in
theorem repeat_any (xb : Nat) (x : Int) (N : Nat) (w : World) (hN0 : 1 ≤ N) (hN : N ≤ 2000000) (hx : w.cell? ⟨xb, 0, none⟩ = some (.int .i64 x)) :
    Calls Try.prog 126 #[.slice (some ⟨xb, 0, none⟩) 1 1, .int .i64 (N : Int)] w fun e w' => e = .returned (.slice (some ⟨w.heap.size, 0, none⟩) N N) ∧ w'.heap[w.heap.size]? = some (.cells ⟨List.replicate N (Value.int .i64 x)⟩ 3 (0, 0)) ∧ Below w.heap.size w w' := by
  have km : ∀ w, Calls Try.prog 148 #[.int .u64 1, .int .u64 (N : Int)] w fun e w' => e = .returned (.tuple #[.int .u64 0, .int .u64 (N : Int)]) ∧ w' = w := fun w => by
    have h := bitsMul_any 1 N (by omega) (by omega) w
    rw [Nat.one_mul, Nat.div_eq_of_lt (by omega), Nat.mod_eq_of_lt (by omega)] at h
    exact h
  have hNI : ¬ (N : Int) < 0 := by omega
  have hN1 : decide ((9223372036854775807 : Int) < (N : Int)) = false := decide_eq_false (by omega)
  have hN2 : IntKind.u64.wrap (N : Int) = (N : Int) := IntWalk.u64_in _ (by omega)
  have hN3 : IntKind.i64.wrap (N : Int) = (N : Int) := IntWalk.i64_in _ (by omega)
  have kmk := fun (w : World) => run_make_row' (P := Try.prog) 42 3 (.int .i64 0) 8 Try.underlying42 Try.infoInt rfl .i64 .i64 N (by omega) (by omega) w
  obtain ⟨X0, hX0⟩ : ∃ X0, X0 = Obj.cells (madeCells #[.int .i64 0] N) 3 := ⟨_, rfl⟩
  rw [← hX0] at kmk
  have hx1 : X0 = .cells (List.replicate 0 (Value.int .i64 x) ++ List.replicate (N - 0) (Value.int .i64 0)).toArray 3 := by
    rw [hX0]
    have : madeCells #[Value.int .i64 0] N = (List.replicate 0 (Value.int .i64 x) ++ List.replicate (N - 0) (Value.int .i64 0)).toArray := by
      apply Array.ext'
      rw [toList_madeCells_one]
      simp
    rw [this]
  obtain ⟨g, hg⟩ : ∃ g, g = w.heap.size := ⟨_, rfl⟩
  have hgW : (w.alloc X0).heap[g]? = some (.cells (List.replicate 0 (Value.int .i64 x) ++ List.replicate (N - 0) (Value.int .i64 0)).toArray 3 (0, 0)) := by rw [hg, heap_alloc_new, hx1]
  have hxW : (w.alloc X0).cell? ⟨xb, 0, none⟩ = some (.int .i64 x) := cell_kept ((Below.refl _ w).alloc (Nat.le_refl _) _) hx
  have hbW : Below g w (w.alloc X0) := by rw [hg]; exact (Below.refl _ w).alloc (Nat.le_refl _) _
  have HW := Lib.hid (And.intro hgW (And.intro hxW hbW))
  have HG := Lib.hid hg
  rw [← hg]
  clear hX0 hx1 hgW hxW hbW hx hg
  have hpos0 : 0 < ([Value.int .i64 x] : List Value).length → (some ⟨w.heap.size, 0, none⟩ : Option Addr) = some ⟨g, 0, none⟩ ∧ ∃ ad : Addr, (some ⟨xb, 0, none⟩ : Option Addr) = some ad ∧ ∀ (j : Nat) (v : Value), ([Value.int .i64 x] : List Value)[j]? = some v → (w.alloc X0).cell? (ad.add j) = some v := fun _ => ⟨by rw [HG.out], ⟨xb, 0, none⟩, rfl, fun j v hj => by
    cases j with
    | zero => cases hj; exact HW.out.2.1
    | succ j => simp at hj⟩
  have HP0 := Lib.hid hpos0
  clear hpos0
  go_enter Try.func126, Try.ntmps126
  go_wp2_with (first
    | (go_at_call 148; refine (km _).mono ?_; rintro e w1 ⟨rfl, hw1⟩; replace hw1 := hw1.symm; subst hw1)
    | (refine wpList_copy_splice rfl (.tmp 31) (.tmp 32) 42 42 rfl 3 Try.underlying42 Try.sizeInt (some ⟨w.heap.size, 0, none⟩) (some ⟨xb, 0, none⟩) N N 1 1 rfl rfl g 0 (List.replicate 0 (Value.int .i64 x) ++ List.replicate (N - 0) (Value.int .i64 0)) 3 HW.out.1 [Value.int .i64 x] (Nat.min_eq_left hN0).symm HP0.out (by simp; omega) (by simp [Value.oneCell']) g w HW.out.2.2 (Nat.le_refl _) ?_; intro w2 hg2 hb2)
    | fail)
  have hg2' : w2.heap[g]? = some (.cells (List.replicate 1 (Value.int .i64 x) ++ List.replicate (N - 1) (Value.int .i64 0)).toArray 3 (0, 0)) := by
    have h := hg2.out
    have e := rep_splice N 0 1 (.int .i64 x) (.int .i64 0) (by omega)
    rw [Nat.zero_add] at e
    have e1 : [Value.int .i64 x] = List.replicate 1 (Value.int .i64 x) := rfl
    rw [e1, e] at h
    exact h
  have H2 := Lib.hid (And.intro hg2' hb2)
  clear hg2 hg2' hb2
  go_loopg [8] N (fun k v wr => ∃ m : Nat, v = .int .i64 m ∧ Hid (1 ≤ m ∧ m ≤ N) ∧ Hid (k = N + 1 - m) ∧ Hid (wr.heap[g]? = some (.cells (List.replicate m (Value.int .i64 x) ++ List.replicate (N - m) (Value.int .i64 0)).toArray 3 (0, 0)) ∧ Below g w wr))
  case atStart => exact ⟨1, rfl, ⟨Nat.le_refl _, hN0⟩, (by show N = N + 1 - 1; omega), H2.out⟩
  case round =>
    obtain ⟨m, rfl, HM, HK, HR⟩ := hrel
    have HG2 := HG.out
    by_cases hlt : m < N
    · have hltI : (m : Int) < (N : Int) := by omega
      have m0 : (0 : Int) ≤ (m : Int) := by omega
      have m1 : (m : Int) ≤ (N : Int) := by omega
      have m2 : ¬ N = m := by omega
      have m3 : m ≤ N := by omega
      obtain ⟨k, hk⟩ : ∃ k, k = Nat.min m (N - m) := ⟨_, rfl⟩
      have hk1 : m + k ≤ N := by rw [hk]; have : Nat.min m (N - m) ≤ N - m := Nat.min_le_right _ _; omega
      have hkm : k ≤ m := by rw [hk]; exact Nat.min_le_left _ _
      have hk0 : 1 ≤ k := by
        rw [hk]
        show 1 ≤ min m (N - m)
        have := HM.out
        omega
      have hI : IntKind.i64.wrap ((m : Int) + (k : Int)) = ((m + k : Nat) : Int) := by rw [IntWalk.i64_in _ (by omega)]; omega
      have HKK := Lib.hid hk
      clear hk HG2
      go_wp2_with fail
      refine wp_region_held_drew (S := fun _ => True) (by kernel_rfl) trivial (fun hHeld => ?_)
      refine wpAnyH_take (i := 0) (v := ?_) rfl (by kernel_rfl) (by kernel_rfl) (by kernel_rfl) (fun _ _ _ h => h) ?_ hHeld ?_; rotate_left; · (simp only [List.getElem_toArray, List.getElem_cons_zero]; refine Or.inl ⟨by rfl, ?_⟩; intro w hSw; go_simp; try with_reducible rfl)
      try simp only [List.getElem_toArray, List.getElem_cons_zero, Act.put, List.setIfInBounds_toArray, List.set_cons_zero, List.set_cons_succ]
      refine wpAnyH_take (i := 1) (v := ?_) rfl (by kernel_rfl) (by kernel_rfl) (by kernel_rfl) (fun _ _ _ h => h) ?_ hHeld ?_; rotate_left; · (simp only [List.getElem_toArray, List.getElem_cons_succ, List.getElem_cons_zero]; refine Or.inl ⟨by rfl, ?_⟩; intro w hSw; go_simp; try with_reducible rfl)
      try simp only [List.getElem_toArray, List.getElem_cons_succ, List.getElem_cons_zero, Act.put, List.setIfInBounds_toArray, List.set_cons_zero, List.set_cons_succ]
      refine wpAnyH_take (i := 2) (v := ?_) rfl (by kernel_rfl) (by kernel_rfl) (by kernel_rfl) (fun _ _ _ h => h) ?_ hHeld ?_; rotate_left; · (simp only [List.getElem_toArray, List.getElem_cons_succ, List.getElem_cons_zero]; refine Or.inl ⟨by rfl, ?_⟩; intro w hSw; go_simp; try with_reducible rfl)
      try simp only [List.getElem_toArray, List.getElem_cons_succ, List.getElem_cons_zero, Act.put, List.setIfInBounds_toArray, List.set_cons_zero, List.set_cons_succ]
      refine wpAnyH_take (i := 3) (v := ?_) rfl (by kernel_rfl) (by kernel_rfl) (by kernel_rfl) (fun _ _ _ h => h) ?_ hHeld ?_; rotate_left; · (simp only [List.getElem_toArray, List.getElem_cons_succ, List.getElem_cons_zero]; refine Or.inl ⟨by rfl, ?_⟩; intro w hSw; go_simp; try with_reducible rfl)
      try simp only [List.getElem_toArray, List.getElem_cons_succ, List.getElem_cons_zero, Act.put, List.setIfInBounds_toArray, List.set_cons_zero, List.set_cons_succ]
      refine wpAnyH_take (i := 4) (v := ?_) rfl (by kernel_rfl) (by kernel_rfl) (by kernel_rfl) (fun _ _ _ h => h) ?_ hHeld ?_; rotate_left; · (simp only [List.getElem_toArray, List.getElem_cons_succ, List.getElem_cons_zero]; refine Or.inl ⟨by rfl, ?_⟩; intro w hSw; go_simp; try with_reducible rfl)
      try simp only [List.getElem_toArray, List.getElem_cons_succ, List.getElem_cons_zero, Act.put, List.setIfInBounds_toArray, List.set_cons_zero, List.set_cons_succ]
      refine wpAnyH_take (i := 5) (v := ?_) rfl (by kernel_rfl) (by kernel_rfl) (by kernel_rfl) (fun _ _ _ h => h) ?_ hHeld ?_; rotate_left; · (simp only [List.getElem_toArray, List.getElem_cons_succ, List.getElem_cons_zero]; refine Or.inl ⟨by rfl, ?_⟩; intro w hSw; go_simp; try with_reducible rfl)
      try simp only [List.getElem_toArray, List.getElem_cons_succ, List.getElem_cons_zero, Act.put, List.setIfInBounds_toArray, List.set_cons_zero, List.set_cons_succ]
      refine wpAnyH_take (i := 6) (v := ?_) rfl (by kernel_rfl) (by kernel_rfl) (by kernel_rfl) (fun _ _ _ h => h) ?_ hHeld ?_; rotate_left; · (simp only [List.getElem_toArray, List.getElem_cons_succ, List.getElem_cons_zero]; refine Or.inl ⟨by rfl, ?_⟩; intro w hSw; go_simp; try with_reducible rfl)
      try simp only [List.getElem_toArray, List.getElem_cons_succ, List.getElem_cons_zero, Act.put, List.setIfInBounds_toArray, List.set_cons_zero, List.set_cons_succ]
      refine wpAnyH_ready (rs := [7]) (by kernel_rfl) (by simp) ?_
      refine AllReadyH.cons rfl (fun K' hK => ?_) AllReadyH.nil
      simp only [List.getElem_toArray, List.getElem_cons_succ, List.getElem_cons_zero]
      rw [if_pos (by rfl)]
      refine wp_copy_spliceM (w := wr.drew) rfl (.tmp 41) (.tmp 44) 42 42 rfl 3 Try.underlying42 Try.sizeInt (some ⟨w.heap.size, m, none⟩) _ (N - m) (N - m) m _ rfl rfl g m _ 3 HR.out.1 (List.replicate k (Value.int .i64 x)) (by rw [List.length_replicate]; exact HKK.out)
        (fun _ => ⟨by rw [HG.out], ⟨w.heap.size, 0, none⟩, rfl, fun j v hj => by
          have hjk : j < k := by
            by_cases h : j < k
            · exact h
            · rw [List.getElem?_eq_none (by simpa using h)] at hj; cases hj
          rw [List.getElem?_replicate, if_pos hjk] at hj
          cases hj
          have e : (⟨w.heap.size, 0, none⟩ : Addr).add j = ⟨w.heap.size, j, none⟩ := by simp [Addr.add]; intro h; exact h.symm
          have hw : wr.drew.heap[w.heap.size]? = some (.cells (List.replicate m (Value.int .i64 x) ++ List.replicate (N - m) (Value.int .i64 0)).toArray 3 (0, 0)) := by rw [← HG.out]; exact HR.out.1
          rw [e, cell_of_heap hw]
          simpa using rep_get N m _ _ j (by omega)⟩) (by simp; omega) (by intro v hv; have := (List.mem_replicate.1 hv).2; subst this; rfl) g w HR.out.2.drew (Nat.le_refl _) ?_
      intro w4 hg4 hb4
      refine hK.out _ _ trivial (fun _ => ?_)
      clear hK K'
      have hg4' : w4.heap[g]? = some (.cells (List.replicate (m + k) (Value.int .i64 x) ++ List.replicate (N - (m + k)) (Value.int .i64 0)).toArray 3 (0, 0)) := by
        have h := hg4.out
        rw [rep_splice N m k _ _ hk1] at h
        exact h
      have H4 := Lib.hid (And.intro hg4' hb4)
      clear hg4 hg4' hb4
      rw [List.length_replicate]
      unfold goInt
      try simp only [Act.put, List.setIfInBounds_toArray, List.set_cons_zero, List.set_cons_succ]
      refine wpAnyH_take (i := 8) (v := ?_) rfl (by kernel_rfl) (by kernel_rfl) (by kernel_rfl) (fun _ _ _ h => h) ?_ hHeld ?_; rotate_left; · (simp only [List.getElem_toArray, List.getElem_cons_succ, List.getElem_cons_zero]; refine Or.inl ⟨by rfl, ?_⟩; intro w hSw; go_simp; try with_reducible rfl)
      try simp only [List.getElem_toArray, List.getElem_cons_succ, List.getElem_cons_zero, Act.put, List.setIfInBounds_toArray, List.set_cons_zero, List.set_cons_succ]
      refine wpAnyH_take (i := 9) (v := ?_) rfl (by kernel_rfl) (by kernel_rfl) (by kernel_rfl) (fun _ _ _ h => h) ?_ hHeld ?_; rotate_left; · (simp only [List.getElem_toArray, List.getElem_cons_succ, List.getElem_cons_zero]; refine Or.inl ⟨by rfl, ?_⟩; intro w hSw; go_simp; try with_reducible rfl)
      try simp only [List.getElem_toArray, List.getElem_cons_succ, List.getElem_cons_zero, Act.put, List.setIfInBounds_toArray, List.set_cons_zero, List.set_cons_succ]
      refine wpAnyH_done (by kernel_rfl) ?_ _
      go_wp2
      go_roundg (N + 1 - (m + k))
      case rel => exact ⟨m + k, rfl, ⟨by omega, by omega⟩, rfl, H4.out⟩
      case measure => have := HK.out; omega
    · have hm : m = N := by have := HM.out.2; omega
      subst hm
      go_wp2
      refine bodyPost_ret (results_tmp rfl _ _ _) rfl ⟨by rw [HG.out]; rfl, ?_, HR.out.2⟩
      have h := HR.out.1
      simpa using h
end Go.Proofs.Ytgffmbdbjbhocaa
namespace Go.Proofs.Ytgffmbdbjbhocaa
open Go.RowKit Go.Lib

def intC (n : Nat) (G : Nat → Int) : List Value := (List.range (n + 1)).map fun q => .int .i64 (G q)
theorem intC_get (n : Nat) (G : Nat → Int) (q : Nat) (h : q ≤ n) : (intC n G)[q]? = some (.int .i64 (G q)) := by
  unfold intC
  rw [List.getElem?_map, List.getElem?_range (by omega)]
  rfl
theorem intC_set (n : Nat) (G : Nat → Int) (p : Nat) (e : Int) : (intC n G).set p (.int .i64 e) = intC n (fun q => if q = p then e else G q) := by
  have hl : ∀ G, (intC n G).length = n + 1 := fun G => by unfold intC; simp
  apply List.ext_getElem?
  intro j
  rw [List.getElem?_set]
  by_cases hj : j ≤ n
  · rw [intC_get _ _ _ hj, intC_get _ _ _ hj, hl]
    by_cases h : p = j
    · subst h; simp [show p < n + 1 by omega]
    · rw [if_neg h, if_neg (fun e => h e.symm)]
  · rw [List.getElem?_eq_none (by rw [hl]; omega), List.getElem?_eq_none (by rw [hl]; omega), hl]
    by_cases h : p = j
    · subst h; simp [show ¬ p < n + 1 by omega]
    · rw [if_neg h]
theorem intC_rep (n : Nat) (x : Int) : List.replicate (n + 1) (Value.int .i64 x) = intC n (fun _ => x) := by
  unfold intC
  apply List.ext_getElem?
  intro j
  by_cases h : j < n + 1
  · rw [List.getElem?_replicate, if_pos h, List.getElem?_map, List.getElem?_range h]; rfl
  · rw [List.getElem?_eq_none (by simpa using h), List.getElem?_eq_none (by simpa using h)]
/-- The row of the greatest ends, and what is told of at the time. -/
structure FarAt (B he hb hr n : Nat) (w0 : World) (e : Int) (G : Nat → Int) (w : World) : Prop where
  ebox : w.heap[he]? = some (.cells #[.int .i64 e] 3 (0, 0))
  fbox : w.heap[hb]? = some (.cells #[.slice (some ⟨hr, 0, none⟩) (n + 1) (n + 1)] 42 (0, 0))
  row : w.heap[hr]? = some (.cells ⟨intC n G⟩ 3 (0, 0))
  low : Below B w0 w
theorem FarAt.kept {B he hb hr n C : Nat} {w0 w w' : World} {e : Int} {G : Nat → Int} (h : FarAt B he hb hr n w0 e G w) (hB : B ≤ C) (k : Kept C w w') : FarAt B he hb hr n w0 e G w' :=
  ⟨k.other _ _ _ _ h.ebox (by decide) (by decide) (by decide) (by decide), k.other _ _ _ _ h.fbox (by decide) (by decide) (by decide) (by decide), k.other _ _ _ _ h.row (by decide) (by decide) (by decide) (by decide), h.low.trans (k.low.mono hB)⟩
set_option maxHeartbeats 1000000 in
theorem tell_far (B he hb hr n p : Nat) (w0 : World) (e : Int) (G : Nat → Int) (w : World) (h : FarAt B he hb hr n w0 e G w) (hp : p ≤ n) (hBr : B ≤ hr) (hne : he ≠ hr) (hnb : hb ≠ hr) :
    Calls Try.prog 127 #[.int .i64 (p : Int), .pointer (some ⟨he, 0, none⟩), .pointer (some ⟨hb, 0, none⟩)] w fun en w' => en = .returned (.tuple #[]) ∧ FarAt B he hb hr n w0 e (fun q => if q = p then e else G q) w' ∧ ∀ j, j ≠ hr → w'.heap[j]? = w.heap[j]? := by
  have c0 : w.cell? ⟨hb, 0, none⟩ = some (.slice (some ⟨hr, 0, none⟩) (n + 1) (n + 1)) := by rw [cell_of_heap h.fbox]; rfl
  have ce : w.cell? ⟨he, 0, none⟩ = some (.int .i64 e) := by rw [cell_of_heap h.ebox]; rfl
  have c1 : w.cell? ⟨hr, p, none⟩ = some (.int .i64 (G p)) := by rw [cell_of_heap h.row]; simpa using intC_get n G p hp
  have f1 : w.frozen? ⟨hr, p, none⟩ = false := frozen_of_heap h.row p
  have p0 : (0 : Int) ≤ (p : Int) := by omega
  obtain ⟨N, hN⟩ : ∃ N, N = n + 1 := ⟨_, rfl⟩
  rw [← hN] at c0
  have p1 : (p : Int) < (N : Int) := by omega
  have H := Lib.hid h
  clear h hN hp
  go_enter Try.func127, Try.ntmps127
  go_wp2
  go_end0
  have hrow : (w.setCell ⟨hr, p, none⟩ (.int .i64 e)).heap[hr]? = some (.cells ⟨intC n (fun q => if q = p then e else G q)⟩ 3 (0, 0)) := by
    rw [heap_setCell_same w hr p _ _ (.int .i64 e) H.out.row]
    have e := intC_set n G p e
    simp [e]
  exact ⟨rfl, ⟨(Below.heap_setCell _ _ _ _ hne).trans H.out.ebox, (Below.heap_setCell _ _ _ _ hnb).trans H.out.fbox, hrow, H.out.low.setCell (p := ⟨hr, p, none⟩) hBr _⟩, fun j hj => Below.heap_setCell _ _ _ _ hj⟩
/-- The greatest ends above a bound. -/
def FarOk (s : List UInt8) (T : Tr) (e : Int) (G : Nat → Int) : Prop :=
  ∀ b, (G b = -1 ∧ ∀ a : Nat, e < a → a ≤ s.length → ¬ St s T b a) ∨ ∃ a : Nat, e < a ∧ a ≤ s.length ∧ G b = a ∧ St s T b a ∧ ∀ a' : Nat, a < a' → a' ≤ s.length → ¬ St s T b a'
/-- The marks, when all from a bound on have been gone back from. -/
structure MInv (s : List UInt8) (ts : List Nd) (up : Nat → Nat) (last : Nat) (e : Int) (M : Nat → Nat → Bool) : Prop where
  closed : ∀ g p, M g p = true → ∀ q ∈ nextD true s ts up g p, M q.1 q.2 = true
  src : ∀ a : Nat, e < a → a ≤ s.length → M (2 * last) a = true
  least : ∀ X : Nat → Nat → Prop, Closed true s ts up X → (∀ a : Nat, e < a → a ≤ s.length → X (2 * last) a) → ∀ g p, M g p = true → X g p
theorem MInv.step {s : List UInt8} {ts : List Nd} {up : Nat → Nat} {last e : Nat} {M M' : Nat → Nat → Bool} (he : e ≤ s.length) (h : MInv s ts up last (e : Int) M) (d : Done true s ts up last e M M') : MInv s ts up last ((e : Int) - 1) M' := by
  refine ⟨d.closed, fun a h1 h2 => ?_, fun X hX hs g p hm => d.least X hX (fun g p hm => h.least X hX (fun a h1 h2 => hs a (by omega) h2) g p hm) (hs e (by omega) he) g p hm⟩
  · by_cases ha : a = e
    · rw [ha]; exact d.src
    · exact d.old _ _ (h.src a (by omega) h2)
theorem MInv.is {s : List UInt8} {ts : List Nd} {T : Tr} {e : Int} {M : Nat → Nat → Bool} (hT : Tree ts (upT T) T) (h : MInv s ts (upT T) (ts.length - 1) e M) (b : Nat) :
    M (2 * (ts.length - 1) + 1) b = true ↔ ∃ a : Nat, (e < a ∧ a ≤ s.length) ∧ St s T b a := by
  have hp := T.size_pos
  have hl := hT.len
  exact marked_is (bk := true) (s := s) (ts := ts) (up := upT T) (T := T) (Src := fun a => e < (a : Int) ∧ a ≤ s.length) (M := fun g p => M g p = true) (last := ts.length - 1) hT.occ hl (by omega)
    h.closed (fun a ha => h.src a ha.1 ha.2) (fun X hX hs g p hm => h.least X hX (fun a h1 h2 => hs a ⟨h1, h2⟩) g p hm) b
theorem far_step {s : List UInt8} {ts : List Nd} {T : Tr} {e : Nat} {M M' : Nat → Nat → Bool} {G : Nat → Int} (hT : Tree ts (upT T) T) (he : e ≤ s.length) (h : MInv s ts (upT T) (ts.length - 1) (e : Int) M) (h' : MInv s ts (upT T) (ts.length - 1) ((e : Int) - 1) M') (hG : FarOk s T e G) :
    FarOk s T ((e : Int) - 1) (fun q => if (M' (2 * (ts.length - 1) + 1) q && !M (2 * (ts.length - 1) + 1) q) = true then (e : Int) else G q) := by
  intro b
  have i1 := h.is hT b
  have i2 := h'.is hT b
  dsimp only
  cases hM : M (2 * (ts.length - 1) + 1) b with
  | true =>
    have hc : (M' (2 * (ts.length - 1) + 1) b && !true) = false := by simp
    rw [hc, if_neg (by simp)]
    rcases hG b with ⟨_, g2⟩ | ⟨a, g1, g2, g3, g4, g5⟩
    · obtain ⟨a, ⟨h1, h2⟩, h3⟩ := i1.1 hM
      exact absurd h3 (g2 a h1 h2)
    · exact .inr ⟨a, by omega, g2, g3, g4, g5⟩
  | false =>
    have hno : ∀ a : Nat, (e : Int) < a → a ≤ s.length → ¬ St s T b a := fun a h1 h2 h3 => by rw [i1.2 ⟨a, ⟨h1, h2⟩, h3⟩] at hM; cases hM
    cases hM' : M' (2 * (ts.length - 1) + 1) b with
    | true =>
      have hc : (true && !false) = true := rfl
      rw [hc, if_pos rfl]
      obtain ⟨a, ⟨h1, h2⟩, h3⟩ := i2.1 hM'
      have ha : a = e := by
        by_cases hh : (e : Int) < a
        · exact absurd h3 (hno a hh h2)
        · omega
      subst ha
      exact .inr ⟨a, by omega, h2, rfl, h3, fun a' h4 h5 => hno a' (by omega) h5⟩
    | false =>
      have hc : (false && !false) = false := rfl
      rw [hc, if_neg (by simp)]
      have hno' : ∀ a : Nat, (e : Int) - 1 < a → a ≤ s.length → ¬ St s T b a := fun a h1 h2 h3 => by rw [i2.2 ⟨a, ⟨h1, h2⟩, h3⟩] at hM'; cases hM'
      rcases hG b with ⟨g1, _⟩ | ⟨a, g1, g2, _, g4, _⟩
      · exact .inl ⟨g1, hno'⟩
      · exact absurd g4 (hno a g1 g2)
theorem Env.end {c : Cf} {s : ByteArray} {bk : Bool} {ts : List Nd} {up : Nat → Nat} {w w' : World} {he : Nat} (h : Env c s bk ts up w) (hb : c.bw ≠ he ∧ c.bu ≠ he ∧ c.bm ≠ he ∧ c.bn ≠ he ∧ c.bp ≠ he ∧ c.bl ≠ he ∧ c.bt ≠ he) (hs : ∀ j, j ≠ he → w'.heap[j]? = w.heap[j]?) : Env c s bk ts up w' := by
  obtain ⟨g1, g2, g3, g4, g5, g6, g7⟩ := hb
  refine ⟨(hs _ g1).trans h.wk, (hs _ g2).trans h.up, (hs _ g3).trans h.bm, (hs _ g4).trans h.bn, (hs _ g5).trans h.bp, (hs _ g6).trans h.bl, fun j n hj => ?_, h.lt, h.ge⟩
  have e : ∀ i, w'.cell? ⟨c.bt, i, none⟩ = w.cell? ⟨c.bt, i, none⟩ := fun i => by unfold World.cell?; rw [hs c.bt g7]
  have := h.tree j n hj
  unfold NdAt at this ⊢
  rw [e, e, e, e, e, e, e]
  exact this
theorem Mk.end {B br bR bs bf L he : Nat} {s : ByteArray} {M : Nat → Nat → Bool} {F : List (Nat × Nat)} {w w' : World} {cs : Array Value} (h : Mk B br bR bs bf L s M F w) (hh : w.heap[he]? = some (.cells cs 3 (0, 0))) (hs : ∀ j, j ≠ he → w'.heap[j]? = w.heap[j]?) : Mk B br bR bs bf L s M F w' := by
  have ty : ∀ {i : Nat} {a : Array Value} {U : TypeId} {fz : Nat × Nat}, w.heap[i]? = some (.cells a U fz) → U ≠ 3 → w'.heap[i]? = some (.cells a U fz) := fun {i a U fz} hi hne => by
    refine (hs i fun e => ?_).trans hi
    subst e
    rw [hh] at hi
    injection hi with hi
    injection hi with _ hi _
    exact hne hi.symm
  obtain ⟨rv, h1, h2, h3, h4⟩ := h.cells
  obtain ⟨v, h5, h6⟩ := h.fresh
  refine ⟨h.hB, ty h.rows (by decide), ⟨rv, h1, ty h2 (by decide), fun g v hv => ?_, h4⟩, ty h.str (by decide), ⟨v, ty h5 (by decide), ?_⟩, h.inb, h.cnt, h.small⟩
  · rcases h3 g v hv with hx | ⟨b, e1, e2, e3⟩
    · exact .inl hx
    · exact .inr ⟨b, e1, e2, ty e3 (by decide)⟩
  · refine owns_same h6 fun q hq => ?_
    rcases h6.2 with ⟨hv, _⟩ | ⟨g, cap, cur, hv, _, hg, _⟩
    · rw [hv] at hq; cases hq
    · rw [hv] at hq
      cases hq
      exact (ty hg (by decide)).trans hg.symm
/-- Between two ends. -/
structure FarS (c : Cf) (B he hb hr : Nat) (s : ByteArray) (ts : List Nd) (T : Tr) (w0 : World) (e : Int) (M : Nat → Nat → Bool) (G : Nat → Int) (w : World) : Prop where
  env : Env c s true ts (upT T) w
  mm : Mk c.B c.br c.bR c.bs c.bf ts.length s M [] w
  at_ : FarAt B he hb hr s.size w0 e G w
  ok : FarOk s.data.toList T e G
  inv : MInv s.data.toList ts (upT T) (ts.length - 1) e M
  le : -1 ≤ e ∧ e ≤ (s.size : Int)
theorem far_call {c : Cf} {B he hb hr e : Nat} {s : ByteArray} {ts : List Nd} {T : Tr} {w0 w : World} {M : Nat → Nat → Bool} {G : Nat → Int} (hT : Tree ts (upT T) T) (hbs : c.B ≤ c.bs) (hBr : B ≤ hr) (hBc : B ≤ c.B) (hrc : hr < c.B) (hrt : c.bt < hr) (hne : he ≠ hr) (hnb : hb ≠ hr) (h : FarS c B he hb hr s ts T w0 (e : Int) M G w) :
    Calls Try.prog 106 #[.int .i64 (e : Int), .func (.func 127) #[] #[.pointer (some ⟨he, 0, none⟩), .pointer (some ⟨hb, 0, none⟩)], .pointer (some ⟨c.bm, 0, none⟩), .pointer (some ⟨c.bl, 0, none⟩), .pointer (some ⟨c.bn, 0, none⟩), .pointer (some ⟨c.bp, 0, none⟩)] w fun en w' =>
      en = .returned (.tuple #[]) ∧ ∃ M' G', Env c s true ts (upT T) w' ∧ Mk c.B c.br c.bR c.bs c.bf ts.length s M' [] w' ∧ FarAt B he hb hr s.size w0 (e : Int) G' w' ∧ FarOk s.data.toList T ((e : Int) - 1) G' ∧ MInv s.data.toList ts (upT T) (ts.length - 1) ((e : Int) - 1) M' := by
  have hlen : s.data.toList.length = s.size := Array.length_toList
  have hle := h.le
  refine (reach_far c s true ts (upT T) T hT (fun D w => FarAt B he hb hr s.size w0 (e : Int) (fun q => if D q = true then (e : Int) else G q) w) he hb hbs (fun D a b h k => h.kept hBc k)
    (fun D p a h hp => (tell_far B he hb hr s.size p w0 (e : Int) _ a h hp hBr hne hnb).mono fun en a' hh => ⟨hh.1, ?_, fun j hj => hh.2.2 j (by rcases hj with hj | hj <;> omega)⟩)
    M e (by omega) w h.env h.mm ?_ h.inv.closed).mono ?_
  · have e2 : (fun q => if setT D p q = true then (e : Int) else G q) = fun q => if q = p then (e : Int) else if D q = true then (e : Int) else G q := by
      funext q
      unfold setT
      by_cases hq : q = p <;> simp [hq]
    rw [e2]
    exact hh.2.1
  · have e2 : (fun q : Nat => if (fun _ : Nat => false) q = true then (e : Int) else G q) = G := by funext q; simp
    show FarAt B he hb hr s.size w0 (e : Int) (fun q : Nat => if (fun _ : Nat => false) q = true then (e : Int) else G q) w
    rw [e2]
    exact h.at_
  · rintro en w' ⟨rfl, M', hE, hM, hJ, hD⟩
    have hi := h.inv.step (by rw [hlen]; omega) hD
    exact ⟨rfl, M', _, hE, hM, hJ, far_step hT (by rw [hlen]; omega) h.inv hi h.ok, hi⟩
end Go.Proofs.Ytgffmbdbjbhocaa
