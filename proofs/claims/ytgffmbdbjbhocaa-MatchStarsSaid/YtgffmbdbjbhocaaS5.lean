/- Packed texts: MaReach, MaReacher, MaReachE, MaEnds, MaReachF. What each of them proves stands above its theorems; the conditions stand in these. -/
import Derived.Deep.LoopGhost
import Derived.WalkMore
import Derived.Test.YtgffmbdbjbhocaaS3
import Derived.Test.YtgffmbdbjbhocaaS4
namespace Go.Proofs.Ytgffmbdbjbhocaa
open Go.RowKit Go.Lib

/-- Between two steps. -/
structure AtS (c : Cf) (s : ByteArray) (bk : Bool) (ts : List Nd) (up : Nat → Nat) (J : (Nat → Bool) → World → Prop) (a : Nat) (M0 M : Nat → Nat → Bool) (F : List (Nat × Nat)) (D : Nat → Bool) (w : World) : Prop where
  env : Env c s bk ts up w
  mm : Mk c.B c.br c.bR c.bs c.bf ts.length s M F w
  j : J D w
  inv : Inv bk s.data.toList ts up (ts.length - 1) a M0 M F D
theorem Env.same {c : Cf} {s : ByteArray} {bk : Bool} {ts : List Nd} {up : Nat → Nat} {w w' : World} (h : Env c s bk ts up w) (hs : ∀ j, (c.B ≤ j ∨ j = c.bt) → w'.heap[j]? = w.heap[j]?) : Env c s bk ts up w' := by
  obtain ⟨g1, g2, g3, g4, g5, g6⟩ := h.ge
  refine ⟨(hs _ (.inl g1)).trans h.wk, (hs _ (.inl g2)).trans h.up, (hs _ (.inl g3)).trans h.bm, (hs _ (.inl g4)).trans h.bn, (hs _ (.inl g5)).trans h.bp, (hs _ (.inl g6)).trans h.bl, fun j n hj => ?_, h.lt, h.ge⟩
  have e : ∀ i, w'.cell? ⟨c.bt, i, none⟩ = w.cell? ⟨c.bt, i, none⟩ := fun i => by unfold World.cell?; rw [hs c.bt (.inr rfl)]
  have := h.tree j n hj
  unfold NdAt at this ⊢
  rw [e, e, e, e, e, e, e]
  exact this
theorem Mk.same {B br bR bs bf L : Nat} {s : ByteArray} {M : Nat → Nat → Bool} {F : List (Nat × Nat)} {w w' : World} (h : Mk B br bR bs bf L s M F w) (hbs : B ≤ bs) (hs : ∀ j, B ≤ j → w'.heap[j]? = w.heap[j]?) : Mk B br bR bs bf L s M F w' := by
  obtain ⟨rv, h1, h2, h3, h4⟩ := h.cells
  obtain ⟨v, h5, h6⟩ := h.fresh
  refine ⟨h.hB, (hs _ h.hB.1).trans h.rows, ⟨rv, h1, (hs _ h.hB.2.1).trans h2, fun g v hv => ?_, h4⟩, (hs _ hbs).trans h.str, ⟨v, (hs _ h.hB.2.2).trans h5, owns_same h6 fun q hq => hs q (own_base h6 hq)⟩, h.inb, h.cnt, h.small⟩
  rcases h3 g v hv with hh | ⟨b, e1, e2, e3⟩
  · exact .inl hh
  · exact .inr ⟨b, e1, e2, (hs _ e2).trans e3⟩
section
variable {c : Cf} {s : ByteArray} {bk : Bool} {ts : List Nd} {up : Nat → Nat} {J : (Nat → Bool) → World → Prop} {a : Nat} {M0 M : Nat → Nat → Bool} {F : List (Nat × Nat)} {D : Nat → Bool} {w : World}
theorem AtS.bl (h : AtS c s bk ts up J a M0 M F D w) : w.cell? ⟨c.bl, 0, none⟩ = some (.int .i64 ((ts.length - 1 : Nat) : Int)) := by rw [cell_of_heap h.env.bl]; rfl
theorem AtS.bp (h : AtS c s bk ts up J a M0 M F D w) : w.cell? ⟨c.bp, 0, none⟩ = some (.pointer (some ⟨c.bw, 0, none⟩)) := by rw [cell_of_heap h.env.bp]; rfl
theorem AtS.bn (h : AtS c s bk ts up J a M0 M F D w) : w.cell? ⟨c.bn, 0, none⟩ = some (.func (.func 105) #[] #[.pointer (some ⟨c.bf, 0, none⟩)]) := by rw [cell_of_heap h.env.bn]; rfl
end
/-- What one step of the search does, from the popped spot on. -/
def After (c : Cf) (s : ByteArray) (bk : Bool) (ts : List Nd) (up : Nat → Nat) (J : (Nat → Bool) → World → Prop) (a : Nat) (M0 : Nat → Nat → Bool) (k : Nat) (w : World) : Prop :=
  ∃ M F D, AtS c s bk ts up J a M0 M F D w ∧ F.length + free M s.size ts.length < k
/-- The step's three ways, each as a contract from the world in which the spot has been taken. -/
theorem way_enter {c : Cf} {s : ByteArray} {bk : Bool} {ts : List Nd} {up : Nat → Nat} {T : Tr} (hT : Tree ts up T) {J : (Nat → Bool) → World → Prop} (hJk : ∀ D w w', J D w → Kept c.B w w' → J D w') {a : Nat} {M0 M : Nat → Nat → Bool} {F : List (Nat × Nat)} {D : Nat → Bool} {r p : Nat} {w W : World}
    (hi : Inv bk s.data.toList ts up (ts.length - 1) a M0 M (F ++ [(2 * r, p)]) D) (h : Srch c s bk ts up w (M, F) W) (hj : J D W) (hr : r < ts.length) (hp : p ≤ s.size) :
    Calls Try.prog 108 #[.pointer (some ⟨c.bw, 0, none⟩), .int .i64 (r : Int), .int .i64 (p : Int)] W fun e w' => e = .returned (.tuple #[]) ∧ After c s bk ts up J a M0 ((F ++ [(2 * r, p)]).length + free M s.size ts.length) w' := by
  have hn : ts[r]? = some ts[r] := List.getElem?_eq_getElem hr
  refine (enter_any (w0 := W) ⟨h.env, h.mm, Kept.refl _ _⟩ hn (hT.fit hn) hp).mono ?_
  rintro e w' ⟨rfl, h2⟩
  have hst := hi.step (T' := D) (.inl ⟨by omega, rfl⟩)
  rw [next_even _ _ _ _ hn] at hst
  have hfr := mks_free (n := s.size) (L := ts.length) (enterD bk s.data.toList ts[r] r p) (M, F) (fun q hq => by have := enter_inb (hT.fit hn) hr (by rw [Array.length_toList]; exact hp) q hq; rwa [Array.length_toList] at this)
  exact ⟨rfl, _, _, D, ⟨h2.env, h2.mm, hJk _ _ _ hj h2.kept, hst⟩, by rw [hfr, List.length_append]; dsimp only [List.length_cons, List.length_nil]; omega⟩
theorem way_leave {c : Cf} {s : ByteArray} {bk : Bool} {ts : List Nd} {up : Nat → Nat} {T : Tr} (hT : Tree ts up T) {J : (Nat → Bool) → World → Prop} (hJk : ∀ D w w', J D w → Kept c.B w w' → J D w') {a : Nat} {M0 M : Nat → Nat → Bool} {F : List (Nat × Nat)} {D : Nat → Bool} {r p : Nat} {w W : World}
    (hi : Inv bk s.data.toList ts up (ts.length - 1) a M0 M (F ++ [(2 * r + 1, p)]) D) (h : Srch c s bk ts up w (M, F) W) (hj : J D W) (hr : r + 1 < ts.length) (hp : p ≤ s.size) :
    Calls Try.prog 109 #[.pointer (some ⟨c.bw, 0, none⟩), .int .i64 (r : Int), .int .i64 (p : Int)] W fun e w' => e = .returned (.tuple #[]) ∧ After c s bk ts up J a M0 ((F ++ [(2 * r + 1, p)]).length + free M s.size ts.length) w' := by
  obtain ⟨n, hn, hk, hu⟩ := hT.parent hr
  refine (leave_any (w0 := W) ⟨h.env, h.mm, Kept.refl _ _⟩ (by omega) hn (hT.fit hn) hk hp).mono ?_
  rintro e w' ⟨rfl, h2⟩
  have hst := hi.step (T' := D) (.inl ⟨by omega, rfl⟩)
  rw [next_odd _ _ _ hr hn] at hst
  have hfr := mks_free (n := s.size) (L := ts.length) (leaveD bk n (up r) r p) (M, F) (leave_inb (hT.fit hn) (by omega) hu hp)
  exact ⟨rfl, _, _, D, ⟨h2.env, h2.mm, hJk _ _ _ hj h2.kept, hst⟩, by rw [hfr, List.length_append]; dsimp only [List.length_cons, List.length_nil]; omega⟩
theorem way_tell {c : Cf} {s : ByteArray} {bk : Bool} {ts : List Nd} {up : Nat → Nat} {J : (Nat → Bool) → World → Prop} {a : Nat} {M0 M : Nat → Nat → Bool} {F : List (Nat × Nat)} {D : Nat → Bool} {p : Nat} {w W w' : World} (hbs : c.B ≤ c.bs) (hl : 0 < ts.length)
    (hi : Inv bk s.data.toList ts up (ts.length - 1) a M0 M (F ++ [(2 * (ts.length - 1) + 1, p)]) D) (h : Srch c s bk ts up w (M, F) W)
    (hj : J (setT D p) w') (hs : ∀ j, (c.B ≤ j ∨ j = c.bt) → w'.heap[j]? = W.heap[j]?) : After c s bk ts up J a M0 ((F ++ [(2 * (ts.length - 1) + 1, p)]).length + free M s.size ts.length) w' := by
  have hst := hi.step (T' := setT D p) (.inr ⟨rfl, rfl⟩)
  rw [next_top _ _ _ _ (by omega)] at hst
  exact ⟨M, F, _, ⟨h.env.same hs, h.mm.same hbs fun j hj => hs j (.inl hj), hj, hst⟩, by rw [List.length_append]; dsimp only [List.length_cons, List.length_nil]; omega⟩
end Go.Proofs.Ytgffmbdbjbhocaa
namespace Go.Proofs.Ytgffmbdbjbhocaa
open Go.RowKit Go.Lib

theorem free_none (n L : Nat) : free (fun _ _ => false) n L = 2 * L * (n + 1) := by
  unfold free
  have : ∀ m, (List.range m).countP (fun i => !(fun (_ _ : Nat) => false) (i / (n + 1)) (i % (n + 1))) = m := fun m => by
    induction m with
    | zero => rfl
    | succ m ih => rw [List.range_succ, List.countP_append, ih]; simp
  exact this _
set_option maxHeartbeats 8000000 in
set_option maxRecDepth 20000 in
theorem reacher_any (b o cap : Nat) (T : Tr) (ts : List Nd) (s : ByteArray) (bk : Bool) (w : World) (hts : ts = T.row 0) (hok : T.ok) (hsz : ts.length ≤ 2000) (hs : s.size ≤ 1000000) (hL : Lies (.slice (some ⟨b, o, none⟩) ts.length cap) ts w) :
    Calls Try.prog 76 #[.slice (some ⟨b, o, none⟩) ts.length cap, .string s, .bool bk] w fun e w' => ∃ c : Cf, c.B = w.heap.size ∧ c.bt = b ∧ c.B ≤ c.bs ∧ Below w.heap.size w w' ∧
      e = .returned (.func (.func 106) #[] #[.pointer (some ⟨c.bm, 0, none⟩), .pointer (some ⟨c.bl, 0, none⟩), .pointer (some ⟨c.bn, 0, none⟩), .pointer (some ⟨c.bp, 0, none⟩)]) ∧
      Env c s bk ts (upT T) w' ∧ Mk c.B c.br c.bR c.bs c.bf ts.length s (fun _ _ => false) [] w' := by
  have hpos : 0 < ts.length := by rw [hts, Tr.row_length]; exact T.size_pos
  have hbw : b < w.heap.size := by
    obtain ⟨b', o', h1, h2, _⟩ := hL.at (List.getElem?_eq_getElem hpos)
    cases h1
    exact h2
  have kp := fun (w : World) (h : Lies (.slice (some ⟨b, o, none⟩) ts.length cap) ts w) => parents_any (.slice (some ⟨b, o, none⟩) ts.length cap) T ts w hts hok hsz h
  have HL := Lib.hid hL
  have hL1 := hL.below ((Below.refl _ w).alloc (Nat.le_refl _) (.cells #[.string s] 9))
  obtain ⟨N, hN⟩ : ∃ N, N = ts.length := ⟨_, rfl⟩
  rw [← hN] at hsz hpos hL1 kp ⊢
  have hN2 : IntKind.i64.wrap (2 * (N : Int)) = ((2 * N : Nat) : Int) := by rw [IntWalk.i64_in _ (by omega)]; omega
  obtain ⟨D, hD⟩ : ∃ D, D = 2 * N := ⟨_, rfl⟩
  rw [← hD] at hN2
  have hN1 : IntKind.i64.wrap ((N : Int) - 1) = ((N - 1 : Nat) : Int) := by rw [IntWalk.i64_in _ (by omega)]; omega
  obtain ⟨P, hP⟩ : ∃ P, P = N - 1 := ⟨_, rfl⟩
  rw [← hP] at hN1
  have kmk := fun (w : World) => run_make_row' (P := Try.prog) 134 46 (.slice none 0 0) 24 Try.underlying134 Try.infoBools rfl .i64 .i64 D (by omega) (by omega) w
  obtain ⟨X0, hX0⟩ : ∃ X0, X0 = Obj.cells (madeCells #[.slice none 0 0] D) 46 := ⟨_, rfl⟩
  rw [← hX0] at kmk
  have HH := Lib.hid (And.intro hX0 (And.intro hN (And.intro hD hP)))
  have HW := Lib.hid (And.intro hts (And.intro hok (And.intro hs (And.intro hbw hpos))))
  clear hX0 hN hD hP hts hok hs hpos
  have hst : ∀ (a : Addr) (fn : Fn) (x y : Array Value) (m : Mode) (w : World), (store a (.func fn x y) m).run Try.prog w = stored Try.prog w a (.func fn x y) m := fun a fn x y m w => run_store Try.prog w a (.func fn x y) m rfl
  have hmf : ∀ (fn : Fn) (first cap : Array Value) (w : World), (Instr.makeFunc fn first cap).run Try.prog w = .ok (.func fn first cap) w := fun _ _ _ _ => rfl
  go_enter Try.func76, Try.ntmps76
  go_upto_region 8 with (first
    | (go_at_call 102; refine (kp _ hL1).mono ?_; rintro e w1 ⟨rfl, hup, hb1⟩
       have hbs : w1.heap[w.heap.size]? = some (.cells #[.string s] 9 (0, 0)) := (hb1.block _ (by simp)).trans (heap_alloc_new w _)
       have HB := Lib.hid (And.intro hup (And.intro hb1 hbs))
       clear kp hL1 hup hb1 hbs)
    | fail)
  obtain ⟨h, hh⟩ : ∃ h, h = w.heap.size := ⟨_, rfl⟩
  obtain ⟨g, hg⟩ : ∃ g, g = w1.heap.size := ⟨_, rfl⟩
  rw [← hh, ← hg]
  obtain ⟨O1, hO1⟩ : ∃ O, O = Obj.cells #[.slice (some ⟨g, 0, none⟩) D D] 134 := ⟨_, rfl⟩
  obtain ⟨O2, hO2⟩ : ∃ O, O = Obj.cells #[.slice none 0 0] 135 := ⟨_, rfl⟩
  obtain ⟨O3, hO3⟩ : ∃ O, O = Obj.cells #[.func (.func 104) #[] #[.pointer (some ⟨g + 1, 0, none⟩), .pointer (some ⟨h, 0, none⟩), .pointer (some ⟨g + 1 + 1, 0, none⟩)]] 83 := ⟨_, rfl⟩
  obtain ⟨O4, hO4⟩ : ∃ O, O = Obj.cells #[.func (.func 105) #[] #[.pointer (some ⟨g + 1 + 1, 0, none⟩)]] 138 := ⟨_, rfl⟩
  rw [← hO1, ← hO2, ← hO3, ← hO4]
  obtain ⟨W, hW⟩ : ∃ W, W = ((((w1.alloc X0).alloc O1).alloc O2).alloc O3).alloc O4 := ⟨_, rfl⟩
  rw [← hW]
  have z0 : (w1.alloc X0).heap.size = g + 1 := by rw [hg]; simp
  have z1 : ((w1.alloc X0).alloc O1).heap.size = g + 2 := by rw [hg]; simp
  have z2 : (((w1.alloc X0).alloc O1).alloc O2).heap.size = g + 3 := by rw [hg]; simp
  have z3 : ((((w1.alloc X0).alloc O1).alloc O2).alloc O3).heap.size = g + 4 := by rw [hg]; simp
  have z4 : W.heap.size = g + 5 := by rw [hW, hg]; simp
  have y4 : W.heap[g + 4]? = some O4 := by rw [hW, ← z3]; exact heap_alloc_new _ _
  have y3 : W.heap[g + 3]? = some O3 := by rw [hW]; refine (Below.heap_alloc _ _ _ (by rw [z3]; omega)).trans ?_; rw [← z2]; exact heap_alloc_new _ _
  have y2 : W.heap[g + 2]? = some O2 := by rw [hW]; refine (Below.heap_alloc _ _ _ (by rw [z3]; omega)).trans ((Below.heap_alloc _ _ _ (by rw [z2]; omega)).trans ?_); rw [← z1]; exact heap_alloc_new _ _
  have y1 : W.heap[g + 1]? = some O1 := by rw [hW]; refine (Below.heap_alloc _ _ _ (by rw [z3]; omega)).trans ((Below.heap_alloc _ _ _ (by rw [z2]; omega)).trans ((Below.heap_alloc _ _ _ (by rw [z1]; omega)).trans ?_)); rw [← z0]; exact heap_alloc_new _ _
  have y0 : ∀ j, j < g + 1 → W.heap[j]? = (w1.alloc X0).heap[j]? := fun j hj => by rw [hW]; exact (Below.heap_alloc _ _ _ (by rw [z3]; omega)).trans ((Below.heap_alloc _ _ _ (by rw [z2]; omega)).trans ((Below.heap_alloc _ _ _ (by rw [z1]; omega)).trans (Below.heap_alloc _ _ _ (by rw [z0]; omega))))
  have yX : W.heap[g]? = some X0 := by rw [y0 g (by omega), hg]; exact heap_alloc_new _ _
  have yo : ∀ j, j < g → W.heap[j]? = w1.heap[j]? := fun j hj => (y0 j (by omega)).trans (Below.heap_alloc _ _ _ (by omega))
  have hhg : h + 1 ≤ g := by rw [hh, hg]; have := HB.out.2.1.size; simpa using this
  have yB : Below h w W := by
    rw [hW, hh]
    have hb := HB.out.2.1
    have hb0 : Below w.heap.size w w1 := ((Below.refl _ w).alloc (Nat.le_refl _) _).trans (hb.mono (by simp))
    exact ((((hb0.alloc (by omega) _).alloc (by rw [z0]; omega) _).alloc (by rw [z1]; omega) _).alloc (by rw [z2]; omega) _).alloc (by rw [z3]; omega) _
  have ys : W.heap[h]? = some (.cells #[.string s] 9 (0, 0)) := (yo h (by omega)).trans (by rw [hh]; exact HB.out.2.2)
  have yu : W.heap[h + 1]? = some (.cells ⟨upC N (upT T)⟩ 3 (0, 0)) := by
    by_cases e : h + 1 < g
    · refine (yo _ e).trans ?_
      have := HB.out.1
      rw [World.size_alloc, ← hh] at this
      exact this
    · have := block_lt HB.out.1
      rw [World.size_alloc, ← hh, ← hg] at this
      omega
  have cs : W.cell? ⟨h, 0, none⟩ = some (.string s) := by rw [cell_of_heap ys]; rfl
  have cm : W.cell? ⟨g + 3, 0, none⟩ = some (.func (.func 104) #[] #[.pointer (some ⟨g + 1, 0, none⟩), .pointer (some ⟨h, 0, none⟩), .pointer (some ⟨g + 1 + 1, 0, none⟩)]) := by rw [hO3] at y3; rw [cell_of_heap y3]; rfl
  have HY := Lib.hid (And.intro y4 (And.intro y3 (And.intro y2 (And.intro y1 (And.intro yX (And.intro yo (And.intro yB (And.intro ys (And.intro yu (And.intro z4 hhg))))))))))
  have HO := Lib.hid (And.intro hO1 (And.intro hO2 (And.intro hO3 hO4)))
  have HG := Lib.hid (And.intro hh hg)
  clear y4 y3 y2 y1 y0 yX yo yB ys yu hO1 hO2 hO3 hO4 hW z0 z1 z2 z3 hhg hh hg
  have z5 := z4
  clear z4
  go_wp2
  obtain ⟨Y4, Y3, Y2, Y1, YX, Yo, YB, Ys, Yu, Yz, Yg⟩ := HY.out
  obtain ⟨O1e, O2e, O3e, O4e⟩ := HO.out
  obtain ⟨hh, hg⟩ := HG.out
  obtain ⟨X0e, hN, hD, hP⟩ := HH.out
  obtain ⟨hts, hok, hs, hbw, hpos⟩ := HW.out
  have f0 : (W.alloc (.cells #[.slice (some ⟨b, o, none⟩) N cap, .string s, .bool bk, .slice (some ⟨h + 1, 0, none⟩) N N, markV (g + 1) h (g + 1 + 1)] 141)).heap.size = g + 6 := by simp; omega
  have f1 : ((W.alloc (.cells #[.slice (some ⟨b, o, none⟩) N cap, .string s, .bool bk, .slice (some ⟨h + 1, 0, none⟩) N N, markV (g + 1) h (g + 1 + 1)] 141)).alloc (.cells #[.pointer (some ⟨g + 5, 0, none⟩)] 139)).heap.size = g + 7 := by simp; omega
  obtain ⟨V, hV⟩ : ∃ V, V = ((W.alloc (.cells #[.slice (some ⟨b, o, none⟩) N cap, .string s, .bool bk, .slice (some ⟨h + 1, 0, none⟩) N N, markV (g + 1) h (g + 1 + 1)] 141)).alloc (.cells #[.pointer (some ⟨g + 5, 0, none⟩)] 139)).alloc (.cells #[.int .i64 (P : Int)] 3) := ⟨_, rfl⟩
  have v7 : V.heap[g + 7]? = some (.cells #[.int .i64 (P : Int)] 3 (0, 0)) := by rw [hV, ← f1]; exact heap_alloc_new _ _
  have v6 : V.heap[g + 6]? = some (.cells #[.pointer (some ⟨g + 5, 0, none⟩)] 139 (0, 0)) := by rw [hV]; refine (Below.heap_alloc _ _ _ (by rw [f1]; omega)).trans ?_; rw [← f0]; exact heap_alloc_new _ _
  have v5 : V.heap[g + 5]? = some (.cells #[.slice (some ⟨b, o, none⟩) N cap, .string s, .bool bk, .slice (some ⟨h + 1, 0, none⟩) N N, markV (g + 1) h (g + 1 + 1)] 141 (0, 0)) := by rw [hV]; refine (Below.heap_alloc _ _ _ (by rw [f1]; omega)).trans ((Below.heap_alloc _ _ _ (by rw [f0]; omega)).trans ?_); rw [← Yz]; exact heap_alloc_new _ _
  have vo : ∀ j, j < g + 5 → V.heap[j]? = W.heap[j]? := fun j hj => by rw [hV]; exact (Below.heap_alloc _ _ _ (by rw [f1]; omega)).trans ((Below.heap_alloc _ _ _ (by rw [f0]; omega)).trans (Below.heap_alloc _ _ _ (by omega)))
  have vB : Below h w V := by rw [hV]; exact ((YB.alloc (by omega) _).alloc (by rw [f0]; omega) _).alloc (by rw [f1]; omega) _
  have hE : Env { B := h, br := g + 1, bR := g, bs := h, bf := g + 1 + 1, bw := g + 5, bu := h + 1, bm := g + 3, bn := g + 4, bp := g + 6, bl := g + 7, bt := b, o := o, cap := cap } s bk ts (upT T) V := by
    refine ⟨by rw [← hN]; exact v5, ?_, ?_, ?_, v6, by rw [← hN, ← hP]; exact v7, fun j n hj => ?_, by dsimp only; omega, by dsimp only; omega⟩
    · rw [← hN]; exact (vo (h + 1) (by omega)).trans Yu
    · exact (vo (g + 3) (by omega)).trans (Y3.trans (by rw [O3e]; rfl))
    · exact (vo (g + 4) (by omega)).trans (Y4.trans (by rw [O4e]))
    · obtain ⟨b', o', e1, e2, e3⟩ := HL.out.at hj
      cases e1
      exact e3.below vB (by omega)
  have hM : Mk h (g + 1) g h (g + 1 + 1) N s (fun _ _ => false) [] V := by
    refine ⟨by omega, ?_, ⟨List.replicate (2 * N) (.slice none 0 0), by simp, ?_, fun q v hv => .inl ⟨?_, fun _ => rfl⟩, fun q r bb n c m d h1 _ => ?_⟩, ?_, ⟨.slice none 0 0, ?_, World.ownsRow_nil _ _ _ _⟩, fun _ _ h => Bool.noConfusion h, ?_, by omega⟩
    · refine (vo _ (by omega)).trans (Y1.trans ?_)
      rw [O1e, hD]
    · refine (vo _ (by omega)).trans (YX.trans ?_)
      rw [X0e, hD]
      have : madeCells #[Value.slice none 0 0] (2 * N) = ⟨List.replicate (2 * N) (.slice none 0 0)⟩ := by
        apply Array.ext'
        rw [toList_madeCells_one]
      rw [this]
    · have := List.mem_of_getElem? hv
      exact (List.mem_replicate.1 this).2
    · have := (List.mem_replicate.1 (List.mem_of_getElem? h1)).2
      cases this
    · exact (vo _ (by omega)).trans Ys
    · exact (vo _ (by omega)).trans (Y2.trans (by rw [O2e]))
    · rw [free_none]; simp
  refine bodyPost_ret (results_tmp rfl _ _ _) rfl ⟨{ B := h, br := g + 1, bR := g, bs := h, bf := g + 1 + 1, bw := g + 5, bu := h + 1, bm := g + 3, bn := g + 4, bp := g + 6, bl := g + 7, bt := b, o := o, cap := cap }, hh, rfl, Nat.le_refl _, ?_, rfl, ?_, ?_⟩
  · rw [← hh]; rw [hV] at vB; exact vB
  · rw [hV] at hE; exact hE
  · rw [hV] at hM; exact hM
end Go.Proofs.Ytgffmbdbjbhocaa
namespace Go.Proofs.Ytgffmbdbjbhocaa
open Go.RowKit Go.Lib

set_option maxHeartbeats 8000000 in
set_option maxRecDepth 20000 in
theorem reach_ends (c : Cf) (s : ByteArray) (bk : Bool) (ts : List Nd) (up : Nat → Nat) (T : Tr) (hT : Tree ts up T) (J : (Nat → Bool) → World → Prop) (b1 : Nat) (hbs : c.B ≤ c.bs)
    (hJk : ∀ D w w', J D w → Kept c.B w w' → J D w')
    (hJt : ∀ D p w, J D w → p ≤ s.size → Calls Try.prog 77 #[.int .i64 (p : Int), .pointer (some ⟨b1, 0, none⟩)] w fun e w' => e = .returned (.tuple #[]) ∧ J (setT D p) w' ∧ ∀ j, (c.B ≤ j ∨ j = c.bt) → w'.heap[j]? = w.heap[j]?)
    (M0 : Nat → Nat → Bool) (a : Nat) (ha : a ≤ s.size) (w : World) (hE : Env c s bk ts up w) (hM : Mk c.B c.br c.bR c.bs c.bf ts.length s M0 [] w) (hJ : J (fun _ => false) w)
    (h0 : ∀ g p, M0 g p = true → ∀ q ∈ nextD bk s.data.toList ts up g p, M0 q.1 q.2 = true) :
    Calls Try.prog 106 #[.int .i64 (a : Int), .func (.func 77) #[] #[.pointer (some ⟨b1, 0, none⟩)], .pointer (some ⟨c.bm, 0, none⟩), .pointer (some ⟨c.bl, 0, none⟩), .pointer (some ⟨c.bn, 0, none⟩), .pointer (some ⟨c.bp, 0, none⟩)] w fun e w' =>
      e = .returned (.tuple #[]) ∧ ∃ M, Env c s bk ts up w' ∧ Mk c.B c.br c.bR c.bs c.bf ts.length s M [] w' ∧ J (fun p => M (2 * (ts.length - 1) + 1) p && !M0 (2 * (ts.length - 1) + 1) p) w' ∧ Done bk s.data.toList ts up (ts.length - 1) a M0 M := by
  have hl : 0 < ts.length := by rw [← hT.len]; exact T.size_pos
  have hsm := hM.small
  obtain ⟨last, hlast⟩ : ∃ last, last = ts.length - 1 := ⟨_, rfl⟩
  have cbm : w.cell? ⟨c.bm, 0, none⟩ = some (.func (.func 104) #[] #[.pointer (some ⟨c.br, 0, none⟩), .pointer (some ⟨c.bs, 0, none⟩), .pointer (some ⟨c.bf, 0, none⟩)]) := by rw [cell_of_heap hE.bm]; rfl
  have cbl : w.cell? ⟨c.bl, 0, none⟩ = some (.int .i64 (last : Int)) := by rw [cell_of_heap hE.bl, hlast]; rfl
  have ki := fun w => in_any last w (by omega)
  have hst : Srch c s bk ts up w (M0, []) w := ⟨hE, hM, Kept.refl _ _⟩
  have km := hst.mark (g := 2 * last) (p := a) (by omega) ha
  have hA : ∀ w', Srch c s bk ts up w (mks [(2 * last, a)] (M0, [])) w' → ∃ M F D, AtS c s bk ts up J a M0 M F D w' := fun w' h => ⟨_, _, _, h.env, h.mm, hJk _ _ _ hJ h.kept, by rw [← hlast]; exact Inv.start h0⟩
  have SB := Lib.hid (fun W' (hb : Below w.heap.size w W') => (show W'.cell? ⟨c.bm, 0, none⟩ = some (.func (.func 104) #[] #[.pointer (some ⟨c.br, 0, none⟩), .pointer (some ⟨c.bs, 0, none⟩), .pointer (some ⟨c.bf, 0, none⟩)]) ∧ W'.cell? ⟨c.bl, 0, none⟩ = some (.int .i64 (last : Int)) from ⟨cell_kept hb cbm, cell_kept hb cbl⟩))
  have SP := Lib.hid (fun W' (h : Srch c s bk ts up w (mks [(2 * last, a)] (M0, [])) W') => (show W'.cell? ⟨c.bm, 0, none⟩ = some (.func (.func 104) #[] #[.pointer (some ⟨c.br, 0, none⟩), .pointer (some ⟨c.bs, 0, none⟩), .pointer (some ⟨c.bf, 0, none⟩)]) ∧ W'.cell? ⟨c.bl, 0, none⟩ = some (.int .i64 (last : Int)) from ⟨by rw [cell_of_heap h.env.bm]; rfl, by rw [cell_of_heap h.env.bl, hlast]; rfl⟩))
  have HJK := Lib.hid hJk
  have HJT := Lib.hid hJt
  have HT := Lib.hid hT
  have HLA := Lib.hid hlast
  have HA := Lib.hid hA
  clear hJk hJt hJ h0 hE hM hst hT cbm cbl hA hlast ha
  go_enter Try.func106, Try.ntmps106
  go_step3
  go_wp2_with fail
  go_region_held3 (fun W' => W'.cell? ⟨c.bm, 0, none⟩ = some (.func (.func 104) #[] #[.pointer (some ⟨c.br, 0, none⟩), .pointer (some ⟨c.bs, 0, none⟩), .pointer (some ⟨c.bf, 0, none⟩)]) ∧ W'.cell? ⟨c.bl, 0, none⟩ = some (.int .i64 (last : Int)))
    (first | with_reducible exact SB.out _ (Below.refl _ w).drew | with_reducible exact SP.out _ h1)
    (first
      | (go_at_call 107; refine (ki _).mono ?_; rintro e w2 ⟨rfl, rfl⟩)
      | (go_at_call 104; refine (km _ (Below.refl _ _).drew).mono ?_; rintro e w1 ⟨rfl, h1⟩))
  have H1 := Lib.hid (HA.out _ h1)
  clear h1 km ki SB SP HA
  go_wp2_with fail
  go_step3
  go_wp2_with fail
  go_loopg [] (2 * ts.length * (s.size + 1) + 1) (fun k wr => Hid (∃ M F D, AtS c s bk ts up J a M0 M F D wr ∧ F.length + free M s.size ts.length < k))
  case atStart =>
    obtain ⟨M, F, D, h⟩ := H1.out
    exact ⟨M, F, D, h, by have := h.mm.cnt; omega⟩
  case round =>
    obtain ⟨M, F, D, h, hk⟩ := hrel.out
    clear hrel H1
    rcases List.eq_nil_or_concat F with rfl | ⟨F', ⟨g, p⟩, hF⟩
    · have kn := next_empty (⟨h.env, h.mm, Kept.refl _ _⟩ : Srch c s bk ts up wr (M, []) wr)
      have cbn := h.bn
      have H := Lib.hid h
      clear h
      go_wp2_with (first
        | (go_at_call 105; refine kn.mono ?_; rintro e w2 ⟨rfl, h2⟩; have H2 := Lib.hid h2; clear h2 kn cbn)
        | fail)
      rw [Exit.noGoto_normal]
      go_end0
      have h3 := H2.out.below ((Below.refl _ w2).alloc (Nat.le_refl _) (.cells #[.int .i64 0, .int .i64 0] 137))
      obtain ⟨hd, hD⟩ := H.out.inv.done
      exact ⟨rfl, M, h3.env, h3.mm, hD ▸ HJK.out _ _ _ H.out.j h3.kept, hd⟩
    · rw [List.concat_eq_append] at hF
      subst hF
      obtain ⟨hMg, hM0g⟩ := h.inv.i1 (g, p) (List.mem_append_right _ (List.mem_singleton.2 rfl))
      obtain ⟨hg, hp⟩ := h.mm.inb g p hMg
      have kn := next_last (⟨h.env, h.mm, Kept.refl _ _⟩ : Srch c s bk ts up wr (M, F' ++ [(g, p)]) wr)
      have cbn := h.bn
      have hj := h.j
      have hi := h.inv
      have H := Lib.hid (And.intro hj (And.intro hi (And.intro hMg hM0g)))
      clear h hj hi hMg hM0g
      rcases Nat.mod_two_eq_zero_or_one g with hm | hm
      · obtain ⟨r, rfl⟩ : ∃ r, g = 2 * r := ⟨g / 2, by omega⟩
        obtain ⟨G, hG⟩ : ∃ G : Int, G = ((2 * r : Nat) : Int) := ⟨_, rfl⟩
        rw [← hG] at kn
        have hq : G / 2 = (r : Int) := by omega
        have HG := Lib.hid hG
        clear hG
        go_wp2_with (first
          | (go_at_call 105; refine kn.mono ?_; rintro e w2 ⟨rfl, h2⟩; have H2 := Lib.hid h2; clear h2 kn cbn)
          | fail)
        obtain ⟨W, hW⟩ : ∃ W, W = w2.alloc (.cells #[.int .i64 G, .int .i64 (p : Int)] 137) := ⟨_, rfl⟩
        rw [← hW]
        obtain ⟨h, hh⟩ : ∃ h, h = w2.heap.size := ⟨_, rfl⟩
        rw [← hh]
        have w0 : W.heap[h]? = some (.cells #[.int .i64 G, .int .i64 (p : Int)] 137 (0, 0)) := by rw [hW, hh]; exact heap_alloc_new _ _
        have d0 : W.cell? ⟨h, 0, none⟩ = some (.int .i64 G) := by rw [cell_of_heap w0]; rfl
        have d1 : W.cell? ⟨h, 1, none⟩ = some (.int .i64 (p : Int)) := by rw [cell_of_heap w0]; rfl
        have hWB : Below w2.heap.size w2 W := by rw [hW]; exact (Below.refl _ _).alloc (Nat.le_refl _) _
        have hVS : Srch c s bk ts up wr (M, F') W.drew := H2.out.below hWB.drew
        have hVJ : J D W.drew := HJK.out _ _ _ H.out.1 hVS.kept
        have SB := Lib.hid (fun W' (hb : Below W.heap.size W W') => (show W'.cell? ⟨h, 0, none⟩ = some (.int .i64 G) from cell_kept hb d0))
        have e1 : W.drew.cell? ⟨h, 1, none⟩ = some (.int .i64 (p : Int)) := d1
        obtain ⟨I, hI⟩ : ∃ I : Int, I = ((2 * r : Nat) : Int) := ⟨_, rfl⟩
        have ki2 : ∀ w, Calls Try.prog 107 #[.int .i64 (r : Int)] w fun e w' => e = .returned (.int .i64 I) ∧ w = w' := fun w => by rw [hI]; exact in_any r w (by omega)
        have heq : (G == I) = true := by have := HG.out; simp; omega
        have HI := Lib.hid hI
        clear hI
        have ke := way_enter HT.out HJK.out H.out.2.1 hVS hVJ (by omega) hp
        have cbp : W.drew.cell? ⟨c.bp, 0, none⟩ = some (.pointer (some ⟨c.bw, 0, none⟩)) := by rw [cell_of_heap hVS.env.bp]; rfl
        clear hW hh w0 d0 d1 hWB hVS hVJ
        go_region_held3 (fun W' => W'.cell? ⟨h, 0, none⟩ = some (.int .i64 G))
          (first | with_reducible exact SB.out _ (Below.refl _ W).drew)
          (first
            | (go_at_call 107; refine (ki2 _).mono ?_; rintro e w4 ⟨rfl, rfl⟩))
        clear ki2 SB
        go_wp2_with (first
          | (go_at_call 108; refine ke.mono ?_; rintro e w5 ⟨rfl, hAf⟩)
          | fail)
        obtain ⟨M', F'', D', hA', hlt⟩ := hAf
        go_roundg (gk - 1)
        case rel => exact ⟨M', F'', D', hA', by omega⟩
        case measure => omega
      · obtain ⟨r, rfl⟩ : ∃ r, g = 2 * r + 1 := ⟨g / 2, by omega⟩
        by_cases hrl : r = last
        · rw [hrl] at hg kn H hk
          clear hm hrl r
          obtain ⟨G, hG⟩ : ∃ G : Int, G = ((2 * last + 1 : Nat) : Int) := ⟨_, rfl⟩
          rw [← hG] at kn
          have hq : G / 2 = (last : Int) := by omega
          have HG := Lib.hid hG
          clear hG
          go_wp2_with (first
            | (go_at_call 105; refine kn.mono ?_; rintro e w2 ⟨rfl, h2⟩; have H2 := Lib.hid h2; clear h2 kn cbn)
            | fail)
          obtain ⟨W, hW⟩ : ∃ W, W = w2.alloc (.cells #[.int .i64 G, .int .i64 (p : Int)] 137) := ⟨_, rfl⟩
          rw [← hW]
          obtain ⟨h, hh⟩ : ∃ h, h = w2.heap.size := ⟨_, rfl⟩
          rw [← hh]
          have w0 : W.heap[h]? = some (.cells #[.int .i64 G, .int .i64 (p : Int)] 137 (0, 0)) := by rw [hW, hh]; exact heap_alloc_new _ _
          have d0 : W.cell? ⟨h, 0, none⟩ = some (.int .i64 G) := by rw [cell_of_heap w0]; rfl
          have d1 : W.cell? ⟨h, 1, none⟩ = some (.int .i64 (p : Int)) := by rw [cell_of_heap w0]; rfl
          have hWB : Below w2.heap.size w2 W := by rw [hW]; exact (Below.refl _ _).alloc (Nat.le_refl _) _
          have hVS : Srch c s bk ts up wr (M, F') W.drew := H2.out.below hWB.drew
          have hVJ : J D W.drew := HJK.out _ _ _ H.out.1 hVS.kept
          have SB := Lib.hid (fun W' (hb : Below W.heap.size W W') => (show W'.cell? ⟨h, 0, none⟩ = some (.int .i64 G) from cell_kept hb d0))
          have e1 : W.drew.cell? ⟨h, 1, none⟩ = some (.int .i64 (p : Int)) := d1
          obtain ⟨I, hI⟩ : ∃ I : Int, I = ((2 * last : Nat) : Int) := ⟨_, rfl⟩
          have ki2 : ∀ w, Calls Try.prog 107 #[.int .i64 (last : Int)] w fun e w' => e = .returned (.int .i64 I) ∧ w = w' := fun w => by rw [hI]; exact in_any last w (by omega)
          have hne : (G == I) = false := by have := HG.out; simp; omega
          have HI := Lib.hid hI
          clear hI
          have cbl : W.drew.cell? ⟨c.bl, 0, none⟩ = some (.int .i64 (last : Int)) := by rw [cell_of_heap hVS.env.bl, HLA.out]; rfl
          have hi : Inv bk s.data.toList ts up (ts.length - 1) a M0 M (F' ++ [(2 * (ts.length - 1) + 1, p)]) D := by have h := H.out.2.1; have e := HLA.out; rw [e] at h; exact h
          have kt := HJT.out D p W.drew hVJ hp
          have HVS := Lib.hid (And.intro hVS hi)
          clear hW hh w0 d0 d1 hWB hVS hVJ hi
          go_region_held3 (fun W' => W'.cell? ⟨h, 0, none⟩ = some (.int .i64 G))
            (first | with_reducible exact SB.out _ (Below.refl _ W).drew)
            (first
              | (go_at_call 107; refine (ki2 _).mono ?_; rintro e w4 ⟨rfl, rfl⟩))
          clear ki2 SB
          go_wp2_with (first
            | (go_at_call 77; refine kt.mono ?_; rintro e w5 ⟨rfl, hj5, hs5⟩)
            | fail)
          have hAf := way_tell hbs hl HVS.out.2 HVS.out.1 hj5 hs5
          rw [← HLA.out] at hAf
          obtain ⟨M', F'', D', hA', hlt⟩ := hAf
          go_roundg (gk - 1)
          case rel => exact ⟨M', F'', D', hA', by omega⟩
          case measure => omega
        · obtain ⟨G, hG⟩ : ∃ G : Int, G = ((2 * r + 1 : Nat) : Int) := ⟨_, rfl⟩
          rw [← hG] at kn
          have hq : G / 2 = (r : Int) := by omega
          have HG := Lib.hid hG
          clear hG
          go_wp2_with (first
            | (go_at_call 105; refine kn.mono ?_; rintro e w2 ⟨rfl, h2⟩; have H2 := Lib.hid h2; clear h2 kn cbn)
            | fail)
          obtain ⟨W, hW⟩ : ∃ W, W = w2.alloc (.cells #[.int .i64 G, .int .i64 (p : Int)] 137) := ⟨_, rfl⟩
          rw [← hW]
          obtain ⟨h, hh⟩ : ∃ h, h = w2.heap.size := ⟨_, rfl⟩
          rw [← hh]
          have w0 : W.heap[h]? = some (.cells #[.int .i64 G, .int .i64 (p : Int)] 137 (0, 0)) := by rw [hW, hh]; exact heap_alloc_new _ _
          have d0 : W.cell? ⟨h, 0, none⟩ = some (.int .i64 G) := by rw [cell_of_heap w0]; rfl
          have d1 : W.cell? ⟨h, 1, none⟩ = some (.int .i64 (p : Int)) := by rw [cell_of_heap w0]; rfl
          have hWB : Below w2.heap.size w2 W := by rw [hW]; exact (Below.refl _ _).alloc (Nat.le_refl _) _
          have hVS : Srch c s bk ts up wr (M, F') W.drew := H2.out.below hWB.drew
          have hVJ : J D W.drew := HJK.out _ _ _ H.out.1 hVS.kept
          have SB := Lib.hid (fun W' (hb : Below W.heap.size W W') => (show W'.cell? ⟨h, 0, none⟩ = some (.int .i64 G) from cell_kept hb d0))
          have e1 : W.drew.cell? ⟨h, 1, none⟩ = some (.int .i64 (p : Int)) := d1
          obtain ⟨I, hI⟩ : ∃ I : Int, I = ((2 * r : Nat) : Int) := ⟨_, rfl⟩
          have ki2 : ∀ w, Calls Try.prog 107 #[.int .i64 (r : Int)] w fun e w' => e = .returned (.int .i64 I) ∧ w = w' := fun w => by rw [hI]; exact in_any r w (by omega)
          have hne : (G == I) = false := by have := HG.out; simp; omega
          have HI := Lib.hid hI
          clear hI
          have ke := way_leave HT.out HJK.out H.out.2.1 hVS hVJ (by have := HLA.out; omega) hp
          have cbl : W.drew.cell? ⟨c.bl, 0, none⟩ = some (.int .i64 (last : Int)) := by rw [cell_of_heap hVS.env.bl, HLA.out]; rfl
          have cbp : W.drew.cell? ⟨c.bp, 0, none⟩ = some (.pointer (some ⟨c.bw, 0, none⟩)) := by rw [cell_of_heap hVS.env.bp]; rfl
          have hnl : ((r : Int) == (last : Int)) = false := by simp; omega
          clear hW hh w0 d0 d1 hWB hVS hVJ
          go_region_held3 (fun W' => W'.cell? ⟨h, 0, none⟩ = some (.int .i64 G))
            (first | with_reducible exact SB.out _ (Below.refl _ W).drew)
            (first
              | (go_at_call 107; refine (ki2 _).mono ?_; rintro e w4 ⟨rfl, rfl⟩))
          clear ki2 SB
          go_wp2_with (first
            | (go_at_call 109; refine ke.mono ?_; rintro e w5 ⟨rfl, hAf⟩)
            | fail)
          obtain ⟨M', F'', D', hA', hlt⟩ := hAf
          go_roundg (gk - 1)
          case rel => exact ⟨M', F'', D', hA', by omega⟩
          case measure => omega
end Go.Proofs.Ytgffmbdbjbhocaa
namespace Go.Proofs.Ytgffmbdbjbhocaa
open Go.RowKit Go.Lib

open Classical in
/-- The places to which it stands. -/
noncomputable def endsL (s : List UInt8) (T : Tr) (a : Int) : List Nat := if a < 0 ∨ (s.length : Int) < a then [] else (List.range (s.length + 1)).filter fun b => decide (St s T a.toNat b)
def natsV (l : List Nat) : List Value := l.map fun n : Nat => .int .i64 (n : Int)
theorem search_is {bk : Bool} {l : List UInt8} {ts : List Nd} {T : Tr} {a : Nat} {M : Nat → Nat → Bool} (hT : Tree ts (upT T) T) (h : Done bk l ts (upT T) (ts.length - 1) a (fun _ _ => false) M) (b : Nat) :
    M (2 * (ts.length - 1) + 1) b = true ↔ SD bk l T a b := by
  have hl := hT.len
  have hp := T.size_pos
  have := marked_is (bk := bk) (s := l) (ts := ts) (up := upT T) (T := T) (Src := fun x => x = a) (M := fun g p => M g p = true) (last := ts.length - 1) hT.occ hl (by omega)
    h.closed (fun x hx => by subst hx; exact h.src) (fun X hX hs g p hm => h.least X hX (fun _ _ h => Bool.noConfusion h) (hs a rfl) g p hm) b
  rw [this]
  constructor
  · rintro ⟨x, rfl, hs⟩; exact hs
  · intro hs; exact ⟨a, rfl, hs⟩
theorem tree_of (T : Tr) (hok : T.ok) : Tree (T.row 0) (upT T) T := ⟨rfl, hok, upT_occ T hok⟩
/-- The row of yes and no that is told. -/
structure Told (h0 n : Nat) (w0 : World) (D : Nat → Bool) (w : World) : Prop where
  box : w.heap[h0 + 1]? = some (.cells #[.slice (some ⟨h0, 0, none⟩) (n + 1) (n + 1)] 46 (0, 0))
  row : w.heap[h0]? = some (.cells ⟨rowC n D⟩ 4 (0, 0))
  low : Below h0 w0 w
theorem Told.kept {h0 n B : Nat} {w0 w w' : World} {D : Nat → Bool} (h : Told h0 n w0 D w) (hB : h0 + 2 ≤ B) (k : Kept B w w') : Told h0 n w0 D w' :=
  ⟨(k.low.block _ (by omega)).trans h.box, (k.low.block _ (by omega)).trans h.row, h.low.trans (k.low.mono (by omega))⟩
set_option maxHeartbeats 1000000 in
theorem tell_row (h0 n p : Nat) (w0 : World) (D : Nat → Bool) (w : World) (h : Told h0 n w0 D w) (hp : p ≤ n) :
    Calls Try.prog 77 #[.int .i64 (p : Int), .pointer (some ⟨h0 + 1, 0, none⟩)] w fun e w' => e = .returned (.tuple #[]) ∧ Told h0 n w0 (setT D p) w' ∧ ∀ j, j ≠ h0 → w'.heap[j]? = w.heap[j]? := by
  have c0 : w.cell? ⟨h0 + 1, 0, none⟩ = some (.slice (some ⟨h0, 0, none⟩) (n + 1) (n + 1)) := by rw [cell_of_heap h.box]; rfl
  have c1 : w.cell? ⟨h0, p, none⟩ = some (.bool (D p)) := by rw [cell_of_heap h.row]; simpa using rowC_get n D p hp
  have f1 : w.frozen? ⟨h0, p, none⟩ = false := frozen_of_heap h.row p
  have p0 : (0 : Int) ≤ (p : Int) := by omega
  obtain ⟨N, hN⟩ : ∃ N, N = n + 1 := ⟨_, rfl⟩
  rw [← hN] at c0
  have p1 : (p : Int) < (N : Int) := by omega
  have H := Lib.hid h
  clear h hN hp
  go_enter Try.func77, Try.ntmps77
  go_wp2
  go_end0
  have hr : (w.setCell ⟨h0, p, none⟩ (.bool true)).heap[h0]? = some (.cells ⟨rowC n (setT D p)⟩ 4 (0, 0)) := by
    rw [heap_setCell_same w h0 p _ _ (.bool true) H.out.row]
    have e := rowC_set n D p
    unfold setT
    simp [e]
  exact ⟨rfl, ⟨(Below.heap_setCell _ _ _ _ (by dsimp only; omega)).trans H.out.box, hr, H.out.low.setCell (p := ⟨h0, p, none⟩) (Nat.le_refl _) _⟩, fun j hj => Below.heap_setCell _ _ _ _ hj⟩
theorem natsV_snoc (l : List Nat) (x : Nat) : natsV (l ++ [x]) = natsV l ++ [.int .i64 (x : Int)] := by unfold natsV; rw [List.map_append]; rfl
theorem owns_baseM {w : World} {B B' k n : Nat} {e : TypeId} {v : Value} {xs : List Value} (h : w.ownsRow B e k v n xs) (hB : B' ≤ B) : w.ownsRow B' e k v n xs := by
  refine ⟨h.1, h.2.imp id ?_⟩
  rintro ⟨g, cap, cur, h1, h2, h3⟩
  exact ⟨g, cap, cur, h1, Nat.le_trans hB h2, h3⟩
set_option maxHeartbeats 8000000 in
set_option maxRecDepth 20000 in
theorem ends_walk (b o cap : Nat) (T : Tr) (ts : List Nd) (s : ByteArray) (k : Nat) (w : World) (hts : ts = T.row 0) (hok : T.ok) (hsz : ts.length ≤ 2000) (hs : s.size ≤ 1000000) (hk : k ≤ s.size) (hL : Lies (.slice (some ⟨b, o, none⟩) ts.length cap) ts w) :
    Calls Try.prog 31 #[.slice (some ⟨b, o, none⟩) ts.length cap, .string s, .int .i64 (k : Int)] w fun e w' => ∃ v D, e = .returned v ∧ (∀ q, D q = true ↔ SD false s.data.toList T k q) ∧
      w'.ownsRow w.heap.size 3 1 v ((List.range (s.size + 1)).filter D).length (natsV ((List.range (s.size + 1)).filter D)) ∧ Below w.heap.size w w' := by
  have hbw : b < w.heap.size := by
    obtain ⟨b', o', h1, h2, _⟩ := hL.at (List.getElem?_eq_getElem (by rw [hts, Tr.row_length]; exact T.size_pos))
    cases h1
    exact h2
  obtain ⟨n, hn⟩ : ∃ n, n = s.size := ⟨_, rfl⟩
  have hkI : ¬ (k : Int) < 0 := by omega
  have hkn : ¬ (s.size : Int) < (k : Int) := by omega
  have hNw : IntKind.i64.wrap ((s.size : Int) + 1) = ((n + 1 : Nat) : Int) := by rw [IntWalk.i64_in _ (by omega)]; omega
  obtain ⟨N, hN⟩ : ∃ N, N = n + 1 := ⟨_, rfl⟩
  rw [← hN] at hNw
  have kmk := fun (w : World) => run_make_row' (P := Try.prog) 46 4 (.bool false) 1 Try.underlying46 Try.infoBool rfl .i64 .i64 N (by omega) (by omega) w
  obtain ⟨X0, hX0⟩ : ∃ X0, X0 = Obj.cells (madeCells #[.bool false] N) 4 := ⟨_, rfl⟩
  rw [← hX0] at kmk
  obtain ⟨h0, hh0⟩ : ∃ h0, h0 = w.heap.size := ⟨_, rfl⟩
  have hT : Tree ts (upT T) T := by rw [hts]; exact tree_of T hok
  have kr := fun (w : World) (h : Lies (.slice (some ⟨b, o, none⟩) ts.length cap) ts w) => reacher_any b o cap T ts s false w hts hok hsz hs h
  have hW0 : ∀ W, W = (w.alloc X0).alloc (.cells #[.slice (some ⟨h0, 0, none⟩) N N] 46) → Told h0 n w (fun _ => false) W ∧ W.heap.size = h0 + 2 ∧ Lies (.slice (some ⟨b, o, none⟩) ts.length cap) ts W := fun W hW => by
    have z : (w.alloc X0).heap.size = h0 + 1 := by rw [hh0]; simp
    have hB : Below h0 w W := by rw [hW, hh0]; exact ((Below.refl _ w).alloc (Nat.le_refl _) _).alloc (by simp) _
    refine ⟨⟨?_, ?_, hB⟩, by rw [hW, hh0]; simp, hL.below (by rw [← hh0]; exact hB)⟩
    · rw [hW, ← z, ← hN]; exact heap_alloc_new _ _
    · rw [hW]
      refine (Below.heap_alloc _ _ _ (by rw [z]; omega)).trans ?_
      rw [hh0, heap_alloc_new, hX0, hN, rowC_made]
  have HX := Lib.hid (And.intro hX0 (And.intro hN (And.intro hn hh0)))
  have HT := Lib.hid hT
  have HW0 := Lib.hid hW0
  have HS := Lib.hid (And.intro hs (And.intro hk hbw))
  clear hX0 hN hT hW0 hts hok hsz hL hs hk hn hh0
  go_enter Try.func31, Try.ntmps31
  go_upto_region 4 with (fail)
  obtain ⟨hX0, hN, hn, hh0⟩ := HX.out
  rw [← hh0]
  obtain ⟨W, hW⟩ : ∃ W, W = (w.alloc X0).alloc (.cells #[.slice (some ⟨h0, 0, none⟩) N N] 46) := ⟨_, rfl⟩
  rw [← hW]
  have HTW := Lib.hid (HW0.out W hW)
  have hLW := HTW.out.2.2
  have kr1 := kr W hLW
  clear hX0 hN hn hh0 hW kr kmk hLW
  go_wp2_with (first
    | (go_at_call 76; refine kr1.mono ?_; rintro e w1 ⟨c, hcB, hcb, hcs, hb1, rfl, hE, hM⟩
       have hWz := HTW.out.2.1
       obtain ⟨hX0, hN, hn, hh0⟩ := HX.out
       have kq := reach_ends c s false ts (upT T) T HT.out (Told h0 n w) (h0 + 1) hcs (fun D a b h k => h.kept (by omega) k)
         (fun D p a h hp => (tell_row h0 n p w D a h (by omega)).mono fun e a' hh => ⟨hh.1, hh.2.1, fun j hj => hh.2.2 j (by have := HS.out.2.2; rcases hj with hj | hj <;> omega)⟩)
         (fun _ _ => false) k HS.out.2.1 w1 hE hM (HTW.out.1.kept (B := W.heap.size) (by omega) (Kept.of_below hb1 (Nat.le_refl _))) (fun _ _ h => Bool.noConfusion h)
       clear hcB hcb hcs hb1 hE hM kr1 hX0 hN hn hh0 hWz)
    | (go_at_call 106; refine kq.mono ?_; rintro e w2 ⟨rfl, M, -, -, hJ2, hD⟩
       obtain ⟨D, hDe⟩ : ∃ D : Nat → Bool, D = fun p => M (2 * (ts.length - 1) + 1) p && !(fun (_ _ : Nat) => false) (2 * (ts.length - 1) + 1) p := ⟨_, rfl⟩
       rw [← hDe] at hJ2
       have hDs : ∀ q, D q = true ↔ SD false s.data.toList T k q := fun q => by rw [← search_is HT.out hD q, hDe]; simp
       have c7 : w2.cell? ⟨h0 + 1, 0, none⟩ = some (.slice (some ⟨h0, 0, none⟩) N N) := by rw [cell_of_heap hJ2.box, HX.out.2.1]; rfl
       have HJ := Lib.hid (And.intro hJ2 hDs)
       clear kq hJ2 hDs hDe hD)
    | fail)
  obtain ⟨i0, hi, hz0, hz1, hz2⟩ := info_parts Try.infoInt
  have HI0 := Lib.hid (And.intro hi (And.intro hz0 (And.intro hz1 hz2)))
  clear hi hz0 hz1 hz2 hNw hkI hkn
  go_loopg [9, 33] (N + 1) (fun m v i wr => ∃ (j : Nat) (L : List Nat), i = .int .i64 j ∧ Hid (j ≤ N) ∧ Hid (m = N + 1 - j) ∧ Hid (L = (List.range j).filter D) ∧ wr.ownsRow (h0 + 2) 3 1 v L.length (natsV L) ∧ Hid (Told h0 n w D wr))
  case atStart => exact ⟨0, [], rfl, Nat.zero_le _, rfl, rfl, World.ownsRow_nil _ _ _ _, HJ.out.1⟩
  case round =>
    obtain ⟨j, L, rfl, HJN, HK, HL, hown, HTO⟩ := hrel
    by_cases hlt : j < N
    · have hle : j ≤ n := by have := HX.out.2.1; omega
      have hltI : (j : Int) < (N : Int) := by omega
      have j0 : (0 : Int) ≤ (j : Int) := by omega
      have hI : IntKind.i64.wrap ((j : Int) + 1) = ((j + 1 : Nat) : Int) := by rw [IntWalk.i64_in _ (by have := HX.out; have := HS.out.1; omega)]; omega
      have cj : wr.cell? ⟨h0, j, none⟩ = some (.bool (D j)) := by rw [cell_of_heap HTO.out.row]; simpa using rowC_get n D j hle
      obtain ⟨d, hd⟩ : ∃ d, d = D j := ⟨_, rfl⟩
      rw [← hd] at cj
      have hLn : (List.range (j + 1)).filter D = L ++ (if d = true then [j] else []) := by
        rw [List.range_succ, List.filter_append, ← HL.out, hd]
        congr 1
        cases h : D j <;> simp [h]
      have hLl : L.length ≤ j := by rw [HL.out]; exact Nat.le_trans (List.length_filter_le _ _) (by simp)
      have HLN := Lib.hid hLn
      have hwr := Lib.hid (block_lt HTO.out.box)
      obtain ⟨m, hm⟩ : ∃ m, m = L.length := ⟨_, rfl⟩
      rw [← hm] at hown hLl
      have HM := Lib.hid hm
      have HOWN := Lib.hid hown
      clear hd hLn hle hm hown
      cases d with
      | false =>
        go_wp2
        go_roundg (N - j)
        case rel => exact ⟨j + 1, L, by go_num, by show _ ≤ _; omega, by show _ = _; omega, by show _ = _; rw [HLN.out]; simp, by have := HOWN.out; rw [HM.out] at this; exact this, HTO⟩
        case measure => have := HK.out; omega
      | true =>
        have hNs : N ≤ 1000001 := by have := HX.out; have := HS.out.1; omega
        have hz := hwr.out
        go_wp2_with (first
          | (at_builtin; refine wpList_append_own _ rfl (.tmp 39) (.tmp 41) 42 rfl (h0 + 2) 3 i0 (.int .i64 0) 1 8 Try.underlying42 HI0.out.1 HI0.out.2.1 HI0.out.2.2.1 HI0.out.2.2.2 rfl (by decide) _ m (natsV L) rfl (owns_alloc HOWN.out) ⟨wr.heap.size, 0, none⟩ 1 1 [.int .i64 j] rfl rfl (cell_one' _ _ _) (by simp [Value.oneCell']) (by unfold maxLen; omega) (by omega) (by simp; omega) ?_; intro v5 w5 hown5 hgrow5 _
             have ht5 : Told h0 n w D w5 := ⟨(hgrow5.block _ (by simp; omega) (fun e => by have := own_base HOWN.out e.symm; omega)).trans ((Below.heap_alloc _ _ _ hz).trans HTO.out.box), (hgrow5.block _ (by simp; omega) (fun e => by have := own_base HOWN.out e.symm; omega)).trans ((Below.heap_alloc _ _ _ (by omega)).trans HTO.out.row), (HTO.out.low.alloc (by omega) _).grown hgrow5 (by simp; omega) (fun q hq => by have := own_base HOWN.out hq; omega)⟩
             have H5 := Lib.hid (And.intro hown5 ht5)
             clear hown5 hgrow5 ht5)
          | fail)
        go_roundg (N - j)
        case rel =>
          refine ⟨j + 1, L ++ [j], by go_num, by show _ ≤ _; omega, by show _ = _; omega, by show _ = _; rw [HLN.out]; simp, ?_, H5.out.2⟩
          have h := H5.out.1
          rw [← natsV_snoc, HM.out] at h
          rw [List.length_append]
          exact h
        case measure => have := HK.out; omega
    · have hj : j = N := by have := HJN.out; omega
      subst hj
      go_wp2
      obtain ⟨hX0, hN, hn, hh0⟩ := HX.out
      refine bodyPost_ret (results_tmp rfl _ _ _) rfl ⟨_, D, rfl, HJ.out.2, ?_, ?_⟩
      · have e : (List.range (s.size + 1)).filter D = L := by rw [HL.out, hN, hn]
        rw [e, ← hh0]
        exact owns_baseM hown (by omega)
      · rw [← hh0]; exact HTO.out.low
open Classical in
theorem endsL_of {s : List UInt8} {T : Tr} {k : Nat} {D : Nat → Bool} (hk : k ≤ s.length) (h : ∀ q, D q = true ↔ SD false s T k q) : (List.range (s.length + 1)).filter D = endsL s T (k : Int) := by
  unfold endsL
  rw [if_neg (by omega)]
  apply List.filter_congr
  intro q _
  have := h q
  have e : SD false s T k q = St s T k q := rfl
  rw [e] at this
  rw [Int.toNat_natCast]
  cases hd : D q with
  | true => exact (decide_eq_true (this.1 hd)).symm
  | false => exact (decide_eq_false (fun hh => by rw [this.2 hh] at hd; cases hd)).symm
set_option maxHeartbeats 1000000 in
set_option maxRecDepth 20000 in
/-- Package match's Ends, of a tree's row, from any place. -/
theorem ends_any (v : Value) (T : Tr) (ts : List Nd) (s : ByteArray) (a : Int) (w : World) (hts : ts = T.row 0) (hok : T.ok) (hsz : ts.length ≤ 2000) (hs : s.size ≤ 1000000) (hL : Lies v ts w) :
    Calls Try.prog 31 #[v, .string s, .int .i64 a] w fun e w' => ∃ v', e = .returned v' ∧ w'.ownsRow w.heap.size 3 1 v' (endsL s.data.toList T a).length (natsV (endsL s.data.toList T a)) ∧ Below w.heap.size w w' := by
  have hlen : s.data.toList.length = s.size := Array.length_toList
  by_cases h1 : a < 0
  · have e : endsL s.data.toList T a = [] := by unfold endsL; rw [if_pos (.inl h1)]
    rw [e]
    obtain ⟨ao, cap, rfl, _⟩ := hL
    go_enter Try.func31, Try.ntmps31
    go_wp2
    exact bodyPost_ret (results_tmp rfl _ _ _) rfl ⟨_, rfl, World.ownsRow_nil _ _ _ _, Below.refl _ _⟩
  · by_cases h2 : (s.size : Int) < a
    · have e : endsL s.data.toList T a = [] := by unfold endsL; rw [if_pos (.inr (by rw [hlen]; exact h2))]
      rw [e]
      obtain ⟨ao, cap, rfl, _⟩ := hL
      go_enter Try.func31, Try.ntmps31
      go_wp2
      exact bodyPost_ret (results_tmp rfl _ _ _) rfl ⟨_, rfl, World.ownsRow_nil _ _ _ _, Below.refl _ _⟩
    · obtain ⟨k, rfl⟩ : ∃ k : Nat, a = (k : Int) := ⟨a.toNat, by omega⟩
      obtain ⟨ao, cap, rfl, hl2, hq⟩ := hL
      obtain ⟨b, o, rfl, _, _⟩ := hq 0 _ (List.getElem?_eq_getElem (by rw [hts, Tr.row_length]; exact T.size_pos))
      refine (ends_walk b o cap T ts s k w hts hok hsz hs (by omega) ⟨_, _, rfl, hl2, hq⟩).mono ?_
      rintro e w' ⟨v', D, rfl, hD, hown, hlow⟩
      rw [← hlen, endsL_of (by omega) hD] at hown
      exact ⟨v', rfl, hown, hlow⟩
end Go.Proofs.Ytgffmbdbjbhocaa
namespace Go.Proofs.Ytgffmbdbjbhocaa
open Go.RowKit Go.Lib

set_option maxHeartbeats 8000000 in
set_option maxRecDepth 20000 in
theorem reach_far (c : Cf) (s : ByteArray) (bk : Bool) (ts : List Nd) (up : Nat → Nat) (T : Tr) (hT : Tree ts up T) (J : (Nat → Bool) → World → Prop) (b1 b2 : Nat) (hbs : c.B ≤ c.bs)
    (hJk : ∀ D w w', J D w → Kept c.B w w' → J D w')
    (hJt : ∀ D p w, J D w → p ≤ s.size → Calls Try.prog 127 #[.int .i64 (p : Int), .pointer (some ⟨b1, 0, none⟩), .pointer (some ⟨b2, 0, none⟩)] w fun e w' => e = .returned (.tuple #[]) ∧ J (setT D p) w' ∧ ∀ j, (c.B ≤ j ∨ j = c.bt) → w'.heap[j]? = w.heap[j]?)
    (M0 : Nat → Nat → Bool) (a : Nat) (ha : a ≤ s.size) (w : World) (hE : Env c s bk ts up w) (hM : Mk c.B c.br c.bR c.bs c.bf ts.length s M0 [] w) (hJ : J (fun _ => false) w)
    (h0 : ∀ g p, M0 g p = true → ∀ q ∈ nextD bk s.data.toList ts up g p, M0 q.1 q.2 = true) :
    Calls Try.prog 106 #[.int .i64 (a : Int), .func (.func 127) #[] #[.pointer (some ⟨b1, 0, none⟩), .pointer (some ⟨b2, 0, none⟩)], .pointer (some ⟨c.bm, 0, none⟩), .pointer (some ⟨c.bl, 0, none⟩), .pointer (some ⟨c.bn, 0, none⟩), .pointer (some ⟨c.bp, 0, none⟩)] w fun e w' =>
      e = .returned (.tuple #[]) ∧ ∃ M, Env c s bk ts up w' ∧ Mk c.B c.br c.bR c.bs c.bf ts.length s M [] w' ∧ J (fun p => M (2 * (ts.length - 1) + 1) p && !M0 (2 * (ts.length - 1) + 1) p) w' ∧ Done bk s.data.toList ts up (ts.length - 1) a M0 M := by
  have hl : 0 < ts.length := by rw [← hT.len]; exact T.size_pos
  have hsm := hM.small
  obtain ⟨last, hlast⟩ : ∃ last, last = ts.length - 1 := ⟨_, rfl⟩
  have cbm : w.cell? ⟨c.bm, 0, none⟩ = some (.func (.func 104) #[] #[.pointer (some ⟨c.br, 0, none⟩), .pointer (some ⟨c.bs, 0, none⟩), .pointer (some ⟨c.bf, 0, none⟩)]) := by rw [cell_of_heap hE.bm]; rfl
  have cbl : w.cell? ⟨c.bl, 0, none⟩ = some (.int .i64 (last : Int)) := by rw [cell_of_heap hE.bl, hlast]; rfl
  have ki := fun w => in_any last w (by omega)
  have hst : Srch c s bk ts up w (M0, []) w := ⟨hE, hM, Kept.refl _ _⟩
  have km := hst.mark (g := 2 * last) (p := a) (by omega) ha
  have hA : ∀ w', Srch c s bk ts up w (mks [(2 * last, a)] (M0, [])) w' → ∃ M F D, AtS c s bk ts up J a M0 M F D w' := fun w' h => ⟨_, _, _, h.env, h.mm, hJk _ _ _ hJ h.kept, by rw [← hlast]; exact Inv.start h0⟩
  have SB := Lib.hid (fun W' (hb : Below w.heap.size w W') => (show W'.cell? ⟨c.bm, 0, none⟩ = some (.func (.func 104) #[] #[.pointer (some ⟨c.br, 0, none⟩), .pointer (some ⟨c.bs, 0, none⟩), .pointer (some ⟨c.bf, 0, none⟩)]) ∧ W'.cell? ⟨c.bl, 0, none⟩ = some (.int .i64 (last : Int)) from ⟨cell_kept hb cbm, cell_kept hb cbl⟩))
  have SP := Lib.hid (fun W' (h : Srch c s bk ts up w (mks [(2 * last, a)] (M0, [])) W') => (show W'.cell? ⟨c.bm, 0, none⟩ = some (.func (.func 104) #[] #[.pointer (some ⟨c.br, 0, none⟩), .pointer (some ⟨c.bs, 0, none⟩), .pointer (some ⟨c.bf, 0, none⟩)]) ∧ W'.cell? ⟨c.bl, 0, none⟩ = some (.int .i64 (last : Int)) from ⟨by rw [cell_of_heap h.env.bm]; rfl, by rw [cell_of_heap h.env.bl, hlast]; rfl⟩))
  have HJK := Lib.hid hJk
  have HJT := Lib.hid hJt
  have HT := Lib.hid hT
  have HLA := Lib.hid hlast
  have HA := Lib.hid hA
  clear hJk hJt hJ h0 hE hM hst hT cbm cbl hA hlast ha
  go_enter Try.func106, Try.ntmps106
  go_step3
  go_wp2_with fail
  go_region_held3 (fun W' => W'.cell? ⟨c.bm, 0, none⟩ = some (.func (.func 104) #[] #[.pointer (some ⟨c.br, 0, none⟩), .pointer (some ⟨c.bs, 0, none⟩), .pointer (some ⟨c.bf, 0, none⟩)]) ∧ W'.cell? ⟨c.bl, 0, none⟩ = some (.int .i64 (last : Int)))
    (first | with_reducible exact SB.out _ (Below.refl _ w).drew | with_reducible exact SP.out _ h1)
    (first
      | (go_at_call 107; refine (ki _).mono ?_; rintro e w2 ⟨rfl, rfl⟩)
      | (go_at_call 104; refine (km _ (Below.refl _ _).drew).mono ?_; rintro e w1 ⟨rfl, h1⟩))
  have H1 := Lib.hid (HA.out _ h1)
  clear h1 km ki SB SP HA
  go_wp2_with fail
  go_step3
  go_wp2_with fail
  go_loopg [] (2 * ts.length * (s.size + 1) + 1) (fun k wr => Hid (∃ M F D, AtS c s bk ts up J a M0 M F D wr ∧ F.length + free M s.size ts.length < k))
  case atStart =>
    obtain ⟨M, F, D, h⟩ := H1.out
    exact ⟨M, F, D, h, by have := h.mm.cnt; omega⟩
  case round =>
    obtain ⟨M, F, D, h, hk⟩ := hrel.out
    clear hrel H1
    rcases List.eq_nil_or_concat F with rfl | ⟨F', ⟨g, p⟩, hF⟩
    · have kn := next_empty (⟨h.env, h.mm, Kept.refl _ _⟩ : Srch c s bk ts up wr (M, []) wr)
      have cbn := h.bn
      have H := Lib.hid h
      clear h
      go_wp2_with (first
        | (go_at_call 105; refine kn.mono ?_; rintro e w2 ⟨rfl, h2⟩; have H2 := Lib.hid h2; clear h2 kn cbn)
        | fail)
      rw [Exit.noGoto_normal]
      go_end0
      have h3 := H2.out.below ((Below.refl _ w2).alloc (Nat.le_refl _) (.cells #[.int .i64 0, .int .i64 0] 137))
      obtain ⟨hd, hD⟩ := H.out.inv.done
      exact ⟨rfl, M, h3.env, h3.mm, hD ▸ HJK.out _ _ _ H.out.j h3.kept, hd⟩
    · rw [List.concat_eq_append] at hF
      subst hF
      obtain ⟨hMg, hM0g⟩ := h.inv.i1 (g, p) (List.mem_append_right _ (List.mem_singleton.2 rfl))
      obtain ⟨hg, hp⟩ := h.mm.inb g p hMg
      have kn := next_last (⟨h.env, h.mm, Kept.refl _ _⟩ : Srch c s bk ts up wr (M, F' ++ [(g, p)]) wr)
      have cbn := h.bn
      have hj := h.j
      have hi := h.inv
      have H := Lib.hid (And.intro hj (And.intro hi (And.intro hMg hM0g)))
      clear h hj hi hMg hM0g
      rcases Nat.mod_two_eq_zero_or_one g with hm | hm
      · obtain ⟨r, rfl⟩ : ∃ r, g = 2 * r := ⟨g / 2, by omega⟩
        obtain ⟨G, hG⟩ : ∃ G : Int, G = ((2 * r : Nat) : Int) := ⟨_, rfl⟩
        rw [← hG] at kn
        have hq : G / 2 = (r : Int) := by omega
        have HG := Lib.hid hG
        clear hG
        go_wp2_with (first
          | (go_at_call 105; refine kn.mono ?_; rintro e w2 ⟨rfl, h2⟩; have H2 := Lib.hid h2; clear h2 kn cbn)
          | fail)
        obtain ⟨W, hW⟩ : ∃ W, W = w2.alloc (.cells #[.int .i64 G, .int .i64 (p : Int)] 137) := ⟨_, rfl⟩
        rw [← hW]
        obtain ⟨h, hh⟩ : ∃ h, h = w2.heap.size := ⟨_, rfl⟩
        rw [← hh]
        have w0 : W.heap[h]? = some (.cells #[.int .i64 G, .int .i64 (p : Int)] 137 (0, 0)) := by rw [hW, hh]; exact heap_alloc_new _ _
        have d0 : W.cell? ⟨h, 0, none⟩ = some (.int .i64 G) := by rw [cell_of_heap w0]; rfl
        have d1 : W.cell? ⟨h, 1, none⟩ = some (.int .i64 (p : Int)) := by rw [cell_of_heap w0]; rfl
        have hWB : Below w2.heap.size w2 W := by rw [hW]; exact (Below.refl _ _).alloc (Nat.le_refl _) _
        have hVS : Srch c s bk ts up wr (M, F') W.drew := H2.out.below hWB.drew
        have hVJ : J D W.drew := HJK.out _ _ _ H.out.1 hVS.kept
        have SB := Lib.hid (fun W' (hb : Below W.heap.size W W') => (show W'.cell? ⟨h, 0, none⟩ = some (.int .i64 G) from cell_kept hb d0))
        have e1 : W.drew.cell? ⟨h, 1, none⟩ = some (.int .i64 (p : Int)) := d1
        obtain ⟨I, hI⟩ : ∃ I : Int, I = ((2 * r : Nat) : Int) := ⟨_, rfl⟩
        have ki2 : ∀ w, Calls Try.prog 107 #[.int .i64 (r : Int)] w fun e w' => e = .returned (.int .i64 I) ∧ w = w' := fun w => by rw [hI]; exact in_any r w (by omega)
        have heq : (G == I) = true := by have := HG.out; simp; omega
        have HI := Lib.hid hI
        clear hI
        have ke := way_enter HT.out HJK.out H.out.2.1 hVS hVJ (by omega) hp
        have cbp : W.drew.cell? ⟨c.bp, 0, none⟩ = some (.pointer (some ⟨c.bw, 0, none⟩)) := by rw [cell_of_heap hVS.env.bp]; rfl
        clear hW hh w0 d0 d1 hWB hVS hVJ
        go_region_held3 (fun W' => W'.cell? ⟨h, 0, none⟩ = some (.int .i64 G))
          (first | with_reducible exact SB.out _ (Below.refl _ W).drew)
          (first
            | (go_at_call 107; refine (ki2 _).mono ?_; rintro e w4 ⟨rfl, rfl⟩))
        clear ki2 SB
        go_wp2_with (first
          | (go_at_call 108; refine ke.mono ?_; rintro e w5 ⟨rfl, hAf⟩)
          | fail)
        obtain ⟨M', F'', D', hA', hlt⟩ := hAf
        go_roundg (gk - 1)
        case rel => exact ⟨M', F'', D', hA', by omega⟩
        case measure => omega
      · obtain ⟨r, rfl⟩ : ∃ r, g = 2 * r + 1 := ⟨g / 2, by omega⟩
        by_cases hrl : r = last
        · rw [hrl] at hg kn H hk
          clear hm hrl r
          obtain ⟨G, hG⟩ : ∃ G : Int, G = ((2 * last + 1 : Nat) : Int) := ⟨_, rfl⟩
          rw [← hG] at kn
          have hq : G / 2 = (last : Int) := by omega
          have HG := Lib.hid hG
          clear hG
          go_wp2_with (first
            | (go_at_call 105; refine kn.mono ?_; rintro e w2 ⟨rfl, h2⟩; have H2 := Lib.hid h2; clear h2 kn cbn)
            | fail)
          obtain ⟨W, hW⟩ : ∃ W, W = w2.alloc (.cells #[.int .i64 G, .int .i64 (p : Int)] 137) := ⟨_, rfl⟩
          rw [← hW]
          obtain ⟨h, hh⟩ : ∃ h, h = w2.heap.size := ⟨_, rfl⟩
          rw [← hh]
          have w0 : W.heap[h]? = some (.cells #[.int .i64 G, .int .i64 (p : Int)] 137 (0, 0)) := by rw [hW, hh]; exact heap_alloc_new _ _
          have d0 : W.cell? ⟨h, 0, none⟩ = some (.int .i64 G) := by rw [cell_of_heap w0]; rfl
          have d1 : W.cell? ⟨h, 1, none⟩ = some (.int .i64 (p : Int)) := by rw [cell_of_heap w0]; rfl
          have hWB : Below w2.heap.size w2 W := by rw [hW]; exact (Below.refl _ _).alloc (Nat.le_refl _) _
          have hVS : Srch c s bk ts up wr (M, F') W.drew := H2.out.below hWB.drew
          have hVJ : J D W.drew := HJK.out _ _ _ H.out.1 hVS.kept
          have SB := Lib.hid (fun W' (hb : Below W.heap.size W W') => (show W'.cell? ⟨h, 0, none⟩ = some (.int .i64 G) from cell_kept hb d0))
          have e1 : W.drew.cell? ⟨h, 1, none⟩ = some (.int .i64 (p : Int)) := d1
          obtain ⟨I, hI⟩ : ∃ I : Int, I = ((2 * last : Nat) : Int) := ⟨_, rfl⟩
          have ki2 : ∀ w, Calls Try.prog 107 #[.int .i64 (last : Int)] w fun e w' => e = .returned (.int .i64 I) ∧ w = w' := fun w => by rw [hI]; exact in_any last w (by omega)
          have hne : (G == I) = false := by have := HG.out; simp; omega
          have HI := Lib.hid hI
          clear hI
          have cbl : W.drew.cell? ⟨c.bl, 0, none⟩ = some (.int .i64 (last : Int)) := by rw [cell_of_heap hVS.env.bl, HLA.out]; rfl
          have hi : Inv bk s.data.toList ts up (ts.length - 1) a M0 M (F' ++ [(2 * (ts.length - 1) + 1, p)]) D := by have h := H.out.2.1; have e := HLA.out; rw [e] at h; exact h
          have kt := HJT.out D p W.drew hVJ hp
          have HVS := Lib.hid (And.intro hVS hi)
          clear hW hh w0 d0 d1 hWB hVS hVJ hi
          go_region_held3 (fun W' => W'.cell? ⟨h, 0, none⟩ = some (.int .i64 G))
            (first | with_reducible exact SB.out _ (Below.refl _ W).drew)
            (first
              | (go_at_call 107; refine (ki2 _).mono ?_; rintro e w4 ⟨rfl, rfl⟩))
          clear ki2 SB
          go_wp2_with (first
            | (go_at_call 127; refine kt.mono ?_; rintro e w5 ⟨rfl, hj5, hs5⟩)
            | fail)
          have hAf := way_tell hbs hl HVS.out.2 HVS.out.1 hj5 hs5
          rw [← HLA.out] at hAf
          obtain ⟨M', F'', D', hA', hlt⟩ := hAf
          go_roundg (gk - 1)
          case rel => exact ⟨M', F'', D', hA', by omega⟩
          case measure => omega
        · obtain ⟨G, hG⟩ : ∃ G : Int, G = ((2 * r + 1 : Nat) : Int) := ⟨_, rfl⟩
          rw [← hG] at kn
          have hq : G / 2 = (r : Int) := by omega
          have HG := Lib.hid hG
          clear hG
          go_wp2_with (first
            | (go_at_call 105; refine kn.mono ?_; rintro e w2 ⟨rfl, h2⟩; have H2 := Lib.hid h2; clear h2 kn cbn)
            | fail)
          obtain ⟨W, hW⟩ : ∃ W, W = w2.alloc (.cells #[.int .i64 G, .int .i64 (p : Int)] 137) := ⟨_, rfl⟩
          rw [← hW]
          obtain ⟨h, hh⟩ : ∃ h, h = w2.heap.size := ⟨_, rfl⟩
          rw [← hh]
          have w0 : W.heap[h]? = some (.cells #[.int .i64 G, .int .i64 (p : Int)] 137 (0, 0)) := by rw [hW, hh]; exact heap_alloc_new _ _
          have d0 : W.cell? ⟨h, 0, none⟩ = some (.int .i64 G) := by rw [cell_of_heap w0]; rfl
          have d1 : W.cell? ⟨h, 1, none⟩ = some (.int .i64 (p : Int)) := by rw [cell_of_heap w0]; rfl
          have hWB : Below w2.heap.size w2 W := by rw [hW]; exact (Below.refl _ _).alloc (Nat.le_refl _) _
          have hVS : Srch c s bk ts up wr (M, F') W.drew := H2.out.below hWB.drew
          have hVJ : J D W.drew := HJK.out _ _ _ H.out.1 hVS.kept
          have SB := Lib.hid (fun W' (hb : Below W.heap.size W W') => (show W'.cell? ⟨h, 0, none⟩ = some (.int .i64 G) from cell_kept hb d0))
          have e1 : W.drew.cell? ⟨h, 1, none⟩ = some (.int .i64 (p : Int)) := d1
          obtain ⟨I, hI⟩ : ∃ I : Int, I = ((2 * r : Nat) : Int) := ⟨_, rfl⟩
          have ki2 : ∀ w, Calls Try.prog 107 #[.int .i64 (r : Int)] w fun e w' => e = .returned (.int .i64 I) ∧ w = w' := fun w => by rw [hI]; exact in_any r w (by omega)
          have hne : (G == I) = false := by have := HG.out; simp; omega
          have HI := Lib.hid hI
          clear hI
          have ke := way_leave HT.out HJK.out H.out.2.1 hVS hVJ (by have := HLA.out; omega) hp
          have cbl : W.drew.cell? ⟨c.bl, 0, none⟩ = some (.int .i64 (last : Int)) := by rw [cell_of_heap hVS.env.bl, HLA.out]; rfl
          have cbp : W.drew.cell? ⟨c.bp, 0, none⟩ = some (.pointer (some ⟨c.bw, 0, none⟩)) := by rw [cell_of_heap hVS.env.bp]; rfl
          have hnl : ((r : Int) == (last : Int)) = false := by simp; omega
          clear hW hh w0 d0 d1 hWB hVS hVJ
          go_region_held3 (fun W' => W'.cell? ⟨h, 0, none⟩ = some (.int .i64 G))
            (first | with_reducible exact SB.out _ (Below.refl _ W).drew)
            (first
              | (go_at_call 107; refine (ki2 _).mono ?_; rintro e w4 ⟨rfl, rfl⟩))
          clear ki2 SB
          go_wp2_with (first
            | (go_at_call 109; refine ke.mono ?_; rintro e w5 ⟨rfl, hAf⟩)
            | fail)
          obtain ⟨M', F'', D', hA', hlt⟩ := hAf
          go_roundg (gk - 1)
          case rel => exact ⟨M', F'', D', hA', by omega⟩
          case measure => omega
end Go.Proofs.Ytgffmbdbjbhocaa
