/- Packed texts: MaReach, MaReacher. What each of them proves stands above its theorems; the conditions stand in these. -/
import Derived.Test.YtkgpnlldlekcbaaM14
import Derived.Test.YtkgpnlldlekcbaaM15
namespace Go.Proofs.Ytkgpnlldlekcbaa
open Go.RowKit Go.Lib

/-- Between two steps. -/
structure AtS (c : Cf) (s : ByteArray) (bk : Bool) (ts : List Nd) (up : Nat → Nat) (J : (Nat → Bool) → World → Prop) (a : Nat) (M0 M : Nat → Nat → Bool) (F : List (Nat × Nat)) (D : Nat → Bool) (w : World) : Prop where
  env : Env c s bk ts up w
  mm : Mk c.B c.br c.bR c.bs c.bf ts.length s M F w
  j : J D w
  inv : Inv bk s.data.toList ts up (ts.length - 1) a M0 M F D
theorem Env.same {c : Cf} {s : ByteArray} {bk : Bool} {ts : List Nd} {up : Nat → Nat} {w w' : World} (h : Env c s bk ts up w) (hs : ∀ j, (c.B ≤ j ∨ j = c.bt) → w'.heap[j]? = w.heap[j]?) : Env c s bk ts up w' := by
  obtain ⟨g1, g2, g3, g4, g5, g6⟩ := h.ge
  refine ⟨(hs _ (.inl g1)).trans h.wk, (hs _ (.inl g2)).trans h.up, (hs _ (.inl g3)).trans h.bm, (hs _ (.inl g4)).trans h.bn, (hs _ (.inl g5)).trans h.bp, (hs _ (.inl g6)).trans h.bl, fun j n hj => ?_, h.lt, h.ge⟩
  have e : ∀ i, w'.cell? ⟨c.bt, i, none⟩ = w.cell? ⟨c.bt, i, none⟩ := fun i => by unfold World.cell?; rw [hs c.bt (.inr rfl)]
  have := h.tree j n hj
  unfold NdAt at this ⊢
  rw [e, e, e, e, e, e, e]
  exact this
theorem Mk.same {B br bR bs bf L : Nat} {s : ByteArray} {M : Nat → Nat → Bool} {F : List (Nat × Nat)} {w w' : World} (h : Mk B br bR bs bf L s M F w) (hbs : B ≤ bs) (hs : ∀ j, B ≤ j → w'.heap[j]? = w.heap[j]?) : Mk B br bR bs bf L s M F w' := by
  obtain ⟨rv, h1, h2, h3, h4⟩ := h.cells
  obtain ⟨v, h5, h6⟩ := h.fresh
  refine ⟨h.hB, (hs _ h.hB.1).trans h.rows, ⟨rv, h1, (hs _ h.hB.2.1).trans h2, fun g v hv => ?_, h4⟩, (hs _ hbs).trans h.str, ⟨v, (hs _ h.hB.2.2).trans h5, owns_same h6 fun q hq => hs q (own_base h6 hq)⟩, h.inb, h.cnt, h.small⟩
  rcases h3 g v hv with hh | ⟨b, e1, e2, e3⟩
  · exact .inl hh
  · exact .inr ⟨b, e1, e2, (hs _ e2).trans e3⟩
section
variable {c : Cf} {s : ByteArray} {bk : Bool} {ts : List Nd} {up : Nat → Nat} {J : (Nat → Bool) → World → Prop} {a : Nat} {M0 M : Nat → Nat → Bool} {F : List (Nat × Nat)} {D : Nat → Bool} {w : World}
theorem AtS.bl (h : AtS c s bk ts up J a M0 M F D w) : w.cell? ⟨c.bl, 0, none⟩ = some (.int .i64 ((ts.length - 1 : Nat) : Int)) := by rw [cell_of_heap h.env.bl]; rfl
theorem AtS.bp (h : AtS c s bk ts up J a M0 M F D w) : w.cell? ⟨c.bp, 0, none⟩ = some (.pointer (some ⟨c.bw, 0, none⟩)) := by rw [cell_of_heap h.env.bp]; rfl
theorem AtS.bn (h : AtS c s bk ts up J a M0 M F D w) : w.cell? ⟨c.bn, 0, none⟩ = some (.func (.func 67) #[] #[.pointer (some ⟨c.bf, 0, none⟩)]) := by rw [cell_of_heap h.env.bn]; rfl
end
/-- What one step of the search does, from the popped spot on. -/
def After (c : Cf) (s : ByteArray) (bk : Bool) (ts : List Nd) (up : Nat → Nat) (J : (Nat → Bool) → World → Prop) (a : Nat) (M0 : Nat → Nat → Bool) (k : Nat) (w : World) : Prop :=
  ∃ M F D, AtS c s bk ts up J a M0 M F D w ∧ F.length + free M s.size ts.length < k
/-- The step's three ways, each as a contract from the world in which the spot has been taken. -/
theorem way_enter {c : Cf} {s : ByteArray} {bk : Bool} {ts : List Nd} {up : Nat → Nat} {T : Tr} (hT : Tree ts up T) {J : (Nat → Bool) → World → Prop} (hJk : ∀ D w w', J D w → Kept c.B w w' → J D w') {a : Nat} {M0 M : Nat → Nat → Bool} {F : List (Nat × Nat)} {D : Nat → Bool} {r p : Nat} {w W : World}
    (hi : Inv bk s.data.toList ts up (ts.length - 1) a M0 M (F ++ [(2 * r, p)]) D) (h : Srch c s bk ts up w (M, F) W) (hj : J D W) (hr : r < ts.length) (hp : p ≤ s.size) :
    Calls Try.prog 70 #[.pointer (some ⟨c.bw, 0, none⟩), .int .i64 (r : Int), .int .i64 (p : Int)] W fun e w' => e = .returned (.tuple #[]) ∧ After c s bk ts up J a M0 ((F ++ [(2 * r, p)]).length + free M s.size ts.length) w' := by
  have hn : ts[r]? = some ts[r] := List.getElem?_eq_getElem hr
  refine (enter_any (w0 := W) ⟨h.env, h.mm, Kept.refl _ _⟩ hn (hT.fit hn) hp).mono ?_
  rintro e w' ⟨rfl, h2⟩
  have hst := hi.step (T' := D) (.inl ⟨by omega, rfl⟩)
  rw [next_even _ _ _ _ hn] at hst
  have hfr := mks_free (n := s.size) (L := ts.length) (enterD bk s.data.toList ts[r] r p) (M, F) (fun q hq => by have := enter_inb (hT.fit hn) hr (by rw [Array.length_toList]; exact hp) q hq; rwa [Array.length_toList] at this)
  exact ⟨rfl, _, _, D, ⟨h2.env, h2.mm, hJk _ _ _ hj h2.kept, hst⟩, by rw [hfr, List.length_append]; dsimp only [List.length_cons, List.length_nil]; omega⟩
theorem way_leave {c : Cf} {s : ByteArray} {bk : Bool} {ts : List Nd} {up : Nat → Nat} {T : Tr} (hT : Tree ts up T) {J : (Nat → Bool) → World → Prop} (hJk : ∀ D w w', J D w → Kept c.B w w' → J D w') {a : Nat} {M0 M : Nat → Nat → Bool} {F : List (Nat × Nat)} {D : Nat → Bool} {r p : Nat} {w W : World}
    (hi : Inv bk s.data.toList ts up (ts.length - 1) a M0 M (F ++ [(2 * r + 1, p)]) D) (h : Srch c s bk ts up w (M, F) W) (hj : J D W) (hr : r + 1 < ts.length) (hp : p ≤ s.size) :
    Calls Try.prog 71 #[.pointer (some ⟨c.bw, 0, none⟩), .int .i64 (r : Int), .int .i64 (p : Int)] W fun e w' => e = .returned (.tuple #[]) ∧ After c s bk ts up J a M0 ((F ++ [(2 * r + 1, p)]).length + free M s.size ts.length) w' := by
  obtain ⟨n, hn, hk, hu⟩ := hT.parent hr
  refine (leave_any (w0 := W) ⟨h.env, h.mm, Kept.refl _ _⟩ (by omega) hn (hT.fit hn) hk hp).mono ?_
  rintro e w' ⟨rfl, h2⟩
  have hst := hi.step (T' := D) (.inl ⟨by omega, rfl⟩)
  rw [next_odd _ _ _ hr hn] at hst
  have hfr := mks_free (n := s.size) (L := ts.length) (leaveD bk n (up r) r p) (M, F) (leave_inb (hT.fit hn) (by omega) hu hp)
  exact ⟨rfl, _, _, D, ⟨h2.env, h2.mm, hJk _ _ _ hj h2.kept, hst⟩, by rw [hfr, List.length_append]; dsimp only [List.length_cons, List.length_nil]; omega⟩
theorem way_tell {c : Cf} {s : ByteArray} {bk : Bool} {ts : List Nd} {up : Nat → Nat} {J : (Nat → Bool) → World → Prop} {a : Nat} {M0 M : Nat → Nat → Bool} {F : List (Nat × Nat)} {D : Nat → Bool} {p : Nat} {w W w' : World} (hbs : c.B ≤ c.bs) (hl : 0 < ts.length)
    (hi : Inv bk s.data.toList ts up (ts.length - 1) a M0 M (F ++ [(2 * (ts.length - 1) + 1, p)]) D) (h : Srch c s bk ts up w (M, F) W)
    (hj : J (setT D p) w') (hs : ∀ j, (c.B ≤ j ∨ j = c.bt) → w'.heap[j]? = W.heap[j]?) : After c s bk ts up J a M0 ((F ++ [(2 * (ts.length - 1) + 1, p)]).length + free M s.size ts.length) w' := by
  have hst := hi.step (T' := setT D p) (.inr ⟨rfl, rfl⟩)
  rw [next_top _ _ _ _ (by omega)] at hst
  exact ⟨M, F, _, ⟨h.env.same hs, h.mm.same hbs fun j hj => hs j (.inl hj), hj, hst⟩, by rw [List.length_append]; dsimp only [List.length_cons, List.length_nil]; omega⟩
end Go.Proofs.Ytkgpnlldlekcbaa
namespace Go.Proofs.Ytkgpnlldlekcbaa
open Go.RowKit Go.Lib

theorem free_none (n L : Nat) : free (fun _ _ => false) n L = 2 * L * (n + 1) := by
  unfold free
  have : ∀ m, (List.range m).countP (fun i => !(fun (_ _ : Nat) => false) (i / (n + 1)) (i % (n + 1))) = m := fun m => by
    induction m with
    | zero => rfl
    | succ m ih => rw [List.range_succ, List.countP_append, ih]; simp
  exact this _
set_option maxHeartbeats 8000000 in
set_option maxRecDepth 20000 in
theorem reacher_any (b o cap : Nat) (T : Tr) (ts : List Nd) (s : ByteArray) (bk : Bool) (w : World) (hts : ts = T.row 0) (hok : T.ok) (hsz : ts.length ≤ 2000) (hs : s.size ≤ 1000000) (hL : Lies (.slice (some ⟨b, o, none⟩) ts.length cap) ts w) :
    Calls Try.prog 44 #[.slice (some ⟨b, o, none⟩) ts.length cap, .string s, .bool bk] w fun e w' => ∃ c : Cf, c.B = w.heap.size ∧ c.bt = b ∧ c.B ≤ c.bs ∧ Below w.heap.size w w' ∧
      e = .returned (.func (.func 68) #[] #[.pointer (some ⟨c.bm, 0, none⟩), .pointer (some ⟨c.bl, 0, none⟩), .pointer (some ⟨c.bn, 0, none⟩), .pointer (some ⟨c.bp, 0, none⟩)]) ∧
      Env c s bk ts (upT T) w' ∧ Mk c.B c.br c.bR c.bs c.bf ts.length s (fun _ _ => false) [] w' := by
  have hpos : 0 < ts.length := by rw [hts, Tr.row_length]; exact T.size_pos
  have hbw : b < w.heap.size := by
    obtain ⟨b', o', h1, h2, _⟩ := hL.at (List.getElem?_eq_getElem hpos)
    cases h1
    exact h2
  have kp := fun (w : World) (h : Lies (.slice (some ⟨b, o, none⟩) ts.length cap) ts w) => parents_any (.slice (some ⟨b, o, none⟩) ts.length cap) T ts w hts hok hsz h
  have HL := Lib.hid hL
  have hL1 := hL.below ((Below.refl _ w).alloc (Nat.le_refl _) (.cells #[.string s] 9))
  obtain ⟨N, hN⟩ : ∃ N, N = ts.length := ⟨_, rfl⟩
  rw [← hN] at hsz hpos hL1 kp ⊢
  have hN2 : IntKind.i64.wrap (2 * (N : Int)) = ((2 * N : Nat) : Int) := by rw [IntWalk.i64_in _ (by omega)]; omega
  obtain ⟨D, hD⟩ : ∃ D, D = 2 * N := ⟨_, rfl⟩
  rw [← hD] at hN2
  have hN1 : IntKind.i64.wrap ((N : Int) - 1) = ((N - 1 : Nat) : Int) := by rw [IntWalk.i64_in _ (by omega)]; omega
  obtain ⟨P, hP⟩ : ∃ P, P = N - 1 := ⟨_, rfl⟩
  rw [← hP] at hN1
  have kmk := fun (w : World) => run_make_row' (P := Try.prog) 106 40 (.slice none 0 0) 24 Try.underlying106 Try.infoBools rfl .i64 .i64 D (by omega) (by omega) w
  obtain ⟨X0, hX0⟩ : ∃ X0, X0 = Obj.cells (madeCells #[.slice none 0 0] D) 40 := ⟨_, rfl⟩
  rw [← hX0] at kmk
  have HH := Lib.hid (And.intro hX0 (And.intro hN (And.intro hD hP)))
  have HW := Lib.hid (And.intro hts (And.intro hok (And.intro hs (And.intro hbw hpos))))
  clear hX0 hN hD hP hts hok hs hpos
  have hst : ∀ (a : Addr) (fn : Fn) (x y : Array Value) (m : Mode) (w : World), (store a (.func fn x y) m).run Try.prog w = stored Try.prog w a (.func fn x y) m := fun a fn x y m w => run_store Try.prog w a (.func fn x y) m rfl
  have hmf : ∀ (fn : Fn) (first cap : Array Value) (w : World), (Instr.makeFunc fn first cap).run Try.prog w = .ok (.func fn first cap) w := fun _ _ _ _ => rfl
  go_enter Try.func44, Try.ntmps44
  go_upto_region 8 with (first
    | (go_at_call 64; refine (kp _ hL1).mono ?_; rintro e w1 ⟨rfl, hup, hb1⟩
       have hbs : w1.heap[w.heap.size]? = some (.cells #[.string s] 9 (0, 0)) := (hb1.block _ (by simp)).trans (heap_alloc_new w _)
       have HB := Lib.hid (And.intro hup (And.intro hb1 hbs))
       clear kp hL1 hup hb1 hbs)
    | fail)
  obtain ⟨h, hh⟩ : ∃ h, h = w.heap.size := ⟨_, rfl⟩
  obtain ⟨g, hg⟩ : ∃ g, g = w1.heap.size := ⟨_, rfl⟩
  rw [← hh, ← hg]
  obtain ⟨O1, hO1⟩ : ∃ O, O = Obj.cells #[.slice (some ⟨g, 0, none⟩) D D] 106 := ⟨_, rfl⟩
  obtain ⟨O2, hO2⟩ : ∃ O, O = Obj.cells #[.slice none 0 0] 107 := ⟨_, rfl⟩
  obtain ⟨O3, hO3⟩ : ∃ O, O = Obj.cells #[.func (.func 66) #[] #[.pointer (some ⟨g + 1, 0, none⟩), .pointer (some ⟨h, 0, none⟩), .pointer (some ⟨g + 1 + 1, 0, none⟩)]] 59 := ⟨_, rfl⟩
  obtain ⟨O4, hO4⟩ : ∃ O, O = Obj.cells #[.func (.func 67) #[] #[.pointer (some ⟨g + 1 + 1, 0, none⟩)]] 110 := ⟨_, rfl⟩
  rw [← hO1, ← hO2, ← hO3, ← hO4]
  obtain ⟨W, hW⟩ : ∃ W, W = ((((w1.alloc X0).alloc O1).alloc O2).alloc O3).alloc O4 := ⟨_, rfl⟩
  rw [← hW]
  have z0 : (w1.alloc X0).heap.size = g + 1 := by rw [hg]; simp
  have z1 : ((w1.alloc X0).alloc O1).heap.size = g + 2 := by rw [hg]; simp
  have z2 : (((w1.alloc X0).alloc O1).alloc O2).heap.size = g + 3 := by rw [hg]; simp
  have z3 : ((((w1.alloc X0).alloc O1).alloc O2).alloc O3).heap.size = g + 4 := by rw [hg]; simp
  have z4 : W.heap.size = g + 5 := by rw [hW, hg]; simp
  have y4 : W.heap[g + 4]? = some O4 := by rw [hW, ← z3]; exact heap_alloc_new _ _
  have y3 : W.heap[g + 3]? = some O3 := by rw [hW]; refine (Below.heap_alloc _ _ _ (by rw [z3]; omega)).trans ?_; rw [← z2]; exact heap_alloc_new _ _
  have y2 : W.heap[g + 2]? = some O2 := by rw [hW]; refine (Below.heap_alloc _ _ _ (by rw [z3]; omega)).trans ((Below.heap_alloc _ _ _ (by rw [z2]; omega)).trans ?_); rw [← z1]; exact heap_alloc_new _ _
  have y1 : W.heap[g + 1]? = some O1 := by rw [hW]; refine (Below.heap_alloc _ _ _ (by rw [z3]; omega)).trans ((Below.heap_alloc _ _ _ (by rw [z2]; omega)).trans ((Below.heap_alloc _ _ _ (by rw [z1]; omega)).trans ?_)); rw [← z0]; exact heap_alloc_new _ _
  have y0 : ∀ j, j < g + 1 → W.heap[j]? = (w1.alloc X0).heap[j]? := fun j hj => by rw [hW]; exact (Below.heap_alloc _ _ _ (by rw [z3]; omega)).trans ((Below.heap_alloc _ _ _ (by rw [z2]; omega)).trans ((Below.heap_alloc _ _ _ (by rw [z1]; omega)).trans (Below.heap_alloc _ _ _ (by rw [z0]; omega))))
  have yX : W.heap[g]? = some X0 := by rw [y0 g (by omega), hg]; exact heap_alloc_new _ _
  have yo : ∀ j, j < g → W.heap[j]? = w1.heap[j]? := fun j hj => (y0 j (by omega)).trans (Below.heap_alloc _ _ _ (by omega))
  have hhg : h + 1 ≤ g := by rw [hh, hg]; have := HB.out.2.1.size; simpa using this
  have yB : Below h w W := by
    rw [hW, hh]
    have hb := HB.out.2.1
    have hb0 : Below w.heap.size w w1 := ((Below.refl _ w).alloc (Nat.le_refl _) _).trans (hb.mono (by simp))
    exact ((((hb0.alloc (by omega) _).alloc (by rw [z0]; omega) _).alloc (by rw [z1]; omega) _).alloc (by rw [z2]; omega) _).alloc (by rw [z3]; omega) _
  have ys : W.heap[h]? = some (.cells #[.string s] 9 (0, 0)) := (yo h (by omega)).trans (by rw [hh]; exact HB.out.2.2)
  have yu : W.heap[h + 1]? = some (.cells ⟨upC N (upT T)⟩ 3 (0, 0)) := by
    by_cases e : h + 1 < g
    · refine (yo _ e).trans ?_
      have := HB.out.1
      rw [World.size_alloc, ← hh] at this
      exact this
    · have := block_lt HB.out.1
      rw [World.size_alloc, ← hh, ← hg] at this
      omega
  have cs : W.cell? ⟨h, 0, none⟩ = some (.string s) := by rw [cell_of_heap ys]; rfl
  have cm : W.cell? ⟨g + 3, 0, none⟩ = some (.func (.func 66) #[] #[.pointer (some ⟨g + 1, 0, none⟩), .pointer (some ⟨h, 0, none⟩), .pointer (some ⟨g + 1 + 1, 0, none⟩)]) := by rw [hO3] at y3; rw [cell_of_heap y3]; rfl
  have HY := Lib.hid (And.intro y4 (And.intro y3 (And.intro y2 (And.intro y1 (And.intro yX (And.intro yo (And.intro yB (And.intro ys (And.intro yu (And.intro z4 hhg))))))))))
  have HO := Lib.hid (And.intro hO1 (And.intro hO2 (And.intro hO3 hO4)))
  have HG := Lib.hid (And.intro hh hg)
  clear y4 y3 y2 y1 y0 yX yo yB ys yu hO1 hO2 hO3 hO4 hW z0 z1 z2 z3 hhg hh hg
  have z5 := z4
  clear z4
  go_wp2
  obtain ⟨Y4, Y3, Y2, Y1, YX, Yo, YB, Ys, Yu, Yz, Yg⟩ := HY.out
  obtain ⟨O1e, O2e, O3e, O4e⟩ := HO.out
  obtain ⟨hh, hg⟩ := HG.out
  obtain ⟨X0e, hN, hD, hP⟩ := HH.out
  obtain ⟨hts, hok, hs, hbw, hpos⟩ := HW.out
  have f0 : (W.alloc (.cells #[.slice (some ⟨b, o, none⟩) N cap, .string s, .bool bk, .slice (some ⟨h + 1, 0, none⟩) N N, markV (g + 1) h (g + 1 + 1)] 113)).heap.size = g + 6 := by simp; omega
  have f1 : ((W.alloc (.cells #[.slice (some ⟨b, o, none⟩) N cap, .string s, .bool bk, .slice (some ⟨h + 1, 0, none⟩) N N, markV (g + 1) h (g + 1 + 1)] 113)).alloc (.cells #[.pointer (some ⟨g + 5, 0, none⟩)] 111)).heap.size = g + 7 := by simp; omega
  obtain ⟨V, hV⟩ : ∃ V, V = ((W.alloc (.cells #[.slice (some ⟨b, o, none⟩) N cap, .string s, .bool bk, .slice (some ⟨h + 1, 0, none⟩) N N, markV (g + 1) h (g + 1 + 1)] 113)).alloc (.cells #[.pointer (some ⟨g + 5, 0, none⟩)] 111)).alloc (.cells #[.int .i64 (P : Int)] 3) := ⟨_, rfl⟩
  have v7 : V.heap[g + 7]? = some (.cells #[.int .i64 (P : Int)] 3 (0, 0)) := by rw [hV, ← f1]; exact heap_alloc_new _ _
  have v6 : V.heap[g + 6]? = some (.cells #[.pointer (some ⟨g + 5, 0, none⟩)] 111 (0, 0)) := by rw [hV]; refine (Below.heap_alloc _ _ _ (by rw [f1]; omega)).trans ?_; rw [← f0]; exact heap_alloc_new _ _
  have v5 : V.heap[g + 5]? = some (.cells #[.slice (some ⟨b, o, none⟩) N cap, .string s, .bool bk, .slice (some ⟨h + 1, 0, none⟩) N N, markV (g + 1) h (g + 1 + 1)] 113 (0, 0)) := by rw [hV]; refine (Below.heap_alloc _ _ _ (by rw [f1]; omega)).trans ((Below.heap_alloc _ _ _ (by rw [f0]; omega)).trans ?_); rw [← Yz]; exact heap_alloc_new _ _
  have vo : ∀ j, j < g + 5 → V.heap[j]? = W.heap[j]? := fun j hj => by rw [hV]; exact (Below.heap_alloc _ _ _ (by rw [f1]; omega)).trans ((Below.heap_alloc _ _ _ (by rw [f0]; omega)).trans (Below.heap_alloc _ _ _ (by omega)))
  have vB : Below h w V := by rw [hV]; exact ((YB.alloc (by omega) _).alloc (by rw [f0]; omega) _).alloc (by rw [f1]; omega) _
  have hE : Env { B := h, br := g + 1, bR := g, bs := h, bf := g + 1 + 1, bw := g + 5, bu := h + 1, bm := g + 3, bn := g + 4, bp := g + 6, bl := g + 7, bt := b, o := o, cap := cap } s bk ts (upT T) V := by
    refine ⟨by rw [← hN]; exact v5, ?_, ?_, ?_, v6, by rw [← hN, ← hP]; exact v7, fun j n hj => ?_, by dsimp only; omega, by dsimp only; omega⟩
    · rw [← hN]; exact (vo (h + 1) (by omega)).trans Yu
    · exact (vo (g + 3) (by omega)).trans (Y3.trans (by rw [O3e]; rfl))
    · exact (vo (g + 4) (by omega)).trans (Y4.trans (by rw [O4e]))
    · obtain ⟨b', o', e1, e2, e3⟩ := HL.out.at hj
      cases e1
      exact e3.below vB (by omega)
  have hM : Mk h (g + 1) g h (g + 1 + 1) N s (fun _ _ => false) [] V := by
    refine ⟨by omega, ?_, ⟨List.replicate (2 * N) (.slice none 0 0), by simp, ?_, fun q v hv => .inl ⟨?_, fun _ => rfl⟩, fun q r bb n c m d h1 _ => ?_⟩, ?_, ⟨.slice none 0 0, ?_, World.ownsRow_nil _ _ _ _⟩, fun _ _ h => Bool.noConfusion h, ?_, by omega⟩
    · refine (vo _ (by omega)).trans (Y1.trans ?_)
      rw [O1e, hD]
    · refine (vo _ (by omega)).trans (YX.trans ?_)
      rw [X0e, hD]
      have : madeCells #[Value.slice none 0 0] (2 * N) = ⟨List.replicate (2 * N) (.slice none 0 0)⟩ := by
        apply Array.ext'
        rw [toList_madeCells_one]
      rw [this]
    · have := List.mem_of_getElem? hv
      exact (List.mem_replicate.1 this).2
    · have := (List.mem_replicate.1 (List.mem_of_getElem? h1)).2
      cases this
    · exact (vo _ (by omega)).trans Ys
    · exact (vo _ (by omega)).trans (Y2.trans (by rw [O2e]))
    · rw [free_none]; simp
  refine bodyPost_ret (results_tmp rfl _ _ _) rfl ⟨{ B := h, br := g + 1, bR := g, bs := h, bf := g + 1 + 1, bw := g + 5, bu := h + 1, bm := g + 3, bn := g + 4, bp := g + 6, bl := g + 7, bt := b, o := o, cap := cap }, hh, rfl, Nat.le_refl _, ?_, rfl, ?_, ?_⟩
  · rw [← hh]; rw [hV] at vB; exact vB
  · rw [hV] at hE; exact hE
  · rw [hV] at hM; exact hM
end Go.Proofs.Ytkgpnlldlekcbaa
