/- Packed texts: MbFrom, MaReachF, MaRepeat. What each of them proves stands above its theorems; the conditions stand in these. -/
import Derived.Deep.LoopGhost
import Derived.Laws.AppendOwnNone
import Derived.Laws.CopyOwn
import Derived.Test.YtgffmbdbjbhocaaShelf
import Derived.WalkMore
import Derived.Test.YtgffmbdbjbhocaaP3
import Derived.Test.YtgffmbdbjbhocaaP6
namespace Go.Proofs.Ytgffmbdbjbhocaa
open Go.RowKit Go.Lib
attribute [local go_sem] Oper.semAt_some

theorem Try.infoStt : (Try.prog.info? 157).map (fun i => (i.zero, i.size, i.bytes)) = some (some (.agg #[.int .i64 0, .bool false, .int .i64 0]), 3, 24) := by kernel_rfl
theorem Try.infoB2 : (Try.prog.info? 159).map (fun i => (i.zero, i.size, i.bytes)) = some (some (.agg #[.bool false, .bool false]), 2, 2) := by kernel_rfl
theorem sttC_append (a b : List Stt) : sttC (a ++ b) = sttC a ++ sttC b := List.flatMap_append
theorem sttC_length (a : List Stt) : (sttC a).length = a.length * 3 := by
  induction a with
  | nil => rfl
  | cons x a ih =>
    rw [show sttC (x :: a) = [.int .i64 (x.1 : Int), .bool x.2.1, .int .i64 (x.2.2 : Int)] ++ sttC a from rfl, List.length_append, ih]
    simp
    omega
theorem sttC_one (L : List Stt) : ∀ u ∈ sttC L, u.oneCell' = true := by
  intro u hu
  obtain ⟨x, _, hx⟩ := List.mem_flatMap.1 hu
  simp at hx
  rcases hx with rfl | rfl | rfl <;> rfl
open Classical in
noncomputable def stB (s : List UInt8) (T : Tr) (a b : Nat) : Bool := decide (St s T a b)
theorem stB_iff {s : List UInt8} {T : Tr} {a b : Nat} : stB s T a b = true ↔ St s T a b := @decide_eq_true_iff _ (Classical.propDecidable _)
/-- The search's memory. -/
structure FrS (s : List UInt8) (ts : List Nd) (up : Nat → Nat) (a N n ho hs : Nat) (w : World) (v : Value) (M : Nat → Nat → Bool) (F : List Stt) (T : Nat → Bool) (k : Nat) (W : World) : Prop where
  out : W.heap[ho]? = some (.cells ⟨rowC n T⟩ 4 (0, 0))
  seen : W.heap[hs]? = some (.cells ⟨seenC N n M⟩ 159 (0, 0))
  wait : W.ownsRow w.heap.size 157 3 v F.length (sttC F)
  low : Below w.heap.size w W
  hB : w.heap.size ≤ ho ∧ w.heap.size ≤ hs
  inv : FInv s ts up (N - 1) a M F
  outs : ∀ p, T p = M (2 * (N - 1) + 1) p
  inb : ∀ x ∈ F, x.1 < N ∧ x.2.2 ≤ n
  cnt : F.length + 3 * free M n N ≤ k
  top : k ≤ 3 * (2 * N * (n + 1)) + 1
theorem FrS.B_le {s : List UInt8} {ts : List Nd} {up : Nat → Nat} {a N n ho hs : Nat} {w : World} {v : Value} {M : Nat → Nat → Bool} {F : List Stt} {T : Nat → Bool} {k : Nat} {W : World} (h : FrS s ts up a N n ho hs w v M F T k W) : w.heap.size ≤ W.heap.size := h.low.size
theorem FrS.alloc {s : List UInt8} {ts : List Nd} {up : Nat → Nat} {a N n ho hs : Nat} {w : World} {v : Value} {M : Nat → Nat → Bool} {F : List Stt} {T : Nat → Bool} {k : Nat} {W : World} (h : FrS s ts up a N n ho hs w v M F T k W) (o : Obj) : FrS s ts up a N n ho hs w v M F T k (W.alloc o) :=
  ⟨(Below.heap_alloc _ _ _ (block_lt h.out)).trans h.out, (Below.heap_alloc _ _ _ (block_lt h.seen)).trans h.seen, owns_alloc h.wait, h.low.alloc h.B_le _, h.hB, h.inv, h.outs, h.inb, h.cnt, h.top⟩
theorem split_last {α : Type} (l : List α) (m : Nat) (h : l.length = m + 1) : ∃ F x, l = F ++ [x] ∧ F.length = m := by
  have hne : l ≠ [] := by intro e; subst e; cases h
  exact ⟨l.dropLast, l.getLast hne, (List.dropLast_concat_getLast hne).symm, by rw [List.length_dropLast]; omega⟩
theorem owns_kind {w : World} {B n size : Nat} {e t : TypeId} {v : Value} {xs : List Value} {g : Nat} {cs : Array Value} {fz : Nat × Nat} (h : w.ownsRow B e size v n xs) (hg : w.heap[g]? = some (.cells cs t fz)) (hne : t ≠ e) : v.ownBlock ≠ some g := by
  intro e0
  rcases h.2 with ⟨hv, _⟩ | ⟨g', cap, cur, hv, _, hh, _⟩
  · rw [hv] at e0; cases e0
  · rw [hv] at e0
    cases e0
    rw [hg] at hh
    injection hh with hh
    injection hh with _ hh _
    exact hne hh
/-- The last state that waits, cell by cell. -/
theorem wait_last {w : World} {B m : Nat} {v : Value} {F : List Stt} {r p : Nat} {e : Bool} (h : w.ownsRow B 157 3 v (m + 1) (sttC (F ++ [(r, e, p)]))) (hF : F.length = m) :
    ∃ gb cap, v = .slice (some ⟨gb, 0, none⟩) (m + 1) cap ∧ m + 1 ≤ cap ∧ cap ≤ maxLen ∧ w.cell? ⟨gb, m * 3, none⟩ = some (.int .i64 (r : Int)) ∧ w.cell? ⟨gb, m * 3 + 1, none⟩ = some (.bool e) ∧ w.cell? ⟨gb, m * 3 + 2, none⟩ = some (.int .i64 (p : Int)) ∧
      w.ownsRow B 157 3 (.slice (some ⟨gb, 0, none⟩) m cap) m (sttC F) := by
  obtain ⟨gb, cap, rfl⟩ := owned_slice h (by omega)
  have ht := owns_take2 h (r := m) (by omega)
  rw [sttC_append, List.take_append_of_le_length (by rw [sttC_length, hF]; omega), List.take_of_length_le (by rw [sttC_length, hF]; omega)] at ht
  obtain ⟨cur, hg, htk, hc, hm⟩ : ∃ cur : Array Value, w.heap[gb]? = some (.cells cur 157 (0, 0)) ∧ cur.toList.take ((m + 1) * 3) = sttC (F ++ [(r, e, p)]) ∧ m + 1 ≤ cap ∧ cap ≤ maxLen := by
    rcases h.2 with ⟨h, _⟩ | ⟨g', cap', cur, h, _, hg, hc, hm, _, htk⟩
    · cases h
    · cases h; exact ⟨cur, hg, htk, hc, hm⟩
  have get : ∀ i u, i < 3 → ([Value.int .i64 (r : Int), .bool e, .int .i64 (p : Int)])[i]? = some u → w.cell? ⟨gb, m * 3 + i, none⟩ = some u := fun i u hi hu => by
    rw [cell_of_heap hg]
    have h : cur.toList[m * 3 + i]? = (cur.toList.take ((m + 1) * 3))[m * 3 + i]? := (List.getElem?_take_of_lt (by omega)).symm
    rw [htk, sttC_append, List.getElem?_append_right (by rw [sttC_length]; omega), sttC_length, hF, show m * 3 + i - m * 3 = i by omega] at h
    have e1 : sttC [(r, e, p)] = [Value.int .i64 (r : Int), .bool e, .int .i64 (p : Int)] := rfl
    rw [e1, hu] at h
    simpa using h
  exact ⟨gb, cap, rfl, hc, hm, get 0 _ (by omega) rfl, get 1 _ (by omega) rfl, get 2 _ (by omega) rfl, ht⟩

/-- What comes out of a search. -/
def From1 (s : List UInt8) (T : Tr) (a : Nat) (w : World) (e : Ending) (w' : World) : Prop :=
  ∃ ho, w.heap.size ≤ ho ∧ e = .returned (.slice (some ⟨ho, 0, none⟩) (s.length + 1) (s.length + 1)) ∧ w'.heap[ho]? = some (.cells ⟨rowC s.length (stB s T a)⟩ 4 (0, 0)) ∧ Below w.heap.size w w'

theorem nextS_inb {s : List UInt8} {ts : List Nd} {up : Nat → Nat} {T : Tr} (hT : Tree ts up T) (x : Stt) (hx : x.1 < ts.length) (hp : x.2.2 ≤ s.length) : ∀ y ∈ nextS s ts up x, y.1 < ts.length ∧ y.2.2 ≤ s.length := by
  intro y hy
  have hg := (nextS_gate (s := s) hT x hx (gateS y)).1 (List.mem_map_of_mem hy)
  have key : (gateS y).1 < 2 * ts.length ∧ (gateS y).2 ≤ s.length := by
    obtain ⟨r, e, p⟩ := x
    dsimp only at hx hp
    cases e
    · obtain ⟨n, hn⟩ : ∃ n, ts[r]? = some n := ⟨ts[r], List.getElem?_eq_getElem hx⟩
      have e2 : gateS (r, false, p) = (2 * r, p) := rfl
      rw [e2, next_even false s up p hn] at hg
      exact enter_inb (hT.fit hn) hx hp _ hg
    · have e2 : gateS (r, true, p) = (2 * r + 1, p) := rfl
      rw [e2] at hg
      by_cases hr : r + 1 = ts.length
      · rw [next_top false s up p hr] at hg
        simp at hg
      · obtain ⟨n, hn, _, hu⟩ := hT.parent (r := r) (by omega)
        rw [next_odd false s p (by omega) hn] at hg
        exact leave_inb (hT.fit hn) hx hu hp _ hg
  unfold gateS at key
  dsimp only at key
  exact ⟨by have := key.1; split at this <;> omega, key.2⟩
/-- Behind a round that marks. -/
theorem frs_put {s : List UInt8} {ts : List Nd} {up : Nat → Nat} {Tt : Tr} {a N n ho hs m k : Nat} {w wr W : World} {v v' : Value} {M : Nat → Nat → Bool} {F0 : List Stt} {x : Stt} {T T' : Nat → Bool} (hT : Tree ts up Tt) (hN : N = ts.length) (hn : n = s.length) (_hNp : 0 < N) (hm : F0.length = m)
    (hR : FrS s ts up a N n ho hs w v M (F0 ++ [x]) T k wr) (hM : M (gateS x).1 (gateS x).2 = false) (L : List Stt) (hL : L = nextS s ts up x) (hT' : ∀ q, T' q = if (gateS x).1 = 2 * (N - 1) + 1 ∧ q = (gateS x).2 then true else T q)
    (out : W.heap[ho]? = some (.cells ⟨rowC n T'⟩ 4 (0, 0))) (seen : W.heap[hs]? = some (.cells ⟨seenC N n (setM M (gateS x).1 (gateS x).2)⟩ 159 (0, 0))) (wait : W.ownsRow w.heap.size 157 3 v' (m + L.length) (sttC F0 ++ sttC L)) (low : Below w.heap.size w W) :
    FrS s ts up a N n ho hs w v' (setM M (gateS x).1 (gateS x).2) (F0 ++ L) T' (m + L.length + 3 * free (setM M (gateS x).1 (gateS x).2) n N) W := by
  have hx := hR.inb x (List.mem_append_right _ (List.mem_singleton.2 rfl))
  have hl : (F0 ++ L).length = m + L.length := by rw [List.length_append, hm]
  have hl2 : L.length ≤ 2 := by rw [hL]; exact nextS_len s ts up x
  have hf := free_set M n N (gateS x).1 (gateS x).2 (by unfold gateS; dsimp only; split <;> omega) hx.2 hM
  refine ⟨out, seen, by rw [hl, sttC_append]; exact wait, low, hR.hB, ?_, fun q => ?_, fun y hy => ?_, by rw [hl]; exact Nat.le_refl _, ?_⟩
  · refine hR.inv.mark fun q => ?_
    rw [hL]
    exact nextS_gate hT x (by rw [← hN]; exact hx.1) q
  · rw [hT' q, hR.outs q]
    unfold setM
    by_cases h : (gateS x).1 = 2 * (N - 1) + 1 ∧ q = (gateS x).2
    · rw [if_pos h, if_pos ⟨h.1.symm, h.2⟩]
    · rw [if_neg h, if_neg (fun h2 => h ⟨h2.1.symm, h2.2⟩)]
  · rcases List.mem_append.1 hy with hy | hy
    · exact hR.inb y (List.mem_append_left _ hy)
    · rw [hL] at hy
      rw [hN, hn]
      exact nextS_inb hT x (by rw [← hN]; exact hx.1) (by rw [← hn]; exact hx.2) y hy
  · have h1 := hR.cnt
    have h2 := hR.top
    rw [List.length_append, hm, hf] at h1
    simp only [List.length_singleton] at h1
    omega
theorem mk_two (D : Nat) (hD : D ≤ 100000000000) (w : World) : (Instr.makeSlice 155 (.int .i64 (D : Int)) (.int .i64 (D : Int))).run Try.prog w = .ok (.slice (some ⟨w.heap.size, 0, none⟩) D D) (w.alloc (.cells (madeCells #[.bool false, .bool false] (D * 2)) 159)) := by
  obtain ⟨i, hi, hzz⟩ := Option.map_eq_some_iff.1 Try.infoB2
  simp only [Prod.mk.injEq] at hzz
  obtain ⟨hz, hs, hb⟩ := hzz
  have hb' : (i.bytes : Int) * (D : Int) ≤ 281474976710656 := by rw [hb]; omega
  have hr := run_make (P := Try.prog) w 155 159 i _ Try.underlying155 hi hz .i64 .i64 (D : Int) (D : Int) (by omega) (Int.le_refl _) hb' (by omega)
  have hc : (Value.agg #[.bool false, .bool false]).cells = #[.bool false, .bool false] := by simp [Value.cells]
  rw [hc, hs, Int.toNat_natCast] at hr
  exact hr
set_option maxHeartbeats 8000000 in
set_option maxRecDepth 100000 in
theorem from1_walk (b o cap a : Nat) (T : Tr) (ts : List Nd) (s : ByteArray) (w : World) (hts : ts = T.row 0) (hok : T.ok) (hsz : ts.length ≤ 2000) (hs : s.size ≤ 1000000) (ha : a ≤ s.size) (hL : Lies (.slice (some ⟨b, o, none⟩) ts.length cap) ts w) :
    Calls Try.prog 101 #[.slice (some ⟨b, o, none⟩) ts.length cap, .string s, .int .i64 (a : Int)] w fun e w' => From1 s.data.toList T a w e w' := by
  have hlen : s.data.toList.length = s.size := Array.length_toList
  have hT : Tree ts (upT T) T := by rw [hts]; exact tree_of T hok
  have hNp : 0 < ts.length := by rw [hts, Tr.row_length]; exact T.size_pos
  have hbw : b < w.heap.size := by
    obtain ⟨b', o', h1, h2, _⟩ := hL.at (List.getElem?_eq_getElem hNp)
    cases h1
    exact h2
  obtain ⟨N, hN⟩ : ∃ N, N = ts.length := ⟨_, rfl⟩
  obtain ⟨n, hn⟩ : ∃ n, n = s.size := ⟨_, rfl⟩
  obtain ⟨n1, hn1⟩ : ∃ n1, n1 = n + 1 := ⟨_, rfl⟩
  obtain ⟨D, hD⟩ : ∃ D, D = N * n1 := ⟨_, rfl⟩
  rw [← hN] at hL hNp hsz ⊢
  have hDb : D ≤ 2000 * 1000001 := by rw [hD]; exact Nat.mul_le_mul hsz (by omega)
  have hNw : IntKind.i64.wrap ((s.size : Int) + 1) = (n1 : Int) := by rw [IntWalk.i64_in _ (by omega)]; omega
  have e1 : (N : Int) * (n1 : Int) = (D : Int) := by rw [hD]; exact (Int.natCast_mul _ _).symm
  obtain ⟨P, hP⟩ : ∃ P, P = N - 1 := ⟨_, rfl⟩
  have hN1 : IntKind.i64.wrap ((N : Int) - 1) = (P : Int) := by rw [IntWalk.i64_in _ (by omega)]; omega
  have kmk := fun (w : World) => run_make_row' (P := Try.prog) 46 4 (.bool false) 1 Try.underlying46 Try.infoBool rfl .i64 .i64 n1 (by omega) (by omega) w
  have kmk2 := fun w => mk_two D (by omega) w
  obtain ⟨X0, hX0⟩ : ∃ X0, X0 = Obj.cells (madeCells #[.bool false] n1) 4 := ⟨_, rfl⟩
  rw [← hX0] at kmk
  obtain ⟨X1, hX1⟩ : ∃ X1, X1 = Obj.cells (madeCells #[.bool false, .bool false] (D * 2)) 159 := ⟨_, rfl⟩
  rw [← hX1] at kmk2
  obtain ⟨h, hh⟩ : ∃ h, h = w.heap.size := ⟨_, rfl⟩
  have H := Lib.hid (And.intro hN (And.intro hn (And.intro hn1 (And.intro hD (And.intro hX0 (And.intro hX1 (And.intro hh hP)))))))
  have HT := Lib.hid (And.intro hT (And.intro hL (And.intro hlen hbw)))
  clear hN hn hn1 hD hX0 hX1 hh hP hT hL hlen hbw e1 hts hok
  have hDw : wrap64 ((N : Int) * (n1 : Int)) = (D : Int) := by rw [H.out.2.2.2.1, Int.natCast_mul]; exact IntWalk.wrap64_in _ ⟨by rw [← Int.natCast_mul, ← H.out.2.2.2.1]; omega, by rw [← Int.natCast_mul, ← H.out.2.2.2.1]; omega⟩
  go_enter Try.func101, Try.ntmps101
  go_upto_block 0 with (fail)
  have hzH := H.out.2.2.2.2.2.2.1
  rw [← hzH]
  obtain ⟨W0, hW0⟩ : ∃ W0, W0 = ((w.alloc X0).alloc X1).alloc (.cells #[.int .i64 (P : Int), .bool false, .int .i64 (a : Int)] 157) := ⟨_, rfl⟩
  rw [← hW0]
  have HS : Hid (∃ M F T', 1 = F.length ∧ FrS s.data.toList ts (upT T) a N n h (h + 1) w (.slice (some ⟨h + 1 + 1, 0, none⟩) 1 1) M F T' (3 * (2 * N * (n + 1)) + 1) W0) := by
    obtain ⟨hN, hn, hn1, hD, hX0, hX1, hh, hP⟩ := H.out
    have z1 : (w.alloc X0).heap.size = h + 1 := by rw [hh]; simp
    have z2 : ((w.alloc X0).alloc X1).heap.size = h + 2 := by rw [hh]; simp
    refine ⟨fun _ _ => false, [(P, false, a)], fun _ => false, rfl, ?_, ?_, ?_, ?_, by omega, ?_, fun _ => rfl, ?_, ?_, Nat.le_refl _⟩
    · rw [hW0]
      refine (Below.heap_alloc _ _ _ (by omega)).trans ((Below.heap_alloc _ _ _ (by omega)).trans ?_)
      rw [hh, heap_alloc_new, hX0, hn1, rowC_made]
    · rw [hW0]
      refine (Below.heap_alloc _ _ _ (by omega)).trans ?_
      rw [← z1, heap_alloc_new, hX1, hD, hn1, seenC_made]
    · rw [hW0, hh]
      have h3 := heap_alloc_new ((w.alloc X0).alloc X1) (.cells #[.int .i64 (P : Int), .bool false, .int .i64 (a : Int)] 157)
      rw [z2, hh] at h3
      refine ⟨rfl, .inr ⟨w.heap.size + 1 + 1, 1, #[.int .i64 (P : Int), .bool false, .int .i64 (a : Int)], rfl, by omega, h3, Nat.le_refl _, by unfold maxLen; omega, rfl, rfl⟩⟩
    · rw [hW0]
      exact (((Below.refl _ w).alloc (Nat.le_refl _) _).alloc (by omega) _).alloc (by omega) _
    · rw [← hP]; exact FInv.start
    · intro x hx
      rw [List.mem_singleton.1 hx]
      exact ⟨by dsimp only; omega, by dsimp only; omega⟩
    · rw [free_none]
      show 1 + _ ≤ _
      omega
  clear hW0 hDw hzH kmk kmk2 hN1
  go_wp2
  go_loopg [9] (3 * (2 * N * (n + 1)) + 1) (fun k v9 wr => ∃ (m : Nat) (ao : Option Addr) (cap' : Nat), v9 = .slice ao m cap' ∧ Hid (∃ M F T', m = F.length ∧ FrS s.data.toList ts (upT T) a N n h (h + 1) w (.slice ao m cap') M F T' k wr))
  case atStart => exact ⟨1, _, _, rfl, HS.out⟩
  case round =>
    obtain ⟨m, ao, cap', rfl, HR⟩ := hrel
    cases m with
    | zero =>
      go_wp2
      obtain ⟨M, F, T', hF, hR⟩ := HR.out
      have hF : F = [] := List.eq_nil_of_length_eq_zero hF.symm
      subst hF
      obtain ⟨hN, hn, hn1, hD, hX0, hX1, hh, hP⟩ := H.out
      obtain ⟨hT, hL, hlen, hbw⟩ := HT.out
      refine bodyPost_ret (results_tmp rfl _ _ _) rfl ⟨h, by omega, by rw [hlen, ← hn, ← hn1]; rfl, ?_, hR.low⟩
      rw [hR.out, hlen, ← hn]
      have e : T' = stB s.data.toList T a := by
        funext p
        rw [hR.outs p, Bool.eq_iff_iff, stB_iff]
        exact hR.inv.done hT (by omega) p
      rw [e]
    | succ m =>
      obtain ⟨M, F, T', hF, hR⟩ := HR.out
      obtain ⟨F0, ⟨r, e, p⟩, rfl, hF0⟩ := split_last F m hF.symm
      have hown := hR.wait
      rw [← hF] at hown
      obtain ⟨gb, cap2, hv, hc1, hc2, c0, c1, c2, htake⟩ := wait_last hown hF0
      cases hv
      obtain ⟨hr, hp⟩ := hR.inb (r, e, p) (List.mem_append_right _ (List.mem_singleton.2 rfl))
      dsimp only at hr hp
      obtain ⟨hN, hn, hn1, hD, hX0, hX1, hh, hP⟩ := H.out
      obtain ⟨R, hRr⟩ : ∃ R, R = r * n1 := ⟨_, rfl⟩
      obtain ⟨Q, hQq⟩ : ∃ Q, Q = R + p := ⟨_, rfl⟩
      have hQD : Q < D := by rw [hQq, hRr, hD, hn1]; exact row_lt hr hp
      obtain ⟨w8, hw8⟩ : ∃ w8 : Nat, w8 = (if e = true then 1 else 0) := ⟨_, rfl⟩
      have hsc : wr.cell? ⟨h + 1, Q * 2 + w8, none⟩ = some (.bool (M (gateS (r, e, p)).1 (gateS (r, e, p)).2)) := by
        rw [cell_of_heap hR.seen, hQq, hRr, hn1]
        have := seenC_get N n r p w8 M hr hp (by rw [hw8]; split <;> omega)
        rw [hw8] at this ⊢
        simpa [gateS] using this
      have hsc : (wr.alloc (.cells #[.int .i64 (r : Int), .bool e, .int .i64 (p : Int)] 157)).cell? ⟨h + 1, Q * 2 + w8, none⟩ = some (.bool (M (gateS (r, e, p)).1 (gateS (r, e, p)).2)) := (World.cell?_alloc_some wr _ _ (by rw [hsc]; rfl)).trans hsc
      have hsf : (wr.alloc (.cells #[.int .i64 (r : Int), .bool e, .int .i64 (p : Int)] 157)).frozen? ⟨h + 1, Q * 2 + w8, none⟩ = false := frozen_of_heap ((Below.heap_alloc _ _ _ (block_lt hR.seen)).trans hR.seen) _
      have hmb : m + 1 ≤ 3 * (2 * N * (n + 1)) + 1 := by
        have h1 := hR.cnt
        have h2 := hR.top
        rw [← hF] at h1
        omega
      have hmb2 : m + 1 ≤ 12012000001 := by
        have : 2 * N * (n + 1) ≤ 2 * 2000 * 1000001 := Nat.mul_le_mul (by omega) (by omega)
        omega
      have hRb : R ≤ D := by omega
      have hdec : ∀ {y : Nat}, True := trivial
      have HQ := Lib.hid (And.intro hRr (And.intro hQq (And.intro hw8 (And.intro hF hF0))))
      have HRR := Lib.hid (And.intro hR (And.intro htake hown))
      have hRI : (R : Int) + (p : Int) = (Q : Int) := by omega
      have hQI : (Q : Int) < (D : Int) := by omega
      have m0 : (0 : Int) ≤ (m : Int) := by omega
      obtain ⟨M1, hM1⟩ : ∃ M1, M1 = m + 1 := ⟨_, rfl⟩
      have hMw : IntKind.i64.wrap ((M1 : Int) - 1) = (m : Int) := by rw [IntWalk.i64_in _ (by omega)]; omega
      have hM0 : (0 : Int) < (M1 : Int) := by omega
      have hmM : (m : Int) < (M1 : Int) := by omega
      have hmc : (m : Int) ≤ (cap' : Int) := by omega
      have hNn : (n1 : Int) = (s.size : Int) + 1 := by omega
      have hRw : IntKind.i64.wrap ((r : Int) * (n1 : Int)) = (R : Int) ∧ wrap64 ((r : Int) * (n1 : Int)) = (R : Int) := by
        have e : (r : Int) * (n1 : Int) = (R : Int) := by rw [hRr]; exact (Int.natCast_mul _ _).symm
        rw [e]
        exact ⟨IntWalk.i64_in _ (by omega), IntWalk.wrap64_in _ ⟨by omega, by omega⟩⟩
      have HN := Lib.hid hNn
      have HRw := Lib.hid hRw
      clear hRw
      rw [← hM1] at hc1 hown hmb2
      have HM1 := Lib.hid hM1
      clear hM1 hNn hdec hF hF0 hR htake hown hRr hQq hw8 hmb hN hn hn1 hD hX0 hX1 hh hP
      obtain ⟨sv, hsv⟩ : ∃ sv, sv = M (gateS (r, e, p)).1 (gateS (r, e, p)).2 := ⟨_, rfl⟩
      rw [← hsv] at hsc
      have HV := Lib.hid hsv
      clear hsv
      cases sv
      case true =>
        cases e
        all_goals
          obtain rfl : w8 = _ := HQ.out.2.2.1
          simp only [Bool.false_eq_true, if_false, if_true, Nat.add_zero] at hsc hsf
          obtain ⟨hRw1, hRw2⟩ := HRw.out
          go_wp2
          go_roundg (m + 3 * free M n N)
          case rel =>
            refine ⟨m, _, _, rfl, M, F0, T', HQ.out.2.2.2.2.symm, ?_⟩
            obtain ⟨hR, htake, hown⟩ := HRR.out
            have hB := hR.B_le
            have hst : FrS s.data.toList ts (upT T) a N n h (h + 1) w (.slice (some ⟨gb, 0, none⟩) m cap') M F0 T' (m + 3 * free M n N) wr := by
              refine ⟨hR.out, hR.seen, by rw [HQ.out.2.2.2.2]; exact htake, hR.low, hR.hB, hR.inv.skip HV.out.symm, hR.outs, fun x hx => hR.inb x (List.mem_append_left _ hx), by rw [HQ.out.2.2.2.2]; exact Nat.le_refl _, ?_⟩
              have h1 := hR.cnt
              have h2 := hR.top
              rw [List.length_append, HQ.out.2.2.2.2] at h1
              simp only [List.length_singleton] at h1
              omega
            exact hst.alloc _
          case measure =>
            have h1 := HRR.out.1.cnt
            rw [List.length_append, HQ.out.2.2.2.2] at h1
            simp only [List.length_singleton] at h1
            omega
      case false =>
        obtain ⟨W2, hW2⟩ : ∃ W2, W2 = (wr.alloc (.cells #[.int .i64 (r : Int), .bool e, .int .i64 (p : Int)] 157)).setCell ⟨h + 1, Q * 2 + w8, none⟩ (.bool true) := ⟨_, rfl⟩
        obtain ⟨G, hG⟩ : ∃ G, G = wr.heap.size := ⟨_, rfl⟩
        have HM : Hid (W2.heap.size = G + 1 ∧ W2.heap[h]? = some (.cells ⟨rowC n T'⟩ 4 (0, 0)) ∧ W2.heap[h + 1]? = some (.cells ⟨seenC N n (setM M (gateS (r, e, p)).1 (gateS (r, e, p)).2)⟩ 159 (0, 0)) ∧
            W2.ownsRow w.heap.size 157 3 (.slice (some ⟨gb, 0, none⟩) m cap') m (sttC F0) ∧ Below w.heap.size w W2 ∧ W2.heap[G]? = some (.cells #[.int .i64 (r : Int), .bool e, .int .i64 (p : Int)] 157 (0, 0))) := by
          obtain ⟨hR, htake, hown⟩ := HRR.out
          have hl1 := block_lt hR.out
          have hl2 := block_lt hR.seen
          have oth : ∀ j, j < G → j ≠ h + 1 → W2.heap[j]? = wr.heap[j]? := fun j hj hne => by
            rw [hW2]
            exact (Below.heap_setCell _ _ _ _ hne).trans (Below.heap_alloc _ _ _ (by omega))
          refine ⟨by rw [hW2, hG]; simp [World.setCell], (oth h (by omega) (by omega)).trans hR.out, ?_, owns_same htake fun g hg => oth g (by rw [hG]; exact own_block_lt htake hg) (fun e0 => owns_kind htake hR.seen (by decide) (by rw [hg, e0])), ?_, ?_⟩
          · have h1 : (wr.alloc (.cells #[.int .i64 (r : Int), .bool e, .int .i64 (p : Int)] 157)).heap[h + 1]? = some (.cells ⟨seenC N n M⟩ 159 (0, 0)) := (Below.heap_alloc _ _ _ hl2).trans hR.seen
            have h2 := heap_setCell_same _ (h + 1) (Q * 2 + w8) _ _ (.bool true) h1
            rw [hW2, h2]
            have h3 := seenC_set N n r p w8 M hr hp (by rw [HQ.out.2.2.1]; split <;> omega)
            have h4 : (gateS (r, e, p)).1 = 2 * r + w8 := by rw [HQ.out.2.2.1]; rfl
            have h5 : Q * 2 + w8 = (r * (n + 1) + p) * 2 + w8 := by rw [HQ.out.2.1, HQ.out.1, H.out.2.2.1]
            rw [h4, show (gateS (r, e, p)).2 = p from rfl, ← h3, h5]
            simp
          · rw [hW2]
            exact (hR.low.alloc hR.B_le _).setCell (p := ⟨h + 1, Q * 2 + w8, none⟩) hR.hB.2 _
          · rw [hW2]
            refine (Below.heap_setCell _ _ _ _ (by dsimp only; omega)).trans ?_
            rw [hG]
            exact heap_alloc_new _ _
        have hq := HM.out.2.2.2.2.2
        have q0 : W2.cell? ⟨G, 0, none⟩ = some (.int .i64 (r : Int)) := by rw [cell_of_heap hq]; rfl
        have q1 : W2.cell? ⟨G, 1, none⟩ = some (.bool e) := by rw [cell_of_heap hq]; rfl
        have q2 : W2.cell? ⟨G, 2, none⟩ = some (.int .i64 (p : Int)) := by rw [cell_of_heap hq]; rfl
        have qo : W2.cell? ⟨h, p, none⟩ = some (.bool (T' p)) := by
          rw [cell_of_heap HM.out.2.1]
          simpa using rowC_get n T' p hp
        have qf : W2.frozen? ⟨h, p, none⟩ = false := frozen_of_heap HM.out.2.1 _
        have hpn : (p : Int) < (n1 : Int) := by have := H.out.2.2.1; omega
        have hLW : Lies (.slice (some ⟨b, o, none⟩) N cap) ts W2 := HT.out.2.1.below HM.out.2.2.2.2.1
        have hNP : IntKind.i64.wrap ((N : Int) - 1) = (P : Int) := by rw [IntWalk.i64_in _ (by omega)]; have := H.out; omega
        have hfr := HRR.out.1.cnt
        have hgt : free M n N = free (setM M (gateS (r, e, p)).1 (gateS (r, e, p)).2) n N + 1 := free_set M n N _ _ (by unfold gateS; dsimp only; split <;> omega) hp HV.out.symm
        rw [List.length_append, HQ.out.2.2.2.2, hgt] at hfr
        simp only [List.length_singleton] at hfr
        have HF := Lib.hid hfr
        have HLW := Lib.hid hLW
        clear hq hfr hgt hLW
        cases e
        case false =>
          obtain rfl : w8 = _ := HQ.out.2.2.1
          simp only [Bool.false_eq_true, if_false, Nat.add_zero] at hsc hsf hW2
          obtain ⟨hRw1, hRw2⟩ := HRw.out
          go_upto_region 13 with (fail)
          rw [← hW2, ← hG]
          clear c0 c1 c2 hsc hsf hW2 hRw1 hRw2 hG qo qf hNP
          obtain ⟨nd, hnd⟩ : ∃ nd, ts[r]? = some nd := ⟨ts[r]'(by have := H.out.1; omega), List.getElem?_eq_getElem _⟩
          obtain ⟨b', o', hbo, hb', hat⟩ := HLW.out.at hnd
          cases hbo
          have hfit := HT.out.1.fit hnd
          rw [← H.out.1] at hfit
          have kw := witS_any b o cap N r p nd s W2 hr hsz (by have := H.out.2.1; omega) hfit hb' hat
          have hLn : nextS s.data.toList ts (upT T) (r, false, p) = witS s.data.toList nd r p := by unfold nextS; simp [hnd]
          obtain ⟨L, hL⟩ : ∃ L, L = witS s.data.toList nd r p := ⟨_, rfl⟩
          rw [← hL] at kw hLn
          have HLn := Lib.hid hLn.symm
          clear hfit hat hb' hL hLn hnd
          have hnt : ∀ q, T' q = if (gateS (r, false, p)).1 = 2 * (N - 1) + 1 ∧ q = (gateS (r, false, p)).2 then true else T' q := fun q => by
            rw [if_neg]
            rintro ⟨h1, _⟩
            have h1 : 2 * r + 0 = 2 * (N - 1) + 1 := h1
            omega
          have HNT := Lib.hid hnt
          clear hnt
          obtain ⟨i0, hi, hz0, hz1, hz2⟩ := info_parts Try.infoStt
          by_cases hL0 : L = []
          · have kw2 : ∀ w', W2 = w' → Calls Try.prog 129 #[.slice (some ⟨b, o, none⟩) N cap, .string s, .agg #[.int .i64 (r : Int), .bool false, .int .i64 (p : Int)]] w' fun e w' => e = .returned (.slice none 0 0) ∧ Below W2.heap.size W2 w' := fun w' hw => by subst hw; exact kw.mono fun e w' h => h.no hL0
            have kw2 := kw2 W2 rfl
            have HL0 := Lib.hid hL0
            clear kw hL0
            go_wp2_with (first
              | (go_at_call 129; refine kw2.mono ?_; rintro e w3 ⟨rfl, hb3⟩
                 have hown3 : w3.ownsRow w.heap.size 157 3 (.slice (some ⟨gb, 0, none⟩) m cap') m (sttC F0) := owns_same HM.out.2.2.2.1 fun g hg => hb3.block g (own_block_lt HM.out.2.2.2.1 hg)
                 have H3 := Lib.hid (And.intro hown3 hb3)
                 clear hown3 hb3 kw2)
              | (at_builtin; refine wpList_append_own_none rfl (.tmp 87) (.tmp 91) 158 rfl w.heap.size 157 i0 3 Try.underlying158 hi _ m (sttC F0) rfl H3.out.1 rfl ?_)
              | fail)
            go_roundg (m + 3 * free (setM M (gateS (r, false, p)).1 (gateS (r, false, p)).2) n N)
            case rel =>
              refine ⟨m, _, _, rfl, setM M (gateS (r, false, p)).1 (gateS (r, false, p)).2, F0, T', HQ.out.2.2.2.2.symm, ?_⟩
              obtain ⟨k0, k1, k2, k3, k4, _⟩ := HM.out
              obtain ⟨h1, h2⟩ := H3.out
              have hf := frs_put (W := w3) (v' := .slice (some ⟨gb, 0, none⟩) m cap') (T' := T') HT.out.1 H.out.1 (by rw [HT.out.2.2.1]; exact H.out.2.1) hNp HQ.out.2.2.2.2 HRR.out.1 HV.out.symm L HLn.out HNT.out
                ((h2.block h (block_lt k1)).trans k1) ((h2.block (h + 1) (block_lt k2)).trans k2) (by
                  rw [HL0.out, show sttC ([] : List Stt) = [] from rfl, List.append_nil]
                  exact h1) (k4.trans (h2.mono k4.size))
              rw [HL0.out, List.append_nil] at hf
              exact hf
            case measure => have := HF.out; omega
          · obtain ⟨l, hl⟩ : ∃ l, l = L.length := ⟨_, rfl⟩
            have hl2 : 1 ≤ l ∧ l ≤ 2 := by
              have h1 := nextS_len s.data.toList ts (upT T) (r, false, p)
              rw [← HLn.out] at h1
              have h2 := List.length_pos_iff.2 hL0
              omega
            have kw2 : Calls Try.prog 129 #[.slice (some ⟨b, o, none⟩) N cap, .string s, .agg #[.int .i64 (r : Int), .bool false, .int .i64 (p : Int)]] W2 fun e w' => ∃ g, W2.heap.size ≤ g ∧ e = .returned (.slice (some ⟨g, 0, none⟩) l l) ∧ w'.heap[g]? = some (.cells ⟨sttC L⟩ 157 (0, 0)) ∧ Below W2.heap.size W2 w' := kw.mono fun e w' h => by rw [hl]; exact h.some hL0
            have HL0 := Lib.hid hl
            clear kw hL0 hl
            go_wp2_with (first
              | (go_at_call 129; refine kw2.mono ?_; rintro e w3 ⟨g3, hg3, rfl, hc3, hb3⟩
                 have hown3 : w3.ownsRow w.heap.size 157 3 (.slice (some ⟨gb, 0, none⟩) m cap') m (sttC F0) := owns_same HM.out.2.2.2.1 fun g hg => hb3.block g (own_block_lt HM.out.2.2.2.1 hg)
                 have H3 := Lib.hid (And.intro hown3 (And.intro hb3 (And.intro hc3 hg3)))
                 clear hown3 hb3 hc3 hg3 kw2)
              | (at_builtin; refine wpList_append_own _ rfl (.tmp 87) (.tmp 91) 158 rfl w.heap.size 157 i0 (.agg #[.int .i64 0, .bool false, .int .i64 0]) 3 24 Try.underlying158 hi hz0 hz1 hz2 rfl (by decide) _ m (sttC F0) rfl H3.out.1 ⟨g3, 0, none⟩ l l (sttC L) rfl (by rw [sttC_length, HL0.out]) (fun j u hj => by
                   have e : (⟨g3, 0, none⟩ : Addr).add j = ⟨g3, j, none⟩ := by simp [Addr.add]; intro h; exact h.symm
                   rw [e, cell_of_heap H3.out.2.2.1]
                   simpa using hj) (sttC_one L) (by unfold maxLen; omega) (by omega) (Nat.le_trans HM.out.2.2.2.2.1.size H3.out.2.1.size) ?_; intro v4 w4 hown4 hgrow4 _
                 obtain ⟨g4, cap4, rfl⟩ := owned_slice hown4 (by omega)
                 have H4 := Lib.hid (And.intro hown4 hgrow4)
                 clear hown4 hgrow4)
              | fail)
            go_roundg (m + l + 3 * free (setM M (gateS (r, false, p)).1 (gateS (r, false, p)).2) n N)
            case rel =>
              refine ⟨m + l, _, _, rfl, setM M (gateS (r, false, p)).1 (gateS (r, false, p)).2, F0 ++ L, T', by rw [List.length_append, HQ.out.2.2.2.2, HL0.out], ?_⟩
              obtain ⟨k0, k1, k2, k3, k4, _⟩ := HM.out
              obtain ⟨h1, h2, h3, _⟩ := H3.out
              obtain ⟨h4, h5⟩ := H4.out
              have o3 := (h2.block h (block_lt k1)).trans k1
              have s3 := (h2.block (h + 1) (block_lt k2)).trans k2
              have hf := frs_put (W := w4) (v' := .slice (some ⟨g4, 0, none⟩) (m + l) cap4) (T' := T') HT.out.1 H.out.1 (by rw [HT.out.2.2.1]; exact H.out.2.1) hNp HQ.out.2.2.2.2 HRR.out.1 HV.out.symm L HLn.out HNT.out
                ((h5.block h (block_lt o3) (fun e => owns_kind h1 o3 (by decide) e.symm)).trans o3) ((h5.block (h + 1) (block_lt s3) (fun e => owns_kind h1 s3 (by decide) e.symm)).trans s3) (by
                  rw [← HL0.out]
                  exact h4) ((k4.trans (h2.mono k4.size)).grown h5 (Nat.le_trans k4.size h2.size) (fun q hq => own_base h1 hq))
              rw [← HL0.out] at hf
              exact hf
            case measure => have := HF.out; omega
        case true =>
          obtain rfl : w8 = _ := HQ.out.2.2.1
          simp only [if_true] at hsc hsf hW2
          obtain ⟨hRw1, hRw2⟩ := HRw.out
          go_upto_region 13 with (fail)
          rw [← hW2, ← hG]
          clear c0 c1 c2 hsc hsf hW2 hRw1 hRw2 hG
          by_cases hrP : r = P
          · have hrI : ((r : Int) == (P : Int)) = true := by simp; omega
            go_wp2
            go_roundg (m + 3 * free (setM M (gateS (r, true, p)).1 (gateS (r, true, p)).2) n N)
            case rel =>
              refine ⟨m, _, _, rfl, setM M (gateS (r, true, p)).1 (gateS (r, true, p)).2, F0, fun q => if q = p then true else T' q, HQ.out.2.2.2.2.symm, ?_⟩
              obtain ⟨_, k1, k2, k3, k4, _⟩ := HM.out
              have hset : (W2.setCell ⟨h, p, none⟩ (.bool true)).heap[h]? = some (.cells ⟨rowC n (fun q => if q = p then true else T' q)⟩ 4 (0, 0)) := by
                rw [heap_setCell_same W2 h p _ _ (.bool true) k1, ← rowC_set]
                simp
              have hf := frs_put (W := W2.setCell ⟨h, p, none⟩ (.bool true)) (v' := .slice (some ⟨gb, 0, none⟩) m cap') (T' := fun q => if q = p then true else T' q) HT.out.1 H.out.1 (by rw [HT.out.2.2.1]; exact H.out.2.1) hNp HQ.out.2.2.2.2 HRR.out.1 HV.out.symm [] (by
                unfold nextS
                rw [if_pos rfl, if_pos (by have := H.out.1; have := H.out.2.2.2.2.2.2.2; omega)]) (fun q => ?_) hset
                ((Below.heap_setCell _ _ _ _ (by dsimp only; omega)).trans k2)
                (by
                  rw [show sttC ([] : List Stt) = [] from rfl, List.append_nil]
                  exact owns_same k3 fun g hg => Below.heap_setCell _ _ _ _ (fun e0 => owns_kind k3 k1 (by decide) (by rw [hg, e0])))
                (k4.setCell (p := ⟨h, p, none⟩) (by dsimp only; have := HRR.out.1.hB.1; exact this) _)
              · rw [List.append_nil] at hf
                exact hf
              · have hg1 : (gateS (r, true, p)).1 = 2 * (N - 1) + 1 := by have := H.out.2.2.2.2.2.2.2; show 2 * r + 1 = _; omega
                by_cases hqp : q = p
                · show (if q = p then true else T' q) = _
                  rw [if_pos hqp, if_pos ⟨hg1, hqp⟩]
                · show (if q = p then true else T' q) = _
                  rw [if_neg hqp, if_neg (fun h : (gateS (r, true, p)).1 = 2 * (N - 1) + 1 ∧ q = (gateS (r, true, p)).2 => hqp h.2)]
            case measure => have := HF.out; omega
          · have hrI : ((r : Int) == (P : Int)) = false := by rw [beq_eq_false_iff_ne]; omega
            clear qo qf
            have hr1 : r + 1 < ts.length := by have := H.out.1; have := H.out.2.2.2.2.2.2.2; omega
            obtain ⟨nd, hnd, hk, hu⟩ := HT.out.1.parent hr1
            obtain ⟨b', o', hbo, hb', hat⟩ := HLW.out.at hnd
            cases hbo
            obtain ⟨_, X, Y, _, hy, _⟩ := HT.out.1.fit hnd
            obtain ⟨L, hL⟩ : ∃ L, L = beyS nd (upT T r) r p := ⟨_, rfl⟩
            have hLn : nextS s.data.toList ts (upT T) (r, true, p) = L := by rw [hL]; unfold nextS; simp [hnd]; omega
            rw [← H.out.1] at hu
            have kw := beyond_walk b o cap N r (upT T r) p Y nd W2 L hL hu hsz hk hy hb' hat (fun w' hbw => by
              have := refParent_any b o cap r T ts w' HT.out.1 (by rw [← H.out.1]; exact hsz) hr1 (by rw [← H.out.1]; exact HLW.out.below hbw)
              rwa [← H.out.1] at this)
            have HLn := Lib.hid hLn.symm
            have hnt : ∀ q, T' q = if (gateS (r, true, p)).1 = 2 * (N - 1) + 1 ∧ q = (gateS (r, true, p)).2 then true else T' q := fun q => by
              rw [if_neg]
              rintro ⟨h1, _⟩
              have h1 : 2 * r + 1 = 2 * (N - 1) + 1 := h1
              have := H.out.2.2.2.2.2.2.2
              omega
            have HNT := Lib.hid hnt
            obtain ⟨i0, hi, hz0, hz1, hz2⟩ := info_parts Try.infoStt
            clear hnt hat hb' hL hLn hnd hk hu hy hr1
            by_cases hL0 : L = []
            · have kw2 : ∀ w', W2 = w' → Calls Try.prog 128 #[.slice (some ⟨b, o, none⟩) N cap, .agg #[.int .i64 (r : Int), .bool true, .int .i64 (p : Int)]] w' fun e w' => e = .returned (.slice none 0 0) ∧ Below W2.heap.size W2 w' := fun w' hw => by subst hw; exact kw.mono fun e w' h => h.no hL0
              have kw2 := kw2 W2 rfl
              have HL0 := Lib.hid hL0
              clear kw hL0
              go_wp2_with (first
                | (go_at_call 128; refine kw2.mono ?_; rintro e w3 ⟨rfl, hb3⟩
                   have hown3 : w3.ownsRow w.heap.size 157 3 (.slice (some ⟨gb, 0, none⟩) m cap') m (sttC F0) := owns_same HM.out.2.2.2.1 fun g hg => hb3.block g (own_block_lt HM.out.2.2.2.1 hg)
                   have H3 := Lib.hid (And.intro hown3 hb3)
                   clear hown3 hb3 kw2)
                | (at_builtin; refine wpList_append_own_none rfl (.tmp 82) (.tmp 85) 158 rfl w.heap.size 157 i0 3 Try.underlying158 hi _ m (sttC F0) rfl H3.out.1 rfl ?_)
                | fail)
              go_roundg (m + 3 * free (setM M (gateS (r, true, p)).1 (gateS (r, true, p)).2) n N)
              case rel =>
                refine ⟨m, _, _, rfl, setM M (gateS (r, true, p)).1 (gateS (r, true, p)).2, F0, T', HQ.out.2.2.2.2.symm, ?_⟩
                obtain ⟨k0, k1, k2, k3, k4, _⟩ := HM.out
                obtain ⟨h1, h2⟩ := H3.out
                have hf := frs_put (W := w3) (v' := .slice (some ⟨gb, 0, none⟩) m cap') (T' := T') HT.out.1 H.out.1 (by rw [HT.out.2.2.1]; exact H.out.2.1) hNp HQ.out.2.2.2.2 HRR.out.1 HV.out.symm L HLn.out HNT.out
                  ((h2.block h (block_lt k1)).trans k1) ((h2.block (h + 1) (block_lt k2)).trans k2) (by
                    rw [HL0.out, show sttC ([] : List Stt) = [] from rfl, List.append_nil]
                    exact h1) (k4.trans (h2.mono k4.size))
                rw [HL0.out, List.append_nil] at hf
                exact hf
              case measure => have := HF.out; omega
            · obtain ⟨l, hl⟩ : ∃ l, l = L.length := ⟨_, rfl⟩
              have hl2 : 1 ≤ l ∧ l ≤ 2 := by
                have h1 := nextS_len s.data.toList ts (upT T) (r, true, p)
                rw [← HLn.out] at h1
                have h2 := List.length_pos_iff.2 hL0
                omega
              have kw2 : Calls Try.prog 128 #[.slice (some ⟨b, o, none⟩) N cap, .agg #[.int .i64 (r : Int), .bool true, .int .i64 (p : Int)]] W2 fun e w' => ∃ g, W2.heap.size ≤ g ∧ e = .returned (.slice (some ⟨g, 0, none⟩) l l) ∧ w'.heap[g]? = some (.cells ⟨sttC L⟩ 157 (0, 0)) ∧ Below W2.heap.size W2 w' := kw.mono fun e w' h => by rw [hl]; exact h.some hL0
              have HL0 := Lib.hid hl
              clear kw hL0 hl
              go_wp2_with (first
                | (go_at_call 128; refine kw2.mono ?_; rintro e w3 ⟨g3, hg3, rfl, hc3, hb3⟩
                   have hown3 : w3.ownsRow w.heap.size 157 3 (.slice (some ⟨gb, 0, none⟩) m cap') m (sttC F0) := owns_same HM.out.2.2.2.1 fun g hg => hb3.block g (own_block_lt HM.out.2.2.2.1 hg)
                   have H3 := Lib.hid (And.intro hown3 (And.intro hb3 (And.intro hc3 hg3)))
                   clear hown3 hb3 hc3 hg3 kw2)
                | (at_builtin; refine wpList_append_own _ rfl (.tmp 82) (.tmp 85) 158 rfl w.heap.size 157 i0 (.agg #[.int .i64 0, .bool false, .int .i64 0]) 3 24 Try.underlying158 hi hz0 hz1 hz2 rfl (by decide) _ m (sttC F0) rfl H3.out.1 ⟨g3, 0, none⟩ l l (sttC L) rfl (by rw [sttC_length, HL0.out]) (fun j u hj => by
                     have e : (⟨g3, 0, none⟩ : Addr).add j = ⟨g3, j, none⟩ := by simp [Addr.add]; intro h; exact h.symm
                     rw [e, cell_of_heap H3.out.2.2.1]
                     simpa using hj) (sttC_one L) (by unfold maxLen; omega) (by omega) (Nat.le_trans HM.out.2.2.2.2.1.size H3.out.2.1.size) ?_; intro v4 w4 hown4 hgrow4 _
                   obtain ⟨g4, cap4, rfl⟩ := owned_slice hown4 (by omega)
                   have H4 := Lib.hid (And.intro hown4 hgrow4)
                   clear hown4 hgrow4)
                | fail)
              go_roundg (m + l + 3 * free (setM M (gateS (r, true, p)).1 (gateS (r, true, p)).2) n N)
              case rel =>
                refine ⟨m + l, _, _, rfl, setM M (gateS (r, true, p)).1 (gateS (r, true, p)).2, F0 ++ L, T', by rw [List.length_append, HQ.out.2.2.2.2, HL0.out], ?_⟩
                obtain ⟨k0, k1, k2, k3, k4, _⟩ := HM.out
                obtain ⟨h1, h2, h3, _⟩ := H3.out
                obtain ⟨h4, h5⟩ := H4.out
                have o3 := (h2.block h (block_lt k1)).trans k1
                have s3 := (h2.block (h + 1) (block_lt k2)).trans k2
                have hf := frs_put (W := w4) (v' := .slice (some ⟨g4, 0, none⟩) (m + l) cap4) (T' := T') HT.out.1 H.out.1 (by rw [HT.out.2.2.1]; exact H.out.2.1) hNp HQ.out.2.2.2.2 HRR.out.1 HV.out.symm L HLn.out HNT.out
                  ((h5.block h (block_lt o3) (fun e => owns_kind h1 o3 (by decide) e.symm)).trans o3) ((h5.block (h + 1) (block_lt s3) (fun e => owns_kind h1 s3 (by decide) e.symm)).trans s3) (by
                    rw [← HL0.out]
                    exact h4) ((k4.trans (h2.mono k4.size)).grown h5 (Nat.le_trans k4.size h2.size) (fun q hq => own_base h1 hq))
                rw [← HL0.out] at hf
                exact hf
              case measure => have := HF.out; omega
end Go.Proofs.Ytgffmbdbjbhocaa
namespace Go.Proofs.Ytgffmbdbjbhocaa
open Go.RowKit Go.Lib

set_option maxHeartbeats 8000000 in
set_option maxRecDepth 20000 in
theorem reach_far (c : Cf) (s : ByteArray) (bk : Bool) (ts : List Nd) (up : Nat → Nat) (T : Tr) (hT : Tree ts up T) (J : (Nat → Bool) → World → Prop) (b1 b2 : Nat) (hbs : c.B ≤ c.bs)
    (hJk : ∀ D w w', J D w → Kept c.B w w' → J D w')
    (hJt : ∀ D p w, J D w → p ≤ s.size → Calls Try.prog 127 #[.int .i64 (p : Int), .pointer (some ⟨b1, 0, none⟩), .pointer (some ⟨b2, 0, none⟩)] w fun e w' => e = .returned (.tuple #[]) ∧ J (setT D p) w' ∧ ∀ j, (c.B ≤ j ∨ j = c.bt) → w'.heap[j]? = w.heap[j]?)
    (M0 : Nat → Nat → Bool) (a : Nat) (ha : a ≤ s.size) (w : World) (hE : Env c s bk ts up w) (hM : Mk c.B c.br c.bR c.bs c.bf ts.length s M0 [] w) (hJ : J (fun _ => false) w)
    (h0 : ∀ g p, M0 g p = true → ∀ q ∈ nextD bk s.data.toList ts up g p, M0 q.1 q.2 = true) :
    Calls Try.prog 106 #[.int .i64 (a : Int), .func (.func 127) #[] #[.pointer (some ⟨b1, 0, none⟩), .pointer (some ⟨b2, 0, none⟩)], .pointer (some ⟨c.bm, 0, none⟩), .pointer (some ⟨c.bl, 0, none⟩), .pointer (some ⟨c.bn, 0, none⟩), .pointer (some ⟨c.bp, 0, none⟩)] w fun e w' =>
      e = .returned (.tuple #[]) ∧ ∃ M, Env c s bk ts up w' ∧ Mk c.B c.br c.bR c.bs c.bf ts.length s M [] w' ∧ J (fun p => M (2 * (ts.length - 1) + 1) p && !M0 (2 * (ts.length - 1) + 1) p) w' ∧ Done bk s.data.toList ts up (ts.length - 1) a M0 M := by
  have hl : 0 < ts.length := by rw [← hT.len]; exact T.size_pos
  have hsm := hM.small
  obtain ⟨last, hlast⟩ : ∃ last, last = ts.length - 1 := ⟨_, rfl⟩
  have cbm : w.cell? ⟨c.bm, 0, none⟩ = some (.func (.func 104) #[] #[.pointer (some ⟨c.br, 0, none⟩), .pointer (some ⟨c.bs, 0, none⟩), .pointer (some ⟨c.bf, 0, none⟩)]) := by rw [cell_of_heap hE.bm]; rfl
  have cbl : w.cell? ⟨c.bl, 0, none⟩ = some (.int .i64 (last : Int)) := by rw [cell_of_heap hE.bl, hlast]; rfl
  have ki := fun w => in_any last w (by omega)
  have hst : Srch c s bk ts up w (M0, []) w := ⟨hE, hM, Kept.refl _ _⟩
  have km := hst.mark (g := 2 * last) (p := a) (by omega) ha
  have hA : ∀ w', Srch c s bk ts up w (mks [(2 * last, a)] (M0, [])) w' → ∃ M F D, AtS c s bk ts up J a M0 M F D w' := fun w' h => ⟨_, _, _, h.env, h.mm, hJk _ _ _ hJ h.kept, by rw [← hlast]; exact Inv.start h0⟩
  have SB := Lib.hid (fun W' (hb : Below w.heap.size w W') => (show W'.cell? ⟨c.bm, 0, none⟩ = some (.func (.func 104) #[] #[.pointer (some ⟨c.br, 0, none⟩), .pointer (some ⟨c.bs, 0, none⟩), .pointer (some ⟨c.bf, 0, none⟩)]) ∧ W'.cell? ⟨c.bl, 0, none⟩ = some (.int .i64 (last : Int)) from ⟨cell_kept hb cbm, cell_kept hb cbl⟩))
  have SP := Lib.hid (fun W' (h : Srch c s bk ts up w (mks [(2 * last, a)] (M0, [])) W') => (show W'.cell? ⟨c.bm, 0, none⟩ = some (.func (.func 104) #[] #[.pointer (some ⟨c.br, 0, none⟩), .pointer (some ⟨c.bs, 0, none⟩), .pointer (some ⟨c.bf, 0, none⟩)]) ∧ W'.cell? ⟨c.bl, 0, none⟩ = some (.int .i64 (last : Int)) from ⟨by rw [cell_of_heap h.env.bm]; rfl, by rw [cell_of_heap h.env.bl, hlast]; rfl⟩))
  have HJK := Lib.hid hJk
  have HJT := Lib.hid hJt
  have HT := Lib.hid hT
  have HLA := Lib.hid hlast
  have HA := Lib.hid hA
  clear hJk hJt hJ h0 hE hM hst hT cbm cbl hA hlast ha
  go_enter Try.func106, Try.ntmps106
  go_step3
  go_wp2_with fail
  go_region_held3 (fun W' => W'.cell? ⟨c.bm, 0, none⟩ = some (.func (.func 104) #[] #[.pointer (some ⟨c.br, 0, none⟩), .pointer (some ⟨c.bs, 0, none⟩), .pointer (some ⟨c.bf, 0, none⟩)]) ∧ W'.cell? ⟨c.bl, 0, none⟩ = some (.int .i64 (last : Int)))
    (first | with_reducible exact SB.out _ (Below.refl _ w).drew | with_reducible exact SP.out _ h1)
    (first
      | (go_at_call 107; refine (ki _).mono ?_; rintro e w2 ⟨rfl, rfl⟩)
      | (go_at_call 104; refine (km _ (Below.refl _ _).drew).mono ?_; rintro e w1 ⟨rfl, h1⟩))
  have H1 := Lib.hid (HA.out _ h1)
  clear h1 km ki SB SP HA
  go_wp2_with fail
  go_step3
  go_wp2_with fail
  go_loopg [] (2 * ts.length * (s.size + 1) + 1) (fun k wr => Hid (∃ M F D, AtS c s bk ts up J a M0 M F D wr ∧ F.length + free M s.size ts.length < k))
  case atStart =>
    obtain ⟨M, F, D, h⟩ := H1.out
    exact ⟨M, F, D, h, by have := h.mm.cnt; omega⟩
  case round =>
    obtain ⟨M, F, D, h, hk⟩ := hrel.out
    clear hrel H1
    rcases List.eq_nil_or_concat F with rfl | ⟨F', ⟨g, p⟩, hF⟩
    · have kn := next_empty (⟨h.env, h.mm, Kept.refl _ _⟩ : Srch c s bk ts up wr (M, []) wr)
      have cbn := h.bn
      have H := Lib.hid h
      clear h
      go_wp2_with (first
        | (go_at_call 105; refine kn.mono ?_; rintro e w2 ⟨rfl, h2⟩; have H2 := Lib.hid h2; clear h2 kn cbn)
        | fail)
      rw [Exit.noGoto_normal]
      go_end0
      have h3 := H2.out.below ((Below.refl _ w2).alloc (Nat.le_refl _) (.cells #[.int .i64 0, .int .i64 0] 137))
      obtain ⟨hd, hD⟩ := H.out.inv.done
      exact ⟨rfl, M, h3.env, h3.mm, hD ▸ HJK.out _ _ _ H.out.j h3.kept, hd⟩
    · rw [List.concat_eq_append] at hF
      subst hF
      obtain ⟨hMg, hM0g⟩ := h.inv.i1 (g, p) (List.mem_append_right _ (List.mem_singleton.2 rfl))
      obtain ⟨hg, hp⟩ := h.mm.inb g p hMg
      have kn := next_last (⟨h.env, h.mm, Kept.refl _ _⟩ : Srch c s bk ts up wr (M, F' ++ [(g, p)]) wr)
      have cbn := h.bn
      have hj := h.j
      have hi := h.inv
      have H := Lib.hid (And.intro hj (And.intro hi (And.intro hMg hM0g)))
      clear h hj hi hMg hM0g
      rcases Nat.mod_two_eq_zero_or_one g with hm | hm
      · obtain ⟨r, rfl⟩ : ∃ r, g = 2 * r := ⟨g / 2, by omega⟩
        obtain ⟨G, hG⟩ : ∃ G : Int, G = ((2 * r : Nat) : Int) := ⟨_, rfl⟩
        rw [← hG] at kn
        have hq : G / 2 = (r : Int) := by omega
        have HG := Lib.hid hG
        clear hG
        go_wp2_with (first
          | (go_at_call 105; refine kn.mono ?_; rintro e w2 ⟨rfl, h2⟩; have H2 := Lib.hid h2; clear h2 kn cbn)
          | fail)
        obtain ⟨W, hW⟩ : ∃ W, W = w2.alloc (.cells #[.int .i64 G, .int .i64 (p : Int)] 137) := ⟨_, rfl⟩
        rw [← hW]
        obtain ⟨h, hh⟩ : ∃ h, h = w2.heap.size := ⟨_, rfl⟩
        rw [← hh]
        have w0 : W.heap[h]? = some (.cells #[.int .i64 G, .int .i64 (p : Int)] 137 (0, 0)) := by rw [hW, hh]; exact heap_alloc_new _ _
        have d0 : W.cell? ⟨h, 0, none⟩ = some (.int .i64 G) := by rw [cell_of_heap w0]; rfl
        have d1 : W.cell? ⟨h, 1, none⟩ = some (.int .i64 (p : Int)) := by rw [cell_of_heap w0]; rfl
        have hWB : Below w2.heap.size w2 W := by rw [hW]; exact (Below.refl _ _).alloc (Nat.le_refl _) _
        have hVS : Srch c s bk ts up wr (M, F') W.drew := H2.out.below hWB.drew
        have hVJ : J D W.drew := HJK.out _ _ _ H.out.1 hVS.kept
        have SB := Lib.hid (fun W' (hb : Below W.heap.size W W') => (show W'.cell? ⟨h, 0, none⟩ = some (.int .i64 G) from cell_kept hb d0))
        have e1 : W.drew.cell? ⟨h, 1, none⟩ = some (.int .i64 (p : Int)) := d1
        obtain ⟨I, hI⟩ : ∃ I : Int, I = ((2 * r : Nat) : Int) := ⟨_, rfl⟩
        have ki2 : ∀ w, Calls Try.prog 107 #[.int .i64 (r : Int)] w fun e w' => e = .returned (.int .i64 I) ∧ w = w' := fun w => by rw [hI]; exact in_any r w (by omega)
        have heq : (G == I) = true := by have := HG.out; simp; omega
        have HI := Lib.hid hI
        clear hI
        have ke := way_enter HT.out HJK.out H.out.2.1 hVS hVJ (by omega) hp
        have cbp : W.drew.cell? ⟨c.bp, 0, none⟩ = some (.pointer (some ⟨c.bw, 0, none⟩)) := by rw [cell_of_heap hVS.env.bp]; rfl
        clear hW hh w0 d0 d1 hWB hVS hVJ
        go_region_held3 (fun W' => W'.cell? ⟨h, 0, none⟩ = some (.int .i64 G))
          (first | with_reducible exact SB.out _ (Below.refl _ W).drew)
          (first
            | (go_at_call 107; refine (ki2 _).mono ?_; rintro e w4 ⟨rfl, rfl⟩))
        clear ki2 SB
        go_wp2_with (first
          | (go_at_call 108; refine ke.mono ?_; rintro e w5 ⟨rfl, hAf⟩)
          | fail)
        obtain ⟨M', F'', D', hA', hlt⟩ := hAf
        go_roundg (gk - 1)
        case rel => exact ⟨M', F'', D', hA', by omega⟩
        case measure => omega
      · obtain ⟨r, rfl⟩ : ∃ r, g = 2 * r + 1 := ⟨g / 2, by omega⟩
        by_cases hrl : r = last
        · rw [hrl] at hg kn H hk
          clear hm hrl r
          obtain ⟨G, hG⟩ : ∃ G : Int, G = ((2 * last + 1 : Nat) : Int) := ⟨_, rfl⟩
          rw [← hG] at kn
          have hq : G / 2 = (last : Int) := by omega
          have HG := Lib.hid hG
          clear hG
          go_wp2_with (first
            | (go_at_call 105; refine kn.mono ?_; rintro e w2 ⟨rfl, h2⟩; have H2 := Lib.hid h2; clear h2 kn cbn)
            | fail)
          obtain ⟨W, hW⟩ : ∃ W, W = w2.alloc (.cells #[.int .i64 G, .int .i64 (p : Int)] 137) := ⟨_, rfl⟩
          rw [← hW]
          obtain ⟨h, hh⟩ : ∃ h, h = w2.heap.size := ⟨_, rfl⟩
          rw [← hh]
          have w0 : W.heap[h]? = some (.cells #[.int .i64 G, .int .i64 (p : Int)] 137 (0, 0)) := by rw [hW, hh]; exact heap_alloc_new _ _
          have d0 : W.cell? ⟨h, 0, none⟩ = some (.int .i64 G) := by rw [cell_of_heap w0]; rfl
          have d1 : W.cell? ⟨h, 1, none⟩ = some (.int .i64 (p : Int)) := by rw [cell_of_heap w0]; rfl
          have hWB : Below w2.heap.size w2 W := by rw [hW]; exact (Below.refl _ _).alloc (Nat.le_refl _) _
          have hVS : Srch c s bk ts up wr (M, F') W.drew := H2.out.below hWB.drew
          have hVJ : J D W.drew := HJK.out _ _ _ H.out.1 hVS.kept
          have SB := Lib.hid (fun W' (hb : Below W.heap.size W W') => (show W'.cell? ⟨h, 0, none⟩ = some (.int .i64 G) from cell_kept hb d0))
          have e1 : W.drew.cell? ⟨h, 1, none⟩ = some (.int .i64 (p : Int)) := d1
          obtain ⟨I, hI⟩ : ∃ I : Int, I = ((2 * last : Nat) : Int) := ⟨_, rfl⟩
          have ki2 : ∀ w, Calls Try.prog 107 #[.int .i64 (last : Int)] w fun e w' => e = .returned (.int .i64 I) ∧ w = w' := fun w => by rw [hI]; exact in_any last w (by omega)
          have hne : (G == I) = false := by have := HG.out; simp; omega
          have HI := Lib.hid hI
          clear hI
          have cbl : W.drew.cell? ⟨c.bl, 0, none⟩ = some (.int .i64 (last : Int)) := by rw [cell_of_heap hVS.env.bl, HLA.out]; rfl
          have hi : Inv bk s.data.toList ts up (ts.length - 1) a M0 M (F' ++ [(2 * (ts.length - 1) + 1, p)]) D := by have h := H.out.2.1; have e := HLA.out; rw [e] at h; exact h
          have kt := HJT.out D p W.drew hVJ hp
          have HVS := Lib.hid (And.intro hVS hi)
          clear hW hh w0 d0 d1 hWB hVS hVJ hi
          go_region_held3 (fun W' => W'.cell? ⟨h, 0, none⟩ = some (.int .i64 G))
            (first | with_reducible exact SB.out _ (Below.refl _ W).drew)
            (first
              | (go_at_call 107; refine (ki2 _).mono ?_; rintro e w4 ⟨rfl, rfl⟩))
          clear ki2 SB
          go_wp2_with (first
            | (go_at_call 127; refine kt.mono ?_; rintro e w5 ⟨rfl, hj5, hs5⟩)
            | fail)
          have hAf := way_tell hbs hl HVS.out.2 HVS.out.1 hj5 hs5
          rw [← HLA.out] at hAf
          obtain ⟨M', F'', D', hA', hlt⟩ := hAf
          go_roundg (gk - 1)
          case rel => exact ⟨M', F'', D', hA', by omega⟩
          case measure => omega
        · obtain ⟨G, hG⟩ : ∃ G : Int, G = ((2 * r + 1 : Nat) : Int) := ⟨_, rfl⟩
          rw [← hG] at kn
          have hq : G / 2 = (r : Int) := by omega
          have HG := Lib.hid hG
          clear hG
          go_wp2_with (first
            | (go_at_call 105; refine kn.mono ?_; rintro e w2 ⟨rfl, h2⟩; have H2 := Lib.hid h2; clear h2 kn cbn)
            | fail)
          obtain ⟨W, hW⟩ : ∃ W, W = w2.alloc (.cells #[.int .i64 G, .int .i64 (p : Int)] 137) := ⟨_, rfl⟩
          rw [← hW]
          obtain ⟨h, hh⟩ : ∃ h, h = w2.heap.size := ⟨_, rfl⟩
          rw [← hh]
          have w0 : W.heap[h]? = some (.cells #[.int .i64 G, .int .i64 (p : Int)] 137 (0, 0)) := by rw [hW, hh]; exact heap_alloc_new _ _
          have d0 : W.cell? ⟨h, 0, none⟩ = some (.int .i64 G) := by rw [cell_of_heap w0]; rfl
          have d1 : W.cell? ⟨h, 1, none⟩ = some (.int .i64 (p : Int)) := by rw [cell_of_heap w0]; rfl
          have hWB : Below w2.heap.size w2 W := by rw [hW]; exact (Below.refl _ _).alloc (Nat.le_refl _) _
          have hVS : Srch c s bk ts up wr (M, F') W.drew := H2.out.below hWB.drew
          have hVJ : J D W.drew := HJK.out _ _ _ H.out.1 hVS.kept
          have SB := Lib.hid (fun W' (hb : Below W.heap.size W W') => (show W'.cell? ⟨h, 0, none⟩ = some (.int .i64 G) from cell_kept hb d0))
          have e1 : W.drew.cell? ⟨h, 1, none⟩ = some (.int .i64 (p : Int)) := d1
          obtain ⟨I, hI⟩ : ∃ I : Int, I = ((2 * r : Nat) : Int) := ⟨_, rfl⟩
          have ki2 : ∀ w, Calls Try.prog 107 #[.int .i64 (r : Int)] w fun e w' => e = .returned (.int .i64 I) ∧ w = w' := fun w => by rw [hI]; exact in_any r w (by omega)
          have hne : (G == I) = false := by have := HG.out; simp; omega
          have HI := Lib.hid hI
          clear hI
          have ke := way_leave HT.out HJK.out H.out.2.1 hVS hVJ (by have := HLA.out; omega) hp
          have cbl : W.drew.cell? ⟨c.bl, 0, none⟩ = some (.int .i64 (last : Int)) := by rw [cell_of_heap hVS.env.bl, HLA.out]; rfl
          have cbp : W.drew.cell? ⟨c.bp, 0, none⟩ = some (.pointer (some ⟨c.bw, 0, none⟩)) := by rw [cell_of_heap hVS.env.bp]; rfl
          have hnl : ((r : Int) == (last : Int)) = false := by simp; omega
          clear hW hh w0 d0 d1 hWB hVS hVJ
          go_region_held3 (fun W' => W'.cell? ⟨h, 0, none⟩ = some (.int .i64 G))
            (first | with_reducible exact SB.out _ (Below.refl _ W).drew)
            (first
              | (go_at_call 107; refine (ki2 _).mono ?_; rintro e w4 ⟨rfl, rfl⟩))
          clear ki2 SB
          go_wp2_with (first
            | (go_at_call 109; refine ke.mono ?_; rintro e w5 ⟨rfl, hAf⟩)
            | fail)
          obtain ⟨M', F'', D', hA', hlt⟩ := hAf
          go_roundg (gk - 1)
          case rel => exact ⟨M', F'', D', hA', by omega⟩
          case measure => omega
end Go.Proofs.Ytgffmbdbjbhocaa
namespace Go.Proofs.Ytgffmbdbjbhocaa
open Go.RowKit Go.Lib

set_option maxHeartbeats 1000000 in
theorem bitsMul_any (x y : Nat) (hx : x < 18446744073709551616) (hy : y < 18446744073709551616) (w : World) :
    Calls Try.prog 148 #[.int .u64 x, .int .u64 y] w fun e w' => e = .returned (.tuple #[.int .u64 ((x * y / 18446744073709551616 : Nat) : Int), .int .u64 ((x * y % 18446744073709551616 : Nat) : Int)]) ∧ w' = w := by
  have k := fun w => Try.bits_Mul64 x y hx hy w
  obtain ⟨p, hp⟩ : ∃ p : Int, p = ((x * y / 18446744073709551616 : Nat) : Int) := ⟨_, rfl⟩
  obtain ⟨q, hq⟩ : ∃ q : Int, q = ((x * y % 18446744073709551616 : Nat) : Int) := ⟨_, rfl⟩
  rw [← hp, ← hq] at k ⊢
  clear hp hq hx hy
  go_enter Try.func148, Try.ntmps148
  go_wp2_with (first
    | (go_at_call 164; refine (k _).mono ?_; rintro e w1 ⟨rfl, rfl⟩)
    | fail)
  exact bodyPost_ret (results_tmp2 rfl _ _ _) rfl ⟨rfl, rfl⟩
theorem rep_get (N m : Nat) (x z : Value) (i : Nat) (h : i < m) : (List.replicate m x ++ List.replicate (N - m) z)[i]? = some x := by
  rw [List.getElem?_append_left (by simpa using h), List.getElem?_replicate, if_pos h]
theorem rep_splice (N m k : Nat) (x z : Value) (h : m + k ≤ N) : splice (List.replicate m x ++ List.replicate (N - m) z) m (List.replicate k x) = List.replicate (m + k) x ++ List.replicate (N - (m + k)) z := by
  unfold splice
  rw [List.take_append_of_le_length (by simp), List.take_of_length_le (by simp), List.drop_append, List.drop_of_length_le (by simp), List.nil_append, List.drop_replicate, List.length_replicate, List.length_replicate, ← List.append_assoc, List.replicate_append_replicate]
  congr 2
  omega
theorem wp_copy_spliceM {P : Program} {o : Oper} {a : Act} {w : World} {K : Act → World → Prop} {Q : Exit → Act → World → Prop} (hgd : o.guard = none) (d s : Operand) (dT sT : TypeId)
    (ho : o.op = .call { callee := .builtin .copy, args := #[d, s], argTypes := #[dT, sT] }) (elem : TypeId) (hu : P.underlying dT = some (.slice elem)) (hsz : (P.info? elem).map (·.size) = some 1)
    (dp sp : Option Addr) (dLen dCap sLen sCap : Nat) (hd : a.eval d = .slice dp dLen dCap) (hs : a.eval s = .slice sp sLen sCap)
    (g off : Nat) (cur : List Value) (t : TypeId) (hg : w.heap[g]? = some (.cells cur.toArray t (0, 0))) (cs : List Value) (hn : cs.length = Nat.min sLen dLen)
    (hpos : 0 < cs.length → dp = some ⟨g, off, none⟩ ∧ ∃ ad, sp = some ad ∧ ∀ j v, cs[j]? = some v → w.cell? (ad.add j) = some v)
    (hfit : off + cs.length ≤ cur.length) (h1 : ∀ v ∈ cs, v.oneCell' = true) (B : Nat) (w0 : World) (hb : RowKit.Below B w0 w) (hBg : B ≤ g)
    (h : ∀ w', RowKit.Hid (w'.heap[g]? = some (.cells (splice cur off cs).toArray t (0, 0))) → RowKit.Below B w0 w' → K (a.put o.dst (goInt cs.length)) w') : Oper.wp P o a w K Q := by
  have h := step_copy_splice (ops := #[]) (Q := Q) (E := False) hgd d s dT sT ho elem hu hsz dp sp dLen dCap sLen sCap hd hs g off cur t hg cs hn hpos hfit h1 B w0 hb hBg h
  rwa [if_pos (by simp [Region.wanted, hgd])] at h
set_option maxHeartbeats 8000000 in
set_option maxRecDepth 20000 in
theorem repeat_any (xb : Nat) (x : Int) (N : Nat) (w : World) (hN0 : 1 ≤ N) (hN : N ≤ 2000000) (hx : w.cell? ⟨xb, 0, none⟩ = some (.int .i64 x)) :
    Calls Try.prog 126 #[.slice (some ⟨xb, 0, none⟩) 1 1, .int .i64 (N : Int)] w fun e w' => e = .returned (.slice (some ⟨w.heap.size, 0, none⟩) N N) ∧ w'.heap[w.heap.size]? = some (.cells ⟨List.replicate N (Value.int .i64 x)⟩ 3 (0, 0)) ∧ Below w.heap.size w w' := by
  have km : ∀ w, Calls Try.prog 148 #[.int .u64 1, .int .u64 (N : Int)] w fun e w' => e = .returned (.tuple #[.int .u64 0, .int .u64 (N : Int)]) ∧ w' = w := fun w => by
    have h := bitsMul_any 1 N (by omega) (by omega) w
    rw [Nat.one_mul, Nat.div_eq_of_lt (by omega), Nat.mod_eq_of_lt (by omega)] at h
    exact h
  have hNI : ¬ (N : Int) < 0 := by omega
  have hN1 : decide ((9223372036854775807 : Int) < (N : Int)) = false := decide_eq_false (by omega)
  have hN2 : IntKind.u64.wrap (N : Int) = (N : Int) := IntWalk.u64_in _ (by omega)
  have hN3 : IntKind.i64.wrap (N : Int) = (N : Int) := IntWalk.i64_in _ (by omega)
  have kmk := fun (w : World) => run_make_row' (P := Try.prog) 42 3 (.int .i64 0) 8 Try.underlying42 Try.infoInt rfl .i64 .i64 N (by omega) (by omega) w
  obtain ⟨X0, hX0⟩ : ∃ X0, X0 = Obj.cells (madeCells #[.int .i64 0] N) 3 := ⟨_, rfl⟩
  rw [← hX0] at kmk
  have hx1 : X0 = .cells (List.replicate 0 (Value.int .i64 x) ++ List.replicate (N - 0) (Value.int .i64 0)).toArray 3 := by
    rw [hX0]
    have : madeCells #[Value.int .i64 0] N = (List.replicate 0 (Value.int .i64 x) ++ List.replicate (N - 0) (Value.int .i64 0)).toArray := by
      apply Array.ext'
      rw [toList_madeCells_one]
      simp
    rw [this]
  obtain ⟨g, hg⟩ : ∃ g, g = w.heap.size := ⟨_, rfl⟩
  have hgW : (w.alloc X0).heap[g]? = some (.cells (List.replicate 0 (Value.int .i64 x) ++ List.replicate (N - 0) (Value.int .i64 0)).toArray 3 (0, 0)) := by rw [hg, heap_alloc_new, hx1]
  have hxW : (w.alloc X0).cell? ⟨xb, 0, none⟩ = some (.int .i64 x) := cell_kept ((Below.refl _ w).alloc (Nat.le_refl _) _) hx
  have hbW : Below g w (w.alloc X0) := by rw [hg]; exact (Below.refl _ w).alloc (Nat.le_refl _) _
  have HW := Lib.hid (And.intro hgW (And.intro hxW hbW))
  have HG := Lib.hid hg
  rw [← hg]
  clear hX0 hx1 hgW hxW hbW hx hg
  have hpos0 : 0 < ([Value.int .i64 x] : List Value).length → (some ⟨w.heap.size, 0, none⟩ : Option Addr) = some ⟨g, 0, none⟩ ∧ ∃ ad : Addr, (some ⟨xb, 0, none⟩ : Option Addr) = some ad ∧ ∀ (j : Nat) (v : Value), ([Value.int .i64 x] : List Value)[j]? = some v → (w.alloc X0).cell? (ad.add j) = some v := fun _ => ⟨by rw [HG.out], ⟨xb, 0, none⟩, rfl, fun j v hj => by
    cases j with
    | zero => cases hj; exact HW.out.2.1
    | succ j => simp at hj⟩
  have HP0 := Lib.hid hpos0
  clear hpos0
  go_enter Try.func126, Try.ntmps126
  go_wp2_with (first
    | (go_at_call 148; refine (km _).mono ?_; rintro e w1 ⟨rfl, hw1⟩; replace hw1 := hw1.symm; subst hw1)
    | (refine wpList_copy_splice rfl (.tmp 31) (.tmp 32) 42 42 rfl 3 Try.underlying42 Try.sizeInt (some ⟨w.heap.size, 0, none⟩) (some ⟨xb, 0, none⟩) N N 1 1 rfl rfl g 0 (List.replicate 0 (Value.int .i64 x) ++ List.replicate (N - 0) (Value.int .i64 0)) 3 HW.out.1 [Value.int .i64 x] (Nat.min_eq_left hN0).symm HP0.out (by simp; omega) (by simp [Value.oneCell']) g w HW.out.2.2 (Nat.le_refl _) ?_; intro w2 hg2 hb2)
    | fail)
  have hg2' : w2.heap[g]? = some (.cells (List.replicate 1 (Value.int .i64 x) ++ List.replicate (N - 1) (Value.int .i64 0)).toArray 3 (0, 0)) := by
    have h := hg2.out
    have e := rep_splice N 0 1 (.int .i64 x) (.int .i64 0) (by omega)
    rw [Nat.zero_add] at e
    have e1 : [Value.int .i64 x] = List.replicate 1 (Value.int .i64 x) := rfl
    rw [e1, e] at h
    exact h
  have H2 := Lib.hid (And.intro hg2' hb2)
  clear hg2 hg2' hb2
  go_loopg [8] N (fun k v wr => ∃ m : Nat, v = .int .i64 m ∧ Hid (1 ≤ m ∧ m ≤ N) ∧ Hid (k = N + 1 - m) ∧ Hid (wr.heap[g]? = some (.cells (List.replicate m (Value.int .i64 x) ++ List.replicate (N - m) (Value.int .i64 0)).toArray 3 (0, 0)) ∧ Below g w wr))
  case atStart => exact ⟨1, rfl, ⟨Nat.le_refl _, hN0⟩, (by show N = N + 1 - 1; omega), H2.out⟩
  case round =>
    obtain ⟨m, rfl, HM, HK, HR⟩ := hrel
    have HG2 := HG.out
    by_cases hlt : m < N
    · have hltI : (m : Int) < (N : Int) := by omega
      have m0 : (0 : Int) ≤ (m : Int) := by omega
      have m1 : (m : Int) ≤ (N : Int) := by omega
      have m2 : ¬ N = m := by omega
      have m3 : m ≤ N := by omega
      obtain ⟨k, hk⟩ : ∃ k, k = Nat.min m (N - m) := ⟨_, rfl⟩
      have hk1 : m + k ≤ N := by rw [hk]; have : Nat.min m (N - m) ≤ N - m := Nat.min_le_right _ _; omega
      have hkm : k ≤ m := by rw [hk]; exact Nat.min_le_left _ _
      have hk0 : 1 ≤ k := by
        rw [hk]
        show 1 ≤ min m (N - m)
        have := HM.out
        omega
      have hI : IntKind.i64.wrap ((m : Int) + (k : Int)) = ((m + k : Nat) : Int) := by rw [IntWalk.i64_in _ (by omega)]; omega
      have HKK := Lib.hid hk
      clear hk HG2
      go_wp2_with fail
      refine wp_region_held_drew (S := fun _ => True) (by kernel_rfl) trivial (fun hHeld => ?_)
      refine wpAnyH_take (i := 0) (v := ?_) rfl (by kernel_rfl) (by kernel_rfl) (by kernel_rfl) (fun _ _ _ h => h) ?_ hHeld ?_; rotate_left; · (simp only [List.getElem_toArray, List.getElem_cons_zero]; refine Or.inl ⟨by rfl, ?_⟩; intro w hSw; go_simp; try with_reducible rfl)
      try simp only [List.getElem_toArray, List.getElem_cons_zero, Act.put, List.setIfInBounds_toArray, List.set_cons_zero, List.set_cons_succ]
      refine wpAnyH_take (i := 1) (v := ?_) rfl (by kernel_rfl) (by kernel_rfl) (by kernel_rfl) (fun _ _ _ h => h) ?_ hHeld ?_; rotate_left; · (simp only [List.getElem_toArray, List.getElem_cons_succ, List.getElem_cons_zero]; refine Or.inl ⟨by rfl, ?_⟩; intro w hSw; go_simp; try with_reducible rfl)
      try simp only [List.getElem_toArray, List.getElem_cons_succ, List.getElem_cons_zero, Act.put, List.setIfInBounds_toArray, List.set_cons_zero, List.set_cons_succ]
      refine wpAnyH_take (i := 2) (v := ?_) rfl (by kernel_rfl) (by kernel_rfl) (by kernel_rfl) (fun _ _ _ h => h) ?_ hHeld ?_; rotate_left; · (simp only [List.getElem_toArray, List.getElem_cons_succ, List.getElem_cons_zero]; refine Or.inl ⟨by rfl, ?_⟩; intro w hSw; go_simp; try with_reducible rfl)
      try simp only [List.getElem_toArray, List.getElem_cons_succ, List.getElem_cons_zero, Act.put, List.setIfInBounds_toArray, List.set_cons_zero, List.set_cons_succ]
      refine wpAnyH_take (i := 3) (v := ?_) rfl (by kernel_rfl) (by kernel_rfl) (by kernel_rfl) (fun _ _ _ h => h) ?_ hHeld ?_; rotate_left; · (simp only [List.getElem_toArray, List.getElem_cons_succ, List.getElem_cons_zero]; refine Or.inl ⟨by rfl, ?_⟩; intro w hSw; go_simp; try with_reducible rfl)
      try simp only [List.getElem_toArray, List.getElem_cons_succ, List.getElem_cons_zero, Act.put, List.setIfInBounds_toArray, List.set_cons_zero, List.set_cons_succ]
      refine wpAnyH_take (i := 4) (v := ?_) rfl (by kernel_rfl) (by kernel_rfl) (by kernel_rfl) (fun _ _ _ h => h) ?_ hHeld ?_; rotate_left; · (simp only [List.getElem_toArray, List.getElem_cons_succ, List.getElem_cons_zero]; refine Or.inl ⟨by rfl, ?_⟩; intro w hSw; go_simp; try with_reducible rfl)
      try simp only [List.getElem_toArray, List.getElem_cons_succ, List.getElem_cons_zero, Act.put, List.setIfInBounds_toArray, List.set_cons_zero, List.set_cons_succ]
      refine wpAnyH_take (i := 5) (v := ?_) rfl (by kernel_rfl) (by kernel_rfl) (by kernel_rfl) (fun _ _ _ h => h) ?_ hHeld ?_; rotate_left; · (simp only [List.getElem_toArray, List.getElem_cons_succ, List.getElem_cons_zero]; refine Or.inl ⟨by rfl, ?_⟩; intro w hSw; go_simp; try with_reducible rfl)
      try simp only [List.getElem_toArray, List.getElem_cons_succ, List.getElem_cons_zero, Act.put, List.setIfInBounds_toArray, List.set_cons_zero, List.set_cons_succ]
      refine wpAnyH_take (i := 6) (v := ?_) rfl (by kernel_rfl) (by kernel_rfl) (by kernel_rfl) (fun _ _ _ h => h) ?_ hHeld ?_; rotate_left; · (simp only [List.getElem_toArray, List.getElem_cons_succ, List.getElem_cons_zero]; refine Or.inl ⟨by rfl, ?_⟩; intro w hSw; go_simp; try with_reducible rfl)
      try simp only [List.getElem_toArray, List.getElem_cons_succ, List.getElem_cons_zero, Act.put, List.setIfInBounds_toArray, List.set_cons_zero, List.set_cons_succ]
      refine wpAnyH_ready (rs := [7]) (by kernel_rfl) (by simp) ?_
      refine AllReadyH.cons rfl (fun K' hK => ?_) AllReadyH.nil
      simp only [List.getElem_toArray, List.getElem_cons_succ, List.getElem_cons_zero]
      rw [if_pos (by rfl)]
      refine wp_copy_spliceM (w := wr.drew) rfl (.tmp 41) (.tmp 44) 42 42 rfl 3 Try.underlying42 Try.sizeInt (some ⟨w.heap.size, m, none⟩) _ (N - m) (N - m) m _ rfl rfl g m _ 3 HR.out.1 (List.replicate k (Value.int .i64 x)) (by rw [List.length_replicate]; exact HKK.out)
        (fun _ => ⟨by rw [HG.out], ⟨w.heap.size, 0, none⟩, rfl, fun j v hj => by
          have hjk : j < k := by
            by_cases h : j < k
            · exact h
            · rw [List.getElem?_eq_none (by simpa using h)] at hj; cases hj
          rw [List.getElem?_replicate, if_pos hjk] at hj
          cases hj
          have e : (⟨w.heap.size, 0, none⟩ : Addr).add j = ⟨w.heap.size, j, none⟩ := by simp [Addr.add]; intro h; exact h.symm
          have hw : wr.drew.heap[w.heap.size]? = some (.cells (List.replicate m (Value.int .i64 x) ++ List.replicate (N - m) (Value.int .i64 0)).toArray 3 (0, 0)) := by rw [← HG.out]; exact HR.out.1
          rw [e, cell_of_heap hw]
          simpa using rep_get N m _ _ j (by omega)⟩) (by simp; omega) (by intro v hv; have := (List.mem_replicate.1 hv).2; subst this; rfl) g w HR.out.2.drew (Nat.le_refl _) ?_
      intro w4 hg4 hb4
      refine hK.out _ _ trivial (fun _ => ?_)
      clear hK K'
      have hg4' : w4.heap[g]? = some (.cells (List.replicate (m + k) (Value.int .i64 x) ++ List.replicate (N - (m + k)) (Value.int .i64 0)).toArray 3 (0, 0)) := by
        have h := hg4.out
        rw [rep_splice N m k _ _ hk1] at h
        exact h
      have H4 := Lib.hid (And.intro hg4' hb4)
      clear hg4 hg4' hb4
      rw [List.length_replicate]
      unfold goInt
      try simp only [Act.put, List.setIfInBounds_toArray, List.set_cons_zero, List.set_cons_succ]
      refine wpAnyH_take (i := 8) (v := ?_) rfl (by kernel_rfl) (by kernel_rfl) (by kernel_rfl) (fun _ _ _ h => h) ?_ hHeld ?_; rotate_left; · (simp only [List.getElem_toArray, List.getElem_cons_succ, List.getElem_cons_zero]; refine Or.inl ⟨by rfl, ?_⟩; intro w hSw; go_simp; try with_reducible rfl)
      try simp only [List.getElem_toArray, List.getElem_cons_succ, List.getElem_cons_zero, Act.put, List.setIfInBounds_toArray, List.set_cons_zero, List.set_cons_succ]
      refine wpAnyH_take (i := 9) (v := ?_) rfl (by kernel_rfl) (by kernel_rfl) (by kernel_rfl) (fun _ _ _ h => h) ?_ hHeld ?_; rotate_left; · (simp only [List.getElem_toArray, List.getElem_cons_succ, List.getElem_cons_zero]; refine Or.inl ⟨by rfl, ?_⟩; intro w hSw; go_simp; try with_reducible rfl)
      try simp only [List.getElem_toArray, List.getElem_cons_succ, List.getElem_cons_zero, Act.put, List.setIfInBounds_toArray, List.set_cons_zero, List.set_cons_succ]
      refine wpAnyH_done (by kernel_rfl) ?_ _
      go_wp2
      go_roundg (N + 1 - (m + k))
      case rel => exact ⟨m + k, rfl, ⟨by omega, by omega⟩, rfl, H4.out⟩
      case measure => have := HK.out; omega
    · have hm : m = N := by have := HM.out.2; omega
      subst hm
      go_wp2
      refine bodyPost_ret (results_tmp rfl _ _ _) rfl ⟨by rw [HG.out]; rfl, ?_, HR.out.2⟩
      have h := HR.out.1
      simpa using h
end Go.Proofs.Ytgffmbdbjbhocaa
