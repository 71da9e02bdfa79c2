/- Packed texts: MaParents. What each of them proves stands above its theorems; the conditions stand in these. -/
import Derived.Deep.LoopGhost
import Derived.Laws.CopyOwn
import Derived.Test.YtkgpnlldlekcbaaShelf
import Derived.Test.YtkgpnlldlekcbaaM14
namespace Go.Proofs.Ytkgpnlldlekcbaa
open Go.RowKit Go.Lib

theorem upC_set (n : Nat) (f : Nat → Nat) (k j : Nat) : (upC n f).set k (.int .i64 (j : Int)) = upC n (fun q => if q = k then j else f q) := by
  apply List.ext_getElem?
  intro i
  have hl : (upC n f).length = n := by unfold upC; simp
  rw [List.getElem?_set]
  by_cases hi : i < n
  · rw [upC_get _ _ _ hi, upC_get _ _ _ hi, hl]
    by_cases h : k = i
    · subst h; simp [hi]
    · rw [if_neg h, if_neg (fun e => h e.symm)]
  · have hl2 : (upC n (fun q => if q = k then j else f q)).length = n := by unfold upC; simp
    rw [List.getElem?_eq_none (by omega), List.getElem?_eq_none (by omega), hl]
    by_cases h : k = i
    · subst h; simp [hi]
    · rw [if_neg h]
theorem upC_made (n : Nat) : madeCells #[.int .i64 0] n = ⟨upC n (fun _ => 0)⟩ := by
  apply Array.ext'
  rw [toList_madeCells_one]
  unfold upC
  apply List.ext_getElem?
  intro j
  by_cases h : j < n
  · rw [List.getElem?_replicate, if_pos h, List.getElem?_map, List.getElem?_range h]; rfl
  · rw [List.getElem?_eq_none (by simpa using h), List.getElem?_eq_none (by simpa using h)]
/-- What a step that goes asks of a node. -/
theorem step_some {st st' : List Int} {j : Nat} {n : Nd} (h : rightStep st j n = some st') : 0 ≤ kidsN n.k ∧ kidsN n.k ≤ (st.length : Int) ∧ n.x = (wantL st (kidsN n.k)).1 ∧ n.y = (wantL st (kidsN n.k)).2 ∧ st' = st.take (st.length - (kidsN n.k).toNat) ++ [(j : Int)] := by
  unfold rightStep at h
  split at h
  · cases h
  · split at h
    · cases h
    · rename_i h1 h2
      injection h with h
      have h3 : n.x = (wantL st (kidsN n.k)).1 ∧ n.y = (wantL st (kidsN n.k)).2 := Classical.byContradiction fun h => h2 (.inl h)
      exact ⟨by omega, by omega, h3.1, h3.2, h.symm⟩
theorem drewN_below (w : World) (q : Nat) : Below w.heap.size w (w.drewN q) := by
  refine ⟨rfl, rfl, rfl, Nat.le_refl _, fun k hk => rfl⟩
/-- Between two nodes. -/
structure Par (ts : List Nd) (w : World) (j : Nat) (st : List Int) (f : Nat → Nat) (wr : World) : Prop where
  le : j ≤ ts.length
  run : rightRun ts 0 [] = rightRun (ts.drop j) j st
  up : upRun ts 0 [] (fun _ => 0) = upRun (ts.drop j) j st f
  blk : wr.heap[w.heap.size]? = some (.cells ⟨upC ts.length f⟩ 3 (0, 0))
  low : Below w.heap.size w wr
  sml : st.length ≤ j ∧ ∀ x ∈ st, 0 ≤ x ∧ x < (j : Int)

theorem par_next {ts : List Nd} {w wr w5 : World} {j : Nat} {st st' : List Int} {f : Nat → Nat} {n : Nd} (h : Par ts w j st f wr) (hn : ts[j]? = some n) (hst : rightStep st j n = some st') (hst' : st' = st.take (st.length - (kidsN n.k).toNat) ++ [(j : Int)])
    (hb : w5.heap[w.heap.size]? = some (.cells ⟨upC ts.length (upStep f st j (kidsN n.k).toNat)⟩ 3 (0, 0))) (hl : Below w.heap.size w w5) : Par ts w (j + 1) st' (upStep f st j (kidsN n.k).toNat) w5 := by
  have hlt : j < ts.length := by
    by_cases hl : j < ts.length
    · exact hl
    · rw [List.getElem?_eq_none (by omega)] at hn; cases hn
  refine ⟨hlt, ?_, ?_, hb, hl, ?_, ?_⟩
  · rw [h.run, run_drop st hn, hst]; rfl
  · rw [h.up, up_drop hn hst]
  · rw [hst']; exact Nat.le_trans (take_snoc_length st _ j) (by have := h.sml.1; omega)
  · intro x hx
    rw [hst'] at hx
    rcases List.mem_append.1 hx with hx | hx
    · have := h.sml.2 x (List.mem_of_mem_take hx); omega
    · have : x = (j : Int) := by simpa using hx
      omega
theorem kidsN_parts (k : Int) : (kidsN k = 0 → k = 0 ∨ k = 1 ∨ k = 7 ∨ k = 8) ∧ (kidsN k = 1 → k = 4 ∨ k = 5 ∨ k = 6) ∧ (kidsN k = 2 → k = 2 ∨ k = 3) := by
  unfold kidsN
  refine ⟨fun h => ?_, fun h => ?_, fun h => ?_⟩
  · split at h
    · assumption
    · split at h
      · omega
      · split at h <;> omega
  · split at h
    · omega
    · split at h
      · assumption
      · split at h <;> omega
  · split at h
    · omega
    · split at h
      · omega
      · split at h
        · assumption
        · omega

set_option maxHeartbeats 100000000 in
set_option maxRecDepth 20000 in
theorem parents_any (v : Value) (T : Tr) (ts : List Nd) (w : World) (hts : ts = T.row 0) (hok : T.ok) (hsz : ts.length ≤ 2000) (hL : Lies v ts w) :
    Calls Try.prog 64 #[v] w fun e w' => e = .returned (.tuple #[.slice (some ⟨w.heap.size, 0, none⟩) ts.length ts.length, .bool true]) ∧ w'.heap[w.heap.size]? = some (.cells ⟨upC ts.length (upT T)⟩ 3 (0, 0)) ∧ Below w.heap.size w w' := by
  have hrun : rightRun ts 0 [] = some [(ts.length : Int) - 1] := by
    have h := run_row T hok 0 [] []
    rw [List.append_nil] at h
    rw [hts, h, Tr.row_length]
    show some ([] ++ [((0 : Nat) : Int) + T.size - 1]) = _
    simp
  have hup : upRun ts 0 [] (fun _ => 0) = upT T := by rw [hts]; rfl
  have hpos : 0 < ts.length := by rw [hts, Tr.row_length]; exact T.size_pos
  have H := Lib.hid hL
  obtain ⟨ao, cap, rfl, _⟩ := hL
  obtain ⟨N, hN⟩ : ∃ N, N = ts.length := ⟨_, rfl⟩
  rw [← hN] at hsz hpos H ⊢
  have HN := Lib.hid hN
  have HR := Lib.hid (And.intro hrun hup)
  clear hN hrun hup hts hok
  obtain ⟨i0, hi, hz0, hz1, hz2⟩ := info_parts Try.infoInt
  have HI0 := Lib.hid (And.intro hi (And.intro hz0 (And.intro hz1 hz2)))
  clear hi hz0 hz1 hz2
  have kmk := fun (w : World) => run_make_row' (P := Try.prog) 41 3 (.int .i64 0) 8 Try.underlying41 Try.infoInt rfl .i64 .i64 N (by omega) (by omega) w
  obtain ⟨X0, hX0⟩ : ∃ X0, X0 = Obj.cells (madeCells #[.int .i64 0] N) 3 := ⟨_, rfl⟩
  rw [← hX0] at kmk
  have HX0 := Lib.hid hX0
  clear hX0
  have hNz : (N == 0) = false := by simp; omega
  go_enter Try.func64, Try.ntmps64
  go_wp2
  go_loopg [5, 17] (N + 1) (fun k v i wr => ∃ (j : Nat) (st : List Int) (f : Nat → Nat), i = .int .i64 j ∧ Hid (j ≤ N) ∧ Hid (k = N + 1 - j) ∧ wr.ownsRow (w.heap.size + 1) 3 1 v st.length (ints st) ∧ Hid (Par ts w j st f wr))
  case atStart =>
    refine ⟨0, [], fun _ => 0, rfl, ?_, rfl, World.ownsRow_nil _ _ _ _, ⟨Nat.zero_le _, rfl, rfl, ?_, ?_, Nat.le_refl _, fun x hx => by simp at hx⟩⟩
    · show 0 ≤ N; omega
    · have h := heap_alloc_new w X0
      rw [HX0.out, HN.out, upC_made] at h
      rw [HX0.out, HN.out, upC_made]
      exact h
    · exact (Below.refl _ w).alloc (Nat.le_refl _) _
  case round =>
    obtain ⟨j, st, f, rfl, HK1, HK, hown, HP⟩ := hrel
    obtain ⟨L, hL⟩ : ∃ L, L = st.length := ⟨_, rfl⟩
    rw [← hL] at hown
    have HLS := Lib.hid hL
    obtain ⟨ao, cp, rfl⟩ : ∃ ao cp, u5 = .slice ao L cp := by
      rcases hown.2 with ⟨hv, h0⟩ | ⟨g, cap, cur, hv, _⟩
      · exact ⟨_, _, by rw [hv, h0]⟩
      · exact ⟨_, _, hv⟩
    have hcap := owns_cap hown
    have hLj : L ≤ j := by rw [hL]; exact HP.out.sml.1
    clear hL
    by_cases hlt : j < N
    · obtain ⟨n, hn⟩ : ∃ n, ts[j]? = some n := ⟨ts[j]'(by rw [← HN.out]; exact hlt), List.getElem?_eq_getElem (by rw [← HN.out]; exact hlt)⟩
      obtain ⟨st', hst⟩ : ∃ st', rightStep st j n = some st' := by
        cases h : rightStep st j n with
        | some st' => exact ⟨_, rfl⟩
        | none =>
          have h1 := HR.out.1
          rw [HP.out.run, run_drop st hn, h] at h1
          cases h1
      obtain ⟨hm0, hm1, hx, hy, hst'⟩ := step_some hst
      obtain ⟨b, o, rfl, hbw, hat⟩ := H.out.at hn
      have hat2 := hat.below HP.out.low hbw
      obtain ⟨a0, a1, a2, a3, a4, a5, a6⟩ := hat2
      unfold wd at a1 a2 a3 a4
      have hI : IntKind.i64.wrap ((j : Int) + 1) = ((j + 1 : Nat) : Int) := by rw [IntWalk.i64_in _ (by omega)]; omega
      have HOWN := Lib.hid hown
      have HN1 := Lib.hid (And.intro hn (And.intro hst hst'))
      have hltI : (j : Int) < (N : Int) := by omega
      have j0 : (0 : Int) ≤ (j : Int) := by omega
      obtain ⟨k, K, x, y⟩ := n
      dsimp only at hm0 hm1 hx hy a0 a1 a2 a3 a4 a5 a6
      clear hat hn hst hst' hown
      have hm : kidsN k = 0 ∨ kidsN k = 1 ∨ kidsN k = 2 := by
        unfold kidsN at hm0 ⊢
        split
        · exact .inl rfl
        · split
          · exact .inr (.inl rfl)
          · split
            · exact .inr (.inr rfl)
            · rename_i h1 h2 h3; rw [if_neg h1, if_neg h2, if_neg h3] at hm0; omega
      obtain ⟨p0, p1, p2⟩ := kidsN_parts k
      rcases hm with hm | hm | hm
      · rcases p0 hm with rfl | rfl | rfl | rfl
        · clear p0 p1 p2 hm hm0 hm1 hx hy
          have hown0 := HOWN.out.2
          rcases hown0 with ⟨hv0, h00⟩ | ⟨g, cap2, cur, hv0, hBg, hg, -⟩
          · cases hv0
            have hmm : kidsN 0 = 0 := rfl
            have keq0 : ∀ (a1 a2 : Option Addr) (c d : Nat) (w : World), Calls Try.prog 86 #[.slice a1 0 c, .slice a2 0 d] w fun e w' => e = .returned (.bool true) ∧ Below w.heap.size w w' := fun a1 a2 c d w => (Try.slices_Equal_int_empty a1 a2 c 0 d w (by omega)).mono fun e w' hh => ⟨hh.1, by rw [hh.2]; exact Below.refl _ _⟩
            go_wp2
            obtain ⟨X, hX⟩ : ∃ X, X = Obj.cells #[.int .i64 0, .int .u64 (K.a.toNat : Int), .int .u64 (K.b.toNat : Int), .int .u64 (K.c.toNat : Int), .int .u64 (K.d.toNat : Int), .int .i64 x, .int .i64 y] 50 := ⟨_, rfl⟩
            rw [← hX]
            obtain ⟨V, hV⟩ : ∃ V, V = wr.alloc X := ⟨_, rfl⟩
            rw [← hV]
            obtain ⟨h, hh⟩ : ∃ h, h = wr.heap.size := ⟨_, rfl⟩
            rw [← hh]
            obtain ⟨U, hU⟩ : ∃ U, U = w.heap.size := ⟨_, rfl⟩
            rw [← hU]
            have hUh : U < h := by rw [hU, hh]; exact block_lt HP.out.blk
            have vz : V.heap.size = h + 1 := by rw [hV, hh]; simp
            have vX : V.heap[h]? = some X := by rw [hV, hh]; exact heap_alloc_new _ _
            have vo : ∀ q, q < h → V.heap[q]? = wr.heap[q]? := fun q hq => by rw [hV]; exact Below.heap_alloc _ _ _ (by omega)
            have vB : Below U w V := by rw [hV, hU]; exact HP.out.low.alloc HP.out.low.size _
            have vU : V.heap[U]? = some (.cells ⟨upC N f⟩ 3 (0, 0)) := by rw [HN.out]; refine (vo U hUh).trans ?_; rw [hU]; exact HP.out.blk
            have vown : V.ownsRow (U + 1) 3 1 (.slice none 0 0) 0 (ints st) := by rw [hU]; exact owns_same HOWN.out fun q hq => vo q (by rw [hh]; exact own_block_lt HOWN.out hq)
            have HV := Lib.hid (And.intro vz (And.intro vX (And.intro vB (And.intro vU (And.intro vown (And.intro hX (And.intro hU hh)))))))
            clear vz vX vo vB vU vown hX hU hh hV a0 a1 a2 a3 a4 a5 a6
            have keq : ∀ W', Below V.heap.size V W' → Calls Try.prog 86 #[.slice none 0 0, .slice (some ⟨h, 5, none⟩) 0 2] W' fun e w' => e = .returned (.bool true) ∧ Below W'.heap.size W' w' := fun W' _ => keq0 _ _ _ _ W'
            refine wp_region_held_drew (S := fun _ => True) (by kernel_rfl) trivial (fun hHeld => ?_)
            refine wpAnyH_take (i := 0) (v := ?_) rfl (by kernel_rfl) (by kernel_rfl) (by kernel_rfl) (fun _ _ _ h => h) ?_ hHeld ?_; rotate_left; · (simp only [List.getElem_toArray, List.getElem_cons_zero]; refine Or.inl ⟨by rfl, ?_⟩; intro w hSw; go_simp; try with_reducible rfl)
            try simp only [List.getElem_toArray, List.getElem_cons_zero, Act.put, List.setIfInBounds_toArray, List.set_cons_zero, List.set_cons_succ]
            refine wpAnyH_take (i := 1) (v := ?_) rfl (by kernel_rfl) (by kernel_rfl) (by kernel_rfl) (fun _ _ _ h => h) ?_ hHeld ?_; rotate_left; · (simp only [List.getElem_toArray, List.getElem_cons_succ, List.getElem_cons_zero]; refine Or.inl ⟨by rfl, ?_⟩; intro w hSw; go_simp; try with_reducible rfl)
            try simp only [List.getElem_toArray, List.getElem_cons_succ, List.getElem_cons_zero, Act.put, List.setIfInBounds_toArray, List.set_cons_zero, List.set_cons_succ]
            refine wpAnyH_take (i := 2) (v := ?_) rfl (by kernel_rfl) (by kernel_rfl) (by kernel_rfl) (fun _ _ _ h => h) ?_ hHeld ?_; rotate_left; · (simp only [List.getElem_toArray, List.getElem_cons_succ, List.getElem_cons_zero]; refine Or.inl ⟨by rfl, ?_⟩; intro w hSw; go_simp; try with_reducible rfl)
            try simp only [List.getElem_toArray, List.getElem_cons_succ, List.getElem_cons_zero, Act.put, List.setIfInBounds_toArray, List.set_cons_zero, List.set_cons_succ]
            refine wpAnyH_take (i := 3) (v := ?_) rfl (by kernel_rfl) (by kernel_rfl) (by kernel_rfl) (fun _ _ _ h => h) ?_ hHeld ?_; rotate_left; · (simp only [List.getElem_toArray, List.getElem_cons_succ, List.getElem_cons_zero]; refine Or.inl ⟨by rfl, ?_⟩; intro w hSw; go_simp; try with_reducible rfl)
            try simp only [List.getElem_toArray, List.getElem_cons_succ, List.getElem_cons_zero, Act.put, List.setIfInBounds_toArray, List.set_cons_zero, List.set_cons_succ]
            refine wpAnyH_take (i := 4) (v := ?_) rfl (by kernel_rfl) (by kernel_rfl) (by kernel_rfl) (fun _ _ _ h => h) ?_ hHeld ?_; rotate_left; · (simp only [List.getElem_toArray, List.getElem_cons_succ, List.getElem_cons_zero]; refine Or.inl ⟨by rfl, ?_⟩; intro w hSw; go_simp; try with_reducible rfl)
            try simp only [List.getElem_toArray, List.getElem_cons_succ, List.getElem_cons_zero, Act.put, List.setIfInBounds_toArray, List.set_cons_zero, List.set_cons_succ]
            refine wpAnyH_take (i := 5) (v := ?_) rfl (by kernel_rfl) (by kernel_rfl) (by kernel_rfl) (fun _ _ _ h => h) ?_ hHeld ?_; rotate_left; · (simp only [List.getElem_toArray, List.getElem_cons_succ, List.getElem_cons_zero]; refine Or.inl ⟨by rfl, ?_⟩; intro w hSw; go_simp; try with_reducible rfl)
            try simp only [List.getElem_toArray, List.getElem_cons_succ, List.getElem_cons_zero, Act.put, List.setIfInBounds_toArray, List.set_cons_zero, List.set_cons_succ]
            refine wpAnyH_take (i := 6) (v := ?_) rfl (by kernel_rfl) (by kernel_rfl) (by kernel_rfl) (fun _ _ _ h => h) ?_ hHeld ?_; rotate_left; · (simp only [List.getElem_toArray, List.getElem_cons_succ, List.getElem_cons_zero]; refine Or.inl ⟨by rfl, ?_⟩; intro w hSw; go_simp; try with_reducible rfl)
            try simp only [List.getElem_toArray, List.getElem_cons_succ, List.getElem_cons_zero, Act.put, List.setIfInBounds_toArray, List.set_cons_zero, List.set_cons_succ]
            refine wpAnyH_take (i := 7) (v := ?_) rfl (by kernel_rfl) (by kernel_rfl) (by kernel_rfl) (fun _ _ _ h => h) ?_ hHeld ?_; rotate_left; · (simp only [List.getElem_toArray, List.getElem_cons_succ, List.getElem_cons_zero]; refine Or.inl ⟨by rfl, ?_⟩; intro w hSw; go_simp; try with_reducible rfl)
            try simp only [List.getElem_toArray, List.getElem_cons_succ, List.getElem_cons_zero, Act.put, List.setIfInBounds_toArray, List.set_cons_zero, List.set_cons_succ]
            refine wpAnyH_take (i := 8) (v := ?_) rfl (by kernel_rfl) (by kernel_rfl) (by kernel_rfl) (fun _ _ _ h => h) ?_ hHeld ?_; rotate_left; · (simp only [List.getElem_toArray, List.getElem_cons_succ, List.getElem_cons_zero]; refine Or.inl ⟨by rfl, ?_⟩; intro w hSw; go_simp; try with_reducible rfl)
            try simp only [List.getElem_toArray, List.getElem_cons_succ, List.getElem_cons_zero, Act.put, List.setIfInBounds_toArray, List.set_cons_zero, List.set_cons_succ]
            refine wpAnyH_ready (rs := [9]) (by kernel_rfl) (by simp) ?_
            refine AllReadyH.cons rfl (fun K' hK => ?_) AllReadyH.nil
            simp only [List.getElem_toArray, List.getElem_cons_succ, List.getElem_cons_zero]
            rw [if_pos (by rfl)]
            go_simp
            (go_at_call 86; refine (keq _ (Below.refl _ V).drew).mono ?_; rintro e w4 ⟨rfl, hb4⟩)
            refine hK.out _ _ trivial (fun _ => ?_)
            clear hK K'
            try simp only [List.getElem_toArray, List.getElem_cons_succ, List.getElem_cons_zero, Act.put, List.setIfInBounds_toArray, List.set_cons_zero, List.set_cons_succ]
            refine wpAnyH_take (i := 10) (v := ?_) rfl (by kernel_rfl) (by kernel_rfl) (by kernel_rfl) (fun _ _ _ h => h) ?_ hHeld ?_; rotate_left; · (simp only [List.getElem_toArray, List.getElem_cons_succ, List.getElem_cons_zero]; refine Or.inl ⟨by rfl, ?_⟩; intro w hSw; go_simp; try with_reducible rfl)
            try simp only [List.getElem_toArray, List.getElem_cons_succ, List.getElem_cons_zero, Act.put, List.setIfInBounds_toArray, List.set_cons_zero, List.set_cons_succ]
            refine wpAnyH_take (i := 11) (v := ?_) rfl (by kernel_rfl) (by kernel_rfl) (by kernel_rfl) (fun _ _ _ h => h) ?_ hHeld ?_; rotate_left; · (simp only [List.getElem_toArray, List.getElem_cons_succ, List.getElem_cons_zero]; refine Or.inl ⟨by rfl, ?_⟩; intro w hSw; go_simp; try with_reducible rfl)
            try simp only [List.getElem_toArray, List.getElem_cons_succ, List.getElem_cons_zero, Act.put, List.setIfInBounds_toArray, List.set_cons_zero, List.set_cons_succ]
            refine wpAnyH_done (by kernel_rfl) ?_ _
            have hbV : Below V.heap.size V w4 := (Below.refl _ V).drew.trans hb4
            have z1 : w4.heap[U]? = some (.cells ⟨upC N f⟩ 3 (0, 0)) := (hbV.block U (by have := HV.out.1; omega)).trans HV.out.2.2.2.1
            have z2 : w4.ownsRow (U + 1) 3 1 (.slice none 0 0) 0 (ints st) := owns_same HV.out.2.2.2.2.1 fun q hq => hbV.block q (own_block_lt HV.out.2.2.2.2.1 hq)
            have z3 : Below U w w4 := HV.out.2.2.1.trans (hbV.mono (by have := HV.out.1; omega))
            have z0 : upStep f st j 0 = f := upStep_zero f st j
            rw [← z0] at z1
            have hUZ0 : U < w4.heap.size := block_lt z1
            have HZ := Lib.hid (And.intro z1 (And.intro z2 z3))
            clear z1 z2 z3 z0 hb4 hbV
            go_wp2
            refine wp_loop_rounds 1 ?_
            rw [rounds_succ]
            go_wp2_with (first
              | (refine wpList_prefix_own rfl (.tmp 65) (.tmp 66) 41 3 Try.underlying41 Try.sizeOf3 rfl (U + 1) 0 0 _ (ints st) rfl (by first | rfl | exact congrArg (Value.int .i64) (by omega)) HZ.out.2.1 (by omega) ?_; intro v6 hv6 hob6; rw [ints_take] at hv6; have HT := Lib.hid hv6; clear hv6)
              | (at_builtin; refine wpList_append_own _ rfl (.tmp 67) (.tmp 69) 41 rfl (U + 1) 3 i0 (.int .i64 0) 1 8 Try.underlying41 HI0.out.1 HI0.out.2.1 HI0.out.2.2.1 HI0.out.2.2.2 rfl (by decide) _ 0 (ints (st.take 0)) rfl (owns_alloc HT.out) ⟨w4.heap.size, 0, none⟩ 1 1 [.int .i64 j] rfl rfl (cell_one' _ _ _) (by simp [Value.oneCell']) (by unfold maxLen; omega) (by omega) (by simp; omega) ?_; intro v5 w5 hown5 hgrow5 _
                 have hZ3 := HZ.out.2.2
                 have hUZ : U < w4.heap.size := block_lt HZ.out.1
                 have hb5 : Below U w w5 := (hZ3.alloc (Nat.le_of_lt hUZ) _).grown hgrow5 (by simp; omega) (fun q hq => Nat.le_of_succ_le (own_base HT.out hq))
                 have hu5 : w5.heap[U]? = some (.cells ⟨upC N (upStep f st j 0)⟩ 3 (0, 0)) := (hgrow5.block U (by simp; omega) (fun e => by have := own_base HT.out e.symm; omega)).trans ((Below.heap_alloc _ _ _ hUZ).trans HZ.out.1)
                 have H5 := Lib.hid (And.intro hown5 (And.intro hb5 hu5))
                 clear hown5 hgrow5 hb5 hu5 hZ3 hUZ)
              | fail)
            have hU := HV.out.2.2.2.2.2.2.1
            subst hU
            go_roundg (N - j)
            case rel =>
              have hst' := HN1.out.2.2
              have e : st' = st.take 0 ++ [(j : Int)] := by rw [hst']; (try dsimp only); rw [hmm]; congr 2; have := HLS.out; omega
              have hlen : st'.length = 0 + 1 := by rw [e]; exact take_snoc_len st 0 j (by rw [← HLS.out]; omega)
              refine ⟨j + 1, st', upStep f st j 0, by go_num, by show _ ≤ _; omega, by show _ = _; omega, ?_, ?_⟩
              · have h := H5.out.1
                rw [← ints_snoc, ← e, ← hlen] at h
                exact h
              · have hb := H5.out.2.2
                have hl := H5.out.2.1
                have hpn := par_next HP.out HN1.out.1 HN1.out.2.1 hst' (w5 := w5) (by dsimp only; rw [hmm, ← HN.out]; exact hb) hl
                dsimp only at hpn
                rw [hmm] at hpn
                exact hpn
            case measure => have := HK.out; omega
          · cases hv0
            have hgl := block_lt hg
            clear hg
            by_cases hcl : cp = L
            · subst hcl
              have hmm : kidsN 0 = 0 := rfl
              have hwr : IntKind.i64.wrap ((cp : Int) - 0) = (cp : Int) := by rw [IntWalk.i64_in _ (by unfold maxLen at hcap; omega)]; omega
              have L0 : (0 : Int) ≤ (cp : Int) := by omega
              have keq0 : ∀ (a1 a2 : Option Addr) (c d : Nat) (w : World), Calls Try.prog 86 #[.slice a1 0 c, .slice a2 0 d] w fun e w' => e = .returned (.bool true) ∧ Below w.heap.size w w' := fun a1 a2 c d w => (Try.slices_Equal_int_empty a1 a2 c 0 d w (by omega)).mono fun e w' hh => ⟨hh.1, by rw [hh.2]; exact Below.refl _ _⟩
              go_wp2
              obtain ⟨X, hX⟩ : ∃ X, X = Obj.cells #[.int .i64 0, .int .u64 (K.a.toNat : Int), .int .u64 (K.b.toNat : Int), .int .u64 (K.c.toNat : Int), .int .u64 (K.d.toNat : Int), .int .i64 x, .int .i64 y] 50 := ⟨_, rfl⟩
              rw [← hX]
              obtain ⟨V, hV⟩ : ∃ V, V = wr.alloc X := ⟨_, rfl⟩
              rw [← hV]
              obtain ⟨h, hh⟩ : ∃ h, h = wr.heap.size := ⟨_, rfl⟩
              rw [← hh]
              obtain ⟨U, hU⟩ : ∃ U, U = w.heap.size := ⟨_, rfl⟩
              rw [← hU]
              have hUh : U < h := by rw [hU, hh]; exact block_lt HP.out.blk
              have vz : V.heap.size = h + 1 := by rw [hV, hh]; simp
              have vX : V.heap[h]? = some X := by rw [hV, hh]; exact heap_alloc_new _ _
              have vo : ∀ q, q < h → V.heap[q]? = wr.heap[q]? := fun q hq => by rw [hV]; exact Below.heap_alloc _ _ _ (by omega)
              have vB : Below U w V := by rw [hV, hU]; exact HP.out.low.alloc HP.out.low.size _
              have vU : V.heap[U]? = some (.cells ⟨upC N f⟩ 3 (0, 0)) := by rw [HN.out]; refine (vo U hUh).trans ?_; rw [hU]; exact HP.out.blk
              have vown : V.ownsRow (U + 1) 3 1 (.slice (some ⟨g, 0, none⟩) cp cp) cp (ints st) := by rw [hU]; exact owns_same HOWN.out fun q hq => vo q (by rw [hh]; exact own_block_lt HOWN.out hq)
              have HV := Lib.hid (And.intro vz (And.intro vX (And.intro vB (And.intro vU (And.intro vown (And.intro hX (And.intro hU hh)))))))
              clear vz vX vo vB vU vown hX hU hh hV a0 a1 a2 a3 a4 a5 a6
              have keq : ∀ W', Below V.heap.size V W' → Calls Try.prog 86 #[.slice (some ⟨g, 0, none⟩) 0 0, .slice (some ⟨h, 5, none⟩) 0 2] W' fun e w' => e = .returned (.bool true) ∧ Below W'.heap.size W' w' := fun W' _ => keq0 _ _ _ _ W'
              refine wp_region_held_drew (S := fun _ => True) (by kernel_rfl) trivial (fun hHeld => ?_)
              refine wpAnyH_take (i := 0) (v := ?_) rfl (by kernel_rfl) (by kernel_rfl) (by kernel_rfl) (fun _ _ _ h => h) ?_ hHeld ?_; rotate_left; · (simp only [List.getElem_toArray, List.getElem_cons_zero]; refine Or.inl ⟨by rfl, ?_⟩; intro w hSw; go_simp; try with_reducible rfl)
              try simp only [List.getElem_toArray, List.getElem_cons_zero, Act.put, List.setIfInBounds_toArray, List.set_cons_zero, List.set_cons_succ]
              refine wpAnyH_take (i := 1) (v := ?_) rfl (by kernel_rfl) (by kernel_rfl) (by kernel_rfl) (fun _ _ _ h => h) ?_ hHeld ?_; rotate_left; · (simp only [List.getElem_toArray, List.getElem_cons_succ, List.getElem_cons_zero]; refine Or.inl ⟨by rfl, ?_⟩; intro w hSw; go_simp; try with_reducible rfl)
              try simp only [List.getElem_toArray, List.getElem_cons_succ, List.getElem_cons_zero, Act.put, List.setIfInBounds_toArray, List.set_cons_zero, List.set_cons_succ]
              refine wpAnyH_take (i := 2) (v := ?_) rfl (by kernel_rfl) (by kernel_rfl) (by kernel_rfl) (fun _ _ _ h => h) ?_ hHeld ?_; rotate_left; · (simp only [List.getElem_toArray, List.getElem_cons_succ, List.getElem_cons_zero]; refine Or.inl ⟨by rfl, ?_⟩; intro w hSw; go_simp; try with_reducible rfl)
              try simp only [List.getElem_toArray, List.getElem_cons_succ, List.getElem_cons_zero, Act.put, List.setIfInBounds_toArray, List.set_cons_zero, List.set_cons_succ]
              refine wpAnyH_take (i := 3) (v := ?_) rfl (by kernel_rfl) (by kernel_rfl) (by kernel_rfl) (fun _ _ _ h => h) ?_ hHeld ?_; rotate_left; · (simp only [List.getElem_toArray, List.getElem_cons_succ, List.getElem_cons_zero]; refine Or.inl ⟨by rfl, ?_⟩; intro w hSw; go_simp; try with_reducible rfl)
              try simp only [List.getElem_toArray, List.getElem_cons_succ, List.getElem_cons_zero, Act.put, List.setIfInBounds_toArray, List.set_cons_zero, List.set_cons_succ]
              refine wpAnyH_take (i := 4) (v := ?_) rfl (by kernel_rfl) (by kernel_rfl) (by kernel_rfl) (fun _ _ _ h => h) ?_ hHeld ?_; rotate_left; · (simp only [List.getElem_toArray, List.getElem_cons_succ, List.getElem_cons_zero]; refine Or.inl ⟨by rfl, ?_⟩; intro w hSw; go_simp; try with_reducible rfl)
              try simp only [List.getElem_toArray, List.getElem_cons_succ, List.getElem_cons_zero, Act.put, List.setIfInBounds_toArray, List.set_cons_zero, List.set_cons_succ]
              refine wpAnyH_take (i := 5) (v := ?_) rfl (by kernel_rfl) (by kernel_rfl) (by kernel_rfl) (fun _ _ _ h => h) ?_ hHeld ?_; rotate_left; · (simp only [List.getElem_toArray, List.getElem_cons_succ, List.getElem_cons_zero]; refine Or.inl ⟨by rfl, ?_⟩; intro w hSw; go_simp; try with_reducible rfl)
              try simp only [List.getElem_toArray, List.getElem_cons_succ, List.getElem_cons_zero, Act.put, List.setIfInBounds_toArray, List.set_cons_zero, List.set_cons_succ]
              refine wpAnyH_take (i := 6) (v := ?_) rfl (by kernel_rfl) (by kernel_rfl) (by kernel_rfl) (fun _ _ _ h => h) ?_ hHeld ?_; rotate_left; · (simp only [List.getElem_toArray, List.getElem_cons_succ, List.getElem_cons_zero]; refine Or.inl ⟨by rfl, ?_⟩; intro w hSw; go_simp; try with_reducible rfl)
              try simp only [List.getElem_toArray, List.getElem_cons_succ, List.getElem_cons_zero, Act.put, List.setIfInBounds_toArray, List.set_cons_zero, List.set_cons_succ]
              refine wpAnyH_take (i := 7) (v := ?_) rfl (by kernel_rfl) (by kernel_rfl) (by kernel_rfl) (fun _ _ _ h => h) ?_ hHeld ?_; rotate_left; · (simp only [List.getElem_toArray, List.getElem_cons_succ, List.getElem_cons_zero]; refine Or.inl ⟨by rfl, ?_⟩; intro w hSw; go_simp; try with_reducible rfl)
              try simp only [List.getElem_toArray, List.getElem_cons_succ, List.getElem_cons_zero, Act.put, List.setIfInBounds_toArray, List.set_cons_zero, List.set_cons_succ]
              refine wpAnyH_take (i := 8) (v := ?_) rfl (by kernel_rfl) (by kernel_rfl) (by kernel_rfl) (fun _ _ _ h => h) ?_ hHeld ?_; rotate_left; · (simp only [List.getElem_toArray, List.getElem_cons_succ, List.getElem_cons_zero]; refine Or.inl ⟨by rfl, ?_⟩; intro w hSw; go_simp; try with_reducible rfl)
              try simp only [List.getElem_toArray, List.getElem_cons_succ, List.getElem_cons_zero, Act.put, List.setIfInBounds_toArray, List.set_cons_zero, List.set_cons_succ]
              refine wpAnyH_ready (rs := [9]) (by kernel_rfl) (by simp) ?_
              refine AllReadyH.cons rfl (fun K' hK => ?_) AllReadyH.nil
              simp only [List.getElem_toArray, List.getElem_cons_succ, List.getElem_cons_zero]
              rw [if_pos (by rfl)]
              go_simp
              (go_at_call 86; refine (keq _ (Below.refl _ V).drew).mono ?_; rintro e w4 ⟨rfl, hb4⟩)
              refine hK.out _ _ trivial (fun _ => ?_)
              clear hK K'
              try simp only [List.getElem_toArray, List.getElem_cons_succ, List.getElem_cons_zero, Act.put, List.setIfInBounds_toArray, List.set_cons_zero, List.set_cons_succ]
              refine wpAnyH_take (i := 10) (v := ?_) rfl (by kernel_rfl) (by kernel_rfl) (by kernel_rfl) (fun _ _ _ h => h) ?_ hHeld ?_; rotate_left; · (simp only [List.getElem_toArray, List.getElem_cons_succ, List.getElem_cons_zero]; refine Or.inl ⟨by rfl, ?_⟩; intro w hSw; go_simp; try with_reducible rfl)
              try simp only [List.getElem_toArray, List.getElem_cons_succ, List.getElem_cons_zero, Act.put, List.setIfInBounds_toArray, List.set_cons_zero, List.set_cons_succ]
              refine wpAnyH_take (i := 11) (v := ?_) rfl (by kernel_rfl) (by kernel_rfl) (by kernel_rfl) (fun _ _ _ h => h) ?_ hHeld ?_; rotate_left; · (simp only [List.getElem_toArray, List.getElem_cons_succ, List.getElem_cons_zero]; refine Or.inl ⟨by rfl, ?_⟩; intro w hSw; go_simp; try with_reducible rfl)
              try simp only [List.getElem_toArray, List.getElem_cons_succ, List.getElem_cons_zero, Act.put, List.setIfInBounds_toArray, List.set_cons_zero, List.set_cons_succ]
              refine wpAnyH_done (by kernel_rfl) ?_ _
              have hbV : Below V.heap.size V w4 := (Below.refl _ V).drew.trans hb4
              have z1 : w4.heap[U]? = some (.cells ⟨upC N f⟩ 3 (0, 0)) := (hbV.block U (by have := HV.out.1; omega)).trans HV.out.2.2.2.1
              have z2 : w4.ownsRow (U + 1) 3 1 (.slice (some ⟨g, 0, none⟩) cp cp) cp (ints st) := owns_same HV.out.2.2.2.2.1 fun q hq => hbV.block q (own_block_lt HV.out.2.2.2.2.1 hq)
              have z3 : Below U w w4 := HV.out.2.2.1.trans (hbV.mono (by have := HV.out.1; omega))
              have z0 : upStep f st j 0 = f := upStep_zero f st j
              rw [← z0] at z1
              have hUZ0 : U < w4.heap.size := block_lt z1
              have HZ := Lib.hid (And.intro z1 (And.intro z2 z3))
              clear z1 z2 z3 z0 hb4 hbV
              go_wp2
              refine wp_loop_rounds 1 ?_
              rw [rounds_succ]
              go_wp2_with (first
                | (refine wpList_prefix_own rfl (.tmp 65) (.tmp 66) 41 3 Try.underlying41 Try.sizeOf3 rfl (U + 1) cp cp _ (ints st) rfl (by first | rfl | exact congrArg (Value.int .i64) (by omega)) HZ.out.2.1 (by omega) ?_; intro v6 hv6 hob6; rw [ints_take] at hv6; have HT := Lib.hid hv6; clear hv6)
                | (at_builtin; refine wpList_append_own _ rfl (.tmp 67) (.tmp 69) 41 rfl (U + 1) 3 i0 (.int .i64 0) 1 8 Try.underlying41 HI0.out.1 HI0.out.2.1 HI0.out.2.2.1 HI0.out.2.2.2 rfl (by decide) _ cp (ints (st.take cp)) rfl (owns_alloc HT.out) ⟨w4.heap.size, 0, none⟩ 1 1 [.int .i64 j] rfl rfl (cell_one' _ _ _) (by simp [Value.oneCell']) (by unfold maxLen; omega) (by omega) (by simp; omega) ?_; intro v5 w5 hown5 hgrow5 _
                   have hZ3 := HZ.out.2.2
                   have hUZ : U < w4.heap.size := block_lt HZ.out.1
                   have hb5 : Below U w w5 := (hZ3.alloc (Nat.le_of_lt hUZ) _).grown hgrow5 (by simp; omega) (fun q hq => Nat.le_of_succ_le (own_base HT.out hq))
                   have hu5 : w5.heap[U]? = some (.cells ⟨upC N (upStep f st j 0)⟩ 3 (0, 0)) := (hgrow5.block U (by simp; omega) (fun e => by have := own_base HT.out e.symm; omega)).trans ((Below.heap_alloc _ _ _ hUZ).trans HZ.out.1)
                   have H5 := Lib.hid (And.intro hown5 (And.intro hb5 hu5))
                   clear hown5 hgrow5 hb5 hu5 hZ3 hUZ)
                | fail)
              have hU := HV.out.2.2.2.2.2.2.1
              subst hU
              go_roundg (N - j)
              case rel =>
                have hst' := HN1.out.2.2
                have e : st' = st.take cp ++ [(j : Int)] := by rw [hst']; (try dsimp only); rw [hmm]; congr 2; have := HLS.out; omega
                have hlen : st'.length = cp + 1 := by rw [e]; exact take_snoc_len st cp j (by rw [← HLS.out]; omega)
                refine ⟨j + 1, st', upStep f st j 0, by go_num, by show _ ≤ _; omega, by show _ = _; omega, ?_, ?_⟩
                · have h := H5.out.1
                  rw [← ints_snoc, ← e, ← hlen] at h
                  exact h
                · have hb := H5.out.2.2
                  have hl := H5.out.2.1
                  have hpn := par_next HP.out HN1.out.1 HN1.out.2.1 hst' (w5 := w5) (by dsimp only; rw [hmm, ← HN.out]; exact hb) hl
                  dsimp only at hpn
                  rw [hmm] at hpn
                  exact hpn
              case measure => have := HK.out; omega
            · have hcl2 : L < cp := by omega
              have hmm : kidsN 0 = 0 := rfl
              have hwr : IntKind.i64.wrap ((L : Int) - 0) = (L : Int) := by rw [IntWalk.i64_in _ (by unfold maxLen at hcap; omega)]; omega
              have L0 : (0 : Int) ≤ (L : Int) := by omega
              have L1 : (L : Int) ≤ (cp : Int) := by omega
              have L2 : L ≤ cp := by omega
              have keq0 : ∀ (a1 a2 : Option Addr) (c d : Nat) (w : World), Calls Try.prog 86 #[.slice a1 0 c, .slice a2 0 d] w fun e w' => e = .returned (.bool true) ∧ Below w.heap.size w w' := fun a1 a2 c d w => (Try.slices_Equal_int_empty a1 a2 c 0 d w (by omega)).mono fun e w' hh => ⟨hh.1, by rw [hh.2]; exact Below.refl _ _⟩
              go_wp2
              obtain ⟨X, hX⟩ : ∃ X, X = Obj.cells #[.int .i64 0, .int .u64 (K.a.toNat : Int), .int .u64 (K.b.toNat : Int), .int .u64 (K.c.toNat : Int), .int .u64 (K.d.toNat : Int), .int .i64 x, .int .i64 y] 50 := ⟨_, rfl⟩
              rw [← hX]
              obtain ⟨V, hV⟩ : ∃ V, V = wr.alloc X := ⟨_, rfl⟩
              rw [← hV]
              obtain ⟨h, hh⟩ : ∃ h, h = wr.heap.size := ⟨_, rfl⟩
              rw [← hh]
              obtain ⟨U, hU⟩ : ∃ U, U = w.heap.size := ⟨_, rfl⟩
              rw [← hU]
              have hUh : U < h := by rw [hU, hh]; exact block_lt HP.out.blk
              have vz : V.heap.size = h + 1 := by rw [hV, hh]; simp
              have vX : V.heap[h]? = some X := by rw [hV, hh]; exact heap_alloc_new _ _
              have vo : ∀ q, q < h → V.heap[q]? = wr.heap[q]? := fun q hq => by rw [hV]; exact Below.heap_alloc _ _ _ (by omega)
              have vB : Below U w V := by rw [hV, hU]; exact HP.out.low.alloc HP.out.low.size _
              have vU : V.heap[U]? = some (.cells ⟨upC N f⟩ 3 (0, 0)) := by rw [HN.out]; refine (vo U hUh).trans ?_; rw [hU]; exact HP.out.blk
              have vown : V.ownsRow (U + 1) 3 1 (.slice (some ⟨g, 0, none⟩) L cp) L (ints st) := by rw [hU]; exact owns_same HOWN.out fun q hq => vo q (by rw [hh]; exact own_block_lt HOWN.out hq)
              have HV := Lib.hid (And.intro vz (And.intro vX (And.intro vB (And.intro vU (And.intro vown (And.intro hX (And.intro hU hh)))))))
              clear vz vX vo vB vU vown hX hU hh hV a0 a1 a2 a3 a4 a5 a6
              have keq : ∀ W', Below V.heap.size V W' → Calls Try.prog 86 #[.slice (some ⟨g, L, none⟩) 0 (cp - L), .slice (some ⟨h, 5, none⟩) 0 2] W' fun e w' => e = .returned (.bool true) ∧ Below W'.heap.size W' w' := fun W' _ => keq0 _ _ _ _ W'
              refine wp_region_held_drew (S := fun _ => True) (by kernel_rfl) trivial (fun hHeld => ?_)
              refine wpAnyH_take (i := 0) (v := ?_) rfl (by kernel_rfl) (by kernel_rfl) (by kernel_rfl) (fun _ _ _ h => h) ?_ hHeld ?_; rotate_left; · (simp only [List.getElem_toArray, List.getElem_cons_zero]; refine Or.inl ⟨by rfl, ?_⟩; intro w hSw; go_simp; try with_reducible rfl)
              try simp only [List.getElem_toArray, List.getElem_cons_zero, Act.put, List.setIfInBounds_toArray, List.set_cons_zero, List.set_cons_succ]
              refine wpAnyH_take (i := 1) (v := ?_) rfl (by kernel_rfl) (by kernel_rfl) (by kernel_rfl) (fun _ _ _ h => h) ?_ hHeld ?_; rotate_left; · (simp only [List.getElem_toArray, List.getElem_cons_succ, List.getElem_cons_zero]; refine Or.inl ⟨by rfl, ?_⟩; intro w hSw; go_simp; try with_reducible rfl)
              try simp only [List.getElem_toArray, List.getElem_cons_succ, List.getElem_cons_zero, Act.put, List.setIfInBounds_toArray, List.set_cons_zero, List.set_cons_succ]
              refine wpAnyH_take (i := 2) (v := ?_) rfl (by kernel_rfl) (by kernel_rfl) (by kernel_rfl) (fun _ _ _ h => h) ?_ hHeld ?_; rotate_left; · (simp only [List.getElem_toArray, List.getElem_cons_succ, List.getElem_cons_zero]; refine Or.inl ⟨by rfl, ?_⟩; intro w hSw; go_simp; try with_reducible rfl)
              try simp only [List.getElem_toArray, List.getElem_cons_succ, List.getElem_cons_zero, Act.put, List.setIfInBounds_toArray, List.set_cons_zero, List.set_cons_succ]
              refine wpAnyH_take (i := 3) (v := ?_) rfl (by kernel_rfl) (by kernel_rfl) (by kernel_rfl) (fun _ _ _ h => h) ?_ hHeld ?_; rotate_left; · (simp only [List.getElem_toArray, List.getElem_cons_succ, List.getElem_cons_zero]; refine Or.inl ⟨by rfl, ?_⟩; intro w hSw; go_simp; try with_reducible rfl)
              try simp only [List.getElem_toArray, List.getElem_cons_succ, List.getElem_cons_zero, Act.put, List.setIfInBounds_toArray, List.set_cons_zero, List.set_cons_succ]
              refine wpAnyH_take (i := 4) (v := ?_) rfl (by kernel_rfl) (by kernel_rfl) (by kernel_rfl) (fun _ _ _ h => h) ?_ hHeld ?_; rotate_left; · (simp only [List.getElem_toArray, List.getElem_cons_succ, List.getElem_cons_zero]; refine Or.inl ⟨by rfl, ?_⟩; intro w hSw; go_simp; try with_reducible rfl)
              try simp only [List.getElem_toArray, List.getElem_cons_succ, List.getElem_cons_zero, Act.put, List.setIfInBounds_toArray, List.set_cons_zero, List.set_cons_succ]
              refine wpAnyH_take (i := 5) (v := ?_) rfl (by kernel_rfl) (by kernel_rfl) (by kernel_rfl) (fun _ _ _ h => h) ?_ hHeld ?_; rotate_left; · (simp only [List.getElem_toArray, List.getElem_cons_succ, List.getElem_cons_zero]; refine Or.inl ⟨by rfl, ?_⟩; intro w hSw; go_simp; try with_reducible rfl)
              try simp only [List.getElem_toArray, List.getElem_cons_succ, List.getElem_cons_zero, Act.put, List.setIfInBounds_toArray, List.set_cons_zero, List.set_cons_succ]
              refine wpAnyH_take (i := 6) (v := ?_) rfl (by kernel_rfl) (by kernel_rfl) (by kernel_rfl) (fun _ _ _ h => h) ?_ hHeld ?_; rotate_left; · (simp only [List.getElem_toArray, List.getElem_cons_succ, List.getElem_cons_zero]; refine Or.inl ⟨by rfl, ?_⟩; intro w hSw; go_simp; try with_reducible rfl)
              try simp only [List.getElem_toArray, List.getElem_cons_succ, List.getElem_cons_zero, Act.put, List.setIfInBounds_toArray, List.set_cons_zero, List.set_cons_succ]
              refine wpAnyH_take (i := 7) (v := ?_) rfl (by kernel_rfl) (by kernel_rfl) (by kernel_rfl) (fun _ _ _ h => h) ?_ hHeld ?_; rotate_left; · (simp only [List.getElem_toArray, List.getElem_cons_succ, List.getElem_cons_zero]; refine Or.inl ⟨by rfl, ?_⟩; intro w hSw; go_simp; try with_reducible rfl)
              try simp only [List.getElem_toArray, List.getElem_cons_succ, List.getElem_cons_zero, Act.put, List.setIfInBounds_toArray, List.set_cons_zero, List.set_cons_succ]
              refine wpAnyH_take (i := 8) (v := ?_) rfl (by kernel_rfl) (by kernel_rfl) (by kernel_rfl) (fun _ _ _ h => h) ?_ hHeld ?_; rotate_left; · (simp only [List.getElem_toArray, List.getElem_cons_succ, List.getElem_cons_zero]; refine Or.inl ⟨by rfl, ?_⟩; intro w hSw; go_simp; try with_reducible rfl)
              try simp only [List.getElem_toArray, List.getElem_cons_succ, List.getElem_cons_zero, Act.put, List.setIfInBounds_toArray, List.set_cons_zero, List.set_cons_succ]
              refine wpAnyH_ready (rs := [9]) (by kernel_rfl) (by simp) ?_
              refine AllReadyH.cons rfl (fun K' hK => ?_) AllReadyH.nil
              simp only [List.getElem_toArray, List.getElem_cons_succ, List.getElem_cons_zero]
              rw [if_pos (by rfl)]
              go_simp
              (go_at_call 86; refine (keq _ (Below.refl _ V).drew).mono ?_; rintro e w4 ⟨rfl, hb4⟩)
              refine hK.out _ _ trivial (fun _ => ?_)
              clear hK K'
              try simp only [List.getElem_toArray, List.getElem_cons_succ, List.getElem_cons_zero, Act.put, List.setIfInBounds_toArray, List.set_cons_zero, List.set_cons_succ]
              refine wpAnyH_take (i := 10) (v := ?_) rfl (by kernel_rfl) (by kernel_rfl) (by kernel_rfl) (fun _ _ _ h => h) ?_ hHeld ?_; rotate_left; · (simp only [List.getElem_toArray, List.getElem_cons_succ, List.getElem_cons_zero]; refine Or.inl ⟨by rfl, ?_⟩; intro w hSw; go_simp; try with_reducible rfl)
              try simp only [List.getElem_toArray, List.getElem_cons_succ, List.getElem_cons_zero, Act.put, List.setIfInBounds_toArray, List.set_cons_zero, List.set_cons_succ]
              refine wpAnyH_take (i := 11) (v := ?_) rfl (by kernel_rfl) (by kernel_rfl) (by kernel_rfl) (fun _ _ _ h => h) ?_ hHeld ?_; rotate_left; · (simp only [List.getElem_toArray, List.getElem_cons_succ, List.getElem_cons_zero]; refine Or.inl ⟨by rfl, ?_⟩; intro w hSw; go_simp; try with_reducible rfl)
              try simp only [List.getElem_toArray, List.getElem_cons_succ, List.getElem_cons_zero, Act.put, List.setIfInBounds_toArray, List.set_cons_zero, List.set_cons_succ]
              refine wpAnyH_done (by kernel_rfl) ?_ _
              have hbV : Below V.heap.size V w4 := (Below.refl _ V).drew.trans hb4
              have z1 : w4.heap[U]? = some (.cells ⟨upC N f⟩ 3 (0, 0)) := (hbV.block U (by have := HV.out.1; omega)).trans HV.out.2.2.2.1
              have z2 : w4.ownsRow (U + 1) 3 1 (.slice (some ⟨g, 0, none⟩) L cp) L (ints st) := owns_same HV.out.2.2.2.2.1 fun q hq => hbV.block q (own_block_lt HV.out.2.2.2.2.1 hq)
              have z3 : Below U w w4 := HV.out.2.2.1.trans (hbV.mono (by have := HV.out.1; omega))
              have z0 : upStep f st j 0 = f := upStep_zero f st j
              rw [← z0] at z1
              have hUZ0 : U < w4.heap.size := block_lt z1
              have HZ := Lib.hid (And.intro z1 (And.intro z2 z3))
              clear z1 z2 z3 z0 hb4 hbV
              go_wp2
              refine wp_loop_rounds 1 ?_
              rw [rounds_succ]
              go_wp2_with (first
                | (refine wpList_prefix_own rfl (.tmp 65) (.tmp 66) 41 3 Try.underlying41 Try.sizeOf3 rfl (U + 1) L L _ (ints st) rfl (by first | rfl | exact congrArg (Value.int .i64) (by omega)) HZ.out.2.1 (by omega) ?_; intro v6 hv6 hob6; rw [ints_take] at hv6; have HT := Lib.hid hv6; clear hv6)
                | (at_builtin; refine wpList_append_own _ rfl (.tmp 67) (.tmp 69) 41 rfl (U + 1) 3 i0 (.int .i64 0) 1 8 Try.underlying41 HI0.out.1 HI0.out.2.1 HI0.out.2.2.1 HI0.out.2.2.2 rfl (by decide) _ L (ints (st.take L)) rfl (owns_alloc HT.out) ⟨w4.heap.size, 0, none⟩ 1 1 [.int .i64 j] rfl rfl (cell_one' _ _ _) (by simp [Value.oneCell']) (by unfold maxLen; omega) (by omega) (by simp; omega) ?_; intro v5 w5 hown5 hgrow5 _
                   have hZ3 := HZ.out.2.2
                   have hUZ : U < w4.heap.size := block_lt HZ.out.1
                   have hb5 : Below U w w5 := (hZ3.alloc (Nat.le_of_lt hUZ) _).grown hgrow5 (by simp; omega) (fun q hq => Nat.le_of_succ_le (own_base HT.out hq))
                   have hu5 : w5.heap[U]? = some (.cells ⟨upC N (upStep f st j 0)⟩ 3 (0, 0)) := (hgrow5.block U (by simp; omega) (fun e => by have := own_base HT.out e.symm; omega)).trans ((Below.heap_alloc _ _ _ hUZ).trans HZ.out.1)
                   have H5 := Lib.hid (And.intro hown5 (And.intro hb5 hu5))
                   clear hown5 hgrow5 hb5 hu5 hZ3 hUZ)
                | fail)
              have hU := HV.out.2.2.2.2.2.2.1
              subst hU
              go_roundg (N - j)
              case rel =>
                have hst' := HN1.out.2.2
                have e : st' = st.take L ++ [(j : Int)] := by rw [hst']; (try dsimp only); rw [hmm]; congr 2; have := HLS.out; omega
                have hlen : st'.length = L + 1 := by rw [e]; exact take_snoc_len st L j (by rw [← HLS.out]; omega)
                refine ⟨j + 1, st', upStep f st j 0, by go_num, by show _ ≤ _; omega, by show _ = _; omega, ?_, ?_⟩
                · have h := H5.out.1
                  rw [← ints_snoc, ← e, ← hlen] at h
                  exact h
                · have hb := H5.out.2.2
                  have hl := H5.out.2.1
                  have hpn := par_next HP.out HN1.out.1 HN1.out.2.1 hst' (w5 := w5) (by dsimp only; rw [hmm, ← HN.out]; exact hb) hl
                  dsimp only at hpn
                  rw [hmm] at hpn
                  exact hpn
              case measure => have := HK.out; omega
        · clear p0 p1 p2 hm hm0 hm1 hx hy
          have hown0 := HOWN.out.2
          rcases hown0 with ⟨hv0, h00⟩ | ⟨g, cap2, cur, hv0, hBg, hg, -⟩
          · cases hv0
            have hmm : kidsN 1 = 0 := rfl
            have keq0 : ∀ (a1 a2 : Option Addr) (c d : Nat) (w : World), Calls Try.prog 86 #[.slice a1 0 c, .slice a2 0 d] w fun e w' => e = .returned (.bool true) ∧ Below w.heap.size w w' := fun a1 a2 c d w => (Try.slices_Equal_int_empty a1 a2 c 0 d w (by omega)).mono fun e w' hh => ⟨hh.1, by rw [hh.2]; exact Below.refl _ _⟩
            go_wp2
            obtain ⟨X, hX⟩ : ∃ X, X = Obj.cells #[.int .i64 1, .int .u64 (K.a.toNat : Int), .int .u64 (K.b.toNat : Int), .int .u64 (K.c.toNat : Int), .int .u64 (K.d.toNat : Int), .int .i64 x, .int .i64 y] 50 := ⟨_, rfl⟩
            rw [← hX]
            obtain ⟨V, hV⟩ : ∃ V, V = wr.alloc X := ⟨_, rfl⟩
            rw [← hV]
            obtain ⟨h, hh⟩ : ∃ h, h = wr.heap.size := ⟨_, rfl⟩
            rw [← hh]
            obtain ⟨U, hU⟩ : ∃ U, U = w.heap.size := ⟨_, rfl⟩
            rw [← hU]
            have hUh : U < h := by rw [hU, hh]; exact block_lt HP.out.blk
            have vz : V.heap.size = h + 1 := by rw [hV, hh]; simp
            have vX : V.heap[h]? = some X := by rw [hV, hh]; exact heap_alloc_new _ _
            have vo : ∀ q, q < h → V.heap[q]? = wr.heap[q]? := fun q hq => by rw [hV]; exact Below.heap_alloc _ _ _ (by omega)
            have vB : Below U w V := by rw [hV, hU]; exact HP.out.low.alloc HP.out.low.size _
            have vU : V.heap[U]? = some (.cells ⟨upC N f⟩ 3 (0, 0)) := by rw [HN.out]; refine (vo U hUh).trans ?_; rw [hU]; exact HP.out.blk
            have vown : V.ownsRow (U + 1) 3 1 (.slice none 0 0) 0 (ints st) := by rw [hU]; exact owns_same HOWN.out fun q hq => vo q (by rw [hh]; exact own_block_lt HOWN.out hq)
            have HV := Lib.hid (And.intro vz (And.intro vX (And.intro vB (And.intro vU (And.intro vown (And.intro hX (And.intro hU hh)))))))
            clear vz vX vo vB vU vown hX hU hh hV a0 a1 a2 a3 a4 a5 a6
            have keq : ∀ W', Below V.heap.size V W' → Calls Try.prog 86 #[.slice none 0 0, .slice (some ⟨h, 5, none⟩) 0 2] W' fun e w' => e = .returned (.bool true) ∧ Below W'.heap.size W' w' := fun W' _ => keq0 _ _ _ _ W'
            refine wp_region_held_drew (S := fun _ => True) (by kernel_rfl) trivial (fun hHeld => ?_)
            refine wpAnyH_take (i := 0) (v := ?_) rfl (by kernel_rfl) (by kernel_rfl) (by kernel_rfl) (fun _ _ _ h => h) ?_ hHeld ?_; rotate_left; · (simp only [List.getElem_toArray, List.getElem_cons_zero]; refine Or.inl ⟨by rfl, ?_⟩; intro w hSw; go_simp; try with_reducible rfl)
            try simp only [List.getElem_toArray, List.getElem_cons_zero, Act.put, List.setIfInBounds_toArray, List.set_cons_zero, List.set_cons_succ]
            refine wpAnyH_take (i := 1) (v := ?_) rfl (by kernel_rfl) (by kernel_rfl) (by kernel_rfl) (fun _ _ _ h => h) ?_ hHeld ?_; rotate_left; · (simp only [List.getElem_toArray, List.getElem_cons_succ, List.getElem_cons_zero]; refine Or.inl ⟨by rfl, ?_⟩; intro w hSw; go_simp; try with_reducible rfl)
            try simp only [List.getElem_toArray, List.getElem_cons_succ, List.getElem_cons_zero, Act.put, List.setIfInBounds_toArray, List.set_cons_zero, List.set_cons_succ]
            refine wpAnyH_take (i := 2) (v := ?_) rfl (by kernel_rfl) (by kernel_rfl) (by kernel_rfl) (fun _ _ _ h => h) ?_ hHeld ?_; rotate_left; · (simp only [List.getElem_toArray, List.getElem_cons_succ, List.getElem_cons_zero]; refine Or.inl ⟨by rfl, ?_⟩; intro w hSw; go_simp; try with_reducible rfl)
            try simp only [List.getElem_toArray, List.getElem_cons_succ, List.getElem_cons_zero, Act.put, List.setIfInBounds_toArray, List.set_cons_zero, List.set_cons_succ]
            refine wpAnyH_take (i := 3) (v := ?_) rfl (by kernel_rfl) (by kernel_rfl) (by kernel_rfl) (fun _ _ _ h => h) ?_ hHeld ?_; rotate_left; · (simp only [List.getElem_toArray, List.getElem_cons_succ, List.getElem_cons_zero]; refine Or.inl ⟨by rfl, ?_⟩; intro w hSw; go_simp; try with_reducible rfl)
            try simp only [List.getElem_toArray, List.getElem_cons_succ, List.getElem_cons_zero, Act.put, List.setIfInBounds_toArray, List.set_cons_zero, List.set_cons_succ]
            refine wpAnyH_take (i := 4) (v := ?_) rfl (by kernel_rfl) (by kernel_rfl) (by kernel_rfl) (fun _ _ _ h => h) ?_ hHeld ?_; rotate_left; · (simp only [List.getElem_toArray, List.getElem_cons_succ, List.getElem_cons_zero]; refine Or.inl ⟨by rfl, ?_⟩; intro w hSw; go_simp; try with_reducible rfl)
            try simp only [List.getElem_toArray, List.getElem_cons_succ, List.getElem_cons_zero, Act.put, List.setIfInBounds_toArray, List.set_cons_zero, List.set_cons_succ]
            refine wpAnyH_take (i := 5) (v := ?_) rfl (by kernel_rfl) (by kernel_rfl) (by kernel_rfl) (fun _ _ _ h => h) ?_ hHeld ?_; rotate_left; · (simp only [List.getElem_toArray, List.getElem_cons_succ, List.getElem_cons_zero]; refine Or.inl ⟨by rfl, ?_⟩; intro w hSw; go_simp; try with_reducible rfl)
            try simp only [List.getElem_toArray, List.getElem_cons_succ, List.getElem_cons_zero, Act.put, List.setIfInBounds_toArray, List.set_cons_zero, List.set_cons_succ]
            refine wpAnyH_take (i := 6) (v := ?_) rfl (by kernel_rfl) (by kernel_rfl) (by kernel_rfl) (fun _ _ _ h => h) ?_ hHeld ?_; rotate_left; · (simp only [List.getElem_toArray, List.getElem_cons_succ, List.getElem_cons_zero]; refine Or.inl ⟨by rfl, ?_⟩; intro w hSw; go_simp; try with_reducible rfl)
            try simp only [List.getElem_toArray, List.getElem_cons_succ, List.getElem_cons_zero, Act.put, List.setIfInBounds_toArray, List.set_cons_zero, List.set_cons_succ]
            refine wpAnyH_take (i := 7) (v := ?_) rfl (by kernel_rfl) (by kernel_rfl) (by kernel_rfl) (fun _ _ _ h => h) ?_ hHeld ?_; rotate_left; · (simp only [List.getElem_toArray, List.getElem_cons_succ, List.getElem_cons_zero]; refine Or.inl ⟨by rfl, ?_⟩; intro w hSw; go_simp; try with_reducible rfl)
            try simp only [List.getElem_toArray, List.getElem_cons_succ, List.getElem_cons_zero, Act.put, List.setIfInBounds_toArray, List.set_cons_zero, List.set_cons_succ]
            refine wpAnyH_take (i := 8) (v := ?_) rfl (by kernel_rfl) (by kernel_rfl) (by kernel_rfl) (fun _ _ _ h => h) ?_ hHeld ?_; rotate_left; · (simp only [List.getElem_toArray, List.getElem_cons_succ, List.getElem_cons_zero]; refine Or.inl ⟨by rfl, ?_⟩; intro w hSw; go_simp; try with_reducible rfl)
            try simp only [List.getElem_toArray, List.getElem_cons_succ, List.getElem_cons_zero, Act.put, List.setIfInBounds_toArray, List.set_cons_zero, List.set_cons_succ]
            refine wpAnyH_ready (rs := [9]) (by kernel_rfl) (by simp) ?_
            refine AllReadyH.cons rfl (fun K' hK => ?_) AllReadyH.nil
            simp only [List.getElem_toArray, List.getElem_cons_succ, List.getElem_cons_zero]
            rw [if_pos (by rfl)]
            go_simp
            (go_at_call 86; refine (keq _ (Below.refl _ V).drew).mono ?_; rintro e w4 ⟨rfl, hb4⟩)
            refine hK.out _ _ trivial (fun _ => ?_)
            clear hK K'
            try simp only [List.getElem_toArray, List.getElem_cons_succ, List.getElem_cons_zero, Act.put, List.setIfInBounds_toArray, List.set_cons_zero, List.set_cons_succ]
            refine wpAnyH_take (i := 10) (v := ?_) rfl (by kernel_rfl) (by kernel_rfl) (by kernel_rfl) (fun _ _ _ h => h) ?_ hHeld ?_; rotate_left; · (simp only [List.getElem_toArray, List.getElem_cons_succ, List.getElem_cons_zero]; refine Or.inl ⟨by rfl, ?_⟩; intro w hSw; go_simp; try with_reducible rfl)
            try simp only [List.getElem_toArray, List.getElem_cons_succ, List.getElem_cons_zero, Act.put, List.setIfInBounds_toArray, List.set_cons_zero, List.set_cons_succ]
            refine wpAnyH_take (i := 11) (v := ?_) rfl (by kernel_rfl) (by kernel_rfl) (by kernel_rfl) (fun _ _ _ h => h) ?_ hHeld ?_; rotate_left; · (simp only [List.getElem_toArray, List.getElem_cons_succ, List.getElem_cons_zero]; refine Or.inl ⟨by rfl, ?_⟩; intro w hSw; go_simp; try with_reducible rfl)
            try simp only [List.getElem_toArray, List.getElem_cons_succ, List.getElem_cons_zero, Act.put, List.setIfInBounds_toArray, List.set_cons_zero, List.set_cons_succ]
            refine wpAnyH_done (by kernel_rfl) ?_ _
            have hbV : Below V.heap.size V w4 := (Below.refl _ V).drew.trans hb4
            have z1 : w4.heap[U]? = some (.cells ⟨upC N f⟩ 3 (0, 0)) := (hbV.block U (by have := HV.out.1; omega)).trans HV.out.2.2.2.1
            have z2 : w4.ownsRow (U + 1) 3 1 (.slice none 0 0) 0 (ints st) := owns_same HV.out.2.2.2.2.1 fun q hq => hbV.block q (own_block_lt HV.out.2.2.2.2.1 hq)
            have z3 : Below U w w4 := HV.out.2.2.1.trans (hbV.mono (by have := HV.out.1; omega))
            have z0 : upStep f st j 0 = f := upStep_zero f st j
            rw [← z0] at z1
            have hUZ0 : U < w4.heap.size := block_lt z1
            have HZ := Lib.hid (And.intro z1 (And.intro z2 z3))
            clear z1 z2 z3 z0 hb4 hbV
            go_wp2
            refine wp_loop_rounds 1 ?_
            rw [rounds_succ]
            go_wp2_with (first
              | (refine wpList_prefix_own rfl (.tmp 65) (.tmp 66) 41 3 Try.underlying41 Try.sizeOf3 rfl (U + 1) 0 0 _ (ints st) rfl (by first | rfl | exact congrArg (Value.int .i64) (by omega)) HZ.out.2.1 (by omega) ?_; intro v6 hv6 hob6; rw [ints_take] at hv6; have HT := Lib.hid hv6; clear hv6)
              | (at_builtin; refine wpList_append_own _ rfl (.tmp 67) (.tmp 69) 41 rfl (U + 1) 3 i0 (.int .i64 0) 1 8 Try.underlying41 HI0.out.1 HI0.out.2.1 HI0.out.2.2.1 HI0.out.2.2.2 rfl (by decide) _ 0 (ints (st.take 0)) rfl (owns_alloc HT.out) ⟨w4.heap.size, 0, none⟩ 1 1 [.int .i64 j] rfl rfl (cell_one' _ _ _) (by simp [Value.oneCell']) (by unfold maxLen; omega) (by omega) (by simp; omega) ?_; intro v5 w5 hown5 hgrow5 _
                 have hZ3 := HZ.out.2.2
                 have hUZ : U < w4.heap.size := block_lt HZ.out.1
                 have hb5 : Below U w w5 := (hZ3.alloc (Nat.le_of_lt hUZ) _).grown hgrow5 (by simp; omega) (fun q hq => Nat.le_of_succ_le (own_base HT.out hq))
                 have hu5 : w5.heap[U]? = some (.cells ⟨upC N (upStep f st j 0)⟩ 3 (0, 0)) := (hgrow5.block U (by simp; omega) (fun e => by have := own_base HT.out e.symm; omega)).trans ((Below.heap_alloc _ _ _ hUZ).trans HZ.out.1)
                 have H5 := Lib.hid (And.intro hown5 (And.intro hb5 hu5))
                 clear hown5 hgrow5 hb5 hu5 hZ3 hUZ)
              | fail)
            have hU := HV.out.2.2.2.2.2.2.1
            subst hU
            go_roundg (N - j)
            case rel =>
              have hst' := HN1.out.2.2
              have e : st' = st.take 0 ++ [(j : Int)] := by rw [hst']; (try dsimp only); rw [hmm]; congr 2; have := HLS.out; omega
              have hlen : st'.length = 0 + 1 := by rw [e]; exact take_snoc_len st 0 j (by rw [← HLS.out]; omega)
              refine ⟨j + 1, st', upStep f st j 0, by go_num, by show _ ≤ _; omega, by show _ = _; omega, ?_, ?_⟩
              · have h := H5.out.1
                rw [← ints_snoc, ← e, ← hlen] at h
                exact h
              · have hb := H5.out.2.2
                have hl := H5.out.2.1
                have hpn := par_next HP.out HN1.out.1 HN1.out.2.1 hst' (w5 := w5) (by dsimp only; rw [hmm, ← HN.out]; exact hb) hl
                dsimp only at hpn
                rw [hmm] at hpn
                exact hpn
            case measure => have := HK.out; omega
          · cases hv0
            have hgl := block_lt hg
            clear hg
            by_cases hcl : cp = L
            · subst hcl
              have hmm : kidsN 1 = 0 := rfl
              have hwr : IntKind.i64.wrap ((cp : Int) - 0) = (cp : Int) := by rw [IntWalk.i64_in _ (by unfold maxLen at hcap; omega)]; omega
              have L0 : (0 : Int) ≤ (cp : Int) := by omega
              have keq0 : ∀ (a1 a2 : Option Addr) (c d : Nat) (w : World), Calls Try.prog 86 #[.slice a1 0 c, .slice a2 0 d] w fun e w' => e = .returned (.bool true) ∧ Below w.heap.size w w' := fun a1 a2 c d w => (Try.slices_Equal_int_empty a1 a2 c 0 d w (by omega)).mono fun e w' hh => ⟨hh.1, by rw [hh.2]; exact Below.refl _ _⟩
              go_wp2
              obtain ⟨X, hX⟩ : ∃ X, X = Obj.cells #[.int .i64 1, .int .u64 (K.a.toNat : Int), .int .u64 (K.b.toNat : Int), .int .u64 (K.c.toNat : Int), .int .u64 (K.d.toNat : Int), .int .i64 x, .int .i64 y] 50 := ⟨_, rfl⟩
              rw [← hX]
              obtain ⟨V, hV⟩ : ∃ V, V = wr.alloc X := ⟨_, rfl⟩
              rw [← hV]
              obtain ⟨h, hh⟩ : ∃ h, h = wr.heap.size := ⟨_, rfl⟩
              rw [← hh]
              obtain ⟨U, hU⟩ : ∃ U, U = w.heap.size := ⟨_, rfl⟩
              rw [← hU]
              have hUh : U < h := by rw [hU, hh]; exact block_lt HP.out.blk
              have vz : V.heap.size = h + 1 := by rw [hV, hh]; simp
              have vX : V.heap[h]? = some X := by rw [hV, hh]; exact heap_alloc_new _ _
              have vo : ∀ q, q < h → V.heap[q]? = wr.heap[q]? := fun q hq => by rw [hV]; exact Below.heap_alloc _ _ _ (by omega)
              have vB : Below U w V := by rw [hV, hU]; exact HP.out.low.alloc HP.out.low.size _
              have vU : V.heap[U]? = some (.cells ⟨upC N f⟩ 3 (0, 0)) := by rw [HN.out]; refine (vo U hUh).trans ?_; rw [hU]; exact HP.out.blk
              have vown : V.ownsRow (U + 1) 3 1 (.slice (some ⟨g, 0, none⟩) cp cp) cp (ints st) := by rw [hU]; exact owns_same HOWN.out fun q hq => vo q (by rw [hh]; exact own_block_lt HOWN.out hq)
              have HV := Lib.hid (And.intro vz (And.intro vX (And.intro vB (And.intro vU (And.intro vown (And.intro hX (And.intro hU hh)))))))
              clear vz vX vo vB vU vown hX hU hh hV a0 a1 a2 a3 a4 a5 a6
              have keq : ∀ W', Below V.heap.size V W' → Calls Try.prog 86 #[.slice (some ⟨g, 0, none⟩) 0 0, .slice (some ⟨h, 5, none⟩) 0 2] W' fun e w' => e = .returned (.bool true) ∧ Below W'.heap.size W' w' := fun W' _ => keq0 _ _ _ _ W'
              refine wp_region_held_drew (S := fun _ => True) (by kernel_rfl) trivial (fun hHeld => ?_)
              refine wpAnyH_take (i := 0) (v := ?_) rfl (by kernel_rfl) (by kernel_rfl) (by kernel_rfl) (fun _ _ _ h => h) ?_ hHeld ?_; rotate_left; · (simp only [List.getElem_toArray, List.getElem_cons_zero]; refine Or.inl ⟨by rfl, ?_⟩; intro w hSw; go_simp; try with_reducible rfl)
              try simp only [List.getElem_toArray, List.getElem_cons_zero, Act.put, List.setIfInBounds_toArray, List.set_cons_zero, List.set_cons_succ]
              refine wpAnyH_take (i := 1) (v := ?_) rfl (by kernel_rfl) (by kernel_rfl) (by kernel_rfl) (fun _ _ _ h => h) ?_ hHeld ?_; rotate_left; · (simp only [List.getElem_toArray, List.getElem_cons_succ, List.getElem_cons_zero]; refine Or.inl ⟨by rfl, ?_⟩; intro w hSw; go_simp; try with_reducible rfl)
              try simp only [List.getElem_toArray, List.getElem_cons_succ, List.getElem_cons_zero, Act.put, List.setIfInBounds_toArray, List.set_cons_zero, List.set_cons_succ]
              refine wpAnyH_take (i := 2) (v := ?_) rfl (by kernel_rfl) (by kernel_rfl) (by kernel_rfl) (fun _ _ _ h => h) ?_ hHeld ?_; rotate_left; · (simp only [List.getElem_toArray, List.getElem_cons_succ, List.getElem_cons_zero]; refine Or.inl ⟨by rfl, ?_⟩; intro w hSw; go_simp; try with_reducible rfl)
              try simp only [List.getElem_toArray, List.getElem_cons_succ, List.getElem_cons_zero, Act.put, List.setIfInBounds_toArray, List.set_cons_zero, List.set_cons_succ]
              refine wpAnyH_take (i := 3) (v := ?_) rfl (by kernel_rfl) (by kernel_rfl) (by kernel_rfl) (fun _ _ _ h => h) ?_ hHeld ?_; rotate_left; · (simp only [List.getElem_toArray, List.getElem_cons_succ, List.getElem_cons_zero]; refine Or.inl ⟨by rfl, ?_⟩; intro w hSw; go_simp; try with_reducible rfl)
              try simp only [List.getElem_toArray, List.getElem_cons_succ, List.getElem_cons_zero, Act.put, List.setIfInBounds_toArray, List.set_cons_zero, List.set_cons_succ]
              refine wpAnyH_take (i := 4) (v := ?_) rfl (by kernel_rfl) (by kernel_rfl) (by kernel_rfl) (fun _ _ _ h => h) ?_ hHeld ?_; rotate_left; · (simp only [List.getElem_toArray, List.getElem_cons_succ, List.getElem_cons_zero]; refine Or.inl ⟨by rfl, ?_⟩; intro w hSw; go_simp; try with_reducible rfl)
              try simp only [List.getElem_toArray, List.getElem_cons_succ, List.getElem_cons_zero, Act.put, List.setIfInBounds_toArray, List.set_cons_zero, List.set_cons_succ]
              refine wpAnyH_take (i := 5) (v := ?_) rfl (by kernel_rfl) (by kernel_rfl) (by kernel_rfl) (fun _ _ _ h => h) ?_ hHeld ?_; rotate_left; · (simp only [List.getElem_toArray, List.getElem_cons_succ, List.getElem_cons_zero]; refine Or.inl ⟨by rfl, ?_⟩; intro w hSw; go_simp; try with_reducible rfl)
              try simp only [List.getElem_toArray, List.getElem_cons_succ, List.getElem_cons_zero, Act.put, List.setIfInBounds_toArray, List.set_cons_zero, List.set_cons_succ]
              refine wpAnyH_take (i := 6) (v := ?_) rfl (by kernel_rfl) (by kernel_rfl) (by kernel_rfl) (fun _ _ _ h => h) ?_ hHeld ?_; rotate_left; · (simp only [List.getElem_toArray, List.getElem_cons_succ, List.getElem_cons_zero]; refine Or.inl ⟨by rfl, ?_⟩; intro w hSw; go_simp; try with_reducible rfl)
              try simp only [List.getElem_toArray, List.getElem_cons_succ, List.getElem_cons_zero, Act.put, List.setIfInBounds_toArray, List.set_cons_zero, List.set_cons_succ]
              refine wpAnyH_take (i := 7) (v := ?_) rfl (by kernel_rfl) (by kernel_rfl) (by kernel_rfl) (fun _ _ _ h => h) ?_ hHeld ?_; rotate_left; · (simp only [List.getElem_toArray, List.getElem_cons_succ, List.getElem_cons_zero]; refine Or.inl ⟨by rfl, ?_⟩; intro w hSw; go_simp; try with_reducible rfl)
              try simp only [List.getElem_toArray, List.getElem_cons_succ, List.getElem_cons_zero, Act.put, List.setIfInBounds_toArray, List.set_cons_zero, List.set_cons_succ]
              refine wpAnyH_take (i := 8) (v := ?_) rfl (by kernel_rfl) (by kernel_rfl) (by kernel_rfl) (fun _ _ _ h => h) ?_ hHeld ?_; rotate_left; · (simp only [List.getElem_toArray, List.getElem_cons_succ, List.getElem_cons_zero]; refine Or.inl ⟨by rfl, ?_⟩; intro w hSw; go_simp; try with_reducible rfl)
              try simp only [List.getElem_toArray, List.getElem_cons_succ, List.getElem_cons_zero, Act.put, List.setIfInBounds_toArray, List.set_cons_zero, List.set_cons_succ]
              refine wpAnyH_ready (rs := [9]) (by kernel_rfl) (by simp) ?_
              refine AllReadyH.cons rfl (fun K' hK => ?_) AllReadyH.nil
              simp only [List.getElem_toArray, List.getElem_cons_succ, List.getElem_cons_zero]
              rw [if_pos (by rfl)]
              go_simp
              (go_at_call 86; refine (keq _ (Below.refl _ V).drew).mono ?_; rintro e w4 ⟨rfl, hb4⟩)
              refine hK.out _ _ trivial (fun _ => ?_)
              clear hK K'
              try simp only [List.getElem_toArray, List.getElem_cons_succ, List.getElem_cons_zero, Act.put, List.setIfInBounds_toArray, List.set_cons_zero, List.set_cons_succ]
              refine wpAnyH_take (i := 10) (v := ?_) rfl (by kernel_rfl) (by kernel_rfl) (by kernel_rfl) (fun _ _ _ h => h) ?_ hHeld ?_; rotate_left; · (simp only [List.getElem_toArray, List.getElem_cons_succ, List.getElem_cons_zero]; refine Or.inl ⟨by rfl, ?_⟩; intro w hSw; go_simp; try with_reducible rfl)
              try simp only [List.getElem_toArray, List.getElem_cons_succ, List.getElem_cons_zero, Act.put, List.setIfInBounds_toArray, List.set_cons_zero, List.set_cons_succ]
              refine wpAnyH_take (i := 11) (v := ?_) rfl (by kernel_rfl) (by kernel_rfl) (by kernel_rfl) (fun _ _ _ h => h) ?_ hHeld ?_; rotate_left; · (simp only [List.getElem_toArray, List.getElem_cons_succ, List.getElem_cons_zero]; refine Or.inl ⟨by rfl, ?_⟩; intro w hSw; go_simp; try with_reducible rfl)
              try simp only [List.getElem_toArray, List.getElem_cons_succ, List.getElem_cons_zero, Act.put, List.setIfInBounds_toArray, List.set_cons_zero, List.set_cons_succ]
              refine wpAnyH_done (by kernel_rfl) ?_ _
              have hbV : Below V.heap.size V w4 := (Below.refl _ V).drew.trans hb4
              have z1 : w4.heap[U]? = some (.cells ⟨upC N f⟩ 3 (0, 0)) := (hbV.block U (by have := HV.out.1; omega)).trans HV.out.2.2.2.1
              have z2 : w4.ownsRow (U + 1) 3 1 (.slice (some ⟨g, 0, none⟩) cp cp) cp (ints st) := owns_same HV.out.2.2.2.2.1 fun q hq => hbV.block q (own_block_lt HV.out.2.2.2.2.1 hq)
              have z3 : Below U w w4 := HV.out.2.2.1.trans (hbV.mono (by have := HV.out.1; omega))
              have z0 : upStep f st j 0 = f := upStep_zero f st j
              rw [← z0] at z1
              have hUZ0 : U < w4.heap.size := block_lt z1
              have HZ := Lib.hid (And.intro z1 (And.intro z2 z3))
              clear z1 z2 z3 z0 hb4 hbV
              go_wp2
              refine wp_loop_rounds 1 ?_
              rw [rounds_succ]
              go_wp2_with (first
                | (refine wpList_prefix_own rfl (.tmp 65) (.tmp 66) 41 3 Try.underlying41 Try.sizeOf3 rfl (U + 1) cp cp _ (ints st) rfl (by first | rfl | exact congrArg (Value.int .i64) (by omega)) HZ.out.2.1 (by omega) ?_; intro v6 hv6 hob6; rw [ints_take] at hv6; have HT := Lib.hid hv6; clear hv6)
                | (at_builtin; refine wpList_append_own _ rfl (.tmp 67) (.tmp 69) 41 rfl (U + 1) 3 i0 (.int .i64 0) 1 8 Try.underlying41 HI0.out.1 HI0.out.2.1 HI0.out.2.2.1 HI0.out.2.2.2 rfl (by decide) _ cp (ints (st.take cp)) rfl (owns_alloc HT.out) ⟨w4.heap.size, 0, none⟩ 1 1 [.int .i64 j] rfl rfl (cell_one' _ _ _) (by simp [Value.oneCell']) (by unfold maxLen; omega) (by omega) (by simp; omega) ?_; intro v5 w5 hown5 hgrow5 _
                   have hZ3 := HZ.out.2.2
                   have hUZ : U < w4.heap.size := block_lt HZ.out.1
                   have hb5 : Below U w w5 := (hZ3.alloc (Nat.le_of_lt hUZ) _).grown hgrow5 (by simp; omega) (fun q hq => Nat.le_of_succ_le (own_base HT.out hq))
                   have hu5 : w5.heap[U]? = some (.cells ⟨upC N (upStep f st j 0)⟩ 3 (0, 0)) := (hgrow5.block U (by simp; omega) (fun e => by have := own_base HT.out e.symm; omega)).trans ((Below.heap_alloc _ _ _ hUZ).trans HZ.out.1)
                   have H5 := Lib.hid (And.intro hown5 (And.intro hb5 hu5))
                   clear hown5 hgrow5 hb5 hu5 hZ3 hUZ)
                | fail)
              have hU := HV.out.2.2.2.2.2.2.1
              subst hU
              go_roundg (N - j)
              case rel =>
                have hst' := HN1.out.2.2
                have e : st' = st.take cp ++ [(j : Int)] := by rw [hst']; (try dsimp only); rw [hmm]; congr 2; have := HLS.out; omega
                have hlen : st'.length = cp + 1 := by rw [e]; exact take_snoc_len st cp j (by rw [← HLS.out]; omega)
                refine ⟨j + 1, st', upStep f st j 0, by go_num, by show _ ≤ _; omega, by show _ = _; omega, ?_, ?_⟩
                · have h := H5.out.1
                  rw [← ints_snoc, ← e, ← hlen] at h
                  exact h
                · have hb := H5.out.2.2
                  have hl := H5.out.2.1
                  have hpn := par_next HP.out HN1.out.1 HN1.out.2.1 hst' (w5 := w5) (by dsimp only; rw [hmm, ← HN.out]; exact hb) hl
                  dsimp only at hpn
                  rw [hmm] at hpn
                  exact hpn
              case measure => have := HK.out; omega
            · have hcl2 : L < cp := by omega
              have hmm : kidsN 1 = 0 := rfl
              have hwr : IntKind.i64.wrap ((L : Int) - 0) = (L : Int) := by rw [IntWalk.i64_in _ (by unfold maxLen at hcap; omega)]; omega
              have L0 : (0 : Int) ≤ (L : Int) := by omega
              have L1 : (L : Int) ≤ (cp : Int) := by omega
              have L2 : L ≤ cp := by omega
              have keq0 : ∀ (a1 a2 : Option Addr) (c d : Nat) (w : World), Calls Try.prog 86 #[.slice a1 0 c, .slice a2 0 d] w fun e w' => e = .returned (.bool true) ∧ Below w.heap.size w w' := fun a1 a2 c d w => (Try.slices_Equal_int_empty a1 a2 c 0 d w (by omega)).mono fun e w' hh => ⟨hh.1, by rw [hh.2]; exact Below.refl _ _⟩
              go_wp2
              obtain ⟨X, hX⟩ : ∃ X, X = Obj.cells #[.int .i64 1, .int .u64 (K.a.toNat : Int), .int .u64 (K.b.toNat : Int), .int .u64 (K.c.toNat : Int), .int .u64 (K.d.toNat : Int), .int .i64 x, .int .i64 y] 50 := ⟨_, rfl⟩
              rw [← hX]
              obtain ⟨V, hV⟩ : ∃ V, V = wr.alloc X := ⟨_, rfl⟩
              rw [← hV]
              obtain ⟨h, hh⟩ : ∃ h, h = wr.heap.size := ⟨_, rfl⟩
              rw [← hh]
              obtain ⟨U, hU⟩ : ∃ U, U = w.heap.size := ⟨_, rfl⟩
              rw [← hU]
              have hUh : U < h := by rw [hU, hh]; exact block_lt HP.out.blk
              have vz : V.heap.size = h + 1 := by rw [hV, hh]; simp
              have vX : V.heap[h]? = some X := by rw [hV, hh]; exact heap_alloc_new _ _
              have vo : ∀ q, q < h → V.heap[q]? = wr.heap[q]? := fun q hq => by rw [hV]; exact Below.heap_alloc _ _ _ (by omega)
              have vB : Below U w V := by rw [hV, hU]; exact HP.out.low.alloc HP.out.low.size _
              have vU : V.heap[U]? = some (.cells ⟨upC N f⟩ 3 (0, 0)) := by rw [HN.out]; refine (vo U hUh).trans ?_; rw [hU]; exact HP.out.blk
              have vown : V.ownsRow (U + 1) 3 1 (.slice (some ⟨g, 0, none⟩) L cp) L (ints st) := by rw [hU]; exact owns_same HOWN.out fun q hq => vo q (by rw [hh]; exact own_block_lt HOWN.out hq)
              have HV := Lib.hid (And.intro vz (And.intro vX (And.intro vB (And.intro vU (And.intro vown (And.intro hX (And.intro hU hh)))))))
              clear vz vX vo vB vU vown hX hU hh hV a0 a1 a2 a3 a4 a5 a6
              have keq : ∀ W', Below V.heap.size V W' → Calls Try.prog 86 #[.slice (some ⟨g, L, none⟩) 0 (cp - L), .slice (some ⟨h, 5, none⟩) 0 2] W' fun e w' => e = .returned (.bool true) ∧ Below W'.heap.size W' w' := fun W' _ => keq0 _ _ _ _ W'
              refine wp_region_held_drew (S := fun _ => True) (by kernel_rfl) trivial (fun hHeld => ?_)
              refine wpAnyH_take (i := 0) (v := ?_) rfl (by kernel_rfl) (by kernel_rfl) (by kernel_rfl) (fun _ _ _ h => h) ?_ hHeld ?_; rotate_left; · (simp only [List.getElem_toArray, List.getElem_cons_zero]; refine Or.inl ⟨by rfl, ?_⟩; intro w hSw; go_simp; try with_reducible rfl)
              try simp only [List.getElem_toArray, List.getElem_cons_zero, Act.put, List.setIfInBounds_toArray, List.set_cons_zero, List.set_cons_succ]
              refine wpAnyH_take (i := 1) (v := ?_) rfl (by kernel_rfl) (by kernel_rfl) (by kernel_rfl) (fun _ _ _ h => h) ?_ hHeld ?_; rotate_left; · (simp only [List.getElem_toArray, List.getElem_cons_succ, List.getElem_cons_zero]; refine Or.inl ⟨by rfl, ?_⟩; intro w hSw; go_simp; try with_reducible rfl)
              try simp only [List.getElem_toArray, List.getElem_cons_succ, List.getElem_cons_zero, Act.put, List.setIfInBounds_toArray, List.set_cons_zero, List.set_cons_succ]
              refine wpAnyH_take (i := 2) (v := ?_) rfl (by kernel_rfl) (by kernel_rfl) (by kernel_rfl) (fun _ _ _ h => h) ?_ hHeld ?_; rotate_left; · (simp only [List.getElem_toArray, List.getElem_cons_succ, List.getElem_cons_zero]; refine Or.inl ⟨by rfl, ?_⟩; intro w hSw; go_simp; try with_reducible rfl)
              try simp only [List.getElem_toArray, List.getElem_cons_succ, List.getElem_cons_zero, Act.put, List.setIfInBounds_toArray, List.set_cons_zero, List.set_cons_succ]
              refine wpAnyH_take (i := 3) (v := ?_) rfl (by kernel_rfl) (by kernel_rfl) (by kernel_rfl) (fun _ _ _ h => h) ?_ hHeld ?_; rotate_left; · (simp only [List.getElem_toArray, List.getElem_cons_succ, List.getElem_cons_zero]; refine Or.inl ⟨by rfl, ?_⟩; intro w hSw; go_simp; try with_reducible rfl)
              try simp only [List.getElem_toArray, List.getElem_cons_succ, List.getElem_cons_zero, Act.put, List.setIfInBounds_toArray, List.set_cons_zero, List.set_cons_succ]
              refine wpAnyH_take (i := 4) (v := ?_) rfl (by kernel_rfl) (by kernel_rfl) (by kernel_rfl) (fun _ _ _ h => h) ?_ hHeld ?_; rotate_left; · (simp only [List.getElem_toArray, List.getElem_cons_succ, List.getElem_cons_zero]; refine Or.inl ⟨by rfl, ?_⟩; intro w hSw; go_simp; try with_reducible rfl)
              try simp only [List.getElem_toArray, List.getElem_cons_succ, List.getElem_cons_zero, Act.put, List.setIfInBounds_toArray, List.set_cons_zero, List.set_cons_succ]
              refine wpAnyH_take (i := 5) (v := ?_) rfl (by kernel_rfl) (by kernel_rfl) (by kernel_rfl) (fun _ _ _ h => h) ?_ hHeld ?_; rotate_left; · (simp only [List.getElem_toArray, List.getElem_cons_succ, List.getElem_cons_zero]; refine Or.inl ⟨by rfl, ?_⟩; intro w hSw; go_simp; try with_reducible rfl)
              try simp only [List.getElem_toArray, List.getElem_cons_succ, List.getElem_cons_zero, Act.put, List.setIfInBounds_toArray, List.set_cons_zero, List.set_cons_succ]
              refine wpAnyH_take (i := 6) (v := ?_) rfl (by kernel_rfl) (by kernel_rfl) (by kernel_rfl) (fun _ _ _ h => h) ?_ hHeld ?_; rotate_left; · (simp only [List.getElem_toArray, List.getElem_cons_succ, List.getElem_cons_zero]; refine Or.inl ⟨by rfl, ?_⟩; intro w hSw; go_simp; try with_reducible rfl)
              try simp only [List.getElem_toArray, List.getElem_cons_succ, List.getElem_cons_zero, Act.put, List.setIfInBounds_toArray, List.set_cons_zero, List.set_cons_succ]
              refine wpAnyH_take (i := 7) (v := ?_) rfl (by kernel_rfl) (by kernel_rfl) (by kernel_rfl) (fun _ _ _ h => h) ?_ hHeld ?_; rotate_left; · (simp only [List.getElem_toArray, List.getElem_cons_succ, List.getElem_cons_zero]; refine Or.inl ⟨by rfl, ?_⟩; intro w hSw; go_simp; try with_reducible rfl)
              try simp only [List.getElem_toArray, List.getElem_cons_succ, List.getElem_cons_zero, Act.put, List.setIfInBounds_toArray, List.set_cons_zero, List.set_cons_succ]
              refine wpAnyH_take (i := 8) (v := ?_) rfl (by kernel_rfl) (by kernel_rfl) (by kernel_rfl) (fun _ _ _ h => h) ?_ hHeld ?_; rotate_left; · (simp only [List.getElem_toArray, List.getElem_cons_succ, List.getElem_cons_zero]; refine Or.inl ⟨by rfl, ?_⟩; intro w hSw; go_simp; try with_reducible rfl)
              try simp only [List.getElem_toArray, List.getElem_cons_succ, List.getElem_cons_zero, Act.put, List.setIfInBounds_toArray, List.set_cons_zero, List.set_cons_succ]
              refine wpAnyH_ready (rs := [9]) (by kernel_rfl) (by simp) ?_
              refine AllReadyH.cons rfl (fun K' hK => ?_) AllReadyH.nil
              simp only [List.getElem_toArray, List.getElem_cons_succ, List.getElem_cons_zero]
              rw [if_pos (by rfl)]
              go_simp
              (go_at_call 86; refine (keq _ (Below.refl _ V).drew).mono ?_; rintro e w4 ⟨rfl, hb4⟩)
              refine hK.out _ _ trivial (fun _ => ?_)
              clear hK K'
              try simp only [List.getElem_toArray, List.getElem_cons_succ, List.getElem_cons_zero, Act.put, List.setIfInBounds_toArray, List.set_cons_zero, List.set_cons_succ]
              refine wpAnyH_take (i := 10) (v := ?_) rfl (by kernel_rfl) (by kernel_rfl) (by kernel_rfl) (fun _ _ _ h => h) ?_ hHeld ?_; rotate_left; · (simp only [List.getElem_toArray, List.getElem_cons_succ, List.getElem_cons_zero]; refine Or.inl ⟨by rfl, ?_⟩; intro w hSw; go_simp; try with_reducible rfl)
              try simp only [List.getElem_toArray, List.getElem_cons_succ, List.getElem_cons_zero, Act.put, List.setIfInBounds_toArray, List.set_cons_zero, List.set_cons_succ]
              refine wpAnyH_take (i := 11) (v := ?_) rfl (by kernel_rfl) (by kernel_rfl) (by kernel_rfl) (fun _ _ _ h => h) ?_ hHeld ?_; rotate_left; · (simp only [List.getElem_toArray, List.getElem_cons_succ, List.getElem_cons_zero]; refine Or.inl ⟨by rfl, ?_⟩; intro w hSw; go_simp; try with_reducible rfl)
              try simp only [List.getElem_toArray, List.getElem_cons_succ, List.getElem_cons_zero, Act.put, List.setIfInBounds_toArray, List.set_cons_zero, List.set_cons_succ]
              refine wpAnyH_done (by kernel_rfl) ?_ _
              have hbV : Below V.heap.size V w4 := (Below.refl _ V).drew.trans hb4
              have z1 : w4.heap[U]? = some (.cells ⟨upC N f⟩ 3 (0, 0)) := (hbV.block U (by have := HV.out.1; omega)).trans HV.out.2.2.2.1
              have z2 : w4.ownsRow (U + 1) 3 1 (.slice (some ⟨g, 0, none⟩) L cp) L (ints st) := owns_same HV.out.2.2.2.2.1 fun q hq => hbV.block q (own_block_lt HV.out.2.2.2.2.1 hq)
              have z3 : Below U w w4 := HV.out.2.2.1.trans (hbV.mono (by have := HV.out.1; omega))
              have z0 : upStep f st j 0 = f := upStep_zero f st j
              rw [← z0] at z1
              have hUZ0 : U < w4.heap.size := block_lt z1
              have HZ := Lib.hid (And.intro z1 (And.intro z2 z3))
              clear z1 z2 z3 z0 hb4 hbV
              go_wp2
              refine wp_loop_rounds 1 ?_
              rw [rounds_succ]
              go_wp2_with (first
                | (refine wpList_prefix_own rfl (.tmp 65) (.tmp 66) 41 3 Try.underlying41 Try.sizeOf3 rfl (U + 1) L L _ (ints st) rfl (by first | rfl | exact congrArg (Value.int .i64) (by omega)) HZ.out.2.1 (by omega) ?_; intro v6 hv6 hob6; rw [ints_take] at hv6; have HT := Lib.hid hv6; clear hv6)
                | (at_builtin; refine wpList_append_own _ rfl (.tmp 67) (.tmp 69) 41 rfl (U + 1) 3 i0 (.int .i64 0) 1 8 Try.underlying41 HI0.out.1 HI0.out.2.1 HI0.out.2.2.1 HI0.out.2.2.2 rfl (by decide) _ L (ints (st.take L)) rfl (owns_alloc HT.out) ⟨w4.heap.size, 0, none⟩ 1 1 [.int .i64 j] rfl rfl (cell_one' _ _ _) (by simp [Value.oneCell']) (by unfold maxLen; omega) (by omega) (by simp; omega) ?_; intro v5 w5 hown5 hgrow5 _
                   have hZ3 := HZ.out.2.2
                   have hUZ : U < w4.heap.size := block_lt HZ.out.1
                   have hb5 : Below U w w5 := (hZ3.alloc (Nat.le_of_lt hUZ) _).grown hgrow5 (by simp; omega) (fun q hq => Nat.le_of_succ_le (own_base HT.out hq))
                   have hu5 : w5.heap[U]? = some (.cells ⟨upC N (upStep f st j 0)⟩ 3 (0, 0)) := (hgrow5.block U (by simp; omega) (fun e => by have := own_base HT.out e.symm; omega)).trans ((Below.heap_alloc _ _ _ hUZ).trans HZ.out.1)
                   have H5 := Lib.hid (And.intro hown5 (And.intro hb5 hu5))
                   clear hown5 hgrow5 hb5 hu5 hZ3 hUZ)
                | fail)
              have hU := HV.out.2.2.2.2.2.2.1
              subst hU
              go_roundg (N - j)
              case rel =>
                have hst' := HN1.out.2.2
                have e : st' = st.take L ++ [(j : Int)] := by rw [hst']; (try dsimp only); rw [hmm]; congr 2; have := HLS.out; omega
                have hlen : st'.length = L + 1 := by rw [e]; exact take_snoc_len st L j (by rw [← HLS.out]; omega)
                refine ⟨j + 1, st', upStep f st j 0, by go_num, by show _ ≤ _; omega, by show _ = _; omega, ?_, ?_⟩
                · have h := H5.out.1
                  rw [← ints_snoc, ← e, ← hlen] at h
                  exact h
                · have hb := H5.out.2.2
                  have hl := H5.out.2.1
                  have hpn := par_next HP.out HN1.out.1 HN1.out.2.1 hst' (w5 := w5) (by dsimp only; rw [hmm, ← HN.out]; exact hb) hl
                  dsimp only at hpn
                  rw [hmm] at hpn
                  exact hpn
              case measure => have := HK.out; omega
        · clear p0 p1 p2 hm hm0 hm1 hx hy
          have hown0 := HOWN.out.2
          rcases hown0 with ⟨hv0, h00⟩ | ⟨g, cap2, cur, hv0, hBg, hg, -⟩
          · cases hv0
            have hmm : kidsN 7 = 0 := rfl
            have keq0 : ∀ (a1 a2 : Option Addr) (c d : Nat) (w : World), Calls Try.prog 86 #[.slice a1 0 c, .slice a2 0 d] w fun e w' => e = .returned (.bool true) ∧ Below w.heap.size w w' := fun a1 a2 c d w => (Try.slices_Equal_int_empty a1 a2 c 0 d w (by omega)).mono fun e w' hh => ⟨hh.1, by rw [hh.2]; exact Below.refl _ _⟩
            go_wp2
            obtain ⟨X, hX⟩ : ∃ X, X = Obj.cells #[.int .i64 7, .int .u64 (K.a.toNat : Int), .int .u64 (K.b.toNat : Int), .int .u64 (K.c.toNat : Int), .int .u64 (K.d.toNat : Int), .int .i64 x, .int .i64 y] 50 := ⟨_, rfl⟩
            rw [← hX]
            obtain ⟨V, hV⟩ : ∃ V, V = wr.alloc X := ⟨_, rfl⟩
            rw [← hV]
            obtain ⟨h, hh⟩ : ∃ h, h = wr.heap.size := ⟨_, rfl⟩
            rw [← hh]
            obtain ⟨U, hU⟩ : ∃ U, U = w.heap.size := ⟨_, rfl⟩
            rw [← hU]
            have hUh : U < h := by rw [hU, hh]; exact block_lt HP.out.blk
            have vz : V.heap.size = h + 1 := by rw [hV, hh]; simp
            have vX : V.heap[h]? = some X := by rw [hV, hh]; exact heap_alloc_new _ _
            have vo : ∀ q, q < h → V.heap[q]? = wr.heap[q]? := fun q hq => by rw [hV]; exact Below.heap_alloc _ _ _ (by omega)
            have vB : Below U w V := by rw [hV, hU]; exact HP.out.low.alloc HP.out.low.size _
            have vU : V.heap[U]? = some (.cells ⟨upC N f⟩ 3 (0, 0)) := by rw [HN.out]; refine (vo U hUh).trans ?_; rw [hU]; exact HP.out.blk
            have vown : V.ownsRow (U + 1) 3 1 (.slice none 0 0) 0 (ints st) := by rw [hU]; exact owns_same HOWN.out fun q hq => vo q (by rw [hh]; exact own_block_lt HOWN.out hq)
            have HV := Lib.hid (And.intro vz (And.intro vX (And.intro vB (And.intro vU (And.intro vown (And.intro hX (And.intro hU hh)))))))
            clear vz vX vo vB vU vown hX hU hh hV a0 a1 a2 a3 a4 a5 a6
            have keq : ∀ W', Below V.heap.size V W' → Calls Try.prog 86 #[.slice none 0 0, .slice (some ⟨h, 5, none⟩) 0 2] W' fun e w' => e = .returned (.bool true) ∧ Below W'.heap.size W' w' := fun W' _ => keq0 _ _ _ _ W'
            refine wp_region_held_drew (S := fun _ => True) (by kernel_rfl) trivial (fun hHeld => ?_)
            refine wpAnyH_take (i := 0) (v := ?_) rfl (by kernel_rfl) (by kernel_rfl) (by kernel_rfl) (fun _ _ _ h => h) ?_ hHeld ?_; rotate_left; · (simp only [List.getElem_toArray, List.getElem_cons_zero]; refine Or.inl ⟨by rfl, ?_⟩; intro w hSw; go_simp; try with_reducible rfl)
            try simp only [List.getElem_toArray, List.getElem_cons_zero, Act.put, List.setIfInBounds_toArray, List.set_cons_zero, List.set_cons_succ]
            refine wpAnyH_take (i := 1) (v := ?_) rfl (by kernel_rfl) (by kernel_rfl) (by kernel_rfl) (fun _ _ _ h => h) ?_ hHeld ?_; rotate_left; · (simp only [List.getElem_toArray, List.getElem_cons_succ, List.getElem_cons_zero]; refine Or.inl ⟨by rfl, ?_⟩; intro w hSw; go_simp; try with_reducible rfl)
            try simp only [List.getElem_toArray, List.getElem_cons_succ, List.getElem_cons_zero, Act.put, List.setIfInBounds_toArray, List.set_cons_zero, List.set_cons_succ]
            refine wpAnyH_take (i := 2) (v := ?_) rfl (by kernel_rfl) (by kernel_rfl) (by kernel_rfl) (fun _ _ _ h => h) ?_ hHeld ?_; rotate_left; · (simp only [List.getElem_toArray, List.getElem_cons_succ, List.getElem_cons_zero]; refine Or.inl ⟨by rfl, ?_⟩; intro w hSw; go_simp; try with_reducible rfl)
            try simp only [List.getElem_toArray, List.getElem_cons_succ, List.getElem_cons_zero, Act.put, List.setIfInBounds_toArray, List.set_cons_zero, List.set_cons_succ]
            refine wpAnyH_take (i := 3) (v := ?_) rfl (by kernel_rfl) (by kernel_rfl) (by kernel_rfl) (fun _ _ _ h => h) ?_ hHeld ?_; rotate_left; · (simp only [List.getElem_toArray, List.getElem_cons_succ, List.getElem_cons_zero]; refine Or.inl ⟨by rfl, ?_⟩; intro w hSw; go_simp; try with_reducible rfl)
            try simp only [List.getElem_toArray, List.getElem_cons_succ, List.getElem_cons_zero, Act.put, List.setIfInBounds_toArray, List.set_cons_zero, List.set_cons_succ]
            refine wpAnyH_take (i := 4) (v := ?_) rfl (by kernel_rfl) (by kernel_rfl) (by kernel_rfl) (fun _ _ _ h => h) ?_ hHeld ?_; rotate_left; · (simp only [List.getElem_toArray, List.getElem_cons_succ, List.getElem_cons_zero]; refine Or.inl ⟨by rfl, ?_⟩; intro w hSw; go_simp; try with_reducible rfl)
            try simp only [List.getElem_toArray, List.getElem_cons_succ, List.getElem_cons_zero, Act.put, List.setIfInBounds_toArray, List.set_cons_zero, List.set_cons_succ]
            refine wpAnyH_take (i := 5) (v := ?_) rfl (by kernel_rfl) (by kernel_rfl) (by kernel_rfl) (fun _ _ _ h => h) ?_ hHeld ?_; rotate_left; · (simp only [List.getElem_toArray, List.getElem_cons_succ, List.getElem_cons_zero]; refine Or.inl ⟨by rfl, ?_⟩; intro w hSw; go_simp; try with_reducible rfl)
            try simp only [List.getElem_toArray, List.getElem_cons_succ, List.getElem_cons_zero, Act.put, List.setIfInBounds_toArray, List.set_cons_zero, List.set_cons_succ]
            refine wpAnyH_take (i := 6) (v := ?_) rfl (by kernel_rfl) (by kernel_rfl) (by kernel_rfl) (fun _ _ _ h => h) ?_ hHeld ?_; rotate_left; · (simp only [List.getElem_toArray, List.getElem_cons_succ, List.getElem_cons_zero]; refine Or.inl ⟨by rfl, ?_⟩; intro w hSw; go_simp; try with_reducible rfl)
            try simp only [List.getElem_toArray, List.getElem_cons_succ, List.getElem_cons_zero, Act.put, List.setIfInBounds_toArray, List.set_cons_zero, List.set_cons_succ]
            refine wpAnyH_take (i := 7) (v := ?_) rfl (by kernel_rfl) (by kernel_rfl) (by kernel_rfl) (fun _ _ _ h => h) ?_ hHeld ?_; rotate_left; · (simp only [List.getElem_toArray, List.getElem_cons_succ, List.getElem_cons_zero]; refine Or.inl ⟨by rfl, ?_⟩; intro w hSw; go_simp; try with_reducible rfl)
            try simp only [List.getElem_toArray, List.getElem_cons_succ, List.getElem_cons_zero, Act.put, List.setIfInBounds_toArray, List.set_cons_zero, List.set_cons_succ]
            refine wpAnyH_take (i := 8) (v := ?_) rfl (by kernel_rfl) (by kernel_rfl) (by kernel_rfl) (fun _ _ _ h => h) ?_ hHeld ?_; rotate_left; · (simp only [List.getElem_toArray, List.getElem_cons_succ, List.getElem_cons_zero]; refine Or.inl ⟨by rfl, ?_⟩; intro w hSw; go_simp; try with_reducible rfl)
            try simp only [List.getElem_toArray, List.getElem_cons_succ, List.getElem_cons_zero, Act.put, List.setIfInBounds_toArray, List.set_cons_zero, List.set_cons_succ]
            refine wpAnyH_ready (rs := [9]) (by kernel_rfl) (by simp) ?_
            refine AllReadyH.cons rfl (fun K' hK => ?_) AllReadyH.nil
            simp only [List.getElem_toArray, List.getElem_cons_succ, List.getElem_cons_zero]
            rw [if_pos (by rfl)]
            go_simp
            (go_at_call 86; refine (keq _ (Below.refl _ V).drew).mono ?_; rintro e w4 ⟨rfl, hb4⟩)
            refine hK.out _ _ trivial (fun _ => ?_)
            clear hK K'
            try simp only [List.getElem_toArray, List.getElem_cons_succ, List.getElem_cons_zero, Act.put, List.setIfInBounds_toArray, List.set_cons_zero, List.set_cons_succ]
            refine wpAnyH_take (i := 10) (v := ?_) rfl (by kernel_rfl) (by kernel_rfl) (by kernel_rfl) (fun _ _ _ h => h) ?_ hHeld ?_; rotate_left; · (simp only [List.getElem_toArray, List.getElem_cons_succ, List.getElem_cons_zero]; refine Or.inl ⟨by rfl, ?_⟩; intro w hSw; go_simp; try with_reducible rfl)
            try simp only [List.getElem_toArray, List.getElem_cons_succ, List.getElem_cons_zero, Act.put, List.setIfInBounds_toArray, List.set_cons_zero, List.set_cons_succ]
            refine wpAnyH_take (i := 11) (v := ?_) rfl (by kernel_rfl) (by kernel_rfl) (by kernel_rfl) (fun _ _ _ h => h) ?_ hHeld ?_; rotate_left; · (simp only [List.getElem_toArray, List.getElem_cons_succ, List.getElem_cons_zero]; refine Or.inl ⟨by rfl, ?_⟩; intro w hSw; go_simp; try with_reducible rfl)
            try simp only [List.getElem_toArray, List.getElem_cons_succ, List.getElem_cons_zero, Act.put, List.setIfInBounds_toArray, List.set_cons_zero, List.set_cons_succ]
            refine wpAnyH_done (by kernel_rfl) ?_ _
            have hbV : Below V.heap.size V w4 := (Below.refl _ V).drew.trans hb4
            have z1 : w4.heap[U]? = some (.cells ⟨upC N f⟩ 3 (0, 0)) := (hbV.block U (by have := HV.out.1; omega)).trans HV.out.2.2.2.1
            have z2 : w4.ownsRow (U + 1) 3 1 (.slice none 0 0) 0 (ints st) := owns_same HV.out.2.2.2.2.1 fun q hq => hbV.block q (own_block_lt HV.out.2.2.2.2.1 hq)
            have z3 : Below U w w4 := HV.out.2.2.1.trans (hbV.mono (by have := HV.out.1; omega))
            have z0 : upStep f st j 0 = f := upStep_zero f st j
            rw [← z0] at z1
            have hUZ0 : U < w4.heap.size := block_lt z1
            have HZ := Lib.hid (And.intro z1 (And.intro z2 z3))
            clear z1 z2 z3 z0 hb4 hbV
            go_wp2
            refine wp_loop_rounds 1 ?_
            rw [rounds_succ]
            go_wp2_with (first
              | (refine wpList_prefix_own rfl (.tmp 65) (.tmp 66) 41 3 Try.underlying41 Try.sizeOf3 rfl (U + 1) 0 0 _ (ints st) rfl (by first | rfl | exact congrArg (Value.int .i64) (by omega)) HZ.out.2.1 (by omega) ?_; intro v6 hv6 hob6; rw [ints_take] at hv6; have HT := Lib.hid hv6; clear hv6)
              | (at_builtin; refine wpList_append_own _ rfl (.tmp 67) (.tmp 69) 41 rfl (U + 1) 3 i0 (.int .i64 0) 1 8 Try.underlying41 HI0.out.1 HI0.out.2.1 HI0.out.2.2.1 HI0.out.2.2.2 rfl (by decide) _ 0 (ints (st.take 0)) rfl (owns_alloc HT.out) ⟨w4.heap.size, 0, none⟩ 1 1 [.int .i64 j] rfl rfl (cell_one' _ _ _) (by simp [Value.oneCell']) (by unfold maxLen; omega) (by omega) (by simp; omega) ?_; intro v5 w5 hown5 hgrow5 _
                 have hZ3 := HZ.out.2.2
                 have hUZ : U < w4.heap.size := block_lt HZ.out.1
                 have hb5 : Below U w w5 := (hZ3.alloc (Nat.le_of_lt hUZ) _).grown hgrow5 (by simp; omega) (fun q hq => Nat.le_of_succ_le (own_base HT.out hq))
                 have hu5 : w5.heap[U]? = some (.cells ⟨upC N (upStep f st j 0)⟩ 3 (0, 0)) := (hgrow5.block U (by simp; omega) (fun e => by have := own_base HT.out e.symm; omega)).trans ((Below.heap_alloc _ _ _ hUZ).trans HZ.out.1)
                 have H5 := Lib.hid (And.intro hown5 (And.intro hb5 hu5))
                 clear hown5 hgrow5 hb5 hu5 hZ3 hUZ)
              | fail)
            have hU := HV.out.2.2.2.2.2.2.1
            subst hU
            go_roundg (N - j)
            case rel =>
              have hst' := HN1.out.2.2
              have e : st' = st.take 0 ++ [(j : Int)] := by rw [hst']; (try dsimp only); rw [hmm]; congr 2; have := HLS.out; omega
              have hlen : st'.length = 0 + 1 := by rw [e]; exact take_snoc_len st 0 j (by rw [← HLS.out]; omega)
              refine ⟨j + 1, st', upStep f st j 0, by go_num, by show _ ≤ _; omega, by show _ = _; omega, ?_, ?_⟩
              · have h := H5.out.1
                rw [← ints_snoc, ← e, ← hlen] at h
                exact h
              · have hb := H5.out.2.2
                have hl := H5.out.2.1
                have hpn := par_next HP.out HN1.out.1 HN1.out.2.1 hst' (w5 := w5) (by dsimp only; rw [hmm, ← HN.out]; exact hb) hl
                dsimp only at hpn
                rw [hmm] at hpn
                exact hpn
            case measure => have := HK.out; omega
          · cases hv0
            have hgl := block_lt hg
            clear hg
            by_cases hcl : cp = L
            · subst hcl
              have hmm : kidsN 7 = 0 := rfl
              have hwr : IntKind.i64.wrap ((cp : Int) - 0) = (cp : Int) := by rw [IntWalk.i64_in _ (by unfold maxLen at hcap; omega)]; omega
              have L0 : (0 : Int) ≤ (cp : Int) := by omega
              have keq0 : ∀ (a1 a2 : Option Addr) (c d : Nat) (w : World), Calls Try.prog 86 #[.slice a1 0 c, .slice a2 0 d] w fun e w' => e = .returned (.bool true) ∧ Below w.heap.size w w' := fun a1 a2 c d w => (Try.slices_Equal_int_empty a1 a2 c 0 d w (by omega)).mono fun e w' hh => ⟨hh.1, by rw [hh.2]; exact Below.refl _ _⟩
              go_wp2
              obtain ⟨X, hX⟩ : ∃ X, X = Obj.cells #[.int .i64 7, .int .u64 (K.a.toNat : Int), .int .u64 (K.b.toNat : Int), .int .u64 (K.c.toNat : Int), .int .u64 (K.d.toNat : Int), .int .i64 x, .int .i64 y] 50 := ⟨_, rfl⟩
              rw [← hX]
              obtain ⟨V, hV⟩ : ∃ V, V = wr.alloc X := ⟨_, rfl⟩
              rw [← hV]
              obtain ⟨h, hh⟩ : ∃ h, h = wr.heap.size := ⟨_, rfl⟩
              rw [← hh]
              obtain ⟨U, hU⟩ : ∃ U, U = w.heap.size := ⟨_, rfl⟩
              rw [← hU]
              have hUh : U < h := by rw [hU, hh]; exact block_lt HP.out.blk
              have vz : V.heap.size = h + 1 := by rw [hV, hh]; simp
              have vX : V.heap[h]? = some X := by rw [hV, hh]; exact heap_alloc_new _ _
              have vo : ∀ q, q < h → V.heap[q]? = wr.heap[q]? := fun q hq => by rw [hV]; exact Below.heap_alloc _ _ _ (by omega)
              have vB : Below U w V := by rw [hV, hU]; exact HP.out.low.alloc HP.out.low.size _
              have vU : V.heap[U]? = some (.cells ⟨upC N f⟩ 3 (0, 0)) := by rw [HN.out]; refine (vo U hUh).trans ?_; rw [hU]; exact HP.out.blk
              have vown : V.ownsRow (U + 1) 3 1 (.slice (some ⟨g, 0, none⟩) cp cp) cp (ints st) := by rw [hU]; exact owns_same HOWN.out fun q hq => vo q (by rw [hh]; exact own_block_lt HOWN.out hq)
              have HV := Lib.hid (And.intro vz (And.intro vX (And.intro vB (And.intro vU (And.intro vown (And.intro hX (And.intro hU hh)))))))
              clear vz vX vo vB vU vown hX hU hh hV a0 a1 a2 a3 a4 a5 a6
              have keq : ∀ W', Below V.heap.size V W' → Calls Try.prog 86 #[.slice (some ⟨g, 0, none⟩) 0 0, .slice (some ⟨h, 5, none⟩) 0 2] W' fun e w' => e = .returned (.bool true) ∧ Below W'.heap.size W' w' := fun W' _ => keq0 _ _ _ _ W'
              refine wp_region_held_drew (S := fun _ => True) (by kernel_rfl) trivial (fun hHeld => ?_)
              refine wpAnyH_take (i := 0) (v := ?_) rfl (by kernel_rfl) (by kernel_rfl) (by kernel_rfl) (fun _ _ _ h => h) ?_ hHeld ?_; rotate_left; · (simp only [List.getElem_toArray, List.getElem_cons_zero]; refine Or.inl ⟨by rfl, ?_⟩; intro w hSw; go_simp; try with_reducible rfl)
              try simp only [List.getElem_toArray, List.getElem_cons_zero, Act.put, List.setIfInBounds_toArray, List.set_cons_zero, List.set_cons_succ]
              refine wpAnyH_take (i := 1) (v := ?_) rfl (by kernel_rfl) (by kernel_rfl) (by kernel_rfl) (fun _ _ _ h => h) ?_ hHeld ?_; rotate_left; · (simp only [List.getElem_toArray, List.getElem_cons_succ, List.getElem_cons_zero]; refine Or.inl ⟨by rfl, ?_⟩; intro w hSw; go_simp; try with_reducible rfl)
              try simp only [List.getElem_toArray, List.getElem_cons_succ, List.getElem_cons_zero, Act.put, List.setIfInBounds_toArray, List.set_cons_zero, List.set_cons_succ]
              refine wpAnyH_take (i := 2) (v := ?_) rfl (by kernel_rfl) (by kernel_rfl) (by kernel_rfl) (fun _ _ _ h => h) ?_ hHeld ?_; rotate_left; · (simp only [List.getElem_toArray, List.getElem_cons_succ, List.getElem_cons_zero]; refine Or.inl ⟨by rfl, ?_⟩; intro w hSw; go_simp; try with_reducible rfl)
              try simp only [List.getElem_toArray, List.getElem_cons_succ, List.getElem_cons_zero, Act.put, List.setIfInBounds_toArray, List.set_cons_zero, List.set_cons_succ]
              refine wpAnyH_take (i := 3) (v := ?_) rfl (by kernel_rfl) (by kernel_rfl) (by kernel_rfl) (fun _ _ _ h => h) ?_ hHeld ?_; rotate_left; · (simp only [List.getElem_toArray, List.getElem_cons_succ, List.getElem_cons_zero]; refine Or.inl ⟨by rfl, ?_⟩; intro w hSw; go_simp; try with_reducible rfl)
              try simp only [List.getElem_toArray, List.getElem_cons_succ, List.getElem_cons_zero, Act.put, List.setIfInBounds_toArray, List.set_cons_zero, List.set_cons_succ]
              refine wpAnyH_take (i := 4) (v := ?_) rfl (by kernel_rfl) (by kernel_rfl) (by kernel_rfl) (fun _ _ _ h => h) ?_ hHeld ?_; rotate_left; · (simp only [List.getElem_toArray, List.getElem_cons_succ, List.getElem_cons_zero]; refine Or.inl ⟨by rfl, ?_⟩; intro w hSw; go_simp; try with_reducible rfl)
              try simp only [List.getElem_toArray, List.getElem_cons_succ, List.getElem_cons_zero, Act.put, List.setIfInBounds_toArray, List.set_cons_zero, List.set_cons_succ]
              refine wpAnyH_take (i := 5) (v := ?_) rfl (by kernel_rfl) (by kernel_rfl) (by kernel_rfl) (fun _ _ _ h => h) ?_ hHeld ?_; rotate_left; · (simp only [List.getElem_toArray, List.getElem_cons_succ, List.getElem_cons_zero]; refine Or.inl ⟨by rfl, ?_⟩; intro w hSw; go_simp; try with_reducible rfl)
              try simp only [List.getElem_toArray, List.getElem_cons_succ, List.getElem_cons_zero, Act.put, List.setIfInBounds_toArray, List.set_cons_zero, List.set_cons_succ]
              refine wpAnyH_take (i := 6) (v := ?_) rfl (by kernel_rfl) (by kernel_rfl) (by kernel_rfl) (fun _ _ _ h => h) ?_ hHeld ?_; rotate_left; · (simp only [List.getElem_toArray, List.getElem_cons_succ, List.getElem_cons_zero]; refine Or.inl ⟨by rfl, ?_⟩; intro w hSw; go_simp; try with_reducible rfl)
              try simp only [List.getElem_toArray, List.getElem_cons_succ, List.getElem_cons_zero, Act.put, List.setIfInBounds_toArray, List.set_cons_zero, List.set_cons_succ]
              refine wpAnyH_take (i := 7) (v := ?_) rfl (by kernel_rfl) (by kernel_rfl) (by kernel_rfl) (fun _ _ _ h => h) ?_ hHeld ?_; rotate_left; · (simp only [List.getElem_toArray, List.getElem_cons_succ, List.getElem_cons_zero]; refine Or.inl ⟨by rfl, ?_⟩; intro w hSw; go_simp; try with_reducible rfl)
              try simp only [List.getElem_toArray, List.getElem_cons_succ, List.getElem_cons_zero, Act.put, List.setIfInBounds_toArray, List.set_cons_zero, List.set_cons_succ]
              refine wpAnyH_take (i := 8) (v := ?_) rfl (by kernel_rfl) (by kernel_rfl) (by kernel_rfl) (fun _ _ _ h => h) ?_ hHeld ?_; rotate_left; · (simp only [List.getElem_toArray, List.getElem_cons_succ, List.getElem_cons_zero]; refine Or.inl ⟨by rfl, ?_⟩; intro w hSw; go_simp; try with_reducible rfl)
              try simp only [List.getElem_toArray, List.getElem_cons_succ, List.getElem_cons_zero, Act.put, List.setIfInBounds_toArray, List.set_cons_zero, List.set_cons_succ]
              refine wpAnyH_ready (rs := [9]) (by kernel_rfl) (by simp) ?_
              refine AllReadyH.cons rfl (fun K' hK => ?_) AllReadyH.nil
              simp only [List.getElem_toArray, List.getElem_cons_succ, List.getElem_cons_zero]
              rw [if_pos (by rfl)]
              go_simp
              (go_at_call 86; refine (keq _ (Below.refl _ V).drew).mono ?_; rintro e w4 ⟨rfl, hb4⟩)
              refine hK.out _ _ trivial (fun _ => ?_)
              clear hK K'
              try simp only [List.getElem_toArray, List.getElem_cons_succ, List.getElem_cons_zero, Act.put, List.setIfInBounds_toArray, List.set_cons_zero, List.set_cons_succ]
              refine wpAnyH_take (i := 10) (v := ?_) rfl (by kernel_rfl) (by kernel_rfl) (by kernel_rfl) (fun _ _ _ h => h) ?_ hHeld ?_; rotate_left; · (simp only [List.getElem_toArray, List.getElem_cons_succ, List.getElem_cons_zero]; refine Or.inl ⟨by rfl, ?_⟩; intro w hSw; go_simp; try with_reducible rfl)
              try simp only [List.getElem_toArray, List.getElem_cons_succ, List.getElem_cons_zero, Act.put, List.setIfInBounds_toArray, List.set_cons_zero, List.set_cons_succ]
              refine wpAnyH_take (i := 11) (v := ?_) rfl (by kernel_rfl) (by kernel_rfl) (by kernel_rfl) (fun _ _ _ h => h) ?_ hHeld ?_; rotate_left; · (simp only [List.getElem_toArray, List.getElem_cons_succ, List.getElem_cons_zero]; refine Or.inl ⟨by rfl, ?_⟩; intro w hSw; go_simp; try with_reducible rfl)
              try simp only [List.getElem_toArray, List.getElem_cons_succ, List.getElem_cons_zero, Act.put, List.setIfInBounds_toArray, List.set_cons_zero, List.set_cons_succ]
              refine wpAnyH_done (by kernel_rfl) ?_ _
              have hbV : Below V.heap.size V w4 := (Below.refl _ V).drew.trans hb4
              have z1 : w4.heap[U]? = some (.cells ⟨upC N f⟩ 3 (0, 0)) := (hbV.block U (by have := HV.out.1; omega)).trans HV.out.2.2.2.1
              have z2 : w4.ownsRow (U + 1) 3 1 (.slice (some ⟨g, 0, none⟩) cp cp) cp (ints st) := owns_same HV.out.2.2.2.2.1 fun q hq => hbV.block q (own_block_lt HV.out.2.2.2.2.1 hq)
              have z3 : Below U w w4 := HV.out.2.2.1.trans (hbV.mono (by have := HV.out.1; omega))
              have z0 : upStep f st j 0 = f := upStep_zero f st j
              rw [← z0] at z1
              have hUZ0 : U < w4.heap.size := block_lt z1
              have HZ := Lib.hid (And.intro z1 (And.intro z2 z3))
              clear z1 z2 z3 z0 hb4 hbV
              go_wp2
              refine wp_loop_rounds 1 ?_
              rw [rounds_succ]
              go_wp2_with (first
                | (refine wpList_prefix_own rfl (.tmp 65) (.tmp 66) 41 3 Try.underlying41 Try.sizeOf3 rfl (U + 1) cp cp _ (ints st) rfl (by first | rfl | exact congrArg (Value.int .i64) (by omega)) HZ.out.2.1 (by omega) ?_; intro v6 hv6 hob6; rw [ints_take] at hv6; have HT := Lib.hid hv6; clear hv6)
                | (at_builtin; refine wpList_append_own _ rfl (.tmp 67) (.tmp 69) 41 rfl (U + 1) 3 i0 (.int .i64 0) 1 8 Try.underlying41 HI0.out.1 HI0.out.2.1 HI0.out.2.2.1 HI0.out.2.2.2 rfl (by decide) _ cp (ints (st.take cp)) rfl (owns_alloc HT.out) ⟨w4.heap.size, 0, none⟩ 1 1 [.int .i64 j] rfl rfl (cell_one' _ _ _) (by simp [Value.oneCell']) (by unfold maxLen; omega) (by omega) (by simp; omega) ?_; intro v5 w5 hown5 hgrow5 _
                   have hZ3 := HZ.out.2.2
                   have hUZ : U < w4.heap.size := block_lt HZ.out.1
                   have hb5 : Below U w w5 := (hZ3.alloc (Nat.le_of_lt hUZ) _).grown hgrow5 (by simp; omega) (fun q hq => Nat.le_of_succ_le (own_base HT.out hq))
                   have hu5 : w5.heap[U]? = some (.cells ⟨upC N (upStep f st j 0)⟩ 3 (0, 0)) := (hgrow5.block U (by simp; omega) (fun e => by have := own_base HT.out e.symm; omega)).trans ((Below.heap_alloc _ _ _ hUZ).trans HZ.out.1)
                   have H5 := Lib.hid (And.intro hown5 (And.intro hb5 hu5))
                   clear hown5 hgrow5 hb5 hu5 hZ3 hUZ)
                | fail)
              have hU := HV.out.2.2.2.2.2.2.1
              subst hU
              go_roundg (N - j)
              case rel =>
                have hst' := HN1.out.2.2
                have e : st' = st.take cp ++ [(j : Int)] := by rw [hst']; (try dsimp only); rw [hmm]; congr 2; have := HLS.out; omega
                have hlen : st'.length = cp + 1 := by rw [e]; exact take_snoc_len st cp j (by rw [← HLS.out]; omega)
                refine ⟨j + 1, st', upStep f st j 0, by go_num, by show _ ≤ _; omega, by show _ = _; omega, ?_, ?_⟩
                · have h := H5.out.1
                  rw [← ints_snoc, ← e, ← hlen] at h
                  exact h
                · have hb := H5.out.2.2
                  have hl := H5.out.2.1
                  have hpn := par_next HP.out HN1.out.1 HN1.out.2.1 hst' (w5 := w5) (by dsimp only; rw [hmm, ← HN.out]; exact hb) hl
                  dsimp only at hpn
                  rw [hmm] at hpn
                  exact hpn
              case measure => have := HK.out; omega
            · have hcl2 : L < cp := by omega
              have hmm : kidsN 7 = 0 := rfl
              have hwr : IntKind.i64.wrap ((L : Int) - 0) = (L : Int) := by rw [IntWalk.i64_in _ (by unfold maxLen at hcap; omega)]; omega
              have L0 : (0 : Int) ≤ (L : Int) := by omega
              have L1 : (L : Int) ≤ (cp : Int) := by omega
              have L2 : L ≤ cp := by omega
              have keq0 : ∀ (a1 a2 : Option Addr) (c d : Nat) (w : World), Calls Try.prog 86 #[.slice a1 0 c, .slice a2 0 d] w fun e w' => e = .returned (.bool true) ∧ Below w.heap.size w w' := fun a1 a2 c d w => (Try.slices_Equal_int_empty a1 a2 c 0 d w (by omega)).mono fun e w' hh => ⟨hh.1, by rw [hh.2]; exact Below.refl _ _⟩
              go_wp2
              obtain ⟨X, hX⟩ : ∃ X, X = Obj.cells #[.int .i64 7, .int .u64 (K.a.toNat : Int), .int .u64 (K.b.toNat : Int), .int .u64 (K.c.toNat : Int), .int .u64 (K.d.toNat : Int), .int .i64 x, .int .i64 y] 50 := ⟨_, rfl⟩
              rw [← hX]
              obtain ⟨V, hV⟩ : ∃ V, V = wr.alloc X := ⟨_, rfl⟩
              rw [← hV]
              obtain ⟨h, hh⟩ : ∃ h, h = wr.heap.size := ⟨_, rfl⟩
              rw [← hh]
              obtain ⟨U, hU⟩ : ∃ U, U = w.heap.size := ⟨_, rfl⟩
              rw [← hU]
              have hUh : U < h := by rw [hU, hh]; exact block_lt HP.out.blk
              have vz : V.heap.size = h + 1 := by rw [hV, hh]; simp
              have vX : V.heap[h]? = some X := by rw [hV, hh]; exact heap_alloc_new _ _
              have vo : ∀ q, q < h → V.heap[q]? = wr.heap[q]? := fun q hq => by rw [hV]; exact Below.heap_alloc _ _ _ (by omega)
              have vB : Below U w V := by rw [hV, hU]; exact HP.out.low.alloc HP.out.low.size _
              have vU : V.heap[U]? = some (.cells ⟨upC N f⟩ 3 (0, 0)) := by rw [HN.out]; refine (vo U hUh).trans ?_; rw [hU]; exact HP.out.blk
              have vown : V.ownsRow (U + 1) 3 1 (.slice (some ⟨g, 0, none⟩) L cp) L (ints st) := by rw [hU]; exact owns_same HOWN.out fun q hq => vo q (by rw [hh]; exact own_block_lt HOWN.out hq)
              have HV := Lib.hid (And.intro vz (And.intro vX (And.intro vB (And.intro vU (And.intro vown (And.intro hX (And.intro hU hh)))))))
              clear vz vX vo vB vU vown hX hU hh hV a0 a1 a2 a3 a4 a5 a6
              have keq : ∀ W', Below V.heap.size V W' → Calls Try.prog 86 #[.slice (some ⟨g, L, none⟩) 0 (cp - L), .slice (some ⟨h, 5, none⟩) 0 2] W' fun e w' => e = .returned (.bool true) ∧ Below W'.heap.size W' w' := fun W' _ => keq0 _ _ _ _ W'
              refine wp_region_held_drew (S := fun _ => True) (by kernel_rfl) trivial (fun hHeld => ?_)
              refine wpAnyH_take (i := 0) (v := ?_) rfl (by kernel_rfl) (by kernel_rfl) (by kernel_rfl) (fun _ _ _ h => h) ?_ hHeld ?_; rotate_left; · (simp only [List.getElem_toArray, List.getElem_cons_zero]; refine Or.inl ⟨by rfl, ?_⟩; intro w hSw; go_simp; try with_reducible rfl)
              try simp only [List.getElem_toArray, List.getElem_cons_zero, Act.put, List.setIfInBounds_toArray, List.set_cons_zero, List.set_cons_succ]
              refine wpAnyH_take (i := 1) (v := ?_) rfl (by kernel_rfl) (by kernel_rfl) (by kernel_rfl) (fun _ _ _ h => h) ?_ hHeld ?_; rotate_left; · (simp only [List.getElem_toArray, List.getElem_cons_succ, List.getElem_cons_zero]; refine Or.inl ⟨by rfl, ?_⟩; intro w hSw; go_simp; try with_reducible rfl)
              try simp only [List.getElem_toArray, List.getElem_cons_succ, List.getElem_cons_zero, Act.put, List.setIfInBounds_toArray, List.set_cons_zero, List.set_cons_succ]
              refine wpAnyH_take (i := 2) (v := ?_) rfl (by kernel_rfl) (by kernel_rfl) (by kernel_rfl) (fun _ _ _ h => h) ?_ hHeld ?_; rotate_left; · (simp only [List.getElem_toArray, List.getElem_cons_succ, List.getElem_cons_zero]; refine Or.inl ⟨by rfl, ?_⟩; intro w hSw; go_simp; try with_reducible rfl)
              try simp only [List.getElem_toArray, List.getElem_cons_succ, List.getElem_cons_zero, Act.put, List.setIfInBounds_toArray, List.set_cons_zero, List.set_cons_succ]
              refine wpAnyH_take (i := 3) (v := ?_) rfl (by kernel_rfl) (by kernel_rfl) (by kernel_rfl) (fun _ _ _ h => h) ?_ hHeld ?_; rotate_left; · (simp only [List.getElem_toArray, List.getElem_cons_succ, List.getElem_cons_zero]; refine Or.inl ⟨by rfl, ?_⟩; intro w hSw; go_simp; try with_reducible rfl)
              try simp only [List.getElem_toArray, List.getElem_cons_succ, List.getElem_cons_zero, Act.put, List.setIfInBounds_toArray, List.set_cons_zero, List.set_cons_succ]
              refine wpAnyH_take (i := 4) (v := ?_) rfl (by kernel_rfl) (by kernel_rfl) (by kernel_rfl) (fun _ _ _ h => h) ?_ hHeld ?_; rotate_left; · (simp only [List.getElem_toArray, List.getElem_cons_succ, List.getElem_cons_zero]; refine Or.inl ⟨by rfl, ?_⟩; intro w hSw; go_simp; try with_reducible rfl)
              try simp only [List.getElem_toArray, List.getElem_cons_succ, List.getElem_cons_zero, Act.put, List.setIfInBounds_toArray, List.set_cons_zero, List.set_cons_succ]
              refine wpAnyH_take (i := 5) (v := ?_) rfl (by kernel_rfl) (by kernel_rfl) (by kernel_rfl) (fun _ _ _ h => h) ?_ hHeld ?_; rotate_left; · (simp only [List.getElem_toArray, List.getElem_cons_succ, List.getElem_cons_zero]; refine Or.inl ⟨by rfl, ?_⟩; intro w hSw; go_simp; try with_reducible rfl)
              try simp only [List.getElem_toArray, List.getElem_cons_succ, List.getElem_cons_zero, Act.put, List.setIfInBounds_toArray, List.set_cons_zero, List.set_cons_succ]
              refine wpAnyH_take (i := 6) (v := ?_) rfl (by kernel_rfl) (by kernel_rfl) (by kernel_rfl) (fun _ _ _ h => h) ?_ hHeld ?_; rotate_left; · (simp only [List.getElem_toArray, List.getElem_cons_succ, List.getElem_cons_zero]; refine Or.inl ⟨by rfl, ?_⟩; intro w hSw; go_simp; try with_reducible rfl)
              try simp only [List.getElem_toArray, List.getElem_cons_succ, List.getElem_cons_zero, Act.put, List.setIfInBounds_toArray, List.set_cons_zero, List.set_cons_succ]
              refine wpAnyH_take (i := 7) (v := ?_) rfl (by kernel_rfl) (by kernel_rfl) (by kernel_rfl) (fun _ _ _ h => h) ?_ hHeld ?_; rotate_left; · (simp only [List.getElem_toArray, List.getElem_cons_succ, List.getElem_cons_zero]; refine Or.inl ⟨by rfl, ?_⟩; intro w hSw; go_simp; try with_reducible rfl)
              try simp only [List.getElem_toArray, List.getElem_cons_succ, List.getElem_cons_zero, Act.put, List.setIfInBounds_toArray, List.set_cons_zero, List.set_cons_succ]
              refine wpAnyH_take (i := 8) (v := ?_) rfl (by kernel_rfl) (by kernel_rfl) (by kernel_rfl) (fun _ _ _ h => h) ?_ hHeld ?_; rotate_left; · (simp only [List.getElem_toArray, List.getElem_cons_succ, List.getElem_cons_zero]; refine Or.inl ⟨by rfl, ?_⟩; intro w hSw; go_simp; try with_reducible rfl)
              try simp only [List.getElem_toArray, List.getElem_cons_succ, List.getElem_cons_zero, Act.put, List.setIfInBounds_toArray, List.set_cons_zero, List.set_cons_succ]
              refine wpAnyH_ready (rs := [9]) (by kernel_rfl) (by simp) ?_
              refine AllReadyH.cons rfl (fun K' hK => ?_) AllReadyH.nil
              simp only [List.getElem_toArray, List.getElem_cons_succ, List.getElem_cons_zero]
              rw [if_pos (by rfl)]
              go_simp
              (go_at_call 86; refine (keq _ (Below.refl _ V).drew).mono ?_; rintro e w4 ⟨rfl, hb4⟩)
              refine hK.out _ _ trivial (fun _ => ?_)
              clear hK K'
              try simp only [List.getElem_toArray, List.getElem_cons_succ, List.getElem_cons_zero, Act.put, List.setIfInBounds_toArray, List.set_cons_zero, List.set_cons_succ]
              refine wpAnyH_take (i := 10) (v := ?_) rfl (by kernel_rfl) (by kernel_rfl) (by kernel_rfl) (fun _ _ _ h => h) ?_ hHeld ?_; rotate_left; · (simp only [List.getElem_toArray, List.getElem_cons_succ, List.getElem_cons_zero]; refine Or.inl ⟨by rfl, ?_⟩; intro w hSw; go_simp; try with_reducible rfl)
              try simp only [List.getElem_toArray, List.getElem_cons_succ, List.getElem_cons_zero, Act.put, List.setIfInBounds_toArray, List.set_cons_zero, List.set_cons_succ]
              refine wpAnyH_take (i := 11) (v := ?_) rfl (by kernel_rfl) (by kernel_rfl) (by kernel_rfl) (fun _ _ _ h => h) ?_ hHeld ?_; rotate_left; · (simp only [List.getElem_toArray, List.getElem_cons_succ, List.getElem_cons_zero]; refine Or.inl ⟨by rfl, ?_⟩; intro w hSw; go_simp; try with_reducible rfl)
              try simp only [List.getElem_toArray, List.getElem_cons_succ, List.getElem_cons_zero, Act.put, List.setIfInBounds_toArray, List.set_cons_zero, List.set_cons_succ]
              refine wpAnyH_done (by kernel_rfl) ?_ _
              have hbV : Below V.heap.size V w4 := (Below.refl _ V).drew.trans hb4
              have z1 : w4.heap[U]? = some (.cells ⟨upC N f⟩ 3 (0, 0)) := (hbV.block U (by have := HV.out.1; omega)).trans HV.out.2.2.2.1
              have z2 : w4.ownsRow (U + 1) 3 1 (.slice (some ⟨g, 0, none⟩) L cp) L (ints st) := owns_same HV.out.2.2.2.2.1 fun q hq => hbV.block q (own_block_lt HV.out.2.2.2.2.1 hq)
              have z3 : Below U w w4 := HV.out.2.2.1.trans (hbV.mono (by have := HV.out.1; omega))
              have z0 : upStep f st j 0 = f := upStep_zero f st j
              rw [← z0] at z1
              have hUZ0 : U < w4.heap.size := block_lt z1
              have HZ := Lib.hid (And.intro z1 (And.intro z2 z3))
              clear z1 z2 z3 z0 hb4 hbV
              go_wp2
              refine wp_loop_rounds 1 ?_
              rw [rounds_succ]
              go_wp2_with (first
                | (refine wpList_prefix_own rfl (.tmp 65) (.tmp 66) 41 3 Try.underlying41 Try.sizeOf3 rfl (U + 1) L L _ (ints st) rfl (by first | rfl | exact congrArg (Value.int .i64) (by omega)) HZ.out.2.1 (by omega) ?_; intro v6 hv6 hob6; rw [ints_take] at hv6; have HT := Lib.hid hv6; clear hv6)
                | (at_builtin; refine wpList_append_own _ rfl (.tmp 67) (.tmp 69) 41 rfl (U + 1) 3 i0 (.int .i64 0) 1 8 Try.underlying41 HI0.out.1 HI0.out.2.1 HI0.out.2.2.1 HI0.out.2.2.2 rfl (by decide) _ L (ints (st.take L)) rfl (owns_alloc HT.out) ⟨w4.heap.size, 0, none⟩ 1 1 [.int .i64 j] rfl rfl (cell_one' _ _ _) (by simp [Value.oneCell']) (by unfold maxLen; omega) (by omega) (by simp; omega) ?_; intro v5 w5 hown5 hgrow5 _
                   have hZ3 := HZ.out.2.2
                   have hUZ : U < w4.heap.size := block_lt HZ.out.1
                   have hb5 : Below U w w5 := (hZ3.alloc (Nat.le_of_lt hUZ) _).grown hgrow5 (by simp; omega) (fun q hq => Nat.le_of_succ_le (own_base HT.out hq))
                   have hu5 : w5.heap[U]? = some (.cells ⟨upC N (upStep f st j 0)⟩ 3 (0, 0)) := (hgrow5.block U (by simp; omega) (fun e => by have := own_base HT.out e.symm; omega)).trans ((Below.heap_alloc _ _ _ hUZ).trans HZ.out.1)
                   have H5 := Lib.hid (And.intro hown5 (And.intro hb5 hu5))
                   clear hown5 hgrow5 hb5 hu5 hZ3 hUZ)
                | fail)
              have hU := HV.out.2.2.2.2.2.2.1
              subst hU
              go_roundg (N - j)
              case rel =>
                have hst' := HN1.out.2.2
                have e : st' = st.take L ++ [(j : Int)] := by rw [hst']; (try dsimp only); rw [hmm]; congr 2; have := HLS.out; omega
                have hlen : st'.length = L + 1 := by rw [e]; exact take_snoc_len st L j (by rw [← HLS.out]; omega)
                refine ⟨j + 1, st', upStep f st j 0, by go_num, by show _ ≤ _; omega, by show _ = _; omega, ?_, ?_⟩
                · have h := H5.out.1
                  rw [← ints_snoc, ← e, ← hlen] at h
                  exact h
                · have hb := H5.out.2.2
                  have hl := H5.out.2.1
                  have hpn := par_next HP.out HN1.out.1 HN1.out.2.1 hst' (w5 := w5) (by dsimp only; rw [hmm, ← HN.out]; exact hb) hl
                  dsimp only at hpn
                  rw [hmm] at hpn
                  exact hpn
              case measure => have := HK.out; omega
        · clear p0 p1 p2 hm hm0 hm1 hx hy
          have hown0 := HOWN.out.2
          rcases hown0 with ⟨hv0, h00⟩ | ⟨g, cap2, cur, hv0, hBg, hg, -⟩
          · cases hv0
            have hmm : kidsN 8 = 0 := rfl
            have keq0 : ∀ (a1 a2 : Option Addr) (c d : Nat) (w : World), Calls Try.prog 86 #[.slice a1 0 c, .slice a2 0 d] w fun e w' => e = .returned (.bool true) ∧ Below w.heap.size w w' := fun a1 a2 c d w => (Try.slices_Equal_int_empty a1 a2 c 0 d w (by omega)).mono fun e w' hh => ⟨hh.1, by rw [hh.2]; exact Below.refl _ _⟩
            go_wp2
            obtain ⟨X, hX⟩ : ∃ X, X = Obj.cells #[.int .i64 8, .int .u64 (K.a.toNat : Int), .int .u64 (K.b.toNat : Int), .int .u64 (K.c.toNat : Int), .int .u64 (K.d.toNat : Int), .int .i64 x, .int .i64 y] 50 := ⟨_, rfl⟩
            rw [← hX]
            obtain ⟨V, hV⟩ : ∃ V, V = wr.alloc X := ⟨_, rfl⟩
            rw [← hV]
            obtain ⟨h, hh⟩ : ∃ h, h = wr.heap.size := ⟨_, rfl⟩
            rw [← hh]
            obtain ⟨U, hU⟩ : ∃ U, U = w.heap.size := ⟨_, rfl⟩
            rw [← hU]
            have hUh : U < h := by rw [hU, hh]; exact block_lt HP.out.blk
            have vz : V.heap.size = h + 1 := by rw [hV, hh]; simp
            have vX : V.heap[h]? = some X := by rw [hV, hh]; exact heap_alloc_new _ _
            have vo : ∀ q, q < h → V.heap[q]? = wr.heap[q]? := fun q hq => by rw [hV]; exact Below.heap_alloc _ _ _ (by omega)
            have vB : Below U w V := by rw [hV, hU]; exact HP.out.low.alloc HP.out.low.size _
            have vU : V.heap[U]? = some (.cells ⟨upC N f⟩ 3 (0, 0)) := by rw [HN.out]; refine (vo U hUh).trans ?_; rw [hU]; exact HP.out.blk
            have vown : V.ownsRow (U + 1) 3 1 (.slice none 0 0) 0 (ints st) := by rw [hU]; exact owns_same HOWN.out fun q hq => vo q (by rw [hh]; exact own_block_lt HOWN.out hq)
            have HV := Lib.hid (And.intro vz (And.intro vX (And.intro vB (And.intro vU (And.intro vown (And.intro hX (And.intro hU hh)))))))
            clear vz vX vo vB vU vown hX hU hh hV a0 a1 a2 a3 a4 a5 a6
            have keq : ∀ W', Below V.heap.size V W' → Calls Try.prog 86 #[.slice none 0 0, .slice (some ⟨h, 5, none⟩) 0 2] W' fun e w' => e = .returned (.bool true) ∧ Below W'.heap.size W' w' := fun W' _ => keq0 _ _ _ _ W'
            refine wp_region_held_drew (S := fun _ => True) (by kernel_rfl) trivial (fun hHeld => ?_)
            refine wpAnyH_take (i := 0) (v := ?_) rfl (by kernel_rfl) (by kernel_rfl) (by kernel_rfl) (fun _ _ _ h => h) ?_ hHeld ?_; rotate_left; · (simp only [List.getElem_toArray, List.getElem_cons_zero]; refine Or.inl ⟨by rfl, ?_⟩; intro w hSw; go_simp; try with_reducible rfl)
            try simp only [List.getElem_toArray, List.getElem_cons_zero, Act.put, List.setIfInBounds_toArray, List.set_cons_zero, List.set_cons_succ]
            refine wpAnyH_take (i := 1) (v := ?_) rfl (by kernel_rfl) (by kernel_rfl) (by kernel_rfl) (fun _ _ _ h => h) ?_ hHeld ?_; rotate_left; · (simp only [List.getElem_toArray, List.getElem_cons_succ, List.getElem_cons_zero]; refine Or.inl ⟨by rfl, ?_⟩; intro w hSw; go_simp; try with_reducible rfl)
            try simp only [List.getElem_toArray, List.getElem_cons_succ, List.getElem_cons_zero, Act.put, List.setIfInBounds_toArray, List.set_cons_zero, List.set_cons_succ]
            refine wpAnyH_take (i := 2) (v := ?_) rfl (by kernel_rfl) (by kernel_rfl) (by kernel_rfl) (fun _ _ _ h => h) ?_ hHeld ?_; rotate_left; · (simp only [List.getElem_toArray, List.getElem_cons_succ, List.getElem_cons_zero]; refine Or.inl ⟨by rfl, ?_⟩; intro w hSw; go_simp; try with_reducible rfl)
            try simp only [List.getElem_toArray, List.getElem_cons_succ, List.getElem_cons_zero, Act.put, List.setIfInBounds_toArray, List.set_cons_zero, List.set_cons_succ]
            refine wpAnyH_take (i := 3) (v := ?_) rfl (by kernel_rfl) (by kernel_rfl) (by kernel_rfl) (fun _ _ _ h => h) ?_ hHeld ?_; rotate_left; · (simp only [List.getElem_toArray, List.getElem_cons_succ, List.getElem_cons_zero]; refine Or.inl ⟨by rfl, ?_⟩; intro w hSw; go_simp; try with_reducible rfl)
            try simp only [List.getElem_toArray, List.getElem_cons_succ, List.getElem_cons_zero, Act.put, List.setIfInBounds_toArray, List.set_cons_zero, List.set_cons_succ]
            refine wpAnyH_take (i := 4) (v := ?_) rfl (by kernel_rfl) (by kernel_rfl) (by kernel_rfl) (fun _ _ _ h => h) ?_ hHeld ?_; rotate_left; · (simp only [List.getElem_toArray, List.getElem_cons_succ, List.getElem_cons_zero]; refine Or.inl ⟨by rfl, ?_⟩; intro w hSw; go_simp; try with_reducible rfl)
            try simp only [List.getElem_toArray, List.getElem_cons_succ, List.getElem_cons_zero, Act.put, List.setIfInBounds_toArray, List.set_cons_zero, List.set_cons_succ]
            refine wpAnyH_take (i := 5) (v := ?_) rfl (by kernel_rfl) (by kernel_rfl) (by kernel_rfl) (fun _ _ _ h => h) ?_ hHeld ?_; rotate_left; · (simp only [List.getElem_toArray, List.getElem_cons_succ, List.getElem_cons_zero]; refine Or.inl ⟨by rfl, ?_⟩; intro w hSw; go_simp; try with_reducible rfl)
            try simp only [List.getElem_toArray, List.getElem_cons_succ, List.getElem_cons_zero, Act.put, List.setIfInBounds_toArray, List.set_cons_zero, List.set_cons_succ]
            refine wpAnyH_take (i := 6) (v := ?_) rfl (by kernel_rfl) (by kernel_rfl) (by kernel_rfl) (fun _ _ _ h => h) ?_ hHeld ?_; rotate_left; · (simp only [List.getElem_toArray, List.getElem_cons_succ, List.getElem_cons_zero]; refine Or.inl ⟨by rfl, ?_⟩; intro w hSw; go_simp; try with_reducible rfl)
            try simp only [List.getElem_toArray, List.getElem_cons_succ, List.getElem_cons_zero, Act.put, List.setIfInBounds_toArray, List.set_cons_zero, List.set_cons_succ]
            refine wpAnyH_take (i := 7) (v := ?_) rfl (by kernel_rfl) (by kernel_rfl) (by kernel_rfl) (fun _ _ _ h => h) ?_ hHeld ?_; rotate_left; · (simp only [List.getElem_toArray, List.getElem_cons_succ, List.getElem_cons_zero]; refine Or.inl ⟨by rfl, ?_⟩; intro w hSw; go_simp; try with_reducible rfl)
            try simp only [List.getElem_toArray, List.getElem_cons_succ, List.getElem_cons_zero, Act.put, List.setIfInBounds_toArray, List.set_cons_zero, List.set_cons_succ]
            refine wpAnyH_take (i := 8) (v := ?_) rfl (by kernel_rfl) (by kernel_rfl) (by kernel_rfl) (fun _ _ _ h => h) ?_ hHeld ?_; rotate_left; · (simp only [List.getElem_toArray, List.getElem_cons_succ, List.getElem_cons_zero]; refine Or.inl ⟨by rfl, ?_⟩; intro w hSw; go_simp; try with_reducible rfl)
            try simp only [List.getElem_toArray, List.getElem_cons_succ, List.getElem_cons_zero, Act.put, List.setIfInBounds_toArray, List.set_cons_zero, List.set_cons_succ]
            refine wpAnyH_ready (rs := [9]) (by kernel_rfl) (by simp) ?_
            refine AllReadyH.cons rfl (fun K' hK => ?_) AllReadyH.nil
            simp only [List.getElem_toArray, List.getElem_cons_succ, List.getElem_cons_zero]
            rw [if_pos (by rfl)]
            go_simp
            (go_at_call 86; refine (keq _ (Below.refl _ V).drew).mono ?_; rintro e w4 ⟨rfl, hb4⟩)
            refine hK.out _ _ trivial (fun _ => ?_)
            clear hK K'
            try simp only [List.getElem_toArray, List.getElem_cons_succ, List.getElem_cons_zero, Act.put, List.setIfInBounds_toArray, List.set_cons_zero, List.set_cons_succ]
            refine wpAnyH_take (i := 10) (v := ?_) rfl (by kernel_rfl) (by kernel_rfl) (by kernel_rfl) (fun _ _ _ h => h) ?_ hHeld ?_; rotate_left; · (simp only [List.getElem_toArray, List.getElem_cons_succ, List.getElem_cons_zero]; refine Or.inl ⟨by rfl, ?_⟩; intro w hSw; go_simp; try with_reducible rfl)
            try simp only [List.getElem_toArray, List.getElem_cons_succ, List.getElem_cons_zero, Act.put, List.setIfInBounds_toArray, List.set_cons_zero, List.set_cons_succ]
            refine wpAnyH_take (i := 11) (v := ?_) rfl (by kernel_rfl) (by kernel_rfl) (by kernel_rfl) (fun _ _ _ h => h) ?_ hHeld ?_; rotate_left; · (simp only [List.getElem_toArray, List.getElem_cons_succ, List.getElem_cons_zero]; refine Or.inl ⟨by rfl, ?_⟩; intro w hSw; go_simp; try with_reducible rfl)
            try simp only [List.getElem_toArray, List.getElem_cons_succ, List.getElem_cons_zero, Act.put, List.setIfInBounds_toArray, List.set_cons_zero, List.set_cons_succ]
            refine wpAnyH_done (by kernel_rfl) ?_ _
            have hbV : Below V.heap.size V w4 := (Below.refl _ V).drew.trans hb4
            have z1 : w4.heap[U]? = some (.cells ⟨upC N f⟩ 3 (0, 0)) := (hbV.block U (by have := HV.out.1; omega)).trans HV.out.2.2.2.1
            have z2 : w4.ownsRow (U + 1) 3 1 (.slice none 0 0) 0 (ints st) := owns_same HV.out.2.2.2.2.1 fun q hq => hbV.block q (own_block_lt HV.out.2.2.2.2.1 hq)
            have z3 : Below U w w4 := HV.out.2.2.1.trans (hbV.mono (by have := HV.out.1; omega))
            have z0 : upStep f st j 0 = f := upStep_zero f st j
            rw [← z0] at z1
            have hUZ0 : U < w4.heap.size := block_lt z1
            have HZ := Lib.hid (And.intro z1 (And.intro z2 z3))
            clear z1 z2 z3 z0 hb4 hbV
            go_wp2
            refine wp_loop_rounds 1 ?_
            rw [rounds_succ]
            go_wp2_with (first
              | (refine wpList_prefix_own rfl (.tmp 65) (.tmp 66) 41 3 Try.underlying41 Try.sizeOf3 rfl (U + 1) 0 0 _ (ints st) rfl (by first | rfl | exact congrArg (Value.int .i64) (by omega)) HZ.out.2.1 (by omega) ?_; intro v6 hv6 hob6; rw [ints_take] at hv6; have HT := Lib.hid hv6; clear hv6)
              | (at_builtin; refine wpList_append_own _ rfl (.tmp 67) (.tmp 69) 41 rfl (U + 1) 3 i0 (.int .i64 0) 1 8 Try.underlying41 HI0.out.1 HI0.out.2.1 HI0.out.2.2.1 HI0.out.2.2.2 rfl (by decide) _ 0 (ints (st.take 0)) rfl (owns_alloc HT.out) ⟨w4.heap.size, 0, none⟩ 1 1 [.int .i64 j] rfl rfl (cell_one' _ _ _) (by simp [Value.oneCell']) (by unfold maxLen; omega) (by omega) (by simp; omega) ?_; intro v5 w5 hown5 hgrow5 _
                 have hZ3 := HZ.out.2.2
                 have hUZ : U < w4.heap.size := block_lt HZ.out.1
                 have hb5 : Below U w w5 := (hZ3.alloc (Nat.le_of_lt hUZ) _).grown hgrow5 (by simp; omega) (fun q hq => Nat.le_of_succ_le (own_base HT.out hq))
                 have hu5 : w5.heap[U]? = some (.cells ⟨upC N (upStep f st j 0)⟩ 3 (0, 0)) := (hgrow5.block U (by simp; omega) (fun e => by have := own_base HT.out e.symm; omega)).trans ((Below.heap_alloc _ _ _ hUZ).trans HZ.out.1)
                 have H5 := Lib.hid (And.intro hown5 (And.intro hb5 hu5))
                 clear hown5 hgrow5 hb5 hu5 hZ3 hUZ)
              | fail)
            have hU := HV.out.2.2.2.2.2.2.1
            subst hU
            go_roundg (N - j)
            case rel =>
              have hst' := HN1.out.2.2
              have e : st' = st.take 0 ++ [(j : Int)] := by rw [hst']; (try dsimp only); rw [hmm]; congr 2; have := HLS.out; omega
              have hlen : st'.length = 0 + 1 := by rw [e]; exact take_snoc_len st 0 j (by rw [← HLS.out]; omega)
              refine ⟨j + 1, st', upStep f st j 0, by go_num, by show _ ≤ _; omega, by show _ = _; omega, ?_, ?_⟩
              · have h := H5.out.1
                rw [← ints_snoc, ← e, ← hlen] at h
                exact h
              · have hb := H5.out.2.2
                have hl := H5.out.2.1
                have hpn := par_next HP.out HN1.out.1 HN1.out.2.1 hst' (w5 := w5) (by dsimp only; rw [hmm, ← HN.out]; exact hb) hl
                dsimp only at hpn
                rw [hmm] at hpn
                exact hpn
            case measure => have := HK.out; omega
          · cases hv0
            have hgl := block_lt hg
            clear hg
            by_cases hcl : cp = L
            · subst hcl
              have hmm : kidsN 8 = 0 := rfl
              have hwr : IntKind.i64.wrap ((cp : Int) - 0) = (cp : Int) := by rw [IntWalk.i64_in _ (by unfold maxLen at hcap; omega)]; omega
              have L0 : (0 : Int) ≤ (cp : Int) := by omega
              have keq0 : ∀ (a1 a2 : Option Addr) (c d : Nat) (w : World), Calls Try.prog 86 #[.slice a1 0 c, .slice a2 0 d] w fun e w' => e = .returned (.bool true) ∧ Below w.heap.size w w' := fun a1 a2 c d w => (Try.slices_Equal_int_empty a1 a2 c 0 d w (by omega)).mono fun e w' hh => ⟨hh.1, by rw [hh.2]; exact Below.refl _ _⟩
              go_wp2
              obtain ⟨X, hX⟩ : ∃ X, X = Obj.cells #[.int .i64 8, .int .u64 (K.a.toNat : Int), .int .u64 (K.b.toNat : Int), .int .u64 (K.c.toNat : Int), .int .u64 (K.d.toNat : Int), .int .i64 x, .int .i64 y] 50 := ⟨_, rfl⟩
              rw [← hX]
              obtain ⟨V, hV⟩ : ∃ V, V = wr.alloc X := ⟨_, rfl⟩
              rw [← hV]
              obtain ⟨h, hh⟩ : ∃ h, h = wr.heap.size := ⟨_, rfl⟩
              rw [← hh]
              obtain ⟨U, hU⟩ : ∃ U, U = w.heap.size := ⟨_, rfl⟩
              rw [← hU]
              have hUh : U < h := by rw [hU, hh]; exact block_lt HP.out.blk
              have vz : V.heap.size = h + 1 := by rw [hV, hh]; simp
              have vX : V.heap[h]? = some X := by rw [hV, hh]; exact heap_alloc_new _ _
              have vo : ∀ q, q < h → V.heap[q]? = wr.heap[q]? := fun q hq => by rw [hV]; exact Below.heap_alloc _ _ _ (by omega)
              have vB : Below U w V := by rw [hV, hU]; exact HP.out.low.alloc HP.out.low.size _
              have vU : V.heap[U]? = some (.cells ⟨upC N f⟩ 3 (0, 0)) := by rw [HN.out]; refine (vo U hUh).trans ?_; rw [hU]; exact HP.out.blk
              have vown : V.ownsRow (U + 1) 3 1 (.slice (some ⟨g, 0, none⟩) cp cp) cp (ints st) := by rw [hU]; exact owns_same HOWN.out fun q hq => vo q (by rw [hh]; exact own_block_lt HOWN.out hq)
              have HV := Lib.hid (And.intro vz (And.intro vX (And.intro vB (And.intro vU (And.intro vown (And.intro hX (And.intro hU hh)))))))
              clear vz vX vo vB vU vown hX hU hh hV a0 a1 a2 a3 a4 a5 a6
              have keq : ∀ W', Below V.heap.size V W' → Calls Try.prog 86 #[.slice (some ⟨g, 0, none⟩) 0 0, .slice (some ⟨h, 5, none⟩) 0 2] W' fun e w' => e = .returned (.bool true) ∧ Below W'.heap.size W' w' := fun W' _ => keq0 _ _ _ _ W'
              refine wp_region_held_drew (S := fun _ => True) (by kernel_rfl) trivial (fun hHeld => ?_)
              refine wpAnyH_take (i := 0) (v := ?_) rfl (by kernel_rfl) (by kernel_rfl) (by kernel_rfl) (fun _ _ _ h => h) ?_ hHeld ?_; rotate_left; · (simp only [List.getElem_toArray, List.getElem_cons_zero]; refine Or.inl ⟨by rfl, ?_⟩; intro w hSw; go_simp; try with_reducible rfl)
              try simp only [List.getElem_toArray, List.getElem_cons_zero, Act.put, List.setIfInBounds_toArray, List.set_cons_zero, List.set_cons_succ]
              refine wpAnyH_take (i := 1) (v := ?_) rfl (by kernel_rfl) (by kernel_rfl) (by kernel_rfl) (fun _ _ _ h => h) ?_ hHeld ?_; rotate_left; · (simp only [List.getElem_toArray, List.getElem_cons_succ, List.getElem_cons_zero]; refine Or.inl ⟨by rfl, ?_⟩; intro w hSw; go_simp; try with_reducible rfl)
              try simp only [List.getElem_toArray, List.getElem_cons_succ, List.getElem_cons_zero, Act.put, List.setIfInBounds_toArray, List.set_cons_zero, List.set_cons_succ]
              refine wpAnyH_take (i := 2) (v := ?_) rfl (by kernel_rfl) (by kernel_rfl) (by kernel_rfl) (fun _ _ _ h => h) ?_ hHeld ?_; rotate_left; · (simp only [List.getElem_toArray, List.getElem_cons_succ, List.getElem_cons_zero]; refine Or.inl ⟨by rfl, ?_⟩; intro w hSw; go_simp; try with_reducible rfl)
              try simp only [List.getElem_toArray, List.getElem_cons_succ, List.getElem_cons_zero, Act.put, List.setIfInBounds_toArray, List.set_cons_zero, List.set_cons_succ]
              refine wpAnyH_take (i := 3) (v := ?_) rfl (by kernel_rfl) (by kernel_rfl) (by kernel_rfl) (fun _ _ _ h => h) ?_ hHeld ?_; rotate_left; · (simp only [List.getElem_toArray, List.getElem_cons_succ, List.getElem_cons_zero]; refine Or.inl ⟨by rfl, ?_⟩; intro w hSw; go_simp; try with_reducible rfl)
              try simp only [List.getElem_toArray, List.getElem_cons_succ, List.getElem_cons_zero, Act.put, List.setIfInBounds_toArray, List.set_cons_zero, List.set_cons_succ]
              refine wpAnyH_take (i := 4) (v := ?_) rfl (by kernel_rfl) (by kernel_rfl) (by kernel_rfl) (fun _ _ _ h => h) ?_ hHeld ?_; rotate_left; · (simp only [List.getElem_toArray, List.getElem_cons_succ, List.getElem_cons_zero]; refine Or.inl ⟨by rfl, ?_⟩; intro w hSw; go_simp; try with_reducible rfl)
              try simp only [List.getElem_toArray, List.getElem_cons_succ, List.getElem_cons_zero, Act.put, List.setIfInBounds_toArray, List.set_cons_zero, List.set_cons_succ]
              refine wpAnyH_take (i := 5) (v := ?_) rfl (by kernel_rfl) (by kernel_rfl) (by kernel_rfl) (fun _ _ _ h => h) ?_ hHeld ?_; rotate_left; · (simp only [List.getElem_toArray, List.getElem_cons_succ, List.getElem_cons_zero]; refine Or.inl ⟨by rfl, ?_⟩; intro w hSw; go_simp; try with_reducible rfl)
              try simp only [List.getElem_toArray, List.getElem_cons_succ, List.getElem_cons_zero, Act.put, List.setIfInBounds_toArray, List.set_cons_zero, List.set_cons_succ]
              refine wpAnyH_take (i := 6) (v := ?_) rfl (by kernel_rfl) (by kernel_rfl) (by kernel_rfl) (fun _ _ _ h => h) ?_ hHeld ?_; rotate_left; · (simp only [List.getElem_toArray, List.getElem_cons_succ, List.getElem_cons_zero]; refine Or.inl ⟨by rfl, ?_⟩; intro w hSw; go_simp; try with_reducible rfl)
              try simp only [List.getElem_toArray, List.getElem_cons_succ, List.getElem_cons_zero, Act.put, List.setIfInBounds_toArray, List.set_cons_zero, List.set_cons_succ]
              refine wpAnyH_take (i := 7) (v := ?_) rfl (by kernel_rfl) (by kernel_rfl) (by kernel_rfl) (fun _ _ _ h => h) ?_ hHeld ?_; rotate_left; · (simp only [List.getElem_toArray, List.getElem_cons_succ, List.getElem_cons_zero]; refine Or.inl ⟨by rfl, ?_⟩; intro w hSw; go_simp; try with_reducible rfl)
              try simp only [List.getElem_toArray, List.getElem_cons_succ, List.getElem_cons_zero, Act.put, List.setIfInBounds_toArray, List.set_cons_zero, List.set_cons_succ]
              refine wpAnyH_take (i := 8) (v := ?_) rfl (by kernel_rfl) (by kernel_rfl) (by kernel_rfl) (fun _ _ _ h => h) ?_ hHeld ?_; rotate_left; · (simp only [List.getElem_toArray, List.getElem_cons_succ, List.getElem_cons_zero]; refine Or.inl ⟨by rfl, ?_⟩; intro w hSw; go_simp; try with_reducible rfl)
              try simp only [List.getElem_toArray, List.getElem_cons_succ, List.getElem_cons_zero, Act.put, List.setIfInBounds_toArray, List.set_cons_zero, List.set_cons_succ]
              refine wpAnyH_ready (rs := [9]) (by kernel_rfl) (by simp) ?_
              refine AllReadyH.cons rfl (fun K' hK => ?_) AllReadyH.nil
              simp only [List.getElem_toArray, List.getElem_cons_succ, List.getElem_cons_zero]
              rw [if_pos (by rfl)]
              go_simp
              (go_at_call 86; refine (keq _ (Below.refl _ V).drew).mono ?_; rintro e w4 ⟨rfl, hb4⟩)
              refine hK.out _ _ trivial (fun _ => ?_)
              clear hK K'
              try simp only [List.getElem_toArray, List.getElem_cons_succ, List.getElem_cons_zero, Act.put, List.setIfInBounds_toArray, List.set_cons_zero, List.set_cons_succ]
              refine wpAnyH_take (i := 10) (v := ?_) rfl (by kernel_rfl) (by kernel_rfl) (by kernel_rfl) (fun _ _ _ h => h) ?_ hHeld ?_; rotate_left; · (simp only [List.getElem_toArray, List.getElem_cons_succ, List.getElem_cons_zero]; refine Or.inl ⟨by rfl, ?_⟩; intro w hSw; go_simp; try with_reducible rfl)
              try simp only [List.getElem_toArray, List.getElem_cons_succ, List.getElem_cons_zero, Act.put, List.setIfInBounds_toArray, List.set_cons_zero, List.set_cons_succ]
              refine wpAnyH_take (i := 11) (v := ?_) rfl (by kernel_rfl) (by kernel_rfl) (by kernel_rfl) (fun _ _ _ h => h) ?_ hHeld ?_; rotate_left; · (simp only [List.getElem_toArray, List.getElem_cons_succ, List.getElem_cons_zero]; refine Or.inl ⟨by rfl, ?_⟩; intro w hSw; go_simp; try with_reducible rfl)
              try simp only [List.getElem_toArray, List.getElem_cons_succ, List.getElem_cons_zero, Act.put, List.setIfInBounds_toArray, List.set_cons_zero, List.set_cons_succ]
              refine wpAnyH_done (by kernel_rfl) ?_ _
              have hbV : Below V.heap.size V w4 := (Below.refl _ V).drew.trans hb4
              have z1 : w4.heap[U]? = some (.cells ⟨upC N f⟩ 3 (0, 0)) := (hbV.block U (by have := HV.out.1; omega)).trans HV.out.2.2.2.1
              have z2 : w4.ownsRow (U + 1) 3 1 (.slice (some ⟨g, 0, none⟩) cp cp) cp (ints st) := owns_same HV.out.2.2.2.2.1 fun q hq => hbV.block q (own_block_lt HV.out.2.2.2.2.1 hq)
              have z3 : Below U w w4 := HV.out.2.2.1.trans (hbV.mono (by have := HV.out.1; omega))
              have z0 : upStep f st j 0 = f := upStep_zero f st j
              rw [← z0] at z1
              have hUZ0 : U < w4.heap.size := block_lt z1
              have HZ := Lib.hid (And.intro z1 (And.intro z2 z3))
              clear z1 z2 z3 z0 hb4 hbV
              go_wp2
              refine wp_loop_rounds 1 ?_
              rw [rounds_succ]
              go_wp2_with (first
                | (refine wpList_prefix_own rfl (.tmp 65) (.tmp 66) 41 3 Try.underlying41 Try.sizeOf3 rfl (U + 1) cp cp _ (ints st) rfl (by first | rfl | exact congrArg (Value.int .i64) (by omega)) HZ.out.2.1 (by omega) ?_; intro v6 hv6 hob6; rw [ints_take] at hv6; have HT := Lib.hid hv6; clear hv6)
                | (at_builtin; refine wpList_append_own _ rfl (.tmp 67) (.tmp 69) 41 rfl (U + 1) 3 i0 (.int .i64 0) 1 8 Try.underlying41 HI0.out.1 HI0.out.2.1 HI0.out.2.2.1 HI0.out.2.2.2 rfl (by decide) _ cp (ints (st.take cp)) rfl (owns_alloc HT.out) ⟨w4.heap.size, 0, none⟩ 1 1 [.int .i64 j] rfl rfl (cell_one' _ _ _) (by simp [Value.oneCell']) (by unfold maxLen; omega) (by omega) (by simp; omega) ?_; intro v5 w5 hown5 hgrow5 _
                   have hZ3 := HZ.out.2.2
                   have hUZ : U < w4.heap.size := block_lt HZ.out.1
                   have hb5 : Below U w w5 := (hZ3.alloc (Nat.le_of_lt hUZ) _).grown hgrow5 (by simp; omega) (fun q hq => Nat.le_of_succ_le (own_base HT.out hq))
                   have hu5 : w5.heap[U]? = some (.cells ⟨upC N (upStep f st j 0)⟩ 3 (0, 0)) := (hgrow5.block U (by simp; omega) (fun e => by have := own_base HT.out e.symm; omega)).trans ((Below.heap_alloc _ _ _ hUZ).trans HZ.out.1)
                   have H5 := Lib.hid (And.intro hown5 (And.intro hb5 hu5))
                   clear hown5 hgrow5 hb5 hu5 hZ3 hUZ)
                | fail)
              have hU := HV.out.2.2.2.2.2.2.1
              subst hU
              go_roundg (N - j)
              case rel =>
                have hst' := HN1.out.2.2
                have e : st' = st.take cp ++ [(j : Int)] := by rw [hst']; (try dsimp only); rw [hmm]; congr 2; have := HLS.out; omega
                have hlen : st'.length = cp + 1 := by rw [e]; exact take_snoc_len st cp j (by rw [← HLS.out]; omega)
                refine ⟨j + 1, st', upStep f st j 0, by go_num, by show _ ≤ _; omega, by show _ = _; omega, ?_, ?_⟩
                · have h := H5.out.1
                  rw [← ints_snoc, ← e, ← hlen] at h
                  exact h
                · have hb := H5.out.2.2
                  have hl := H5.out.2.1
                  have hpn := par_next HP.out HN1.out.1 HN1.out.2.1 hst' (w5 := w5) (by dsimp only; rw [hmm, ← HN.out]; exact hb) hl
                  dsimp only at hpn
                  rw [hmm] at hpn
                  exact hpn
              case measure => have := HK.out; omega
            · have hcl2 : L < cp := by omega
              have hmm : kidsN 8 = 0 := rfl
              have hwr : IntKind.i64.wrap ((L : Int) - 0) = (L : Int) := by rw [IntWalk.i64_in _ (by unfold maxLen at hcap; omega)]; omega
              have L0 : (0 : Int) ≤ (L : Int) := by omega
              have L1 : (L : Int) ≤ (cp : Int) := by omega
              have L2 : L ≤ cp := by omega
              have keq0 : ∀ (a1 a2 : Option Addr) (c d : Nat) (w : World), Calls Try.prog 86 #[.slice a1 0 c, .slice a2 0 d] w fun e w' => e = .returned (.bool true) ∧ Below w.heap.size w w' := fun a1 a2 c d w => (Try.slices_Equal_int_empty a1 a2 c 0 d w (by omega)).mono fun e w' hh => ⟨hh.1, by rw [hh.2]; exact Below.refl _ _⟩
              go_wp2
              obtain ⟨X, hX⟩ : ∃ X, X = Obj.cells #[.int .i64 8, .int .u64 (K.a.toNat : Int), .int .u64 (K.b.toNat : Int), .int .u64 (K.c.toNat : Int), .int .u64 (K.d.toNat : Int), .int .i64 x, .int .i64 y] 50 := ⟨_, rfl⟩
              rw [← hX]
              obtain ⟨V, hV⟩ : ∃ V, V = wr.alloc X := ⟨_, rfl⟩
              rw [← hV]
              obtain ⟨h, hh⟩ : ∃ h, h = wr.heap.size := ⟨_, rfl⟩
              rw [← hh]
              obtain ⟨U, hU⟩ : ∃ U, U = w.heap.size := ⟨_, rfl⟩
              rw [← hU]
              have hUh : U < h := by rw [hU, hh]; exact block_lt HP.out.blk
              have vz : V.heap.size = h + 1 := by rw [hV, hh]; simp
              have vX : V.heap[h]? = some X := by rw [hV, hh]; exact heap_alloc_new _ _
              have vo : ∀ q, q < h → V.heap[q]? = wr.heap[q]? := fun q hq => by rw [hV]; exact Below.heap_alloc _ _ _ (by omega)
              have vB : Below U w V := by rw [hV, hU]; exact HP.out.low.alloc HP.out.low.size _
              have vU : V.heap[U]? = some (.cells ⟨upC N f⟩ 3 (0, 0)) := by rw [HN.out]; refine (vo U hUh).trans ?_; rw [hU]; exact HP.out.blk
              have vown : V.ownsRow (U + 1) 3 1 (.slice (some ⟨g, 0, none⟩) L cp) L (ints st) := by rw [hU]; exact owns_same HOWN.out fun q hq => vo q (by rw [hh]; exact own_block_lt HOWN.out hq)
              have HV := Lib.hid (And.intro vz (And.intro vX (And.intro vB (And.intro vU (And.intro vown (And.intro hX (And.intro hU hh)))))))
              clear vz vX vo vB vU vown hX hU hh hV a0 a1 a2 a3 a4 a5 a6
              have keq : ∀ W', Below V.heap.size V W' → Calls Try.prog 86 #[.slice (some ⟨g, L, none⟩) 0 (cp - L), .slice (some ⟨h, 5, none⟩) 0 2] W' fun e w' => e = .returned (.bool true) ∧ Below W'.heap.size W' w' := fun W' _ => keq0 _ _ _ _ W'
              refine wp_region_held_drew (S := fun _ => True) (by kernel_rfl) trivial (fun hHeld => ?_)
              refine wpAnyH_take (i := 0) (v := ?_) rfl (by kernel_rfl) (by kernel_rfl) (by kernel_rfl) (fun _ _ _ h => h) ?_ hHeld ?_; rotate_left; · (simp only [List.getElem_toArray, List.getElem_cons_zero]; refine Or.inl ⟨by rfl, ?_⟩; intro w hSw; go_simp; try with_reducible rfl)
              try simp only [List.getElem_toArray, List.getElem_cons_zero, Act.put, List.setIfInBounds_toArray, List.set_cons_zero, List.set_cons_succ]
              refine wpAnyH_take (i := 1) (v := ?_) rfl (by kernel_rfl) (by kernel_rfl) (by kernel_rfl) (fun _ _ _ h => h) ?_ hHeld ?_; rotate_left; · (simp only [List.getElem_toArray, List.getElem_cons_succ, List.getElem_cons_zero]; refine Or.inl ⟨by rfl, ?_⟩; intro w hSw; go_simp; try with_reducible rfl)
              try simp only [List.getElem_toArray, List.getElem_cons_succ, List.getElem_cons_zero, Act.put, List.setIfInBounds_toArray, List.set_cons_zero, List.set_cons_succ]
              refine wpAnyH_take (i := 2) (v := ?_) rfl (by kernel_rfl) (by kernel_rfl) (by kernel_rfl) (fun _ _ _ h => h) ?_ hHeld ?_; rotate_left; · (simp only [List.getElem_toArray, List.getElem_cons_succ, List.getElem_cons_zero]; refine Or.inl ⟨by rfl, ?_⟩; intro w hSw; go_simp; try with_reducible rfl)
              try simp only [List.getElem_toArray, List.getElem_cons_succ, List.getElem_cons_zero, Act.put, List.setIfInBounds_toArray, List.set_cons_zero, List.set_cons_succ]
              refine wpAnyH_take (i := 3) (v := ?_) rfl (by kernel_rfl) (by kernel_rfl) (by kernel_rfl) (fun _ _ _ h => h) ?_ hHeld ?_; rotate_left; · (simp only [List.getElem_toArray, List.getElem_cons_succ, List.getElem_cons_zero]; refine Or.inl ⟨by rfl, ?_⟩; intro w hSw; go_simp; try with_reducible rfl)
              try simp only [List.getElem_toArray, List.getElem_cons_succ, List.getElem_cons_zero, Act.put, List.setIfInBounds_toArray, List.set_cons_zero, List.set_cons_succ]
              refine wpAnyH_take (i := 4) (v := ?_) rfl (by kernel_rfl) (by kernel_rfl) (by kernel_rfl) (fun _ _ _ h => h) ?_ hHeld ?_; rotate_left; · (simp only [List.getElem_toArray, List.getElem_cons_succ, List.getElem_cons_zero]; refine Or.inl ⟨by rfl, ?_⟩; intro w hSw; go_simp; try with_reducible rfl)
              try simp only [List.getElem_toArray, List.getElem_cons_succ, List.getElem_cons_zero, Act.put, List.setIfInBounds_toArray, List.set_cons_zero, List.set_cons_succ]
              refine wpAnyH_take (i := 5) (v := ?_) rfl (by kernel_rfl) (by kernel_rfl) (by kernel_rfl) (fun _ _ _ h => h) ?_ hHeld ?_; rotate_left; · (simp only [List.getElem_toArray, List.getElem_cons_succ, List.getElem_cons_zero]; refine Or.inl ⟨by rfl, ?_⟩; intro w hSw; go_simp; try with_reducible rfl)
              try simp only [List.getElem_toArray, List.getElem_cons_succ, List.getElem_cons_zero, Act.put, List.setIfInBounds_toArray, List.set_cons_zero, List.set_cons_succ]
              refine wpAnyH_take (i := 6) (v := ?_) rfl (by kernel_rfl) (by kernel_rfl) (by kernel_rfl) (fun _ _ _ h => h) ?_ hHeld ?_; rotate_left; · (simp only [List.getElem_toArray, List.getElem_cons_succ, List.getElem_cons_zero]; refine Or.inl ⟨by rfl, ?_⟩; intro w hSw; go_simp; try with_reducible rfl)
              try simp only [List.getElem_toArray, List.getElem_cons_succ, List.getElem_cons_zero, Act.put, List.setIfInBounds_toArray, List.set_cons_zero, List.set_cons_succ]
              refine wpAnyH_take (i := 7) (v := ?_) rfl (by kernel_rfl) (by kernel_rfl) (by kernel_rfl) (fun _ _ _ h => h) ?_ hHeld ?_; rotate_left; · (simp only [List.getElem_toArray, List.getElem_cons_succ, List.getElem_cons_zero]; refine Or.inl ⟨by rfl, ?_⟩; intro w hSw; go_simp; try with_reducible rfl)
              try simp only [List.getElem_toArray, List.getElem_cons_succ, List.getElem_cons_zero, Act.put, List.setIfInBounds_toArray, List.set_cons_zero, List.set_cons_succ]
              refine wpAnyH_take (i := 8) (v := ?_) rfl (by kernel_rfl) (by kernel_rfl) (by kernel_rfl) (fun _ _ _ h => h) ?_ hHeld ?_; rotate_left; · (simp only [List.getElem_toArray, List.getElem_cons_succ, List.getElem_cons_zero]; refine Or.inl ⟨by rfl, ?_⟩; intro w hSw; go_simp; try with_reducible rfl)
              try simp only [List.getElem_toArray, List.getElem_cons_succ, List.getElem_cons_zero, Act.put, List.setIfInBounds_toArray, List.set_cons_zero, List.set_cons_succ]
              refine wpAnyH_ready (rs := [9]) (by kernel_rfl) (by simp) ?_
              refine AllReadyH.cons rfl (fun K' hK => ?_) AllReadyH.nil
              simp only [List.getElem_toArray, List.getElem_cons_succ, List.getElem_cons_zero]
              rw [if_pos (by rfl)]
              go_simp
              (go_at_call 86; refine (keq _ (Below.refl _ V).drew).mono ?_; rintro e w4 ⟨rfl, hb4⟩)
              refine hK.out _ _ trivial (fun _ => ?_)
              clear hK K'
              try simp only [List.getElem_toArray, List.getElem_cons_succ, List.getElem_cons_zero, Act.put, List.setIfInBounds_toArray, List.set_cons_zero, List.set_cons_succ]
              refine wpAnyH_take (i := 10) (v := ?_) rfl (by kernel_rfl) (by kernel_rfl) (by kernel_rfl) (fun _ _ _ h => h) ?_ hHeld ?_; rotate_left; · (simp only [List.getElem_toArray, List.getElem_cons_succ, List.getElem_cons_zero]; refine Or.inl ⟨by rfl, ?_⟩; intro w hSw; go_simp; try with_reducible rfl)
              try simp only [List.getElem_toArray, List.getElem_cons_succ, List.getElem_cons_zero, Act.put, List.setIfInBounds_toArray, List.set_cons_zero, List.set_cons_succ]
              refine wpAnyH_take (i := 11) (v := ?_) rfl (by kernel_rfl) (by kernel_rfl) (by kernel_rfl) (fun _ _ _ h => h) ?_ hHeld ?_; rotate_left; · (simp only [List.getElem_toArray, List.getElem_cons_succ, List.getElem_cons_zero]; refine Or.inl ⟨by rfl, ?_⟩; intro w hSw; go_simp; try with_reducible rfl)
              try simp only [List.getElem_toArray, List.getElem_cons_succ, List.getElem_cons_zero, Act.put, List.setIfInBounds_toArray, List.set_cons_zero, List.set_cons_succ]
              refine wpAnyH_done (by kernel_rfl) ?_ _
              have hbV : Below V.heap.size V w4 := (Below.refl _ V).drew.trans hb4
              have z1 : w4.heap[U]? = some (.cells ⟨upC N f⟩ 3 (0, 0)) := (hbV.block U (by have := HV.out.1; omega)).trans HV.out.2.2.2.1
              have z2 : w4.ownsRow (U + 1) 3 1 (.slice (some ⟨g, 0, none⟩) L cp) L (ints st) := owns_same HV.out.2.2.2.2.1 fun q hq => hbV.block q (own_block_lt HV.out.2.2.2.2.1 hq)
              have z3 : Below U w w4 := HV.out.2.2.1.trans (hbV.mono (by have := HV.out.1; omega))
              have z0 : upStep f st j 0 = f := upStep_zero f st j
              rw [← z0] at z1
              have hUZ0 : U < w4.heap.size := block_lt z1
              have HZ := Lib.hid (And.intro z1 (And.intro z2 z3))
              clear z1 z2 z3 z0 hb4 hbV
              go_wp2
              refine wp_loop_rounds 1 ?_
              rw [rounds_succ]
              go_wp2_with (first
                | (refine wpList_prefix_own rfl (.tmp 65) (.tmp 66) 41 3 Try.underlying41 Try.sizeOf3 rfl (U + 1) L L _ (ints st) rfl (by first | rfl | exact congrArg (Value.int .i64) (by omega)) HZ.out.2.1 (by omega) ?_; intro v6 hv6 hob6; rw [ints_take] at hv6; have HT := Lib.hid hv6; clear hv6)
                | (at_builtin; refine wpList_append_own _ rfl (.tmp 67) (.tmp 69) 41 rfl (U + 1) 3 i0 (.int .i64 0) 1 8 Try.underlying41 HI0.out.1 HI0.out.2.1 HI0.out.2.2.1 HI0.out.2.2.2 rfl (by decide) _ L (ints (st.take L)) rfl (owns_alloc HT.out) ⟨w4.heap.size, 0, none⟩ 1 1 [.int .i64 j] rfl rfl (cell_one' _ _ _) (by simp [Value.oneCell']) (by unfold maxLen; omega) (by omega) (by simp; omega) ?_; intro v5 w5 hown5 hgrow5 _
                   have hZ3 := HZ.out.2.2
                   have hUZ : U < w4.heap.size := block_lt HZ.out.1
                   have hb5 : Below U w w5 := (hZ3.alloc (Nat.le_of_lt hUZ) _).grown hgrow5 (by simp; omega) (fun q hq => Nat.le_of_succ_le (own_base HT.out hq))
                   have hu5 : w5.heap[U]? = some (.cells ⟨upC N (upStep f st j 0)⟩ 3 (0, 0)) := (hgrow5.block U (by simp; omega) (fun e => by have := own_base HT.out e.symm; omega)).trans ((Below.heap_alloc _ _ _ hUZ).trans HZ.out.1)
                   have H5 := Lib.hid (And.intro hown5 (And.intro hb5 hu5))
                   clear hown5 hgrow5 hb5 hu5 hZ3 hUZ)
                | fail)
              have hU := HV.out.2.2.2.2.2.2.1
              subst hU
              go_roundg (N - j)
              case rel =>
                have hst' := HN1.out.2.2
                have e : st' = st.take L ++ [(j : Int)] := by rw [hst']; (try dsimp only); rw [hmm]; congr 2; have := HLS.out; omega
                have hlen : st'.length = L + 1 := by rw [e]; exact take_snoc_len st L j (by rw [← HLS.out]; omega)
                refine ⟨j + 1, st', upStep f st j 0, by go_num, by show _ ≤ _; omega, by show _ = _; omega, ?_, ?_⟩
                · have h := H5.out.1
                  rw [← ints_snoc, ← e, ← hlen] at h
                  exact h
                · have hb := H5.out.2.2
                  have hl := H5.out.2.1
                  have hpn := par_next HP.out HN1.out.1 HN1.out.2.1 hst' (w5 := w5) (by dsimp only; rw [hmm, ← HN.out]; exact hb) hl
                  dsimp only at hpn
                  rw [hmm] at hpn
                  exact hpn
              case measure => have := HK.out; omega
      · rcases p1 hm with rfl | rfl | rfl
        · clear p0 p1 p2 hm0
          have hown0 := HOWN.out.2
          rcases hown0 with ⟨hv0, h00⟩ | ⟨g, cap2, cur, hv0, hBg, hg, -⟩
          · exact absurd h00 (by have := HLS.out; omega)
          cases hv0
          have hgl := block_lt hg
          have hgU : g ≠ w.heap.size := by omega
          clear hg
          have hmm : kidsN 4 = 1 := rfl
          rw [hm] at hx hy
          obtain ⟨s, x0, hs⟩ := split_one st (by have := HLS.out; omega)
          have hxr := HP.out.sml.2 x0 (by rw [hs]; simp)
          obtain ⟨kx, rfl⟩ : ∃ kx : Nat, x0 = (kx : Int) := ⟨x0.toNat, by omega⟩
          have hx2 : x = (kx : Int) := by rw [hx, hs]; unfold wantL; simp
          have hkx : kx < j := by omega
          obtain ⟨R, hR⟩ : ∃ R, R = s.length := ⟨_, rfl⟩
          have hL : L = R + 1 := by rw [HLS.out, hs, hR]; simp
          have hwr : IntKind.i64.wrap ((L : Int) - 1) = (R : Int) := by rw [IntWalk.i64_in _ (by unfold maxLen at hcap; omega)]; omega
          have R0 : (0 : Int) ≤ (R : Int) := by omega
          have R1 : (R : Int) ≤ (L : Int) := by omega
          have R2 : R ≤ L := by omega
          have R3 : L - R = 1 := by omega
          have R4 : (L : Int) ≤ (cp : Int) := by omega
          have R5 : ¬ cp = R := by omega
          have R6 : L ≤ cp := by omega
          have R7 : R ≤ cp := by omega
          have R8 : (R : Int) ≤ (cp : Int) := by omega
          have x0 : (0 : Int) ≤ (kx : Int) := by omega
          have x1 : (kx : Int) < (N : Int) := by omega
          have HS := Lib.hid (And.intro hs hR)
          have HLR := Lib.hid hL
          clear hs hR hL hx hy hxr
          subst hx2
          go_wp2
          obtain ⟨X, hX⟩ : ∃ X, X = Obj.cells #[.int .i64 4, .int .u64 (K.a.toNat : Int), .int .u64 (K.b.toNat : Int), .int .u64 (K.c.toNat : Int), .int .u64 (K.d.toNat : Int), .int .i64 (kx : Int), .int .i64 y] 50 := ⟨_, rfl⟩
          rw [← hX]
          obtain ⟨V, hV⟩ : ∃ V, V = wr.alloc X := ⟨_, rfl⟩
          rw [← hV]
          obtain ⟨h, hh⟩ : ∃ h, h = wr.heap.size := ⟨_, rfl⟩
          rw [← hh]
          obtain ⟨U, hU⟩ : ∃ U, U = w.heap.size := ⟨_, rfl⟩
          rw [← hU]
          have hUh : U < h := by rw [hU, hh]; exact block_lt HP.out.blk
          have vz : V.heap.size = h + 1 := by rw [hV, hh]; simp
          have vX : V.heap[h]? = some X := by rw [hV, hh]; exact heap_alloc_new _ _
          have vo : ∀ q, q < h → V.heap[q]? = wr.heap[q]? := fun q hq => by rw [hV]; exact Below.heap_alloc _ _ _ (by omega)
          have vB : Below U w V := by rw [hV, hU]; exact HP.out.low.alloc HP.out.low.size _
          have vU : V.heap[U]? = some (.cells ⟨upC N f⟩ 3 (0, 0)) := by rw [HN.out]; refine (vo U hUh).trans ?_; rw [hU]; exact HP.out.blk
          have vown : V.ownsRow (U + 1) 3 1 (.slice (some ⟨g, 0, none⟩) L cp) L (ints st) := by rw [hU]; exact owns_same HOWN.out fun q hq => vo q (by rw [hh]; exact own_block_lt HOWN.out hq)
          have HV := Lib.hid (And.intro vz (And.intro vX (And.intro vB (And.intro vU (And.intro vown (And.intro hX (And.intro hU hh)))))))
          clear vz vX vo vB vU vown hX hU hh hV a0 a1 a2 a3 a4 a5 a6
          have gc : ∀ (i : Nat) (u : Int), i < 1 → ([(kx : Int)] : List Int)[i]? = some u → V.cell? ⟨g, R + i, none⟩ = some (.int .i64 u) := fun i u hi hu => owns_cell HV.out.2.2.2.2.1 (by
            unfold ints
            rw [HS.out.1, HS.out.2, List.getElem?_map, List.getElem?_append_right (by omega), Nat.add_sub_cancel_left, hu]; rfl)
          have hc : ∀ (i : Nat) (u : Int), i < 1 → ([(kx : Int)] : List Int)[i]? = some u → V.cell? ⟨h, 5 + i, none⟩ = some (.int .i64 u) := fun i u hi hu => by
            have e : V.heap[h]? = some (.cells _ 50 (0, 0)) := HV.out.2.1.trans (by rw [HV.out.2.2.2.2.2.1])
            rw [cell_of_heap e]
            obtain rfl : i = 0 := by omega
            simpa using hu
          have keq : ∀ W', Below V.heap.size V W' → Calls Try.prog 86 #[.slice (some ⟨g, R, none⟩) 1 (cp - R), .slice (some ⟨h, 5, none⟩) 1 2] W' fun e w' => e = .returned (.bool true) ∧ Below W'.heap.size W' w' := fun W' hb =>
            (Try.slices_Equal_int g R 1 (cp - R) h 5 1 2 [(kx : Int)] [(kx : Int)] W' (by simp) (by simp) (by omega) (by omega) (fun i hi => by
              have hi : i < 1 := hi
              rw [cell_kept hb (gc i _ hi (List.getElem?_eq_getElem hi))]
              rw [List.getD_eq_getElem?_getD, List.getElem?_eq_getElem hi]; rfl) (fun i hi => by
              have hi : i < 1 := hi
              rw [cell_kept hb (hc i _ hi (List.getElem?_eq_getElem hi))]
              rw [List.getD_eq_getElem?_getD, List.getElem?_eq_getElem hi]; rfl)).mono fun e w' hh => by
                obtain ⟨h1, q, rfl⟩ := hh
                exact ⟨by rw [h1]; simp, drewN_below _ _⟩
          refine wp_region_held_drew (S := fun _ => True) (by kernel_rfl) trivial (fun hHeld => ?_)
          refine wpAnyH_take (i := 0) (v := ?_) rfl (by kernel_rfl) (by kernel_rfl) (by kernel_rfl) (fun _ _ _ h => h) ?_ hHeld ?_; rotate_left; · (simp only [List.getElem_toArray, List.getElem_cons_zero]; refine Or.inl ⟨by rfl, ?_⟩; intro w hSw; go_simp; try with_reducible rfl)
          try simp only [List.getElem_toArray, List.getElem_cons_zero, Act.put, List.setIfInBounds_toArray, List.set_cons_zero, List.set_cons_succ]
          refine wpAnyH_take (i := 1) (v := ?_) rfl (by kernel_rfl) (by kernel_rfl) (by kernel_rfl) (fun _ _ _ h => h) ?_ hHeld ?_; rotate_left; · (simp only [List.getElem_toArray, List.getElem_cons_succ, List.getElem_cons_zero]; refine Or.inl ⟨by rfl, ?_⟩; intro w hSw; go_simp; try with_reducible rfl)
          try simp only [List.getElem_toArray, List.getElem_cons_succ, List.getElem_cons_zero, Act.put, List.setIfInBounds_toArray, List.set_cons_zero, List.set_cons_succ]
          refine wpAnyH_take (i := 2) (v := ?_) rfl (by kernel_rfl) (by kernel_rfl) (by kernel_rfl) (fun _ _ _ h => h) ?_ hHeld ?_; rotate_left; · (simp only [List.getElem_toArray, List.getElem_cons_succ, List.getElem_cons_zero]; refine Or.inl ⟨by rfl, ?_⟩; intro w hSw; go_simp; try with_reducible rfl)
          try simp only [List.getElem_toArray, List.getElem_cons_succ, List.getElem_cons_zero, Act.put, List.setIfInBounds_toArray, List.set_cons_zero, List.set_cons_succ]
          refine wpAnyH_take (i := 3) (v := ?_) rfl (by kernel_rfl) (by kernel_rfl) (by kernel_rfl) (fun _ _ _ h => h) ?_ hHeld ?_; rotate_left; · (simp only [List.getElem_toArray, List.getElem_cons_succ, List.getElem_cons_zero]; refine Or.inl ⟨by rfl, ?_⟩; intro w hSw; go_simp; try with_reducible rfl)
          try simp only [List.getElem_toArray, List.getElem_cons_succ, List.getElem_cons_zero, Act.put, List.setIfInBounds_toArray, List.set_cons_zero, List.set_cons_succ]
          refine wpAnyH_take (i := 4) (v := ?_) rfl (by kernel_rfl) (by kernel_rfl) (by kernel_rfl) (fun _ _ _ h => h) ?_ hHeld ?_; rotate_left; · (simp only [List.getElem_toArray, List.getElem_cons_succ, List.getElem_cons_zero]; refine Or.inl ⟨by rfl, ?_⟩; intro w hSw; go_simp; try with_reducible rfl)
          try simp only [List.getElem_toArray, List.getElem_cons_succ, List.getElem_cons_zero, Act.put, List.setIfInBounds_toArray, List.set_cons_zero, List.set_cons_succ]
          refine wpAnyH_take (i := 5) (v := ?_) rfl (by kernel_rfl) (by kernel_rfl) (by kernel_rfl) (fun _ _ _ h => h) ?_ hHeld ?_; rotate_left; · (simp only [List.getElem_toArray, List.getElem_cons_succ, List.getElem_cons_zero]; refine Or.inl ⟨by rfl, ?_⟩; intro w hSw; go_simp; try with_reducible rfl)
          try simp only [List.getElem_toArray, List.getElem_cons_succ, List.getElem_cons_zero, Act.put, List.setIfInBounds_toArray, List.set_cons_zero, List.set_cons_succ]
          refine wpAnyH_take (i := 6) (v := ?_) rfl (by kernel_rfl) (by kernel_rfl) (by kernel_rfl) (fun _ _ _ h => h) ?_ hHeld ?_; rotate_left; · (simp only [List.getElem_toArray, List.getElem_cons_succ, List.getElem_cons_zero]; refine Or.inl ⟨by rfl, ?_⟩; intro w hSw; go_simp; try with_reducible rfl)
          try simp only [List.getElem_toArray, List.getElem_cons_succ, List.getElem_cons_zero, Act.put, List.setIfInBounds_toArray, List.set_cons_zero, List.set_cons_succ]
          refine wpAnyH_take (i := 7) (v := ?_) rfl (by kernel_rfl) (by kernel_rfl) (by kernel_rfl) (fun _ _ _ h => h) ?_ hHeld ?_; rotate_left; · (simp only [List.getElem_toArray, List.getElem_cons_succ, List.getElem_cons_zero]; refine Or.inl ⟨by rfl, ?_⟩; intro w hSw; go_simp; try with_reducible rfl)
          try simp only [List.getElem_toArray, List.getElem_cons_succ, List.getElem_cons_zero, Act.put, List.setIfInBounds_toArray, List.set_cons_zero, List.set_cons_succ]
          refine wpAnyH_take (i := 8) (v := ?_) rfl (by kernel_rfl) (by kernel_rfl) (by kernel_rfl) (fun _ _ _ h => h) ?_ hHeld ?_; rotate_left; · (simp only [List.getElem_toArray, List.getElem_cons_succ, List.getElem_cons_zero]; refine Or.inl ⟨by rfl, ?_⟩; intro w hSw; go_simp; try with_reducible rfl)
          try simp only [List.getElem_toArray, List.getElem_cons_succ, List.getElem_cons_zero, Act.put, List.setIfInBounds_toArray, List.set_cons_zero, List.set_cons_succ]
          refine wpAnyH_ready (rs := [9]) (by kernel_rfl) (by simp) ?_
          refine AllReadyH.cons rfl (fun K' hK => ?_) AllReadyH.nil
          simp only [List.getElem_toArray, List.getElem_cons_succ, List.getElem_cons_zero]
          rw [if_pos (by rfl)]
          go_simp
          (go_at_call 86; refine (keq _ (Below.refl _ V).drew).mono ?_; rintro e w4 ⟨rfl, hb4⟩)
          refine hK.out _ _ trivial (fun _ => ?_)
          clear hK K'
          try simp only [List.getElem_toArray, List.getElem_cons_succ, List.getElem_cons_zero, Act.put, List.setIfInBounds_toArray, List.set_cons_zero, List.set_cons_succ]
          refine wpAnyH_take (i := 10) (v := ?_) rfl (by kernel_rfl) (by kernel_rfl) (by kernel_rfl) (fun _ _ _ h => h) ?_ hHeld ?_; rotate_left; · (simp only [List.getElem_toArray, List.getElem_cons_succ, List.getElem_cons_zero]; refine Or.inl ⟨by rfl, ?_⟩; intro w hSw; go_simp; try with_reducible rfl)
          try simp only [List.getElem_toArray, List.getElem_cons_succ, List.getElem_cons_zero, Act.put, List.setIfInBounds_toArray, List.set_cons_zero, List.set_cons_succ]
          refine wpAnyH_take (i := 11) (v := ?_) rfl (by kernel_rfl) (by kernel_rfl) (by kernel_rfl) (fun _ _ _ h => h) ?_ hHeld ?_; rotate_left; · (simp only [List.getElem_toArray, List.getElem_cons_succ, List.getElem_cons_zero]; refine Or.inl ⟨by rfl, ?_⟩; intro w hSw; go_simp; try with_reducible rfl)
          try simp only [List.getElem_toArray, List.getElem_cons_succ, List.getElem_cons_zero, Act.put, List.setIfInBounds_toArray, List.set_cons_zero, List.set_cons_succ]
          refine wpAnyH_done (by kernel_rfl) ?_ _
          have hbV : Below V.heap.size V w4 := (Below.refl _ V).drew.trans hb4
          have z1 : w4.heap[U]? = some (.cells ⟨upC N f⟩ 3 (0, 0)) := (hbV.block U (by have := HV.out.1; omega)).trans HV.out.2.2.2.1
          have z2 : w4.ownsRow (U + 1) 3 1 (.slice (some ⟨g, 0, none⟩) L cp) L (ints st) := owns_same HV.out.2.2.2.2.1 fun q hq => hbV.block q (own_block_lt HV.out.2.2.2.2.1 hq)
          have z3 : Below U w w4 := HV.out.2.2.1.trans (hbV.mono (by have := HV.out.1; omega))
          have q0 : w4.cell? ⟨g, R, none⟩ = some (.int .i64 (kx : Int)) := cell_kept hbV (gc 0 _ (by omega) rfl)
          have f0 : w4.frozen? ⟨U, kx, none⟩ = false := frozen_of_heap z1 kx
          have q3 : w4.cell? ⟨U, kx, none⟩ = some (.int .i64 (f kx : Int)) := by rw [cell_of_heap z1]; simpa using upC_get N f kx (by omega)
          have Hw4 := Lib.hid (And.intro z1 (And.intro z2 z3))
          clear z1 z2 z3 hb4 hbV gc hc keq
          go_wp2
          refine wp_loop_rounds 3 ?_
          rw [rounds_succ]
          go_wp2
          obtain ⟨Z, hZ⟩ : ∃ Z, Z = w4.setCell ⟨U, kx, none⟩ (.int .i64 (j : Int)) := ⟨_, rfl⟩
          rw [← hZ]
          have z1 : Z.heap[U]? = some (.cells ⟨upC N (upStep f st j 1)⟩ 3 (0, 0)) := by
            rw [hZ, heap_setCell_same w4 U kx _ _ _ Hw4.out.1]
            have hf : upStep f st j 1 = fun q => if q = kx then j else f q := by
              rw [HS.out.1, upStep_one]
              funext q
              simp only [Int.natCast_inj]
            have e := upC_set N (f) kx j
            rw [hf]
            simp [e]
          have z2 : Z.ownsRow (U + 1) 3 1 (.slice (some ⟨g, 0, none⟩) L cp) L (ints st) := owns_same Hw4.out.2.1 fun q hq => by rw [hZ]; exact Below.heap_setCell _ _ _ _ (fun e => by have := own_base Hw4.out.2.1 hq; have e : q = U := e; omega)
          have z3 : Below U w Z := by rw [hZ]; exact Hw4.out.2.2.setCell (p := ⟨U, kx, none⟩) (Nat.le_refl _) _
          have hUZ0 : U < Z.heap.size := block_lt z1
          have HZ := Lib.hid (And.intro z1 (And.intro z2 z3))
          clear hZ z1 z2 z3 q0 f0 q3
          rw [rounds_succ]
          go_wp2_with (first
            | (refine wpList_prefix_own rfl (.tmp 65) (.tmp 66) 41 3 Try.underlying41 Try.sizeOf3 rfl (U + 1) L R _ (ints st) rfl (by first | rfl | exact congrArg (Value.int .i64) (by omega)) HZ.out.2.1 (by omega) ?_; intro v6 hv6 hob6; rw [ints_take] at hv6; have HT := Lib.hid hv6; clear hv6)
            | (at_builtin; refine wpList_append_own _ rfl (.tmp 67) (.tmp 69) 41 rfl (U + 1) 3 i0 (.int .i64 0) 1 8 Try.underlying41 HI0.out.1 HI0.out.2.1 HI0.out.2.2.1 HI0.out.2.2.2 rfl (by decide) _ R (ints (st.take R)) rfl (owns_alloc HT.out) ⟨Z.heap.size, 0, none⟩ 1 1 [.int .i64 j] rfl rfl (cell_one' _ _ _) (by simp [Value.oneCell']) (by unfold maxLen; omega) (by omega) (by simp; omega) ?_; intro v5 w5 hown5 hgrow5 _
               have hZ3 := HZ.out.2.2
               have hUZ : U < Z.heap.size := block_lt HZ.out.1
               have hb5 : Below U w w5 := (hZ3.alloc (Nat.le_of_lt hUZ) _).grown hgrow5 (by simp; omega) (fun q hq => Nat.le_of_succ_le (own_base HT.out hq))
               have hu5 : w5.heap[U]? = some (.cells ⟨upC N (upStep f st j 1)⟩ 3 (0, 0)) := (hgrow5.block U (by simp; omega) (fun e => by have := own_base HT.out e.symm; omega)).trans ((Below.heap_alloc _ _ _ hUZ).trans HZ.out.1)
               have H5 := Lib.hid (And.intro hown5 (And.intro hb5 hu5))
               clear hown5 hgrow5 hb5 hu5 hZ3 hUZ)
            | fail)
          have hU := HV.out.2.2.2.2.2.2.1
          subst hU
          go_roundg (N - j)
          case rel =>
            have hst' := HN1.out.2.2
            have e : st' = st.take R ++ [(j : Int)] := by rw [hst']; (try dsimp only); rw [hmm]; congr 2; have := HLS.out; have := HLR.out; omega
            have hlen : st'.length = R + 1 := by rw [e]; exact take_snoc_len st R j (by rw [← HLS.out]; have := HLR.out; omega)
            refine ⟨j + 1, st', upStep f st j 1, by go_num, by show _ ≤ _; omega, by show _ = _; omega, ?_, ?_⟩
            · have h := H5.out.1
              rw [← ints_snoc, ← e, ← hlen] at h
              exact h
            · have hb := H5.out.2.2
              have hl := H5.out.2.1
              have hpn := par_next HP.out HN1.out.1 HN1.out.2.1 hst' (w5 := w5) (by dsimp only; rw [hmm, ← HN.out]; exact hb) hl
              dsimp only at hpn
              rw [hmm] at hpn
              exact hpn
          case measure => have := HK.out; omega
        · clear p0 p1 p2 hm0
          have hown0 := HOWN.out.2
          rcases hown0 with ⟨hv0, h00⟩ | ⟨g, cap2, cur, hv0, hBg, hg, -⟩
          · exact absurd h00 (by have := HLS.out; omega)
          cases hv0
          have hgl := block_lt hg
          have hgU : g ≠ w.heap.size := by omega
          clear hg
          have hmm : kidsN 5 = 1 := rfl
          rw [hm] at hx hy
          obtain ⟨s, x0, hs⟩ := split_one st (by have := HLS.out; omega)
          have hxr := HP.out.sml.2 x0 (by rw [hs]; simp)
          obtain ⟨kx, rfl⟩ : ∃ kx : Nat, x0 = (kx : Int) := ⟨x0.toNat, by omega⟩
          have hx2 : x = (kx : Int) := by rw [hx, hs]; unfold wantL; simp
          have hkx : kx < j := by omega
          obtain ⟨R, hR⟩ : ∃ R, R = s.length := ⟨_, rfl⟩
          have hL : L = R + 1 := by rw [HLS.out, hs, hR]; simp
          have hwr : IntKind.i64.wrap ((L : Int) - 1) = (R : Int) := by rw [IntWalk.i64_in _ (by unfold maxLen at hcap; omega)]; omega
          have R0 : (0 : Int) ≤ (R : Int) := by omega
          have R1 : (R : Int) ≤ (L : Int) := by omega
          have R2 : R ≤ L := by omega
          have R3 : L - R = 1 := by omega
          have R4 : (L : Int) ≤ (cp : Int) := by omega
          have R5 : ¬ cp = R := by omega
          have R6 : L ≤ cp := by omega
          have R7 : R ≤ cp := by omega
          have R8 : (R : Int) ≤ (cp : Int) := by omega
          have x0 : (0 : Int) ≤ (kx : Int) := by omega
          have x1 : (kx : Int) < (N : Int) := by omega
          have HS := Lib.hid (And.intro hs hR)
          have HLR := Lib.hid hL
          clear hs hR hL hx hy hxr
          subst hx2
          go_wp2
          obtain ⟨X, hX⟩ : ∃ X, X = Obj.cells #[.int .i64 5, .int .u64 (K.a.toNat : Int), .int .u64 (K.b.toNat : Int), .int .u64 (K.c.toNat : Int), .int .u64 (K.d.toNat : Int), .int .i64 (kx : Int), .int .i64 y] 50 := ⟨_, rfl⟩
          rw [← hX]
          obtain ⟨V, hV⟩ : ∃ V, V = wr.alloc X := ⟨_, rfl⟩
          rw [← hV]
          obtain ⟨h, hh⟩ : ∃ h, h = wr.heap.size := ⟨_, rfl⟩
          rw [← hh]
          obtain ⟨U, hU⟩ : ∃ U, U = w.heap.size := ⟨_, rfl⟩
          rw [← hU]
          have hUh : U < h := by rw [hU, hh]; exact block_lt HP.out.blk
          have vz : V.heap.size = h + 1 := by rw [hV, hh]; simp
          have vX : V.heap[h]? = some X := by rw [hV, hh]; exact heap_alloc_new _ _
          have vo : ∀ q, q < h → V.heap[q]? = wr.heap[q]? := fun q hq => by rw [hV]; exact Below.heap_alloc _ _ _ (by omega)
          have vB : Below U w V := by rw [hV, hU]; exact HP.out.low.alloc HP.out.low.size _
          have vU : V.heap[U]? = some (.cells ⟨upC N f⟩ 3 (0, 0)) := by rw [HN.out]; refine (vo U hUh).trans ?_; rw [hU]; exact HP.out.blk
          have vown : V.ownsRow (U + 1) 3 1 (.slice (some ⟨g, 0, none⟩) L cp) L (ints st) := by rw [hU]; exact owns_same HOWN.out fun q hq => vo q (by rw [hh]; exact own_block_lt HOWN.out hq)
          have HV := Lib.hid (And.intro vz (And.intro vX (And.intro vB (And.intro vU (And.intro vown (And.intro hX (And.intro hU hh)))))))
          clear vz vX vo vB vU vown hX hU hh hV a0 a1 a2 a3 a4 a5 a6
          have gc : ∀ (i : Nat) (u : Int), i < 1 → ([(kx : Int)] : List Int)[i]? = some u → V.cell? ⟨g, R + i, none⟩ = some (.int .i64 u) := fun i u hi hu => owns_cell HV.out.2.2.2.2.1 (by
            unfold ints
            rw [HS.out.1, HS.out.2, List.getElem?_map, List.getElem?_append_right (by omega), Nat.add_sub_cancel_left, hu]; rfl)
          have hc : ∀ (i : Nat) (u : Int), i < 1 → ([(kx : Int)] : List Int)[i]? = some u → V.cell? ⟨h, 5 + i, none⟩ = some (.int .i64 u) := fun i u hi hu => by
            have e : V.heap[h]? = some (.cells _ 50 (0, 0)) := HV.out.2.1.trans (by rw [HV.out.2.2.2.2.2.1])
            rw [cell_of_heap e]
            obtain rfl : i = 0 := by omega
            simpa using hu
          have keq : ∀ W', Below V.heap.size V W' → Calls Try.prog 86 #[.slice (some ⟨g, R, none⟩) 1 (cp - R), .slice (some ⟨h, 5, none⟩) 1 2] W' fun e w' => e = .returned (.bool true) ∧ Below W'.heap.size W' w' := fun W' hb =>
            (Try.slices_Equal_int g R 1 (cp - R) h 5 1 2 [(kx : Int)] [(kx : Int)] W' (by simp) (by simp) (by omega) (by omega) (fun i hi => by
              have hi : i < 1 := hi
              rw [cell_kept hb (gc i _ hi (List.getElem?_eq_getElem hi))]
              rw [List.getD_eq_getElem?_getD, List.getElem?_eq_getElem hi]; rfl) (fun i hi => by
              have hi : i < 1 := hi
              rw [cell_kept hb (hc i _ hi (List.getElem?_eq_getElem hi))]
              rw [List.getD_eq_getElem?_getD, List.getElem?_eq_getElem hi]; rfl)).mono fun e w' hh => by
                obtain ⟨h1, q, rfl⟩ := hh
                exact ⟨by rw [h1]; simp, drewN_below _ _⟩
          refine wp_region_held_drew (S := fun _ => True) (by kernel_rfl) trivial (fun hHeld => ?_)
          refine wpAnyH_take (i := 0) (v := ?_) rfl (by kernel_rfl) (by kernel_rfl) (by kernel_rfl) (fun _ _ _ h => h) ?_ hHeld ?_; rotate_left; · (simp only [List.getElem_toArray, List.getElem_cons_zero]; refine Or.inl ⟨by rfl, ?_⟩; intro w hSw; go_simp; try with_reducible rfl)
          try simp only [List.getElem_toArray, List.getElem_cons_zero, Act.put, List.setIfInBounds_toArray, List.set_cons_zero, List.set_cons_succ]
          refine wpAnyH_take (i := 1) (v := ?_) rfl (by kernel_rfl) (by kernel_rfl) (by kernel_rfl) (fun _ _ _ h => h) ?_ hHeld ?_; rotate_left; · (simp only [List.getElem_toArray, List.getElem_cons_succ, List.getElem_cons_zero]; refine Or.inl ⟨by rfl, ?_⟩; intro w hSw; go_simp; try with_reducible rfl)
          try simp only [List.getElem_toArray, List.getElem_cons_succ, List.getElem_cons_zero, Act.put, List.setIfInBounds_toArray, List.set_cons_zero, List.set_cons_succ]
          refine wpAnyH_take (i := 2) (v := ?_) rfl (by kernel_rfl) (by kernel_rfl) (by kernel_rfl) (fun _ _ _ h => h) ?_ hHeld ?_; rotate_left; · (simp only [List.getElem_toArray, List.getElem_cons_succ, List.getElem_cons_zero]; refine Or.inl ⟨by rfl, ?_⟩; intro w hSw; go_simp; try with_reducible rfl)
          try simp only [List.getElem_toArray, List.getElem_cons_succ, List.getElem_cons_zero, Act.put, List.setIfInBounds_toArray, List.set_cons_zero, List.set_cons_succ]
          refine wpAnyH_take (i := 3) (v := ?_) rfl (by kernel_rfl) (by kernel_rfl) (by kernel_rfl) (fun _ _ _ h => h) ?_ hHeld ?_; rotate_left; · (simp only [List.getElem_toArray, List.getElem_cons_succ, List.getElem_cons_zero]; refine Or.inl ⟨by rfl, ?_⟩; intro w hSw; go_simp; try with_reducible rfl)
          try simp only [List.getElem_toArray, List.getElem_cons_succ, List.getElem_cons_zero, Act.put, List.setIfInBounds_toArray, List.set_cons_zero, List.set_cons_succ]
          refine wpAnyH_take (i := 4) (v := ?_) rfl (by kernel_rfl) (by kernel_rfl) (by kernel_rfl) (fun _ _ _ h => h) ?_ hHeld ?_; rotate_left; · (simp only [List.getElem_toArray, List.getElem_cons_succ, List.getElem_cons_zero]; refine Or.inl ⟨by rfl, ?_⟩; intro w hSw; go_simp; try with_reducible rfl)
          try simp only [List.getElem_toArray, List.getElem_cons_succ, List.getElem_cons_zero, Act.put, List.setIfInBounds_toArray, List.set_cons_zero, List.set_cons_succ]
          refine wpAnyH_take (i := 5) (v := ?_) rfl (by kernel_rfl) (by kernel_rfl) (by kernel_rfl) (fun _ _ _ h => h) ?_ hHeld ?_; rotate_left; · (simp only [List.getElem_toArray, List.getElem_cons_succ, List.getElem_cons_zero]; refine Or.inl ⟨by rfl, ?_⟩; intro w hSw; go_simp; try with_reducible rfl)
          try simp only [List.getElem_toArray, List.getElem_cons_succ, List.getElem_cons_zero, Act.put, List.setIfInBounds_toArray, List.set_cons_zero, List.set_cons_succ]
          refine wpAnyH_take (i := 6) (v := ?_) rfl (by kernel_rfl) (by kernel_rfl) (by kernel_rfl) (fun _ _ _ h => h) ?_ hHeld ?_; rotate_left; · (simp only [List.getElem_toArray, List.getElem_cons_succ, List.getElem_cons_zero]; refine Or.inl ⟨by rfl, ?_⟩; intro w hSw; go_simp; try with_reducible rfl)
          try simp only [List.getElem_toArray, List.getElem_cons_succ, List.getElem_cons_zero, Act.put, List.setIfInBounds_toArray, List.set_cons_zero, List.set_cons_succ]
          refine wpAnyH_take (i := 7) (v := ?_) rfl (by kernel_rfl) (by kernel_rfl) (by kernel_rfl) (fun _ _ _ h => h) ?_ hHeld ?_; rotate_left; · (simp only [List.getElem_toArray, List.getElem_cons_succ, List.getElem_cons_zero]; refine Or.inl ⟨by rfl, ?_⟩; intro w hSw; go_simp; try with_reducible rfl)
          try simp only [List.getElem_toArray, List.getElem_cons_succ, List.getElem_cons_zero, Act.put, List.setIfInBounds_toArray, List.set_cons_zero, List.set_cons_succ]
          refine wpAnyH_take (i := 8) (v := ?_) rfl (by kernel_rfl) (by kernel_rfl) (by kernel_rfl) (fun _ _ _ h => h) ?_ hHeld ?_; rotate_left; · (simp only [List.getElem_toArray, List.getElem_cons_succ, List.getElem_cons_zero]; refine Or.inl ⟨by rfl, ?_⟩; intro w hSw; go_simp; try with_reducible rfl)
          try simp only [List.getElem_toArray, List.getElem_cons_succ, List.getElem_cons_zero, Act.put, List.setIfInBounds_toArray, List.set_cons_zero, List.set_cons_succ]
          refine wpAnyH_ready (rs := [9]) (by kernel_rfl) (by simp) ?_
          refine AllReadyH.cons rfl (fun K' hK => ?_) AllReadyH.nil
          simp only [List.getElem_toArray, List.getElem_cons_succ, List.getElem_cons_zero]
          rw [if_pos (by rfl)]
          go_simp
          (go_at_call 86; refine (keq _ (Below.refl _ V).drew).mono ?_; rintro e w4 ⟨rfl, hb4⟩)
          refine hK.out _ _ trivial (fun _ => ?_)
          clear hK K'
          try simp only [List.getElem_toArray, List.getElem_cons_succ, List.getElem_cons_zero, Act.put, List.setIfInBounds_toArray, List.set_cons_zero, List.set_cons_succ]
          refine wpAnyH_take (i := 10) (v := ?_) rfl (by kernel_rfl) (by kernel_rfl) (by kernel_rfl) (fun _ _ _ h => h) ?_ hHeld ?_; rotate_left; · (simp only [List.getElem_toArray, List.getElem_cons_succ, List.getElem_cons_zero]; refine Or.inl ⟨by rfl, ?_⟩; intro w hSw; go_simp; try with_reducible rfl)
          try simp only [List.getElem_toArray, List.getElem_cons_succ, List.getElem_cons_zero, Act.put, List.setIfInBounds_toArray, List.set_cons_zero, List.set_cons_succ]
          refine wpAnyH_take (i := 11) (v := ?_) rfl (by kernel_rfl) (by kernel_rfl) (by kernel_rfl) (fun _ _ _ h => h) ?_ hHeld ?_; rotate_left; · (simp only [List.getElem_toArray, List.getElem_cons_succ, List.getElem_cons_zero]; refine Or.inl ⟨by rfl, ?_⟩; intro w hSw; go_simp; try with_reducible rfl)
          try simp only [List.getElem_toArray, List.getElem_cons_succ, List.getElem_cons_zero, Act.put, List.setIfInBounds_toArray, List.set_cons_zero, List.set_cons_succ]
          refine wpAnyH_done (by kernel_rfl) ?_ _
          have hbV : Below V.heap.size V w4 := (Below.refl _ V).drew.trans hb4
          have z1 : w4.heap[U]? = some (.cells ⟨upC N f⟩ 3 (0, 0)) := (hbV.block U (by have := HV.out.1; omega)).trans HV.out.2.2.2.1
          have z2 : w4.ownsRow (U + 1) 3 1 (.slice (some ⟨g, 0, none⟩) L cp) L (ints st) := owns_same HV.out.2.2.2.2.1 fun q hq => hbV.block q (own_block_lt HV.out.2.2.2.2.1 hq)
          have z3 : Below U w w4 := HV.out.2.2.1.trans (hbV.mono (by have := HV.out.1; omega))
          have q0 : w4.cell? ⟨g, R, none⟩ = some (.int .i64 (kx : Int)) := cell_kept hbV (gc 0 _ (by omega) rfl)
          have f0 : w4.frozen? ⟨U, kx, none⟩ = false := frozen_of_heap z1 kx
          have q3 : w4.cell? ⟨U, kx, none⟩ = some (.int .i64 (f kx : Int)) := by rw [cell_of_heap z1]; simpa using upC_get N f kx (by omega)
          have Hw4 := Lib.hid (And.intro z1 (And.intro z2 z3))
          clear z1 z2 z3 hb4 hbV gc hc keq
          go_wp2
          refine wp_loop_rounds 3 ?_
          rw [rounds_succ]
          go_wp2
          obtain ⟨Z, hZ⟩ : ∃ Z, Z = w4.setCell ⟨U, kx, none⟩ (.int .i64 (j : Int)) := ⟨_, rfl⟩
          rw [← hZ]
          have z1 : Z.heap[U]? = some (.cells ⟨upC N (upStep f st j 1)⟩ 3 (0, 0)) := by
            rw [hZ, heap_setCell_same w4 U kx _ _ _ Hw4.out.1]
            have hf : upStep f st j 1 = fun q => if q = kx then j else f q := by
              rw [HS.out.1, upStep_one]
              funext q
              simp only [Int.natCast_inj]
            have e := upC_set N (f) kx j
            rw [hf]
            simp [e]
          have z2 : Z.ownsRow (U + 1) 3 1 (.slice (some ⟨g, 0, none⟩) L cp) L (ints st) := owns_same Hw4.out.2.1 fun q hq => by rw [hZ]; exact Below.heap_setCell _ _ _ _ (fun e => by have := own_base Hw4.out.2.1 hq; have e : q = U := e; omega)
          have z3 : Below U w Z := by rw [hZ]; exact Hw4.out.2.2.setCell (p := ⟨U, kx, none⟩) (Nat.le_refl _) _
          have hUZ0 : U < Z.heap.size := block_lt z1
          have HZ := Lib.hid (And.intro z1 (And.intro z2 z3))
          clear hZ z1 z2 z3 q0 f0 q3
          rw [rounds_succ]
          go_wp2_with (first
            | (refine wpList_prefix_own rfl (.tmp 65) (.tmp 66) 41 3 Try.underlying41 Try.sizeOf3 rfl (U + 1) L R _ (ints st) rfl (by first | rfl | exact congrArg (Value.int .i64) (by omega)) HZ.out.2.1 (by omega) ?_; intro v6 hv6 hob6; rw [ints_take] at hv6; have HT := Lib.hid hv6; clear hv6)
            | (at_builtin; refine wpList_append_own _ rfl (.tmp 67) (.tmp 69) 41 rfl (U + 1) 3 i0 (.int .i64 0) 1 8 Try.underlying41 HI0.out.1 HI0.out.2.1 HI0.out.2.2.1 HI0.out.2.2.2 rfl (by decide) _ R (ints (st.take R)) rfl (owns_alloc HT.out) ⟨Z.heap.size, 0, none⟩ 1 1 [.int .i64 j] rfl rfl (cell_one' _ _ _) (by simp [Value.oneCell']) (by unfold maxLen; omega) (by omega) (by simp; omega) ?_; intro v5 w5 hown5 hgrow5 _
               have hZ3 := HZ.out.2.2
               have hUZ : U < Z.heap.size := block_lt HZ.out.1
               have hb5 : Below U w w5 := (hZ3.alloc (Nat.le_of_lt hUZ) _).grown hgrow5 (by simp; omega) (fun q hq => Nat.le_of_succ_le (own_base HT.out hq))
               have hu5 : w5.heap[U]? = some (.cells ⟨upC N (upStep f st j 1)⟩ 3 (0, 0)) := (hgrow5.block U (by simp; omega) (fun e => by have := own_base HT.out e.symm; omega)).trans ((Below.heap_alloc _ _ _ hUZ).trans HZ.out.1)
               have H5 := Lib.hid (And.intro hown5 (And.intro hb5 hu5))
               clear hown5 hgrow5 hb5 hu5 hZ3 hUZ)
            | fail)
          have hU := HV.out.2.2.2.2.2.2.1
          subst hU
          go_roundg (N - j)
          case rel =>
            have hst' := HN1.out.2.2
            have e : st' = st.take R ++ [(j : Int)] := by rw [hst']; (try dsimp only); rw [hmm]; congr 2; have := HLS.out; have := HLR.out; omega
            have hlen : st'.length = R + 1 := by rw [e]; exact take_snoc_len st R j (by rw [← HLS.out]; have := HLR.out; omega)
            refine ⟨j + 1, st', upStep f st j 1, by go_num, by show _ ≤ _; omega, by show _ = _; omega, ?_, ?_⟩
            · have h := H5.out.1
              rw [← ints_snoc, ← e, ← hlen] at h
              exact h
            · have hb := H5.out.2.2
              have hl := H5.out.2.1
              have hpn := par_next HP.out HN1.out.1 HN1.out.2.1 hst' (w5 := w5) (by dsimp only; rw [hmm, ← HN.out]; exact hb) hl
              dsimp only at hpn
              rw [hmm] at hpn
              exact hpn
          case measure => have := HK.out; omega
        · clear p0 p1 p2 hm0
          have hown0 := HOWN.out.2
          rcases hown0 with ⟨hv0, h00⟩ | ⟨g, cap2, cur, hv0, hBg, hg, -⟩
          · exact absurd h00 (by have := HLS.out; omega)
          cases hv0
          have hgl := block_lt hg
          have hgU : g ≠ w.heap.size := by omega
          clear hg
          have hmm : kidsN 6 = 1 := rfl
          rw [hm] at hx hy
          obtain ⟨s, x0, hs⟩ := split_one st (by have := HLS.out; omega)
          have hxr := HP.out.sml.2 x0 (by rw [hs]; simp)
          obtain ⟨kx, rfl⟩ : ∃ kx : Nat, x0 = (kx : Int) := ⟨x0.toNat, by omega⟩
          have hx2 : x = (kx : Int) := by rw [hx, hs]; unfold wantL; simp
          have hkx : kx < j := by omega
          obtain ⟨R, hR⟩ : ∃ R, R = s.length := ⟨_, rfl⟩
          have hL : L = R + 1 := by rw [HLS.out, hs, hR]; simp
          have hwr : IntKind.i64.wrap ((L : Int) - 1) = (R : Int) := by rw [IntWalk.i64_in _ (by unfold maxLen at hcap; omega)]; omega
          have R0 : (0 : Int) ≤ (R : Int) := by omega
          have R1 : (R : Int) ≤ (L : Int) := by omega
          have R2 : R ≤ L := by omega
          have R3 : L - R = 1 := by omega
          have R4 : (L : Int) ≤ (cp : Int) := by omega
          have R5 : ¬ cp = R := by omega
          have R6 : L ≤ cp := by omega
          have R7 : R ≤ cp := by omega
          have R8 : (R : Int) ≤ (cp : Int) := by omega
          have x0 : (0 : Int) ≤ (kx : Int) := by omega
          have x1 : (kx : Int) < (N : Int) := by omega
          have HS := Lib.hid (And.intro hs hR)
          have HLR := Lib.hid hL
          clear hs hR hL hx hy hxr
          subst hx2
          go_wp2
          obtain ⟨X, hX⟩ : ∃ X, X = Obj.cells #[.int .i64 6, .int .u64 (K.a.toNat : Int), .int .u64 (K.b.toNat : Int), .int .u64 (K.c.toNat : Int), .int .u64 (K.d.toNat : Int), .int .i64 (kx : Int), .int .i64 y] 50 := ⟨_, rfl⟩
          rw [← hX]
          obtain ⟨V, hV⟩ : ∃ V, V = wr.alloc X := ⟨_, rfl⟩
          rw [← hV]
          obtain ⟨h, hh⟩ : ∃ h, h = wr.heap.size := ⟨_, rfl⟩
          rw [← hh]
          obtain ⟨U, hU⟩ : ∃ U, U = w.heap.size := ⟨_, rfl⟩
          rw [← hU]
          have hUh : U < h := by rw [hU, hh]; exact block_lt HP.out.blk
          have vz : V.heap.size = h + 1 := by rw [hV, hh]; simp
          have vX : V.heap[h]? = some X := by rw [hV, hh]; exact heap_alloc_new _ _
          have vo : ∀ q, q < h → V.heap[q]? = wr.heap[q]? := fun q hq => by rw [hV]; exact Below.heap_alloc _ _ _ (by omega)
          have vB : Below U w V := by rw [hV, hU]; exact HP.out.low.alloc HP.out.low.size _
          have vU : V.heap[U]? = some (.cells ⟨upC N f⟩ 3 (0, 0)) := by rw [HN.out]; refine (vo U hUh).trans ?_; rw [hU]; exact HP.out.blk
          have vown : V.ownsRow (U + 1) 3 1 (.slice (some ⟨g, 0, none⟩) L cp) L (ints st) := by rw [hU]; exact owns_same HOWN.out fun q hq => vo q (by rw [hh]; exact own_block_lt HOWN.out hq)
          have HV := Lib.hid (And.intro vz (And.intro vX (And.intro vB (And.intro vU (And.intro vown (And.intro hX (And.intro hU hh)))))))
          clear vz vX vo vB vU vown hX hU hh hV a0 a1 a2 a3 a4 a5 a6
          have gc : ∀ (i : Nat) (u : Int), i < 1 → ([(kx : Int)] : List Int)[i]? = some u → V.cell? ⟨g, R + i, none⟩ = some (.int .i64 u) := fun i u hi hu => owns_cell HV.out.2.2.2.2.1 (by
            unfold ints
            rw [HS.out.1, HS.out.2, List.getElem?_map, List.getElem?_append_right (by omega), Nat.add_sub_cancel_left, hu]; rfl)
          have hc : ∀ (i : Nat) (u : Int), i < 1 → ([(kx : Int)] : List Int)[i]? = some u → V.cell? ⟨h, 5 + i, none⟩ = some (.int .i64 u) := fun i u hi hu => by
            have e : V.heap[h]? = some (.cells _ 50 (0, 0)) := HV.out.2.1.trans (by rw [HV.out.2.2.2.2.2.1])
            rw [cell_of_heap e]
            obtain rfl : i = 0 := by omega
            simpa using hu
          have keq : ∀ W', Below V.heap.size V W' → Calls Try.prog 86 #[.slice (some ⟨g, R, none⟩) 1 (cp - R), .slice (some ⟨h, 5, none⟩) 1 2] W' fun e w' => e = .returned (.bool true) ∧ Below W'.heap.size W' w' := fun W' hb =>
            (Try.slices_Equal_int g R 1 (cp - R) h 5 1 2 [(kx : Int)] [(kx : Int)] W' (by simp) (by simp) (by omega) (by omega) (fun i hi => by
              have hi : i < 1 := hi
              rw [cell_kept hb (gc i _ hi (List.getElem?_eq_getElem hi))]
              rw [List.getD_eq_getElem?_getD, List.getElem?_eq_getElem hi]; rfl) (fun i hi => by
              have hi : i < 1 := hi
              rw [cell_kept hb (hc i _ hi (List.getElem?_eq_getElem hi))]
              rw [List.getD_eq_getElem?_getD, List.getElem?_eq_getElem hi]; rfl)).mono fun e w' hh => by
                obtain ⟨h1, q, rfl⟩ := hh
                exact ⟨by rw [h1]; simp, drewN_below _ _⟩
          refine wp_region_held_drew (S := fun _ => True) (by kernel_rfl) trivial (fun hHeld => ?_)
          refine wpAnyH_take (i := 0) (v := ?_) rfl (by kernel_rfl) (by kernel_rfl) (by kernel_rfl) (fun _ _ _ h => h) ?_ hHeld ?_; rotate_left; · (simp only [List.getElem_toArray, List.getElem_cons_zero]; refine Or.inl ⟨by rfl, ?_⟩; intro w hSw; go_simp; try with_reducible rfl)
          try simp only [List.getElem_toArray, List.getElem_cons_zero, Act.put, List.setIfInBounds_toArray, List.set_cons_zero, List.set_cons_succ]
          refine wpAnyH_take (i := 1) (v := ?_) rfl (by kernel_rfl) (by kernel_rfl) (by kernel_rfl) (fun _ _ _ h => h) ?_ hHeld ?_; rotate_left; · (simp only [List.getElem_toArray, List.getElem_cons_succ, List.getElem_cons_zero]; refine Or.inl ⟨by rfl, ?_⟩; intro w hSw; go_simp; try with_reducible rfl)
          try simp only [List.getElem_toArray, List.getElem_cons_succ, List.getElem_cons_zero, Act.put, List.setIfInBounds_toArray, List.set_cons_zero, List.set_cons_succ]
          refine wpAnyH_take (i := 2) (v := ?_) rfl (by kernel_rfl) (by kernel_rfl) (by kernel_rfl) (fun _ _ _ h => h) ?_ hHeld ?_; rotate_left; · (simp only [List.getElem_toArray, List.getElem_cons_succ, List.getElem_cons_zero]; refine Or.inl ⟨by rfl, ?_⟩; intro w hSw; go_simp; try with_reducible rfl)
          try simp only [List.getElem_toArray, List.getElem_cons_succ, List.getElem_cons_zero, Act.put, List.setIfInBounds_toArray, List.set_cons_zero, List.set_cons_succ]
          refine wpAnyH_take (i := 3) (v := ?_) rfl (by kernel_rfl) (by kernel_rfl) (by kernel_rfl) (fun _ _ _ h => h) ?_ hHeld ?_; rotate_left; · (simp only [List.getElem_toArray, List.getElem_cons_succ, List.getElem_cons_zero]; refine Or.inl ⟨by rfl, ?_⟩; intro w hSw; go_simp; try with_reducible rfl)
          try simp only [List.getElem_toArray, List.getElem_cons_succ, List.getElem_cons_zero, Act.put, List.setIfInBounds_toArray, List.set_cons_zero, List.set_cons_succ]
          refine wpAnyH_take (i := 4) (v := ?_) rfl (by kernel_rfl) (by kernel_rfl) (by kernel_rfl) (fun _ _ _ h => h) ?_ hHeld ?_; rotate_left; · (simp only [List.getElem_toArray, List.getElem_cons_succ, List.getElem_cons_zero]; refine Or.inl ⟨by rfl, ?_⟩; intro w hSw; go_simp; try with_reducible rfl)
          try simp only [List.getElem_toArray, List.getElem_cons_succ, List.getElem_cons_zero, Act.put, List.setIfInBounds_toArray, List.set_cons_zero, List.set_cons_succ]
          refine wpAnyH_take (i := 5) (v := ?_) rfl (by kernel_rfl) (by kernel_rfl) (by kernel_rfl) (fun _ _ _ h => h) ?_ hHeld ?_; rotate_left; · (simp only [List.getElem_toArray, List.getElem_cons_succ, List.getElem_cons_zero]; refine Or.inl ⟨by rfl, ?_⟩; intro w hSw; go_simp; try with_reducible rfl)
          try simp only [List.getElem_toArray, List.getElem_cons_succ, List.getElem_cons_zero, Act.put, List.setIfInBounds_toArray, List.set_cons_zero, List.set_cons_succ]
          refine wpAnyH_take (i := 6) (v := ?_) rfl (by kernel_rfl) (by kernel_rfl) (by kernel_rfl) (fun _ _ _ h => h) ?_ hHeld ?_; rotate_left; · (simp only [List.getElem_toArray, List.getElem_cons_succ, List.getElem_cons_zero]; refine Or.inl ⟨by rfl, ?_⟩; intro w hSw; go_simp; try with_reducible rfl)
          try simp only [List.getElem_toArray, List.getElem_cons_succ, List.getElem_cons_zero, Act.put, List.setIfInBounds_toArray, List.set_cons_zero, List.set_cons_succ]
          refine wpAnyH_take (i := 7) (v := ?_) rfl (by kernel_rfl) (by kernel_rfl) (by kernel_rfl) (fun _ _ _ h => h) ?_ hHeld ?_; rotate_left; · (simp only [List.getElem_toArray, List.getElem_cons_succ, List.getElem_cons_zero]; refine Or.inl ⟨by rfl, ?_⟩; intro w hSw; go_simp; try with_reducible rfl)
          try simp only [List.getElem_toArray, List.getElem_cons_succ, List.getElem_cons_zero, Act.put, List.setIfInBounds_toArray, List.set_cons_zero, List.set_cons_succ]
          refine wpAnyH_take (i := 8) (v := ?_) rfl (by kernel_rfl) (by kernel_rfl) (by kernel_rfl) (fun _ _ _ h => h) ?_ hHeld ?_; rotate_left; · (simp only [List.getElem_toArray, List.getElem_cons_succ, List.getElem_cons_zero]; refine Or.inl ⟨by rfl, ?_⟩; intro w hSw; go_simp; try with_reducible rfl)
          try simp only [List.getElem_toArray, List.getElem_cons_succ, List.getElem_cons_zero, Act.put, List.setIfInBounds_toArray, List.set_cons_zero, List.set_cons_succ]
          refine wpAnyH_ready (rs := [9]) (by kernel_rfl) (by simp) ?_
          refine AllReadyH.cons rfl (fun K' hK => ?_) AllReadyH.nil
          simp only [List.getElem_toArray, List.getElem_cons_succ, List.getElem_cons_zero]
          rw [if_pos (by rfl)]
          go_simp
          (go_at_call 86; refine (keq _ (Below.refl _ V).drew).mono ?_; rintro e w4 ⟨rfl, hb4⟩)
          refine hK.out _ _ trivial (fun _ => ?_)
          clear hK K'
          try simp only [List.getElem_toArray, List.getElem_cons_succ, List.getElem_cons_zero, Act.put, List.setIfInBounds_toArray, List.set_cons_zero, List.set_cons_succ]
          refine wpAnyH_take (i := 10) (v := ?_) rfl (by kernel_rfl) (by kernel_rfl) (by kernel_rfl) (fun _ _ _ h => h) ?_ hHeld ?_; rotate_left; · (simp only [List.getElem_toArray, List.getElem_cons_succ, List.getElem_cons_zero]; refine Or.inl ⟨by rfl, ?_⟩; intro w hSw; go_simp; try with_reducible rfl)
          try simp only [List.getElem_toArray, List.getElem_cons_succ, List.getElem_cons_zero, Act.put, List.setIfInBounds_toArray, List.set_cons_zero, List.set_cons_succ]
          refine wpAnyH_take (i := 11) (v := ?_) rfl (by kernel_rfl) (by kernel_rfl) (by kernel_rfl) (fun _ _ _ h => h) ?_ hHeld ?_; rotate_left; · (simp only [List.getElem_toArray, List.getElem_cons_succ, List.getElem_cons_zero]; refine Or.inl ⟨by rfl, ?_⟩; intro w hSw; go_simp; try with_reducible rfl)
          try simp only [List.getElem_toArray, List.getElem_cons_succ, List.getElem_cons_zero, Act.put, List.setIfInBounds_toArray, List.set_cons_zero, List.set_cons_succ]
          refine wpAnyH_done (by kernel_rfl) ?_ _
          have hbV : Below V.heap.size V w4 := (Below.refl _ V).drew.trans hb4
          have z1 : w4.heap[U]? = some (.cells ⟨upC N f⟩ 3 (0, 0)) := (hbV.block U (by have := HV.out.1; omega)).trans HV.out.2.2.2.1
          have z2 : w4.ownsRow (U + 1) 3 1 (.slice (some ⟨g, 0, none⟩) L cp) L (ints st) := owns_same HV.out.2.2.2.2.1 fun q hq => hbV.block q (own_block_lt HV.out.2.2.2.2.1 hq)
          have z3 : Below U w w4 := HV.out.2.2.1.trans (hbV.mono (by have := HV.out.1; omega))
          have q0 : w4.cell? ⟨g, R, none⟩ = some (.int .i64 (kx : Int)) := cell_kept hbV (gc 0 _ (by omega) rfl)
          have f0 : w4.frozen? ⟨U, kx, none⟩ = false := frozen_of_heap z1 kx
          have q3 : w4.cell? ⟨U, kx, none⟩ = some (.int .i64 (f kx : Int)) := by rw [cell_of_heap z1]; simpa using upC_get N f kx (by omega)
          have Hw4 := Lib.hid (And.intro z1 (And.intro z2 z3))
          clear z1 z2 z3 hb4 hbV gc hc keq
          go_wp2
          refine wp_loop_rounds 3 ?_
          rw [rounds_succ]
          go_wp2
          obtain ⟨Z, hZ⟩ : ∃ Z, Z = w4.setCell ⟨U, kx, none⟩ (.int .i64 (j : Int)) := ⟨_, rfl⟩
          rw [← hZ]
          have z1 : Z.heap[U]? = some (.cells ⟨upC N (upStep f st j 1)⟩ 3 (0, 0)) := by
            rw [hZ, heap_setCell_same w4 U kx _ _ _ Hw4.out.1]
            have hf : upStep f st j 1 = fun q => if q = kx then j else f q := by
              rw [HS.out.1, upStep_one]
              funext q
              simp only [Int.natCast_inj]
            have e := upC_set N (f) kx j
            rw [hf]
            simp [e]
          have z2 : Z.ownsRow (U + 1) 3 1 (.slice (some ⟨g, 0, none⟩) L cp) L (ints st) := owns_same Hw4.out.2.1 fun q hq => by rw [hZ]; exact Below.heap_setCell _ _ _ _ (fun e => by have := own_base Hw4.out.2.1 hq; have e : q = U := e; omega)
          have z3 : Below U w Z := by rw [hZ]; exact Hw4.out.2.2.setCell (p := ⟨U, kx, none⟩) (Nat.le_refl _) _
          have hUZ0 : U < Z.heap.size := block_lt z1
          have HZ := Lib.hid (And.intro z1 (And.intro z2 z3))
          clear hZ z1 z2 z3 q0 f0 q3
          rw [rounds_succ]
          go_wp2_with (first
            | (refine wpList_prefix_own rfl (.tmp 65) (.tmp 66) 41 3 Try.underlying41 Try.sizeOf3 rfl (U + 1) L R _ (ints st) rfl (by first | rfl | exact congrArg (Value.int .i64) (by omega)) HZ.out.2.1 (by omega) ?_; intro v6 hv6 hob6; rw [ints_take] at hv6; have HT := Lib.hid hv6; clear hv6)
            | (at_builtin; refine wpList_append_own _ rfl (.tmp 67) (.tmp 69) 41 rfl (U + 1) 3 i0 (.int .i64 0) 1 8 Try.underlying41 HI0.out.1 HI0.out.2.1 HI0.out.2.2.1 HI0.out.2.2.2 rfl (by decide) _ R (ints (st.take R)) rfl (owns_alloc HT.out) ⟨Z.heap.size, 0, none⟩ 1 1 [.int .i64 j] rfl rfl (cell_one' _ _ _) (by simp [Value.oneCell']) (by unfold maxLen; omega) (by omega) (by simp; omega) ?_; intro v5 w5 hown5 hgrow5 _
               have hZ3 := HZ.out.2.2
               have hUZ : U < Z.heap.size := block_lt HZ.out.1
               have hb5 : Below U w w5 := (hZ3.alloc (Nat.le_of_lt hUZ) _).grown hgrow5 (by simp; omega) (fun q hq => Nat.le_of_succ_le (own_base HT.out hq))
               have hu5 : w5.heap[U]? = some (.cells ⟨upC N (upStep f st j 1)⟩ 3 (0, 0)) := (hgrow5.block U (by simp; omega) (fun e => by have := own_base HT.out e.symm; omega)).trans ((Below.heap_alloc _ _ _ hUZ).trans HZ.out.1)
               have H5 := Lib.hid (And.intro hown5 (And.intro hb5 hu5))
               clear hown5 hgrow5 hb5 hu5 hZ3 hUZ)
            | fail)
          have hU := HV.out.2.2.2.2.2.2.1
          subst hU
          go_roundg (N - j)
          case rel =>
            have hst' := HN1.out.2.2
            have e : st' = st.take R ++ [(j : Int)] := by rw [hst']; (try dsimp only); rw [hmm]; congr 2; have := HLS.out; have := HLR.out; omega
            have hlen : st'.length = R + 1 := by rw [e]; exact take_snoc_len st R j (by rw [← HLS.out]; have := HLR.out; omega)
            refine ⟨j + 1, st', upStep f st j 1, by go_num, by show _ ≤ _; omega, by show _ = _; omega, ?_, ?_⟩
            · have h := H5.out.1
              rw [← ints_snoc, ← e, ← hlen] at h
              exact h
            · have hb := H5.out.2.2
              have hl := H5.out.2.1
              have hpn := par_next HP.out HN1.out.1 HN1.out.2.1 hst' (w5 := w5) (by dsimp only; rw [hmm, ← HN.out]; exact hb) hl
              dsimp only at hpn
              rw [hmm] at hpn
              exact hpn
          case measure => have := HK.out; omega
      · rcases p2 hm with rfl | rfl
        · clear p0 p1 p2 hm0
          have hown0 := HOWN.out.2
          rcases hown0 with ⟨hv0, h00⟩ | ⟨g, cap2, cur, hv0, hBg, hg, -⟩
          · exact absurd h00 (by have := HLS.out; omega)
          cases hv0
          have hgl := block_lt hg
          have hgU : g ≠ w.heap.size := by omega
          clear hg
          have hmm : kidsN 2 = 2 := rfl
          rw [hm] at hx hy
          obtain ⟨s, x0, y0, hs⟩ := split_two st (by have := HLS.out; omega)
          have hxr := HP.out.sml.2 x0 (by rw [hs]; simp)
          have hyr := HP.out.sml.2 y0 (by rw [hs]; simp)
          obtain ⟨kx, rfl⟩ : ∃ kx : Nat, x0 = (kx : Int) := ⟨x0.toNat, by omega⟩
          obtain ⟨ky, rfl⟩ : ∃ ky : Nat, y0 = (ky : Int) := ⟨y0.toNat, by omega⟩
          have hx2 : x = (kx : Int) := by rw [hx, hs]; unfold wantL; simp
          have hy2 : y = (ky : Int) := by rw [hy, hs]; unfold wantL; simp
          have hkx : kx < j := by omega
          have hky : ky < j := by omega
          obtain ⟨R, hR⟩ : ∃ R, R = s.length := ⟨_, rfl⟩
          have hL : L = R + 2 := by rw [HLS.out, hs, hR]; simp
          have hwr : IntKind.i64.wrap ((L : Int) - 2) = (R : Int) := by rw [IntWalk.i64_in _ (by unfold maxLen at hcap; omega)]; omega
          have R0 : (0 : Int) ≤ (R : Int) := by omega
          have R1 : (R : Int) ≤ (L : Int) := by omega
          have R2 : R ≤ L := by omega
          have R3 : L - R = 2 := by omega
          have R4 : (L : Int) ≤ (cp : Int) := by omega
          have R5 : ¬ cp = R := by omega
          have R6 : L ≤ cp := by omega
          have R7 : R ≤ cp := by omega
          have R8 : (R : Int) ≤ (cp : Int) := by omega
          have x0 : (0 : Int) ≤ (kx : Int) := by omega
          have x1 : (kx : Int) < (N : Int) := by omega
          have y0 : (0 : Int) ≤ (ky : Int) := by omega
          have y1 : (ky : Int) < (N : Int) := by omega
          have HS := Lib.hid (And.intro hs hR)
          have HLR := Lib.hid hL
          clear hs hR hL hx hy hxr hyr
          subst hx2
          subst hy2
          go_wp2
          obtain ⟨X, hX⟩ : ∃ X, X = Obj.cells #[.int .i64 2, .int .u64 (K.a.toNat : Int), .int .u64 (K.b.toNat : Int), .int .u64 (K.c.toNat : Int), .int .u64 (K.d.toNat : Int), .int .i64 (kx : Int), .int .i64 (ky : Int)] 50 := ⟨_, rfl⟩
          rw [← hX]
          obtain ⟨V, hV⟩ : ∃ V, V = wr.alloc X := ⟨_, rfl⟩
          rw [← hV]
          obtain ⟨h, hh⟩ : ∃ h, h = wr.heap.size := ⟨_, rfl⟩
          rw [← hh]
          obtain ⟨U, hU⟩ : ∃ U, U = w.heap.size := ⟨_, rfl⟩
          rw [← hU]
          have hUh : U < h := by rw [hU, hh]; exact block_lt HP.out.blk
          have vz : V.heap.size = h + 1 := by rw [hV, hh]; simp
          have vX : V.heap[h]? = some X := by rw [hV, hh]; exact heap_alloc_new _ _
          have vo : ∀ q, q < h → V.heap[q]? = wr.heap[q]? := fun q hq => by rw [hV]; exact Below.heap_alloc _ _ _ (by omega)
          have vB : Below U w V := by rw [hV, hU]; exact HP.out.low.alloc HP.out.low.size _
          have vU : V.heap[U]? = some (.cells ⟨upC N f⟩ 3 (0, 0)) := by rw [HN.out]; refine (vo U hUh).trans ?_; rw [hU]; exact HP.out.blk
          have vown : V.ownsRow (U + 1) 3 1 (.slice (some ⟨g, 0, none⟩) L cp) L (ints st) := by rw [hU]; exact owns_same HOWN.out fun q hq => vo q (by rw [hh]; exact own_block_lt HOWN.out hq)
          have HV := Lib.hid (And.intro vz (And.intro vX (And.intro vB (And.intro vU (And.intro vown (And.intro hX (And.intro hU hh)))))))
          clear vz vX vo vB vU vown hX hU hh hV a0 a1 a2 a3 a4 a5 a6
          have gc : ∀ (i : Nat) (u : Int), i < 2 → ([(kx : Int), (ky : Int)] : List Int)[i]? = some u → V.cell? ⟨g, R + i, none⟩ = some (.int .i64 u) := fun i u hi hu => owns_cell HV.out.2.2.2.2.1 (by
            unfold ints
            rw [HS.out.1, HS.out.2, List.getElem?_map, List.getElem?_append_right (by omega), Nat.add_sub_cancel_left, hu]; rfl)
          have hc : ∀ (i : Nat) (u : Int), i < 2 → ([(kx : Int), (ky : Int)] : List Int)[i]? = some u → V.cell? ⟨h, 5 + i, none⟩ = some (.int .i64 u) := fun i u hi hu => by
            have e : V.heap[h]? = some (.cells _ 50 (0, 0)) := HV.out.2.1.trans (by rw [HV.out.2.2.2.2.2.1])
            rw [cell_of_heap e]
            rcases (show i = 0 ∨ i = 1 by omega) with rfl | rfl <;> simpa using hu
          have keq : ∀ W', Below V.heap.size V W' → Calls Try.prog 86 #[.slice (some ⟨g, R, none⟩) 2 (cp - R), .slice (some ⟨h, 5, none⟩) 2 2] W' fun e w' => e = .returned (.bool true) ∧ Below W'.heap.size W' w' := fun W' hb =>
            (Try.slices_Equal_int g R 2 (cp - R) h 5 2 2 [(kx : Int), (ky : Int)] [(kx : Int), (ky : Int)] W' (by simp) (by simp) (by omega) (by omega) (fun i hi => by
              have hi : i < 2 := hi
              rw [cell_kept hb (gc i _ hi (List.getElem?_eq_getElem hi))]
              rw [List.getD_eq_getElem?_getD, List.getElem?_eq_getElem hi]; rfl) (fun i hi => by
              have hi : i < 2 := hi
              rw [cell_kept hb (hc i _ hi (List.getElem?_eq_getElem hi))]
              rw [List.getD_eq_getElem?_getD, List.getElem?_eq_getElem hi]; rfl)).mono fun e w' hh => by
                obtain ⟨h1, q, rfl⟩ := hh
                exact ⟨by rw [h1]; simp, drewN_below _ _⟩
          refine wp_region_held_drew (S := fun _ => True) (by kernel_rfl) trivial (fun hHeld => ?_)
          refine wpAnyH_take (i := 0) (v := ?_) rfl (by kernel_rfl) (by kernel_rfl) (by kernel_rfl) (fun _ _ _ h => h) ?_ hHeld ?_; rotate_left; · (simp only [List.getElem_toArray, List.getElem_cons_zero]; refine Or.inl ⟨by rfl, ?_⟩; intro w hSw; go_simp; try with_reducible rfl)
          try simp only [List.getElem_toArray, List.getElem_cons_zero, Act.put, List.setIfInBounds_toArray, List.set_cons_zero, List.set_cons_succ]
          refine wpAnyH_take (i := 1) (v := ?_) rfl (by kernel_rfl) (by kernel_rfl) (by kernel_rfl) (fun _ _ _ h => h) ?_ hHeld ?_; rotate_left; · (simp only [List.getElem_toArray, List.getElem_cons_succ, List.getElem_cons_zero]; refine Or.inl ⟨by rfl, ?_⟩; intro w hSw; go_simp; try with_reducible rfl)
          try simp only [List.getElem_toArray, List.getElem_cons_succ, List.getElem_cons_zero, Act.put, List.setIfInBounds_toArray, List.set_cons_zero, List.set_cons_succ]
          refine wpAnyH_take (i := 2) (v := ?_) rfl (by kernel_rfl) (by kernel_rfl) (by kernel_rfl) (fun _ _ _ h => h) ?_ hHeld ?_; rotate_left; · (simp only [List.getElem_toArray, List.getElem_cons_succ, List.getElem_cons_zero]; refine Or.inl ⟨by rfl, ?_⟩; intro w hSw; go_simp; try with_reducible rfl)
          try simp only [List.getElem_toArray, List.getElem_cons_succ, List.getElem_cons_zero, Act.put, List.setIfInBounds_toArray, List.set_cons_zero, List.set_cons_succ]
          refine wpAnyH_take (i := 3) (v := ?_) rfl (by kernel_rfl) (by kernel_rfl) (by kernel_rfl) (fun _ _ _ h => h) ?_ hHeld ?_; rotate_left; · (simp only [List.getElem_toArray, List.getElem_cons_succ, List.getElem_cons_zero]; refine Or.inl ⟨by rfl, ?_⟩; intro w hSw; go_simp; try with_reducible rfl)
          try simp only [List.getElem_toArray, List.getElem_cons_succ, List.getElem_cons_zero, Act.put, List.setIfInBounds_toArray, List.set_cons_zero, List.set_cons_succ]
          refine wpAnyH_take (i := 4) (v := ?_) rfl (by kernel_rfl) (by kernel_rfl) (by kernel_rfl) (fun _ _ _ h => h) ?_ hHeld ?_; rotate_left; · (simp only [List.getElem_toArray, List.getElem_cons_succ, List.getElem_cons_zero]; refine Or.inl ⟨by rfl, ?_⟩; intro w hSw; go_simp; try with_reducible rfl)
          try simp only [List.getElem_toArray, List.getElem_cons_succ, List.getElem_cons_zero, Act.put, List.setIfInBounds_toArray, List.set_cons_zero, List.set_cons_succ]
          refine wpAnyH_take (i := 5) (v := ?_) rfl (by kernel_rfl) (by kernel_rfl) (by kernel_rfl) (fun _ _ _ h => h) ?_ hHeld ?_; rotate_left; · (simp only [List.getElem_toArray, List.getElem_cons_succ, List.getElem_cons_zero]; refine Or.inl ⟨by rfl, ?_⟩; intro w hSw; go_simp; try with_reducible rfl)
          try simp only [List.getElem_toArray, List.getElem_cons_succ, List.getElem_cons_zero, Act.put, List.setIfInBounds_toArray, List.set_cons_zero, List.set_cons_succ]
          refine wpAnyH_take (i := 6) (v := ?_) rfl (by kernel_rfl) (by kernel_rfl) (by kernel_rfl) (fun _ _ _ h => h) ?_ hHeld ?_; rotate_left; · (simp only [List.getElem_toArray, List.getElem_cons_succ, List.getElem_cons_zero]; refine Or.inl ⟨by rfl, ?_⟩; intro w hSw; go_simp; try with_reducible rfl)
          try simp only [List.getElem_toArray, List.getElem_cons_succ, List.getElem_cons_zero, Act.put, List.setIfInBounds_toArray, List.set_cons_zero, List.set_cons_succ]
          refine wpAnyH_take (i := 7) (v := ?_) rfl (by kernel_rfl) (by kernel_rfl) (by kernel_rfl) (fun _ _ _ h => h) ?_ hHeld ?_; rotate_left; · (simp only [List.getElem_toArray, List.getElem_cons_succ, List.getElem_cons_zero]; refine Or.inl ⟨by rfl, ?_⟩; intro w hSw; go_simp; try with_reducible rfl)
          try simp only [List.getElem_toArray, List.getElem_cons_succ, List.getElem_cons_zero, Act.put, List.setIfInBounds_toArray, List.set_cons_zero, List.set_cons_succ]
          refine wpAnyH_take (i := 8) (v := ?_) rfl (by kernel_rfl) (by kernel_rfl) (by kernel_rfl) (fun _ _ _ h => h) ?_ hHeld ?_; rotate_left; · (simp only [List.getElem_toArray, List.getElem_cons_succ, List.getElem_cons_zero]; refine Or.inl ⟨by rfl, ?_⟩; intro w hSw; go_simp; try with_reducible rfl)
          try simp only [List.getElem_toArray, List.getElem_cons_succ, List.getElem_cons_zero, Act.put, List.setIfInBounds_toArray, List.set_cons_zero, List.set_cons_succ]
          refine wpAnyH_ready (rs := [9]) (by kernel_rfl) (by simp) ?_
          refine AllReadyH.cons rfl (fun K' hK => ?_) AllReadyH.nil
          simp only [List.getElem_toArray, List.getElem_cons_succ, List.getElem_cons_zero]
          rw [if_pos (by rfl)]
          go_simp
          (go_at_call 86; refine (keq _ (Below.refl _ V).drew).mono ?_; rintro e w4 ⟨rfl, hb4⟩)
          refine hK.out _ _ trivial (fun _ => ?_)
          clear hK K'
          try simp only [List.getElem_toArray, List.getElem_cons_succ, List.getElem_cons_zero, Act.put, List.setIfInBounds_toArray, List.set_cons_zero, List.set_cons_succ]
          refine wpAnyH_take (i := 10) (v := ?_) rfl (by kernel_rfl) (by kernel_rfl) (by kernel_rfl) (fun _ _ _ h => h) ?_ hHeld ?_; rotate_left; · (simp only [List.getElem_toArray, List.getElem_cons_succ, List.getElem_cons_zero]; refine Or.inl ⟨by rfl, ?_⟩; intro w hSw; go_simp; try with_reducible rfl)
          try simp only [List.getElem_toArray, List.getElem_cons_succ, List.getElem_cons_zero, Act.put, List.setIfInBounds_toArray, List.set_cons_zero, List.set_cons_succ]
          refine wpAnyH_take (i := 11) (v := ?_) rfl (by kernel_rfl) (by kernel_rfl) (by kernel_rfl) (fun _ _ _ h => h) ?_ hHeld ?_; rotate_left; · (simp only [List.getElem_toArray, List.getElem_cons_succ, List.getElem_cons_zero]; refine Or.inl ⟨by rfl, ?_⟩; intro w hSw; go_simp; try with_reducible rfl)
          try simp only [List.getElem_toArray, List.getElem_cons_succ, List.getElem_cons_zero, Act.put, List.setIfInBounds_toArray, List.set_cons_zero, List.set_cons_succ]
          refine wpAnyH_done (by kernel_rfl) ?_ _
          have hbV : Below V.heap.size V w4 := (Below.refl _ V).drew.trans hb4
          have z1 : w4.heap[U]? = some (.cells ⟨upC N f⟩ 3 (0, 0)) := (hbV.block U (by have := HV.out.1; omega)).trans HV.out.2.2.2.1
          have z2 : w4.ownsRow (U + 1) 3 1 (.slice (some ⟨g, 0, none⟩) L cp) L (ints st) := owns_same HV.out.2.2.2.2.1 fun q hq => hbV.block q (own_block_lt HV.out.2.2.2.2.1 hq)
          have z3 : Below U w w4 := HV.out.2.2.1.trans (hbV.mono (by have := HV.out.1; omega))
          have q0 : w4.cell? ⟨g, R, none⟩ = some (.int .i64 (kx : Int)) := cell_kept hbV (gc 0 _ (by omega) rfl)
          have f0 : w4.frozen? ⟨U, kx, none⟩ = false := frozen_of_heap z1 kx
          have q3 : w4.cell? ⟨U, kx, none⟩ = some (.int .i64 (f kx : Int)) := by rw [cell_of_heap z1]; simpa using upC_get N f kx (by omega)
          have q1 := Lib.hid (cell_kept hbV (gc 1 _ (by omega) rfl))
          have Hw4 := Lib.hid (And.intro z1 (And.intro z2 z3))
          clear z1 z2 z3 hb4 hbV gc hc keq
          go_wp2
          refine wp_loop_rounds 3 ?_
          rw [rounds_succ]
          go_wp2
          obtain ⟨Z1, hZ⟩ : ∃ Z, Z = w4.setCell ⟨U, kx, none⟩ (.int .i64 (j : Int)) := ⟨_, rfl⟩
          rw [← hZ]
          have z1 : Z1.heap[U]? = some (.cells ⟨upC N (fun q => if q = kx then j else f q)⟩ 3 (0, 0)) := by
            rw [hZ, heap_setCell_same w4 U kx _ _ _ Hw4.out.1]
            have e := upC_set N (f) kx j
            simp [e]
          have z2 : Z1.ownsRow (U + 1) 3 1 (.slice (some ⟨g, 0, none⟩) L cp) L (ints st) := owns_same Hw4.out.2.1 fun q hq => by rw [hZ]; exact Below.heap_setCell _ _ _ _ (fun e => by have := own_base Hw4.out.2.1 hq; have e : q = U := e; omega)
          have z3 : Below U w Z1 := by rw [hZ]; exact Hw4.out.2.2.setCell (p := ⟨U, kx, none⟩) (Nat.le_refl _) _
          have q2 : Z1.cell? ⟨g, R + 1, none⟩ = some (.int .i64 (ky : Int)) := owns_cell z2 (by
            unfold ints
            rw [HS.out.1, HS.out.2, List.getElem?_map, List.getElem?_append_right (by omega), Nat.add_sub_cancel_left]; rfl)
          have f1 : Z1.frozen? ⟨U, ky, none⟩ = false := frozen_of_heap z1 ky
          have q4 : Z1.cell? ⟨U, ky, none⟩ = some (.int .i64 ((fun q => if q = kx then j else f q) ky : Int)) := by rw [cell_of_heap z1]; simpa using upC_get N (fun q => if q = kx then j else f q) ky (by omega)
          obtain ⟨o4, ho4⟩ : ∃ o4 : Int, o4 = ((fun q => if q = kx then j else f q) ky : Int) := ⟨_, rfl⟩
          rw [← ho4] at q4
          clear ho4
          have HZ1 := Lib.hid (And.intro z1 (And.intro z2 z3))
          clear hZ z1 z2 z3 q0 f0 q3
          rw [rounds_succ]
          go_wp2
          obtain ⟨Z, hZ⟩ : ∃ Z, Z = Z1.setCell ⟨U, ky, none⟩ (.int .i64 (j : Int)) := ⟨_, rfl⟩
          rw [← hZ]
          have z1 : Z.heap[U]? = some (.cells ⟨upC N (upStep f st j 2)⟩ 3 (0, 0)) := by
            rw [hZ, heap_setCell_same Z1 U ky _ _ _ HZ1.out.1]
            have hf : upStep f st j 2 = fun q => if q = ky then j else (if q = kx then j else f q) := by
              rw [HS.out.1, upStep_two]
              funext q
              simp only [Int.natCast_inj]
              by_cases h1 : q = ky <;> by_cases h2 : q = kx <;> simp [h1, h2]
            have e := upC_set N (fun q => if q = kx then j else f q) ky j
            rw [hf]
            simp [e]
          have z2 : Z.ownsRow (U + 1) 3 1 (.slice (some ⟨g, 0, none⟩) L cp) L (ints st) := owns_same HZ1.out.2.1 fun q hq => by rw [hZ]; exact Below.heap_setCell _ _ _ _ (fun e => by have := own_base HZ1.out.2.1 hq; have e : q = U := e; omega)
          have z3 : Below U w Z := by rw [hZ]; exact HZ1.out.2.2.setCell (p := ⟨U, ky, none⟩) (Nat.le_refl _) _
          have hUZ0 : U < Z.heap.size := block_lt z1
          have HZ := Lib.hid (And.intro z1 (And.intro z2 z3))
          clear hZ z1 z2 z3 q2 f1 q4
          rw [rounds_succ]
          go_wp2_with (first
            | (refine wpList_prefix_own rfl (.tmp 65) (.tmp 66) 41 3 Try.underlying41 Try.sizeOf3 rfl (U + 1) L R _ (ints st) rfl (by first | rfl | exact congrArg (Value.int .i64) (by omega)) HZ.out.2.1 (by omega) ?_; intro v6 hv6 hob6; rw [ints_take] at hv6; have HT := Lib.hid hv6; clear hv6)
            | (at_builtin; refine wpList_append_own _ rfl (.tmp 67) (.tmp 69) 41 rfl (U + 1) 3 i0 (.int .i64 0) 1 8 Try.underlying41 HI0.out.1 HI0.out.2.1 HI0.out.2.2.1 HI0.out.2.2.2 rfl (by decide) _ R (ints (st.take R)) rfl (owns_alloc HT.out) ⟨Z.heap.size, 0, none⟩ 1 1 [.int .i64 j] rfl rfl (cell_one' _ _ _) (by simp [Value.oneCell']) (by unfold maxLen; omega) (by omega) (by simp; omega) ?_; intro v5 w5 hown5 hgrow5 _
               have hZ3 := HZ.out.2.2
               have hUZ : U < Z.heap.size := block_lt HZ.out.1
               have hb5 : Below U w w5 := (hZ3.alloc (Nat.le_of_lt hUZ) _).grown hgrow5 (by simp; omega) (fun q hq => Nat.le_of_succ_le (own_base HT.out hq))
               have hu5 : w5.heap[U]? = some (.cells ⟨upC N (upStep f st j 2)⟩ 3 (0, 0)) := (hgrow5.block U (by simp; omega) (fun e => by have := own_base HT.out e.symm; omega)).trans ((Below.heap_alloc _ _ _ hUZ).trans HZ.out.1)
               have H5 := Lib.hid (And.intro hown5 (And.intro hb5 hu5))
               clear hown5 hgrow5 hb5 hu5 hZ3 hUZ)
            | fail)
          have hU := HV.out.2.2.2.2.2.2.1
          subst hU
          go_roundg (N - j)
          case rel =>
            have hst' := HN1.out.2.2
            have e : st' = st.take R ++ [(j : Int)] := by rw [hst']; (try dsimp only); rw [hmm]; congr 2; have := HLS.out; have := HLR.out; omega
            have hlen : st'.length = R + 1 := by rw [e]; exact take_snoc_len st R j (by rw [← HLS.out]; have := HLR.out; omega)
            refine ⟨j + 1, st', upStep f st j 2, by go_num, by show _ ≤ _; omega, by show _ = _; omega, ?_, ?_⟩
            · have h := H5.out.1
              rw [← ints_snoc, ← e, ← hlen] at h
              exact h
            · have hb := H5.out.2.2
              have hl := H5.out.2.1
              have hpn := par_next HP.out HN1.out.1 HN1.out.2.1 hst' (w5 := w5) (by dsimp only; rw [hmm, ← HN.out]; exact hb) hl
              dsimp only at hpn
              rw [hmm] at hpn
              exact hpn
          case measure => have := HK.out; omega
        · clear p0 p1 p2 hm0
          have hown0 := HOWN.out.2
          rcases hown0 with ⟨hv0, h00⟩ | ⟨g, cap2, cur, hv0, hBg, hg, -⟩
          · exact absurd h00 (by have := HLS.out; omega)
          cases hv0
          have hgl := block_lt hg
          have hgU : g ≠ w.heap.size := by omega
          clear hg
          have hmm : kidsN 3 = 2 := rfl
          rw [hm] at hx hy
          obtain ⟨s, x0, y0, hs⟩ := split_two st (by have := HLS.out; omega)
          have hxr := HP.out.sml.2 x0 (by rw [hs]; simp)
          have hyr := HP.out.sml.2 y0 (by rw [hs]; simp)
          obtain ⟨kx, rfl⟩ : ∃ kx : Nat, x0 = (kx : Int) := ⟨x0.toNat, by omega⟩
          obtain ⟨ky, rfl⟩ : ∃ ky : Nat, y0 = (ky : Int) := ⟨y0.toNat, by omega⟩
          have hx2 : x = (kx : Int) := by rw [hx, hs]; unfold wantL; simp
          have hy2 : y = (ky : Int) := by rw [hy, hs]; unfold wantL; simp
          have hkx : kx < j := by omega
          have hky : ky < j := by omega
          obtain ⟨R, hR⟩ : ∃ R, R = s.length := ⟨_, rfl⟩
          have hL : L = R + 2 := by rw [HLS.out, hs, hR]; simp
          have hwr : IntKind.i64.wrap ((L : Int) - 2) = (R : Int) := by rw [IntWalk.i64_in _ (by unfold maxLen at hcap; omega)]; omega
          have R0 : (0 : Int) ≤ (R : Int) := by omega
          have R1 : (R : Int) ≤ (L : Int) := by omega
          have R2 : R ≤ L := by omega
          have R3 : L - R = 2 := by omega
          have R4 : (L : Int) ≤ (cp : Int) := by omega
          have R5 : ¬ cp = R := by omega
          have R6 : L ≤ cp := by omega
          have R7 : R ≤ cp := by omega
          have R8 : (R : Int) ≤ (cp : Int) := by omega
          have x0 : (0 : Int) ≤ (kx : Int) := by omega
          have x1 : (kx : Int) < (N : Int) := by omega
          have y0 : (0 : Int) ≤ (ky : Int) := by omega
          have y1 : (ky : Int) < (N : Int) := by omega
          have HS := Lib.hid (And.intro hs hR)
          have HLR := Lib.hid hL
          clear hs hR hL hx hy hxr hyr
          subst hx2
          subst hy2
          go_wp2
          obtain ⟨X, hX⟩ : ∃ X, X = Obj.cells #[.int .i64 3, .int .u64 (K.a.toNat : Int), .int .u64 (K.b.toNat : Int), .int .u64 (K.c.toNat : Int), .int .u64 (K.d.toNat : Int), .int .i64 (kx : Int), .int .i64 (ky : Int)] 50 := ⟨_, rfl⟩
          rw [← hX]
          obtain ⟨V, hV⟩ : ∃ V, V = wr.alloc X := ⟨_, rfl⟩
          rw [← hV]
          obtain ⟨h, hh⟩ : ∃ h, h = wr.heap.size := ⟨_, rfl⟩
          rw [← hh]
          obtain ⟨U, hU⟩ : ∃ U, U = w.heap.size := ⟨_, rfl⟩
          rw [← hU]
          have hUh : U < h := by rw [hU, hh]; exact block_lt HP.out.blk
          have vz : V.heap.size = h + 1 := by rw [hV, hh]; simp
          have vX : V.heap[h]? = some X := by rw [hV, hh]; exact heap_alloc_new _ _
          have vo : ∀ q, q < h → V.heap[q]? = wr.heap[q]? := fun q hq => by rw [hV]; exact Below.heap_alloc _ _ _ (by omega)
          have vB : Below U w V := by rw [hV, hU]; exact HP.out.low.alloc HP.out.low.size _
          have vU : V.heap[U]? = some (.cells ⟨upC N f⟩ 3 (0, 0)) := by rw [HN.out]; refine (vo U hUh).trans ?_; rw [hU]; exact HP.out.blk
          have vown : V.ownsRow (U + 1) 3 1 (.slice (some ⟨g, 0, none⟩) L cp) L (ints st) := by rw [hU]; exact owns_same HOWN.out fun q hq => vo q (by rw [hh]; exact own_block_lt HOWN.out hq)
          have HV := Lib.hid (And.intro vz (And.intro vX (And.intro vB (And.intro vU (And.intro vown (And.intro hX (And.intro hU hh)))))))
          clear vz vX vo vB vU vown hX hU hh hV a0 a1 a2 a3 a4 a5 a6
          have gc : ∀ (i : Nat) (u : Int), i < 2 → ([(kx : Int), (ky : Int)] : List Int)[i]? = some u → V.cell? ⟨g, R + i, none⟩ = some (.int .i64 u) := fun i u hi hu => owns_cell HV.out.2.2.2.2.1 (by
            unfold ints
            rw [HS.out.1, HS.out.2, List.getElem?_map, List.getElem?_append_right (by omega), Nat.add_sub_cancel_left, hu]; rfl)
          have hc : ∀ (i : Nat) (u : Int), i < 2 → ([(kx : Int), (ky : Int)] : List Int)[i]? = some u → V.cell? ⟨h, 5 + i, none⟩ = some (.int .i64 u) := fun i u hi hu => by
            have e : V.heap[h]? = some (.cells _ 50 (0, 0)) := HV.out.2.1.trans (by rw [HV.out.2.2.2.2.2.1])
            rw [cell_of_heap e]
            rcases (show i = 0 ∨ i = 1 by omega) with rfl | rfl <;> simpa using hu
          have keq : ∀ W', Below V.heap.size V W' → Calls Try.prog 86 #[.slice (some ⟨g, R, none⟩) 2 (cp - R), .slice (some ⟨h, 5, none⟩) 2 2] W' fun e w' => e = .returned (.bool true) ∧ Below W'.heap.size W' w' := fun W' hb =>
            (Try.slices_Equal_int g R 2 (cp - R) h 5 2 2 [(kx : Int), (ky : Int)] [(kx : Int), (ky : Int)] W' (by simp) (by simp) (by omega) (by omega) (fun i hi => by
              have hi : i < 2 := hi
              rw [cell_kept hb (gc i _ hi (List.getElem?_eq_getElem hi))]
              rw [List.getD_eq_getElem?_getD, List.getElem?_eq_getElem hi]; rfl) (fun i hi => by
              have hi : i < 2 := hi
              rw [cell_kept hb (hc i _ hi (List.getElem?_eq_getElem hi))]
              rw [List.getD_eq_getElem?_getD, List.getElem?_eq_getElem hi]; rfl)).mono fun e w' hh => by
                obtain ⟨h1, q, rfl⟩ := hh
                exact ⟨by rw [h1]; simp, drewN_below _ _⟩
          refine wp_region_held_drew (S := fun _ => True) (by kernel_rfl) trivial (fun hHeld => ?_)
          refine wpAnyH_take (i := 0) (v := ?_) rfl (by kernel_rfl) (by kernel_rfl) (by kernel_rfl) (fun _ _ _ h => h) ?_ hHeld ?_; rotate_left; · (simp only [List.getElem_toArray, List.getElem_cons_zero]; refine Or.inl ⟨by rfl, ?_⟩; intro w hSw; go_simp; try with_reducible rfl)
          try simp only [List.getElem_toArray, List.getElem_cons_zero, Act.put, List.setIfInBounds_toArray, List.set_cons_zero, List.set_cons_succ]
          refine wpAnyH_take (i := 1) (v := ?_) rfl (by kernel_rfl) (by kernel_rfl) (by kernel_rfl) (fun _ _ _ h => h) ?_ hHeld ?_; rotate_left; · (simp only [List.getElem_toArray, List.getElem_cons_succ, List.getElem_cons_zero]; refine Or.inl ⟨by rfl, ?_⟩; intro w hSw; go_simp; try with_reducible rfl)
          try simp only [List.getElem_toArray, List.getElem_cons_succ, List.getElem_cons_zero, Act.put, List.setIfInBounds_toArray, List.set_cons_zero, List.set_cons_succ]
          refine wpAnyH_take (i := 2) (v := ?_) rfl (by kernel_rfl) (by kernel_rfl) (by kernel_rfl) (fun _ _ _ h => h) ?_ hHeld ?_; rotate_left; · (simp only [List.getElem_toArray, List.getElem_cons_succ, List.getElem_cons_zero]; refine Or.inl ⟨by rfl, ?_⟩; intro w hSw; go_simp; try with_reducible rfl)
          try simp only [List.getElem_toArray, List.getElem_cons_succ, List.getElem_cons_zero, Act.put, List.setIfInBounds_toArray, List.set_cons_zero, List.set_cons_succ]
          refine wpAnyH_take (i := 3) (v := ?_) rfl (by kernel_rfl) (by kernel_rfl) (by kernel_rfl) (fun _ _ _ h => h) ?_ hHeld ?_; rotate_left; · (simp only [List.getElem_toArray, List.getElem_cons_succ, List.getElem_cons_zero]; refine Or.inl ⟨by rfl, ?_⟩; intro w hSw; go_simp; try with_reducible rfl)
          try simp only [List.getElem_toArray, List.getElem_cons_succ, List.getElem_cons_zero, Act.put, List.setIfInBounds_toArray, List.set_cons_zero, List.set_cons_succ]
          refine wpAnyH_take (i := 4) (v := ?_) rfl (by kernel_rfl) (by kernel_rfl) (by kernel_rfl) (fun _ _ _ h => h) ?_ hHeld ?_; rotate_left; · (simp only [List.getElem_toArray, List.getElem_cons_succ, List.getElem_cons_zero]; refine Or.inl ⟨by rfl, ?_⟩; intro w hSw; go_simp; try with_reducible rfl)
          try simp only [List.getElem_toArray, List.getElem_cons_succ, List.getElem_cons_zero, Act.put, List.setIfInBounds_toArray, List.set_cons_zero, List.set_cons_succ]
          refine wpAnyH_take (i := 5) (v := ?_) rfl (by kernel_rfl) (by kernel_rfl) (by kernel_rfl) (fun _ _ _ h => h) ?_ hHeld ?_; rotate_left; · (simp only [List.getElem_toArray, List.getElem_cons_succ, List.getElem_cons_zero]; refine Or.inl ⟨by rfl, ?_⟩; intro w hSw; go_simp; try with_reducible rfl)
          try simp only [List.getElem_toArray, List.getElem_cons_succ, List.getElem_cons_zero, Act.put, List.setIfInBounds_toArray, List.set_cons_zero, List.set_cons_succ]
          refine wpAnyH_take (i := 6) (v := ?_) rfl (by kernel_rfl) (by kernel_rfl) (by kernel_rfl) (fun _ _ _ h => h) ?_ hHeld ?_; rotate_left; · (simp only [List.getElem_toArray, List.getElem_cons_succ, List.getElem_cons_zero]; refine Or.inl ⟨by rfl, ?_⟩; intro w hSw; go_simp; try with_reducible rfl)
          try simp only [List.getElem_toArray, List.getElem_cons_succ, List.getElem_cons_zero, Act.put, List.setIfInBounds_toArray, List.set_cons_zero, List.set_cons_succ]
          refine wpAnyH_take (i := 7) (v := ?_) rfl (by kernel_rfl) (by kernel_rfl) (by kernel_rfl) (fun _ _ _ h => h) ?_ hHeld ?_; rotate_left; · (simp only [List.getElem_toArray, List.getElem_cons_succ, List.getElem_cons_zero]; refine Or.inl ⟨by rfl, ?_⟩; intro w hSw; go_simp; try with_reducible rfl)
          try simp only [List.getElem_toArray, List.getElem_cons_succ, List.getElem_cons_zero, Act.put, List.setIfInBounds_toArray, List.set_cons_zero, List.set_cons_succ]
          refine wpAnyH_take (i := 8) (v := ?_) rfl (by kernel_rfl) (by kernel_rfl) (by kernel_rfl) (fun _ _ _ h => h) ?_ hHeld ?_; rotate_left; · (simp only [List.getElem_toArray, List.getElem_cons_succ, List.getElem_cons_zero]; refine Or.inl ⟨by rfl, ?_⟩; intro w hSw; go_simp; try with_reducible rfl)
          try simp only [List.getElem_toArray, List.getElem_cons_succ, List.getElem_cons_zero, Act.put, List.setIfInBounds_toArray, List.set_cons_zero, List.set_cons_succ]
          refine wpAnyH_ready (rs := [9]) (by kernel_rfl) (by simp) ?_
          refine AllReadyH.cons rfl (fun K' hK => ?_) AllReadyH.nil
          simp only [List.getElem_toArray, List.getElem_cons_succ, List.getElem_cons_zero]
          rw [if_pos (by rfl)]
          go_simp
          (go_at_call 86; refine (keq _ (Below.refl _ V).drew).mono ?_; rintro e w4 ⟨rfl, hb4⟩)
          refine hK.out _ _ trivial (fun _ => ?_)
          clear hK K'
          try simp only [List.getElem_toArray, List.getElem_cons_succ, List.getElem_cons_zero, Act.put, List.setIfInBounds_toArray, List.set_cons_zero, List.set_cons_succ]
          refine wpAnyH_take (i := 10) (v := ?_) rfl (by kernel_rfl) (by kernel_rfl) (by kernel_rfl) (fun _ _ _ h => h) ?_ hHeld ?_; rotate_left; · (simp only [List.getElem_toArray, List.getElem_cons_succ, List.getElem_cons_zero]; refine Or.inl ⟨by rfl, ?_⟩; intro w hSw; go_simp; try with_reducible rfl)
          try simp only [List.getElem_toArray, List.getElem_cons_succ, List.getElem_cons_zero, Act.put, List.setIfInBounds_toArray, List.set_cons_zero, List.set_cons_succ]
          refine wpAnyH_take (i := 11) (v := ?_) rfl (by kernel_rfl) (by kernel_rfl) (by kernel_rfl) (fun _ _ _ h => h) ?_ hHeld ?_; rotate_left; · (simp only [List.getElem_toArray, List.getElem_cons_succ, List.getElem_cons_zero]; refine Or.inl ⟨by rfl, ?_⟩; intro w hSw; go_simp; try with_reducible rfl)
          try simp only [List.getElem_toArray, List.getElem_cons_succ, List.getElem_cons_zero, Act.put, List.setIfInBounds_toArray, List.set_cons_zero, List.set_cons_succ]
          refine wpAnyH_done (by kernel_rfl) ?_ _
          have hbV : Below V.heap.size V w4 := (Below.refl _ V).drew.trans hb4
          have z1 : w4.heap[U]? = some (.cells ⟨upC N f⟩ 3 (0, 0)) := (hbV.block U (by have := HV.out.1; omega)).trans HV.out.2.2.2.1
          have z2 : w4.ownsRow (U + 1) 3 1 (.slice (some ⟨g, 0, none⟩) L cp) L (ints st) := owns_same HV.out.2.2.2.2.1 fun q hq => hbV.block q (own_block_lt HV.out.2.2.2.2.1 hq)
          have z3 : Below U w w4 := HV.out.2.2.1.trans (hbV.mono (by have := HV.out.1; omega))
          have q0 : w4.cell? ⟨g, R, none⟩ = some (.int .i64 (kx : Int)) := cell_kept hbV (gc 0 _ (by omega) rfl)
          have f0 : w4.frozen? ⟨U, kx, none⟩ = false := frozen_of_heap z1 kx
          have q3 : w4.cell? ⟨U, kx, none⟩ = some (.int .i64 (f kx : Int)) := by rw [cell_of_heap z1]; simpa using upC_get N f kx (by omega)
          have q1 := Lib.hid (cell_kept hbV (gc 1 _ (by omega) rfl))
          have Hw4 := Lib.hid (And.intro z1 (And.intro z2 z3))
          clear z1 z2 z3 hb4 hbV gc hc keq
          go_wp2
          refine wp_loop_rounds 3 ?_
          rw [rounds_succ]
          go_wp2
          obtain ⟨Z1, hZ⟩ : ∃ Z, Z = w4.setCell ⟨U, kx, none⟩ (.int .i64 (j : Int)) := ⟨_, rfl⟩
          rw [← hZ]
          have z1 : Z1.heap[U]? = some (.cells ⟨upC N (fun q => if q = kx then j else f q)⟩ 3 (0, 0)) := by
            rw [hZ, heap_setCell_same w4 U kx _ _ _ Hw4.out.1]
            have e := upC_set N (f) kx j
            simp [e]
          have z2 : Z1.ownsRow (U + 1) 3 1 (.slice (some ⟨g, 0, none⟩) L cp) L (ints st) := owns_same Hw4.out.2.1 fun q hq => by rw [hZ]; exact Below.heap_setCell _ _ _ _ (fun e => by have := own_base Hw4.out.2.1 hq; have e : q = U := e; omega)
          have z3 : Below U w Z1 := by rw [hZ]; exact Hw4.out.2.2.setCell (p := ⟨U, kx, none⟩) (Nat.le_refl _) _
          have q2 : Z1.cell? ⟨g, R + 1, none⟩ = some (.int .i64 (ky : Int)) := owns_cell z2 (by
            unfold ints
            rw [HS.out.1, HS.out.2, List.getElem?_map, List.getElem?_append_right (by omega), Nat.add_sub_cancel_left]; rfl)
          have f1 : Z1.frozen? ⟨U, ky, none⟩ = false := frozen_of_heap z1 ky
          have q4 : Z1.cell? ⟨U, ky, none⟩ = some (.int .i64 ((fun q => if q = kx then j else f q) ky : Int)) := by rw [cell_of_heap z1]; simpa using upC_get N (fun q => if q = kx then j else f q) ky (by omega)
          obtain ⟨o4, ho4⟩ : ∃ o4 : Int, o4 = ((fun q => if q = kx then j else f q) ky : Int) := ⟨_, rfl⟩
          rw [← ho4] at q4
          clear ho4
          have HZ1 := Lib.hid (And.intro z1 (And.intro z2 z3))
          clear hZ z1 z2 z3 q0 f0 q3
          rw [rounds_succ]
          go_wp2
          obtain ⟨Z, hZ⟩ : ∃ Z, Z = Z1.setCell ⟨U, ky, none⟩ (.int .i64 (j : Int)) := ⟨_, rfl⟩
          rw [← hZ]
          have z1 : Z.heap[U]? = some (.cells ⟨upC N (upStep f st j 2)⟩ 3 (0, 0)) := by
            rw [hZ, heap_setCell_same Z1 U ky _ _ _ HZ1.out.1]
            have hf : upStep f st j 2 = fun q => if q = ky then j else (if q = kx then j else f q) := by
              rw [HS.out.1, upStep_two]
              funext q
              simp only [Int.natCast_inj]
              by_cases h1 : q = ky <;> by_cases h2 : q = kx <;> simp [h1, h2]
            have e := upC_set N (fun q => if q = kx then j else f q) ky j
            rw [hf]
            simp [e]
          have z2 : Z.ownsRow (U + 1) 3 1 (.slice (some ⟨g, 0, none⟩) L cp) L (ints st) := owns_same HZ1.out.2.1 fun q hq => by rw [hZ]; exact Below.heap_setCell _ _ _ _ (fun e => by have := own_base HZ1.out.2.1 hq; have e : q = U := e; omega)
          have z3 : Below U w Z := by rw [hZ]; exact HZ1.out.2.2.setCell (p := ⟨U, ky, none⟩) (Nat.le_refl _) _
          have hUZ0 : U < Z.heap.size := block_lt z1
          have HZ := Lib.hid (And.intro z1 (And.intro z2 z3))
          clear hZ z1 z2 z3 q2 f1 q4
          rw [rounds_succ]
          go_wp2_with (first
            | (refine wpList_prefix_own rfl (.tmp 65) (.tmp 66) 41 3 Try.underlying41 Try.sizeOf3 rfl (U + 1) L R _ (ints st) rfl (by first | rfl | exact congrArg (Value.int .i64) (by omega)) HZ.out.2.1 (by omega) ?_; intro v6 hv6 hob6; rw [ints_take] at hv6; have HT := Lib.hid hv6; clear hv6)
            | (at_builtin; refine wpList_append_own _ rfl (.tmp 67) (.tmp 69) 41 rfl (U + 1) 3 i0 (.int .i64 0) 1 8 Try.underlying41 HI0.out.1 HI0.out.2.1 HI0.out.2.2.1 HI0.out.2.2.2 rfl (by decide) _ R (ints (st.take R)) rfl (owns_alloc HT.out) ⟨Z.heap.size, 0, none⟩ 1 1 [.int .i64 j] rfl rfl (cell_one' _ _ _) (by simp [Value.oneCell']) (by unfold maxLen; omega) (by omega) (by simp; omega) ?_; intro v5 w5 hown5 hgrow5 _
               have hZ3 := HZ.out.2.2
               have hUZ : U < Z.heap.size := block_lt HZ.out.1
               have hb5 : Below U w w5 := (hZ3.alloc (Nat.le_of_lt hUZ) _).grown hgrow5 (by simp; omega) (fun q hq => Nat.le_of_succ_le (own_base HT.out hq))
               have hu5 : w5.heap[U]? = some (.cells ⟨upC N (upStep f st j 2)⟩ 3 (0, 0)) := (hgrow5.block U (by simp; omega) (fun e => by have := own_base HT.out e.symm; omega)).trans ((Below.heap_alloc _ _ _ hUZ).trans HZ.out.1)
               have H5 := Lib.hid (And.intro hown5 (And.intro hb5 hu5))
               clear hown5 hgrow5 hb5 hu5 hZ3 hUZ)
            | fail)
          have hU := HV.out.2.2.2.2.2.2.1
          subst hU
          go_roundg (N - j)
          case rel =>
            have hst' := HN1.out.2.2
            have e : st' = st.take R ++ [(j : Int)] := by rw [hst']; (try dsimp only); rw [hmm]; congr 2; have := HLS.out; have := HLR.out; omega
            have hlen : st'.length = R + 1 := by rw [e]; exact take_snoc_len st R j (by rw [← HLS.out]; have := HLR.out; omega)
            refine ⟨j + 1, st', upStep f st j 2, by go_num, by show _ ≤ _; omega, by show _ = _; omega, ?_, ?_⟩
            · have h := H5.out.1
              rw [← ints_snoc, ← e, ← hlen] at h
              exact h
            · have hb := H5.out.2.2
              have hl := H5.out.2.1
              have hpn := par_next HP.out HN1.out.1 HN1.out.2.1 hst' (w5 := w5) (by dsimp only; rw [hmm, ← HN.out]; exact hb) hl
              dsimp only at hpn
              rw [hmm] at hpn
              exact hpn
          case measure => have := HK.out; omega
    · have hj : j = N := by have := HP.out.le; rw [← HN.out] at this; omega
      subst hj
      have hst1 : st = [(ts.length : Int) - 1] := by
        have h1 := HR.out.1
        rw [HP.out.run, List.drop_of_length_le (by rw [← HN.out]; exact Nat.le_refl _)] at h1
        injection h1
      have hL1 : L = 1 := by rw [HLS.out, hst1]; rfl
      subst hL1
      have hupf : upT T = f := by
        rw [← HR.out.2, HP.out.up, List.drop_of_length_le (by rw [← HN.out]; exact Nat.le_refl _)]
        rfl
      have HF := Lib.hid hupf
      clear hupf hst1
      go_wp2
      exact bodyPost_ret (results_tmp2 rfl _ _ _) rfl ⟨rfl, by rw [HF.out, HN.out]; exact HP.out.blk, HP.out.low⟩
end Go.Proofs.Ytkgpnlldlekcbaa
