/- The search, for one who is told of each place. Conditions: 2000 nodes, 1000000 bytes. -/
import Derived.Test.YtolofcfegoeenaaMaReach
import Derived.Deep.LoopGhost
import Derived.WalkMore
namespace Go.Proofs.Ytolofcfegoeenaa
open Go.RowKit Go.Lib

set_option maxHeartbeats 8000000 in
set_option maxRecDepth 20000 in
theorem reach_ends (c : Cf) (s : ByteArray) (bk : Bool) (ts : List Nd) (up : Nat → Nat) (T : Tr) (hT : Tree ts up T) (J : (Nat → Bool) → World → Prop) (b1 : Nat) (hbs : c.B ≤ c.bs)
    (hJk : ∀ D w w', J D w → Kept c.B w w' → J D w')
    (hJt : ∀ D p w, J D w → p ≤ s.size → Calls Try.prog 58 #[.int .i64 (p : Int), .pointer (some ⟨b1, 0, none⟩)] w fun e w' => e = .returned (.tuple #[]) ∧ J (setT D p) w' ∧ ∀ j, (c.B ≤ j ∨ j = c.bt) → w'.heap[j]? = w.heap[j]?)
    (M0 : Nat → Nat → Bool) (a : Nat) (ha : a ≤ s.size) (w : World) (hE : Env c s bk ts up w) (hM : Mk c.B c.br c.bR c.bs c.bf ts.length s M0 [] w) (hJ : J (fun _ => false) w)
    (h0 : ∀ g p, M0 g p = true → ∀ q ∈ nextD bk s.data.toList ts up g p, M0 q.1 q.2 = true) :
    Calls Try.prog 82 #[.int .i64 (a : Int), .func (.func 58) #[] #[.pointer (some ⟨b1, 0, none⟩)], .pointer (some ⟨c.bm, 0, none⟩), .pointer (some ⟨c.bl, 0, none⟩), .pointer (some ⟨c.bn, 0, none⟩), .pointer (some ⟨c.bp, 0, none⟩)] w fun e w' =>
      e = .returned (.tuple #[]) ∧ ∃ M, Env c s bk ts up w' ∧ Mk c.B c.br c.bR c.bs c.bf ts.length s M [] w' ∧ J (fun p => M (2 * (ts.length - 1) + 1) p && !M0 (2 * (ts.length - 1) + 1) p) w' ∧ Done bk s.data.toList ts up (ts.length - 1) a M0 M := by
  have hl : 0 < ts.length := by rw [← hT.len]; exact T.size_pos
  have hsm := hM.small
  obtain ⟨last, hlast⟩ : ∃ last, last = ts.length - 1 := ⟨_, rfl⟩
  have cbm : w.cell? ⟨c.bm, 0, none⟩ = some (.func (.func 80) #[] #[.pointer (some ⟨c.br, 0, none⟩), .pointer (some ⟨c.bs, 0, none⟩), .pointer (some ⟨c.bf, 0, none⟩)]) := by rw [cell_of_heap hE.bm]; rfl
  have cbl : w.cell? ⟨c.bl, 0, none⟩ = some (.int .i64 (last : Int)) := by rw [cell_of_heap hE.bl, hlast]; rfl
  have ki := fun w => in_any last w (by omega)
  have hst : Srch c s bk ts up w (M0, []) w := ⟨hE, hM, Kept.refl _ _⟩
  have km := hst.mark (g := 2 * last) (p := a) (by omega) ha
  have hA : ∀ w', Srch c s bk ts up w (mks [(2 * last, a)] (M0, [])) w' → ∃ M F D, AtS c s bk ts up J a M0 M F D w' := fun w' h => ⟨_, _, _, h.env, h.mm, hJk _ _ _ hJ h.kept, by rw [← hlast]; exact Inv.start h0⟩
  have SB := Lib.hid (fun W' (hb : Below w.heap.size w W') => (show W'.cell? ⟨c.bm, 0, none⟩ = some (.func (.func 80) #[] #[.pointer (some ⟨c.br, 0, none⟩), .pointer (some ⟨c.bs, 0, none⟩), .pointer (some ⟨c.bf, 0, none⟩)]) ∧ W'.cell? ⟨c.bl, 0, none⟩ = some (.int .i64 (last : Int)) from ⟨cell_kept hb cbm, cell_kept hb cbl⟩))
  have SP := Lib.hid (fun W' (h : Srch c s bk ts up w (mks [(2 * last, a)] (M0, [])) W') => (show W'.cell? ⟨c.bm, 0, none⟩ = some (.func (.func 80) #[] #[.pointer (some ⟨c.br, 0, none⟩), .pointer (some ⟨c.bs, 0, none⟩), .pointer (some ⟨c.bf, 0, none⟩)]) ∧ W'.cell? ⟨c.bl, 0, none⟩ = some (.int .i64 (last : Int)) from ⟨by rw [cell_of_heap h.env.bm]; rfl, by rw [cell_of_heap h.env.bl, hlast]; rfl⟩))
  have HJK := Lib.hid hJk
  have HJT := Lib.hid hJt
  have HT := Lib.hid hT
  have HLA := Lib.hid hlast
  have HA := Lib.hid hA
  clear hJk hJt hJ h0 hE hM hst hT cbm cbl hA hlast ha
  go_enter Try.func82, Try.ntmps82
  go_step3
  go_wp2_with fail
  go_region_held3 (fun W' => W'.cell? ⟨c.bm, 0, none⟩ = some (.func (.func 80) #[] #[.pointer (some ⟨c.br, 0, none⟩), .pointer (some ⟨c.bs, 0, none⟩), .pointer (some ⟨c.bf, 0, none⟩)]) ∧ W'.cell? ⟨c.bl, 0, none⟩ = some (.int .i64 (last : Int)))
    (first | with_reducible exact SB.out _ (Below.refl _ w).drew | with_reducible exact SP.out _ h1)
    (first
      | (go_at_call 83; refine (ki _).mono ?_; rintro e w2 ⟨rfl, rfl⟩)
      | (go_at_call 80; refine (km _ (Below.refl _ _).drew).mono ?_; rintro e w1 ⟨rfl, h1⟩))
  have H1 := Lib.hid (HA.out _ h1)
  clear h1 km ki SB SP HA
  go_wp2_with fail
  go_step3
  go_wp2_with fail
  go_loopg [] (2 * ts.length * (s.size + 1) + 1) (fun k wr => Hid (∃ M F D, AtS c s bk ts up J a M0 M F D wr ∧ F.length + free M s.size ts.length < k))
  case atStart =>
    obtain ⟨M, F, D, h⟩ := H1.out
    exact ⟨M, F, D, h, by have := h.mm.cnt; omega⟩
  case round =>
    obtain ⟨M, F, D, h, hk⟩ := hrel.out
    clear hrel H1
    rcases List.eq_nil_or_concat F with rfl | ⟨F', ⟨g, p⟩, hF⟩
    · have kn := next_empty (⟨h.env, h.mm, Kept.refl _ _⟩ : Srch c s bk ts up wr (M, []) wr)
      have cbn := h.bn
      have H := Lib.hid h
      clear h
      go_wp2_with (first
        | (go_at_call 81; refine kn.mono ?_; rintro e w2 ⟨rfl, h2⟩; have H2 := Lib.hid h2; clear h2 kn cbn)
        | fail)
      rw [Exit.noGoto_normal]
      go_end0
      have h3 := H2.out.below ((Below.refl _ w2).alloc (Nat.le_refl _) (.cells #[.int .i64 0, .int .i64 0] 117))
      obtain ⟨hd, hD⟩ := H.out.inv.done
      exact ⟨rfl, M, h3.env, h3.mm, hD ▸ HJK.out _ _ _ H.out.j h3.kept, hd⟩
    · rw [List.concat_eq_append] at hF
      subst hF
      obtain ⟨hMg, hM0g⟩ := h.inv.i1 (g, p) (List.mem_append_right _ (List.mem_singleton.2 rfl))
      obtain ⟨hg, hp⟩ := h.mm.inb g p hMg
      have kn := next_last (⟨h.env, h.mm, Kept.refl _ _⟩ : Srch c s bk ts up wr (M, F' ++ [(g, p)]) wr)
      have cbn := h.bn
      have hj := h.j
      have hi := h.inv
      have H := Lib.hid (And.intro hj (And.intro hi (And.intro hMg hM0g)))
      clear h hj hi hMg hM0g
      rcases Nat.mod_two_eq_zero_or_one g with hm | hm
      · obtain ⟨r, rfl⟩ : ∃ r, g = 2 * r := ⟨g / 2, by omega⟩
        obtain ⟨G, hG⟩ : ∃ G : Int, G = ((2 * r : Nat) : Int) := ⟨_, rfl⟩
        rw [← hG] at kn
        have hq : G / 2 = (r : Int) := by omega
        have HG := Lib.hid hG
        clear hG
        go_wp2_with (first
          | (go_at_call 81; refine kn.mono ?_; rintro e w2 ⟨rfl, h2⟩; have H2 := Lib.hid h2; clear h2 kn cbn)
          | fail)
        obtain ⟨W, hW⟩ : ∃ W, W = w2.alloc (.cells #[.int .i64 G, .int .i64 (p : Int)] 117) := ⟨_, rfl⟩
        rw [← hW]
        obtain ⟨h, hh⟩ : ∃ h, h = w2.heap.size := ⟨_, rfl⟩
        rw [← hh]
        have w0 : W.heap[h]? = some (.cells #[.int .i64 G, .int .i64 (p : Int)] 117 (0, 0)) := by rw [hW, hh]; exact heap_alloc_new _ _
        have d0 : W.cell? ⟨h, 0, none⟩ = some (.int .i64 G) := by rw [cell_of_heap w0]; rfl
        have d1 : W.cell? ⟨h, 1, none⟩ = some (.int .i64 (p : Int)) := by rw [cell_of_heap w0]; rfl
        have hWB : Below w2.heap.size w2 W := by rw [hW]; exact (Below.refl _ _).alloc (Nat.le_refl _) _
        have hVS : Srch c s bk ts up wr (M, F') W.drew := H2.out.below hWB.drew
        have hVJ : J D W.drew := HJK.out _ _ _ H.out.1 hVS.kept
        have SB := Lib.hid (fun W' (hb : Below W.heap.size W W') => (show W'.cell? ⟨h, 0, none⟩ = some (.int .i64 G) from cell_kept hb d0))
        have e1 : W.drew.cell? ⟨h, 1, none⟩ = some (.int .i64 (p : Int)) := d1
        obtain ⟨I, hI⟩ : ∃ I : Int, I = ((2 * r : Nat) : Int) := ⟨_, rfl⟩
        have ki2 : ∀ w, Calls Try.prog 83 #[.int .i64 (r : Int)] w fun e w' => e = .returned (.int .i64 I) ∧ w = w' := fun w => by rw [hI]; exact in_any r w (by omega)
        have heq : (G == I) = true := by have := HG.out; simp; omega
        have HI := Lib.hid hI
        clear hI
        have ke := way_enter HT.out HJK.out H.out.2.1 hVS hVJ (by omega) hp
        have cbp : W.drew.cell? ⟨c.bp, 0, none⟩ = some (.pointer (some ⟨c.bw, 0, none⟩)) := by rw [cell_of_heap hVS.env.bp]; rfl
        clear hW hh w0 d0 d1 hWB hVS hVJ
        go_region_held3 (fun W' => W'.cell? ⟨h, 0, none⟩ = some (.int .i64 G))
          (first | with_reducible exact SB.out _ (Below.refl _ W).drew)
          (first
            | (go_at_call 83; refine (ki2 _).mono ?_; rintro e w4 ⟨rfl, rfl⟩))
        clear ki2 SB
        go_wp2_with (first
          | (go_at_call 84; refine ke.mono ?_; rintro e w5 ⟨rfl, hAf⟩)
          | fail)
        obtain ⟨M', F'', D', hA', hlt⟩ := hAf
        go_roundg (gk - 1)
        case rel => exact ⟨M', F'', D', hA', by omega⟩
        case measure => omega
      · obtain ⟨r, rfl⟩ : ∃ r, g = 2 * r + 1 := ⟨g / 2, by omega⟩
        by_cases hrl : r = last
        · rw [hrl] at hg kn H hk
          clear hm hrl r
          obtain ⟨G, hG⟩ : ∃ G : Int, G = ((2 * last + 1 : Nat) : Int) := ⟨_, rfl⟩
          rw [← hG] at kn
          have hq : G / 2 = (last : Int) := by omega
          have HG := Lib.hid hG
          clear hG
          go_wp2_with (first
            | (go_at_call 81; refine kn.mono ?_; rintro e w2 ⟨rfl, h2⟩; have H2 := Lib.hid h2; clear h2 kn cbn)
            | fail)
          obtain ⟨W, hW⟩ : ∃ W, W = w2.alloc (.cells #[.int .i64 G, .int .i64 (p : Int)] 117) := ⟨_, rfl⟩
          rw [← hW]
          obtain ⟨h, hh⟩ : ∃ h, h = w2.heap.size := ⟨_, rfl⟩
          rw [← hh]
          have w0 : W.heap[h]? = some (.cells #[.int .i64 G, .int .i64 (p : Int)] 117 (0, 0)) := by rw [hW, hh]; exact heap_alloc_new _ _
          have d0 : W.cell? ⟨h, 0, none⟩ = some (.int .i64 G) := by rw [cell_of_heap w0]; rfl
          have d1 : W.cell? ⟨h, 1, none⟩ = some (.int .i64 (p : Int)) := by rw [cell_of_heap w0]; rfl
          have hWB : Below w2.heap.size w2 W := by rw [hW]; exact (Below.refl _ _).alloc (Nat.le_refl _) _
          have hVS : Srch c s bk ts up wr (M, F') W.drew := H2.out.below hWB.drew
          have hVJ : J D W.drew := HJK.out _ _ _ H.out.1 hVS.kept
          have SB := Lib.hid (fun W' (hb : Below W.heap.size W W') => (show W'.cell? ⟨h, 0, none⟩ = some (.int .i64 G) from cell_kept hb d0))
          have e1 : W.drew.cell? ⟨h, 1, none⟩ = some (.int .i64 (p : Int)) := d1
          obtain ⟨I, hI⟩ : ∃ I : Int, I = ((2 * last : Nat) : Int) := ⟨_, rfl⟩
          have ki2 : ∀ w, Calls Try.prog 83 #[.int .i64 (last : Int)] w fun e w' => e = .returned (.int .i64 I) ∧ w = w' := fun w => by rw [hI]; exact in_any last w (by omega)
          have hne : (G == I) = false := by have := HG.out; simp; omega
          have HI := Lib.hid hI
          clear hI
          have cbl : W.drew.cell? ⟨c.bl, 0, none⟩ = some (.int .i64 (last : Int)) := by rw [cell_of_heap hVS.env.bl, HLA.out]; rfl
          have hi : Inv bk s.data.toList ts up (ts.length - 1) a M0 M (F' ++ [(2 * (ts.length - 1) + 1, p)]) D := by have h := H.out.2.1; have e := HLA.out; rw [e] at h; exact h
          have kt := HJT.out D p W.drew hVJ hp
          have HVS := Lib.hid (And.intro hVS hi)
          clear hW hh w0 d0 d1 hWB hVS hVJ hi
          go_region_held3 (fun W' => W'.cell? ⟨h, 0, none⟩ = some (.int .i64 G))
            (first | with_reducible exact SB.out _ (Below.refl _ W).drew)
            (first
              | (go_at_call 83; refine (ki2 _).mono ?_; rintro e w4 ⟨rfl, rfl⟩))
          clear ki2 SB
          go_wp2_with (first
            | (go_at_call 58; refine kt.mono ?_; rintro e w5 ⟨rfl, hj5, hs5⟩)
            | fail)
          have hAf := way_tell hbs hl HVS.out.2 HVS.out.1 hj5 hs5
          rw [← HLA.out] at hAf
          obtain ⟨M', F'', D', hA', hlt⟩ := hAf
          go_roundg (gk - 1)
          case rel => exact ⟨M', F'', D', hA', by omega⟩
          case measure => omega
        · obtain ⟨G, hG⟩ : ∃ G : Int, G = ((2 * r + 1 : Nat) : Int) := ⟨_, rfl⟩
          rw [← hG] at kn
          have hq : G / 2 = (r : Int) := by omega
          have HG := Lib.hid hG
          clear hG
          go_wp2_with (first
            | (go_at_call 81; refine kn.mono ?_; rintro e w2 ⟨rfl, h2⟩; have H2 := Lib.hid h2; clear h2 kn cbn)
            | fail)
          obtain ⟨W, hW⟩ : ∃ W, W = w2.alloc (.cells #[.int .i64 G, .int .i64 (p : Int)] 117) := ⟨_, rfl⟩
          rw [← hW]
          obtain ⟨h, hh⟩ : ∃ h, h = w2.heap.size := ⟨_, rfl⟩
          rw [← hh]
          have w0 : W.heap[h]? = some (.cells #[.int .i64 G, .int .i64 (p : Int)] 117 (0, 0)) := by rw [hW, hh]; exact heap_alloc_new _ _
          have d0 : W.cell? ⟨h, 0, none⟩ = some (.int .i64 G) := by rw [cell_of_heap w0]; rfl
          have d1 : W.cell? ⟨h, 1, none⟩ = some (.int .i64 (p : Int)) := by rw [cell_of_heap w0]; rfl
          have hWB : Below w2.heap.size w2 W := by rw [hW]; exact (Below.refl _ _).alloc (Nat.le_refl _) _
          have hVS : Srch c s bk ts up wr (M, F') W.drew := H2.out.below hWB.drew
          have hVJ : J D W.drew := HJK.out _ _ _ H.out.1 hVS.kept
          have SB := Lib.hid (fun W' (hb : Below W.heap.size W W') => (show W'.cell? ⟨h, 0, none⟩ = some (.int .i64 G) from cell_kept hb d0))
          have e1 : W.drew.cell? ⟨h, 1, none⟩ = some (.int .i64 (p : Int)) := d1
          obtain ⟨I, hI⟩ : ∃ I : Int, I = ((2 * r : Nat) : Int) := ⟨_, rfl⟩
          have ki2 : ∀ w, Calls Try.prog 83 #[.int .i64 (r : Int)] w fun e w' => e = .returned (.int .i64 I) ∧ w = w' := fun w => by rw [hI]; exact in_any r w (by omega)
          have hne : (G == I) = false := by have := HG.out; simp; omega
          have HI := Lib.hid hI
          clear hI
          have ke := way_leave HT.out HJK.out H.out.2.1 hVS hVJ (by have := HLA.out; omega) hp
          have cbl : W.drew.cell? ⟨c.bl, 0, none⟩ = some (.int .i64 (last : Int)) := by rw [cell_of_heap hVS.env.bl, HLA.out]; rfl
          have cbp : W.drew.cell? ⟨c.bp, 0, none⟩ = some (.pointer (some ⟨c.bw, 0, none⟩)) := by rw [cell_of_heap hVS.env.bp]; rfl
          have hnl : ((r : Int) == (last : Int)) = false := by simp; omega
          clear hW hh w0 d0 d1 hWB hVS hVJ
          go_region_held3 (fun W' => W'.cell? ⟨h, 0, none⟩ = some (.int .i64 G))
            (first | with_reducible exact SB.out _ (Below.refl _ W).drew)
            (first
              | (go_at_call 83; refine (ki2 _).mono ?_; rintro e w4 ⟨rfl, rfl⟩))
          clear ki2 SB
          go_wp2_with (first
            | (go_at_call 85; refine ke.mono ?_; rintro e w5 ⟨rfl, hAf⟩)
            | fail)
          obtain ⟨M', F'', D', hA', hlt⟩ := hAf
          go_roundg (gk - 1)
          case rel => exact ⟨M', F'', D', hA', by omega⟩
          case measure => omega
end Go.Proofs.Ytolofcfegoeenaa
