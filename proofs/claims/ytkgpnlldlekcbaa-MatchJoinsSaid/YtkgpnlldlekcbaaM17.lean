/- Packed texts: MaReachE, MaEnds, MaReachF. What each of them proves stands above its theorems; the conditions stand in these. -/
import Derived.Deep.LoopGhost
import Derived.WalkMore
import Derived.Test.YtkgpnlldlekcbaaM16
namespace Go.Proofs.Ytkgpnlldlekcbaa
open Go.RowKit Go.Lib

set_option maxHeartbeats 8000000 in
set_option maxRecDepth 20000 in
theorem reach_ends (c : Cf) (s : ByteArray) (bk : Bool) (ts : List Nd) (up : Nat → Nat) (T : Tr) (hT : Tree ts up T) (J : (Nat → Bool) → World → Prop) (b1 : Nat) (hbs : c.B ≤ c.bs)
    (hJk : ∀ D w w', J D w → Kept c.B w w' → J D w')
    (hJt : ∀ D p w, J D w → p ≤ s.size → Calls Try.prog 45 #[.int .i64 (p : Int), .pointer (some ⟨b1, 0, none⟩)] w fun e w' => e = .returned (.tuple #[]) ∧ J (setT D p) w' ∧ ∀ j, (c.B ≤ j ∨ j = c.bt) → w'.heap[j]? = w.heap[j]?)
    (M0 : Nat → Nat → Bool) (a : Nat) (ha : a ≤ s.size) (w : World) (hE : Env c s bk ts up w) (hM : Mk c.B c.br c.bR c.bs c.bf ts.length s M0 [] w) (hJ : J (fun _ => false) w)
    (h0 : ∀ g p, M0 g p = true → ∀ q ∈ nextD bk s.data.toList ts up g p, M0 q.1 q.2 = true) :
    Calls Try.prog 68 #[.int .i64 (a : Int), .func (.func 45) #[] #[.pointer (some ⟨b1, 0, none⟩)], .pointer (some ⟨c.bm, 0, none⟩), .pointer (some ⟨c.bl, 0, none⟩), .pointer (some ⟨c.bn, 0, none⟩), .pointer (some ⟨c.bp, 0, none⟩)] w fun e w' =>
      e = .returned (.tuple #[]) ∧ ∃ M, Env c s bk ts up w' ∧ Mk c.B c.br c.bR c.bs c.bf ts.length s M [] w' ∧ J (fun p => M (2 * (ts.length - 1) + 1) p && !M0 (2 * (ts.length - 1) + 1) p) w' ∧ Done bk s.data.toList ts up (ts.length - 1) a M0 M := by
  have hl : 0 < ts.length := by rw [← hT.len]; exact T.size_pos
  have hsm := hM.small
  obtain ⟨last, hlast⟩ : ∃ last, last = ts.length - 1 := ⟨_, rfl⟩
  have cbm : w.cell? ⟨c.bm, 0, none⟩ = some (.func (.func 66) #[] #[.pointer (some ⟨c.br, 0, none⟩), .pointer (some ⟨c.bs, 0, none⟩), .pointer (some ⟨c.bf, 0, none⟩)]) := by rw [cell_of_heap hE.bm]; rfl
  have cbl : w.cell? ⟨c.bl, 0, none⟩ = some (.int .i64 (last : Int)) := by rw [cell_of_heap hE.bl, hlast]; rfl
  have ki := fun w => in_any last w (by omega)
  have hst : Srch c s bk ts up w (M0, []) w := ⟨hE, hM, Kept.refl _ _⟩
  have km := hst.mark (g := 2 * last) (p := a) (by omega) ha
  have hA : ∀ w', Srch c s bk ts up w (mks [(2 * last, a)] (M0, [])) w' → ∃ M F D, AtS c s bk ts up J a M0 M F D w' := fun w' h => ⟨_, _, _, h.env, h.mm, hJk _ _ _ hJ h.kept, by rw [← hlast]; exact Inv.start h0⟩
  have SB := Lib.hid (fun W' (hb : Below w.heap.size w W') => (show W'.cell? ⟨c.bm, 0, none⟩ = some (.func (.func 66) #[] #[.pointer (some ⟨c.br, 0, none⟩), .pointer (some ⟨c.bs, 0, none⟩), .pointer (some ⟨c.bf, 0, none⟩)]) ∧ W'.cell? ⟨c.bl, 0, none⟩ = some (.int .i64 (last : Int)) from ⟨cell_kept hb cbm, cell_kept hb cbl⟩))
  have SP := Lib.hid (fun W' (h : Srch c s bk ts up w (mks [(2 * last, a)] (M0, [])) W') => (show W'.cell? ⟨c.bm, 0, none⟩ = some (.func (.func 66) #[] #[.pointer (some ⟨c.br, 0, none⟩), .pointer (some ⟨c.bs, 0, none⟩), .pointer (some ⟨c.bf, 0, none⟩)]) ∧ W'.cell? ⟨c.bl, 0, none⟩ = some (.int .i64 (last : Int)) from ⟨by rw [cell_of_heap h.env.bm]; rfl, by rw [cell_of_heap h.env.bl, hlast]; rfl⟩))
  have HJK := Lib.hid hJk
  have HJT := Lib.hid hJt
  have HT := Lib.hid hT
  have HLA := Lib.hid hlast
  have HA := Lib.hid hA
  clear hJk hJt hJ h0 hE hM hst hT cbm cbl hA hlast ha
  go_enter Try.func68, Try.ntmps68
  go_step3
  go_wp2_with fail
  go_region_held3 (fun W' => W'.cell? ⟨c.bm, 0, none⟩ = some (.func (.func 66) #[] #[.pointer (some ⟨c.br, 0, none⟩), .pointer (some ⟨c.bs, 0, none⟩), .pointer (some ⟨c.bf, 0, none⟩)]) ∧ W'.cell? ⟨c.bl, 0, none⟩ = some (.int .i64 (last : Int)))
    (first | with_reducible exact SB.out _ (Below.refl _ w).drew | with_reducible exact SP.out _ h1)
    (first
      | (go_at_call 69; refine (ki _).mono ?_; rintro e w2 ⟨rfl, rfl⟩)
      | (go_at_call 66; refine (km _ (Below.refl _ _).drew).mono ?_; rintro e w1 ⟨rfl, h1⟩))
  have H1 := Lib.hid (HA.out _ h1)
  clear h1 km ki SB SP HA
  go_wp2_with fail
  go_step3
  go_wp2_with fail
  go_loopg [] (2 * ts.length * (s.size + 1) + 1) (fun k wr => Hid (∃ M F D, AtS c s bk ts up J a M0 M F D wr ∧ F.length + free M s.size ts.length < k))
  case atStart =>
    obtain ⟨M, F, D, h⟩ := H1.out
    exact ⟨M, F, D, h, by have := h.mm.cnt; omega⟩
  case round =>
    obtain ⟨M, F, D, h, hk⟩ := hrel.out
    clear hrel H1
    rcases List.eq_nil_or_concat F with rfl | ⟨F', ⟨g, p⟩, hF⟩
    · have kn := next_empty (⟨h.env, h.mm, Kept.refl _ _⟩ : Srch c s bk ts up wr (M, []) wr)
      have cbn := h.bn
      have H := Lib.hid h
      clear h
      go_wp2_with (first
        | (go_at_call 67; refine kn.mono ?_; rintro e w2 ⟨rfl, h2⟩; have H2 := Lib.hid h2; clear h2 kn cbn)
        | fail)
      rw [Exit.noGoto_normal]
      go_end0
      have h3 := H2.out.below ((Below.refl _ w2).alloc (Nat.le_refl _) (.cells #[.int .i64 0, .int .i64 0] 109))
      obtain ⟨hd, hD⟩ := H.out.inv.done
      exact ⟨rfl, M, h3.env, h3.mm, hD ▸ HJK.out _ _ _ H.out.j h3.kept, hd⟩
    · rw [List.concat_eq_append] at hF
      subst hF
      obtain ⟨hMg, hM0g⟩ := h.inv.i1 (g, p) (List.mem_append_right _ (List.mem_singleton.2 rfl))
      obtain ⟨hg, hp⟩ := h.mm.inb g p hMg
      have kn := next_last (⟨h.env, h.mm, Kept.refl _ _⟩ : Srch c s bk ts up wr (M, F' ++ [(g, p)]) wr)
      have cbn := h.bn
      have hj := h.j
      have hi := h.inv
      have H := Lib.hid (And.intro hj (And.intro hi (And.intro hMg hM0g)))
      clear h hj hi hMg hM0g
      rcases Nat.mod_two_eq_zero_or_one g with hm | hm
      · obtain ⟨r, rfl⟩ : ∃ r, g = 2 * r := ⟨g / 2, by omega⟩
        obtain ⟨G, hG⟩ : ∃ G : Int, G = ((2 * r : Nat) : Int) := ⟨_, rfl⟩
        rw [← hG] at kn
        have hq : G / 2 = (r : Int) := by omega
        have HG := Lib.hid hG
        clear hG
        go_wp2_with (first
          | (go_at_call 67; refine kn.mono ?_; rintro e w2 ⟨rfl, h2⟩; have H2 := Lib.hid h2; clear h2 kn cbn)
          | fail)
        obtain ⟨W, hW⟩ : ∃ W, W = w2.alloc (.cells #[.int .i64 G, .int .i64 (p : Int)] 109) := ⟨_, rfl⟩
        rw [← hW]
        obtain ⟨h, hh⟩ : ∃ h, h = w2.heap.size := ⟨_, rfl⟩
        rw [← hh]
        have w0 : W.heap[h]? = some (.cells #[.int .i64 G, .int .i64 (p : Int)] 109 (0, 0)) := by rw [hW, hh]; exact heap_alloc_new _ _
        have d0 : W.cell? ⟨h, 0, none⟩ = some (.int .i64 G) := by rw [cell_of_heap w0]; rfl
        have d1 : W.cell? ⟨h, 1, none⟩ = some (.int .i64 (p : Int)) := by rw [cell_of_heap w0]; rfl
        have hWB : Below w2.heap.size w2 W := by rw [hW]; exact (Below.refl _ _).alloc (Nat.le_refl _) _
        have hVS : Srch c s bk ts up wr (M, F') W.drew := H2.out.below hWB.drew
        have hVJ : J D W.drew := HJK.out _ _ _ H.out.1 hVS.kept
        have SB := Lib.hid (fun W' (hb : Below W.heap.size W W') => (show W'.cell? ⟨h, 0, none⟩ = some (.int .i64 G) from cell_kept hb d0))
        have e1 : W.drew.cell? ⟨h, 1, none⟩ = some (.int .i64 (p : Int)) := d1
        obtain ⟨I, hI⟩ : ∃ I : Int, I = ((2 * r : Nat) : Int) := ⟨_, rfl⟩
        have ki2 : ∀ w, Calls Try.prog 69 #[.int .i64 (r : Int)] w fun e w' => e = .returned (.int .i64 I) ∧ w = w' := fun w => by rw [hI]; exact in_any r w (by omega)
        have heq : (G == I) = true := by have := HG.out; simp; omega
        have HI := Lib.hid hI
        clear hI
        have ke := way_enter HT.out HJK.out H.out.2.1 hVS hVJ (by omega) hp
        have cbp : W.drew.cell? ⟨c.bp, 0, none⟩ = some (.pointer (some ⟨c.bw, 0, none⟩)) := by rw [cell_of_heap hVS.env.bp]; rfl
        clear hW hh w0 d0 d1 hWB hVS hVJ
        go_region_held3 (fun W' => W'.cell? ⟨h, 0, none⟩ = some (.int .i64 G))
          (first | with_reducible exact SB.out _ (Below.refl _ W).drew)
          (first
            | (go_at_call 69; refine (ki2 _).mono ?_; rintro e w4 ⟨rfl, rfl⟩))
        clear ki2 SB
        go_wp2_with (first
          | (go_at_call 70; refine ke.mono ?_; rintro e w5 ⟨rfl, hAf⟩)
          | fail)
        obtain ⟨M', F'', D', hA', hlt⟩ := hAf
        go_roundg (gk - 1)
        case rel => exact ⟨M', F'', D', hA', by omega⟩
        case measure => omega
      · obtain ⟨r, rfl⟩ : ∃ r, g = 2 * r + 1 := ⟨g / 2, by omega⟩
        by_cases hrl : r = last
        · rw [hrl] at hg kn H hk
          clear hm hrl r
          obtain ⟨G, hG⟩ : ∃ G : Int, G = ((2 * last + 1 : Nat) : Int) := ⟨_, rfl⟩
          rw [← hG] at kn
          have hq : G / 2 = (last : Int) := by omega
          have HG := Lib.hid hG
          clear hG
          go_wp2_with (first
            | (go_at_call 67; refine kn.mono ?_; rintro e w2 ⟨rfl, h2⟩; have H2 := Lib.hid h2; clear h2 kn cbn)
            | fail)
          obtain ⟨W, hW⟩ : ∃ W, W = w2.alloc (.cells #[.int .i64 G, .int .i64 (p : Int)] 109) := ⟨_, rfl⟩
          rw [← hW]
          obtain ⟨h, hh⟩ : ∃ h, h = w2.heap.size := ⟨_, rfl⟩
          rw [← hh]
          have w0 : W.heap[h]? = some (.cells #[.int .i64 G, .int .i64 (p : Int)] 109 (0, 0)) := by rw [hW, hh]; exact heap_alloc_new _ _
          have d0 : W.cell? ⟨h, 0, none⟩ = some (.int .i64 G) := by rw [cell_of_heap w0]; rfl
          have d1 : W.cell? ⟨h, 1, none⟩ = some (.int .i64 (p : Int)) := by rw [cell_of_heap w0]; rfl
          have hWB : Below w2.heap.size w2 W := by rw [hW]; exact (Below.refl _ _).alloc (Nat.le_refl _) _
          have hVS : Srch c s bk ts up wr (M, F') W.drew := H2.out.below hWB.drew
          have hVJ : J D W.drew := HJK.out _ _ _ H.out.1 hVS.kept
          have SB := Lib.hid (fun W' (hb : Below W.heap.size W W') => (show W'.cell? ⟨h, 0, none⟩ = some (.int .i64 G) from cell_kept hb d0))
          have e1 : W.drew.cell? ⟨h, 1, none⟩ = some (.int .i64 (p : Int)) := d1
          obtain ⟨I, hI⟩ : ∃ I : Int, I = ((2 * last : Nat) : Int) := ⟨_, rfl⟩
          have ki2 : ∀ w, Calls Try.prog 69 #[.int .i64 (last : Int)] w fun e w' => e = .returned (.int .i64 I) ∧ w = w' := fun w => by rw [hI]; exact in_any last w (by omega)
          have hne : (G == I) = false := by have := HG.out; simp; omega
          have HI := Lib.hid hI
          clear hI
          have cbl : W.drew.cell? ⟨c.bl, 0, none⟩ = some (.int .i64 (last : Int)) := by rw [cell_of_heap hVS.env.bl, HLA.out]; rfl
          have hi : Inv bk s.data.toList ts up (ts.length - 1) a M0 M (F' ++ [(2 * (ts.length - 1) + 1, p)]) D := by have h := H.out.2.1; have e := HLA.out; rw [e] at h; exact h
          have kt := HJT.out D p W.drew hVJ hp
          have HVS := Lib.hid (And.intro hVS hi)
          clear hW hh w0 d0 d1 hWB hVS hVJ hi
          go_region_held3 (fun W' => W'.cell? ⟨h, 0, none⟩ = some (.int .i64 G))
            (first | with_reducible exact SB.out _ (Below.refl _ W).drew)
            (first
              | (go_at_call 69; refine (ki2 _).mono ?_; rintro e w4 ⟨rfl, rfl⟩))
          clear ki2 SB
          go_wp2_with (first
            | (go_at_call 45; refine kt.mono ?_; rintro e w5 ⟨rfl, hj5, hs5⟩)
            | fail)
          have hAf := way_tell hbs hl HVS.out.2 HVS.out.1 hj5 hs5
          rw [← HLA.out] at hAf
          obtain ⟨M', F'', D', hA', hlt⟩ := hAf
          go_roundg (gk - 1)
          case rel => exact ⟨M', F'', D', hA', by omega⟩
          case measure => omega
        · obtain ⟨G, hG⟩ : ∃ G : Int, G = ((2 * r + 1 : Nat) : Int) := ⟨_, rfl⟩
          rw [← hG] at kn
          have hq : G / 2 = (r : Int) := by omega
          have HG := Lib.hid hG
          clear hG
          go_wp2_with (first
            | (go_at_call 67; refine kn.mono ?_; rintro e w2 ⟨rfl, h2⟩; have H2 := Lib.hid h2; clear h2 kn cbn)
            | fail)
          obtain ⟨W, hW⟩ : ∃ W, W = w2.alloc (.cells #[.int .i64 G, .int .i64 (p : Int)] 109) := ⟨_, rfl⟩
          rw [← hW]
          obtain ⟨h, hh⟩ : ∃ h, h = w2.heap.size := ⟨_, rfl⟩
          rw [← hh]
          have w0 : W.heap[h]? = some (.cells #[.int .i64 G, .int .i64 (p : Int)] 109 (0, 0)) := by rw [hW, hh]; exact heap_alloc_new _ _
          have d0 : W.cell? ⟨h, 0, none⟩ = some (.int .i64 G) := by rw [cell_of_heap w0]; rfl
          have d1 : W.cell? ⟨h, 1, none⟩ = some (.int .i64 (p : Int)) := by rw [cell_of_heap w0]; rfl
          have hWB : Below w2.heap.size w2 W := by rw [hW]; exact (Below.refl _ _).alloc (Nat.le_refl _) _
          have hVS : Srch c s bk ts up wr (M, F') W.drew := H2.out.below hWB.drew
          have hVJ : J D W.drew := HJK.out _ _ _ H.out.1 hVS.kept
          have SB := Lib.hid (fun W' (hb : Below W.heap.size W W') => (show W'.cell? ⟨h, 0, none⟩ = some (.int .i64 G) from cell_kept hb d0))
          have e1 : W.drew.cell? ⟨h, 1, none⟩ = some (.int .i64 (p : Int)) := d1
          obtain ⟨I, hI⟩ : ∃ I : Int, I = ((2 * r : Nat) : Int) := ⟨_, rfl⟩
          have ki2 : ∀ w, Calls Try.prog 69 #[.int .i64 (r : Int)] w fun e w' => e = .returned (.int .i64 I) ∧ w = w' := fun w => by rw [hI]; exact in_any r w (by omega)
          have hne : (G == I) = false := by have := HG.out; simp; omega
          have HI := Lib.hid hI
          clear hI
          have ke := way_leave HT.out HJK.out H.out.2.1 hVS hVJ (by have := HLA.out; omega) hp
          have cbl : W.drew.cell? ⟨c.bl, 0, none⟩ = some (.int .i64 (last : Int)) := by rw [cell_of_heap hVS.env.bl, HLA.out]; rfl
          have cbp : W.drew.cell? ⟨c.bp, 0, none⟩ = some (.pointer (some ⟨c.bw, 0, none⟩)) := by rw [cell_of_heap hVS.env.bp]; rfl
          have hnl : ((r : Int) == (last : Int)) = false := by simp; omega
          clear hW hh w0 d0 d1 hWB hVS hVJ
          go_region_held3 (fun W' => W'.cell? ⟨h, 0, none⟩ = some (.int .i64 G))
            (first | with_reducible exact SB.out _ (Below.refl _ W).drew)
            (first
              | (go_at_call 69; refine (ki2 _).mono ?_; rintro e w4 ⟨rfl, rfl⟩))
          clear ki2 SB
          go_wp2_with (first
            | (go_at_call 71; refine ke.mono ?_; rintro e w5 ⟨rfl, hAf⟩)
            | fail)
          obtain ⟨M', F'', D', hA', hlt⟩ := hAf
          go_roundg (gk - 1)
          case rel => exact ⟨M', F'', D', hA', by omega⟩
          case measure => omega
end Go.Proofs.Ytkgpnlldlekcbaa
namespace Go.Proofs.Ytkgpnlldlekcbaa
open Go.RowKit Go.Lib

open Classical in
/-- The places to which it stands. -/
noncomputable def endsL (s : List UInt8) (T : Tr) (a : Int) : List Nat := if a < 0 ∨ (s.length : Int) < a then [] else (List.range (s.length + 1)).filter fun b => decide (St s T a.toNat b)
def natsV (l : List Nat) : List Value := l.map fun n : Nat => .int .i64 (n : Int)
theorem search_is {bk : Bool} {l : List UInt8} {ts : List Nd} {T : Tr} {a : Nat} {M : Nat → Nat → Bool} (hT : Tree ts (upT T) T) (h : Done bk l ts (upT T) (ts.length - 1) a (fun _ _ => false) M) (b : Nat) :
    M (2 * (ts.length - 1) + 1) b = true ↔ SD bk l T a b := by
  have hl := hT.len
  have hp := T.size_pos
  have := marked_is (bk := bk) (s := l) (ts := ts) (up := upT T) (T := T) (Src := fun x => x = a) (M := fun g p => M g p = true) (last := ts.length - 1) hT.occ hl (by omega)
    h.closed (fun x hx => by subst hx; exact h.src) (fun X hX hs g p hm => h.least X hX (fun _ _ h => Bool.noConfusion h) (hs a rfl) g p hm) b
  rw [this]
  constructor
  · rintro ⟨x, rfl, hs⟩; exact hs
  · intro hs; exact ⟨a, rfl, hs⟩
theorem tree_of (T : Tr) (hok : T.ok) : Tree (T.row 0) (upT T) T := ⟨rfl, hok, upT_occ T hok⟩
/-- The row of yes and no that is told. -/
structure Told (h0 n : Nat) (w0 : World) (D : Nat → Bool) (w : World) : Prop where
  box : w.heap[h0 + 1]? = some (.cells #[.slice (some ⟨h0, 0, none⟩) (n + 1) (n + 1)] 40 (0, 0))
  row : w.heap[h0]? = some (.cells ⟨rowC n D⟩ 4 (0, 0))
  low : Below h0 w0 w
theorem Told.kept {h0 n B : Nat} {w0 w w' : World} {D : Nat → Bool} (h : Told h0 n w0 D w) (hB : h0 + 2 ≤ B) (k : Kept B w w') : Told h0 n w0 D w' :=
  ⟨(k.low.block _ (by omega)).trans h.box, (k.low.block _ (by omega)).trans h.row, h.low.trans (k.low.mono (by omega))⟩
set_option maxHeartbeats 1000000 in
theorem tell_row (h0 n p : Nat) (w0 : World) (D : Nat → Bool) (w : World) (h : Told h0 n w0 D w) (hp : p ≤ n) :
    Calls Try.prog 45 #[.int .i64 (p : Int), .pointer (some ⟨h0 + 1, 0, none⟩)] w fun e w' => e = .returned (.tuple #[]) ∧ Told h0 n w0 (setT D p) w' ∧ ∀ j, j ≠ h0 → w'.heap[j]? = w.heap[j]? := by
  have c0 : w.cell? ⟨h0 + 1, 0, none⟩ = some (.slice (some ⟨h0, 0, none⟩) (n + 1) (n + 1)) := by rw [cell_of_heap h.box]; rfl
  have c1 : w.cell? ⟨h0, p, none⟩ = some (.bool (D p)) := by rw [cell_of_heap h.row]; simpa using rowC_get n D p hp
  have f1 : w.frozen? ⟨h0, p, none⟩ = false := frozen_of_heap h.row p
  have p0 : (0 : Int) ≤ (p : Int) := by omega
  obtain ⟨N, hN⟩ : ∃ N, N = n + 1 := ⟨_, rfl⟩
  rw [← hN] at c0
  have p1 : (p : Int) < (N : Int) := by omega
  have H := Lib.hid h
  clear h hN hp
  go_enter Try.func45, Try.ntmps45
  go_wp2
  go_end0
  have hr : (w.setCell ⟨h0, p, none⟩ (.bool true)).heap[h0]? = some (.cells ⟨rowC n (setT D p)⟩ 4 (0, 0)) := by
    rw [heap_setCell_same w h0 p _ _ (.bool true) H.out.row]
    have e := rowC_set n D p
    unfold setT
    simp [e]
  exact ⟨rfl, ⟨(Below.heap_setCell _ _ _ _ (by dsimp only; omega)).trans H.out.box, hr, H.out.low.setCell (p := ⟨h0, p, none⟩) (Nat.le_refl _) _⟩, fun j hj => Below.heap_setCell _ _ _ _ hj⟩
theorem natsV_snoc (l : List Nat) (x : Nat) : natsV (l ++ [x]) = natsV l ++ [.int .i64 (x : Int)] := by unfold natsV; rw [List.map_append]; rfl
theorem owns_baseM {w : World} {B B' k n : Nat} {e : TypeId} {v : Value} {xs : List Value} (h : w.ownsRow B e k v n xs) (hB : B' ≤ B) : w.ownsRow B' e k v n xs := by
  refine ⟨h.1, h.2.imp id ?_⟩
  rintro ⟨g, cap, cur, h1, h2, h3⟩
  exact ⟨g, cap, cur, h1, Nat.le_trans hB h2, h3⟩
set_option maxHeartbeats 8000000 in
set_option maxRecDepth 20000 in
theorem ends_walk (b o cap : Nat) (T : Tr) (ts : List Nd) (s : ByteArray) (k : Nat) (w : World) (hts : ts = T.row 0) (hok : T.ok) (hsz : ts.length ≤ 2000) (hs : s.size ≤ 1000000) (hk : k ≤ s.size) (hL : Lies (.slice (some ⟨b, o, none⟩) ts.length cap) ts w) :
    Calls Try.prog 17 #[.slice (some ⟨b, o, none⟩) ts.length cap, .string s, .int .i64 (k : Int)] w fun e w' => ∃ v D, e = .returned v ∧ (∀ q, D q = true ↔ SD false s.data.toList T k q) ∧
      w'.ownsRow w.heap.size 3 1 v ((List.range (s.size + 1)).filter D).length (natsV ((List.range (s.size + 1)).filter D)) ∧ Below w.heap.size w w' := by
  have hbw : b < w.heap.size := by
    obtain ⟨b', o', h1, h2, _⟩ := hL.at (List.getElem?_eq_getElem (by rw [hts, Tr.row_length]; exact T.size_pos))
    cases h1
    exact h2
  obtain ⟨n, hn⟩ : ∃ n, n = s.size := ⟨_, rfl⟩
  have hkI : ¬ (k : Int) < 0 := by omega
  have hkn : ¬ (s.size : Int) < (k : Int) := by omega
  have hNw : IntKind.i64.wrap ((s.size : Int) + 1) = ((n + 1 : Nat) : Int) := by rw [IntWalk.i64_in _ (by omega)]; omega
  obtain ⟨N, hN⟩ : ∃ N, N = n + 1 := ⟨_, rfl⟩
  rw [← hN] at hNw
  have kmk := fun (w : World) => run_make_row' (P := Try.prog) 40 4 (.bool false) 1 Try.underlying40 Try.infoBool rfl .i64 .i64 N (by omega) (by omega) w
  obtain ⟨X0, hX0⟩ : ∃ X0, X0 = Obj.cells (madeCells #[.bool false] N) 4 := ⟨_, rfl⟩
  rw [← hX0] at kmk
  obtain ⟨h0, hh0⟩ : ∃ h0, h0 = w.heap.size := ⟨_, rfl⟩
  have hT : Tree ts (upT T) T := by rw [hts]; exact tree_of T hok
  have kr := fun (w : World) (h : Lies (.slice (some ⟨b, o, none⟩) ts.length cap) ts w) => reacher_any b o cap T ts s false w hts hok hsz hs h
  have hW0 : ∀ W, W = (w.alloc X0).alloc (.cells #[.slice (some ⟨h0, 0, none⟩) N N] 40) → Told h0 n w (fun _ => false) W ∧ W.heap.size = h0 + 2 ∧ Lies (.slice (some ⟨b, o, none⟩) ts.length cap) ts W := fun W hW => by
    have z : (w.alloc X0).heap.size = h0 + 1 := by rw [hh0]; simp
    have hB : Below h0 w W := by rw [hW, hh0]; exact ((Below.refl _ w).alloc (Nat.le_refl _) _).alloc (by simp) _
    refine ⟨⟨?_, ?_, hB⟩, by rw [hW, hh0]; simp, hL.below (by rw [← hh0]; exact hB)⟩
    · rw [hW, ← z, ← hN]; exact heap_alloc_new _ _
    · rw [hW]
      refine (Below.heap_alloc _ _ _ (by rw [z]; omega)).trans ?_
      rw [hh0, heap_alloc_new, hX0, hN, rowC_made]
  have HX := Lib.hid (And.intro hX0 (And.intro hN (And.intro hn hh0)))
  have HT := Lib.hid hT
  have HW0 := Lib.hid hW0
  have HS := Lib.hid (And.intro hs (And.intro hk hbw))
  clear hX0 hN hT hW0 hts hok hsz hL hs hk hn hh0
  go_enter Try.func17, Try.ntmps17
  go_upto_region 4 with (fail)
  obtain ⟨hX0, hN, hn, hh0⟩ := HX.out
  rw [← hh0]
  obtain ⟨W, hW⟩ : ∃ W, W = (w.alloc X0).alloc (.cells #[.slice (some ⟨h0, 0, none⟩) N N] 40) := ⟨_, rfl⟩
  rw [← hW]
  have HTW := Lib.hid (HW0.out W hW)
  have hLW := HTW.out.2.2
  have kr1 := kr W hLW
  clear hX0 hN hn hh0 hW kr kmk hLW
  go_wp2_with (first
    | (go_at_call 44; refine kr1.mono ?_; rintro e w1 ⟨c, hcB, hcb, hcs, hb1, rfl, hE, hM⟩
       have hWz := HTW.out.2.1
       obtain ⟨hX0, hN, hn, hh0⟩ := HX.out
       have kq := reach_ends c s false ts (upT T) T HT.out (Told h0 n w) (h0 + 1) hcs (fun D a b h k => h.kept (by omega) k)
         (fun D p a h hp => (tell_row h0 n p w D a h (by omega)).mono fun e a' hh => ⟨hh.1, hh.2.1, fun j hj => hh.2.2 j (by have := HS.out.2.2; rcases hj with hj | hj <;> omega)⟩)
         (fun _ _ => false) k HS.out.2.1 w1 hE hM (HTW.out.1.kept (B := W.heap.size) (by omega) (Kept.of_below hb1 (Nat.le_refl _))) (fun _ _ h => Bool.noConfusion h)
       clear hcB hcb hcs hb1 hE hM kr1 hX0 hN hn hh0 hWz)
    | (go_at_call 68; refine kq.mono ?_; rintro e w2 ⟨rfl, M, -, -, hJ2, hD⟩
       obtain ⟨D, hDe⟩ : ∃ D : Nat → Bool, D = fun p => M (2 * (ts.length - 1) + 1) p && !(fun (_ _ : Nat) => false) (2 * (ts.length - 1) + 1) p := ⟨_, rfl⟩
       rw [← hDe] at hJ2
       have hDs : ∀ q, D q = true ↔ SD false s.data.toList T k q := fun q => by rw [← search_is HT.out hD q, hDe]; simp
       have c7 : w2.cell? ⟨h0 + 1, 0, none⟩ = some (.slice (some ⟨h0, 0, none⟩) N N) := by rw [cell_of_heap hJ2.box, HX.out.2.1]; rfl
       have HJ := Lib.hid (And.intro hJ2 hDs)
       clear kq hJ2 hDs hDe hD)
    | fail)
  obtain ⟨i0, hi, hz0, hz1, hz2⟩ := info_parts Try.infoInt
  have HI0 := Lib.hid (And.intro hi (And.intro hz0 (And.intro hz1 hz2)))
  clear hi hz0 hz1 hz2 hNw hkI hkn
  go_loopg [9, 33] (N + 1) (fun m v i wr => ∃ (j : Nat) (L : List Nat), i = .int .i64 j ∧ Hid (j ≤ N) ∧ Hid (m = N + 1 - j) ∧ Hid (L = (List.range j).filter D) ∧ wr.ownsRow (h0 + 2) 3 1 v L.length (natsV L) ∧ Hid (Told h0 n w D wr))
  case atStart => exact ⟨0, [], rfl, Nat.zero_le _, rfl, rfl, World.ownsRow_nil _ _ _ _, HJ.out.1⟩
  case round =>
    obtain ⟨j, L, rfl, HJN, HK, HL, hown, HTO⟩ := hrel
    by_cases hlt : j < N
    · have hle : j ≤ n := by have := HX.out.2.1; omega
      have hltI : (j : Int) < (N : Int) := by omega
      have j0 : (0 : Int) ≤ (j : Int) := by omega
      have hI : IntKind.i64.wrap ((j : Int) + 1) = ((j + 1 : Nat) : Int) := by rw [IntWalk.i64_in _ (by have := HX.out; have := HS.out.1; omega)]; omega
      have cj : wr.cell? ⟨h0, j, none⟩ = some (.bool (D j)) := by rw [cell_of_heap HTO.out.row]; simpa using rowC_get n D j hle
      obtain ⟨d, hd⟩ : ∃ d, d = D j := ⟨_, rfl⟩
      rw [← hd] at cj
      have hLn : (List.range (j + 1)).filter D = L ++ (if d = true then [j] else []) := by
        rw [List.range_succ, List.filter_append, ← HL.out, hd]
        congr 1
        cases h : D j <;> simp [h]
      have hLl : L.length ≤ j := by rw [HL.out]; exact Nat.le_trans (List.length_filter_le _ _) (by simp)
      have HLN := Lib.hid hLn
      have hwr := Lib.hid (block_lt HTO.out.box)
      obtain ⟨m, hm⟩ : ∃ m, m = L.length := ⟨_, rfl⟩
      rw [← hm] at hown hLl
      have HM := Lib.hid hm
      have HOWN := Lib.hid hown
      clear hd hLn hle hm hown
      cases d with
      | false =>
        go_wp2
        go_roundg (N - j)
        case rel => exact ⟨j + 1, L, by go_num, by show _ ≤ _; omega, by show _ = _; omega, by show _ = _; rw [HLN.out]; simp, by have := HOWN.out; rw [HM.out] at this; exact this, HTO⟩
        case measure => have := HK.out; omega
      | true =>
        have hNs : N ≤ 1000001 := by have := HX.out; have := HS.out.1; omega
        have hz := hwr.out
        go_wp2_with (first
          | (at_builtin; refine wpList_append_own _ rfl (.tmp 39) (.tmp 41) 41 rfl (h0 + 2) 3 i0 (.int .i64 0) 1 8 Try.underlying41 HI0.out.1 HI0.out.2.1 HI0.out.2.2.1 HI0.out.2.2.2 rfl (by decide) _ m (natsV L) rfl (owns_alloc HOWN.out) ⟨wr.heap.size, 0, none⟩ 1 1 [.int .i64 j] rfl rfl (cell_one' _ _ _) (by simp [Value.oneCell']) (by unfold maxLen; omega) (by omega) (by simp; omega) ?_; intro v5 w5 hown5 hgrow5 _
             have ht5 : Told h0 n w D w5 := ⟨(hgrow5.block _ (by simp; omega) (fun e => by have := own_base HOWN.out e.symm; omega)).trans ((Below.heap_alloc _ _ _ hz).trans HTO.out.box), (hgrow5.block _ (by simp; omega) (fun e => by have := own_base HOWN.out e.symm; omega)).trans ((Below.heap_alloc _ _ _ (by omega)).trans HTO.out.row), (HTO.out.low.alloc (by omega) _).grown hgrow5 (by simp; omega) (fun q hq => by have := own_base HOWN.out hq; omega)⟩
             have H5 := Lib.hid (And.intro hown5 ht5)
             clear hown5 hgrow5 ht5)
          | fail)
        go_roundg (N - j)
        case rel =>
          refine ⟨j + 1, L ++ [j], by go_num, by show _ ≤ _; omega, by show _ = _; omega, by show _ = _; rw [HLN.out]; simp, ?_, H5.out.2⟩
          have h := H5.out.1
          rw [← natsV_snoc, HM.out] at h
          rw [List.length_append]
          exact h
        case measure => have := HK.out; omega
    · have hj : j = N := by have := HJN.out; omega
      subst hj
      go_wp2
      obtain ⟨hX0, hN, hn, hh0⟩ := HX.out
      refine bodyPost_ret (results_tmp rfl _ _ _) rfl ⟨_, D, rfl, HJ.out.2, ?_, ?_⟩
      · have e : (List.range (s.size + 1)).filter D = L := by rw [HL.out, hN, hn]
        rw [e, ← hh0]
        exact owns_baseM hown (by omega)
      · rw [← hh0]; exact HTO.out.low
open Classical in
theorem endsL_of {s : List UInt8} {T : Tr} {k : Nat} {D : Nat → Bool} (hk : k ≤ s.length) (h : ∀ q, D q = true ↔ SD false s T k q) : (List.range (s.length + 1)).filter D = endsL s T (k : Int) := by
  unfold endsL
  rw [if_neg (by omega)]
  apply List.filter_congr
  intro q _
  have := h q
  have e : SD false s T k q = St s T k q := rfl
  rw [e] at this
  rw [Int.toNat_natCast]
  cases hd : D q with
  | true => exact (decide_eq_true (this.1 hd)).symm
  | false => exact (decide_eq_false (fun hh => by rw [this.2 hh] at hd; cases hd)).symm
set_option maxHeartbeats 1000000 in
set_option maxRecDepth 20000 in
/-- Package match's Ends, of a tree's row, from any place. -/
theorem ends_any (v : Value) (T : Tr) (ts : List Nd) (s : ByteArray) (a : Int) (w : World) (hts : ts = T.row 0) (hok : T.ok) (hsz : ts.length ≤ 2000) (hs : s.size ≤ 1000000) (hL : Lies v ts w) :
    Calls Try.prog 17 #[v, .string s, .int .i64 a] w fun e w' => ∃ v', e = .returned v' ∧ w'.ownsRow w.heap.size 3 1 v' (endsL s.data.toList T a).length (natsV (endsL s.data.toList T a)) ∧ Below w.heap.size w w' := by
  have hlen : s.data.toList.length = s.size := Array.length_toList
  by_cases h1 : a < 0
  · have e : endsL s.data.toList T a = [] := by unfold endsL; rw [if_pos (.inl h1)]
    rw [e]
    obtain ⟨ao, cap, rfl, _⟩ := hL
    go_enter Try.func17, Try.ntmps17
    go_wp2
    exact bodyPost_ret (results_tmp rfl _ _ _) rfl ⟨_, rfl, World.ownsRow_nil _ _ _ _, Below.refl _ _⟩
  · by_cases h2 : (s.size : Int) < a
    · have e : endsL s.data.toList T a = [] := by unfold endsL; rw [if_pos (.inr (by rw [hlen]; exact h2))]
      rw [e]
      obtain ⟨ao, cap, rfl, _⟩ := hL
      go_enter Try.func17, Try.ntmps17
      go_wp2
      exact bodyPost_ret (results_tmp rfl _ _ _) rfl ⟨_, rfl, World.ownsRow_nil _ _ _ _, Below.refl _ _⟩
    · obtain ⟨k, rfl⟩ : ∃ k : Nat, a = (k : Int) := ⟨a.toNat, by omega⟩
      obtain ⟨ao, cap, rfl, hl2, hq⟩ := hL
      obtain ⟨b, o, rfl, _, _⟩ := hq 0 _ (List.getElem?_eq_getElem (by rw [hts, Tr.row_length]; exact T.size_pos))
      refine (ends_walk b o cap T ts s k w hts hok hsz hs (by omega) ⟨_, _, rfl, hl2, hq⟩).mono ?_
      rintro e w' ⟨v', D, rfl, hD, hown, hlow⟩
      rw [← hlen, endsL_of (by omega) hD] at hown
      exact ⟨v', rfl, hown, hlow⟩
end Go.Proofs.Ytkgpnlldlekcbaa
namespace Go.Proofs.Ytkgpnlldlekcbaa
open Go.RowKit Go.Lib

set_option maxHeartbeats 8000000 in
set_option maxRecDepth 20000 in
theorem reach_far (c : Cf) (s : ByteArray) (bk : Bool) (ts : List Nd) (up : Nat → Nat) (T : Tr) (hT : Tree ts up T) (J : (Nat → Bool) → World → Prop) (b1 b2 : Nat) (hbs : c.B ≤ c.bs)
    (hJk : ∀ D w w', J D w → Kept c.B w w' → J D w')
    (hJt : ∀ D p w, J D w → p ≤ s.size → Calls Try.prog 99 #[.int .i64 (p : Int), .pointer (some ⟨b1, 0, none⟩), .pointer (some ⟨b2, 0, none⟩)] w fun e w' => e = .returned (.tuple #[]) ∧ J (setT D p) w' ∧ ∀ j, (c.B ≤ j ∨ j = c.bt) → w'.heap[j]? = w.heap[j]?)
    (M0 : Nat → Nat → Bool) (a : Nat) (ha : a ≤ s.size) (w : World) (hE : Env c s bk ts up w) (hM : Mk c.B c.br c.bR c.bs c.bf ts.length s M0 [] w) (hJ : J (fun _ => false) w)
    (h0 : ∀ g p, M0 g p = true → ∀ q ∈ nextD bk s.data.toList ts up g p, M0 q.1 q.2 = true) :
    Calls Try.prog 68 #[.int .i64 (a : Int), .func (.func 99) #[] #[.pointer (some ⟨b1, 0, none⟩), .pointer (some ⟨b2, 0, none⟩)], .pointer (some ⟨c.bm, 0, none⟩), .pointer (some ⟨c.bl, 0, none⟩), .pointer (some ⟨c.bn, 0, none⟩), .pointer (some ⟨c.bp, 0, none⟩)] w fun e w' =>
      e = .returned (.tuple #[]) ∧ ∃ M, Env c s bk ts up w' ∧ Mk c.B c.br c.bR c.bs c.bf ts.length s M [] w' ∧ J (fun p => M (2 * (ts.length - 1) + 1) p && !M0 (2 * (ts.length - 1) + 1) p) w' ∧ Done bk s.data.toList ts up (ts.length - 1) a M0 M := by
  have hl : 0 < ts.length := by rw [← hT.len]; exact T.size_pos
  have hsm := hM.small
  obtain ⟨last, hlast⟩ : ∃ last, last = ts.length - 1 := ⟨_, rfl⟩
  have cbm : w.cell? ⟨c.bm, 0, none⟩ = some (.func (.func 66) #[] #[.pointer (some ⟨c.br, 0, none⟩), .pointer (some ⟨c.bs, 0, none⟩), .pointer (some ⟨c.bf, 0, none⟩)]) := by rw [cell_of_heap hE.bm]; rfl
  have cbl : w.cell? ⟨c.bl, 0, none⟩ = some (.int .i64 (last : Int)) := by rw [cell_of_heap hE.bl, hlast]; rfl
  have ki := fun w => in_any last w (by omega)
  have hst : Srch c s bk ts up w (M0, []) w := ⟨hE, hM, Kept.refl _ _⟩
  have km := hst.mark (g := 2 * last) (p := a) (by omega) ha
  have hA : ∀ w', Srch c s bk ts up w (mks [(2 * last, a)] (M0, [])) w' → ∃ M F D, AtS c s bk ts up J a M0 M F D w' := fun w' h => ⟨_, _, _, h.env, h.mm, hJk _ _ _ hJ h.kept, by rw [← hlast]; exact Inv.start h0⟩
  have SB := Lib.hid (fun W' (hb : Below w.heap.size w W') => (show W'.cell? ⟨c.bm, 0, none⟩ = some (.func (.func 66) #[] #[.pointer (some ⟨c.br, 0, none⟩), .pointer (some ⟨c.bs, 0, none⟩), .pointer (some ⟨c.bf, 0, none⟩)]) ∧ W'.cell? ⟨c.bl, 0, none⟩ = some (.int .i64 (last : Int)) from ⟨cell_kept hb cbm, cell_kept hb cbl⟩))
  have SP := Lib.hid (fun W' (h : Srch c s bk ts up w (mks [(2 * last, a)] (M0, [])) W') => (show W'.cell? ⟨c.bm, 0, none⟩ = some (.func (.func 66) #[] #[.pointer (some ⟨c.br, 0, none⟩), .pointer (some ⟨c.bs, 0, none⟩), .pointer (some ⟨c.bf, 0, none⟩)]) ∧ W'.cell? ⟨c.bl, 0, none⟩ = some (.int .i64 (last : Int)) from ⟨by rw [cell_of_heap h.env.bm]; rfl, by rw [cell_of_heap h.env.bl, hlast]; rfl⟩))
  have HJK := Lib.hid hJk
  have HJT := Lib.hid hJt
  have HT := Lib.hid hT
  have HLA := Lib.hid hlast
  have HA := Lib.hid hA
  clear hJk hJt hJ h0 hE hM hst hT cbm cbl hA hlast ha
  go_enter Try.func68, Try.ntmps68
  go_step3
  go_wp2_with fail
  go_region_held3 (fun W' => W'.cell? ⟨c.bm, 0, none⟩ = some (.func (.func 66) #[] #[.pointer (some ⟨c.br, 0, none⟩), .pointer (some ⟨c.bs, 0, none⟩), .pointer (some ⟨c.bf, 0, none⟩)]) ∧ W'.cell? ⟨c.bl, 0, none⟩ = some (.int .i64 (last : Int)))
    (first | with_reducible exact SB.out _ (Below.refl _ w).drew | with_reducible exact SP.out _ h1)
    (first
      | (go_at_call 69; refine (ki _).mono ?_; rintro e w2 ⟨rfl, rfl⟩)
      | (go_at_call 66; refine (km _ (Below.refl _ _).drew).mono ?_; rintro e w1 ⟨rfl, h1⟩))
  have H1 := Lib.hid (HA.out _ h1)
  clear h1 km ki SB SP HA
  go_wp2_with fail
  go_step3
  go_wp2_with fail
  go_loopg [] (2 * ts.length * (s.size + 1) + 1) (fun k wr => Hid (∃ M F D, AtS c s bk ts up J a M0 M F D wr ∧ F.length + free M s.size ts.length < k))
  case atStart =>
    obtain ⟨M, F, D, h⟩ := H1.out
    exact ⟨M, F, D, h, by have := h.mm.cnt; omega⟩
  case round =>
    obtain ⟨M, F, D, h, hk⟩ := hrel.out
    clear hrel H1
    rcases List.eq_nil_or_concat F with rfl | ⟨F', ⟨g, p⟩, hF⟩
    · have kn := next_empty (⟨h.env, h.mm, Kept.refl _ _⟩ : Srch c s bk ts up wr (M, []) wr)
      have cbn := h.bn
      have H := Lib.hid h
      clear h
      go_wp2_with (first
        | (go_at_call 67; refine kn.mono ?_; rintro e w2 ⟨rfl, h2⟩; have H2 := Lib.hid h2; clear h2 kn cbn)
        | fail)
      rw [Exit.noGoto_normal]
      go_end0
      have h3 := H2.out.below ((Below.refl _ w2).alloc (Nat.le_refl _) (.cells #[.int .i64 0, .int .i64 0] 109))
      obtain ⟨hd, hD⟩ := H.out.inv.done
      exact ⟨rfl, M, h3.env, h3.mm, hD ▸ HJK.out _ _ _ H.out.j h3.kept, hd⟩
    · rw [List.concat_eq_append] at hF
      subst hF
      obtain ⟨hMg, hM0g⟩ := h.inv.i1 (g, p) (List.mem_append_right _ (List.mem_singleton.2 rfl))
      obtain ⟨hg, hp⟩ := h.mm.inb g p hMg
      have kn := next_last (⟨h.env, h.mm, Kept.refl _ _⟩ : Srch c s bk ts up wr (M, F' ++ [(g, p)]) wr)
      have cbn := h.bn
      have hj := h.j
      have hi := h.inv
      have H := Lib.hid (And.intro hj (And.intro hi (And.intro hMg hM0g)))
      clear h hj hi hMg hM0g
      rcases Nat.mod_two_eq_zero_or_one g with hm | hm
      · obtain ⟨r, rfl⟩ : ∃ r, g = 2 * r := ⟨g / 2, by omega⟩
        obtain ⟨G, hG⟩ : ∃ G : Int, G = ((2 * r : Nat) : Int) := ⟨_, rfl⟩
        rw [← hG] at kn
        have hq : G / 2 = (r : Int) := by omega
        have HG := Lib.hid hG
        clear hG
        go_wp2_with (first
          | (go_at_call 67; refine kn.mono ?_; rintro e w2 ⟨rfl, h2⟩; have H2 := Lib.hid h2; clear h2 kn cbn)
          | fail)
        obtain ⟨W, hW⟩ : ∃ W, W = w2.alloc (.cells #[.int .i64 G, .int .i64 (p : Int)] 109) := ⟨_, rfl⟩
        rw [← hW]
        obtain ⟨h, hh⟩ : ∃ h, h = w2.heap.size := ⟨_, rfl⟩
        rw [← hh]
        have w0 : W.heap[h]? = some (.cells #[.int .i64 G, .int .i64 (p : Int)] 109 (0, 0)) := by rw [hW, hh]; exact heap_alloc_new _ _
        have d0 : W.cell? ⟨h, 0, none⟩ = some (.int .i64 G) := by rw [cell_of_heap w0]; rfl
        have d1 : W.cell? ⟨h, 1, none⟩ = some (.int .i64 (p : Int)) := by rw [cell_of_heap w0]; rfl
        have hWB : Below w2.heap.size w2 W := by rw [hW]; exact (Below.refl _ _).alloc (Nat.le_refl _) _
        have hVS : Srch c s bk ts up wr (M, F') W.drew := H2.out.below hWB.drew
        have hVJ : J D W.drew := HJK.out _ _ _ H.out.1 hVS.kept
        have SB := Lib.hid (fun W' (hb : Below W.heap.size W W') => (show W'.cell? ⟨h, 0, none⟩ = some (.int .i64 G) from cell_kept hb d0))
        have e1 : W.drew.cell? ⟨h, 1, none⟩ = some (.int .i64 (p : Int)) := d1
        obtain ⟨I, hI⟩ : ∃ I : Int, I = ((2 * r : Nat) : Int) := ⟨_, rfl⟩
        have ki2 : ∀ w, Calls Try.prog 69 #[.int .i64 (r : Int)] w fun e w' => e = .returned (.int .i64 I) ∧ w = w' := fun w => by rw [hI]; exact in_any r w (by omega)
        have heq : (G == I) = true := by have := HG.out; simp; omega
        have HI := Lib.hid hI
        clear hI
        have ke := way_enter HT.out HJK.out H.out.2.1 hVS hVJ (by omega) hp
        have cbp : W.drew.cell? ⟨c.bp, 0, none⟩ = some (.pointer (some ⟨c.bw, 0, none⟩)) := by rw [cell_of_heap hVS.env.bp]; rfl
        clear hW hh w0 d0 d1 hWB hVS hVJ
        go_region_held3 (fun W' => W'.cell? ⟨h, 0, none⟩ = some (.int .i64 G))
          (first | with_reducible exact SB.out _ (Below.refl _ W).drew)
          (first
            | (go_at_call 69; refine (ki2 _).mono ?_; rintro e w4 ⟨rfl, rfl⟩))
        clear ki2 SB
        go_wp2_with (first
          | (go_at_call 70; refine ke.mono ?_; rintro e w5 ⟨rfl, hAf⟩)
          | fail)
        obtain ⟨M', F'', D', hA', hlt⟩ := hAf
        go_roundg (gk - 1)
        case rel => exact ⟨M', F'', D', hA', by omega⟩
        case measure => omega
      · obtain ⟨r, rfl⟩ : ∃ r, g = 2 * r + 1 := ⟨g / 2, by omega⟩
        by_cases hrl : r = last
        · rw [hrl] at hg kn H hk
          clear hm hrl r
          obtain ⟨G, hG⟩ : ∃ G : Int, G = ((2 * last + 1 : Nat) : Int) := ⟨_, rfl⟩
          rw [← hG] at kn
          have hq : G / 2 = (last : Int) := by omega
          have HG := Lib.hid hG
          clear hG
          go_wp2_with (first
            | (go_at_call 67; refine kn.mono ?_; rintro e w2 ⟨rfl, h2⟩; have H2 := Lib.hid h2; clear h2 kn cbn)
            | fail)
          obtain ⟨W, hW⟩ : ∃ W, W = w2.alloc (.cells #[.int .i64 G, .int .i64 (p : Int)] 109) := ⟨_, rfl⟩
          rw [← hW]
          obtain ⟨h, hh⟩ : ∃ h, h = w2.heap.size := ⟨_, rfl⟩
          rw [← hh]
          have w0 : W.heap[h]? = some (.cells #[.int .i64 G, .int .i64 (p : Int)] 109 (0, 0)) := by rw [hW, hh]; exact heap_alloc_new _ _
          have d0 : W.cell? ⟨h, 0, none⟩ = some (.int .i64 G) := by rw [cell_of_heap w0]; rfl
          have d1 : W.cell? ⟨h, 1, none⟩ = some (.int .i64 (p : Int)) := by rw [cell_of_heap w0]; rfl
          have hWB : Below w2.heap.size w2 W := by rw [hW]; exact (Below.refl _ _).alloc (Nat.le_refl _) _
          have hVS : Srch c s bk ts up wr (M, F') W.drew := H2.out.below hWB.drew
          have hVJ : J D W.drew := HJK.out _ _ _ H.out.1 hVS.kept
          have SB := Lib.hid (fun W' (hb : Below W.heap.size W W') => (show W'.cell? ⟨h, 0, none⟩ = some (.int .i64 G) from cell_kept hb d0))
          have e1 : W.drew.cell? ⟨h, 1, none⟩ = some (.int .i64 (p : Int)) := d1
          obtain ⟨I, hI⟩ : ∃ I : Int, I = ((2 * last : Nat) : Int) := ⟨_, rfl⟩
          have ki2 : ∀ w, Calls Try.prog 69 #[.int .i64 (last : Int)] w fun e w' => e = .returned (.int .i64 I) ∧ w = w' := fun w => by rw [hI]; exact in_any last w (by omega)
          have hne : (G == I) = false := by have := HG.out; simp; omega
          have HI := Lib.hid hI
          clear hI
          have cbl : W.drew.cell? ⟨c.bl, 0, none⟩ = some (.int .i64 (last : Int)) := by rw [cell_of_heap hVS.env.bl, HLA.out]; rfl
          have hi : Inv bk s.data.toList ts up (ts.length - 1) a M0 M (F' ++ [(2 * (ts.length - 1) + 1, p)]) D := by have h := H.out.2.1; have e := HLA.out; rw [e] at h; exact h
          have kt := HJT.out D p W.drew hVJ hp
          have HVS := Lib.hid (And.intro hVS hi)
          clear hW hh w0 d0 d1 hWB hVS hVJ hi
          go_region_held3 (fun W' => W'.cell? ⟨h, 0, none⟩ = some (.int .i64 G))
            (first | with_reducible exact SB.out _ (Below.refl _ W).drew)
            (first
              | (go_at_call 69; refine (ki2 _).mono ?_; rintro e w4 ⟨rfl, rfl⟩))
          clear ki2 SB
          go_wp2_with (first
            | (go_at_call 99; refine kt.mono ?_; rintro e w5 ⟨rfl, hj5, hs5⟩)
            | fail)
          have hAf := way_tell hbs hl HVS.out.2 HVS.out.1 hj5 hs5
          rw [← HLA.out] at hAf
          obtain ⟨M', F'', D', hA', hlt⟩ := hAf
          go_roundg (gk - 1)
          case rel => exact ⟨M', F'', D', hA', by omega⟩
          case measure => omega
        · obtain ⟨G, hG⟩ : ∃ G : Int, G = ((2 * r + 1 : Nat) : Int) := ⟨_, rfl⟩
          rw [← hG] at kn
          have hq : G / 2 = (r : Int) := by omega
          have HG := Lib.hid hG
          clear hG
          go_wp2_with (first
            | (go_at_call 67; refine kn.mono ?_; rintro e w2 ⟨rfl, h2⟩; have H2 := Lib.hid h2; clear h2 kn cbn)
            | fail)
          obtain ⟨W, hW⟩ : ∃ W, W = w2.alloc (.cells #[.int .i64 G, .int .i64 (p : Int)] 109) := ⟨_, rfl⟩
          rw [← hW]
          obtain ⟨h, hh⟩ : ∃ h, h = w2.heap.size := ⟨_, rfl⟩
          rw [← hh]
          have w0 : W.heap[h]? = some (.cells #[.int .i64 G, .int .i64 (p : Int)] 109 (0, 0)) := by rw [hW, hh]; exact heap_alloc_new _ _
          have d0 : W.cell? ⟨h, 0, none⟩ = some (.int .i64 G) := by rw [cell_of_heap w0]; rfl
          have d1 : W.cell? ⟨h, 1, none⟩ = some (.int .i64 (p : Int)) := by rw [cell_of_heap w0]; rfl
          have hWB : Below w2.heap.size w2 W := by rw [hW]; exact (Below.refl _ _).alloc (Nat.le_refl _) _
          have hVS : Srch c s bk ts up wr (M, F') W.drew := H2.out.below hWB.drew
          have hVJ : J D W.drew := HJK.out _ _ _ H.out.1 hVS.kept
          have SB := Lib.hid (fun W' (hb : Below W.heap.size W W') => (show W'.cell? ⟨h, 0, none⟩ = some (.int .i64 G) from cell_kept hb d0))
          have e1 : W.drew.cell? ⟨h, 1, none⟩ = some (.int .i64 (p : Int)) := d1
          obtain ⟨I, hI⟩ : ∃ I : Int, I = ((2 * r : Nat) : Int) := ⟨_, rfl⟩
          have ki2 : ∀ w, Calls Try.prog 69 #[.int .i64 (r : Int)] w fun e w' => e = .returned (.int .i64 I) ∧ w = w' := fun w => by rw [hI]; exact in_any r w (by omega)
          have hne : (G == I) = false := by have := HG.out; simp; omega
          have HI := Lib.hid hI
          clear hI
          have ke := way_leave HT.out HJK.out H.out.2.1 hVS hVJ (by have := HLA.out; omega) hp
          have cbl : W.drew.cell? ⟨c.bl, 0, none⟩ = some (.int .i64 (last : Int)) := by rw [cell_of_heap hVS.env.bl, HLA.out]; rfl
          have cbp : W.drew.cell? ⟨c.bp, 0, none⟩ = some (.pointer (some ⟨c.bw, 0, none⟩)) := by rw [cell_of_heap hVS.env.bp]; rfl
          have hnl : ((r : Int) == (last : Int)) = false := by simp; omega
          clear hW hh w0 d0 d1 hWB hVS hVJ
          go_region_held3 (fun W' => W'.cell? ⟨h, 0, none⟩ = some (.int .i64 G))
            (first | with_reducible exact SB.out _ (Below.refl _ W).drew)
            (first
              | (go_at_call 69; refine (ki2 _).mono ?_; rintro e w4 ⟨rfl, rfl⟩))
          clear ki2 SB
          go_wp2_with (first
            | (go_at_call 71; refine ke.mono ?_; rintro e w5 ⟨rfl, hAf⟩)
            | fail)
          obtain ⟨M', F'', D', hA', hlt⟩ := hAf
          go_roundg (gk - 1)
          case rel => exact ⟨M', F'', D', hA', by omega⟩
          case measure => omega
end Go.Proofs.Ytkgpnlldlekcbaa
