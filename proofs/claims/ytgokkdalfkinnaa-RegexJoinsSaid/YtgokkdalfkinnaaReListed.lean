/- The reader's method listed: a class, or a sign, that the rest begins with. Condition: the text is shorter than 2^46. -/
import Derived.Test.YtgokkdalfkinnaaReRdr
namespace Go.Proofs.Ytgokkdalfkinnaa
open Go.RowKit Go.Lib

/-- A variable of a class, made ahead of a call. -/
theorem cell_alloc {w : World} {a : Addr} {u : Value} (h : w.cell? a = some u) (o : Obj) : (w.alloc o).cell? a = some u := (World.cell?_alloc_some w a o (by rw [h]; rfl)).trans h
theorem four_stays {w w1 w2 : World} {p q r s : Value} {t : TypeId} (hw : w1 = w.alloc (.cells #[p, q, r, s] t)) (hb : Below w1.heap.size w1 w2) : w2.heap[w.heap.size]? = some (.cells #[p, q, r, s] t (0, 0)) := by
  subst hw
  exact (hb.block _ (by simp)).trans (heap_alloc_new w _)

theorem four_else {w : World} {g k : Nat} (p q r s : Value) (h : k ≠ g) : ((((w.setCell ⟨g, 0, none⟩ p).setCell ⟨g, 1, none⟩ q).setCell ⟨g, 2, none⟩ r).setCell ⟨g, 3, none⟩ s).heap[k]? = w.heap[k]? := by
  rw [Below.heap_setCell _ _ _ _ (by exact h), Below.heap_setCell _ _ _ _ (by exact h), Below.heap_setCell _ _ _ _ (by exact h), Below.heap_setCell _ _ _ _ (by exact h)]
/-- A variable of a class that is none of a row's blocks is written. -/
theorem Own.four {B p : Nat} {T : TypeId} {more : List Value} {xs : List Nd} {w : World} {g : Nat} {cs : Array Value} {t : TypeId} {fz : Nat × Nat} (h : Own B p T more xs w) (hp : p ≠ g) (hg : w.heap[g]? = some (.cells cs t fz)) (ht : t ≠ 46) (a b c d : Value) :
    Own B p T more xs ((((w.setCell ⟨g, 0, none⟩ a).setCell ⟨g, 1, none⟩ b).setCell ⟨g, 2, none⟩ c).setCell ⟨g, 3, none⟩ d) := by
  obtain ⟨h1, h2, h3, hT, v, h4, h5, h6⟩ := h
  have keep : ∀ j, j ≠ g → ((((w.setCell ⟨g, 0, none⟩ a).setCell ⟨g, 1, none⟩ b).setCell ⟨g, 2, none⟩ c).setCell ⟨g, 3, none⟩ d).heap[j]? = w.heap[j]? := fun j hj =>
    (Below.heap_setCell _ _ _ _ hj).trans ((Below.heap_setCell _ _ _ _ hj).trans ((Below.heap_setCell _ _ _ _ hj).trans (Below.heap_setCell _ _ _ _ hj)))
  refine ⟨h1, by rw [size_four]; exact h2, h3, hT, v, (keep p hp).trans h4, owns_same h5 fun j hj => keep j (fun e => ?_), h6⟩
  subst e
  rcases h5.2 with ⟨rfl, _⟩ | ⟨g', _, _, rfl, _, hh, _⟩
  · cases hj
  · cases hj
    rw [hg] at hh
    injection hh with hh
    injection hh with _ hh _
    exact ht hh
set_option maxHeartbeats 2000000 in
set_option maxRecDepth 20000 in
theorem listed_class (B p : Nat) (xs : List Nd) (S R : ByteArray) (m : Nat) (e0 e1 e2 e3 : Int) (d : Nat) (w : World) (h : Own B p 53 [.string S, .int .i64 (d : Int)] xs w) (hm : m ≤ S.size) (hz : S.size ≤ 70000000000000) (hR : S.extract m S.size = R)
    (k1 : ∀ w, Calls Try.prog 94 #[.string S] w fun e w' => e = .returned (.tuple #[.agg #[.int .u64 e0, .int .u64 e1, .int .u64 e2, .int .u64 e3], .int .i64 (m : Int), .int .i64 0]) ∧ Below w.heap.size w w') :
    Calls Try.prog 85 #[.pointer (some ⟨p, 0, none⟩)] w fun e w' => e = .returned (.agg #[.int .u64 e0, .int .u64 e1, .int .u64 e2, .int .u64 e3]) ∧ Own B p 53 [.string R, .int .i64 (d : Int)] xs w' ∧ Below B w w' := by
  have H := Lib.hid h
  obtain ⟨c1, f1⟩ := h.cell (i := 0) rfl
  clear h
  go_enter Try.func85, Try.ntmps85
  have ca := cell_alloc c1 (.cells #[.int .u64 0, .int .u64 0, .int .u64 0, .int .u64 0] 43)
  have hI : IntKind.i64.wrap (m : Int) = (m : Int) := IntWalk.i64_in _ (by omega)
  go_wp2_with (first
    | (go_at_call 94; refine (k1 _).mono ?_; rintro en w1 ⟨rfl, hb1⟩; clear k1
       have HB := Lib.hid (((Below.refl _ w).alloc (Nat.le_refl _) (.cells #[.int .u64 0, .int .u64 0, .int .u64 0, .int .u64 0] 43)).trans (hb1.mono (by simp)))
       have HG := Lib.hid (four_stays rfl hb1)
       clear hb1
       have H1 := Lib.hid (H.out.below HB.out)
       have H2 := Lib.hid (H1.out.below ((Below.refl _ w1).alloc (Nat.le_refl _) (.cells #[.int .u64 e0, .int .u64 e1, .int .u64 e2, .int .u64 e3] 43)))
       obtain ⟨cb, gb⟩ := H2.out.cell (i := 0) rfl
       have H3 := Lib.hid (H2.out.put 0 (.string R))
       have hpw : p < w.heap.size := by obtain ⟨_, _, _, _, _, h4, _⟩ := H.out; exact block_lt h4
       have hgw := block_lt HG.out
       have HN := Lib.hid (And.intro hpw hgw)
       have ha1 : ((w1.alloc (.cells #[.int .u64 e0, .int .u64 e1, .int .u64 e2, .int .u64 e3] 43)).setCell ⟨p, 1, none⟩ (.string R)).heap[w1.heap.size]? = some (.cells #[.int .u64 e0, .int .u64 e1, .int .u64 e2, .int .u64 e3] 43 (0, 0)) := (Below.heap_setCell _ _ _ _ (by show w1.heap.size ≠ p; omega)).trans (heap_alloc_new w1 _)
       have ha2 : ((w1.alloc (.cells #[.int .u64 e0, .int .u64 e1, .int .u64 e2, .int .u64 e3] 43)).setCell ⟨p, 1, none⟩ (.string R)).heap[w.heap.size]? = some (.cells #[.int .u64 0, .int .u64 0, .int .u64 0, .int .u64 0] 43 (0, 0)) := (Below.heap_setCell _ _ _ _ (by show w.heap.size ≠ p; omega)).trans ((Below.heap_alloc _ _ _ hgw).trans HG.out)
       have HA2 := Lib.hid ha2
       obtain ⟨⟨x0, x1, x2, x3⟩, _⟩ := res_four ha1
       obtain ⟨⟨y0, y1, y2, y3⟩, z0, z1, z2, z3⟩ := res_four ha2
       clear ha1 ha2 hpw hgw c1 f1 ca))
  have hh := set_four (.int .u64 e0) (.int .u64 e1) (.int .u64 e2) (.int .u64 e3) HA2.out
  have hpw := HN.out
  have hBw : Below B w w1 := HB.out.mono H.out.2.1
  have hB := below_four (g := w.heap.size) ((hBw.alloc (Nat.le_trans H.out.2.1 HB.out.size) (.cells #[.int .u64 e0, .int .u64 e1, .int .u64 e2, .int .u64 e3] 43)).setCell (p := ⟨p, 1, none⟩) H.out.1 (.string R)) H.out.2.1 (.int .u64 e0) (.int .u64 e1) (.int .u64 e2) (.int .u64 e3)
  refine bodyPost_ret (v := .agg _) (results_cell_row (p := 2) (ty := 43) Try.results85 _ _ w.heap.size 43 _ (0, 0) _ rfl hh Try.underlying43 rfl Try.infoCls) rfl ⟨rfl, ?_, hB⟩
  exact Own.four H3.out (by omega) HA2.out (by decide) _ _ _ _

set_option maxHeartbeats 2000000 in
set_option maxRecDepth 20000 in
theorem listed_sign (B p : Nat) (xs : List Nd) (S R : ByteArray) (m : Nat) (x e0 e1 e2 e3 : Int) (d : Nat) (w : World) (h : Own B p 53 [.string S, .int .i64 (d : Int)] xs w) (hm : m ≤ S.size) (hz : S.size ≤ 70000000000000) (hR : S.extract m S.size = R)
    (k1 : ∀ w, Calls Try.prog 94 #[.string S] w fun e w' => e = .returned (.tuple #[.agg #[.int .u64 0, .int .u64 0, .int .u64 0, .int .u64 0], .int .i64 0, .int .i64 2]) ∧ Below w.heap.size w w')
    (k2 : ∀ w, Calls Try.prog 95 #[.string S] w fun e w' => e = .returned (.tuple #[.int .u8 x, .int .i64 (m : Int), .int .i64 0]) ∧ Below w.heap.size w w')
    (k3 : ∀ w, Calls Try.prog 33 #[.int .u8 x] w fun e w' => e = .returned (.agg #[.int .u64 e0, .int .u64 e1, .int .u64 e2, .int .u64 e3]) ∧ Below w.heap.size w w') :
    Calls Try.prog 85 #[.pointer (some ⟨p, 0, none⟩)] w fun e w' => e = .returned (.agg #[.int .u64 e0, .int .u64 e1, .int .u64 e2, .int .u64 e3]) ∧ Own B p 53 [.string R, .int .i64 (d : Int)] xs w' ∧ Below B w w' := by
  have H := Lib.hid h
  obtain ⟨c1, f1⟩ := h.cell (i := 0) rfl
  clear h
  have ca := cell_alloc c1 (.cells #[.int .u64 0, .int .u64 0, .int .u64 0, .int .u64 0] 43)
  have hI : IntKind.i64.wrap (m : Int) = (m : Int) := IntWalk.i64_in _ (by omega)
  go_enter Try.func85, Try.ntmps85
  go_wp2_with (first
    | (go_at_call 94; refine (k1 _).mono ?_; rintro en w1 ⟨rfl, hb1⟩; clear k1
       have HB := Lib.hid (((Below.refl _ w).alloc (Nat.le_refl _) (.cells #[.int .u64 0, .int .u64 0, .int .u64 0, .int .u64 0] 43)).trans (hb1.mono (by simp)))
       have HG := Lib.hid (four_stays rfl hb1)
       clear hb1
       have H1 := Lib.hid (H.out.below HB.out)
       have H2 := Lib.hid (H1.out.below ((Below.refl _ w1).alloc (Nat.le_refl _) (.cells #[.int .u64 0, .int .u64 0, .int .u64 0, .int .u64 0] 43)))
       obtain ⟨cb, gb⟩ := H2.out.cell (i := 0) rfl
       clear c1 f1 ca)
    | (go_at_call 95; refine (k2 _).mono ?_; rintro en w2 ⟨rfl, hb2⟩; clear k2 cb gb
       have HG2 := Lib.hid (four_stays rfl hb2)
       have HC2 := Lib.hid (((Below.refl _ w1).alloc (Nat.le_refl _) (.cells #[.int .u64 0, .int .u64 0, .int .u64 0, .int .u64 0] 43)).trans (hb2.mono (by simp)))
       clear hb2)
    | (go_at_call 33; refine (k3 _).mono ?_; rintro en w3 ⟨rfl, hb3⟩; clear k3
       have hg3 := (hb3.block _ (block_lt HG2.out)).trans HG2.out
       have HC3 := Lib.hid (HC2.out.trans (hb3.mono HC2.out.size))
       clear hb3
       have HG3 := Lib.hid hg3
       obtain ⟨⟨v0, v1, v2, v3⟩, u0, u1, u2, u3⟩ := res_four hg3
       have hgw := block_lt HG.out
       have hgw1 := block_lt HG2.out
       have hpw : p < w.heap.size := by obtain ⟨_, _, _, _, _, h4, _⟩ := H.out; exact block_lt h4
       have hw1 := HB.out.size
       have H3 := Lib.hid ((H1.out.below HC3.out).four (g := w1.heap.size) (by omega) hg3 (by decide) (.int .u64 e0) (.int .u64 e1) (.int .u64 e2) (.int .u64 e3))
       obtain ⟨cc, gc⟩ := H3.out.cell (i := 0) rfl
       have H4 := Lib.hid (H3.out.put 0 (.string R))
       have hh3 := set_four (.int .u64 e0) (.int .u64 e1) (.int .u64 e2) (.int .u64 e3) hg3
       have ha1 : ((((((w3.setCell ⟨w1.heap.size, 0, none⟩ (.int .u64 e0)).setCell ⟨w1.heap.size, 1, none⟩ (.int .u64 e1)).setCell ⟨w1.heap.size, 2, none⟩ (.int .u64 e2)).setCell ⟨w1.heap.size, 3, none⟩ (.int .u64 e3))).setCell ⟨p, 1, none⟩ (.string R)).heap[w1.heap.size]? = some (.cells #[.int .u64 e0, .int .u64 e1, .int .u64 e2, .int .u64 e3] 43 (0, 0)) := (Below.heap_setCell _ _ _ _ (by show w1.heap.size ≠ p; omega)).trans hh3
       have ha2 : ((((((w3.setCell ⟨w1.heap.size, 0, none⟩ (.int .u64 e0)).setCell ⟨w1.heap.size, 1, none⟩ (.int .u64 e1)).setCell ⟨w1.heap.size, 2, none⟩ (.int .u64 e2)).setCell ⟨w1.heap.size, 3, none⟩ (.int .u64 e3))).setCell ⟨p, 1, none⟩ (.string R)).heap[w.heap.size]? = some (.cells #[.int .u64 0, .int .u64 0, .int .u64 0, .int .u64 0] 43 (0, 0)) := (Below.heap_setCell _ _ _ _ (by show w.heap.size ≠ p; omega)).trans ((four_else _ _ _ _ (by omega)).trans ((HC3.out.block _ hgw).trans HG.out))
       have HA2 := Lib.hid ha2
       have HN := Lib.hid (And.intro hpw (And.intro hgw hw1))
       obtain ⟨⟨x0, x1, x2, x3⟩, _⟩ := res_four ha1
       obtain ⟨⟨y0, y1, y2, y3⟩, z0, z1, z2, z3⟩ := res_four ha2
       clear ha1 ha2 hpw hgw hw1 hgw1 hg3 hh3))
  have hh := set_four (.int .u64 e0) (.int .u64 e1) (.int .u64 e2) (.int .u64 e3) HA2.out
  have hpw := HN.out
  have hBw : Below B w w3 := (HB.out.mono H.out.2.1).trans (HC3.out.mono (Nat.le_trans H.out.2.1 HB.out.size))
  have hB := below_four (g := w.heap.size) ((below_four (g := w1.heap.size) hBw (Nat.le_trans H.out.2.1 HB.out.size) (.int .u64 e0) (.int .u64 e1) (.int .u64 e2) (.int .u64 e3)).setCell (p := ⟨p, 1, none⟩) H.out.1 (.string R)) H.out.2.1 (.int .u64 e0) (.int .u64 e1) (.int .u64 e2) (.int .u64 e3)
  refine bodyPost_ret (v := .agg _) (results_cell_row (p := 2) (ty := 43) Try.results85 _ _ w.heap.size 43 _ (0, 0) _ rfl hh Try.underlying43 rfl Try.infoCls) rfl ⟨rfl, ?_, hB⟩
  exact Own.four H4.out (by omega) HA2.out (by decide) _ _ _ _

set_option maxHeartbeats 2000000 in
set_option maxRecDepth 20000 in
theorem listed_none' (B p : Nat) (xs : List Nd) (S : ByteArray) (d : Nat) (w : World) (h : Own B p 53 [.string S, .int .i64 (d : Int)] xs w)
    (k1 : ∀ w, Calls Try.prog 94 #[.string S] w fun e w' => e = .returned (.tuple #[.agg #[.int .u64 0, .int .u64 0, .int .u64 0, .int .u64 0], .int .i64 0, .int .i64 2]) ∧ Below w.heap.size w w')
    (k2 : ∀ w, Calls Try.prog 95 #[.string S] w fun e w' => e = .returned (.tuple #[.int .u8 0, .int .i64 0, .int .i64 2]) ∧ Below w.heap.size w w')
    (e0 e1 e2 e3 : Int) (k3 : ∀ w, Calls Try.prog 33 #[.int .u8 0] w fun e w' => e = .returned (.agg #[.int .u64 e0, .int .u64 e1, .int .u64 e2, .int .u64 e3]) ∧ Below w.heap.size w w') :
    Calls Try.prog 85 #[.pointer (some ⟨p, 0, none⟩)] w fun e w' => e = errV 9 ∧ Below B w w' := by
  have H := Lib.hid h
  obtain ⟨c1, f1⟩ := h.cell (i := 0) rfl
  clear h
  have ca := cell_alloc c1 (.cells #[.int .u64 0, .int .u64 0, .int .u64 0, .int .u64 0] 43)
  unfold errV
  go_enter Try.func85, Try.ntmps85
  go_wp2_with (first
    | (go_at_call 94; refine (k1 _).mono ?_; rintro en w1 ⟨rfl, hb1⟩; clear k1
       have HB := Lib.hid (((Below.refl _ w).alloc (Nat.le_refl _) (.cells #[.int .u64 0, .int .u64 0, .int .u64 0, .int .u64 0] 43)).trans (hb1.mono (by simp)))
       clear hb1
       have H1 := Lib.hid (H.out.below HB.out)
       have H2 := Lib.hid (H1.out.below ((Below.refl _ w1).alloc (Nat.le_refl _) (.cells #[.int .u64 0, .int .u64 0, .int .u64 0, .int .u64 0] 43)))
       obtain ⟨cb, gb⟩ := H2.out.cell (i := 0) rfl
       clear c1 f1 ca)
    | (go_at_call 95; refine (k2 _).mono ?_; rintro en w2 ⟨rfl, hb2⟩; clear k2 cb gb
       have HG2 := Lib.hid (four_stays rfl hb2)
       have HC2 := Lib.hid (((Below.refl _ w1).alloc (Nat.le_refl _) (.cells #[.int .u64 0, .int .u64 0, .int .u64 0, .int .u64 0] 43)).trans (hb2.mono (by simp)))
       clear hb2)
    | (go_at_call 33; refine (k3 _).mono ?_; rintro en w3 ⟨rfl, hb3⟩; clear k3
       have hg3 := (hb3.block _ (block_lt HG2.out)).trans HG2.out
       have HC3 := Lib.hid (HC2.out.trans (hb3.mono HC2.out.size))
       clear hb3
       obtain ⟨⟨v0, v1, v2, v3⟩, u0, u1, u2, u3⟩ := res_four hg3
       clear hg3))
  have hBw : Below B w w3 := (HB.out.mono H.out.2.1).trans (HC3.out.mono (Nat.le_trans H.out.2.1 HB.out.size))
  exact ⟨rfl, rfl, below_four (g := w1.heap.size) hBw (Nat.le_trans H.out.2.1 HB.out.size) _ _ _ _⟩

/-- What listed comes to. -/
theorem listed_some (B p : Nat) (xs : List Nd) (l : List UInt8) (d : Nat) (k : K4) (m : Nat) (w : World) (h : Rdr B p xs l d w) (hl : l.length ≤ 70000000000000) (hD : listD l = some (k, m)) :
    Calls Try.prog 85 #[.pointer (some ⟨p, 0, none⟩)] w fun e w' => e = .returned (clsV k.cl) ∧ Rdr B p xs (l.drop m) d w' ∧ Below B w w' := by
  have hm := listD_le hD
  have hsz : (⟨l.toArray⟩ : ByteArray).size = l.length := by simp [ByteArray.size]
  have k1 : ∀ w, Calls Try.prog 94 #[.string ⟨l.toArray⟩] w fun e w' => e = readE (readD l) ∧ Below w.heap.size w w' := fun w => read_any ⟨l.toArray⟩ w (by rw [hsz]; exact hl)
  have hE : (⟨l.toArray⟩ : ByteArray).extract m (⟨l.toArray⟩ : ByteArray).size = ⟨(l.drop m).toArray⟩ := extract_from l m _ (by rw [hsz]; exact Nat.le_refl _)
  unfold listD at hD
  cases hr : readD l with
  | some r =>
    obtain ⟨K, n⟩ := r
    rw [hr] at hD k1
    cases hD
    exact listed_class B p xs _ _ m _ _ _ _ d w h (by rw [hsz]; exact hm.2) (by rw [hsz]; exact hl) hE k1
  | none =>
    rw [hr] at hD k1
    have k2 : ∀ w, Calls Try.prog 95 #[.string ⟨l.toArray⟩] w fun e w' => e = signE (signD l) ∧ Below w.heap.size w w' := fun w => sign_any ⟨l.toArray⟩ w
    dsimp only at hD
    cases hs : signD l with
    | none => rw [hs] at hD; cases hD
    | some r =>
      obtain ⟨c, n⟩ := r
      have hu := signD_used hs
      rw [hs] at hD k2
      cases hD
      have k3 := fun w => one_any c w hu.2.2.1 hu.2.2.2
      have hn : ((n.toNat : Nat) : Int) = n := by omega
      exact listed_sign B p xs _ _ n.toNat c _ _ _ _ d w h (by rw [hsz]; exact hm.2) (by rw [hsz]; exact hl) hE k1 (fun w => by rw [hn]; exact k2 w) k3
theorem listed_no (B p : Nat) (xs : List Nd) (l : List UInt8) (d : Nat) (w : World) (h : Rdr B p xs l d w) (hl : l.length ≤ 70000000000000) (hD : listD l = none) :
    Calls Try.prog 85 #[.pointer (some ⟨p, 0, none⟩)] w fun e w' => e = errV 9 ∧ Below B w w' := by
  have hsz : (⟨l.toArray⟩ : ByteArray).size = l.length := by simp [ByteArray.size]
  have k1 : ∀ w, Calls Try.prog 94 #[.string ⟨l.toArray⟩] w fun e w' => e = readE (readD l) ∧ Below w.heap.size w w' := fun w => read_any ⟨l.toArray⟩ w (by rw [hsz]; exact hl)
  have k2 : ∀ w, Calls Try.prog 95 #[.string ⟨l.toArray⟩] w fun e w' => e = signE (signD l) ∧ Below w.heap.size w w' := fun w => sign_any ⟨l.toArray⟩ w
  unfold listD at hD
  cases hr : readD l with
  | some r => rw [hr] at hD; cases hD
  | none =>
    rw [hr] at hD k1
    dsimp only at hD
    cases hs : signD l with
    | some r => rw [hs] at hD; cases hD
    | none =>
      rw [hs] at k2
      exact listed_none' B p xs _ d w h k1 k2 _ _ _ _ (fun w => one_any 0 w (by omega) (by omega))
end Go.Proofs.Ytgokkdalfkinnaa
