/- Packed texts: ReRdr, ReListed, ReWithin, ReAtom. What each of them proves stands above its theorems; the conditions stand in these. -/
import Derived.Test.YtkgpnlldlekcbaaGreatDoorX3
import Derived.Test.YtkgpnlldlekcbaaGreatDoorX9
import Derived.Test.YtkgpnlldlekcbaaGreatDoorX11
namespace Go.Proofs.YtkgpnlldlekcbaaGreatDoor
open Go.RowKit Go.Lib

/-- A reader: the tree's row so far, the rest of the text, how many brackets are open. -/
abbrev Rdr (B p : Nat) (xs : List Nd) (l : List UInt8) (d : Nat) (w : World) : Prop := Own B p 195 [.string ⟨l.toArray⟩, .int .i64 (d : Int)] xs w

theorem Own.cell {B p : Nat} {T : TypeId} {more : List Value} {xs : List Nd} {w : World} (h : Own B p T more xs w) {i : Nat} {u : Value} (hu : more[i]? = some u) : w.cell? ⟨p, i + 1, none⟩ = some u ∧ w.frozen? ⟨p, i + 1, none⟩ = false := by
  obtain ⟨_, _, _, _, v, h4, _⟩ := h
  refine ⟨?_, frozen_of_heap h4 _⟩
  rw [cell_of_heap h4]
  simpa using hu
theorem Own.put {B p : Nat} {T : TypeId} {more : List Value} {xs : List Nd} {w : World} (h : Own B p T more xs w) (i : Nat) (u : Value) : Own B p T (more.set i u) xs (w.setCell ⟨p, i + 1, none⟩ u) := by
  obtain ⟨h1, h2, h3, hT, v, h4, h5, h6⟩ := h
  refine ⟨h1, by simpa using h2, h3, hT, v, ?_, owns_same h5 fun g hg => Below.heap_setCell _ _ _ _ (fun e => h6 (by rw [hg]; simp [e])), h6⟩
  have h := heap_setCell_same w p (i + 1) _ _ u h4
  simpa using h
theorem list_full (c : UInt8) (l : List UInt8) : (⟨(c :: l).toArray⟩ : ByteArray).toList.isEmpty = false := full ⟨(c :: l).toArray⟩ rfl
theorem list_empty : (⟨([] : List UInt8).toArray⟩ : ByteArray).toList.isEmpty = true := by rw [toList_data]; rfl
theorem extract_from (l : List UInt8) (i m : Nat) (h : l.length ≤ m) : (⟨l.toArray⟩ : ByteArray).extract i m = ⟨(l.drop i).toArray⟩ := by
  apply ByteArray.ext
  rw [ByteArray.data_extract]
  apply Array.ext'
  simp only [List.extract_toArray, List.extract_eq_drop_take', List.toList_toArray]
  rw [List.take_of_length_le h]

set_option maxHeartbeats 1000000 in
set_option maxRecDepth 20000 in
theorem take_yes (B p : Nat) (xs : List Nd) (c : UInt8) (l : List UInt8) (d : Nat) (w : World) (h : Rdr B p xs (c :: l) d w) (hl : l.length ≤ 4611686018427387904) :
    Calls Tryz.prog 169 #[.pointer (some ⟨p, 0, none⟩), .int .u8 (c.toNat : Int)] w fun e w' => e = .returned (.bool true) ∧ Rdr B p xs l d w' ∧ Below B w w' := by
  obtain ⟨c1, f1⟩ := h.cell (i := 0) rfl
  have h2 := h.put 0 (.string ⟨l.toArray⟩)
  have hB : Below B w (w.setCell ⟨p, 0 + 1, none⟩ (.string ⟨l.toArray⟩)) := (Below.refl _ w).setCell (p := ⟨p, 0 + 1, none⟩) h.1 _
  obtain ⟨S, hS⟩ : ∃ S : ByteArray, S = ⟨(c :: l).toArray⟩ := ⟨_, rfl⟩
  rw [← hS] at c1
  have hE : S.toList.isEmpty = false := by rw [hS]; exact list_full c l
  have hz : S.size = l.length + 1 := by rw [hS]; simp [ByteArray.size]
  have hs : 0 < S.size := by omega
  have hb : S[0] = c := byte0 (r := l) (by rw [hS]) hs
  have HS := Lib.hid hS
  have HB := Lib.hid (And.intro h2 hB)
  clear hS h2 hB h
  go_enter Tryz.func169, Tryz.ntmps169
  go_wp2
  have he : S.extract 1 (l.length + 1) = ⟨l.toArray⟩ := by rw [HS.out]; exact extract_from (c :: l) 1 (l.length + 1) (by simp)
  rw [he]
  exact bodyPost_ret (results_tmp rfl _ _ _) rfl ⟨rfl, HB.out.1, HB.out.2⟩
set_option maxHeartbeats 1000000 in
set_option maxRecDepth 20000 in
theorem take_no (B p : Nat) (xs : List Nd) (c : UInt8) (l : List UInt8) (d : Nat) (w : World) (h : Rdr B p xs l d w) (hc : l.head? ≠ some c) :
    Calls Tryz.prog 169 #[.pointer (some ⟨p, 0, none⟩), .int .u8 (c.toNat : Int)] w fun e w' => e = .returned (.bool false) ∧ w' = w := by
  obtain ⟨c1, f1⟩ := h.cell (i := 0) rfl
  obtain ⟨S, hS⟩ : ∃ S : ByteArray, S = ⟨l.toArray⟩ := ⟨_, rfl⟩
  rw [← hS] at c1
  cases l with
  | nil =>
    have hE : S.toList.isEmpty = true := by rw [hS]; exact list_empty
    clear hS h
    go_enter Tryz.func169, Tryz.ntmps169
    go_wp2
    exact bodyPost_ret (results_tmp rfl _ _ _) rfl ⟨rfl, rfl⟩
  | cons a l =>
    have hE : S.toList.isEmpty = false := by rw [hS]; exact list_full a l
    have hz : S.size = l.length + 1 := by rw [hS]; simp [ByteArray.size]
    have hs : 0 < S.size := by omega
    have hb : S[0] = a := byte0 (r := l) (by rw [hS]) hs
    have hne : ((a.toNat : Int) == (c.toNat : Int)) = false := ne_int (fun e => hc (by rw [e]; rfl))
    clear hS h hc
    go_enter Tryz.func169, Tryz.ntmps169
    go_wp2
    exact bodyPost_ret (results_tmp rfl _ _ _) rfl ⟨rfl, rfl⟩
set_option maxHeartbeats 1000000 in
set_option maxRecDepth 20000 in
theorem begins_any (B p : Nat) (xs : List Nd) (l : List UInt8) (d : Nat) (w : World) (h : Rdr B p xs l d w) :
    Calls Tryz.prog 182 #[.pointer (some ⟨p, 0, none⟩)] w fun e w' => e = .returned (.bool (begins l)) ∧ w' = w := by
  obtain ⟨c1, f1⟩ := h.cell (i := 0) rfl
  obtain ⟨S, hS⟩ : ∃ S : ByteArray, S = ⟨l.toArray⟩ := ⟨_, rfl⟩
  rw [← hS] at c1
  cases l with
  | nil =>
    have hE : S.toList.isEmpty = true := by rw [hS]; exact list_empty
    clear hS h
    go_enter Tryz.func182, Tryz.ntmps182
    go_wp2
    exact bodyPost_ret (results_tmp rfl _ _ _) rfl ⟨rfl, rfl⟩
  | cons a l =>
    have hE : S.toList.isEmpty = false := by rw [hS]; exact list_full a l
    have hz : S.size = l.length + 1 := by rw [hS]; simp [ByteArray.size]
    have hs : 0 < S.size := by omega
    have hb : S[0] = a := byte0 (r := l) (by rw [hS]) hs
    have k : ∀ w, Calls Tryz.prog 102 #[.string ⟨#[42, 43, 63, 41, 124, 123, 125, 47, 93, 45, 10]⟩, .int .u8 (a.toNat : Int)] w fun e w' => e = .returned (.int .i64 (indexByte strangeL a)) ∧ w' = w := fun w => by
      have := Tryz.strings_IndexByte ⟨#[42, 43, 63, 41, 124, 123, 125, 47, 93, 45, 10]⟩ (a.toNat : Int) w
      rwa [u8_back] at this
    have hg := contains_index strangeL a
    obtain ⟨i, hi⟩ : ∃ i, i = indexByte strangeL a := ⟨_, rfl⟩
    rw [← hi] at k hg
    have hbg : begins (a :: l) = !strangeL.contains a := rfl
    rw [hbg, ← hg]
    clear hS h hi hg hbg
    go_enter Tryz.func182, Tryz.ntmps182
    go_wp2_with (go_at_call 102; refine (k _).mono ?_; rintro e w1 ⟨rfl, rfl⟩)
    have hdec : decide (i < 0) = !decide (0 ≤ i) := by rw [Bool.eq_iff_iff]; simp
    rw [← hdec]
    exact bodyPost_ret (results_tmp rfl _ _ _) rfl ⟨rfl, rfl⟩

theorem listedD_le {l : List UInt8} {K K' : Cl} {pos n : Nat} (h : listedD l K pos = some (K', n)) : pos + 1 < n ∧ n ≤ pos + l.length := by
  induction hk : l.length using Nat.strongRecOn generalizing l K pos with
  | ind k ih =>
    cases hi : itemD l with
    | none => rw [listed_none hi] at h; cases h
    | some r =>
      obtain ⟨a, b, m⟩ := r
      have hu := itemD_used hi
      by_cases he : (l.drop m).head? = some 93
      · rw [listed_end hi he] at h
        cases h
        have : (l.drop m).length ≠ 0 := fun e => by rw [List.eq_nil_of_length_eq_zero e] at he; cases he
        rw [List.length_drop] at this
        omega
      · rw [listed_more hi he] at h
        have := ih (l.drop m).length (by rw [List.length_drop]; omega) h rfl
        rw [List.length_drop] at this
        omega
theorem readD_le {l : List UInt8} {K : Cl} {n : Nat} (h : readD l = some (K, n)) : 1 ≤ n ∧ n ≤ l.length := by
  unfold readD at h
  split at h
  · rename_i h1
    have hl : 1 ≤ l.length := by cases l with
      | nil => cases h1
      | cons _ _ => simp
    split at h
    · rename_i h2
      have hl2 : 2 ≤ l.length := by
        by_cases h3 : 2 ≤ l.length
        · exact h3
        · rw [List.getElem?_eq_none (by omega)] at h2; cases h2
      cases hr : listedD (l.drop 2) zeroK 2 with
      | none => rw [hr] at h; cases h
      | some r =>
        obtain ⟨K2, m⟩ := r
        rw [hr] at h
        cases h
        have := listedD_le hr
        rw [List.length_drop] at this
        omega
    · have := listedD_le h
      rw [List.length_drop] at this
      omega
  · cases h
theorem listD_le {l : List UInt8} {k : K4} {n : Nat} (h : listD l = some (k, n)) : 1 ≤ n ∧ n ≤ l.length := by
  unfold listD at h
  split at h
  · rename_i hr; cases h; exact readD_le hr
  · split at h
    · rename_i hs
      cases h
      have := signD_used hs
      omega
    · cases h
end Go.Proofs.YtkgpnlldlekcbaaGreatDoor
namespace Go.Proofs.YtkgpnlldlekcbaaGreatDoor
open Go.RowKit Go.Lib

/-- A variable of a class, made ahead of a call. -/
theorem cell_alloc {w : World} {a : Addr} {u : Value} (h : w.cell? a = some u) (o : Obj) : (w.alloc o).cell? a = some u := (World.cell?_alloc_some w a o (by rw [h]; rfl)).trans h
theorem four_stays {w w1 w2 : World} {p q r s : Value} {t : TypeId} (hw : w1 = w.alloc (.cells #[p, q, r, s] t)) (hb : Below w1.heap.size w1 w2) : w2.heap[w.heap.size]? = some (.cells #[p, q, r, s] t (0, 0)) := by
  subst hw
  exact (hb.block _ (by simp)).trans (heap_alloc_new w _)

theorem four_else {w : World} {g k : Nat} (p q r s : Value) (h : k ≠ g) : ((((w.setCell ⟨g, 0, none⟩ p).setCell ⟨g, 1, none⟩ q).setCell ⟨g, 2, none⟩ r).setCell ⟨g, 3, none⟩ s).heap[k]? = w.heap[k]? := by
  rw [Below.heap_setCell _ _ _ _ (by exact h), Below.heap_setCell _ _ _ _ (by exact h), Below.heap_setCell _ _ _ _ (by exact h), Below.heap_setCell _ _ _ _ (by exact h)]
/-- A variable of a class that is none of a row's blocks is written. -/
theorem Own.four {B p : Nat} {T : TypeId} {more : List Value} {xs : List Nd} {w : World} {g : Nat} {cs : Array Value} {t : TypeId} {fz : Nat × Nat} (h : Own B p T more xs w) (hp : p ≠ g) (hg : w.heap[g]? = some (.cells cs t fz)) (ht : t ≠ 163) (a b c d : Value) :
    Own B p T more xs ((((w.setCell ⟨g, 0, none⟩ a).setCell ⟨g, 1, none⟩ b).setCell ⟨g, 2, none⟩ c).setCell ⟨g, 3, none⟩ d) := by
  obtain ⟨h1, h2, h3, hT, v, h4, h5, h6⟩ := h
  have keep : ∀ j, j ≠ g → ((((w.setCell ⟨g, 0, none⟩ a).setCell ⟨g, 1, none⟩ b).setCell ⟨g, 2, none⟩ c).setCell ⟨g, 3, none⟩ d).heap[j]? = w.heap[j]? := fun j hj =>
    (Below.heap_setCell _ _ _ _ hj).trans ((Below.heap_setCell _ _ _ _ hj).trans ((Below.heap_setCell _ _ _ _ hj).trans (Below.heap_setCell _ _ _ _ hj)))
  refine ⟨h1, by rw [size_four]; exact h2, h3, hT, v, (keep p hp).trans h4, owns_same h5 fun j hj => keep j (fun e => ?_), h6⟩
  subst e
  rcases h5.2 with ⟨rfl, _⟩ | ⟨g', _, _, rfl, _, hh, _⟩
  · cases hj
  · cases hj
    rw [hg] at hh
    injection hh with hh
    injection hh with _ hh _
    exact ht hh
set_option maxHeartbeats 2000000 in
set_option maxRecDepth 20000 in
theorem listed_class (B p : Nat) (xs : List Nd) (S R : ByteArray) (m : Nat) (e0 e1 e2 e3 : Int) (d : Nat) (w : World) (h : Own B p 195 [.string S, .int .i64 (d : Int)] xs w) (hm : m ≤ S.size) (hz : S.size ≤ 70000000000000) (hR : S.extract m S.size = R)
    (k1 : ∀ w, Calls Tryz.prog 217 #[.string S] w fun e w' => e = .returned (.tuple #[.agg #[.int .u64 e0, .int .u64 e1, .int .u64 e2, .int .u64 e3], .int .i64 (m : Int), .int .i64 0]) ∧ Below w.heap.size w w') :
    Calls Tryz.prog 213 #[.pointer (some ⟨p, 0, none⟩)] w fun e w' => e = .returned (.agg #[.int .u64 e0, .int .u64 e1, .int .u64 e2, .int .u64 e3]) ∧ Own B p 195 [.string R, .int .i64 (d : Int)] xs w' ∧ Below B w w' := by
  have H := Lib.hid h
  obtain ⟨c1, f1⟩ := h.cell (i := 0) rfl
  clear h
  go_enter Tryz.func213, Tryz.ntmps213
  have ca := cell_alloc c1 (.cells #[.int .u64 0, .int .u64 0, .int .u64 0, .int .u64 0] 154)
  have hI : IntKind.i64.wrap (m : Int) = (m : Int) := IntWalk.i64_in _ (by omega)
  go_wp2_with (first
    | (go_at_call 217; refine (k1 _).mono ?_; rintro en w1 ⟨rfl, hb1⟩; clear k1
       have HB := Lib.hid (((Below.refl _ w).alloc (Nat.le_refl _) (.cells #[.int .u64 0, .int .u64 0, .int .u64 0, .int .u64 0] 154)).trans (hb1.mono (by simp)))
       have HG := Lib.hid (four_stays rfl hb1)
       clear hb1
       have H1 := Lib.hid (H.out.below HB.out)
       have H2 := Lib.hid (H1.out.below ((Below.refl _ w1).alloc (Nat.le_refl _) (.cells #[.int .u64 e0, .int .u64 e1, .int .u64 e2, .int .u64 e3] 154)))
       obtain ⟨cb, gb⟩ := H2.out.cell (i := 0) rfl
       have H3 := Lib.hid (H2.out.put 0 (.string R))
       have hpw : p < w.heap.size := by obtain ⟨_, _, _, _, _, h4, _⟩ := H.out; exact block_lt h4
       have hgw := block_lt HG.out
       have HN := Lib.hid (And.intro hpw hgw)
       have ha1 : ((w1.alloc (.cells #[.int .u64 e0, .int .u64 e1, .int .u64 e2, .int .u64 e3] 154)).setCell ⟨p, 1, none⟩ (.string R)).heap[w1.heap.size]? = some (.cells #[.int .u64 e0, .int .u64 e1, .int .u64 e2, .int .u64 e3] 154 (0, 0)) := (Below.heap_setCell _ _ _ _ (by show w1.heap.size ≠ p; omega)).trans (heap_alloc_new w1 _)
       have ha2 : ((w1.alloc (.cells #[.int .u64 e0, .int .u64 e1, .int .u64 e2, .int .u64 e3] 154)).setCell ⟨p, 1, none⟩ (.string R)).heap[w.heap.size]? = some (.cells #[.int .u64 0, .int .u64 0, .int .u64 0, .int .u64 0] 154 (0, 0)) := (Below.heap_setCell _ _ _ _ (by show w.heap.size ≠ p; omega)).trans ((Below.heap_alloc _ _ _ hgw).trans HG.out)
       have HA2 := Lib.hid ha2
       obtain ⟨⟨x0, x1, x2, x3⟩, _⟩ := res_four ha1
       obtain ⟨⟨y0, y1, y2, y3⟩, z0, z1, z2, z3⟩ := res_four ha2
       clear ha1 ha2 hpw hgw c1 f1 ca))
  have hh := set_four (.int .u64 e0) (.int .u64 e1) (.int .u64 e2) (.int .u64 e3) HA2.out
  have hpw := HN.out
  have hBw : Below B w w1 := HB.out.mono H.out.2.1
  have hB := below_four (g := w.heap.size) ((hBw.alloc (Nat.le_trans H.out.2.1 HB.out.size) (.cells #[.int .u64 e0, .int .u64 e1, .int .u64 e2, .int .u64 e3] 154)).setCell (p := ⟨p, 1, none⟩) H.out.1 (.string R)) H.out.2.1 (.int .u64 e0) (.int .u64 e1) (.int .u64 e2) (.int .u64 e3)
  refine bodyPost_ret (v := .agg _) (results_cell_row (p := 2) (ty := 154) Tryz.results213 _ _ w.heap.size 154 _ (0, 0) _ rfl hh Tryz.underlying154 rfl Tryz.infoCls) rfl ⟨rfl, ?_, hB⟩
  exact Own.four H3.out (by omega) HA2.out (by decide) _ _ _ _

set_option maxHeartbeats 2000000 in
set_option maxRecDepth 20000 in
theorem listed_sign (B p : Nat) (xs : List Nd) (S R : ByteArray) (m : Nat) (x e0 e1 e2 e3 : Int) (d : Nat) (w : World) (h : Own B p 195 [.string S, .int .i64 (d : Int)] xs w) (hm : m ≤ S.size) (hz : S.size ≤ 70000000000000) (hR : S.extract m S.size = R)
    (k1 : ∀ w, Calls Tryz.prog 217 #[.string S] w fun e w' => e = .returned (.tuple #[.agg #[.int .u64 0, .int .u64 0, .int .u64 0, .int .u64 0], .int .i64 0, .int .i64 2]) ∧ Below w.heap.size w w')
    (k2 : ∀ w, Calls Tryz.prog 173 #[.string S] w fun e w' => e = .returned (.tuple #[.int .u8 x, .int .i64 (m : Int), .int .i64 0]) ∧ Below w.heap.size w w')
    (k3 : ∀ w, Calls Tryz.prog 216 #[.int .u8 x] w fun e w' => e = .returned (.agg #[.int .u64 e0, .int .u64 e1, .int .u64 e2, .int .u64 e3]) ∧ Below w.heap.size w w') :
    Calls Tryz.prog 213 #[.pointer (some ⟨p, 0, none⟩)] w fun e w' => e = .returned (.agg #[.int .u64 e0, .int .u64 e1, .int .u64 e2, .int .u64 e3]) ∧ Own B p 195 [.string R, .int .i64 (d : Int)] xs w' ∧ Below B w w' := by
  have H := Lib.hid h
  obtain ⟨c1, f1⟩ := h.cell (i := 0) rfl
  clear h
  have ca := cell_alloc c1 (.cells #[.int .u64 0, .int .u64 0, .int .u64 0, .int .u64 0] 154)
  have hI : IntKind.i64.wrap (m : Int) = (m : Int) := IntWalk.i64_in _ (by omega)
  go_enter Tryz.func213, Tryz.ntmps213
  go_wp2_with (first
    | (go_at_call 217; refine (k1 _).mono ?_; rintro en w1 ⟨rfl, hb1⟩; clear k1
       have HB := Lib.hid (((Below.refl _ w).alloc (Nat.le_refl _) (.cells #[.int .u64 0, .int .u64 0, .int .u64 0, .int .u64 0] 154)).trans (hb1.mono (by simp)))
       have HG := Lib.hid (four_stays rfl hb1)
       clear hb1
       have H1 := Lib.hid (H.out.below HB.out)
       have H2 := Lib.hid (H1.out.below ((Below.refl _ w1).alloc (Nat.le_refl _) (.cells #[.int .u64 0, .int .u64 0, .int .u64 0, .int .u64 0] 154)))
       obtain ⟨cb, gb⟩ := H2.out.cell (i := 0) rfl
       clear c1 f1 ca)
    | (go_at_call 173; refine (k2 _).mono ?_; rintro en w2 ⟨rfl, hb2⟩; clear k2 cb gb
       have HG2 := Lib.hid (four_stays rfl hb2)
       have HC2 := Lib.hid (((Below.refl _ w1).alloc (Nat.le_refl _) (.cells #[.int .u64 0, .int .u64 0, .int .u64 0, .int .u64 0] 154)).trans (hb2.mono (by simp)))
       clear hb2)
    | (go_at_call 216; refine (k3 _).mono ?_; rintro en w3 ⟨rfl, hb3⟩; clear k3
       have hg3 := (hb3.block _ (block_lt HG2.out)).trans HG2.out
       have HC3 := Lib.hid (HC2.out.trans (hb3.mono HC2.out.size))
       clear hb3
       have HG3 := Lib.hid hg3
       obtain ⟨⟨v0, v1, v2, v3⟩, u0, u1, u2, u3⟩ := res_four hg3
       have hgw := block_lt HG.out
       have hgw1 := block_lt HG2.out
       have hpw : p < w.heap.size := by obtain ⟨_, _, _, _, _, h4, _⟩ := H.out; exact block_lt h4
       have hw1 := HB.out.size
       have H3 := Lib.hid ((H1.out.below HC3.out).four (g := w1.heap.size) (by omega) hg3 (by decide) (.int .u64 e0) (.int .u64 e1) (.int .u64 e2) (.int .u64 e3))
       obtain ⟨cc, gc⟩ := H3.out.cell (i := 0) rfl
       have H4 := Lib.hid (H3.out.put 0 (.string R))
       have hh3 := set_four (.int .u64 e0) (.int .u64 e1) (.int .u64 e2) (.int .u64 e3) hg3
       have ha1 : ((((((w3.setCell ⟨w1.heap.size, 0, none⟩ (.int .u64 e0)).setCell ⟨w1.heap.size, 1, none⟩ (.int .u64 e1)).setCell ⟨w1.heap.size, 2, none⟩ (.int .u64 e2)).setCell ⟨w1.heap.size, 3, none⟩ (.int .u64 e3))).setCell ⟨p, 1, none⟩ (.string R)).heap[w1.heap.size]? = some (.cells #[.int .u64 e0, .int .u64 e1, .int .u64 e2, .int .u64 e3] 154 (0, 0)) := (Below.heap_setCell _ _ _ _ (by show w1.heap.size ≠ p; omega)).trans hh3
       have ha2 : ((((((w3.setCell ⟨w1.heap.size, 0, none⟩ (.int .u64 e0)).setCell ⟨w1.heap.size, 1, none⟩ (.int .u64 e1)).setCell ⟨w1.heap.size, 2, none⟩ (.int .u64 e2)).setCell ⟨w1.heap.size, 3, none⟩ (.int .u64 e3))).setCell ⟨p, 1, none⟩ (.string R)).heap[w.heap.size]? = some (.cells #[.int .u64 0, .int .u64 0, .int .u64 0, .int .u64 0] 154 (0, 0)) := (Below.heap_setCell _ _ _ _ (by show w.heap.size ≠ p; omega)).trans ((four_else _ _ _ _ (by omega)).trans ((HC3.out.block _ hgw).trans HG.out))
       have HA2 := Lib.hid ha2
       have HN := Lib.hid (And.intro hpw (And.intro hgw hw1))
       obtain ⟨⟨x0, x1, x2, x3⟩, _⟩ := res_four ha1
       obtain ⟨⟨y0, y1, y2, y3⟩, z0, z1, z2, z3⟩ := res_four ha2
       clear ha1 ha2 hpw hgw hw1 hgw1 hg3 hh3))
  have hh := set_four (.int .u64 e0) (.int .u64 e1) (.int .u64 e2) (.int .u64 e3) HA2.out
  have hpw := HN.out
  have hBw : Below B w w3 := (HB.out.mono H.out.2.1).trans (HC3.out.mono (Nat.le_trans H.out.2.1 HB.out.size))
  have hB := below_four (g := w.heap.size) ((below_four (g := w1.heap.size) hBw (Nat.le_trans H.out.2.1 HB.out.size) (.int .u64 e0) (.int .u64 e1) (.int .u64 e2) (.int .u64 e3)).setCell (p := ⟨p, 1, none⟩) H.out.1 (.string R)) H.out.2.1 (.int .u64 e0) (.int .u64 e1) (.int .u64 e2) (.int .u64 e3)
  refine bodyPost_ret (v := .agg _) (results_cell_row (p := 2) (ty := 154) Tryz.results213 _ _ w.heap.size 154 _ (0, 0) _ rfl hh Tryz.underlying154 rfl Tryz.infoCls) rfl ⟨rfl, ?_, hB⟩
  exact Own.four H4.out (by omega) HA2.out (by decide) _ _ _ _

set_option maxHeartbeats 2000000 in
set_option maxRecDepth 20000 in
theorem listed_none' (B p : Nat) (xs : List Nd) (S : ByteArray) (d : Nat) (w : World) (h : Own B p 195 [.string S, .int .i64 (d : Int)] xs w)
    (k1 : ∀ w, Calls Tryz.prog 217 #[.string S] w fun e w' => e = .returned (.tuple #[.agg #[.int .u64 0, .int .u64 0, .int .u64 0, .int .u64 0], .int .i64 0, .int .i64 2]) ∧ Below w.heap.size w w')
    (k2 : ∀ w, Calls Tryz.prog 173 #[.string S] w fun e w' => e = .returned (.tuple #[.int .u8 0, .int .i64 0, .int .i64 2]) ∧ Below w.heap.size w w')
    (e0 e1 e2 e3 : Int) (k3 : ∀ w, Calls Tryz.prog 216 #[.int .u8 0] w fun e w' => e = .returned (.agg #[.int .u64 e0, .int .u64 e1, .int .u64 e2, .int .u64 e3]) ∧ Below w.heap.size w w') :
    Calls Tryz.prog 213 #[.pointer (some ⟨p, 0, none⟩)] w fun e w' => e = errV 9 ∧ Below B w w' := by
  have H := Lib.hid h
  obtain ⟨c1, f1⟩ := h.cell (i := 0) rfl
  clear h
  have ca := cell_alloc c1 (.cells #[.int .u64 0, .int .u64 0, .int .u64 0, .int .u64 0] 154)
  unfold errV
  go_enter Tryz.func213, Tryz.ntmps213
  go_wp2_with (first
    | (go_at_call 217; refine (k1 _).mono ?_; rintro en w1 ⟨rfl, hb1⟩; clear k1
       have HB := Lib.hid (((Below.refl _ w).alloc (Nat.le_refl _) (.cells #[.int .u64 0, .int .u64 0, .int .u64 0, .int .u64 0] 154)).trans (hb1.mono (by simp)))
       clear hb1
       have H1 := Lib.hid (H.out.below HB.out)
       have H2 := Lib.hid (H1.out.below ((Below.refl _ w1).alloc (Nat.le_refl _) (.cells #[.int .u64 0, .int .u64 0, .int .u64 0, .int .u64 0] 154)))
       obtain ⟨cb, gb⟩ := H2.out.cell (i := 0) rfl
       clear c1 f1 ca)
    | (go_at_call 173; refine (k2 _).mono ?_; rintro en w2 ⟨rfl, hb2⟩; clear k2 cb gb
       have HG2 := Lib.hid (four_stays rfl hb2)
       have HC2 := Lib.hid (((Below.refl _ w1).alloc (Nat.le_refl _) (.cells #[.int .u64 0, .int .u64 0, .int .u64 0, .int .u64 0] 154)).trans (hb2.mono (by simp)))
       clear hb2)
    | (go_at_call 216; refine (k3 _).mono ?_; rintro en w3 ⟨rfl, hb3⟩; clear k3
       have hg3 := (hb3.block _ (block_lt HG2.out)).trans HG2.out
       have HC3 := Lib.hid (HC2.out.trans (hb3.mono HC2.out.size))
       clear hb3
       obtain ⟨⟨v0, v1, v2, v3⟩, u0, u1, u2, u3⟩ := res_four hg3
       clear hg3))
  have hBw : Below B w w3 := (HB.out.mono H.out.2.1).trans (HC3.out.mono (Nat.le_trans H.out.2.1 HB.out.size))
  exact ⟨rfl, rfl, below_four (g := w1.heap.size) hBw (Nat.le_trans H.out.2.1 HB.out.size) _ _ _ _⟩

/-- What listed comes to. -/
theorem listed_some (B p : Nat) (xs : List Nd) (l : List UInt8) (d : Nat) (k : K4) (m : Nat) (w : World) (h : Rdr B p xs l d w) (hl : l.length ≤ 70000000000000) (hD : listD l = some (k, m)) :
    Calls Tryz.prog 213 #[.pointer (some ⟨p, 0, none⟩)] w fun e w' => e = .returned (clsV k.cl) ∧ Rdr B p xs (l.drop m) d w' ∧ Below B w w' := by
  have hm := listD_le hD
  have hsz : (⟨l.toArray⟩ : ByteArray).size = l.length := by simp [ByteArray.size]
  have k1 : ∀ w, Calls Tryz.prog 217 #[.string ⟨l.toArray⟩] w fun e w' => e = readE (readD l) ∧ Below w.heap.size w w' := fun w => read_any ⟨l.toArray⟩ w (by rw [hsz]; exact hl)
  have hE : (⟨l.toArray⟩ : ByteArray).extract m (⟨l.toArray⟩ : ByteArray).size = ⟨(l.drop m).toArray⟩ := extract_from l m _ (by rw [hsz]; exact Nat.le_refl _)
  unfold listD at hD
  cases hr : readD l with
  | some r =>
    obtain ⟨K, n⟩ := r
    rw [hr] at hD k1
    cases hD
    exact listed_class B p xs _ _ m _ _ _ _ d w h (by rw [hsz]; exact hm.2) (by rw [hsz]; exact hl) hE k1
  | none =>
    rw [hr] at hD k1
    have k2 : ∀ w, Calls Tryz.prog 173 #[.string ⟨l.toArray⟩] w fun e w' => e = signE (signD l) ∧ Below w.heap.size w w' := fun w => sign_any ⟨l.toArray⟩ w
    dsimp only at hD
    cases hs : signD l with
    | none => rw [hs] at hD; cases hD
    | some r =>
      obtain ⟨c, n⟩ := r
      have hu := signD_used hs
      rw [hs] at hD k2
      cases hD
      have k3 := fun w => one_any c w hu.2.2.1 hu.2.2.2
      have hn : ((n.toNat : Nat) : Int) = n := by omega
      exact listed_sign B p xs _ _ n.toNat c _ _ _ _ d w h (by rw [hsz]; exact hm.2) (by rw [hsz]; exact hl) hE k1 (fun w => by rw [hn]; exact k2 w) k3
theorem listed_no (B p : Nat) (xs : List Nd) (l : List UInt8) (d : Nat) (w : World) (h : Rdr B p xs l d w) (hl : l.length ≤ 70000000000000) (hD : listD l = none) :
    Calls Tryz.prog 213 #[.pointer (some ⟨p, 0, none⟩)] w fun e w' => e = errV 9 ∧ Below B w w' := by
  have hsz : (⟨l.toArray⟩ : ByteArray).size = l.length := by simp [ByteArray.size]
  have k1 : ∀ w, Calls Tryz.prog 217 #[.string ⟨l.toArray⟩] w fun e w' => e = readE (readD l) ∧ Below w.heap.size w w' := fun w => read_any ⟨l.toArray⟩ w (by rw [hsz]; exact hl)
  have k2 : ∀ w, Calls Tryz.prog 173 #[.string ⟨l.toArray⟩] w fun e w' => e = signE (signD l) ∧ Below w.heap.size w w' := fun w => sign_any ⟨l.toArray⟩ w
  unfold listD at hD
  cases hr : readD l with
  | some r => rw [hr] at hD; cases hD
  | none =>
    rw [hr] at hD k1
    dsimp only at hD
    cases hs : signD l with
    | some r => rw [hs] at hD; cases hD
    | none =>
      rw [hs] at k2
      exact listed_none' B p xs _ d w h k1 k2 _ _ _ _ (fun w => one_any 0 w (by omega) (by omega))
end Go.Proofs.YtkgpnlldlekcbaaGreatDoor
namespace Go.Proofs.YtkgpnlldlekcbaaGreatDoor
open Go.RowKit Go.Lib

/-- What a method of the reader comes to. -/
def ResP (B p : Nat) (xs : List Nd) (d : Nat) : Res → Ending → World → Prop
  | .ok t l, e, w => e = .returned (.tuple #[]) ∧ Rdr B p (xs ++ t.row xs.length) l d w
  | .bad x, e, _ => e = errV x
/-- A method reads as the rules say. -/
def Does (B p : Nat) (f : FuncId) (J : Job) (m : Nat) : Prop := ∀ (xs : List Nd) (l : List UInt8) (d : Nat) (r : Res) (w : World), l.length ≤ m → Rdr B p xs l d w → Ev J d xs.length l r →
  Calls Tryz.prog f #[.pointer (some ⟨p, 0, none⟩)] w fun e w' => ResP B p xs d r e w' ∧ Below B w w'

theorem Own.two {B p : Nat} {T : TypeId} {a b : Value} {xs : List Nd} {w : World} (h : Own B p T [a, b] xs w) (u : Value) : Own B p T [a, u] xs (w.setCell ⟨p, 2, none⟩ u) := h.put 1 u

set_option maxHeartbeats 1000000 in
set_option maxRecDepth 20000 in
theorem within_deep (B p : Nat) (xs : List Nd) (l : List UInt8) (w : World) (h : Rdr B p xs l 30 w) :
    Calls Tryz.prog 210 #[.pointer (some ⟨p, 0, none⟩)] w fun e w' => e = errV 7 ∧ Below B w w' := by
  obtain ⟨c2, f2⟩ := h.cell (i := 1) rfl
  clear h
  unfold errV
  go_enter Tryz.func210, Tryz.ntmps210
  go_wp2
  exact ⟨rfl, rfl, Below.refl _ _⟩

set_option maxHeartbeats 1000000 in
set_option maxRecDepth 20000 in
theorem within_bad (B p : Nat) (xs : List Nd) (l : List UInt8) (d : Nat) (x : Int) (w : World) (h : Rdr B p xs l d w) (hd : d < 30)
    (k1 : ∀ w, Rdr B p xs l (d + 1) w → Calls Tryz.prog 152 #[.pointer (some ⟨p, 0, none⟩)] w fun e w' => e = errV x ∧ Below B w w') :
    Calls Tryz.prog 210 #[.pointer (some ⟨p, 0, none⟩)] w fun e w' => e = errV x ∧ Below B w w' := by
  obtain ⟨c2, f2⟩ := h.cell (i := 1) rfl
  have H := Lib.hid h
  have hI : IntKind.i64.wrap ((d : Int) + 1) = ((d + 1 : Nat) : Int) := by rw [IntWalk.i64_in _ (by omega)]; omega
  have h30 : ((d : Int) == 30) = false := by rw [beq_eq_false_iff_ne]; omega
  clear h
  unfold errV at k1 ⊢
  go_enter Tryz.func210, Tryz.ntmps210
  go_wp2_with (first | (go_at_call 152; refine (k1 _ (H.out.two _)).mono ?_; rintro e w1 ⟨rfl, hb1⟩))
  exact ⟨rfl, rfl, ((Below.refl _ w).setCell (p := ⟨p, 2, none⟩) H.out.1 _).trans hb1⟩

set_option maxHeartbeats 1000000 in
set_option maxRecDepth 20000 in
theorem within_open (B p : Nat) (xs ys : List Nd) (l l' : List UInt8) (d : Nat) (w : World) (h : Rdr B p xs l d w) (hd : d < 30) (hl : l'.head? ≠ some 41)
    (k1 : ∀ w, Rdr B p xs l (d + 1) w → Calls Tryz.prog 152 #[.pointer (some ⟨p, 0, none⟩)] w fun e w' => (e = .returned (.tuple #[]) ∧ Rdr B p ys l' (d + 1) w') ∧ Below B w w') :
    Calls Tryz.prog 210 #[.pointer (some ⟨p, 0, none⟩)] w fun e w' => e = errV 9 ∧ Below B w w' := by
  obtain ⟨c2, f2⟩ := h.cell (i := 1) rfl
  have H := Lib.hid h
  have hI : IntKind.i64.wrap ((d : Int) + 1) = ((d + 1 : Nat) : Int) := by rw [IntWalk.i64_in _ (by omega)]; omega
  have hJ : IntKind.i64.wrap (((d + 1 : Nat) : Int) - 1) = (d : Int) := by rw [IntWalk.i64_in _ (by omega)]; omega
  have h30 : ((d : Int) == 30) = false := by rw [beq_eq_false_iff_ne]; omega
  have k2 := fun w (h : Rdr B p ys l' d w) => take_no B p ys 41 l' d w h hl
  obtain ⟨D, hD⟩ : ∃ D : Nat, D = d + 1 := ⟨_, rfl⟩
  rw [← hD] at hI hJ k1
  clear h hD
  unfold errV
  go_enter Tryz.func210, Tryz.ntmps210
  go_wp2_with (first
    | (go_at_call 152; refine (k1 _ (H.out.two _)).mono ?_; rintro e w1 ⟨⟨rfl, h1⟩, hb1⟩; have H1 := Lib.hid h1; clear h1 c2 f2; obtain ⟨d2, g2⟩ := H1.out.cell (i := 1) rfl)
    | (go_at_call 169; refine (k2 _ (H1.out.two _)).mono ?_; rintro e w2 ⟨rfl, rfl⟩))
  exact ⟨rfl, rfl, (((Below.refl _ w).setCell (p := ⟨p, 2, none⟩) H.out.1 _).trans hb1).setCell (p := ⟨p, 2, none⟩) H.out.1 _⟩

set_option maxHeartbeats 1000000 in
set_option maxRecDepth 20000 in
theorem within_ok (B p : Nat) (xs ys : List Nd) (l l' : List UInt8) (d : Nat) (w : World) (h : Rdr B p xs l d w) (hd : d < 30) (hl : l'.length ≤ 70000000000000)
    (k1 : ∀ w, Rdr B p xs l (d + 1) w → Calls Tryz.prog 152 #[.pointer (some ⟨p, 0, none⟩)] w fun e w' => (e = .returned (.tuple #[]) ∧ Rdr B p ys (41 :: l') (d + 1) w') ∧ Below B w w') :
    Calls Tryz.prog 210 #[.pointer (some ⟨p, 0, none⟩)] w fun e w' => (e = .returned (.tuple #[]) ∧ Rdr B p ys l' d w') ∧ Below B w w' := by
  obtain ⟨c2, f2⟩ := h.cell (i := 1) rfl
  have H := Lib.hid h
  have hI : IntKind.i64.wrap ((d : Int) + 1) = ((d + 1 : Nat) : Int) := by rw [IntWalk.i64_in _ (by omega)]; omega
  have hJ : IntKind.i64.wrap (((d + 1 : Nat) : Int) - 1) = (d : Int) := by rw [IntWalk.i64_in _ (by omega)]; omega
  have h30 : ((d : Int) == 30) = false := by rw [beq_eq_false_iff_ne]; omega
  have k2 := fun w (h : Rdr B p ys (41 :: l') d w) => take_yes B p ys 41 l' d w h (by omega)
  obtain ⟨D, hD⟩ : ∃ D : Nat, D = d + 1 := ⟨_, rfl⟩
  rw [← hD] at hI hJ k1
  clear h hD
  go_enter Tryz.func210, Tryz.ntmps210
  go_wp2_with (first
    | (go_at_call 152; refine (k1 _ (H.out.two _)).mono ?_; rintro e w1 ⟨⟨rfl, h1⟩, hb1⟩; have H1 := Lib.hid h1; clear h1 c2 f2; obtain ⟨d2, g2⟩ := H1.out.cell (i := 1) rfl)
    | (go_at_call 169; refine (k2 _ (H1.out.two _)).mono ?_; rintro e w2 ⟨rfl, h2, hb2⟩))
  go_end0
  exact ⟨⟨rfl, h2⟩, ((((Below.refl _ w).setCell (p := ⟨p, 2, none⟩) H.out.1 _).trans hb1).setCell (p := ⟨p, 2, none⟩) H.out.1 _).trans hb2⟩
end Go.Proofs.YtkgpnlldlekcbaaGreatDoor
namespace Go.Proofs.YtkgpnlldlekcbaaGreatDoor
open Go.RowKit Go.Lib

theorem take_yesN (B p : Nat) (xs : List Nd) (x : Int) (c : UInt8) (hx : (c.toNat : Int) = x) (l : List UInt8) (d : Nat) (w : World) (h : Rdr B p xs (c :: l) d w) (hl : l.length ≤ 4611686018427387904) :
    Calls Tryz.prog 169 #[.pointer (some ⟨p, 0, none⟩), .int .u8 x] w fun e w' => e = .returned (.bool true) ∧ Rdr B p xs l d w' ∧ Below B w w' := by
  rw [← hx]
  exact take_yes B p xs c l d w h hl
theorem take_noN (B p : Nat) (xs : List Nd) (x : Int) (c : UInt8) (hx : (c.toNat : Int) = x) (l : List UInt8) (d : Nat) (w : World) (h : Rdr B p xs l d w) (hc : l.head? ≠ some c) :
    Calls Tryz.prog 169 #[.pointer (some ⟨p, 0, none⟩), .int .u8 x] w fun e w' => e = .returned (.bool false) ∧ w' = w := by
  rw [← hx]
  exact take_no B p xs c l d w h hc

set_option maxHeartbeats 1000000 in
set_option maxRecDepth 20000 in
theorem atom_in (B p : Nat) (xs : List Nd) (l : List UInt8) (d : Nat) (r : Res) (w : World) (h : Rdr B p xs (40 :: l) d w) (hl : l.length ≤ 70000000000000)
    (k1 : ∀ w, Rdr B p xs l d w → Calls Tryz.prog 210 #[.pointer (some ⟨p, 0, none⟩)] w fun e w' => ResP B p xs d r e w' ∧ Below B w w') :
    Calls Tryz.prog 200 #[.pointer (some ⟨p, 0, none⟩)] w fun e w' => ResP B p xs d r e w' ∧ Below B w w' := by
  have k0 := fun w (h : Rdr B p xs (40 :: l) d w) => take_yes B p xs 40 l d w h (by omega)
  have H := Lib.hid h
  clear h
  cases r with
  | ok t l' =>
    unfold ResP at k1 ⊢
    go_enter Tryz.func200, Tryz.ntmps200
    go_wp2_with (first
      | (go_at_call 169; refine (k0 _ H.out).mono ?_; rintro e w1 ⟨rfl, h1, hb1⟩; have H1 := Lib.hid h1; clear h1)
      | (go_at_call 210; refine (k1 _ H1.out).mono ?_; rintro e w2 ⟨⟨rfl, h2⟩, hb2⟩))
    go_end0
    exact ⟨⟨rfl, h2⟩, hb1.trans hb2⟩
  | bad x =>
    unfold ResP errV at k1 ⊢
    go_enter Tryz.func200, Tryz.ntmps200
    go_wp2_with (first
      | (go_at_call 169; refine (k0 _ H.out).mono ?_; rintro e w1 ⟨rfl, h1, hb1⟩; have H1 := Lib.hid h1; clear h1)
      | (go_at_call 210; refine (k1 _ H1.out).mono ?_; rintro e w2 ⟨rfl, hb2⟩))
    exact ⟨rfl, rfl, hb1.trans hb2⟩

set_option maxHeartbeats 1000000 in
set_option maxRecDepth 20000 in
theorem atom_begin (B p : Nat) (xs : List Nd) (l : List UInt8) (d : Nat) (w : World) (h : Rdr B p xs (94 :: l) d w) (hl : l.length ≤ 70000000000000) :
    (xs.length < 2000 → Calls Tryz.prog 200 #[.pointer (some ⟨p, 0, none⟩)] w fun e w' => ResP B p xs d (.ok (.leaf 7) l) e w' ∧ Below B w w') ∧
    (2000 ≤ xs.length → Calls Tryz.prog 200 #[.pointer (some ⟨p, 0, none⟩)] w fun e w' => ResP B p xs d (.bad 6) e w' ∧ Below B w w') := by
  have k40 := fun w (h : Rdr B p xs (94 :: l) d w) => take_noN B p xs 40 40 rfl (94 :: l) d w h (by simp)
  have k46 := fun w (h : Rdr B p xs (94 :: l) d w) => take_noN B p xs 46 46 rfl (94 :: l) d w h (by simp)
  have k94 := fun w (h : Rdr B p xs (94 :: l) d w) => take_yesN B p xs 94 94 rfl l d w h (by omega)
  have H := Lib.hid h
  clear h
  constructor
  · intro hn
    have k3 := fun w (h : Rdr B p xs l d w) => leaf_ok B p _ _ xs 7 w h hn
    unfold ResP
    go_enter Tryz.func200, Tryz.ntmps200
    go_wp2_with (first
      | (go_at_call 169; first
          | (with_reducible refine (k40 _ H.out).mono ?_; rintro e w1 ⟨rfl, rfl⟩)
          | (with_reducible refine (k46 _ H.out).mono ?_; rintro e w1 ⟨rfl, rfl⟩)
          | (with_reducible refine (k94 _ H.out).mono ?_; rintro e w1 ⟨rfl, h1, hb1⟩; have H1 := Lib.hid h1; clear h1))
      | (go_at_call 183; refine (k3 _ H1.out).mono ?_; rintro e w2 ⟨rfl, h2, hb2⟩))
    go_end0
    exact ⟨⟨rfl, h2⟩, hb1.trans hb2⟩
  · intro hn
    have k3 := fun w (h : Rdr B p xs l d w) => leaf_big B p _ _ xs 7 w h hn
    unfold ResP errV
    unfold errV at k3
    go_enter Tryz.func200, Tryz.ntmps200
    go_wp2_with (first
      | (go_at_call 169; first
          | (with_reducible refine (k40 _ H.out).mono ?_; rintro e w1 ⟨rfl, rfl⟩)
          | (with_reducible refine (k46 _ H.out).mono ?_; rintro e w1 ⟨rfl, rfl⟩)
          | (with_reducible refine (k94 _ H.out).mono ?_; rintro e w1 ⟨rfl, h1, hb1⟩; have H1 := Lib.hid h1; clear h1))
      | (go_at_call 183; refine (k3 _ H1.out).mono ?_; rintro e w2 ⟨rfl, hb2⟩))
    exact ⟨rfl, rfl, hb1.trans hb2⟩
set_option maxHeartbeats 1000000 in
set_option maxRecDepth 20000 in
theorem atom_end (B p : Nat) (xs : List Nd) (l : List UInt8) (d : Nat) (w : World) (h : Rdr B p xs (36 :: l) d w) (hl : l.length ≤ 70000000000000) :
    (xs.length < 2000 → Calls Tryz.prog 200 #[.pointer (some ⟨p, 0, none⟩)] w fun e w' => ResP B p xs d (.ok (.leaf 8) l) e w' ∧ Below B w w') ∧
    (2000 ≤ xs.length → Calls Tryz.prog 200 #[.pointer (some ⟨p, 0, none⟩)] w fun e w' => ResP B p xs d (.bad 6) e w' ∧ Below B w w') := by
  have k40 := fun w (h : Rdr B p xs (36 :: l) d w) => take_noN B p xs 40 40 rfl (36 :: l) d w h (by simp)
  have k46 := fun w (h : Rdr B p xs (36 :: l) d w) => take_noN B p xs 46 46 rfl (36 :: l) d w h (by simp)
  have k94 := fun w (h : Rdr B p xs (36 :: l) d w) => take_noN B p xs 94 94 rfl (36 :: l) d w h (by simp)
  have k36 := fun w (h : Rdr B p xs (36 :: l) d w) => take_yesN B p xs 36 36 rfl l d w h (by omega)
  have H := Lib.hid h
  clear h
  constructor
  · intro hn
    have k3 := fun w (h : Rdr B p xs l d w) => leaf_ok B p _ _ xs 8 w h hn
    unfold ResP
    go_enter Tryz.func200, Tryz.ntmps200
    go_wp2_with (first
      | (go_at_call 169; first
          | (with_reducible refine (k40 _ H.out).mono ?_; rintro e w1 ⟨rfl, rfl⟩)
          | (with_reducible refine (k46 _ H.out).mono ?_; rintro e w1 ⟨rfl, rfl⟩)
          | (with_reducible refine (k94 _ H.out).mono ?_; rintro e w1 ⟨rfl, rfl⟩)
          | (with_reducible refine (k36 _ H.out).mono ?_; rintro e w1 ⟨rfl, h1, hb1⟩; have H1 := Lib.hid h1; clear h1))
      | (go_at_call 183; refine (k3 _ H1.out).mono ?_; rintro e w2 ⟨rfl, h2, hb2⟩))
    go_end0
    exact ⟨⟨rfl, h2⟩, hb1.trans hb2⟩
  · intro hn
    have k3 := fun w (h : Rdr B p xs l d w) => leaf_big B p _ _ xs 8 w h hn
    unfold ResP errV
    unfold errV at k3
    go_enter Tryz.func200, Tryz.ntmps200
    go_wp2_with (first
      | (go_at_call 169; first
          | (with_reducible refine (k40 _ H.out).mono ?_; rintro e w1 ⟨rfl, rfl⟩)
          | (with_reducible refine (k46 _ H.out).mono ?_; rintro e w1 ⟨rfl, rfl⟩)
          | (with_reducible refine (k94 _ H.out).mono ?_; rintro e w1 ⟨rfl, rfl⟩)
          | (with_reducible refine (k36 _ H.out).mono ?_; rintro e w1 ⟨rfl, h1, hb1⟩; have H1 := Lib.hid h1; clear h1))
      | (go_at_call 183; refine (k3 _ H1.out).mono ?_; rintro e w2 ⟨rfl, hb2⟩))
    exact ⟨rfl, rfl, hb1.trans hb2⟩
set_option maxHeartbeats 1000000 in
set_option maxRecDepth 20000 in
theorem atom_point (B p : Nat) (xs : List Nd) (l : List UInt8) (d : Nat) (w : World) (h : Rdr B p xs (46 :: l) d w) (hl : l.length ≤ 70000000000000) :
    (xs.length < 2000 → Calls Tryz.prog 200 #[.pointer (some ⟨p, 0, none⟩)] w fun e w' => ResP B p xs d (.ok (.set kPoint) l) e w' ∧ Below B w w') ∧
    (2000 ≤ xs.length → Calls Tryz.prog 200 #[.pointer (some ⟨p, 0, none⟩)] w fun e w' => ResP B p xs d (.bad 6) e w' ∧ Below B w w') := by
  have k40 := fun w (h : Rdr B p xs (46 :: l) d w) => take_noN B p xs 40 40 rfl (46 :: l) d w h (by simp)
  have k46 := fun w (h : Rdr B p xs (46 :: l) d w) => take_yesN B p xs 46 46 rfl l d w h (by omega)
  have kp := point_any
  obtain ⟨K, hK⟩ : ∃ K, K = kPoint := ⟨_, rfl⟩
  rw [← hK] at kp ⊢
  clear hK
  unfold clsV clsA wd at kp
  have H := Lib.hid h
  clear h
  constructor
  · intro hn
    have k3 := fun w (h : Rdr B p xs l d w) => set_ok B p _ _ xs K w h hn
    unfold ResP
    go_enter Tryz.func200, Tryz.ntmps200
    go_wp2_with (first
      | (go_at_call 169; first
          | (with_reducible refine (k40 _ H.out).mono ?_; rintro e w1 ⟨rfl, rfl⟩)
          | (with_reducible refine (k46 _ H.out).mono ?_; rintro e w1 ⟨rfl, h1, hb1⟩; have H1 := Lib.hid h1; clear h1)))
    go_region_held3 (fun _ => True) (trivial)
      (first
        | (go_at_call 212; refine (kp _).mono ?_; rintro e w2 ⟨rfl, hb2⟩; have hd2 := ((Below.refl _ w1).drew).trans hb2; have H2 := Lib.hid (H1.out.below hd2))
        | (go_at_call 211; refine (k3 _ H2.out).mono ?_; rintro e w3 ⟨rfl, h3, hb3⟩))
    all_goals
      go_end0
      exact ⟨⟨rfl, h3⟩, (hb1.trans (hd2.mono H1.out.2.1)).trans hb3⟩
  · intro hn
    have k3 := fun w (h : Rdr B p xs l d w) => set_big B p _ _ xs K w h hn
    unfold ResP errV
    unfold errV at k3
    go_enter Tryz.func200, Tryz.ntmps200
    go_wp2_with (first
      | (go_at_call 169; first
          | (with_reducible refine (k40 _ H.out).mono ?_; rintro e w1 ⟨rfl, rfl⟩)
          | (with_reducible refine (k46 _ H.out).mono ?_; rintro e w1 ⟨rfl, h1, hb1⟩; have H1 := Lib.hid h1; clear h1)))
    refine wp_region_held_drew (S := fun _ => True) (by kernel_rfl) trivial (fun hHeld => ?_)
    refine wpAnyH_take (i := 0) (v := .pointer (some ⟨p, 0, none⟩)) rfl (by kernel_rfl) (by kernel_rfl) (by kernel_rfl) (fun _ _ _ h => h) (Or.inl ⟨by rfl, by intro w hSw; first | (go_simp; done) | (go_simp; with_reducible rfl)⟩) hHeld ?_
    try simp only [Act.put, List.setIfInBounds_toArray]
    refine wpAnyH_take (i := 1) (v := .pointer (some ⟨p, 0, none⟩)) rfl (by kernel_rfl) (by kernel_rfl) (by kernel_rfl) (fun _ _ _ h => h) (Or.inl ⟨by rfl, by intro w hSw; first | (go_simp; done) | (go_simp; with_reducible rfl)⟩) hHeld ?_
    try simp only [Act.put]
    refine wpAnyH_take (i := 2) (v := .pointer (some ⟨p, 0, none⟩)) rfl (by kernel_rfl) (by kernel_rfl) (by kernel_rfl) (fun _ _ _ h => h) (Or.inl ⟨by rfl, by intro w hSw; first | (go_simp; done) | (go_simp; with_reducible rfl)⟩) hHeld ?_
    try simp only [Act.put]
    refine wpAnyH_ready (rs := [3]) (by kernel_rfl) (by simp) ?_
    refine AllReadyH.cons rfl (fun K0 hK0 => ?_) AllReadyH.nil
    go_simp
    refine (kp _).mono ?_
    rintro e w2 ⟨rfl, hb2⟩
    have hd2 := ((Below.refl _ w1).drew).trans hb2
    have H2 := Lib.hid (H1.out.below hd2)
    refine hK0.out _ _ trivial (fun hHeld => ?_)
    clear hK0 K0
    try simp only [Act.put, List.setIfInBounds_toArray, List.set_cons_zero, List.set_cons_succ]
    refine wpAnyH_ready (rs := [4]) (by kernel_rfl) (by simp) ?_
    refine AllReadyH.cons rfl (fun K0 hK0 => ?_) AllReadyH.nil
    go_simp
    refine (k3 _ H2.out).mono ?_
    rintro e w3 ⟨rfl, hb3⟩
    exact ⟨rfl, rfl, (hb1.trans (hd2.mono H1.out.2.1)).trans hb3⟩
set_option maxHeartbeats 1000000 in
set_option maxRecDepth 20000 in
theorem atom_listed (B p : Nat) (xs : List Nd) (l : List UInt8) (d : Nat) (w : World) (h : Rdr B p xs l d w) (hl : l.length ≤ 70000000000000) (hh40 : l.head? ≠ some 40) (hh46 : l.head? ≠ some 46) (hh94 : l.head? ≠ some 94) (hh36 : l.head? ≠ some 36) (K : K4) (m : Nat) (hD : listD l = some (K, m)) :
    (xs.length < 2000 → Calls Tryz.prog 200 #[.pointer (some ⟨p, 0, none⟩)] w fun e w' => ResP B p xs d (.ok (.set K) (l.drop m)) e w' ∧ Below B w w') ∧
    (2000 ≤ xs.length → Calls Tryz.prog 200 #[.pointer (some ⟨p, 0, none⟩)] w fun e w' => ResP B p xs d (.bad 6) e w' ∧ Below B w w') := by
  have k40 := fun w (h : Rdr B p xs l d w) => take_noN B p xs 40 40 rfl l d w h hh40
  have k46 := fun w (h : Rdr B p xs l d w) => take_noN B p xs 46 46 rfl l d w h hh46
  have k94 := fun w (h : Rdr B p xs l d w) => take_noN B p xs 94 94 rfl l d w h hh94
  have k36 := fun w (h : Rdr B p xs l d w) => take_noN B p xs 36 36 rfl l d w h hh36
  have kl := fun w (h : Rdr B p xs l d w) => listed_some B p xs l d K m w h hl hD
  unfold clsV clsA wd at kl
  have H := Lib.hid h
  clear h hD
  constructor
  · intro hn
    have k3 := fun w (h : Rdr B p xs (l.drop m) d w) => set_ok B p _ _ xs K w h hn
    unfold ResP
    go_enter Tryz.func200, Tryz.ntmps200
    go_wp2_with (first
      | (go_at_call 169; first
          | (with_reducible refine (k40 _ H.out).mono ?_; rintro e w1 ⟨rfl, rfl⟩)
          | (with_reducible refine (k46 _ H.out).mono ?_; rintro e w1 ⟨rfl, rfl⟩)
          | (with_reducible refine (k94 _ H.out).mono ?_; rintro e w1 ⟨rfl, rfl⟩)
          | (with_reducible refine (k36 _ H.out).mono ?_; rintro e w1 ⟨rfl, rfl⟩)))
    refine wp_region_held_drew (S := fun _ => True) (by kernel_rfl) trivial (fun hHeld => ?_)
    refine wpAnyH_take (i := 0) (v := .pointer (some ⟨p, 0, none⟩)) rfl (by kernel_rfl) (by kernel_rfl) (by kernel_rfl) (fun _ _ _ h => h) (Or.inl ⟨by rfl, by intro w hSw; first | (go_simp; done) | (go_simp; with_reducible rfl)⟩) hHeld ?_
    try simp only [Act.put, List.setIfInBounds_toArray]
    refine wpAnyH_take (i := 1) (v := .pointer (some ⟨p, 0, none⟩)) rfl (by kernel_rfl) (by kernel_rfl) (by kernel_rfl) (fun _ _ _ h => h) (Or.inl ⟨by rfl, by intro w hSw; first | (go_simp; done) | (go_simp; with_reducible rfl)⟩) hHeld ?_
    try simp only [Act.put]
    refine wpAnyH_take (i := 2) (v := .pointer (some ⟨p, 0, none⟩)) rfl (by kernel_rfl) (by kernel_rfl) (by kernel_rfl) (fun _ _ _ h => h) (Or.inl ⟨by rfl, by intro w hSw; first | (go_simp; done) | (go_simp; with_reducible rfl)⟩) hHeld ?_
    try simp only [Act.put]
    refine wpAnyH_take (i := 3) (v := .pointer (some ⟨p, 0, none⟩)) rfl (by kernel_rfl) (by kernel_rfl) (by kernel_rfl) (fun _ _ _ h => h) (Or.inl ⟨by rfl, by intro w hSw; first | (go_simp; done) | (go_simp; with_reducible rfl)⟩) hHeld ?_
    try simp only [Act.put]
    refine wpAnyH_ready (rs := [4]) (by kernel_rfl) (by simp) ?_
    refine AllReadyH.cons rfl (fun K0 hK0 => ?_) AllReadyH.nil
    go_simp
    refine (kl _ (H.out.below (Below.refl _ _).drew)).mono ?_
    rintro e w2 ⟨rfl, h2, hb2⟩
    have H2 := Lib.hid h2
    clear h2
    refine hK0.out _ _ trivial (fun hHeld => ?_)
    clear hK0 K0
    try simp only [Act.put, List.setIfInBounds_toArray, List.set_cons_zero, List.set_cons_succ]
    refine wpAnyH_ready (rs := [5]) (by kernel_rfl) (by simp) ?_
    refine AllReadyH.cons rfl (fun K0 hK0 => ?_) AllReadyH.nil
    go_simp
    refine (k3 _ H2.out).mono ?_
    rintro e w3 ⟨rfl, h3, hb3⟩
    refine hK0.out _ _ trivial (fun hHeld => ?_)
    clear hK0 K0
    try simp only [Act.put, List.setIfInBounds_toArray, List.set_cons_zero, List.set_cons_succ]
    refine wpAnyH_done (by kernel_rfl) ?_ _
    go_end0
    exact ⟨⟨rfl, h3⟩, ((Below.refl _ _).drew.trans hb2).trans hb3⟩
  · intro hn
    have k3 := fun w (h : Rdr B p xs (l.drop m) d w) => set_big B p _ _ xs K w h hn
    unfold ResP errV
    unfold errV at k3
    go_enter Tryz.func200, Tryz.ntmps200
    go_wp2_with (first
      | (go_at_call 169; first
          | (with_reducible refine (k40 _ H.out).mono ?_; rintro e w1 ⟨rfl, rfl⟩)
          | (with_reducible refine (k46 _ H.out).mono ?_; rintro e w1 ⟨rfl, rfl⟩)
          | (with_reducible refine (k94 _ H.out).mono ?_; rintro e w1 ⟨rfl, rfl⟩)
          | (with_reducible refine (k36 _ H.out).mono ?_; rintro e w1 ⟨rfl, rfl⟩)))
    refine wp_region_held_drew (S := fun _ => True) (by kernel_rfl) trivial (fun hHeld => ?_)
    refine wpAnyH_take (i := 0) (v := .pointer (some ⟨p, 0, none⟩)) rfl (by kernel_rfl) (by kernel_rfl) (by kernel_rfl) (fun _ _ _ h => h) (Or.inl ⟨by rfl, by intro w hSw; first | (go_simp; done) | (go_simp; with_reducible rfl)⟩) hHeld ?_
    try simp only [Act.put, List.setIfInBounds_toArray]
    refine wpAnyH_take (i := 1) (v := .pointer (some ⟨p, 0, none⟩)) rfl (by kernel_rfl) (by kernel_rfl) (by kernel_rfl) (fun _ _ _ h => h) (Or.inl ⟨by rfl, by intro w hSw; first | (go_simp; done) | (go_simp; with_reducible rfl)⟩) hHeld ?_
    try simp only [Act.put]
    refine wpAnyH_take (i := 2) (v := .pointer (some ⟨p, 0, none⟩)) rfl (by kernel_rfl) (by kernel_rfl) (by kernel_rfl) (fun _ _ _ h => h) (Or.inl ⟨by rfl, by intro w hSw; first | (go_simp; done) | (go_simp; with_reducible rfl)⟩) hHeld ?_
    try simp only [Act.put]
    refine wpAnyH_take (i := 3) (v := .pointer (some ⟨p, 0, none⟩)) rfl (by kernel_rfl) (by kernel_rfl) (by kernel_rfl) (fun _ _ _ h => h) (Or.inl ⟨by rfl, by intro w hSw; first | (go_simp; done) | (go_simp; with_reducible rfl)⟩) hHeld ?_
    try simp only [Act.put]
    refine wpAnyH_ready (rs := [4]) (by kernel_rfl) (by simp) ?_
    refine AllReadyH.cons rfl (fun K0 hK0 => ?_) AllReadyH.nil
    go_simp
    refine (kl _ (H.out.below (Below.refl _ _).drew)).mono ?_
    rintro e w2 ⟨rfl, h2, hb2⟩
    have H2 := Lib.hid h2
    clear h2
    refine hK0.out _ _ trivial (fun hHeld => ?_)
    clear hK0 K0
    try simp only [Act.put, List.setIfInBounds_toArray, List.set_cons_zero, List.set_cons_succ]
    refine wpAnyH_ready (rs := [5]) (by kernel_rfl) (by simp) ?_
    refine AllReadyH.cons rfl (fun K0 hK0 => ?_) AllReadyH.nil
    go_simp
    refine (k3 _ H2.out).mono ?_
    rintro e w3 ⟨rfl, hb3⟩
    exact ⟨rfl, rfl, ((Below.refl _ _).drew.trans hb2).trans hb3⟩

set_option maxHeartbeats 1000000 in
set_option maxRecDepth 20000 in
theorem atom_no (B p : Nat) (xs : List Nd) (l : List UInt8) (d : Nat) (w : World) (h : Rdr B p xs l d w) (hl : l.length ≤ 70000000000000) (hh40 : l.head? ≠ some 40) (hh46 : l.head? ≠ some 46) (hh94 : l.head? ≠ some 94) (hh36 : l.head? ≠ some 36) (hD : listD l = none) :
    Calls Tryz.prog 200 #[.pointer (some ⟨p, 0, none⟩)] w fun e w' => ResP B p xs d (.bad 9) e w' ∧ Below B w w' := by
  have k40 := fun w (h : Rdr B p xs l d w) => take_noN B p xs 40 40 rfl l d w h hh40
  have k46 := fun w (h : Rdr B p xs l d w) => take_noN B p xs 46 46 rfl l d w h hh46
  have k94 := fun w (h : Rdr B p xs l d w) => take_noN B p xs 94 94 rfl l d w h hh94
  have k36 := fun w (h : Rdr B p xs l d w) => take_noN B p xs 36 36 rfl l d w h hh36
  have kl := fun w (h : Rdr B p xs l d w) => listed_no B p xs l d w h hl hD
  have H := Lib.hid h
  clear h hD
  unfold ResP errV
  unfold errV at kl
  · skip
    go_enter Tryz.func200, Tryz.ntmps200
    go_wp2_with (first
      | (go_at_call 169; first
          | (with_reducible refine (k40 _ H.out).mono ?_; rintro e w1 ⟨rfl, rfl⟩)
          | (with_reducible refine (k46 _ H.out).mono ?_; rintro e w1 ⟨rfl, rfl⟩)
          | (with_reducible refine (k94 _ H.out).mono ?_; rintro e w1 ⟨rfl, rfl⟩)
          | (with_reducible refine (k36 _ H.out).mono ?_; rintro e w1 ⟨rfl, rfl⟩)))
    refine wp_region_held_drew (S := fun _ => True) (by kernel_rfl) trivial (fun hHeld => ?_)
    refine wpAnyH_take (i := 0) (v := .pointer (some ⟨p, 0, none⟩)) rfl (by kernel_rfl) (by kernel_rfl) (by kernel_rfl) (fun _ _ _ h => h) (Or.inl ⟨by rfl, by intro w hSw; first | (go_simp; done) | (go_simp; with_reducible rfl)⟩) hHeld ?_
    try simp only [Act.put, List.setIfInBounds_toArray]
    refine wpAnyH_take (i := 1) (v := .pointer (some ⟨p, 0, none⟩)) rfl (by kernel_rfl) (by kernel_rfl) (by kernel_rfl) (fun _ _ _ h => h) (Or.inl ⟨by rfl, by intro w hSw; first | (go_simp; done) | (go_simp; with_reducible rfl)⟩) hHeld ?_
    try simp only [Act.put]
    refine wpAnyH_take (i := 2) (v := .pointer (some ⟨p, 0, none⟩)) rfl (by kernel_rfl) (by kernel_rfl) (by kernel_rfl) (fun _ _ _ h => h) (Or.inl ⟨by rfl, by intro w hSw; first | (go_simp; done) | (go_simp; with_reducible rfl)⟩) hHeld ?_
    try simp only [Act.put]
    refine wpAnyH_take (i := 3) (v := .pointer (some ⟨p, 0, none⟩)) rfl (by kernel_rfl) (by kernel_rfl) (by kernel_rfl) (fun _ _ _ h => h) (Or.inl ⟨by rfl, by intro w hSw; first | (go_simp; done) | (go_simp; with_reducible rfl)⟩) hHeld ?_
    try simp only [Act.put]
    refine wpAnyH_ready (rs := [4]) (by kernel_rfl) (by simp) ?_
    refine AllReadyH.cons rfl (fun K0 hK0 => ?_) AllReadyH.nil
    go_simp
    refine (kl _ (H.out.below (Below.refl _ _).drew)).mono ?_
    rintro e w2 ⟨rfl, hb2⟩
    exact ⟨rfl, rfl, (Below.refl _ _).drew.trans hb2⟩
end Go.Proofs.YtkgpnlldlekcbaaGreatDoor
