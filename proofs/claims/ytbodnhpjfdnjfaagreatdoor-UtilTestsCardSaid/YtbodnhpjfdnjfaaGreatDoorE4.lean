/- Packed texts: DecFind, BaExt. What each of them proves stands above its theorems; the conditions stand in these. -/
import Derived.Shelf.Strings.SlTrimAscii
import Derived.Test.YtbodnhpjfdnjfaaGreatDoorProg
import Derived.Test.YtbodnhpjfdnjfaaGreatDoorShelf
import Derived.Test.YtbodnhpjfdnjfaaGreatDoorE0
import Derived.Test.YtbodnhpjfdnjfaaGreatDoorE3
namespace Go.Proofs.YtbodnhpjfdnjfaaGreatDoor
open Go.RowKit

/-- A text of bytes. -/
def str (l : List UInt8) : Value := .string ⟨l.toArray⟩
theorem str_of {s : ByteArray} {l : List UInt8} (h : s.data.toList = l) : Value.string s = str l := by
  subst h
  unfold str
  congr 1
theorem cut_front (s : ByteArray) (n : Nat) : (s.extract 0 n).data.toList = s.data.toList.take n := by
  rw [Lib.extract_data, List.drop_zero, Nat.sub_zero]
theorem cut_back (s : ByteArray) (n : Nat) : (s.extract n s.size).data.toList = s.data.toList.drop n := by
  rw [Lib.extract_data, List.take_of_length_le]
  rw [List.length_drop, Array.length_toList]
  exact Nat.le_refl _
theorem blanks_any (s : ByteArray) (w : World) :
    Calls Tryz.prog 182 #[.string s, .string ⟨#[32, 9]⟩] w fun e w' => e = .returned (str (atSign s.data.toList)) ∧ Below w.heap.size w w' :=
  Any.strings_TrimLeft_laid Tryz.lays161 (by kernel_rfl) s ⟨#[32, 9]⟩ w (by decide) (ascii_of_all (by decide))
theorem digits_any (s : ByteArray) (w : World) :
    Calls Tryz.prog 182 #[.string s, .string ⟨#[48, 49, 50, 51, 52, 53, 54, 55, 56, 57]⟩] w fun e w' => e = .returned (str (rest1 s.data.toList)) ∧ Below w.heap.size w w' := by
  have := Any.strings_TrimLeft_laid Tryz.lays161 (by kernel_rfl) s ⟨#[48, 49, 50, 51, 52, 53, 54, 55, 56, 57]⟩ w (by decide) (ascii_of_all (by decide))
  refine this.mono fun e w' h => ⟨h.1.trans ?_, h.2⟩
  unfold str
  rw [← trim_figs]

theorem figures_str (s wh r : ByteArray) (w : World) (hs : s.size ≤ 70000000000000) (hw : wh.data.toList = figs s.data.toList) (hr : r.data.toList = rest1 s.data.toList) :
    Calls Tryz.prog 259 #[.string s] w fun e w' => e = .returned (.tuple #[.string wh, .string r]) ∧ Below w.heap.size w w' := by
  have k1 := fun w => digits_any s w
  have hl := rest1_length s.data.toList
  rw [← hr] at hl k1
  rw [← str_of (rfl : r.data.toList = r.data.toList)] at k1
  rw [Array.length_toList, Array.length_toList] at hl
  have hl2 : r.size = s.size - (figs s.data.toList).length := hl
  have hf2 : (figs s.data.toList).length ≤ s.size := by
    have hf := figs_length_le s.data.toList
    rw [Array.length_toList (xs := s.data)] at hf
    exact hf
  have hn : s.size - r.size = (figs s.data.toList).length := by omega
  have hcut : s.extract 0 (s.size - r.size) = wh := by
    have h3 : (s.extract 0 (s.size - r.size)).data.toList = wh.data.toList := by
      rw [cut_front, hn, hw]
      exact (figs_prefix _).symm
    have h4 := Array.toList_inj.1 h3
    cases hx : s.extract 0 (s.size - r.size)
    cases wh
    rw [hx] at h4
    exact congrArg ByteArray.mk h4
  have h1 : r.size ≤ s.size := by omega
  clear hr hl hl2 hf2 hn hw
  go_enter Tryz.func259, Tryz.ntmps259
  go_wp2_with (go_at_call 182; refine (k1 _).mono ?_; rintro e w' ⟨rfl, hb1⟩)
  go_ret2
  exact ⟨by rw [← hcut]; rfl, hb1⟩

/-- A struct's block of four cells. -/
def Stands4 (g : Nat) (a b c d : Value) (w : World) : Prop := w.heap[g]? = some (.cells #[a, b, c, d] 207 (0, 0))
theorem stands4_in {g : Nat} {a b c d : Value} {w : World} (h : Stands4 g a b c d w) : g < w.heap.size := by
  by_cases hl : g < w.heap.size
  · exact hl
  · have h1 : w.heap[g]? = _ := h
    rw [Array.getElem?_eq_none (Nat.le_of_not_lt hl)] at h1; cases h1
theorem stands4_old {w1 w2 : World} {g : Nat} {a b c d : Value} (h : Stands4 g a b c d w1) (hb : Below w1.heap.size w1 w2) : Stands4 g a b c d w2 :=
  (hb.block _ (stands4_in h)).trans h
theorem stands4_cells {g : Nat} {w : World} {a b c d : Value} (h : Stands4 g a b c d w) : w.cell? ⟨g, 0, none⟩ = some a ∧ w.frozen? ⟨g, 0, none⟩ = false ∧ w.cell? ⟨g, 1, none⟩ = some b ∧ w.frozen? ⟨g, 1, none⟩ = false ∧ w.cell? ⟨g, 2, none⟩ = some c ∧ w.frozen? ⟨g, 2, none⟩ = false ∧ w.cell? ⟨g, 3, none⟩ = some d ∧ w.frozen? ⟨g, 3, none⟩ = false := by
  have h' : w.heap[g]? = some (.cells #[a, b, c, d] 207 (0, 0)) := h
  refine ⟨?_, ?_, ?_, ?_, ?_, ?_, ?_, ?_⟩ <;> simp [World.cell?, World.frozen?, h']
theorem stands4_set {g : Nat} {w : World} {a b c d v : Value} (h : Stands4 g a b c d w) : Stands4 g v b c d (w.setCell ⟨g, 0, none⟩ v) ∧ Stands4 g a v c d (w.setCell ⟨g, 1, none⟩ v) ∧ Stands4 g a b v d (w.setCell ⟨g, 2, none⟩ v) ∧ Stands4 g a b c v (w.setCell ⟨g, 3, none⟩ v) := by
  have h' : w.heap[g]? = some (.cells #[a, b, c, d] 207 (0, 0)) := h
  have hl := stands4_in h
  have hh : w.heap[g]'hl = .cells #[a, b, c, d] 207 (0, 0) := by
    rw [Array.getElem?_eq_getElem hl] at h'
    exact Option.some.inj h'
  refine ⟨?_, ?_, ?_, ?_⟩ <;> simp [Stands4, World.setCell, Array.getElem_modify, hh, hl]

theorem stands4_far {g : Nat} {w : World} {a b c d : Value} (h : Stands4 g a b c d w) (p : Addr) (v : Value) (hp : g ≠ p.block) : Stands4 g a b c d (w.setCell p v) := by
  show (w.setCell p v).heap[g]? = _
  rw [Below.heap_setCell _ _ _ _ hp]; exact h
theorem stands4_all {g : Nat} {w : World} {a b c d a' b' c' d' : Value} (h : Stands4 g a b c d w) : Stands4 g a' b' c' d' ((((w.setCell ⟨g, 0, none⟩ a').setCell ⟨g, 1, none⟩ b').setCell ⟨g, 2, none⟩ c').setCell ⟨g, 3, none⟩ d') :=
  (stands4_set (stands4_set (stands4_set (stands4_set h).1).2.1).2.2.1).2.2.2
theorem below4 {B : Nat} {w0 w : World} {g : Nat} {a' b' c' d' : Value} (h : Below B w0 w) (hg : B ≤ g) : Below B w0 ((((w.setCell ⟨g, 0, none⟩ a').setCell ⟨g, 1, none⟩ b').setCell ⟨g, 2, none⟩ c').setCell ⟨g, 3, none⟩ d') :=
  (((h.setCell hg _).setCell hg _).setCell hg _).setCell hg _
theorem find_minus (s r r2 wh r3 sg : ByteArray) (x : Int) (w : World)
    (k1 : ∀ w, Calls Tryz.prog 182 #[.string s, .string ⟨#[32, 9]⟩] w fun e w' => e = .returned (.string r) ∧ Below w.heap.size w w')
    (k2 : ∀ w, Calls Tryz.prog 259 #[.string r2] w fun e w' => e = .returned (.tuple #[.string wh, .string r3]) ∧ Below w.heap.size w w')
    (he : r.toList.isEmpty = false) (hp : 0 < r.size) (hp1 : (1 : Int) ≤ (r.size : Int)) (hx : (r[0].toNat : Int) = x) (hx1 : (x == 45) = true) (hr1 : r.extract 0 1 = sg) (hr2 : r.extract 1 r.size = r2) (pt : Bool) (fr r4 r5 : ByteArray) (hs5 : r5.size ≤ s.size) (hs : s.size ≤ 70000000000000)
    (kp : ∀ w, Calls Tryz.prog 260 #[.string r3, .string ⟨#[46]⟩] w fun e w' => e = .returned (.bool pt) ∧ w' = w)
    (k3 : pt = true → (1 : Int) ≤ (r3.size : Int) ∧ r3.extract 1 r3.size = r4 ∧ ∀ w, Calls Tryz.prog 259 #[.string r4] w fun e w' => e = .returned (.tuple #[.string fr, .string r5]) ∧ Below w.heap.size w w') (k4 : pt = false → r3 = r5 ∧ fr = ⟨#[]⟩)
    (v : Value) (HE : Hid (Ending.returned (.agg #[.string sg, .string wh, .string fr, .int .i64 ((s.size : Int) - (r5.size : Int))]) = .returned v)) :
    Calls Tryz.prog 210 #[.string s] w fun e w' => e = .returned v ∧ Below w.heap.size w w' := by
  go_enter Tryz.func210, Tryz.ntmps210
  go_wp2_with (go_at_call 182; refine (k1 _).mono ?_; rintro e w1 ⟨rfl, hb1⟩; have B1 := (two_new w (.cells #[.string ⟨#[]⟩, .string ⟨#[]⟩, .string ⟨#[]⟩, .int .i64 0] 207) (.cells #[.string ⟨#[]⟩, .string ⟨#[]⟩, .string ⟨#[]⟩, .int .i64 0] 207)).2.2.2; have B2 := B1.trans (hb1.mono B1.size); have S1 : Stands4 (w.heap.size + 1) (.string ⟨#[]⟩) (.string ⟨#[]⟩) (.string ⟨#[]⟩) (.int .i64 0) w1 := stands4_old (two_new _ _ _).2.1 hb1; have R1 : Stands4 w.heap.size (.string ⟨#[]⟩) (.string ⟨#[]⟩) (.string ⟨#[]⟩) (.int .i64 0) w1 := stands4_old (two_new _ _ _).1 hb1; obtain ⟨c0, f0, c1, f1, c2, f2, c3, f3⟩ := stands4_cells S1)
  go_region_law (fail)
  all_goals
    have S2 := (stands4_set (v := .string sg) S1).1
    have S2d : Stands4 _ _ _ _ _ (w1.setCell ⟨w.heap.size + 1, 0, none⟩ (.string sg)).drew := S2
    have R2d : Stands4 _ _ _ _ _ (w1.setCell ⟨w.heap.size + 1, 0, none⟩ (.string sg)).drew := stands4_far R1 ⟨w.heap.size + 1, 0, none⟩ (.string sg) (by simp)
    have B2d := (B2.setCell (p := ⟨w.heap.size + 1, 0, none⟩) (Nat.le_succ _) (.string sg)).drew
    go_wp2_with (go_at_call 259; refine (k2 _).mono ?_; rintro e w2 ⟨rfl, hb2⟩; have B3 := (B2d).trans (hb2.mono (B2d).size); have S3 := stands4_old S2d hb2; have R3 := stands4_old R2d hb2; obtain ⟨d0, g0, d1, g1, d2, g2, d3, g3⟩ := stands4_cells S3)
    have S5 := (stands4_set (v := .string wh) S3).2.1
    obtain ⟨d0, g0, d1, g1, d2, g2, d3, g3⟩ := stands4_cells S5
    have R5 := stands4_far R3 ⟨w.heap.size + 1, 1, none⟩ (.string wh) (by simp)
    have B5 := B3.setCell (p := ⟨w.heap.size + 1, 1, none⟩) (Nat.le_succ _) (.string wh)
    obtain ⟨i0, j0, i1, j1, i2, j2, i3, j3⟩ := stands4_cells R5
    generalize w2.setCell ⟨w.heap.size + 1, 1, none⟩ (.string wh) = w3 at *
    cases pt with
    | false =>
      obtain ⟨rfl, rfl⟩ := k4 rfl
      clear k3 k4
      go_wp2_with (go_at_call 260; refine (kp _).mono ?_; rintro e w4 ⟨rfl, hw⟩; rw [hw])
      refine bodyPost_ret (v := .agg #[.string sg, .string wh, .string ⟨#[]⟩, .int .i64 ((s.size : Int) - (r3.size : Int))]) (results_cell_row (p := 2) (ty := 207) Tryz.results210 _ _ w.heap.size 207 _ (0, 0) _ rfl (stands4_all (stands4_far R5 ⟨w.heap.size + 1, 3, none⟩ (.int .i64 ((s.size : Int) - (r3.size : Int))) (by simp))) Tryz.underlying207 rfl (by kernel_rfl)) rfl ⟨?_, ?_⟩
      · exact HE.out
      · exact below4 (B5.setCell (Nat.le_succ _) _) (Nat.le_refl _)
    | true =>
      obtain ⟨q1, q2, k5⟩ := k3 rfl
      clear k3 k4
      go_wp2_with (first | (go_at_call 260; refine (kp _).mono ?_; rintro e w4 ⟨rfl, hw⟩; rw [hw]) | (go_at_call 259; refine (k5 _).mono ?_; rintro e w5 ⟨rfl, hb5⟩; have S6 := stands4_old S5 hb5; have R6 := stands4_old R5 hb5; obtain ⟨l0, m0, l1, m1, l2, m2, l3, m3⟩ := stands4_cells R6; obtain ⟨e0, h0, e1, h1, e2, h2, e3, h3⟩ := stands4_cells S6))
      refine bodyPost_ret (v := .agg #[.string sg, .string wh, .string fr, .int .i64 ((s.size : Int) - (r5.size : Int))]) (results_cell_row (p := 2) (ty := 207) Tryz.results210 _ _ w.heap.size 207 _ (0, 0) _ rfl (stands4_all (stands4_far (stands4_far R6 ⟨w.heap.size + 1, 2, none⟩ (.string fr) (by simp)) ⟨w.heap.size + 1, 3, none⟩ (.int .i64 ((s.size : Int) - (r5.size : Int))) (by simp))) Tryz.underlying207 rfl (by kernel_rfl)) rfl ⟨?_, ?_⟩
      · exact HE.out
      · exact below4 (((B5.trans (hb5.mono B5.size)).setCell (Nat.le_succ _) _).setCell (Nat.le_succ _) _) (Nat.le_refl _)
theorem find_plus (s r r2 wh r3 sg : ByteArray) (x : Int) (w : World)
    (k1 : ∀ w, Calls Tryz.prog 182 #[.string s, .string ⟨#[32, 9]⟩] w fun e w' => e = .returned (.string r) ∧ Below w.heap.size w w')
    (k2 : ∀ w, Calls Tryz.prog 259 #[.string r2] w fun e w' => e = .returned (.tuple #[.string wh, .string r3]) ∧ Below w.heap.size w w')
    (he : r.toList.isEmpty = false) (hp : 0 < r.size) (hp1 : (1 : Int) ≤ (r.size : Int)) (hx : (r[0].toNat : Int) = x) (hx1 : (x == 45) = false) (hx2 : (x == 43) = true) (hr1 : r.extract 0 1 = sg) (hr2 : r.extract 1 r.size = r2) (pt : Bool) (fr r4 r5 : ByteArray) (hs5 : r5.size ≤ s.size) (hs : s.size ≤ 70000000000000)
    (kp : ∀ w, Calls Tryz.prog 260 #[.string r3, .string ⟨#[46]⟩] w fun e w' => e = .returned (.bool pt) ∧ w' = w)
    (k3 : pt = true → (1 : Int) ≤ (r3.size : Int) ∧ r3.extract 1 r3.size = r4 ∧ ∀ w, Calls Tryz.prog 259 #[.string r4] w fun e w' => e = .returned (.tuple #[.string fr, .string r5]) ∧ Below w.heap.size w w') (k4 : pt = false → r3 = r5 ∧ fr = ⟨#[]⟩)
    (v : Value) (HE : Hid (Ending.returned (.agg #[.string sg, .string wh, .string fr, .int .i64 ((s.size : Int) - (r5.size : Int))]) = .returned v)) :
    Calls Tryz.prog 210 #[.string s] w fun e w' => e = .returned v ∧ Below w.heap.size w w' := by
  go_enter Tryz.func210, Tryz.ntmps210
  go_wp2_with (go_at_call 182; refine (k1 _).mono ?_; rintro e w1 ⟨rfl, hb1⟩; have B1 := (two_new w (.cells #[.string ⟨#[]⟩, .string ⟨#[]⟩, .string ⟨#[]⟩, .int .i64 0] 207) (.cells #[.string ⟨#[]⟩, .string ⟨#[]⟩, .string ⟨#[]⟩, .int .i64 0] 207)).2.2.2; have B2 := B1.trans (hb1.mono B1.size); have S1 : Stands4 (w.heap.size + 1) (.string ⟨#[]⟩) (.string ⟨#[]⟩) (.string ⟨#[]⟩) (.int .i64 0) w1 := stands4_old (two_new _ _ _).2.1 hb1; have R1 : Stands4 w.heap.size (.string ⟨#[]⟩) (.string ⟨#[]⟩) (.string ⟨#[]⟩) (.int .i64 0) w1 := stands4_old (two_new _ _ _).1 hb1; obtain ⟨c0, f0, c1, f1, c2, f2, c3, f3⟩ := stands4_cells S1)
  go_region_law (fail)
  all_goals
    have S2 := (stands4_set (v := .string sg) S1).1
    have S2d : Stands4 _ _ _ _ _ (w1.setCell ⟨w.heap.size + 1, 0, none⟩ (.string sg)).drew := S2
    have R2d : Stands4 _ _ _ _ _ (w1.setCell ⟨w.heap.size + 1, 0, none⟩ (.string sg)).drew := stands4_far R1 ⟨w.heap.size + 1, 0, none⟩ (.string sg) (by simp)
    have B2d := (B2.setCell (p := ⟨w.heap.size + 1, 0, none⟩) (Nat.le_succ _) (.string sg)).drew
    go_wp2_with (go_at_call 259; refine (k2 _).mono ?_; rintro e w2 ⟨rfl, hb2⟩; have B3 := (B2d).trans (hb2.mono (B2d).size); have S3 := stands4_old S2d hb2; have R3 := stands4_old R2d hb2; obtain ⟨d0, g0, d1, g1, d2, g2, d3, g3⟩ := stands4_cells S3)
    have S5 := (stands4_set (v := .string wh) S3).2.1
    obtain ⟨d0, g0, d1, g1, d2, g2, d3, g3⟩ := stands4_cells S5
    have R5 := stands4_far R3 ⟨w.heap.size + 1, 1, none⟩ (.string wh) (by simp)
    have B5 := B3.setCell (p := ⟨w.heap.size + 1, 1, none⟩) (Nat.le_succ _) (.string wh)
    obtain ⟨i0, j0, i1, j1, i2, j2, i3, j3⟩ := stands4_cells R5
    generalize w2.setCell ⟨w.heap.size + 1, 1, none⟩ (.string wh) = w3 at *
    cases pt with
    | false =>
      obtain ⟨rfl, rfl⟩ := k4 rfl
      clear k3 k4
      go_wp2_with (go_at_call 260; refine (kp _).mono ?_; rintro e w4 ⟨rfl, hw⟩; rw [hw])
      refine bodyPost_ret (v := .agg #[.string sg, .string wh, .string ⟨#[]⟩, .int .i64 ((s.size : Int) - (r3.size : Int))]) (results_cell_row (p := 2) (ty := 207) Tryz.results210 _ _ w.heap.size 207 _ (0, 0) _ rfl (stands4_all (stands4_far R5 ⟨w.heap.size + 1, 3, none⟩ (.int .i64 ((s.size : Int) - (r3.size : Int))) (by simp))) Tryz.underlying207 rfl (by kernel_rfl)) rfl ⟨?_, ?_⟩
      · exact HE.out
      · exact below4 (B5.setCell (Nat.le_succ _) _) (Nat.le_refl _)
    | true =>
      obtain ⟨q1, q2, k5⟩ := k3 rfl
      clear k3 k4
      go_wp2_with (first | (go_at_call 260; refine (kp _).mono ?_; rintro e w4 ⟨rfl, hw⟩; rw [hw]) | (go_at_call 259; refine (k5 _).mono ?_; rintro e w5 ⟨rfl, hb5⟩; have S6 := stands4_old S5 hb5; have R6 := stands4_old R5 hb5; obtain ⟨l0, m0, l1, m1, l2, m2, l3, m3⟩ := stands4_cells R6; obtain ⟨e0, h0, e1, h1, e2, h2, e3, h3⟩ := stands4_cells S6))
      refine bodyPost_ret (v := .agg #[.string sg, .string wh, .string fr, .int .i64 ((s.size : Int) - (r5.size : Int))]) (results_cell_row (p := 2) (ty := 207) Tryz.results210 _ _ w.heap.size 207 _ (0, 0) _ rfl (stands4_all (stands4_far (stands4_far R6 ⟨w.heap.size + 1, 2, none⟩ (.string fr) (by simp)) ⟨w.heap.size + 1, 3, none⟩ (.int .i64 ((s.size : Int) - (r5.size : Int))) (by simp))) Tryz.underlying207 rfl (by kernel_rfl)) rfl ⟨?_, ?_⟩
      · exact HE.out
      · exact below4 (((B5.trans (hb5.mono B5.size)).setCell (Nat.le_succ _) _).setCell (Nat.le_succ _) _) (Nat.le_refl _)
theorem find_none (s r wh r3 : ByteArray) (x : Int) (w : World)
    (k1 : ∀ w, Calls Tryz.prog 182 #[.string s, .string ⟨#[32, 9]⟩] w fun e w' => e = .returned (.string r) ∧ Below w.heap.size w w')
    (k2 : ∀ w, Calls Tryz.prog 259 #[.string r] w fun e w' => e = .returned (.tuple #[.string wh, .string r3]) ∧ Below w.heap.size w w')
    (he : r.toList.isEmpty = false) (hp : 0 < r.size) (hx : (r[0].toNat : Int) = x) (hx1 : (x == 45) = false) (hx2 : (x == 43) = false) (pt : Bool) (fr r4 r5 : ByteArray) (hs5 : r5.size ≤ s.size) (hs : s.size ≤ 70000000000000)
    (kp : ∀ w, Calls Tryz.prog 260 #[.string r3, .string ⟨#[46]⟩] w fun e w' => e = .returned (.bool pt) ∧ w' = w)
    (k3 : pt = true → (1 : Int) ≤ (r3.size : Int) ∧ r3.extract 1 r3.size = r4 ∧ ∀ w, Calls Tryz.prog 259 #[.string r4] w fun e w' => e = .returned (.tuple #[.string fr, .string r5]) ∧ Below w.heap.size w w') (k4 : pt = false → r3 = r5 ∧ fr = ⟨#[]⟩)
    (v : Value) (HE : Hid (Ending.returned (.agg #[.string ⟨#[]⟩, .string wh, .string fr, .int .i64 ((s.size : Int) - (r5.size : Int))]) = .returned v)) :
    Calls Tryz.prog 210 #[.string s] w fun e w' => e = .returned v ∧ Below w.heap.size w w' := by
  go_enter Tryz.func210, Tryz.ntmps210
  go_wp2_with (first | (go_at_call 182; refine (k1 _).mono ?_; rintro e w1 ⟨rfl, hb1⟩; have B1 := (two_new w (.cells #[.string ⟨#[]⟩, .string ⟨#[]⟩, .string ⟨#[]⟩, .int .i64 0] 207) (.cells #[.string ⟨#[]⟩, .string ⟨#[]⟩, .string ⟨#[]⟩, .int .i64 0] 207)).2.2.2; have B2 := B1.trans (hb1.mono B1.size); have S1 : Stands4 (w.heap.size + 1) (.string ⟨#[]⟩) (.string ⟨#[]⟩) (.string ⟨#[]⟩) (.int .i64 0) w1 := stands4_old (two_new _ _ _).2.1 hb1; have R1 : Stands4 w.heap.size (.string ⟨#[]⟩) (.string ⟨#[]⟩) (.string ⟨#[]⟩) (.int .i64 0) w1 := stands4_old (two_new _ _ _).1 hb1; obtain ⟨c0, f0, c1, f1, c2, f2, c3, f3⟩ := stands4_cells S1) | (go_at_call 259; refine (k2 _).mono ?_; rintro e w2 ⟨rfl, hb2⟩; have B3 := (B2).trans (hb2.mono (B2).size); have S3 := stands4_old S1 hb2; have R3 := stands4_old R1 hb2; obtain ⟨d0, g0, d1, g1, d2, g2, d3, g3⟩ := stands4_cells S3))
  all_goals
    have S5 := (stands4_set (v := .string wh) S3).2.1
    obtain ⟨d0, g0, d1, g1, d2, g2, d3, g3⟩ := stands4_cells S5
    have R5 := stands4_far R3 ⟨w.heap.size + 1, 1, none⟩ (.string wh) (by simp)
    have B5 := B3.setCell (p := ⟨w.heap.size + 1, 1, none⟩) (Nat.le_succ _) (.string wh)
    obtain ⟨i0, j0, i1, j1, i2, j2, i3, j3⟩ := stands4_cells R5
    generalize w2.setCell ⟨w.heap.size + 1, 1, none⟩ (.string wh) = w3 at *
    cases pt with
    | false =>
      obtain ⟨rfl, rfl⟩ := k4 rfl
      clear k3 k4
      go_wp2_with (go_at_call 260; refine (kp _).mono ?_; rintro e w4 ⟨rfl, hw⟩; rw [hw])
      refine bodyPost_ret (v := .agg #[.string ⟨#[]⟩, .string wh, .string ⟨#[]⟩, .int .i64 ((s.size : Int) - (r3.size : Int))]) (results_cell_row (p := 2) (ty := 207) Tryz.results210 _ _ w.heap.size 207 _ (0, 0) _ rfl (stands4_all (stands4_far R5 ⟨w.heap.size + 1, 3, none⟩ (.int .i64 ((s.size : Int) - (r3.size : Int))) (by simp))) Tryz.underlying207 rfl (by kernel_rfl)) rfl ⟨?_, ?_⟩
      · exact HE.out
      · exact below4 (B5.setCell (Nat.le_succ _) _) (Nat.le_refl _)
    | true =>
      obtain ⟨q1, q2, k5⟩ := k3 rfl
      clear k3 k4
      go_wp2_with (first | (go_at_call 260; refine (kp _).mono ?_; rintro e w4 ⟨rfl, hw⟩; rw [hw]) | (go_at_call 259; refine (k5 _).mono ?_; rintro e w5 ⟨rfl, hb5⟩; have S6 := stands4_old S5 hb5; have R6 := stands4_old R5 hb5; obtain ⟨l0, m0, l1, m1, l2, m2, l3, m3⟩ := stands4_cells R6; obtain ⟨e0, h0, e1, h1, e2, h2, e3, h3⟩ := stands4_cells S6))
      refine bodyPost_ret (v := .agg #[.string ⟨#[]⟩, .string wh, .string fr, .int .i64 ((s.size : Int) - (r5.size : Int))]) (results_cell_row (p := 2) (ty := 207) Tryz.results210 _ _ w.heap.size 207 _ (0, 0) _ rfl (stands4_all (stands4_far (stands4_far R6 ⟨w.heap.size + 1, 2, none⟩ (.string fr) (by simp)) ⟨w.heap.size + 1, 3, none⟩ (.int .i64 ((s.size : Int) - (r5.size : Int))) (by simp))) Tryz.underlying207 rfl (by kernel_rfl)) rfl ⟨?_, ?_⟩
      · exact HE.out
      · exact below4 (((B5.trans (hb5.mono B5.size)).setCell (Nat.le_succ _) _).setCell (Nat.le_succ _) _) (Nat.le_refl _)
theorem find_empty (s r wh r3 : ByteArray) (_x : Int) (w : World)
    (k1 : ∀ w, Calls Tryz.prog 182 #[.string s, .string ⟨#[32, 9]⟩] w fun e w' => e = .returned (.string r) ∧ Below w.heap.size w w')
    (k2 : ∀ w, Calls Tryz.prog 259 #[.string r] w fun e w' => e = .returned (.tuple #[.string wh, .string r3]) ∧ Below w.heap.size w w')
    (he : r.toList.isEmpty = true) (pt : Bool) (fr r4 r5 : ByteArray) (hs5 : r5.size ≤ s.size) (hs : s.size ≤ 70000000000000)
    (kp : ∀ w, Calls Tryz.prog 260 #[.string r3, .string ⟨#[46]⟩] w fun e w' => e = .returned (.bool pt) ∧ w' = w)
    (k3 : pt = true → (1 : Int) ≤ (r3.size : Int) ∧ r3.extract 1 r3.size = r4 ∧ ∀ w, Calls Tryz.prog 259 #[.string r4] w fun e w' => e = .returned (.tuple #[.string fr, .string r5]) ∧ Below w.heap.size w w') (k4 : pt = false → r3 = r5 ∧ fr = ⟨#[]⟩)
    (v : Value) (HE : Hid (Ending.returned (.agg #[.string ⟨#[]⟩, .string wh, .string fr, .int .i64 ((s.size : Int) - (r5.size : Int))]) = .returned v)) :
    Calls Tryz.prog 210 #[.string s] w fun e w' => e = .returned v ∧ Below w.heap.size w w' := by
  go_enter Tryz.func210, Tryz.ntmps210
  go_wp2_with (first | (go_at_call 182; refine (k1 _).mono ?_; rintro e w1 ⟨rfl, hb1⟩; have B1 := (two_new w (.cells #[.string ⟨#[]⟩, .string ⟨#[]⟩, .string ⟨#[]⟩, .int .i64 0] 207) (.cells #[.string ⟨#[]⟩, .string ⟨#[]⟩, .string ⟨#[]⟩, .int .i64 0] 207)).2.2.2; have B2 := B1.trans (hb1.mono B1.size); have S1 : Stands4 (w.heap.size + 1) (.string ⟨#[]⟩) (.string ⟨#[]⟩) (.string ⟨#[]⟩) (.int .i64 0) w1 := stands4_old (two_new _ _ _).2.1 hb1; have R1 : Stands4 w.heap.size (.string ⟨#[]⟩) (.string ⟨#[]⟩) (.string ⟨#[]⟩) (.int .i64 0) w1 := stands4_old (two_new _ _ _).1 hb1; obtain ⟨c0, f0, c1, f1, c2, f2, c3, f3⟩ := stands4_cells S1) | (go_at_call 259; refine (k2 _).mono ?_; rintro e w2 ⟨rfl, hb2⟩; have B3 := (B2).trans (hb2.mono (B2).size); have S3 := stands4_old S1 hb2; have R3 := stands4_old R1 hb2; obtain ⟨d0, g0, d1, g1, d2, g2, d3, g3⟩ := stands4_cells S3))
  all_goals
    have S5 := (stands4_set (v := .string wh) S3).2.1
    obtain ⟨d0, g0, d1, g1, d2, g2, d3, g3⟩ := stands4_cells S5
    have R5 := stands4_far R3 ⟨w.heap.size + 1, 1, none⟩ (.string wh) (by simp)
    have B5 := B3.setCell (p := ⟨w.heap.size + 1, 1, none⟩) (Nat.le_succ _) (.string wh)
    obtain ⟨i0, j0, i1, j1, i2, j2, i3, j3⟩ := stands4_cells R5
    generalize w2.setCell ⟨w.heap.size + 1, 1, none⟩ (.string wh) = w3 at *
    cases pt with
    | false =>
      obtain ⟨rfl, rfl⟩ := k4 rfl
      clear k3 k4
      go_wp2_with (go_at_call 260; refine (kp _).mono ?_; rintro e w4 ⟨rfl, hw⟩; rw [hw])
      refine bodyPost_ret (v := .agg #[.string ⟨#[]⟩, .string wh, .string ⟨#[]⟩, .int .i64 ((s.size : Int) - (r3.size : Int))]) (results_cell_row (p := 2) (ty := 207) Tryz.results210 _ _ w.heap.size 207 _ (0, 0) _ rfl (stands4_all (stands4_far R5 ⟨w.heap.size + 1, 3, none⟩ (.int .i64 ((s.size : Int) - (r3.size : Int))) (by simp))) Tryz.underlying207 rfl (by kernel_rfl)) rfl ⟨?_, ?_⟩
      · exact HE.out
      · exact below4 (B5.setCell (Nat.le_succ _) _) (Nat.le_refl _)
    | true =>
      obtain ⟨q1, q2, k5⟩ := k3 rfl
      clear k3 k4
      go_wp2_with (first | (go_at_call 260; refine (kp _).mono ?_; rintro e w4 ⟨rfl, hw⟩; rw [hw]) | (go_at_call 259; refine (k5 _).mono ?_; rintro e w5 ⟨rfl, hb5⟩; have S6 := stands4_old S5 hb5; have R6 := stands4_old R5 hb5; obtain ⟨l0, m0, l1, m1, l2, m2, l3, m3⟩ := stands4_cells R6; obtain ⟨e0, h0, e1, h1, e2, h2, e3, h3⟩ := stands4_cells S6))
      refine bodyPost_ret (v := .agg #[.string ⟨#[]⟩, .string wh, .string fr, .int .i64 ((s.size : Int) - (r5.size : Int))]) (results_cell_row (p := 2) (ty := 207) Tryz.results210 _ _ w.heap.size 207 _ (0, 0) _ rfl (stands4_all (stands4_far (stands4_far R6 ⟨w.heap.size + 1, 2, none⟩ (.string fr) (by simp)) ⟨w.heap.size + 1, 3, none⟩ (.int .i64 ((s.size : Int) - (r5.size : Int))) (by simp))) Tryz.underlying207 rfl (by kernel_rfl)) rfl ⟨?_, ?_⟩
      · exact HE.out
      · exact below4 (((B5.trans (hb5.mono B5.size)).setCell (Nat.le_succ _) _).setCell (Nat.le_succ _) _) (Nat.le_refl _)
end Go.Proofs.YtbodnhpjfdnjfaaGreatDoor
namespace Go.Proofs.YtbodnhpjfdnjfaaGreatDoor
theorem ba_ext {a b : ByteArray} (h : a.data.toList = b.data.toList) : a = b := by
  have h4 := Array.toList_inj.1 h
  cases a; cases b
  exact congrArg ByteArray.mk h4
end Go.Proofs.YtbodnhpjfdnjfaaGreatDoor
