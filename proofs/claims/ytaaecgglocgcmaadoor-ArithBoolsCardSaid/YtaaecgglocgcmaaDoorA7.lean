/- Packed texts: ArithBoolsWalk. What each of them proves stands above its theorems; the conditions stand in these. -/
import Derived.Test.YtaaecgglocgcmaaDoorA3
namespace Go.Proofs.YtaaecgglocgcmaaDoor
open Go.RowKit Go.Lib

def boolTx : List (List UInt8) := [[97, 60, 98], [97, 60, 61, 98], [97, 61, 61, 98], [97, 33, 61, 98], [97, 62, 98], [97, 62, 61, 98], [97, 38, 38, 98], [97, 124, 124, 98], [33, 97]]
def boolEx : List Ex := [.bin .lt (.name [97]) (.name [98]), .bin .le (.name [97]) (.name [98]), .bin .eq (.name [97]) (.name [98]), .bin .ne (.name [97]) (.name [98]), .bin .gt (.name [97]) (.name [98]), .bin .ge (.name [97]) (.name [98]), .bin .and (.name [97]) (.name [98]), .bin .or (.name [97]) (.name [98]), .bang (.name [97])]
def boolWant (a b : Int) : List Bool := [decide (a < b), decide (a ≤ b), a == b, a != b, decide (b < a), decide (b ≤ a), a != 0 && b != 0, a != 0 || b != 0, a == 0]
theorem bool_read : ∀ (i : Nat) (t : List UInt8), boolTx[i]? = some t → ∃ E, boolEx[i]? = some E ∧ readA t = .ok E []
  | 0, _, h | 1, _, h | 2, _, h | 3, _, h | 4, _, h | 5, _, h | 6, _, h | 7, _, h | 8, _, h => by
    simp [boolTx] at h
    subst h
    exact ⟨_, rfl, by rfl⟩
  | _ + 9, _, h => by simp [boolTx] at h
theorem bool_ev (V : List UInt8 → Cm) (a b : Int) (va : V [97] = .is a) (vb : V [98] = .is b) : ∀ (i : Nat) (E : Ex) (q : Bool), boolEx[i]? = some E → (boolWant a b)[i]? = some q → ev V E = .is (tellA q) := by
  have two : ∀ m, ev V (.bin m (.name [97]) (.name [98])) = if idleA m a then opD m a 0 else opD m a b := fun m => by
    show (match V [97] with | .no x => Cm.no x | .is x => if idleA m x then opD m x 0 else match V [98] with | .no y => .no y | .is y => opD m x y) = _
    rw [va, vb]
  intro i E q hE hq
  match i, hE, hq with
  | 0, hE, hq | 1, hE, hq | 2, hE, hq | 3, hE, hq | 4, hE, hq | 5, hE, hq =>
    simp [boolEx] at hE
    simp [boolWant] at hq
    subst hE hq
    rw [two]
    rfl
  | 6, hE, hq =>
    simp only [boolEx, List.getElem?_cons_succ, List.getElem?_cons_zero, Option.some.injEq] at hE
    simp only [boolWant, List.getElem?_cons_succ, List.getElem?_cons_zero, Option.some.injEq] at hq
    subst hE hq
    rw [two]
    show (if (a == 0) = true then Cm.is (tellA (a != 0 && (0 : Int) != 0)) else Cm.is (tellA (a != 0 && b != 0))) = _
    by_cases h : a = 0
    · subst h; rfl
    · rw [if_neg (by simpa using h)]
  | 7, hE, hq =>
    simp only [boolEx, List.getElem?_cons_succ, List.getElem?_cons_zero, Option.some.injEq] at hE
    simp only [boolWant, List.getElem?_cons_succ, List.getElem?_cons_zero, Option.some.injEq] at hq
    subst hE hq
    rw [two]
    show (if (a != 0) = true then Cm.is (tellA (a != 0 || (0 : Int) != 0)) else Cm.is (tellA (a != 0 || b != 0))) = _
    by_cases h : (a != 0) = true
    · rw [if_pos h, h]; rfl
    · rw [if_neg h]
  | 8, hE, hq =>
    simp only [boolEx, List.getElem?_cons_succ, List.getElem?_cons_zero, Option.some.injEq] at hE
    simp only [boolWant, List.getElem?_cons_succ, List.getElem?_cons_zero, Option.some.injEq] at hq
    subst hE hq
    show (match V [97] with | .is n => Cm.is (tellA (n == 0)) | .no x => .no x) = _
    rw [va]
  | i + 9, hE, hq => simp [boolEx] at hE
/-- What stands while the loop goes on. -/
def StdB (w0 : World) (g : Nat) (xs ys zs : List Value) (wr : World) : Prop := StdA w0 g xs wr ∧ wr.heap[g + 1]? = some (.cells ⟨ys⟩ 9 (0, 0)) ∧ wr.heap[g + 2]? = some (.cells ⟨zs⟩ 4 (0, 0)) ∧ g + 2 < wr.heap.size
theorem StdB.next {w0 : World} {g : Nat} {xs ys zs : List Value} {w w' : World} (h : StdB w0 g xs ys zs w) (hb : Below w.heap.size w w') : StdB w0 g xs ys zs w' :=
  ⟨h.1.next hb, (hb.block _ (by have := h.2.2.2; omega)).trans h.2.1, (hb.block _ h.2.2.2).trans h.2.2.1, Nat.lt_of_lt_of_le h.2.2.2 hb.size⟩
def txC : List Value := boolTx.map fun t => .string ⟨t.toArray⟩
def wantC (l : List Bool) : List Value := l.map .bool
theorem StdB.cells {w0 : World} {g : Nat} {xs : List Value} {l : List Bool} {w : World} (h : StdB w0 g xs txC (wantC l) w) (i : Nat) (t : List UInt8) (q : Bool) (ht : boolTx[i]? = some t) (hq : l[i]? = some q) : w.cell? ⟨g + 1, i, none⟩ = some (.string ⟨t.toArray⟩) ∧ w.cell? ⟨g + 1 + 1, i, none⟩ = some (.bool q) := by
  constructor
  · rw [cell_of_heap h.2.1]
    simp [txC, ht]
  · rw [cell_of_heap (show w.heap[g + 1 + 1]? = _ from h.2.2.1)]
    simp [wantC, hq]
theorem bool_eval {w0 : World} {g : Nat} {w : World} (a b : Int) (ha0 : -9223372036854775808 ≤ a) (ha1 : a ≤ 9223372036854775807) (hb0 : -9223372036854775808 ≤ b) (hb1 : b ≤ 9223372036854775807) (l : List Bool) (hl : l = boolWant a b) (i : Nat) (t : List UInt8) (q : Bool) (ht : boolTx[i]? = some t) (hq : l[i]? = some q) (h : StdB w0 g (twoC a b) txC (wantC l) w) :
    Calls Tryd.prog 13 #[.string ⟨t.toArray⟩, .slice (some ⟨g, 0, none⟩) 2 2] w fun e w' => e = .returned (.tuple #[.int .i64 (tellA q), .int .i64 0]) ∧ StdB w0 g (twoC a b) txC (wantC l) w' := by
  subst hl
  obtain ⟨E, hE, hr⟩ := bool_read i t ht
  have he := bool_ev (valA (twoV a b)) a b (two_a a b ha0 ha1) (two_b a b hb0 hb1) i E q hE hq
  have hlen : t.length ≤ 70000000000000 := by
    have : ∀ t ∈ boolTx, t.length ≤ 70000000000000 := by decide
    exact this t (List.mem_of_getElem? ht)
  have hv : Vars w.heap.size (.slice (some ⟨g, 0, none⟩) (twoV a b).length 2) (twoV a b) w := Vars.row (xs := twoC a b) h.1.1 h.1.2.1 (fun j x hj => by
    match j, hj with
    | 0, hj => simp [twoV] at hj; subst hj; exact ⟨rfl, rfl⟩
    | 1, hj => simp [twoV] at hj; subst hj; exact ⟨rfl, rfl⟩
    | j + 2, hj => simp [twoV] at hj) (by show 2 ≤ _; omega) (Nat.le_refl 2)
  refine Calls.mono (evalA_any t (.slice (some ⟨g, 0, none⟩) 2 2) (twoV a b) w (h.1.2.2.1.mono h.1.2.2.2.size) hv hlen rfl (fun x hx => by
      simp only [twoV, List.mem_cons, List.not_mem_nil, or_false] at hx
      have h1 := text_size a ha0 ha1
      have h2 := text_size b hb0 hb1
      rcases hx with rfl | rfl
      · exact Nat.le_trans h1 (by decide)
      · exact Nat.le_trans h2 (by decide))) ?_
  rintro e w' ⟨rfl, hb⟩
  rw [eval_ok hr he]
  exact ⟨rfl, h.next hb⟩
theorem stdB_start {w0 w1 : World} {xs ys zs : List Value} (hM : Marks w0.heap.size w0) (hb : Below w0.heap.size w0 w1) : StdB w0 w1.heap.size xs ys zs (((w1.alloc (.cells ⟨xs⟩ 39)).alloc (.cells ⟨ys⟩ 9)).alloc (.cells ⟨zs⟩ 4)) := by
  have h1 : StdA w0 w1.heap.size xs (w1.alloc (.cells ⟨xs⟩ 39)) := std_start hM hb rfl rfl
  have b1 : Below (w1.alloc (.cells ⟨xs⟩ 39)).heap.size (w1.alloc (.cells ⟨xs⟩ 39)) ((w1.alloc (.cells ⟨xs⟩ 39)).alloc (.cells ⟨ys⟩ 9)) := (Below.refl _ _).alloc (Nat.le_refl _) _
  have b2 : Below ((w1.alloc (.cells ⟨xs⟩ 39)).alloc (.cells ⟨ys⟩ 9)).heap.size ((w1.alloc (.cells ⟨xs⟩ 39)).alloc (.cells ⟨ys⟩ 9)) (((w1.alloc (.cells ⟨xs⟩ 39)).alloc (.cells ⟨ys⟩ 9)).alloc (.cells ⟨zs⟩ 4)) := (Below.refl _ _).alloc (Nat.le_refl _) _
  refine ⟨(h1.next b1).next b2, ?_, ?_, by simp⟩
  · rw [b2.block _ (by simp), show w1.heap.size + 1 = (w1.alloc (.cells ⟨xs⟩ 39)).heap.size by simp]
    exact heap_alloc_new _ _
  · rw [show w1.heap.size + 2 = ((w1.alloc (.cells ⟨xs⟩ 39)).alloc (.cells ⟨ys⟩ 9)).heap.size by simp]
    exact heap_alloc_new _ _
set_option maxHeartbeats 4000000 in
set_option maxRecDepth 100000 in
theorem arithBools_walk (a : Int) (ha : -9223372036854775808 ≤ a ∧ a ≤ 9223372036854775807) (b : Int) (hb : -9223372036854775808 ≤ b ∧ b ≤ 9223372036854775807) (w : World) (hM : Marks w.heap.size w) :
    Calls Tryd.prog 9 #[.int .i64 a, .int .i64 b] w fun e w' => e = .returned (.bool true) ∧ Below w.heap.size w w' := by
  obtain ⟨ha0, ha1⟩ := ha
  obtain ⟨hb0, hb1⟩ := hb
  have kS := shownA_any w hM
  have kfa : ∀ w, Calls Tryd.prog 22 #[.int .i64 a] w fun e w' => e = .returned (.string (numB a)) ∧ Below w.heap.size w w' := fun w => figuresLaw_any a w ha0 ha1
  have kfb : ∀ w, Calls Tryd.prog 22 #[.int .i64 b] w fun e w' => e = .returned (.string (numB b)) ∧ Below w.heap.size w w' := fun w => figuresLaw_any b w hb0 hb1
  have hcase : ∃ u v s, [decide (a < b), decide (a ≤ b), a == b, a != b, decide (b < a), decide (b ≤ a), u, v, s] = boolWant a b ∧ (((a == 0) = true ∧ (a != 0) = false ∧ u = false ∧ v = (b != 0) ∧ s = true) ∨ ((a == 0) = false ∧ (a != 0) = true ∧ u = (b != 0) ∧ v = true ∧ s = false)) := by
    by_cases h : a = 0
    · subst h
      exact ⟨_, _, _, rfl, .inl ⟨rfl, rfl, rfl, rfl, rfl⟩⟩
    · have h1 : (a == 0) = false := by simpa using h
      have h2 : (a != 0) = true := by simpa using h
      refine ⟨b != 0, true, false, ?_, .inr ⟨h1, h2, rfl, rfl, rfl⟩⟩
      unfold boolWant
      rw [h1, h2]
      rfl
  obtain ⟨u, v, s, hl, hcase⟩ := hcase
  have E := fun (g : Nat) (wr : World) (i : Nat) (t : List UInt8) (q : Bool) (ht : boolTx[i]? = some t) (hq : [decide (a < b), decide (a ≤ b), a == b, a != b, decide (b < a), decide (b ≤ a), u, v, s][i]? = some q) (h : StdB w g (twoC a b) txC (wantC [decide (a < b), decide (a ≤ b), a == b, a != b, decide (b < a), decide (b ≤ a), u, v, s]) wr) => bool_eval a b ha0 ha1 hb0 hb1 _ hl i t q ht hq h
  have hex : ∀ i, i < 9 → ∃ t q, boolTx[i]? = some t ∧ [decide (a < b), decide (a ≤ b), a == b, a != b, decide (b < a), decide (b ≤ a), u, v, s][i]? = some q := fun i hi => by
    match i, hi with
    | 0, _ | 1, _ | 2, _ | 3, _ | 4, _ | 5, _ | 6, _ | 7, _ | 8, _ => exact ⟨_, _, rfl, rfl⟩
  have START : Hid (∀ w1 : World, Below w.heap.size w w1 → StdB w w1.heap.size (twoC a b) txC (wantC [decide (a < b), decide (a ≤ b), a == b, a != b, decide (b < a), decide (b ≤ a), u, v, s]) (((w1.alloc (.cells #[.string ⟨#[97]⟩, .string (numB a), .string ⟨#[98]⟩, .string (numB b)] 39)).alloc (.cells #[.string ⟨#[97, 60, 98]⟩, .string ⟨#[97, 60, 61, 98]⟩, .string ⟨#[97, 61, 61, 98]⟩, .string ⟨#[97, 33, 61, 98]⟩, .string ⟨#[97, 62, 98]⟩, .string ⟨#[97, 62, 61, 98]⟩, .string ⟨#[97, 38, 38, 98]⟩, .string ⟨#[97, 124, 124, 98]⟩, .string ⟨#[33, 97]⟩] 9)).alloc (.cells #[.bool (decide (a < b)), .bool (decide (a ≤ b)), .bool (a == b), .bool (a != b), .bool (decide (b < a)), .bool (decide (b ≤ a)), .bool u, .bool v, .bool s] 4))) := fun w1 hbl => stdB_start hM hbl
  have CEL := Lib.hid (fun (g : Nat) (wr : World) (h : StdB w g (twoC a b) txC (wantC [decide (a < b), decide (a ≤ b), a == b, a != b, decide (b < a), decide (b ≤ a), u, v, s]) wr) => h.cells)
  have HE := Lib.hid E
  have HEX := Lib.hid hex
  clear E hex hl ha0 ha1 hb0 hb1 hM
  obtain ⟨C, hC⟩ : ∃ C, C = twoC a b := ⟨_, rfl⟩
  rw [← hC] at START CEL HE
  clear hC
  generalize numB a = A at *
  generalize numB b = B at *
  rcases hcase with ⟨hp1, hp2, rfl, rfl, rfl⟩ | ⟨hp1, hp2, rfl, rfl, rfl⟩
  all_goals
    go_enter Tryd.func9, Tryd.ntmps9
    go_wp2_with (first
      | (go_at_call 11; (with_reducible refine kS.mono ?_); rintro e w1 ⟨rfl, hbl⟩; have HB := Lib.hid hbl; clear hbl kS)
      | (go_at_call 22; first
          | ((with_reducible refine (kfa _).mono ?_); rintro e w2 ⟨rfl, hbl⟩; have HB2 := Lib.hid (HB.out.trans (hbl.mono HB.out.size)); clear hbl kfa)
          | ((with_reducible refine (kfb _).mono ?_); rintro e w3 ⟨rfl, hbl⟩; have HS := Lib.hid (START.out w3 (HB2.out.trans (hbl.mono HB2.out.size))); clear hbl kfb)))
    go_loopw [9] (fun i wr => ∃ k : Nat, i = .int .i64 (k : Int) ∧ k ≤ 9 ∧ Hid (StdB w w3.heap.size C txC (wantC _) wr)) (fun i _ => 9 - (RowKit.intOf i).toNat)
    case atStart => exact ⟨0, rfl, by decide, HS.out⟩
    case round =>
      obtain ⟨k, rfl, hk, HW⟩ := hrel
      by_cases hlt : k < 9
      · obtain ⟨t, q, ht, hq⟩ := HEX.out k hlt
        obtain ⟨c1, c2⟩ := CEL.out _ _ HW.out k t q ht hq
        have k1 := HE.out _ _ k t q ht hq HW.out
        have CEL2 := Lib.hid (fun (w4 : World) h4 => (CEL.out w3.heap.size w4 h4 k t q ht hq).2)
        generalize (⟨t.toArray⟩ : ByteArray) = T at c1 k1
        clear ht hq
        have hlt' : (k : Int) < 9 := by omega
        cases q
        all_goals
          unfold tellA at k1
          go_wp2_with (go_at_call 13; (with_reducible refine k1.mono ?_); rintro e w4 ⟨rfl, hs2⟩; have d2 := CEL2.out _ hs2; have HS2 := Lib.hid hs2; clear hs2)
          go_roundw
          case rel => exact ⟨k + 1, by go_num, by omega, HS2.out⟩
          case measure => simp [RowKit.intOf]; omega
      · obtain rfl : k = 9 := by omega
        go_wp2
        go_ret
        exact ⟨rfl, HW.out.1.2.2.2⟩
end Go.Proofs.YtaaecgglocgcmaaDoor
