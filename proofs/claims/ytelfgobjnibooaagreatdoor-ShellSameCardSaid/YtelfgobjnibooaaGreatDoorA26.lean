/- Packed texts: RfBrace2, RfSign. What each of them proves stands above its theorems; the conditions stand in these. -/
import Derived.Test.YtelfgobjnibooaaGreatDoorA25
namespace Go.Proofs.YtelfgobjnibooaaGreatDoor
open Go.RowKit Go.Lib
def brKind : Sx → Nat × Sx
 | .at (c :: r) => if c = 58 then (3, ((Sx.at r).run (needS [45])).sx) else if c = 35 then (5, .at r) else if c = 37 then (6, .at r) else (2, .at (c :: r))
 | s => (2, s)
def Sx.till (of : List UInt8) : Sx → List UInt8
 | .at l => runS of l
 | .bad _ => []
def brText (k : Nat) (s : Sx) : List UInt8 := if k = 2 then [] else s.till shBarred
def brPast (k : Nat) (s : Sx) : Sx := if k = 2 then s else s.map (pastS shBarred)
def brEnd (s1 : Sx) : Sx := ((brPast (brKind s1).1 (brKind s1).2).run (needS [125])).sx
theorem withT_fact (k : Nat) (hk : k ≠ 2) (n : List UInt8) (s : Sx) : (∀ l, s = .at l → (withT false k n l).sx = ((brPast k s).run (needS [125])).sx ∧ ∀ y r, withT false k n l = .ok y r → y = ⟨k, false, n, brText k s, []⟩) := by
 rintro l rfl
 unfold withT brPast brText
 rw [if_neg hk, if_neg hk]
 refine ⟨?_, fun y r h => ?_⟩
 ·show ((needS [125] (pastS shBarred l)).bind _).sx = (needS [125] (pastS shBarred l)).sx
  cases needS [125] (pastS shBarred l) <;> rfl
 ·obtain ⟨_, r2, _, h⟩ := bind_ok h
  cases h
  rfl
theorem brTail_fact (n l : List UInt8) : (brTail n l).sx = brEnd (.at l) ∧ ∀ y r, brTail n l = .ok y r → y = ⟨(brKind (.at l)).1, false, n, brText (brKind (.at l)).1 (brKind (.at l)).2, []⟩ := by
 have plain : ∀ l, (∀ c r, l = c :: r → c ≠ 58 ∧ c ≠ 35 ∧ c ≠ 37) → (brTail n l).sx = ((Sx.at l).run (needS [125])).sx ∧ ∀ y r, brTail n l = .ok y r → y = ⟨2, false, n, [], []⟩ := by
  intro l hl
  have hb : brTail n l = (needS [125] l).bind fun _ r => .ok ⟨2, false, n, [], []⟩ r := by
   cases l with
   | nil => rfl
   | cons c r => obtain ⟨h1, h2, h3⟩ := hl c r rfl; exact brTail_else n c r h1 h2 h3
  rw [hb]
  refine ⟨?_, fun y r h => ?_⟩
  ·show _ = (needS [125] l).sx
   cases needS [125] l <;> rfl
  ·obtain ⟨_, r2, _, h⟩ := bind_ok h
   cases h
   rfl
 cases l with
 | nil => exact plain [] (fun c r h => by cases h)
 | cons c r =>
  by_cases h1 : c = 58
  ·subst h1
   have hk : brKind (.at (58 :: r)) = (3, (needS [45] r).sx) := rfl
   have hb : brTail n (58 :: r) = (needS [45] r).bind fun _ r => withT false 3 n r := rfl
   unfold brEnd
   rw [hk, hb]
   cases hn : needS [45] r with
   | bad e => exact ⟨rfl, fun y r h => by cases h⟩
   | ok u r1 => exact withT_fact 3 (by decide) n (.at r1) r1 rfl
  by_cases h2 : c = 35
  ·subst h2
   have hk : brKind (.at (35 :: r)) = (5, .at r) := rfl
   unfold brEnd
   rw [hk]
   exact withT_fact 5 (by decide) n (.at r) r rfl
  by_cases h3 : c = 37
  ·subst h3
   have hk : brKind (.at (37 :: r)) = (6, .at r) := rfl
   unfold brEnd
   rw [hk]
   exact withT_fact 6 (by decide) n (.at r) r rfl
  have hk : brKind (.at (c :: r)) = if c = 58 then (3, ((Sx.at r).run (needS [45])).sx) else if c = 35 then (5, .at r) else if c = 37 then (6, .at r) else (2, .at (c :: r)) := rfl
  rw [if_neg h1, if_neg h2, if_neg h3] at hk
  unfold brEnd
  rw [hk]
  exact plain (c :: r) (fun c' r' h => by cases h; exact ⟨h1, h2, h3⟩)
theorem brAll_fact (l : List UInt8) : ((nameR l).bind brTail).sx = brEnd (nameR l).sx ∧ ∀ v : List UInt8, (∀ y r, nameR l = .ok y r → v = y) → ∀ y r, (nameR l).bind brTail = .ok y r → (⟨(brKind (nameR l).sx).1, false, v, brText (brKind (nameR l).sx).1 (brKind (nameR l).sx).2, []⟩ : Pt) = y := by
 cases hn : nameR l with
 | bad e => exact ⟨rfl, fun v _ y r h => by cases h⟩
 | ok n l1 =>
  obtain ⟨h1, h2⟩ := brTail_fact n l1
  refine ⟨h1, fun v hv y r h => ?_⟩
  rw [hv n l1 rfl]
  exact (h2 y r h).symm
structure BrI (p : Nat) (S : ByteArray) (d g2 g4 : Nat) (W1 : World) (k : Nat) (v T : List UInt8) (s : Sx) (w : World) : Prop where
 ts : TS p S d s w
 mv : Mvr p W1 w
 b4 : w.heap[g4]? = some (.cells #[.int .i64 (k : Int), .bool false, .string ⟨v.toArray⟩, .string ⟨T.toArray⟩, .slice none 0 0] 42 (0, 0))
theorem BrI.cells {p : Nat} {S : ByteArray} {d g2 g4 : Nat} {W1 : World} {k : Nat} {v T : List UInt8} {s : Sx} {w : World} (h : BrI p S d g2 g4 W1 k v T s w) :
  (w.cell? ⟨g4, 0, none⟩ = some (.int .i64 (k : Int)) ∧ w.cell? ⟨g4, 1, none⟩ = some (.bool false) ∧ w.cell? ⟨g4, 2, none⟩ = some (.string ⟨v.toArray⟩) ∧ w.cell? ⟨g4, 3, none⟩ = some (.string ⟨T.toArray⟩) ∧ w.cell? ⟨g4, 4, none⟩ = some (.slice none 0 0)) ∧ (w.frozen? ⟨g4, 0, none⟩ = false ∧ w.frozen? ⟨g4, 3, none⟩ = false) := by
 have hh := h.b4
 exact ⟨⟨by rw [cell_of_heap hh]; rfl, by rw [cell_of_heap hh]; rfl, by rw [cell_of_heap hh]; rfl, by rw [cell_of_heap hh]; rfl, by rw [cell_of_heap hh]; rfl⟩, frozen_of_heap hh _, frozen_of_heap hh _⟩
theorem BrI.below {p : Nat} {S : ByteArray} {d g2 g4 : Nat} {W1 : World} {k : Nat} {v T : List UInt8} {s : Sx} {w w' : World} (h : BrI p S d g2 g4 W1 k v T s w) (hb : Below w.heap.size w w') : BrI p S d g2 g4 W1 k v T s w' :=
 ⟨h.ts.below hb, h.mv.trans (Mvr.of hb h.ts.lt), (hb.block _ (heap_ltR h.b4)).trans h.b4⟩
theorem BrI.moved {p : Nat} {S : ByteArray} {d g2 g4 : Nat} {W1 : World} {k : Nat} {v T : List UInt8} {s s' : Sx} {w w' : World} (h : BrI p S d g2 g4 W1 k v T s w) (hp : p ≠ g4) (ht : TS p S d s' w') (hm : Mvr p w w') : BrI p S d g2 g4 W1 k v T s' w' :=
 ⟨ht, h.mv.trans hm, (hm.high _ (fun e => hp e.symm) (heap_ltR h.b4)).trans h.b4⟩
theorem BrI.kind {p : Nat} {S : ByteArray} {d g2 g4 : Nat} {W1 : World} {k : Nat} {v T : List UInt8} {s : Sx} {w : World} (h : BrI p S d g2 g4 W1 k v T s w) (hp : p < W1.heap.size) (hg : W1.heap.size ≤ g4) (k' : Nat) : BrI p S d g2 g4 W1 k' v T s (w.setCell ⟨g4, 0, none⟩ (.int .i64 (k' : Int))) := by
 have h1 := heap_setCell_same w g4 0 _ _ (.int .i64 (k' : Int)) h.b4
 exact ⟨h.ts.same (Below.heap_setCell _ _ _ _ (by show p ≠ g4; omega)), h.mv.own hg hp 0 _, by simpa using h1⟩
theorem BrI.text {p : Nat} {S : ByteArray} {d g2 g4 : Nat} {W1 : World} {k : Nat} {v T : List UInt8} {s : Sx} {w : World} (h : BrI p S d g2 g4 W1 k v T s w) (hp : p < W1.heap.size) (hg : W1.heap.size ≤ g4) (T' : List UInt8) : BrI p S d g2 g4 W1 k v T' s (w.setCell ⟨g4, 3, none⟩ (.string ⟨T'.toArray⟩)) := by
 have h1 := heap_setCell_same w g4 3 _ _ (.string ⟨T'.toArray⟩) h.b4
 exact ⟨h.ts.same (Below.heap_setCell _ _ _ _ (by show p ≠ g4; omega)), h.mv.own hg hp 3 _, by simpa using h1⟩
theorem barred_lit (c : UInt8) (w : World) : Calls Tryz.prog 52 #[.int .u8 (c.toNat : Int), .string ⟨#[125, 39, 34, 36, 92, 96, 10]⟩] w fun x w' => x = .returned (.bool (shBarred.contains c)) ∧ w = w' := in_any ⟨#[125, 39, 34, 36, 92, 96, 10]⟩ c w (by decide)
theorem conv_byte (W : World) (c : UInt8) : (convert 72 9 (.slice (some ⟨W.heap.size, 0, none⟩) 1 1)).run Tryz.prog (W.alloc (.cells #[.int .u8 (c.toNat : Int)] 5)) = .ok (.string ⟨#[c]⟩) (W.alloc (.cells #[.int .u8 (c.toNat : Int)] 5)) := by
 refine conv_owned (l := [c]) (n := 1) (B := W.heap.size) Tryz.underlying72 Tryz.underlying5 Tryz.underlying9 ⟨rfl, .inr ⟨W.heap.size, 1, _, rfl, Nat.le_refl _, heap_alloc_new W _, Nat.le_refl _, by unfold maxLen; omega, rfl, rfl⟩⟩
set_option maxHeartbeats 4000000 in
set_option maxRecDepth 20000 in
theorem brace_rest (n0 p : Nat) (S : ByteArray) (d : Nat) (l : List UInt8) (w : World) (h : TS p S d (.at l) w) (hS : S.size ≤ 1048576) (hl : atS [35] l = false) :
    Calls Tryz.prog 180 #[.pointer (some ⟨p, 0, none⟩)] w fun e w' => AnsP n0 (braceS l) w e w' ∧ TS p S d (braceS l).sx w' ∧ Mvr p w w' := by
  have hR : braceS l = (nameR l).bind brTail := by unfold braceS; rw [hl]; rfl
  obtain ⟨hX, hV⟩ := brAll_fact l
  rw [← hR] at hX hV
  rw [hX]
  have hp := h.lt
  obtain ⟨W1, hW1⟩ : ∃ W1, W1 = w.alloc (.cells #[.int .i64 0, .bool false, .string ⟨#[]⟩, .string ⟨#[]⟩, .slice none 0 0] 42) := ⟨_, rfl⟩
  have hb1 : Below w.heap.size w W1 := by rw [hW1]; exact (Below.refl _ w).alloc (Nat.le_refl _) _
  have hz1 : w.heap.size < W1.heap.size := by rw [hW1]; simp
  have hp1 : p < W1.heap.size := by omega
  have h1 : TS p S d (.at l) W1 := h.below hb1
  have RES := Lib.hid (fun (w4 : World) (m : Mvr p W1 w4) => (by
    have hh : w4.heap[w.heap.size]? = some (.cells #[.int .i64 0, .bool false, .string ⟨#[]⟩, .string ⟨#[]⟩, .slice none 0 0] 42 (0, 0)) := by
      rw [m.high _ (by omega) hz1, hW1]
      exact heap_alloc_new w _
    exact ⟨hh, by rw [cell_of_heap hh]; rfl, by rw [cell_of_heap hh]; rfl, by rw [cell_of_heap hh]; rfl, by rw [cell_of_heap hh]; rfl, by rw [cell_of_heap hh]; rfl, frozen_of_heap hh _, frozen_of_heap hh _, frozen_of_heap hh _, frozen_of_heap hh _, frozen_of_heap hh _⟩ :
    w4.heap[w.heap.size]? = some (.cells #[.int .i64 0, .bool false, .string ⟨#[]⟩, .string ⟨#[]⟩, .slice none 0 0] 42 (0, 0)) ∧ w4.cell? ⟨w.heap.size, 0, none⟩ = some (.int .i64 0) ∧ w4.cell? ⟨w.heap.size, 1, none⟩ = some (.bool false) ∧ w4.cell? ⟨w.heap.size, 2, none⟩ = some (.string ⟨#[]⟩) ∧ w4.cell? ⟨w.heap.size, 3, none⟩ = some (.string ⟨#[]⟩) ∧ w4.cell? ⟨w.heap.size, 4, none⟩ = some (.slice none 0 0) ∧
      w4.frozen? ⟨w.heap.size, 0, none⟩ = false ∧ w4.frozen? ⟨w.heap.size, 1, none⟩ = false ∧ w4.frozen? ⟨w.heap.size, 2, none⟩ = false ∧ w4.frozen? ⟨w.heap.size, 3, none⟩ = false ∧ w4.frozen? ⟨w.heap.size, 4, none⟩ = false))
  have kc := c_any p S d (.at l) W1 h1 hS
  have KN := Lib.hid (fun (wr : World) (hb : Below W1.heap.size W1 wr) => name_short p S d (.at l) wr (h1.below hb) hS)
  have MN := Lib.hid (fun (wr : World) (hb : Below W1.heap.size W1 wr) => Mvr.of hb hp1)
  have hne : (((Sx.at l).c.toNat : Int) == 35) = false := by
    show (_ == ((35 : UInt8).toNat : Int)) = false
    rw [byte_eq]
    cases l with
    | nil => rfl
    | cons c r => simpa [atS, Sx.c] using hl
  have M0 := Lib.hid (Mvr.of hb1 hp)
  have hrun : (Sx.at l).run nameR = nameR l := rfl
  obtain ⟨s1, hs1⟩ : ∃ s1, (nameR l).sx = s1 := ⟨_, rfl⟩
  obtain ⟨NR, hNR⟩ : ∃ NR, nameR l = NR := ⟨_, rfl⟩
  rw [hrun, hs1, hNR] at KN
  rw [hs1] at hV ⊢
  rw [hNR] at hV
  have HV0 := Lib.hid hV
  have hzw := Lib.hid hz1
  clear h h1 hb1 hX hl hR hs1 hNR hrun hV hz1
  generalize ((Sx.at l).c.toNat : Int) = y at *
  have hp1' := Lib.hid hp1
  have hpp := Lib.hid hp
  rw [hW1] at kc RES M0 KN MN hzw hp1'
  clear hW1 hp1
  go_enter Tryz.func180, Tryz.ntmps180
  go_upto_region 7 with (first
    | (go_at_call 33; (with_reducible refine kc.mono ?_); rintro e w2 ⟨rfl, b2⟩; have k3 := KN.out w2 b2; have M2 := Lib.hid (MN.out w2 b2); clear b2 kc)
    | (go_at_call 115; (with_reducible refine k3.mono ?_); rintro e w3 ⟨⟨v, rfl, hv1, hv2⟩, h3, m3⟩; have M3 := Lib.hid (M2.out.trans m3); have HV := Lib.hid (And.intro hv1 hv2); have H3 := Lib.hid h3; clear h3 m3 k3 hv1 hv2))
  have hz4 := (M3.out).size
  have hI : BrI p S d w.heap.size w3.heap.size (w.alloc (.cells #[.int .i64 0, .bool false, .string ⟨#[]⟩, .string ⟨#[]⟩, .slice none 0 0] 42)) 2 v [] s1 (w3.alloc (.cells #[.int .i64 2, .bool false, .string ⟨v.toArray⟩, .string ⟨#[]⟩, .slice none 0 0] 42)) := ⟨H3.out.below ((Below.refl _ w3).alloc (Nat.le_refl _) _), M3.out.trans (Mvr.of ((Below.refl _ w3).alloc (Nat.le_refl _) _) H3.out.lt), heap_alloc_new w3 _⟩
  generalize w3.alloc (.cells #[.int .i64 2, .bool false, .string ⟨v.toArray⟩, .string ⟨#[]⟩, .slice none 0 0] 42) = W4 at *
  have hpg : p ≠ w3.heap.size := by have := hp1'.out; omega
  have HGW := Lib.hid hz4
  generalize w3.heap.size = g4 at *
  generalize w.alloc (.cells #[.int .i64 0, .bool false, .string ⟨#[]⟩, .string ⟨#[]⟩, .slice none 0 0] 42) = W1' at *
  have HI := Lib.hid hI
  have k4 := c_any p S d s1 W4 hI.ts hS
  have BB := Lib.hid (fun (w2 : World) (b : Below W4.heap.size W4 w2) => hI.below b)
  clear hI H3 M2 M3 hz4 KN MN
  go_upto_block 0 with (go_at_call 33; (with_reducible refine k4.mono ?_); rintro e w5 ⟨rfl, b5⟩; have B5 := Lib.hid (BB.out w5 b5); clear b5 k4)
  go_cut [] (fun wx => Hid (BrI p S d w.heap.size g4 W1' (brKind s1).1 v [] (brKind s1).2 wx))
  case first =>
    clear RES HV0 HV M0
    have HN := Lib.hid hp1'.out
    by_cases hc1 : s1.c = 58
    · obtain ⟨r, rfl⟩ : ∃ r, s1 = .at (58 :: r) := by
        cases s1 with
        | bad e => cases hc1
        | «at» l => cases l with
          | nil => cases hc1
          | cons c r => exact ⟨r, by rw [show c = 58 from hc1]⟩
      have hcc : (Sx.at (58 :: r)).c = 58 := rfl
      have hk : brKind (.at (58 :: r)) = (3, ((Sx.at r).run (needS [45])).sx) := rfl
      rw [hcc]
      obtain ⟨a, hwk, hst⟩ := B5.out.ts.step hS
      obtain ⟨g1, g2, g3, g4'⟩ := hst w5 (Below.refl _ _)
      have H6 := Lib.hid (B5.out.moved hpg g3 g4')
      have k6 := byte1_45 p S d (.at r) _ g3 hS
      have K7 := Lib.hid (fun w7 (h7 : TS p S d ((Sx.at r).run (needS [45])).sx w7) (m7 : Mvr p (w5.setCell ⟨p, 1, none⟩ (.int .i64 ((a : Int) + 1))) w7) => (by
        have h8 := H6.out.moved hpg h7 m7
        exact ⟨h8.cells.1.1, h8.cells.2.1, h8.kind HN.out HGW.out 3⟩ : w7.cell? ⟨g4, 0, none⟩ = some (.int .i64 2) ∧ w7.frozen? ⟨g4, 0, none⟩ = false ∧ BrI p S d w.heap.size g4 W1' 3 v [] ((Sx.at r).run (needS [45])).sx (w7.setCell ⟨g4, 0, none⟩ (.int .i64 3))))
      clear hst g3 g4' hc1 hcc
      go_wp2_with (go_at_call 171; (with_reducible refine k6.mono ?_); rintro e w7 ⟨rfl, h7, m7⟩; obtain ⟨q1, q2, q3⟩ := K7.out w7 h7 m7; have F := Lib.hid q3; clear h7 m7 k6 q3)
      go_meet
      case rel => rw [hk]; exact F
    · have hn1 : ((s1.c.toNat : Int) == 58) = false := by
        show (_ == ((58 : UInt8).toNat : Int)) = false
        rw [byte_eq]; simpa using hc1
      by_cases hc2 : s1.c = 35 ∨ s1.c = 37
      · obtain ⟨c, r, rfl, hcc, kk, hkk⟩ : ∃ c r, s1 = .at (c :: r) ∧ (c = 35 ∨ c = 37) ∧ ∃ kk : Nat, (c = 35 ∧ kk = 5 ∨ c = 37 ∧ kk = 6) := by
          cases s1 with
          | bad e => rcases hc2 with h | h <;> cases h
          | «at» l => cases l with
            | nil => rcases hc2 with h | h <;> cases h
            | cons c r =>
              refine ⟨c, r, rfl, hc2, ?_⟩
              rcases hc2 with h | h
              · exact ⟨5, .inl ⟨h, rfl⟩⟩
              · exact ⟨6, .inr ⟨h, rfl⟩⟩
        obtain ⟨a, hwk, hst⟩ := B5.out.ts.step hS
        obtain ⟨g1, g2, g3, g4'⟩ := hst w5 (Below.refl _ _)
        have h6 := B5.out.moved hpg g3 g4'
        have q1 := h6.cells.1.1
        have q2 := h6.cells.2.1
        rcases hkk with ⟨rfl, rfl⟩ | ⟨rfl, rfl⟩
        · have F := Lib.hid (h6.kind HN.out HGW.out 5)
          have hk : brKind (.at (35 :: r)) = (5, .at r) := rfl
          have hcc2 : (Sx.at (35 :: r)).c = 35 := rfl
          rw [hcc2]
          clear hst g3 g4' h6 hn1 hc1 hc2 hcc hcc2
          go_wp2_with fail
          go_meet
          case rel => rw [hk]; exact F
        · have F := Lib.hid (h6.kind HN.out HGW.out 6)
          have hk : brKind (.at (37 :: r)) = (6, .at r) := rfl
          have hcc2 : (Sx.at (37 :: r)).c = 37 := rfl
          rw [hcc2]
          clear hst g3 g4' h6 hn1 hc1 hc2 hcc hcc2
          go_wp2_with fail
          go_meet
          case rel => rw [hk]; exact F
      · have hn2 : ((s1.c.toNat : Int) == 35) = false := by
          show (_ == ((35 : UInt8).toNat : Int)) = false
          rw [byte_eq]; simpa using fun h => hc2 (.inl h)
        have hn3 : ((s1.c.toNat : Int) == 37) = false := by
          show (_ == ((37 : UInt8).toNat : Int)) = false
          rw [byte_eq]; simpa using fun h => hc2 (.inr h)
        have hk : brKind s1 = (2, s1) := by
          cases s1 with
          | bad e => rfl
          | «at» l => cases l with
            | nil => rfl
            | cons c r =>
              have hk : brKind (.at (c :: r)) = if c = 58 then (3, ((Sx.at r).run (needS [45])).sx) else if c = 35 then (5, .at r) else if c = 37 then (6, .at r) else (2, .at (c :: r)) := rfl
              have hc1 : ¬ c = 58 := hc1
              have hc2 : ¬ (c = 35 ∨ c = 37) := hc2
              rw [if_neg hc1, if_neg (fun h => hc2 (.inl h)), if_neg (fun h => hc2 (.inr h))] at hk
              exact hk
        clear hc1 hc2
        generalize (s1.c.toNat : Int) = y2 at *
        go_wp2_with fail
        go_meet
        case rel => rw [hk]; exact B5
  case rest =>
    clear HI BB
    obtain ⟨k, hk⟩ : ∃ k, (brKind s1).1 = k := ⟨_, rfl⟩
    obtain ⟨s2, hs2⟩ : ∃ s2, (brKind s1).2 = s2 := ⟨_, rfl⟩
    obtain ⟨s3, hs3⟩ : ∃ s3, brPast k s2 = s3 := ⟨_, rfl⟩
    have hE : brEnd s1 = (s3.run (needS [125])).sx := by unfold brEnd; rw [hk, hs2, hs3]
    have hkk : k ≠ 1 := by
      rw [← hk]
      unfold brKind
      split
      · split
        · show (3 : Nat) ≠ 1; omega
        · split
          · show (5 : Nat) ≠ 1; omega
          · split
            · show (6 : Nat) ≠ 1; omega
            · show (2 : Nat) ≠ 1; omega
      · show (2 : Nat) ≠ 1; omega
    rw [hk, hs2] at hcut HV0
    have HT0 : Hid (∀ T, T = brText k s2 → T.length ≤ 1048576) := fun T hT => by
      rw [hT]
      unfold brText
      split
      · simp
      · have hl := cut_size hcut.out.ts hS
        cases s2 with
        | bad e => simp [Sx.till]
        | «at» l =>
          have := run_past_len shBarred l
          show (runS shBarred l).length ≤ _
          have hl : l.length ≤ 1048576 := hl
          omega
    have FIN : Hid (∀ (w' : World) (T : List UInt8), TS p S d (s3.run (needS [125])).sx w' → Mvr p w w' → T = brText k s2 → AnsP n0 (braceS l) w (.returned (.agg #[.int .i64 (k : Int), .bool false, .string ⟨v.toArray⟩, .string ⟨T.toArray⟩, .slice none 0 0])) w' ∧ TS p S d (brEnd s1) w' ∧ Mvr p w w') := fun w' T h1 h2 hT => by
      rw [← hE] at h1
      refine ⟨⟨⟨k, false, v, T, []⟩, none, 0, 0, rfl, cos_nil n0 _ _, rfl, fun y r hy => ?_, HV.out.2, HT0.out T hT, hkk⟩, h1, h2⟩
      rw [hT]
      exact HV0.out v HV.out.1 y r hy
    have HB := hcut
    clear hcut hk hs2 hE HT0 HV0 HV
    by_cases hk2 : k = 2
    · have hs32 : s3 = s2 := by rw [← hs3, hk2]; rfl
      subst hs32
      have HQT : Hid (([] : List UInt8) = brText k s3) := by rw [hk2]; rfl
      have hn2 : ((k : Int) != 2) = false := by rw [hk2]; rfl
      clear hk2
      have hy := HB.out.cells.1.1
      have HBW := HB
      clear hs3 hkk HB
      go_upto_region 22 with fail
      have k8 := byte1_125 p S d s3 wc HBW.out.ts hS
      have K9 := Lib.hid (fun w9 (h9 : TS p S d (s3.run (needS [125])).sx w9) (m9 : Mvr p wc w9) => (by
        have h8 := HBW.out.moved hpg h9 m9
        exact ⟨h8.cells.1, RES.out w9 h8.mv, h9, M0.out.trans h8.mv⟩ : _ ∧ _ ∧ TS p S d (s3.run (needS [125])).sx w9 ∧ Mvr p w w9))
      go_wp2_with (go_at_call 171; (with_reducible refine k8.mono ?_); rintro e w9 ⟨rfl, h9, m9⟩; obtain ⟨⟨x0, x1, x2, x3, x4⟩, ⟨rh, r0, r1, r2, r3, r4, f0, f1, f2, f3, f4⟩, t9, m10⟩ := K9.out w9 h9 m9; have RH := Lib.hid (And.intro rh (And.intro t9 m10)); clear h9 m9 k8 rh t9 m10)
      have FF := five_facts p S d _ w w9 w.heap.size (.int .i64 (k : Int)) (.bool false) (.string ⟨v.toArray⟩) (.string ⟨([] : List UInt8).toArray⟩) (.slice none 0 0) _ _ _ _ _ _ RH.out.1 RH.out.2.1 RH.out.2.2 (Nat.le_refl _) hpp.out
      refine bodyPost_ret (v := .agg _) (results_cell_row (p := 2) (ty := 42) Tryz.results180 _ _ w.heap.size 42 _ (0, 0) _ rfl FF.1 Tryz.underlying42 rfl Tryz.infoPartS) rfl (FIN.out _ ([] : List UInt8) FF.2.1 FF.2.2 HQT.out)
    · have hn2 : ((k : Int) != 2) = true := by simp; omega
      have hy := HB.out.cells.1.1
      have hT2 : brText k s2 = s2.till shBarred := if_neg hk2
      have hS2 : s2.map (pastS shBarred) = s3 := by rw [← hs3]; exact (if_neg hk2).symm
      have KE := Lib.hid (fun (t : Sx) (wr : World) (ht : TS p S d t wr) => end_any p S d t wr ht hS)
      have KC := Lib.hid (fun (t : Sx) (wr : World) (ht : TS p S d t wr) => c_any p S d t wr ht hS)
      have HN := Lib.hid hp1'.out
      have H0 := Lib.hid (And.intro (show ([] : List UInt8) ++ s2.till shBarred = brText k s2 from hT2.symm) hS2)
      have hsz := cut_size HB.out.ts hS
      clear hs3 hT2 hS2 hk2
      go_upto_block 1 with fail
      go_cut [] (fun wx => ∃ T : List UInt8, Hid (T = brText k s2) ∧ Hid (BrI p S d w.heap.size g4 W1' k v T s3 wx))
      case first =>
        go_wp2_with fail
        go_loopg [] (s2.len + 1) (fun q wr => ∃ (t : Sx) (T : List UInt8), Hid (BrI p S d w.heap.size g4 W1' k v T t wr) ∧ Hid (T ++ t.till shBarred = brText k s2 ∧ t.map (pastS shBarred) = s3) ∧ T.length + t.len ≤ 1048576 ∧ Hid (q = t.len + 1))
        case atStart => exact ⟨s2, [], HB, H0, by simpa using hsz, rfl⟩
        case round =>
          obtain ⟨t, T, HI, HJ, hlen, HQ⟩ := hrel
          have ke := KE.out t wr HI.out.ts
          clear H0 HB hy hsz
          by_cases hq : t.end = true
          · have hE : T = brText k s2 ∧ t = s3 := by
              obtain ⟨j1, j2⟩ := HJ.out
              rw [← j1, ← j2]
              cases t with
              | bad e => exact ⟨by simp [Sx.till], rfl⟩
              | «at» l => cases l with
                | nil => exact ⟨by simp [Sx.till, runS], rfl⟩
                | cons c r => cases hq
            obtain ⟨hE1, rfl⟩ := hE
            have F1 := Lib.hid hE1
            have FN := Lib.hid (fun w1 (hb : Below wr.heap.size wr w1) => HI.out.below hb)
            rw [hq] at ke
            clear hE1 hq HJ
            go_wp2_with (go_at_call 32; (with_reducible refine ke.mono ?_); rintro e w1 ⟨rfl, b1⟩; have F := Lib.hid (FN.out w1 b1); clear b1 ke)
            go_meet
            case rel => exact ⟨T, F1, F⟩
          · obtain ⟨c, r, rfl⟩ : ∃ c r, t = .at (c :: r) := by
              cases t with
              | bad e => exact absurd rfl hq
              | «at» l => cases l with
                | nil => exact absurd rfl hq
                | cons c r => exact ⟨c, r, rfl⟩
            have hq : (Sx.at (c :: r)).end = false := rfl
            rw [hq] at ke
            have hcc : (Sx.at (c :: r)).c = c := rfl
            have kc := Lib.hid (fun w1 (hb : Below wr.heap.size wr w1) => KC.out _ w1 (HI.out.below hb).ts)
            rw [hcc] at kc
            have KI := Lib.hid (fun (w : World) => barred_lit c w)
            obtain ⟨z, hz⟩ : ∃ z, shBarred.contains c = z := ⟨_, rfl⟩
            rw [hz] at KI
            cases z
            · have hrs := run_next hz r
              have HJ2 : Hid ((T ++ [c]) ++ (Sx.at r).till shBarred = brText k s2 ∧ (Sx.at r).map (pastS shBarred) = s3) := by
                obtain ⟨j1, j2⟩ := HJ.out
                refine ⟨?_, ?_⟩
                · rw [← j1]
                  show T ++ [c] ++ runS shBarred r = T ++ runS shBarred (c :: r)
                  rw [hrs.1]; simp
                · rw [← j2]
                  show Sx.at (pastS shBarred r) = Sx.at (pastS shBarred (c :: r))
                  rw [hrs.2]
              have BW := Lib.hid (fun w1 (hb : Below wr.heap.size wr w1) => HI.out.below hb)
              have hlen2 : T.length + (r.length + 1) ≤ 1048576 := hlen
              have HC : Hid (gk = (c :: r).length + 1) := HQ
              have CNV := Lib.hid (fun W => conv_byte W c)
              have hap := arr_app T [c]
              have hz1 : (⟨T.toArray⟩ : ByteArray).size ≤ 1048576 := by rw [arr_size]; omega
              have cqa : ∀ w, (Op.stringOp .add (⟨T.toArray⟩ : ByteArray) (⟨#[c]⟩ : ByteArray)).run Tryz.prog w = .ok (.string (⟨(T ++ [c]).toArray⟩ : ByteArray)) w := fun w => by
                rw [← hap]
                exact run_string_add_sum w _ _ (by rw [show (⟨#[c]⟩ : ByteArray).size = 1 from rfl]; omega)
              have hcN := Lib.hid (rfl : (c.toNat : Int) = (c.toNat : Int))
              clear hz hq HJ hlen hrs HQ hcc hap
              go_upto_region 20 with (first
                | (go_at_call 32; (with_reducible refine ke.mono ?_); rintro e w1 ⟨rfl, b1⟩; have k2 := kc.out w1 b1; have B1 := Lib.hid b1; clear b1 ke)
                | (go_at_call 33; (with_reducible refine k2.mono ?_); rintro e w2 ⟨rfl, b2⟩; have B2 := Lib.hid (below2 B1.out b2); clear b2 k2)
                | (go_at_call 52; (with_reducible refine (KI.out _).mono ?_); rintro e w3 ⟨rfl, rfl⟩))
              obtain ⟨⟨x0, x1, x2, x3, x4⟩, f0, f3⟩ := (BW.out w2 B2.out).cells
              have k5 := kc.out w2.drew B2.out.drew
              go_region_law (go_simp; go_at_call 33; (with_reducible refine k5.mono ?_); rintro e w4 ⟨rfl, b4⟩; have B4 := Lib.hid (below2 B2.out.drew b4); obtain ⟨⟨y0, y1, y2, y3, y4⟩, h0, h3⟩ := (BW.out w4 (below2 B2.out.drew b4)).cells; have cv := CNV.out w4; have BA := Lib.hid ((B4.out).alloc (B4.out.size) (.cells #[.int .u8 (c.toNat : Int)] 5)); obtain ⟨⟨-, -, -, z3, -⟩, -, zf⟩ := (BW.out _ BA.out).cells; clear b4)
              all_goals
                have HBA := Lib.hid ((BW.out _ BA.out).text HN.out HGW.out (T ++ [c]))
                obtain ⟨a2, hwk2, hst2⟩ := HBA.out.ts.step hS
                obtain ⟨g1, g2, g3, g4'⟩ := hst2 _ (Below.refl _ _)
                have G := Lib.hid (HBA.out.moved hpg g3 g4')
                clear hst2 g3 g4'
                go_wp2_with fail
                go_roundg (r.length + 1)
                case rel => exact ⟨.at r, T ++ [c], G, HJ2, by show (T ++ [c]).length + r.length ≤ _; rw [List.length_append]; show T.length + 1 + r.length ≤ _; omega, rfl⟩
                case measure => have h1 := HC.out; rw [List.length_cons] at h1; omega
            · have hE : T = brText k s2 ∧ Sx.at (c :: r) = s3 := by
                obtain ⟨j1, j2⟩ := HJ.out
                rw [← j1, ← j2]
                have hrs := run_stop hz r
                exact ⟨by show T = T ++ runS shBarred (c :: r); rw [hrs.1]; simp, by show _ = Sx.at (pastS shBarred (c :: r)); rw [hrs.2]⟩
              obtain ⟨hE1, hE2⟩ := hE
              have F1 := Lib.hid hE1
              have FN := Lib.hid (fun w1 (hb : Below wr.heap.size wr w1) => (by rw [← hE2]; exact HI.out.below hb : BrI p S d w.heap.size g4 W1' k v T s3 w1))
              clear hE1 hE2 hq HJ hz hcc
              generalize (c.toNat : Int) = y3 at *
              go_wp2_with (first
                | (go_at_call 32; (with_reducible refine ke.mono ?_); rintro e w1 ⟨rfl, b1⟩; have k2 := kc.out w1 b1; have B1 := Lib.hid b1; clear b1 ke)
                | (go_at_call 33; (with_reducible refine k2.mono ?_); rintro e w2 ⟨rfl, b2⟩; have F := Lib.hid (FN.out w2 (below2 B1.out b2)); clear b2 k2)
                | (go_at_call 52; (with_reducible refine (KI.out _).mono ?_); rintro e w3 ⟨rfl, rfl⟩))
              go_meet
              case rel => exact ⟨T, F1, F⟩
      case rest =>
        obtain ⟨T, HQT, HBW⟩ := hcut
        have k8 := byte1_125 p S d s3 wc HBW.out.ts hS
        have K9 := Lib.hid (fun w9 (h9 : TS p S d (s3.run (needS [125])).sx w9) (m9 : Mvr p wc w9) => (by
          have h8 := HBW.out.moved hpg h9 m9
          exact ⟨h8.cells.1, RES.out w9 h8.mv, h9, M0.out.trans h8.mv⟩ : _ ∧ _ ∧ TS p S d (s3.run (needS [125])).sx w9 ∧ Mvr p w w9))
        go_wp2_with (go_at_call 171; (with_reducible refine k8.mono ?_); rintro e w9 ⟨rfl, h9, m9⟩; obtain ⟨⟨x0, x1, x2, x3, x4⟩, ⟨rh, r0, r1, r2, r3, r4, f0, f1, f2, f3, f4⟩, t9, m10⟩ := K9.out w9 h9 m9; have RH := Lib.hid (And.intro rh (And.intro t9 m10)); clear h9 m9 k8 rh t9 m10)
        have FF := five_facts p S d _ w w9 w.heap.size (.int .i64 (k : Int)) (.bool false) (.string ⟨v.toArray⟩) (.string ⟨T.toArray⟩) (.slice none 0 0) _ _ _ _ _ _ RH.out.1 RH.out.2.1 RH.out.2.2 (Nat.le_refl _) hpp.out
        refine bodyPost_ret (v := .agg _) (results_cell_row (p := 2) (ty := 42) Tryz.results180 _ _ w.heap.size 42 _ (0, 0) _ rfl FF.1 Tryz.underlying42 rfl Tryz.infoPartS) rfl (FIN.out _ T FF.2.1 FF.2.2 HQT.out)
end Go.Proofs.YtelfgobjnibooaaGreatDoor
namespace Go.Proofs.YtelfgobjnibooaaGreatDoor
open Go.RowKit Go.Lib
set_option maxHeartbeats 1000000 in
theorem c_quiet (p : Nat) (S : ByteArray) (d : Nat) (s : Sx) (w : World) (h : TS p S d s w) (_hS : S.size ≤ 1048576) :
  Calls Tryz.prog 33 #[.pointer (some ⟨p, 0, none⟩)] w fun x w' => x = .returned (.int .u8 (s.c.toNat : Int)) ∧ ∃ m, w' = w.drewN m := by
 cases s with
 | bad b =>
  obtain ⟨hb, a, h, ha⟩ := h
  obtain ⟨⟨c0, c1, c2, c3⟩, f1, f2, f3⟩ := h.cells
  have hb2 : (b != 0) = true := by simp [hb]
  clear h
  show Calls _ _ _ _ fun x w' => x = .returned (.int .u8 0) ∧ _
  go_enter Tryz.func33, Tryz.ntmps33
  go_wp2_with fail
  go_quiet (fail)
  go_wp2
  go_ret
  exact ⟨rfl, _, rfl⟩
 | «at» l =>
  obtain ⟨a, h, ha, hl⟩ := h
  obtain ⟨⟨c0, c1, c2, c3⟩, f1, f2, f3⟩ := h.cells
  clear h
  cases l with
  | nil =>
   have hn := restR_nil ha hl
   have hn1 : (S.size : Int) ≤ (a : Int) := by omega
   have hn2 : decide ((S.size : Int) ≤ (a : Int)) = true := decide_eq_true hn1
   have hn3 : decide (S.size ≤ a) = true := decide_eq_true (by omega)
   clear hn hl
   show Calls _ _ _ _ fun x w' => x = .returned (.int .u8 0) ∧ _
   go_enter Tryz.func33, Tryz.ntmps33
   go_wp2_with fail
   go_quiet (fail)
   go_wp2
   go_ret
   exact ⟨rfl, _, rfl⟩
  | cons c r =>
   obtain ⟨hlt, hc, _⟩ := restR hl
   have hn1 : ¬ (S.size : Int) ≤ (a : Int) := by omega
   have hn2 : decide ((S.size : Int) ≤ (a : Int)) = false := decide_eq_false hn1
   have hn3 : decide (S.size ≤ a) = false := decide_eq_false (by omega)
   have hn4 : ¬ S.size ≤ a := by omega
   clear hl ha
   show Calls _ _ _ _ fun x w' => x = .returned (.int .u8 (c.toNat : Int)) ∧ _
   go_enter Tryz.func33, Tryz.ntmps33
   go_wp2_with fail
   go_quiet (fail)
   go_wp2
   go_quiet (fail)
   go_wp2
   go_ret
   exact ⟨rfl, _, World.drewN_drewN _ _ _⟩
theorem BrI.nam {p : Nat} {S : ByteArray} {d g2 g4 : Nat} {W1 : World} {k : Nat} {v T : List UInt8} {s : Sx} {w : World} (h : BrI p S d g2 g4 W1 k v T s w) (hp : p < W1.heap.size) (hg : W1.heap.size ≤ g4) (v' : List UInt8) : BrI p S d g2 g4 W1 k v' T s (w.setCell ⟨g4, 2, none⟩ (.string ⟨v'.toArray⟩)) ∧ w.frozen? ⟨g4, 2, none⟩ = false := by
 have h1 := heap_setCell_same w g4 2 _ _ (.string ⟨v'.toArray⟩) h.b4
 exact ⟨⟨h.ts.same (Below.heap_setCell _ _ _ _ (by show p ≠ g4; omega)), h.mv.own hg hp 2 _, by simpa using h1⟩, frozen_of_heap h.b4 _⟩
theorem quote_lit (c : UInt8) (w : World) : Calls Tryz.prog 52 #[.int .u8 (c.toNat : Int), .string ⟨#[39, 34, 36, 92, 96]⟩] w fun x w' => x = .returned (.bool (shQuote.contains c)) ∧ w = w' := in_any ⟨#[39, 34, 36, 92, 96]⟩ c w (by decide)
def dblR (l : List UInt8) : Rr Pt := (reckS l).bind fun s r => .ok ⟨8, false, s, [], []⟩ r
def RecIF (l0 : List UInt8) (o : Nat) (T : List UInt8) : Sx → Prop
 | .at m => recS 0 l0 = (recS o m).map fun p => (T ++ p.1, p.2)
 | .bad _ => False
def dblEnd (s : Sx) : Sx := ((s.run (needS [41])).sx.run (needS [41])).sx
theorem need_need (r : List UInt8) : ((Sx.at (41 :: r)).run (needS [41])).sx = .at r := by
 show (needS [41] (41 :: r)).sx = _
 rw [byteX_ok]; rfl
theorem dbl_some {l0 T r : List UInt8} (h : recS 0 l0 = some (T, 41 :: r)) : (dblR l0).sx = dblEnd (.at (41 :: r)) ∧ ∀ y r', dblR l0 = .ok y r' → (⟨8, false, T, [], []⟩ : Pt) = y := by
 have e : dblR l0 = (needS [41] r).bind fun _ r' => .ok ⟨8, false, T, [], []⟩ r' := by
  unfold dblR reckS
  rw [h]
  dsimp only
  have : needS [41, 41] (41 :: r) = needS [41] r := by
   unfold needS
   rw [take_two, if_pos rfl]
  rw [this]
  cases needS [41] r <;> rfl
 unfold dblEnd
 rw [need_need, e]
 refine ⟨?_, fun y r' h => ?_⟩
 ·show _ = (needS [41] r).sx
  cases needS [41] r <;> rfl
 ·obtain ⟨_, r2, _, h⟩ := bind_ok h
  cases h
  rfl
theorem dbl_none {l0 m : List UInt8} (h : recS 0 l0 = none) (hm : ∀ r, m ≠ 41 :: r) : (dblR l0).sx = dblEnd (.at m) ∧ ∀ y r', dblR l0 ≠ .ok y r' := by
 have e : dblR l0 = .bad 9 := by unfold dblR reckS; rw [h]; rfl
 rw [e]
 refine ⟨?_, fun y r' h => by cases h⟩
 have : needS [41] m = .bad 9 := by
  cases m with
  | nil => rfl
  | cons c r => exact byteX_no 41 c r (fun e => hm r (by rw [e]))
 show _ = (((needS [41] m).sx).run (needS [41])).sx
 rw [this]
 rfl
theorem rec_cases (o : Nat) (c : UInt8) (r : List UInt8) :
  (shQuote.contains c = true ∧ recS o (c :: r) = none) ∨ (shQuote.contains c = false ∧ c = 41 ∧ o = 0 ∧ recS o (c :: r) = some ([], c :: r)) ∨
  (shQuote.contains c = false ∧ (c ≠ 41 ∨ 0 < o) ∧ ∃ o', o' ≤ o + 1 ∧ (o' : Int) = (if c = 40 then (o : Int) + 1 else if c = 41 then (o : Int) - 1 else (o : Int)) ∧ recS o (c :: r) = (recS o' r).map fun p => (c :: p.1, p.2)) := by
 have e0 : recS o (c :: r) = if shQuote.contains c then none
  else if c = 40 then (recS (o + 1) r).map fun p => (c :: p.1, p.2)
  else if c = 41 then match o with
   | 0 => some ([], c :: r)
   | o + 1 => (recS o r).map fun p => (c :: p.1, p.2)
  else (recS o r).map fun p => (c :: p.1, p.2) := by rw [recS.eq_def]; cases o <;> rfl
 cases hq : shQuote.contains c with
 | true => exact .inl ⟨rfl, by rw [e0, hq]; rfl⟩
 | false =>
  rw [hq] at e0
  by_cases h1 : c = 40
  ·exact .inr (.inr ⟨rfl, .inl (by rw [h1]; decide), o + 1, by omega, by rw [if_pos h1]; omega, by rw [e0, if_neg (by simp), if_pos h1]⟩)
  ·by_cases h2 : c = 41
   ·cases o with
    | zero => exact .inr (.inl ⟨rfl, h2, rfl, by rw [e0, if_neg (by simp), if_neg h1, if_pos h2]⟩)
    | succ o => exact .inr (.inr ⟨rfl, .inr (by omega), o, by omega, by rw [if_neg h1, if_pos h2]; omega, by rw [e0, if_neg (by simp), if_neg h1, if_pos h2]⟩)
   ·exact .inr (.inr ⟨rfl, .inl h2, o, by omega, by rw [if_neg h1, if_neg h2], by rw [e0, if_neg (by simp), if_neg h1, if_neg h2]⟩)
end Go.Proofs.YtelfgobjnibooaaGreatDoor
