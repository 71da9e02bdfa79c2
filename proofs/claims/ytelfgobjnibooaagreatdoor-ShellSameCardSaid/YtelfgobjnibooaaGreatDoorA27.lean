/- Packed texts: RfDouble, RfSign2. What each of them proves stands above its theorems; the conditions stand in these. -/
import Derived.Test.YtelfgobjnibooaaGreatDoorA26
namespace Go.Proofs.YtelfgobjnibooaaGreatDoor
open Go.RowKit Go.Lib
set_option maxHeartbeats 4000000 in
set_option maxRecDepth 20000 in
theorem doubleF_any (n0 p : Nat) (S : ByteArray) (d : Nat) (l : List UInt8) (w : World) (h : TS p S d (.at l) w) (hS : S.size ≤ 1048576) :
  Calls Tryz.prog 179 #[.pointer (some ⟨p, 0, none⟩)] w fun e w' => AnsP n0 (dblR l) w e w' ∧ TS p S d (dblR l).sx w' ∧ Mvr p w w' := by
 have hp := h.lt
 obtain ⟨W1, hW1⟩ : ∃ W1, W1 = w.alloc (.cells #[.int .i64 0, .bool false, .string ⟨#[]⟩, .string ⟨#[]⟩, .slice none 0 0] 42) := ⟨_, rfl⟩
 have hb1 : Below w.heap.size w W1 := by rw [hW1]; exact (Below.refl _ w).alloc (Nat.le_refl _) _
 have hz1 : W1.heap.size = w.heap.size + 1 := by rw [hW1]; simp
 have hp1 : p < W1.heap.size := by omega
 have h1 : TS p S d (.at l) W1 := h.below hb1
 have RES := Lib.hid (fun (w4 : World) (m : Mvr p W1 w4) => (by
  have hh : w4.heap[w.heap.size]? = some (.cells #[.int .i64 0, .bool false, .string ⟨#[]⟩, .string ⟨#[]⟩, .slice none 0 0] 42 (0, 0)) := by
   rw [m.high _ (by omega) (by omega), hW1]
   exact heap_alloc_new w _
  exact ⟨hh, by rw [cell_of_heap hh]; rfl, by rw [cell_of_heap hh]; rfl, by rw [cell_of_heap hh]; rfl, by rw [cell_of_heap hh]; rfl, by rw [cell_of_heap hh]; rfl, frozen_of_heap hh _, frozen_of_heap hh _, frozen_of_heap hh _, frozen_of_heap hh _, frozen_of_heap hh _⟩ :
  w4.heap[w.heap.size]? = some (.cells #[.int .i64 0, .bool false, .string ⟨#[]⟩, .string ⟨#[]⟩, .slice none 0 0] 42 (0, 0)) ∧ w4.cell? ⟨w.heap.size, 0, none⟩ = some (.int .i64 0) ∧ w4.cell? ⟨w.heap.size, 1, none⟩ = some (.bool false) ∧ w4.cell? ⟨w.heap.size, 2, none⟩ = some (.string ⟨#[]⟩) ∧ w4.cell? ⟨w.heap.size, 3, none⟩ = some (.string ⟨#[]⟩) ∧ w4.cell? ⟨w.heap.size, 4, none⟩ = some (.slice none 0 0) ∧
   w4.frozen? ⟨w.heap.size, 0, none⟩ = false ∧ w4.frozen? ⟨w.heap.size, 1, none⟩ = false ∧ w4.frozen? ⟨w.heap.size, 2, none⟩ = false ∧ w4.frozen? ⟨w.heap.size, 3, none⟩ = false ∧ w4.frozen? ⟨w.heap.size, 4, none⟩ = false))
 have M0 := Lib.hid (Mvr.of hb1 hp)
 have hI0 : BrI p S d w.heap.size (w.heap.size + 1) W1 8 [] [] (.at l) (W1.alloc (.cells #[.int .i64 8, .bool false, .string ⟨#[]⟩, .string ⟨#[]⟩, .slice none 0 0] 42)) := by
  refine ⟨h1.below ((Below.refl _ W1).alloc (Nat.le_refl _) _), Mvr.of ((Below.refl _ W1).alloc (Nat.le_refl _) _) hp1, ?_⟩
  rw [← hz1]
  exact heap_alloc_new W1 _
 have HI0 := Lib.hid hI0
 have HN := Lib.hid hp1
 have HGW : Hid (W1.heap.size ≤ w.heap.size + 1) := Nat.le_of_eq hz1
 have hpp := Lib.hid hp
 have hsz := cut_size h hS
 have hlen : l.length ≤ 1048576 := hsz
 have hpg : p ≠ w.heap.size + 1 := by omega
 have KE := Lib.hid (fun (t : Sx) (wr : World) (ht : TS p S d t wr) => end_any p S d t wr ht hS)
 have KC := Lib.hid (fun (t : Sx) (wr : World) (ht : TS p S d t wr) => c_any p S d t wr ht hS)
 have KB := Lib.hid (fun (t : Sx) (wr : World) (ht : TS p S d t wr) => byte1_41 p S d t wr ht hS)
 have FIN : Hid (∀ (w' : World) (T : List UInt8) (t : Sx), TS p S d (dblEnd t) w' → Mvr p w w' → T.length ≤ 1048576 → ((dblR l).sx = dblEnd t ∧ ∀ y r, dblR l = .ok y r → (⟨8, false, T, [], []⟩ : Pt) = y) → AnsP n0 (dblR l) w (.returned (.agg #[.int .i64 8, .bool false, .string ⟨T.toArray⟩, .string ⟨#[]⟩, .slice none 0 0])) w' ∧ TS p S d (dblR l).sx w' ∧ Mvr p w w') := fun w' T t h1 h2 hT hR =>
  ⟨⟨⟨8, false, T, [], []⟩, none, 0, 0, rfl, cos_nil n0 _ _, rfl, hR.2, hT, by simp, by show (8 : Nat) ≠ 1; omega⟩, by rw [hR.1]; exact h1, h2⟩
 rw [hW1] at RES M0 HI0 HN HGW
 clear h h1 hb1 hz1 hp1 hW1 hI0 hsz
 go_enter Tryz.func179, Tryz.ntmps179
 go_upto_block 0 with fail
 generalize w.alloc (.cells #[.int .i64 0, .bool false, .string ⟨#[]⟩, .string ⟨#[]⟩, .slice none 0 0] 42) = W1' at *
 generalize W1'.alloc (.cells #[.int .i64 8, .bool false, .string ⟨#[]⟩, .string ⟨#[]⟩, .slice none 0 0] 42) = W4 at *
 generalize w.heap.size + 1 = g4 at *
 go_cut [4] (fun s4 wx => ∃ (T : List UInt8) (t : Sx) (o : Int), s4 = .int .i64 o ∧ Hid (BrI p S d w.heap.size g4 W1' 8 T [] t wx) ∧ T.length ≤ 1048576 ∧ Hid ((dblR l).sx = dblEnd t ∧ ∀ y r, dblR l = .ok y r → (⟨8, false, T, [], []⟩ : Pt) = y))
 case first =>
  clear RES M0 FIN KB
  go_wp2_with fail
  go_loopg [4] (l.length + 1) (fun q s4 wr => ∃ (m : List UInt8) (T : List UInt8) (o : Nat), s4 = .int .i64 (o : Int) ∧ Hid (BrI p S d w.heap.size g4 W1' 8 T [] (.at m) wr) ∧ Hid (RecIF l o T (.at m)) ∧ T.length + m.length ≤ 1048576 ∧ o ≤ T.length ∧ Hid (q = m.length + 1))
  case atStart => exact ⟨l, [], 0, rfl, HI0, Lib.hid (by show recS 0 l = (recS 0 l).map _; simp), by simpa using hlen, Nat.le_refl _, rfl⟩
  case round =>
   obtain ⟨m, T, o, rfl, HI, HJ, hln, hoT, HQ⟩ := hrel
   have ke := KE.out (.at m) wr HI.out.ts
   clear HI0
   cases m with
   | nil =>
    have hE := dbl_none (m := []) (show recS 0 l = none from HJ.out) (fun r h => by cases h)
    have F1 : Hid ((dblR l).sx = dblEnd (.at []) ∧ ∀ y r, dblR l = .ok y r → (⟨8, false, T, [], []⟩ : Pt) = y) := ⟨hE.1, fun y r h => absurd h (hE.2 y r)⟩
    have FN := Lib.hid (fun w1 (hb : Below wr.heap.size wr w1) => HI.out.below hb)
    have hq : (Sx.at []).end = true := rfl
    rw [hq] at ke
    clear hE hq HJ
    go_wp2_with (go_at_call 32; (with_reducible refine ke.mono ?_); rintro e w1 ⟨rfl, b1⟩; have F := Lib.hid (FN.out w1 b1); clear b1 ke)
    go_meet
    case rel => exact ⟨T, .at [], _, rfl, F, by omega, F1⟩
   | cons c r =>
    have hq : (Sx.at (c :: r)).end = false := rfl
    rw [hq] at ke
    have hcc : (Sx.at (c :: r)).c = c := rfl
    have kc := Lib.hid (fun w1 (hb : Below wr.heap.size wr w1) => KC.out _ w1 (HI.out.below hb).ts)
    rw [hcc] at kc
    have KI := Lib.hid (fun (w : World) => quote_lit c w)
    have HJ' : recS 0 l = (recS o (c :: r)).map fun p => (T ++ p.1, p.2) := HJ.out
    have FN := Lib.hid (fun w1 (hb : Below wr.heap.size wr w1) => HI.out.below hb)
    rcases rec_cases o c r with ⟨hz, hrec⟩ | ⟨hz, hc, rfl, hrec⟩ | ⟨hz, hcond, o', ho', hoI, hrec⟩
    ·rw [hz] at KI
     rw [hrec] at HJ'
     have hc41 : c ≠ 41 := by intro e; subst e; revert hz; decide
     have hE := dbl_none (m := c :: r) HJ' (fun r' h => hc41 (List.cons.inj h).1)
     have F1 : Hid ((dblR l).sx = dblEnd (.at (c :: r)) ∧ ∀ y r', dblR l = .ok y r' → (⟨8, false, T, [], []⟩ : Pt) = y) := ⟨hE.1, fun y r h => absurd h (hE.2 y r)⟩
     clear hE hq HJ HJ' hz hcc hrec hc41
     generalize (c.toNat : Int) = y3 at *
     go_wp2_with (first
      | (go_at_call 32; (with_reducible refine ke.mono ?_); rintro e w1 ⟨rfl, b1⟩; have k2 := kc.out w1 b1; have B1 := Lib.hid b1; clear b1 ke)
      | (go_at_call 33; (with_reducible refine k2.mono ?_); rintro e w2 ⟨rfl, b2⟩; have F := Lib.hid (FN.out w2 (below2 B1.out b2)); clear b2 k2)
      | (go_at_call 52; (with_reducible refine (KI.out _).mono ?_); rintro e w3 ⟨rfl, rfl⟩))
     go_meet
     case rel => exact ⟨T, .at (c :: r), _, rfl, F, by omega, F1⟩
    ·rw [hz] at KI
     rw [hrec] at HJ'
     have hE := dbl_some (T := T) (r := r) (by rw [HJ', hc]; simp)
     rw [← hc] at hE
     have F1 : Hid ((dblR l).sx = dblEnd (.at (c :: r)) ∧ ∀ y r', dblR l = .ok y r' → (⟨8, false, T, [], []⟩ : Pt) = y) := hE
     have hn41 : ((c.toNat : Int) != 41) = false := by rw [hc]; rfl
     clear hE hq HJ HJ' hz hcc hrec hc
     generalize (c.toNat : Int) = y3 at *
     go_wp2_with (first
      | (go_at_call 32; (with_reducible refine ke.mono ?_); rintro e w1 ⟨rfl, b1⟩; have k2 := kc.out w1 b1; have B1 := Lib.hid b1; clear b1 ke)
      | (go_at_call 33; (with_reducible refine k2.mono ?_); rintro e w2 ⟨rfl, b2⟩; have B2 := Lib.hid (below2 B1.out b2); have k4 := kc.out w2 (below2 B1.out b2); clear b2 k2)
      | (go_at_call 33; (with_reducible refine k4.mono ?_); rintro e w5 ⟨rfl, b2⟩; have F := Lib.hid (FN.out w5 (below2 B2.out b2)); clear b2 k4)
      | (go_at_call 52; (with_reducible refine (KI.out _).mono ?_); rintro e w3 ⟨rfl, rfl⟩))
     go_meet
     case rel => exact ⟨T, .at (c :: r), _, rfl, F, by omega, F1⟩
    ·rw [hz] at KI
     have HJ2 : Hid (RecIF l o' (T ++ [c]) (.at r)) := by
      show recS 0 l = (recS o' r).map _
      rw [HJ', hrec, Option.map_map]
      congr 1
      funext q
      simp
     have hlen2 : T.length + (r.length + 1) ≤ 1048576 := hln
     have HC : Hid (gk = (c :: r).length + 1) := HQ
     have CNV := Lib.hid (fun W => conv_byte W c)
     have hap := arr_app T [c]
     have hz1 : (⟨T.toArray⟩ : ByteArray).size ≤ 1048576 := by rw [arr_size]; omega
     have cqa : ∀ w, (Op.stringOp .add (⟨T.toArray⟩ : ByteArray) (⟨#[c]⟩ : ByteArray)).run Tryz.prog w = .ok (.string (⟨(T ++ [c]).toArray⟩ : ByteArray)) w := fun w => by
      rw [← hap]
      exact run_string_add_sum w _ _ (by rw [show (⟨#[c]⟩ : ByteArray).size = 1 from rfl]; omega)
     have HB := Lib.hid (Below.refl wr.heap.size wr)
     have hoo : o' ≤ (T ++ [c]).length := by rw [List.length_append]; show o' ≤ T.length + 1; omega
     have hl2 : (T ++ [c]).length + r.length ≤ 1048576 := by rw [List.length_append]; show T.length + 1 + r.length ≤ _; omega
     obtain ⟨y, hy⟩ : ∃ y : Int, (c.toNat : Int) = y := ⟨_, rfl⟩
     have HY := Lib.hid hy
     have e40 : (y == 40) = (c == 40) := by rw [← hy]; exact byte_eq c 40
     have e41 : (y == 41) = (c == 41) := by rw [← hy]; exact byte_eq c 41
     have e41' : (y != 41) = (c != 41) := by rw [← hy]; exact byte_ne c 41
     rw [hy] at kc KI CNV
     have hBI : ∀ w1, BrI p S d w.heap.size g4 W1' 8 T [] (.at (c :: r)) w1 → BrI p S d w.heap.size g4 W1' 8 (T ++ [c]) [] (.at (c :: r)) (w1.setCell ⟨g4, 2, none⟩ (.string ⟨(T ++ [c]).toArray⟩)) := fun w1 h => (h.nam HN.out HGW.out (T ++ [c])).1
     have hFR : ∀ w1, BrI p S d w.heap.size g4 W1' 8 T [] (.at (c :: r)) w1 → w1.frozen? ⟨g4, 2, none⟩ = false := fun w1 h => (h.nam HN.out HGW.out (T ++ [c])).2
     have HBI := Lib.hid hBI
     have HFR := Lib.hid hFR
     clear hq HJ HJ' hrec hz hcc hln hap hBI hFR HQ hy ho'
     by_cases h40 : c = 40
     ·have hne : (c == 41) = false := by rw [h40]; rfl
      have hne2 : (c != 41) = true := by rw [h40]; rfl
      have heq : (c == 40) = true := by rw [h40]; rfl
      rw [heq] at e40
      rw [hne] at e41
      rw [hne2] at e41'
      rw [if_pos h40] at hoI
      have hwo : IntKind.i64.wrap ((o : Int) + 1) = (o' : Int) := by rw [← hoI]; exact IntWalk.i64_in _ (by omega)
      clear heq hne hne2 h40 hcond hoI
      go_upto_region 8 with (first
       | (go_at_call 32; (with_reducible refine ke.mono ?_); rintro e w1 ⟨rfl, b1⟩; have HB := Lib.hid (below2 HB.out b1); clear b1 ke)
       | (go_at_call 33; (with_reducible refine (kc.out _ HB.out).mono ?_); rintro e w2 ⟨rfl, b2⟩; have HB := Lib.hid (below2 HB.out b2); clear b2)
       | (go_at_call 52; (with_reducible refine (KI.out _).mono ?_); rintro e w3 ⟨rfl, rfl⟩))
      have HBI1 := FN.out _ HB.out
      obtain ⟨⟨x0, x1, x2, x3, x4⟩, f0, f3⟩ := HBI1.cells
      have f2 := HFR.out _ HBI1
      have k5 := kc.out _ HB.out.drew
      have HBx := HB
      clear HBI1
      go_region_law (go_simp; go_at_call 33; (with_reducible refine k5.mono ?_); rintro e w4 ⟨rfl, b4⟩; have B4 := Lib.hid (below2 HBx.out.drew b4); obtain ⟨⟨y0, y1, y2, y3, y4⟩, h0, h3⟩ := (FN.out w4 (below2 HBx.out.drew b4)).cells; have cv := CNV.out w4; have BA := Lib.hid ((B4.out).alloc (B4.out.size) (.cells #[.int .u8 y] 5)); obtain ⟨⟨-, -, z2, -, -⟩, -, -⟩ := (FN.out _ BA.out).cells; have zf := HFR.out _ (FN.out _ BA.out); clear b4)
      all_goals
       have HBA := Lib.hid (HBI.out _ (FN.out _ BA.out))
       obtain ⟨a2, hwk2, hst2⟩ := HBA.out.ts.step hS
       obtain ⟨g1, g2, g3, g4'⟩ := hst2 _ (Below.refl _ _)
       have G := Lib.hid (HBA.out.moved hpg g3 g4')
       clear hst2 g3 g4'
       go_wp2_with fail
       go_roundg (r.length + 1)
       case rel => exact ⟨r, T ++ [c], o', rfl, G, HJ2, hl2, hoo, rfl⟩
       case measure => have h1 := HC.out; rw [List.length_cons] at h1; omega
     ·have heq : (c == 40) = false := by simpa using h40
      rw [heq] at e40
      by_cases h41 : c = 41
      ·have hne : (c == 41) = true := by rw [h41]; rfl
       have hne2 : (c != 41) = false := by rw [h41]; rfl
       rw [hne] at e41
       rw [hne2] at e41'
       rw [if_neg h40, if_pos h41] at hoI
       have hpo : 0 < o := by
        rcases hcond with h | h
        ·exact absurd h41 h
        ·exact h
       have hpI : (0 : Int) < (o : Int) := by omega
       have hpd : decide ((0 : Int) < (o : Int)) = true := decide_eq_true hpI
       have hpd2 : decide (0 < o) = true := decide_eq_true hpo
       have hwo : IntKind.i64.wrap ((o : Int) - 1) = (o' : Int) := by rw [← hoI]; exact IntWalk.i64_in _ (by omega)
       clear heq hne hne2 h40 h41 hcond hoI
       go_upto_region 8 with (first
        | (go_at_call 32; (with_reducible refine ke.mono ?_); rintro e w1 ⟨rfl, b1⟩; have HB := Lib.hid (below2 HB.out b1); clear b1 ke)
        | (go_at_call 33; (with_reducible refine (kc.out _ HB.out).mono ?_); rintro e w2 ⟨rfl, b2⟩; have HB := Lib.hid (below2 HB.out b2); clear b2)
        | (go_at_call 52; (with_reducible refine (KI.out _).mono ?_); rintro e w3 ⟨rfl, rfl⟩))
       have HBI1 := FN.out _ HB.out
       obtain ⟨⟨x0, x1, x2, x3, x4⟩, f0, f3⟩ := HBI1.cells
       have f2 := HFR.out _ HBI1
       have k5 := kc.out _ HB.out.drew
       have HBx := HB
       clear HBI1
       go_region_law (go_simp; go_at_call 33; (with_reducible refine k5.mono ?_); rintro e w4 ⟨rfl, b4⟩; have B4 := Lib.hid (below2 HBx.out.drew b4); obtain ⟨⟨y0, y1, y2, y3, y4⟩, h0, h3⟩ := (FN.out w4 (below2 HBx.out.drew b4)).cells; have cv := CNV.out w4; have BA := Lib.hid ((B4.out).alloc (B4.out.size) (.cells #[.int .u8 y] 5)); obtain ⟨⟨-, -, z2, -, -⟩, -, -⟩ := (FN.out _ BA.out).cells; have zf := HFR.out _ (FN.out _ BA.out); clear b4)
       all_goals
        have HBA := Lib.hid (HBI.out _ (FN.out _ BA.out))
        obtain ⟨a2, hwk2, hst2⟩ := HBA.out.ts.step hS
        obtain ⟨g1, g2, g3, g4'⟩ := hst2 _ (Below.refl _ _)
        have G := Lib.hid (HBA.out.moved hpg g3 g4')
        clear hst2 g3 g4'
        go_wp2_with fail
        go_roundg (r.length + 1)
        case rel => exact ⟨r, T ++ [c], o', rfl, G, HJ2, hl2, hoo, rfl⟩
        case measure => have h1 := HC.out; rw [List.length_cons] at h1; omega
      ·have hne : (c == 41) = false := by simpa using h41
       have hne2 : (c != 41) = true := by simpa using h41
       rw [hne] at e41
       rw [hne2] at e41'
       rw [if_neg h40, if_neg h41] at hoI
       have hoo' : o' = o := by omega
       subst hoo'
       clear heq hne hne2 h40 h41 hcond hoI
       go_upto_region 8 with (first
        | (go_at_call 32; (with_reducible refine ke.mono ?_); rintro e w1 ⟨rfl, b1⟩; have HB := Lib.hid (below2 HB.out b1); clear b1 ke)
        | (go_at_call 33; (with_reducible refine (kc.out _ HB.out).mono ?_); rintro e w2 ⟨rfl, b2⟩; have HB := Lib.hid (below2 HB.out b2); clear b2)
        | (go_at_call 52; (with_reducible refine (KI.out _).mono ?_); rintro e w3 ⟨rfl, rfl⟩))
       have HBI1 := FN.out _ HB.out
       obtain ⟨⟨x0, x1, x2, x3, x4⟩, f0, f3⟩ := HBI1.cells
       have f2 := HFR.out _ HBI1
       have k5 := kc.out _ HB.out.drew
       have HBx := HB
       clear HBI1
       go_region_law (go_simp; go_at_call 33; (with_reducible refine k5.mono ?_); rintro e w4 ⟨rfl, b4⟩; have B4 := Lib.hid (below2 HBx.out.drew b4); obtain ⟨⟨y0, y1, y2, y3, y4⟩, h0, h3⟩ := (FN.out w4 (below2 HBx.out.drew b4)).cells; have cv := CNV.out w4; have BA := Lib.hid ((B4.out).alloc (B4.out.size) (.cells #[.int .u8 y] 5)); obtain ⟨⟨-, -, z2, -, -⟩, -, -⟩ := (FN.out _ BA.out).cells; have zf := HFR.out _ (FN.out _ BA.out); clear b4)
       all_goals
        have HBA := Lib.hid (HBI.out _ (FN.out _ BA.out))
        obtain ⟨a2, hwk2, hst2⟩ := HBA.out.ts.step hS
        obtain ⟨g1, g2, g3, g4'⟩ := hst2 _ (Below.refl _ _)
        have G := Lib.hid (HBA.out.moved hpg g3 g4')
        clear hst2 g3 g4'
        go_wp2_with fail
        go_roundg (r.length + 1)
        case rel => exact ⟨r, T ++ [c], o', rfl, G, HJ2, hl2, hoo, rfl⟩
        case measure => have h1 := HC.out; rw [List.length_cons] at h1; omega
 case rest =>
  obtain ⟨T, t, o, rfl, HI, hT, HR⟩ := hcut
  have k8 := KB.out t wc HI.out.ts
  have K9 := Lib.hid (fun w9 (h9 : TS p S d (t.run (needS [41])).sx w9) (m9 : Mvr p wc w9) => (⟨HI.out.moved hpg h9 m9, KB.out _ w9 h9⟩ : BrI p S d w.heap.size g4 W1' 8 T [] (t.run (needS [41])).sx w9 ∧ _))
  have KA := Lib.hid (fun w9 (hI9 : BrI p S d w.heap.size g4 W1' 8 T [] (t.run (needS [41])).sx w9) w10 (h10 : TS p S d ((t.run (needS [41])).sx.run (needS [41])).sx w10) (m10 : Mvr p w9 w10) => (by
   have h8 := hI9.moved hpg h10 m10
   exact ⟨h8.cells.1, RES.out w10 h8.mv, h10, M0.out.trans h8.mv⟩ : _ ∧ _ ∧ TS p S d (dblEnd t) w10 ∧ Mvr p w w10))
  clear RES M0 KE KC HI0 HI
  go_wp2_with (go_at_call 171; first
   | ((with_reducible refine k8.mono ?_); rintro e w9 ⟨rfl, h9, m9⟩; obtain ⟨hI9, k10⟩ := K9.out w9 h9 m9; have HI9 := Lib.hid hI9; clear h9 m9 k8 hI9)
   | ((with_reducible refine k10.mono ?_); rintro e w10 ⟨rfl, h10, m10⟩; obtain ⟨⟨x0, x1, x2, x3, x4⟩, ⟨rh, r0, r1, r2, r3, r4, f0, f1, f2, f3, f4⟩, t9, m11⟩ := KA.out w9 HI9.out w10 h10 m10; have RH := Lib.hid (And.intro rh (And.intro t9 m11)); clear h10 m10 k10 rh t9 m11))
  have FF := five_facts p S d _ w w10 w.heap.size (.int .i64 8) (.bool false) (.string ⟨T.toArray⟩) (.string ⟨#[]⟩) (.slice none 0 0) _ _ _ _ _ _ RH.out.1 RH.out.2.1 RH.out.2.2 (Nat.le_refl _) hpp.out
  refine bodyPost_ret (v := .agg _) (results_cell_row (p := 2) (ty := 42) Tryz.results179 _ _ w.heap.size 42 _ (0, 0) _ rfl FF.1 Tryz.underlying42 rfl Tryz.infoPartS) rfl (FIN.out _ T t FF.2.1 FF.2.2 hT HR.out)
end Go.Proofs.YtelfgobjnibooaaGreatDoor
namespace Go.Proofs.YtelfgobjnibooaaGreatDoor
open Go.RowKit Go.Lib
theorem part_dbl (sub : Deeper) (r : List UInt8) : partS sub false (40 :: 40 :: r) = dblR r := by
 unfold partS
 rw [show takeS [40, 40] (40 :: 40 :: r) = some r from takeS_app [40, 40] r]
 rfl
theorem part_sub (sub : Deeper) (r : List UInt8) (h : atS [40] r = false) : partS sub false (40 :: r) = (subS sub r).bind fun cs r1 => (needS [41] r1).bind fun _ r2 => .ok ⟨7, false, [], [], cs⟩ r2 := by
 unfold partS
 have h1 : takeS [40, 40] (40 :: r) = none := by
  rw [take_two, if_pos rfl]
  cases r with
  | nil => rfl
  | cons c r => exact take_ne (fun e => by subst e; simp [atS] at h)
 rw [h1, take_eq]
theorem part_braceF (sub : Deeper) (r : List UInt8) : partS sub false (123 :: r) = braceS r := by
 unfold partS
 have h1 : takeS [40, 40] (123 :: r) = none := by rw [take_two, if_neg (by decide)]
 rw [h1, take_ne (by decide), take_two, if_pos rfl]
 unfold braceS
 cases r with
 | nil => rw [take_eq]; exact braced_eq []
 | cons c r =>
  by_cases hc : c = 35
  ·subst hc
   rw [take_eq]
   rfl
  ·rw [take_ne (fun e => hc e.symm), take_eq, show atS [35] (c :: r) = false by simp [atS, hc]]
   exact braced_eq (c :: r)
theorem part_nameF (sub : Deeper) (l : List UInt8) (h1 : atS [40] l = false) (h2 : atS [123] l = false) : partS sub false l = (nameR l).bind fun n r => .ok ⟨2, false, n, [], []⟩ r := by
 cases l with
 | nil => rfl
 | cons c r =>
  have c1 : c ≠ 40 := fun e => by subst e; simp [atS] at h1
  have c2 : c ≠ 123 := fun e => by subst e; simp [atS] at h2
  unfold partS
  rw [take_two, if_neg (fun e => c1 e.symm), take_ne (fun e => c1 e.symm), take_two, if_neg (fun e => c2 e.symm), take_ne (fun e => c2 e.symm)]
def AnsL (n0 : Nat) (R : Rr (List Co)) (w : World) (e : Ending) (w' : World) : Prop := ∃ (cs : List Co) (al : Option Addr) (m cl : Nat), e = .returned (.slice al m cl) ∧ (cosV n0).q (NewF w.heap.size w'.heap.size) w' (.slice al m cl) cs ∧ (∀ y r, R = .ok y r → cs = y)
def ListP (n0 p : Nat) (S : ByteArray) (d k : Nat) : Prop := ∀ (s : Sx) (w : World), TS p S d s w → Calls Tryz.prog 15 #[.pointer (some ⟨p, 0, none⟩)] w fun e w' => AnsL n0 (s.run (rlistS (rlvl k))) w e w' ∧ TS p S d (s.run (rlistS (rlvl k))).sx w' ∧ Mvr p w w'
def DeepP (n0 p : Nat) (S : ByteArray) (d : Nat) : Nat → Prop
 | 0 => d = 30
 | k + 1 => d < 30 ∧ ListP n0 p S (d + 1) k
theorem TS.deeper {p : Nat} {S : ByteArray} {d : Nat} {s : Sx} {w : World} (h : TS p S d s w) : w.cell? ⟨p, 2, none⟩ = some (.int .i64 (d : Int)) ∧ w.frozen? ⟨p, 2, none⟩ = false ∧ ∀ x : Nat, TS p S x s (w.setCell ⟨p, 2, none⟩ (.int .i64 (x : Int))) ∧ Mvr p w (w.setCell ⟨p, 2, none⟩ (.int .i64 (x : Int))) := by
 cases s with
 | «at» l =>
  obtain ⟨a, h, h2⟩ := h
  exact ⟨h.cells.1.2.2.1, h.cells.2.2.1, fun x => ⟨⟨a, h.deep x, h2⟩, Mvr.set _ _ _ _⟩⟩
 | bad e =>
  obtain ⟨h0, a, h, h2⟩ := h
  exact ⟨h.cells.1.2.2.1, h.cells.2.2.1, fun x => ⟨⟨h0, a, h.deep x, h2⟩, Mvr.set _ _ _ _⟩⟩
theorem res_cells {w : World} {g : Nat} (hh : w.heap[g]? = some (.cells #[.int .i64 0, .bool false, .string ⟨#[]⟩, .string ⟨#[]⟩, .slice none 0 0] 42 (0, 0))) :
  (w.cell? ⟨g, 0, none⟩ = some (.int .i64 0) ∧ w.cell? ⟨g, 1, none⟩ = some (.bool false) ∧ w.cell? ⟨g, 2, none⟩ = some (.string ⟨#[]⟩) ∧ w.cell? ⟨g, 3, none⟩ = some (.string ⟨#[]⟩) ∧ w.cell? ⟨g, 4, none⟩ = some (.slice none 0 0)) ∧
   w.frozen? ⟨g, 0, none⟩ = false ∧ w.frozen? ⟨g, 1, none⟩ = false ∧ w.frozen? ⟨g, 2, none⟩ = false ∧ w.frozen? ⟨g, 3, none⟩ = false ∧ w.frozen? ⟨g, 4, none⟩ = false :=
 ⟨⟨by rw [cell_of_heap hh]; rfl, by rw [cell_of_heap hh]; rfl, by rw [cell_of_heap hh]; rfl, by rw [cell_of_heap hh]; rfl, by rw [cell_of_heap hh]; rfl⟩, frozen_of_heap hh _, frozen_of_heap hh _, frozen_of_heap hh _, frozen_of_heap hh _, frozen_of_heap hh _⟩
theorem res_start (p : Nat) (S : ByteArray) (d : Nat) (s : Sx) (w : World) (h : TS p S d s w) :
  ∃ W1, W1 = w.alloc (.cells #[.int .i64 0, .bool false, .string ⟨#[]⟩, .string ⟨#[]⟩, .slice none 0 0] 42) ∧ TS p S d s W1 ∧ Mvr p w W1 ∧ p < W1.heap.size ∧ w.heap.size < W1.heap.size ∧ ∀ w4, Mvr p W1 w4 → w4.heap[w.heap.size]? = some (.cells #[.int .i64 0, .bool false, .string ⟨#[]⟩, .string ⟨#[]⟩, .slice none 0 0] 42 (0, 0)) := by
 have hb1 : Below w.heap.size w (w.alloc (.cells #[.int .i64 0, .bool false, .string ⟨#[]⟩, .string ⟨#[]⟩, .slice none 0 0] 42)) := (Below.refl _ w).alloc (Nat.le_refl _) _
 have hp := h.lt
 refine ⟨_, rfl, h.below hb1, Mvr.of hb1 hp, by simp; omega, by simp, fun w4 m => ?_⟩
 rw [m.high _ (by omega) (by simp)]
 exact heap_alloc_new w _
set_option maxHeartbeats 4000000 in
set_option maxRecDepth 20000 in
theorem sign_name (n0 k p : Nat) (S : ByteArray) (d : Nat) (s : Sx) (w : World) (h : TS p S d s w) (hS : S.size ≤ 1048576) (h1 : s.on [40] = false) (h2 : s.on [123] = false) :
    Calls Tryz.prog 173 #[.pointer (some ⟨p, 0, none⟩)] w fun e w' => AnsP n0 (s.run (partS (rlvl k) false)) w e w' ∧ TS p S d (s.run (partS (rlvl k) false)).sx w' ∧ Mvr p w w' := by
  have hR : s.run (partS (rlvl k) false) = (s.run nameR).bind fun n r => .ok ⟨2, false, n, [], []⟩ r := by
    cases s with
    | bad e => rfl
    | «at» l => exact part_nameF (rlvl k) l h1 h2
  have hX : (s.run (partS (rlvl k) false)).sx = (s.run nameR).sx := by
    rw [hR]
    cases s.run nameR <;> rfl
  rw [hX]
  have hp := h.lt
  obtain ⟨W1, hW1, t1, m1, hp1, hz1, hres⟩ := res_start p S d s w h
  have hn1 : ((s.c.toNat : Int) == 40) = false := by
    show (_ == ((40 : UInt8).toNat : Int)) = false
    rw [byte_eq]
    cases s with
    | bad e => rfl
    | «at» l => cases l with
      | nil => rfl
      | cons c r => simpa [Sx.on, atS, Sx.c] using h1
  have hn2 : ((s.c.toNat : Int) == 123) = false := by
    show (_ == ((123 : UInt8).toNat : Int)) = false
    rw [byte_eq]
    cases s with
    | bad e => rfl
    | «at» l => cases l with
      | nil => rfl
      | cons c r => simpa [Sx.on, atS, Sx.c] using h2
  have KQ := Lib.hid (fun n => c_quiet p S d s (W1.drewN n) (t1.draws n) hS)
  have KC := Lib.hid (fun (wr : World) (hb : Below W1.heap.size W1 wr) => c_any p S d s wr (t1.below hb) hS)
  have KN := Lib.hid (fun (wr : World) (hb : Below W1.heap.size W1 wr) => name_short p S d s wr (t1.below hb) hS)
  have MN := Lib.hid (fun (wr w4 : World) (hb : Below W1.heap.size W1 wr) (m : Mvr p wr w4) => (⟨hres w4 ((Mvr.of hb hp1).trans m), m1.trans ((Mvr.of hb hp1).trans m)⟩ : _ ∧ Mvr p w w4))
  have HB := Lib.hid (Below.refl W1.heap.size W1)
  obtain ⟨NR, hNR⟩ : ∃ NR, s.run nameR = NR := ⟨_, rfl⟩
  rw [hNR] at hR KN ⊢
  have HR := Lib.hid hR
  rw [hW1] at KQ KC KN MN HB
  generalize (s.c.toNat : Int) = y at *
  clear h h1 h2 t1 m1 hres hR hNR hX hz1 hp1 hW1
  go_enter Tryz.func173, Tryz.ntmps173
  go_wp2_with fail
  go_quiet (exact Calls.quiet_of (KQ.out _))
  have HB := Lib.hid (below_draws HB.out nq)
  go_wp2_with (first
    | (go_at_call 33; (with_reducible refine (KC.out _ HB.out).mono ?_); rintro e w2 ⟨rfl, b2⟩; have HB := Lib.hid (below2 HB.out b2); clear b2)
    | (go_at_call 115; (with_reducible refine (KN.out _ HB.out).mono ?_); rintro e w4 ⟨⟨v, rfl, hv1, hv2⟩, h3, m3⟩; obtain ⟨rh, m4⟩ := MN.out _ w4 HB.out m3; have HV := Lib.hid (And.intro hv1 hv2); obtain ⟨⟨r0, r1, r2, r3, r4⟩, f0, f1, f2, f3, f4⟩ := res_cells rh; have RH := Lib.hid (And.intro rh (And.intro h3 m4)); clear h3 m3 hv1 hv2 rh m4))
  have FF := five_facts p S d _ w w4 w.heap.size (.int .i64 2) (.bool false) (.string ⟨v.toArray⟩) (.string ⟨#[]⟩) (.slice none 0 0) _ _ _ _ _ _ RH.out.1 RH.out.2.1 RH.out.2.2 (Nat.le_refl _) hp
  refine bodyPost_ret (v := .agg _) (results_cell_row (p := 2) (ty := 42) Tryz.results173 _ _ w.heap.size 42 _ (0, 0) _ rfl FF.1 Tryz.underlying42 rfl Tryz.infoPartS) rfl ⟨?_, FF.2.1, FF.2.2⟩
  refine ⟨⟨2, false, v, [], []⟩, none, 0, 0, rfl, cos_nil n0 _ _, rfl, fun y r' hy => ?_, HV.out.2, by simp, by show (2 : Nat) ≠ 1; omega⟩
  rw [HR.out] at hy
  obtain ⟨n, rr1, hn, hy⟩ := bind_ok hy
  cases hy
  rw [HV.out.1 n _ hn]
theorem five_size (w : World) (g : Nat) (a b c d e : Value) : (fiveW w g a b c d e).heap.size = w.heap.size := by unfold fiveW; simp
theorem five_other (w : World) (g k : Nat) (a b c d e : Value) (h : k ≠ g) : (fiveW w g a b c d e).heap[k]? = w.heap[k]? := by
 unfold fiveW
 rw [Below.heap_setCell _ _ _ _ h, Below.heap_setCell _ _ _ _ h, Below.heap_setCell _ _ _ _ h, Below.heap_setCell _ _ _ _ h, Below.heap_setCell _ _ _ _ h]
theorem sign_answer (n0 p : Nat) (S : ByteArray) (d : Nat) (s : Sx) (R : Rr Pt) (w w4 w3 : World) (x : Pt) (al : Option Addr) (m cl : Nat) (rh : w4.heap[w.heap.size]? = some (.cells #[.int .i64 0, .bool false, .string ⟨#[]⟩, .string ⟨#[]⟩, .slice none 0 0] 42 (0, 0))) (h4 : TS p S d s w4) (m4 : Mvr p w w4) (hw : w.heap.size < w3.heap.size) (hp : p < w.heap.size)
  (hx : (cosV n0).q (NewF w3.heap.size w4.heap.size) w4 (.slice al m cl) x.l ∧ x.q = false ∧ (∀ y r, R = .ok y r → x = y) ∧ x.s.length ≤ 1048576 ∧ x.t.length ≤ 1048576 ∧ x.k ≠ 1) :
  (fiveW w4 w.heap.size (.int .i64 (x.k : Int)) (.bool false) (.string ⟨x.s.toArray⟩) (.string ⟨x.t.toArray⟩) (.slice al m cl)).heap[w.heap.size]? = some (.cells #[.int .i64 (x.k : Int), .bool false, .string ⟨x.s.toArray⟩, .string ⟨x.t.toArray⟩, .slice al m cl] 42 (0, 0)) ∧
   AnsP n0 R w (.returned (.agg #[.int .i64 (x.k : Int), .bool false, .string ⟨x.s.toArray⟩, .string ⟨x.t.toArray⟩, .slice al m cl])) (fiveW w4 w.heap.size (.int .i64 (x.k : Int)) (.bool false) (.string ⟨x.s.toArray⟩) (.string ⟨x.t.toArray⟩) (.slice al m cl)) ∧
   TS p S d s (fiveW w4 w.heap.size (.int .i64 (x.k : Int)) (.bool false) (.string ⟨x.s.toArray⟩) (.string ⟨x.t.toArray⟩) (.slice al m cl)) ∧ Mvr p w (fiveW w4 w.heap.size (.int .i64 (x.k : Int)) (.bool false) (.string ⟨x.s.toArray⟩) (.string ⟨x.t.toArray⟩) (.slice al m cl)) := by
 have FF := five_facts p S d s w w4 w.heap.size (.int .i64 (x.k : Int)) (.bool false) (.string ⟨x.s.toArray⟩) (.string ⟨x.t.toArray⟩) (.slice al m cl) _ _ _ _ _ _ rh h4 m4 (Nat.le_refl _) hp
 refine ⟨FF.1, ⟨x, al, m, cl, rfl, ?_, hx.2⟩, FF.2.1, FF.2.2⟩
 refine (cosV n0).mono _ _ _ _ _ (fun g hg => ?_) ((cosV n0).same _ _ _ _ _ (fun g hg => five_other w4 _ g _ _ _ _ _ (by have := hg.1; omega)) hx.1)
 exact ⟨by have := hg.1; omega, by rw [five_size]; exact hg.2⟩
theorem TS.second {p : Nat} {S : ByteArray} {d : Nat} {c : UInt8} {r : List UInt8} {w : World} (h : TS p S d (.at (c :: r)) w) (hS : S.size ≤ 1048576) : ∃ a m : Nat, w.cell? ⟨p, 0, none⟩ = some (.string S) ∧ w.cell? ⟨p, 1, none⟩ = some (.int .i64 (a : Int)) ∧ IntKind.i64.wrap ((a : Int) + 1) = (m : Int) ∧ ((m = S.size ∧ r = []) ∨ ∃ e q, r = e :: q ∧ ∃ h : m < S.size, S[m] = e) ∧
  ∀ (n : Nat), n ≤ (c :: r).length → IntKind.i64.wrap ((a : Int) + (n : Int)) = (a : Int) + (n : Int) ∧ ∀ w1, Below w.heap.size w w1 → w1.frozen? ⟨p, 1, none⟩ = false ∧ TS p S d (.at ((c :: r).drop n)) (w1.setCell ⟨p, 1, none⟩ (.int .i64 ((a : Int) + (n : Int)))) ∧ Mvr p w (w1.setCell ⟨p, 1, none⟩ (.int .i64 ((a : Int) + (n : Int)))) := by
 obtain ⟨a, h2, h3, h4, h5⟩ := h.hop hS
 obtain ⟨⟨c0, c1, _⟩, _⟩ := h4.cells
 refine ⟨a, a + 1, c0, c1, by rw [IntWalk.i64_in _ (by omega)]; omega, ?_, fun n hn => ⟨(h5 n hn).1, fun w1 hb => ?_⟩⟩
 ·cases r with
  | nil => exact .inl ⟨by simp at h2; omega, rfl⟩
  | cons e q =>
   obtain ⟨h5, h6⟩ := idxR (k := 1) h3 rfl
   exact .inr ⟨e, q, rfl, h5, h6⟩
 ·obtain ⟨_, _, g3, g4, g5⟩ := (h5 n hn).2 w1 hb
  exact ⟨g3, g4, g5⟩
set_option maxHeartbeats 4000000 in
set_option maxRecDepth 20000 in
theorem sign_double (n0 k p : Nat) (S : ByteArray) (d : Nat) (r : List UInt8) (w : World) (h : TS p S d (.at (40 :: 40 :: r)) w) (hS : S.size ≤ 1048576) :
  Calls Tryz.prog 173 #[.pointer (some ⟨p, 0, none⟩)] w fun e w' => AnsP n0 ((Sx.at (40 :: 40 :: r)).run (partS (rlvl k) false)) w e w' ∧ TS p S d ((Sx.at (40 :: 40 :: r)).run (partS (rlvl k) false)).sx w' ∧ Mvr p w w' := by
 have hR : (Sx.at (40 :: 40 :: r)).run (partS (rlvl k) false) = dblR r := part_dbl (rlvl k) r
 rw [hR]
 have hp := h.lt
 obtain ⟨W1, hW1, t1, m1, hp1, hz1, hres⟩ := res_start p S d _ w h
 have hcc : (Sx.at (40 :: 40 :: r)).c = 40 := rfl
 have KQ := Lib.hid (fun n => c_quiet p S d _ (W1.drewN n) (t1.draws n) hS)
 rw [hcc] at KQ
 obtain ⟨a, m, c0, c1, hwm, hcase, hhop⟩ := t1.second hS
 obtain ⟨hm, hSm⟩ : ∃ h : m < S.size, S[m] = 40 := by
  rcases hcase with ⟨_, h⟩ | ⟨e, q, he, h⟩
  ·cases h
  ·cases he; exact h
 have hyq : ((S[m].toNat : Int) == 40) = true := by rw [hSm]; rfl
 have hmI : (m : Int) < (S.size : Int) := by omega
 have hmd : decide ((m : Int) < (S.size : Int)) = true := decide_eq_true hmI
 have hmd2 : decide (m < S.size) = true := decide_eq_true hm
 obtain ⟨hw2, hst⟩ := hhop 2 (by simp)
 have hw2' : IntKind.i64.wrap ((a : Int) + 2) = (a : Int) + 2 := hw2
 have HST : Hid (∀ n, (W1.drewN n).frozen? ⟨p, 1, none⟩ = false ∧ TS p S d (.at r) ((W1.drewN n).setCell ⟨p, 1, none⟩ (.int .i64 ((a : Int) + 2))) ∧ Mvr p W1 ((W1.drewN n).setCell ⟨p, 1, none⟩ (.int .i64 ((a : Int) + 2)))) := fun n => hst _ (below_draws (Below.refl _ _) n)
 have KD := Lib.hid (fun (w4 : World) (t4 : TS p S d (.at r) w4) => doubleF_any n0 p S d r w4 t4 hS)
 have MN := Lib.hid (fun (w3 w4 : World) (m3 : Mvr p W1 w3) (m : Mvr p w3 w4) => (⟨hres w4 (m3.trans m), m1.trans (m3.trans m), by have := m3.size; omega⟩ : _ ∧ Mvr p w w4 ∧ w.heap.size < w3.heap.size))
 rw [hW1] at KQ c0 c1 HST MN
 clear h t1 m1 hres hR hcc hz1 hp1 hW1 hst hhop hw2 hcase
 go_enter Tryz.func173, Tryz.ntmps173
 go_wp2_with fail
 go_quiet (exact Calls.quiet_of (KQ.out _))
 obtain ⟨g1, g2, g3⟩ := HST.out nq
 have k4 := KD.out _ g2
 have G3 := Lib.hid g3
 clear g2 g3
 go_wp2_with (go_at_call 179; (with_reducible refine k4.mono ?_); rintro e w4 ⟨⟨x, al, mm, cl, rfl, hx⟩, h4, m4⟩; obtain ⟨rh, m5, hs3⟩ := MN.out _ w4 G3.out m4; have HV := Lib.hid hx; obtain ⟨⟨r0, r1, r2, r3, r4⟩, f0, f1, f2, f3, f4⟩ := res_cells rh; have RH := Lib.hid (And.intro rh (And.intro h4 (And.intro m5 (And.intro hs3 m4.size)))); clear h4 m4 hx rh m5 hs3)
 have FF := sign_answer n0 p S d _ _ w w4 _ x al mm cl RH.out.1 RH.out.2.1 RH.out.2.2.1 RH.out.2.2.2.1 hp HV.out
 exact bodyPost_ret (v := .agg _) (results_cell_row (p := 2) (ty := 42) Tryz.results173 _ _ w.heap.size 42 _ (0, 0) _ rfl FF.1 Tryz.underlying42 rfl Tryz.infoPartS) rfl FF.2
end Go.Proofs.YtelfgobjnibooaaGreatDoor
