/- Packed texts: UtTab, UtLeaf, UtSub, UtClo, UtWords, UtBy. What each of them proves stands above its theorems; the conditions stand in these. -/
import Derived.Deep.Cut
import Derived.Deep.CutBlock
import Derived.Deep.RegionHeld3
import Derived.Deep.RegionLaw
import Derived.Laws.Rows
import Derived.Laws.Tables
import Derived.Test.YtbodnhpjfdnjfaaGreatDoorE12
namespace Go.Proofs.YtbodnhpjfdnjfaaGreatDoor
open Go.RowKit Go.Lib Go.Maps Go.WideElems

def fnU (k : Nat) : Value := .func (.func k) #[] #[]
def ptrU (b : Nat) : Value := .pointer (some ⟨b, 0, none⟩)
/-- All utilities, where the functions that they hold on to lie in the blocks h, u, d, t, and the text and the fuel of sed in i, f. -/
def utEs (h u d t i f : Nat) : List Ent :=
  [⟨[101, 99, 104, 111], fnU 33⟩, ⟨[58], fnU 36⟩, ⟨[116, 114, 117, 101], fnU 38⟩, ⟨[102, 97, 108, 115, 101], fnU 39⟩,
   ⟨[104, 101, 120], cloV 70 h⟩, ⟨[117, 110, 104, 101, 120], cloV 70 u⟩, ⟨[100, 101, 99], cloV 73 d⟩, ⟨[115, 116, 114], cloV 73 t⟩, ⟨[116, 101, 115, 116], fnU 49⟩,
   ⟨[115, 101, 100], .func (.func 50) #[] #[ptrU i, ptrU f]⟩]
def utKs (h u d t i f : Nat) (s p : Value) : List (Nat × Value) := [(t, fnU 48), (d, fnU 47), (u, fnU 43), (h, fnU 41), (i, s), (f, p)]
set_option maxRecDepth 20000 in
theorem utilities_any (s : ByteArray) (p : Option Addr) (w : World) :
    Calls Tryz.prog 15 #[.string s, .pointer p] w fun e w' => ∃ m h u d t i f, e = .returned (.map (some m)) ∧ UI w m 10 (utEs h u d t i f) (utKs h u d t i f (.string s) (.pointer p)) w' := by
  have hmm := @run_makeMap Tryz.prog
  have hmf : ∀ (fn : Fn) (first cap : Array Value) (w : World), (Instr.makeFunc fn first cap).run Tryz.prog w = .ok (.func fn first cap) w := fun _ _ _ _ => rfl
  obtain ⟨W2, hW2⟩ : ∃ W2, W2 = (w.alloc (.cells #[.string s] 9)).alloc (.cells #[.pointer p] 43) := ⟨_, rfl⟩
  have n1 := newC_mk w (.string s) 9
  have n2 := newC_mk (w.alloc (.cells #[.string s] 9)) (.pointer p) 43
  rw [← hW2] at n2
  have HU := Lib.hid (UI.made w W2 (w.heap.size + 1 + 1) (by rw [hW2, World.size_alloc, World.size_alloc]) [(w.heap.size, .string s), (w.heap.size + 1, .pointer p)] (below_at n1.2.1 n2.2.1 n1.2.1.size) (fun x hx => by
    obtain ⟨_, a2, a3, a4⟩ := n1
    obtain ⟨_, b2, b3, b4⟩ := n2
    rw [World.size_alloc] at b3 b4
    rcases List.mem_cons.1 hx with rfl | hx
    · exact ⟨Nat.lt_of_lt_of_le a3 b2.size, by rw [b2.cell a3]; exact a4⟩
    · obtain rfl := List.mem_singleton.1 hx
      exact ⟨b3, b4⟩))
  clear n1 n2
  subst hW2
  go_enter Tryz.func15, Tryz.ntmps15
  go_wp2_with (first
    | (go_at_call 40; refine (oneU_any _ _ _ _).mono ?_; rintro e w1 ⟨b1, rfl, hn1⟩; have HU := Lib.hid (HU.out.new hn1); clear hn1)
    | (go_at_call 46; refine (byU_any _ _ _ _).mono ?_; rintro e w1 ⟨b1, rfl, hn1⟩; have HU := Lib.hid (HU.out.new hn1); clear hn1)
    | (refine wpList_insert_U rfl _ _ _ rfl _ _ _ _ HU.out (by decide) rfl _ (cloV _ _) rfl rfl (by decide) ?_; intro w1 hu1; have HU := Lib.hid hu1; clear hu1)
    | (refine wpList_insert_U rfl _ _ _ rfl _ _ _ _ HU.out (by decide) rfl _ (fnU _) rfl rfl (by decide) ?_; intro w1 hu1; have HU := Lib.hid hu1; clear hu1)
    | (refine wpList_insert_U rfl _ _ _ rfl _ _ _ _ HU.out (by decide) rfl _ (.func (.func _) #[] #[ptrU _, ptrU _]) rfl rfl (by decide) ?_; intro w1 hu1; have HU := Lib.hid hu1; clear hu1))
  go_ret

  exact ⟨_, _, _, _, _, _, _, rfl, HU.out⟩
/-- Those of str. -/
def txEs (a b c d e f g : Nat) : List Ent :=
  [⟨[108, 101, 110], cloV 70 a⟩, ⟨[105, 110, 100, 101, 120], cloV 120 b⟩, ⟨[115, 117, 98], cloV 130 c⟩, ⟨[117, 112], cloV 70 d⟩, ⟨[108, 111, 119], cloV 70 e⟩, ⟨[99, 111, 117, 110, 116], cloV 70 f⟩, ⟨[102, 105, 101, 108, 100], cloV 120 g⟩]
def txKs (a b c d e f g : Nat) : List (Nat × Value) := [(g, fnU 94), (f, fnU 92), (e, fnU 91), (d, fnU 89), (c, fnU 88), (b, fnU 85), (a, fnU 84)]
set_option maxRecDepth 20000 in
theorem texts_any (w : World) :
    Calls Tryz.prog 48 #[] w fun e w' => ∃ m a b c d f g h, e = .returned (.map (some m)) ∧ UI w m 7 (txEs a b c d f g h) (txKs a b c d f g h) w' := by
  have hmm := @run_makeMap Tryz.prog
  have HU := Lib.hid (UI.made w w w.heap.size rfl [] (Below.refl _ w) (fun x hx => by cases hx))
  go_enter Tryz.func48, Tryz.ntmps48
  go_wp2_with (first
    | (go_at_call 40; refine (oneU_any _ _ _ _).mono ?_; rintro e w1 ⟨b1, rfl, hn1⟩; have HU := Lib.hid (HU.out.new hn1); clear hn1)
    | (go_at_call 75; refine (twoU_any _ _ _ _).mono ?_; rintro e w1 ⟨b1, rfl, hn1⟩; have HU := Lib.hid (HU.out.new hn1); clear hn1)
    | (go_at_call 87; refine (threeU_any _ _ _ _).mono ?_; rintro e w1 ⟨b1, rfl, hn1⟩; have HU := Lib.hid (HU.out.new hn1); clear hn1)
    | (refine wpList_insert_U rfl _ _ _ rfl _ _ _ _ HU.out (by decide) rfl _ (cloV _ _) rfl rfl (by decide) ?_; intro w1 hu1; have HU := Lib.hid hu1; clear hu1))
  go_ret
  exact ⟨_, _, _, _, _, _, _, _, rfl, HU.out⟩
/-- A reckoning by a sign. -/
theorem reckonU_any (op : Int) (w : World) : Calls Tryz.prog 74 #[.int .u8 op] w fun e w' => ∃ b o, e = .returned (cloV 120 b) ∧ Below w.heap.size w w' ∧ (b < w'.heap.size ∧ w.heap.size ≤ b ∧ w'.cell? ⟨b, 0, none⟩ = some (cloV 76 o)) ∧ o < w'.heap.size ∧ w.heap.size ≤ o ∧ w'.cell? ⟨o, 0, none⟩ = some (.int .u8 op) := by
  have hmf : ∀ (fn : Fn) (first cap : Array Value) (w : World), (Instr.makeFunc fn first cap).run Tryz.prog w = .ok (.func fn first cap) w := fun _ _ _ _ => rfl
  have n1 := Lib.hid (newC_mk w (.int .u8 op) 5)
  go_enter Tryz.func74, Tryz.ntmps74
  go_wp2_with (first
    | (go_at_call 75; refine (twoU_any _ _ _ _).mono ?_; rintro e w1 ⟨b1, rfl, hn1⟩; have HU := Lib.hid hn1; clear hn1))
  go_ret

  obtain ⟨_, a2, a3, a4⟩ := n1.out
  obtain ⟨hb, b2, b3, b4⟩ := HU.out
  refine ⟨_, _, rfl, below_at a2 b2 a2.size, ⟨b3, by rw [hb]; exact a2.size, b4⟩, Nat.lt_of_lt_of_le a3 b2.size, Nat.le_refl _, by rw [b2.cell a3]; exact a4⟩
end Go.Proofs.YtbodnhpjfdnjfaaGreatDoor
namespace Go.Proofs.YtbodnhpjfdnjfaaGreatDoor
open Go.RowKit Go.Lib

def resV (s : ByteArray) (st e : Int) : Value := .agg #[.string s, .int .i64 st, .int .i64 e]
theorem Tryz.infoUres : (Tryz.prog.info? 45).map (·.size) = some 3 := by kernel_rfl
/-- A result's block g, new since the world B. -/
structure RI (B : World) (g : Nat) (w : World) : Prop where
  row : w.heap[g]? = some (.cells #[.string ⟨#[]⟩, .int .i64 0, .int .i64 0] 45 (0, 0))
  low : B.heap.size ≤ g
  below : Below B.heap.size B w
theorem RI.start (w : World) : RI w w.heap.size (w.alloc (.cells #[.string ⟨#[]⟩, .int .i64 0, .int .i64 0] 45)) :=
  ⟨heap_alloc_new w _, Nat.le_refl _, (Below.refl _ w).alloc (Nat.le_refl _) _⟩
theorem RI.lt {B w : World} {g : Nat} (h : RI B g w) : g < w.heap.size := (Array.getElem?_eq_some_iff.1 h.row).1
theorem RI.later {B w w' : World} {g : Nat} (h : RI B g w) (hb : Below w.heap.size w w') : RI B g w' :=
  ⟨by rw [hb.block g h.lt]; exact h.row, h.low, below_at h.below hb h.below.size⟩
theorem RI.drew {B w : World} {g : Nat} (h : RI B g w) : RI B g w.drew := h.later (Below.refl _ w).drew
theorem RI.cells {B w : World} {g : Nat} (h : RI B g w) : (w.cell? ⟨g, 0, none⟩ = some (.string ⟨#[]⟩) ∧ w.cell? ⟨g, 1, none⟩ = some (.int .i64 0) ∧ w.cell? ⟨g, 2, none⟩ = some (.int .i64 0)) ∧
    (w.frozen? ⟨g, 0, none⟩ = false ∧ w.frozen? ⟨g, 1, none⟩ = false ∧ w.frozen? ⟨g, 2, none⟩ = false) :=
  ⟨⟨cell_of_row w g 0 _ _ _ h.row, cell_of_row w g 1 _ _ _ h.row, cell_of_row w g 2 _ _ _ h.row⟩, frozen_of_row w g 0 _ _ h.row, frozen_of_row w g 1 _ _ h.row, frozen_of_row w g 2 _ _ h.row⟩
/-- The block with its result in it. -/
def RD (B : World) (g : Nat) (v : Value) (w : World) : Prop := (∃ s st e, v = resV s st e ∧ w.heap[g]? = some (.cells #[.string s, .int .i64 st, .int .i64 e] 45 (0, 0))) ∧ Below B.heap.size B w
theorem RI.put {B w : World} {g : Nat} (h : RI B g w) (s : ByteArray) (st e : Int) : RD B g (resV s st e) (w.setRow g #[.string s, .int .i64 st, .int .i64 e]) := by
  refine ⟨⟨s, st, e, rfl, setRow_heap w g _ _ _ _ h.row⟩, ?_⟩
  refine ⟨by rw [setRow_os]; exact h.below.os, by rw [setRow_tape]; exact h.below.tape, by rw [setRow_output]; exact h.below.output, by rw [setRow_size]; exact h.below.size, fun i hi => ?_⟩
  rw [setRow_other w g i _ (by have := h.low; omega)]
  exact h.below.block i hi
theorem RI.put3 {B w : World} {g : Nat} (h : RI B g w) (s : ByteArray) (st e : Int) : RD B g (resV s st e) (((w.setCell ⟨g, 0, none⟩ (.string s)).setCell ⟨g, 1, none⟩ (.int .i64 st)).setCell ⟨g, 2, none⟩ (.int .i64 e)) := by
  have h1 := heap_setCell_same w g 0 _ _ (.string s) h.row
  have h2 := heap_setCell_same _ g 1 _ _ (.int .i64 st) h1
  have h3 := heap_setCell_same _ g 2 _ _ (.int .i64 e) h2
  exact ⟨⟨s, st, e, rfl, h3⟩, ((h.below.setCell (p := ⟨g, 0, none⟩) h.low _).setCell (p := ⟨g, 1, none⟩) h.low _).setCell (p := ⟨g, 2, none⟩) h.low _⟩
theorem wpList_store_res {B w : World} {g : Nat} {ops : Array Oper} {rest : List Oper} {o : Oper} {a : Act} {Q : Exit → Act → World → Prop} (hgd : o.guard = none) (x y : Operand) (ho : o.op = .store 45 x y)
    (hR : RI B g w) (hx : a.eval x = .pointer (some ⟨g, 0, none⟩)) (s : ByteArray) (st e : Int) (hy : a.eval y = resV s st e)
    (hK : ∀ w', RD B g (resV s st e) w' → wpList Tryz.prog ops Q rest (a.put o.dst undef) w') : wpList Tryz.prog ops Q (o :: rest) a w :=
  wpList_store_row hgd 45 x y ho g #[.string s, .int .i64 st, .int .i64 e] hx hy 45 _ hR.row Tryz.infoUres rfl (by simp [Value.oneCell']) (hK _ (hR.put s st e))
theorem res_end {B w : World} {g : Nat} {v : Value} (h : RD B g v w) {fn : Func} {p : Tmp} (hr : fn.results = #[.cell p 45]) (a : Act) (hp : a.tmps.getD p undef = .pointer (some ⟨g, 0, none⟩)) (hd : a.defers = []) (R : Ending → World → Prop)
    (hR : Below B.heap.size B w → R (.returned v) w) : bodyPost Tryz.prog fn R .ret a w := by
  obtain ⟨⟨s, st, e, rfl, h1⟩, h2⟩ := h
  exact bodyPost_ret (v := .agg _) (results_cell_row (p := p) (ty := 45) hr _ _ g 45 _ (0, 0) _ hp h1 Tryz.underlying45 rfl Tryz.infoUres) hd (hR h2)

theorem failed_any (w : World) : Calls Tryz.prog 71 #[] w fun e w' => e = .returned (resV ⟨#[]⟩ 2 0) ∧ Below w.heap.size w w' := by
  have HR := Lib.hid (RI.start w)
  go_enter Tryz.func71, Tryz.ntmps71
  go_wp2_with (first
    | (refine wpList_store_res rfl _ _ rfl HR.out rfl _ _ _ rfl ?_; intro w1 hr1; have HD := Lib.hid hr1; clear hr1))
  exact res_end HD.out Tryz.results71 _ rfl rfl _ (fun hb => ⟨rfl, hb⟩)
theorem asked_any (b : Bool) (w : World) : Calls Tryz.prog 37 #[.bool b] w fun e w' => e = .returned (resV ⟨#[]⟩ (if b then 0 else 1) 0) ∧ Below w.heap.size w w' := by
  have HR := Lib.hid (RI.start w)
  cases b
  all_goals
    go_enter Tryz.func37, Tryz.ntmps37
    go_wp2_with (first
      | (refine wpList_store_res rfl _ _ rfl HR.out rfl _ _ _ rfl ?_; intro w1 hr1; have HD := Lib.hid hr1; clear hr1))
    exact res_end HD.out Tryz.results37 _ rfl rfl _ (fun hb => ⟨rfl, hb⟩)
def lineB (s : ByteArray) : ByteArray := s ++ ⟨#[10]⟩
theorem said_any (s : ByteArray) (w : World) (hs : s.size ≤ 70368744177664) : Calls Tryz.prog 34 #[.string s] w fun e w' => e = .returned (resV (lineB s) 0 0) ∧ Below w.heap.size w w' := by
  have HR := Lib.hid (RI.start w)
  have hz : (⟨#[10]⟩ : ByteArray).size = 1 := rfl
  go_enter Tryz.func34, Tryz.ntmps34
  go_wp2_with (first
    | (refine wpList_store_res rfl _ _ rfl HR.out rfl _ _ _ rfl ?_; intro w1 hr1; have HD := Lib.hid hr1; clear hr1))
  exact res_end HD.out Tryz.results34 _ rfl rfl _ (fun hb => ⟨rfl, hb⟩)
theorem tried_any (s : ByteArray) (x : Int) (w : World) (hs : s.size ≤ 70368744177664) : Calls Tryz.prog 44 #[.string s, .int .i64 x] w fun e w' => e = .returned (if x = 0 then resV (lineB s) 0 0 else resV ⟨#[]⟩ 2 0) ∧ Below w.heap.size w w' := by
  have HR := Lib.hid (RI.start w)
  by_cases hx : x = 0
  · subst hx
    rw [if_pos rfl]
    go_enter Tryz.func44, Tryz.ntmps44
    go_wp2_with (first
      | (go_at_call 34; refine (said_any s _ hs).mono ?_; rintro e w1 ⟨rfl, hb1⟩; have HR := Lib.hid (HR.out.later hb1); clear hb1)
      | (refine wpList_store_res rfl _ _ rfl HR.out rfl _ _ _ rfl ?_; intro w1 hr1; have HD := Lib.hid hr1; clear hr1))
    exact res_end HD.out Tryz.results44 _ rfl rfl _ (fun hb => ⟨rfl, hb⟩)
  · rw [if_neg hx]
    have hx' : (x != 0) = true := bne_iff_ne.2 hx
    clear hx
    go_enter Tryz.func44, Tryz.ntmps44
    go_wp2_with (first
      | (go_at_call 71; refine (failed_any _).mono ?_; rintro e w1 ⟨rfl, hb1⟩; have HR := Lib.hid (HR.out.later hb1); clear hb1)
      | (refine wpList_store_res rfl _ _ rfl HR.out rfl _ _ _ rfl ?_; intro w1 hr1; have HD := Lib.hid hr1; clear hr1))
    exact res_end HD.out Tryz.results44 _ rfl rfl _ (fun hb => ⟨rfl, hb⟩)
end Go.Proofs.YtbodnhpjfdnjfaaGreatDoor
namespace Go.Proofs.YtbodnhpjfdnjfaaGreatDoor
open Go.RowKit Go.Lib

theorem extract_cap (s : ByteArray) (a i j : Nat) (h : i = j ∨ (s.size ≤ i ∧ s.size ≤ j)) : s.extract a i = s.extract a j := by
  rcases h with rfl | ⟨h1, h2⟩
  · rfl
  · apply ba_ext
    rw [extract_piece, extract_piece]
    unfold pieceU
    rw [List.take_of_length_le (by rw [List.length_drop, ← size_eq]; omega), List.take_of_length_le (by rw [List.length_drop, ← size_eq]; omega)]
theorem sub_none (s : ByteArray) (f m : Int) (w : World) (_hs : s.size ≤ 70368744177664) (h : m < 1 ∨ (s.size : Int) < f) :
    Calls Tryz.prog 132 #[.string s, .int .i64 f, .int .i64 m] w fun e w' => e = .returned (.string ⟨#[]⟩) ∧ w' = w := by
  by_cases h1 : m < 1
  · clear h
    go_enter Tryz.func132, Tryz.ntmps132
    go_wp2
    go_ret
    exact ⟨rfl, rfl⟩
  · have h2 : (s.size : Int) < f := by omega
    clear h
    go_enter Tryz.func132, Tryz.ntmps132
    go_wp2
    go_ret
    exact ⟨rfl, rfl⟩
theorem sub_low (s : ByteArray) (f m k : Int) (w : World) (hs : s.size ≤ 70368744177664) (h1 : 1 ≤ m) (h2 : m ≤ 9223372036854775807) (h3 : f < 1) (h4 : -9223372036854775808 ≤ f) (hk : m + f - 1 = k) :
    Calls Tryz.prog 132 #[.string s, .int .i64 f, .int .i64 m] w fun e w' => e = .returned (.string (s.extract 0 k.toNat)) ∧ w' = w := by
  have a1 : ¬ m < 1 := by omega
  have a2 : ¬ (s.size : Int) < f := by omega
  have a3 : -9223372036854775808 ≤ m + f := by omega
  have a4 : m + f ≤ 9223372036854775807 := by omega
  have a5 : -9223372036854775808 ≤ k := by omega
  have a6 : k ≤ 9223372036854775807 := by omega
  go_enter Tryz.func132, Tryz.ntmps132
  go_wp2
  go_ret
  refine ⟨?_, rfl⟩
  show Ending.returned (.string (s.extract 0 (max 0 (min k ↑s.size)).toNat)) = _
  congr 2
  exact extract_cap s 0 _ _ (by omega)
theorem sub_high (s : ByteArray) (f m : Int) (j : Nat) (w : World) (hs : s.size ≤ 70368744177664) (h1 : 1 ≤ m) (h2 : m ≤ 9223372036854775807) (h3 : f = (j : Int) + 1) (h4 : j < s.size) :
    Calls Tryz.prog 132 #[.string s, .int .i64 f, .int .i64 m] w fun e w' => e = .returned (.string ((s.extract j s.size).extract 0 m.toNat)) ∧ w' = w := by
  subst h3
  have a1 : ¬ m < 1 := by omega
  have a2 : ¬ (s.size : Int) < (j : Int) + 1 := by omega
  have a3 : ¬ (j : Int) + 1 < 1 := by omega
  have a4 : (j : Int) + 1 - 1 = (j : Int) := by omega
  have a5 : (s.extract j s.size).size = s.size - j := by simp [ByteArray.size_extract]
  go_enter Tryz.func132, Tryz.ntmps132
  go_wp2
  go_ret
  refine ⟨?_, rfl⟩
  show Ending.returned (.string ((s.extract j s.size).extract 0 (max 0 (min m ↑(s.size - j))).toNat)) = _
  congr 2
  exact extract_cap _ 0 _ _ (by omega)
theorem subU_any (s : ByteArray) (f m : Int) (w : World) (hs : s.size ≤ 70368744177664) (h1 : -9223372036854775808 ≤ f) (h2 : m ≤ 9223372036854775807) :
    Calls Tryz.prog 132 #[.string s, .int .i64 f, .int .i64 m] w fun e w' => e = .returned (.string (ba (subU s.data.toList f m))) ∧ w' = w := by
  have hsz := size_eq s
  unfold subU
  by_cases h : m < 1 ∨ (s.data.toList.length : Int) < f
  · rw [if_pos h]
    exact sub_none s f m w hs (by omega)
  · rw [if_neg h]
    by_cases hf : f < 1
    · rw [if_pos hf]
      refine (sub_low s f m (m + f - 1) w hs (by omega) h2 hf h1 rfl).mono fun e w' ⟨he, hw⟩ => ⟨?_, hw⟩
      rw [he]
      congr 2
      apply ba_ext
      rw [extract_piece, ba_list]
      unfold pieceU
      simp
    · rw [if_neg hf]
      refine (sub_high s f m (f - 1).toNat w hs (by omega) h2 (by omega) (by omega)).mono fun e w' ⟨he, hw⟩ => ⟨?_, hw⟩
      rw [he]
      congr 2
      apply ba_ext
      rw [extract_piece, extract_piece, ba_list]
      unfold pieceU
      rw [List.take_of_length_le (l := s.data.toList.drop (f - 1).toNat) (by rw [List.length_drop]; omega)]
      simp
end Go.Proofs.YtbodnhpjfdnjfaaGreatDoor
namespace Go.Proofs.YtbodnhpjfdnjfaaGreatDoor
open Go.RowKit Go.Lib

theorem lt_cell {w : World} {b o : Nat} {v : Value} (h : w.cell? ⟨b, o, none⟩ = some v) : b < w.heap.size := by
  unfold World.cell? at h
  cases hb : w.heap[b]? with
  | none => simp [hb] at h
  | some x => exact (Array.getElem?_eq_some_iff.1 hb).1
theorem cell_later {w W : World} {b o : Nat} {v : Value} (hb : Below w.heap.size w W) (h : w.cell? ⟨b, o, none⟩ = some v) : W.cell? ⟨b, o, none⟩ = some v := (hb.cell (p := ⟨b, o, none⟩) (lt_cell h)).trans h
/-- What a function held on to answers, in later worlds. -/
def FnP (w : World) (k : Nat) (args : Array Value) (v : Value) : Prop := (∀ xs W, (callFunc k xs).run Tryz.prog W = .ok (.enter k xs) W) ∧ ∀ W, Below w.heap.size w W → Calls Tryz.prog k args W fun en W' => en = .returned v ∧ Below W.heap.size W W'
theorem FnP.later {w W : World} {k : Nat} {args : Array Value} {v : Value} (h : FnP w k args v) (hb : Below w.heap.size w W) : FnP W k args v := ⟨h.1, fun W' h2 => h.2 W' (below_at hb h2 hb.size)⟩
set_option maxHeartbeats 1000000 in
theorem two1_any (k b bk o c : Nat) (cc : Array Value) (x y s : ByteArray) (st e : Int) (w : World) (hb : w.cell? ⟨b, 0, none⟩ = some (.func (.func k) #[] cc)) (hx0 : w.cell? ⟨bk, o, none⟩ = some (.string x)) (hx1 : w.cell? ⟨bk, o + 1, none⟩ = some (.string y)) (hf : FnP w k (#[.string x, .string y] ++ cc) (resV s st e)) :
    Calls Tryz.prog 120 #[.slice (some ⟨bk, o, none⟩) 2 c, .pointer (some ⟨b, 0, none⟩)] w fun en w' => en = .returned (resV s st e) ∧ Below w.heap.size w w' := by
  obtain ⟨he, hf⟩ := hf
  have HF := Lib.hid hf
  clear hf
  have HR := Lib.hid (RI.start w)
  have c0 := cell_later HR.out.below hb
  have c1 := cell_later HR.out.below hx0
  have c2 := cell_later HR.out.below hx1
  clear hb hx0 hx1
  go_enter Tryz.func120, Tryz.ntmps120
  go_upto_region 3 with fail
  go_region_law (go_simp; go_at_fn k; refine (HF.out _ HR.out.drew.below).mono ?_; rintro e w1 ⟨rfl, hb1⟩; unfold resV; obtain ⟨⟨y0, y1, y2⟩, f0, f1, f2⟩ := (HR.out.drew.later hb1).cells; have HR := Lib.hid (HR.out.drew.later hb1); clear hb1)
  all_goals
    go_wp2
    exact res_end (HR.out.put3 s st e) Tryz.results120 _ rfl rfl _ (fun hb => ⟨rfl, hb⟩)
set_option maxHeartbeats 1000000 in
theorem three1_any (k b bk o c : Nat) (cc : Array Value) (x y z s : ByteArray) (st e : Int) (w : World) (hb : w.cell? ⟨b, 0, none⟩ = some (.func (.func k) #[] cc)) (hx0 : w.cell? ⟨bk, o, none⟩ = some (.string x)) (hx1 : w.cell? ⟨bk, o + 1, none⟩ = some (.string y)) (hx2 : w.cell? ⟨bk, o + 2, none⟩ = some (.string z)) (hf : FnP w k (#[.string x, .string y, .string z] ++ cc) (resV s st e)) :
    Calls Tryz.prog 130 #[.slice (some ⟨bk, o, none⟩) 3 c, .pointer (some ⟨b, 0, none⟩)] w fun en w' => en = .returned (resV s st e) ∧ Below w.heap.size w w' := by
  obtain ⟨he, hf⟩ := hf
  have HF := Lib.hid hf
  clear hf
  have HR := Lib.hid (RI.start w)
  have c0 := cell_later HR.out.below hb
  have c1 := cell_later HR.out.below hx0
  have c2 := cell_later HR.out.below hx1
  have c3 := cell_later HR.out.below hx2
  clear hb hx0 hx1 hx2
  go_enter Tryz.func130, Tryz.ntmps130
  go_upto_region 3 with fail
  go_region_law (go_simp; go_at_fn k; refine (HF.out _ HR.out.drew.below).mono ?_; rintro e w1 ⟨rfl, hb1⟩; unfold resV; obtain ⟨⟨y0, y1, y2⟩, f0, f1, f2⟩ := (HR.out.drew.later hb1).cells; have HR := Lib.hid (HR.out.drew.later hb1); clear hb1)
  all_goals
    go_wp2
    exact res_end (HR.out.put3 s st e) Tryz.results130 _ rfl rfl _ (fun hb => ⟨rfl, hb⟩)
end Go.Proofs.YtbodnhpjfdnjfaaGreatDoor
namespace Go.Proofs.YtbodnhpjfdnjfaaGreatDoor
open Go.RowKit Go.Lib

theorem numberD_fits (l : List UInt8) : -9223372036854775808 ≤ (numberD l).1 ∧ (numberD l).1 ≤ 9223372036854775807 := by
  rcases numberD_cases l with ⟨_, h⟩ | ⟨_, h⟩
  · exact h
  · rw [h]; omega
theorem part_any (s : ByteArray) (w : World) (hs : s.size ≤ 30000000000000) :
    Calls Tryz.prog 131 #[.string s] w fun e w' => e = .returned (.tuple #[.int .i64 ((numberD s.data.toList).1.tdiv 1000000), .bool ((numberD s.data.toList).2 == 0)]) ∧ Below w.heap.size w w' := by
  have k := numberV_any s w hs
  go_enter Tryz.func131, Tryz.ntmps131
  go_wp2_with (first
    | (go_at_call 122; refine k.mono ?_; rintro e w1 ⟨rfl, hb1⟩; unfold numberE)
    | (go_at_call 178; refine (trunc_any _ _ (numberD_fits _)).mono ?_; rintro e w2 ⟨rfl, rfl⟩))
  go_ret2
  exact ⟨rfl, hb1⟩
/-- What str sub answers. -/
def subW (a f m : List UInt8) : List UInt8 × Int := if (numberD f).2 = 0 ∧ (numberD m).2 = 0 then (subU a ((numberD f).1.tdiv 1000000) ((numberD m).1.tdiv 1000000) ++ [10], 0) else ([], 2)
theorem tdiv_fits {x : Int} (h : -9223372036854775808 ≤ x ∧ x ≤ 9223372036854775807) : -9223372036854775808 ≤ x.tdiv 1000000 ∧ x.tdiv 1000000 ≤ 9223372036854775807 := by
  have h1 : (x.tdiv 1000000).natAbs = x.natAbs / 1000000 := Int.natAbs_tdiv x 1000000
  omega
theorem subU_len (l : List UInt8) (f m : Int) : (subU l f m).length ≤ l.length := by
  unfold subU
  split
  · simp
  · split
    · rw [List.length_take]; omega
    · rw [List.length_take, List.length_drop]; omega
theorem lineB_ba (l : List UInt8) : lineB (ba l) = ba (l ++ [10]) := by
  unfold lineB
  exact ba_append l [10]
theorem subW_any (a f m : ByteArray) (w : World) (ha : a.size ≤ 1000000) (hf : f.size ≤ 1000000) (hm : m.size ≤ 1000000) :
    Calls Tryz.prog 88 #[.string a, .string f, .string m] w fun e w' => e = .returned (resV (ba (subW a.data.toList f.data.toList m.data.toList).1) (subW a.data.toList f.data.toList m.data.toList).2 0) ∧ Below w.heap.size w w' := by
  have HR := Lib.hid (RI.start w)
  have k1 := Lib.hid (fun W => part_any f W (by omega))
  have k2 := Lib.hid (fun W => part_any m W (by omega))
  have g1 := tdiv_fits (numberD_fits f.data.toList)
  have g2 := tdiv_fits (numberD_fits m.data.toList)
  have hsz := size_eq a
  by_cases hc : (numberD f.data.toList).2 = 0 ∧ (numberD m.data.toList).2 = 0
  · have e1 : subW a.data.toList f.data.toList m.data.toList = (subU a.data.toList ((numberD f.data.toList).1.tdiv 1000000) ((numberD m.data.toList).1.tdiv 1000000) ++ [10], 0) := if_pos hc
    rw [e1]
    simp only []
    obtain ⟨c1, c2⟩ := hc
    rw [c1] at k1
    rw [c2] at k2
    have hl := subU_len a.data.toList ((numberD f.data.toList).1.tdiv 1000000) ((numberD m.data.toList).1.tdiv 1000000)
    generalize (numberD f.data.toList).1.tdiv 1000000 = x at *
    generalize (numberD m.data.toList).1.tdiv 1000000 = y at *
    have k3 := Lib.hid (fun W => subU_any a x y W (by omega) g1.1 g2.2)
    have k4 := Lib.hid (fun W => said_any (ba (subU a.data.toList x y)) W (by rw [ba_len]; omega))
    rw [lineB_ba] at k4
    clear c1 c2 e1 hl g1 g2 hsz ha hf hm
    generalize ba (subU a.data.toList x y ++ [10]) = R at *
    generalize ba (subU a.data.toList x y) = R0 at *
    go_enter Tryz.func88, Tryz.ntmps88
    go_wp2_with (first
      | (go_at_call 131; first
          | (with_reducible refine (k1.out _).mono ?_; rintro e w1 ⟨rfl, hb1⟩; have HR := Lib.hid (HR.out.later hb1); clear hb1)
          | (with_reducible refine (k2.out _).mono ?_; rintro e w2 ⟨rfl, hb1⟩; have HR := Lib.hid (HR.out.later hb1); clear hb1))
      | (go_at_call 132; with_reducible refine (k3.out _).mono ?_; rintro e w3 ⟨rfl, rfl⟩)
      | (go_at_call 34; with_reducible refine (k4.out _).mono ?_; rintro e w4 ⟨rfl, hb1⟩; have HR := Lib.hid (HR.out.later hb1); clear hb1)
      | (refine wpList_store_res rfl _ _ rfl HR.out rfl _ _ _ rfl ?_; intro w5 hr1; have HD := Lib.hid hr1; clear hr1))
    exact res_end HD.out Tryz.results88 _ rfl rfl _ (fun hb => ⟨rfl, hb⟩)
  · have e1 : subW a.data.toList f.data.toList m.data.toList = ([], 2) := if_neg hc
    rw [e1]
    simp only []
    have hb : ((numberD f.data.toList).2 == 0) = false ∨ ((numberD f.data.toList).2 == 0) = true ∧ ((numberD m.data.toList).2 == 0) = false := by
      by_cases h : (numberD f.data.toList).2 = 0
      · exact .inr ⟨beq_iff_eq.2 h, beq_eq_false_iff_ne.2 (fun h2 => hc ⟨h, h2⟩)⟩
      · exact .inl (beq_eq_false_iff_ne.2 h)
    clear hc e1
    generalize (numberD f.data.toList).1.tdiv 1000000 = x at *
    generalize (numberD m.data.toList).1.tdiv 1000000 = y at *
    rcases hb with h | ⟨h, h'⟩
    · rw [h] at k1
      generalize ((numberD m.data.toList).2 == 0) = z at *
      clear h g1 g2 hsz ha hf hm
      go_enter Tryz.func88, Tryz.ntmps88
      go_wp2_with (first
        | (go_at_call 131; first
            | (with_reducible refine (k1.out _).mono ?_; rintro e w1 ⟨rfl, hb1⟩; have HR := Lib.hid (HR.out.later hb1); clear hb1)
            | (with_reducible refine (k2.out _).mono ?_; rintro e w2 ⟨rfl, hb1⟩; have HR := Lib.hid (HR.out.later hb1); clear hb1))
        | (go_at_call 71; refine (failed_any _).mono ?_; rintro e w1 ⟨rfl, hb1⟩; have HR := Lib.hid (HR.out.later hb1); clear hb1)
        | (refine wpList_store_res rfl _ _ rfl HR.out rfl _ _ _ rfl ?_; intro w5 hr1; have HD := Lib.hid hr1; clear hr1))
      exact res_end HD.out Tryz.results88 _ rfl rfl _ (fun hb => ⟨rfl, hb⟩)
    · rw [h] at k1
      rw [h'] at k2
      clear h h' g1 g2 hsz ha hf hm
      go_enter Tryz.func88, Tryz.ntmps88
      go_wp2_with (first
        | (go_at_call 131; first
            | (with_reducible refine (k1.out _).mono ?_; rintro e w1 ⟨rfl, hb1⟩; have HR := Lib.hid (HR.out.later hb1); clear hb1)
            | (with_reducible refine (k2.out _).mono ?_; rintro e w2 ⟨rfl, hb1⟩; have HR := Lib.hid (HR.out.later hb1); clear hb1))
        | (go_at_call 71; refine (failed_any _).mono ?_; rintro e w1 ⟨rfl, hb1⟩; have HR := Lib.hid (HR.out.later hb1); clear hb1)
        | (refine wpList_store_res rfl _ _ rfl HR.out rfl _ _ _ rfl ?_; intro w5 hr1; have HD := Lib.hid hr1; clear hr1))
      exact res_end HD.out Tryz.results88 _ rfl rfl _ (fun hb => ⟨rfl, hb⟩)
end Go.Proofs.YtbodnhpjfdnjfaaGreatDoor
namespace Go.Proofs.YtbodnhpjfdnjfaaGreatDoor
open Go.RowKit Go.Lib

/-- What the table answers at a word: a function that answers v of the other words. -/
def TabP (w : World) (kt : Nat) (x : ByteArray) (args : Array Value) (v : Value) : Prop := (∀ xs W, (callFunc kt xs).run Tryz.prog W = .ok (.enter kt xs) W) ∧ ∀ W, Below w.heap.size w W → Calls Tryz.prog kt #[] W fun en W' =>
  ∃ m, en = .returned (.map (some m)) ∧ Below W.heap.size W W' ∧ ∃ kf cc, (Instr.lookup 41 (.map (some m)) (.string x) true).run Tryz.prog W' = .ok (.tuple #[.func (.func kf) #[] cc, .bool true]) W' ∧ FnP W' kf (args ++ cc) v
set_option maxHeartbeats 1000000 in
set_option maxRecDepth 20000 in
theorem by1_any (kt b bk o n c : Nat) (x s : ByteArray) (st e : Int) (w : World) (hb : w.cell? ⟨b, 0, none⟩ = some (fnU kt)) (hx : w.cell? ⟨bk, o, none⟩ = some (.string x)) (_hn : n + 1 ≤ c) (_hc : c ≤ 1000000)
    (A : Option Addr) (hA : (if c = 1 then some (⟨bk, o, none⟩ : Addr) else some ⟨bk, o + 1, none⟩) = A) (hT : TabP w kt x #[.slice A n (c - 1)] (resV s st e)) :
    Calls Tryz.prog 73 #[.slice (some ⟨bk, o, none⟩) (n + 1) c, .pointer (some ⟨b, 0, none⟩)] w fun en w' => en = .returned (resV s st e) ∧ Below w.heap.size w w' := by
  obtain ⟨he, hT⟩ := hT
  have HT := Lib.hid hT
  have HA := Lib.hid hA
  clear hT hA
  unfold fnU at hb
  have HR := Lib.hid (RI.start w)
  have c0 := cell_later HR.out.below hb
  have c1 := cell_later HR.out.below hx
  have HX := Lib.hid (fun W (h : Below w.heap.size w W) => cell_later h hx)
  clear hb hx
  have hz : (((n + 1 : Nat) : Int) == 0) = false := by simp; omega
  go_enter Tryz.func73, Tryz.ntmps73
  go_upto_region 3 with fail
  go_region_law (go_simp; go_at_fn kt; refine (HT.out _ HR.out.drew.below).mono ?_; rintro e w1 ⟨m, rfl, hb1, kf, cc, hl, hf⟩; have hx1 := HX.out _ (HR.out.drew.later hb1).below; have HR := Lib.hid (HR.out.drew.later hb1); clear hb1; have hkf := hf.1; have HF := Lib.hid hf.2; clear hf)
  all_goals
    go_wp2_with (first
      | (go_at_fn kf; rw [HA.out]; refine (HF.out _ (Below.refl _ _)).mono ?_; rintro e w2 ⟨rfl, hb2⟩; have HR := Lib.hid (HR.out.later hb2); clear hb2)
      | (refine wpList_store_res rfl _ _ rfl HR.out rfl _ _ _ rfl ?_; intro w3 hr1; have HD := Lib.hid hr1; clear hr1))
    exact res_end HD.out Tryz.results73 _ rfl rfl _ (fun hb => ⟨rfl, hb⟩)
end Go.Proofs.YtbodnhpjfdnjfaaGreatDoor
