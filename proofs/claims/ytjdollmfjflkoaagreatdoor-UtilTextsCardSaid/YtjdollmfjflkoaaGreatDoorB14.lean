/- Packed texts: UtClo, UtWords, UtBy, UtNums, UtRun. What each of them proves stands above its theorems; the conditions stand in these. -/
import Derived.Deep.Cut
import Derived.Deep.CutBlock
import Derived.Deep.RegionHeld3
import Derived.Deep.RegionLaw
import Derived.Test.YtjdollmfjflkoaaGreatDoorB13
namespace Go.Proofs.YtjdollmfjflkoaaGreatDoor
open Go.RowKit Go.Lib

theorem lt_cell {w : World} {b o : Nat} {v : Value} (h : w.cell? ⟨b, o, none⟩ = some v) : b < w.heap.size := by
  unfold World.cell? at h
  cases hb : w.heap[b]? with
  | none => simp [hb] at h
  | some x => exact (Array.getElem?_eq_some_iff.1 hb).1
theorem cell_later {w W : World} {b o : Nat} {v : Value} (hb : Below w.heap.size w W) (h : w.cell? ⟨b, o, none⟩ = some v) : W.cell? ⟨b, o, none⟩ = some v := (hb.cell (p := ⟨b, o, none⟩) (lt_cell h)).trans h
/-- What a function held on to answers, in later worlds. -/
def FnP (w : World) (k : Nat) (args : Array Value) (v : Value) : Prop := (∀ xs W, (callFunc k xs).run Tryz.prog W = .ok (.enter k xs) W) ∧ ∀ W, Below w.heap.size w W → Calls Tryz.prog k args W fun en W' => en = .returned v ∧ Below W.heap.size W W'
theorem FnP.later {w W : World} {k : Nat} {args : Array Value} {v : Value} (h : FnP w k args v) (hb : Below w.heap.size w W) : FnP W k args v := ⟨h.1, fun W' h2 => h.2 W' (below_at hb h2 hb.size)⟩
set_option maxHeartbeats 1000000 in
theorem two1_any (k b bk o c : Nat) (cc : Array Value) (x y s : ByteArray) (st e : Int) (w : World) (hb : w.cell? ⟨b, 0, none⟩ = some (.func (.func k) #[] cc)) (hx0 : w.cell? ⟨bk, o, none⟩ = some (.string x)) (hx1 : w.cell? ⟨bk, o + 1, none⟩ = some (.string y)) (hf : FnP w k (#[.string x, .string y] ++ cc) (resV s st e)) :
    Calls Tryz.prog 87 #[.slice (some ⟨bk, o, none⟩) 2 c, .pointer (some ⟨b, 0, none⟩)] w fun en w' => en = .returned (resV s st e) ∧ Below w.heap.size w w' := by
  obtain ⟨he, hf⟩ := hf
  have HF := Lib.hid hf
  clear hf
  have HR := Lib.hid (RI.start w)
  have c0 := cell_later HR.out.below hb
  have c1 := cell_later HR.out.below hx0
  have c2 := cell_later HR.out.below hx1
  clear hb hx0 hx1
  go_enter Tryz.func87, Tryz.ntmps87
  go_upto_region 3 with fail
  go_region_law (go_simp; go_at_fn k; refine (HF.out _ HR.out.drew.below).mono ?_; rintro e w1 ⟨rfl, hb1⟩; unfold resV; obtain ⟨⟨y0, y1, y2⟩, f0, f1, f2⟩ := (HR.out.drew.later hb1).cells; have HR := Lib.hid (HR.out.drew.later hb1); clear hb1)
  all_goals
    go_wp2
    exact res_end (HR.out.put3 s st e) Tryz.results87 _ rfl rfl _ (fun hb => ⟨rfl, hb⟩)
set_option maxHeartbeats 1000000 in
theorem three1_any (k b bk o c : Nat) (cc : Array Value) (x y z s : ByteArray) (st e : Int) (w : World) (hb : w.cell? ⟨b, 0, none⟩ = some (.func (.func k) #[] cc)) (hx0 : w.cell? ⟨bk, o, none⟩ = some (.string x)) (hx1 : w.cell? ⟨bk, o + 1, none⟩ = some (.string y)) (hx2 : w.cell? ⟨bk, o + 2, none⟩ = some (.string z)) (hf : FnP w k (#[.string x, .string y, .string z] ++ cc) (resV s st e)) :
    Calls Tryz.prog 96 #[.slice (some ⟨bk, o, none⟩) 3 c, .pointer (some ⟨b, 0, none⟩)] w fun en w' => en = .returned (resV s st e) ∧ Below w.heap.size w w' := by
  obtain ⟨he, hf⟩ := hf
  have HF := Lib.hid hf
  clear hf
  have HR := Lib.hid (RI.start w)
  have c0 := cell_later HR.out.below hb
  have c1 := cell_later HR.out.below hx0
  have c2 := cell_later HR.out.below hx1
  have c3 := cell_later HR.out.below hx2
  clear hb hx0 hx1 hx2
  go_enter Tryz.func96, Tryz.ntmps96
  go_upto_region 3 with fail
  go_region_law (go_simp; go_at_fn k; refine (HF.out _ HR.out.drew.below).mono ?_; rintro e w1 ⟨rfl, hb1⟩; unfold resV; obtain ⟨⟨y0, y1, y2⟩, f0, f1, f2⟩ := (HR.out.drew.later hb1).cells; have HR := Lib.hid (HR.out.drew.later hb1); clear hb1)
  all_goals
    go_wp2
    exact res_end (HR.out.put3 s st e) Tryz.results96 _ rfl rfl _ (fun hb => ⟨rfl, hb⟩)
end Go.Proofs.YtjdollmfjflkoaaGreatDoor
namespace Go.Proofs.YtjdollmfjflkoaaGreatDoor
open Go.RowKit Go.Lib

theorem numberD_fits (l : List UInt8) : -9223372036854775808 ≤ (numberD l).1 ∧ (numberD l).1 ≤ 9223372036854775807 := by
  rcases numberD_cases l with ⟨_, h⟩ | ⟨_, h⟩
  · exact h
  · rw [h]; omega
theorem part_any (s : ByteArray) (w : World) (hs : s.size ≤ 30000000000000) :
    Calls Tryz.prog 97 #[.string s] w fun e w' => e = .returned (.tuple #[.int .i64 ((numberD s.data.toList).1.tdiv 1000000), .bool ((numberD s.data.toList).2 == 0)]) ∧ Below w.heap.size w w' := by
  have k := numberV_any s w hs
  go_enter Tryz.func97, Tryz.ntmps97
  go_wp2_with (first
    | (go_at_call 89; refine k.mono ?_; rintro e w1 ⟨rfl, hb1⟩; unfold numberE)
    | (go_at_call 130; refine (trunc_any _ _ (numberD_fits _)).mono ?_; rintro e w2 ⟨rfl, rfl⟩))
  go_ret2
  exact ⟨rfl, hb1⟩
/-- What str sub answers. -/
def subW (a f m : List UInt8) : List UInt8 × Int := if (numberD f).2 = 0 ∧ (numberD m).2 = 0 then (subU a ((numberD f).1.tdiv 1000000) ((numberD m).1.tdiv 1000000) ++ [10], 0) else ([], 2)
theorem tdiv_fits {x : Int} (h : -9223372036854775808 ≤ x ∧ x ≤ 9223372036854775807) : -9223372036854775808 ≤ x.tdiv 1000000 ∧ x.tdiv 1000000 ≤ 9223372036854775807 := by
  have h1 : (x.tdiv 1000000).natAbs = x.natAbs / 1000000 := Int.natAbs_tdiv x 1000000
  omega
theorem subU_len (l : List UInt8) (f m : Int) : (subU l f m).length ≤ l.length := by
  unfold subU
  split
  · simp
  · split
    · rw [List.length_take]; omega
    · rw [List.length_take, List.length_drop]; omega
theorem lineB_ba (l : List UInt8) : lineB (ba l) = ba (l ++ [10]) := by
  unfold lineB
  exact ba_append l [10]
theorem subW_any (a f m : ByteArray) (w : World) (ha : a.size ≤ 1000000) (hf : f.size ≤ 1000000) (hm : m.size ≤ 1000000) :
    Calls Tryz.prog 72 #[.string a, .string f, .string m] w fun e w' => e = .returned (resV (ba (subW a.data.toList f.data.toList m.data.toList).1) (subW a.data.toList f.data.toList m.data.toList).2 0) ∧ Below w.heap.size w w' := by
  have HR := Lib.hid (RI.start w)
  have k1 := Lib.hid (fun W => part_any f W (by omega))
  have k2 := Lib.hid (fun W => part_any m W (by omega))
  have g1 := tdiv_fits (numberD_fits f.data.toList)
  have g2 := tdiv_fits (numberD_fits m.data.toList)
  have hsz := size_eq a
  by_cases hc : (numberD f.data.toList).2 = 0 ∧ (numberD m.data.toList).2 = 0
  · have e1 : subW a.data.toList f.data.toList m.data.toList = (subU a.data.toList ((numberD f.data.toList).1.tdiv 1000000) ((numberD m.data.toList).1.tdiv 1000000) ++ [10], 0) := if_pos hc
    rw [e1]
    simp only []
    obtain ⟨c1, c2⟩ := hc
    rw [c1] at k1
    rw [c2] at k2
    have hl := subU_len a.data.toList ((numberD f.data.toList).1.tdiv 1000000) ((numberD m.data.toList).1.tdiv 1000000)
    generalize (numberD f.data.toList).1.tdiv 1000000 = x at *
    generalize (numberD m.data.toList).1.tdiv 1000000 = y at *
    have k3 := Lib.hid (fun W => subU_any a x y W (by omega) g1.1 g2.2)
    have k4 := Lib.hid (fun W => said_any (ba (subU a.data.toList x y)) W (by rw [ba_len]; omega))
    rw [lineB_ba] at k4
    clear c1 c2 e1 hl g1 g2 hsz ha hf hm
    generalize ba (subU a.data.toList x y ++ [10]) = R at *
    generalize ba (subU a.data.toList x y) = R0 at *
    go_enter Tryz.func72, Tryz.ntmps72
    go_wp2_with (first
      | (go_at_call 97; first
          | (with_reducible refine (k1.out _).mono ?_; rintro e w1 ⟨rfl, hb1⟩; have HR := Lib.hid (HR.out.later hb1); clear hb1)
          | (with_reducible refine (k2.out _).mono ?_; rintro e w2 ⟨rfl, hb1⟩; have HR := Lib.hid (HR.out.later hb1); clear hb1))
      | (go_at_call 15; with_reducible refine (k3.out _).mono ?_; rintro e w3 ⟨rfl, rfl⟩)
      | (go_at_call 30; with_reducible refine (k4.out _).mono ?_; rintro e w4 ⟨rfl, hb1⟩; have HR := Lib.hid (HR.out.later hb1); clear hb1)
      | (refine wpList_store_res rfl _ _ rfl HR.out rfl _ _ _ rfl ?_; intro w5 hr1; have HD := Lib.hid hr1; clear hr1))
    exact res_end HD.out Tryz.results72 _ rfl rfl _ (fun hb => ⟨rfl, hb⟩)
  · have e1 : subW a.data.toList f.data.toList m.data.toList = ([], 2) := if_neg hc
    rw [e1]
    simp only []
    have hb : ((numberD f.data.toList).2 == 0) = false ∨ ((numberD f.data.toList).2 == 0) = true ∧ ((numberD m.data.toList).2 == 0) = false := by
      by_cases h : (numberD f.data.toList).2 = 0
      · exact .inr ⟨beq_iff_eq.2 h, beq_eq_false_iff_ne.2 (fun h2 => hc ⟨h, h2⟩)⟩
      · exact .inl (beq_eq_false_iff_ne.2 h)
    clear hc e1
    generalize (numberD f.data.toList).1.tdiv 1000000 = x at *
    generalize (numberD m.data.toList).1.tdiv 1000000 = y at *
    rcases hb with h | ⟨h, h'⟩
    · rw [h] at k1
      generalize ((numberD m.data.toList).2 == 0) = z at *
      clear h g1 g2 hsz ha hf hm
      go_enter Tryz.func72, Tryz.ntmps72
      go_wp2_with (first
        | (go_at_call 97; first
            | (with_reducible refine (k1.out _).mono ?_; rintro e w1 ⟨rfl, hb1⟩; have HR := Lib.hid (HR.out.later hb1); clear hb1)
            | (with_reducible refine (k2.out _).mono ?_; rintro e w2 ⟨rfl, hb1⟩; have HR := Lib.hid (HR.out.later hb1); clear hb1))
        | (go_at_call 56; refine (failed_any _).mono ?_; rintro e w1 ⟨rfl, hb1⟩; have HR := Lib.hid (HR.out.later hb1); clear hb1)
        | (refine wpList_store_res rfl _ _ rfl HR.out rfl _ _ _ rfl ?_; intro w5 hr1; have HD := Lib.hid hr1; clear hr1))
      exact res_end HD.out Tryz.results72 _ rfl rfl _ (fun hb => ⟨rfl, hb⟩)
    · rw [h] at k1
      rw [h'] at k2
      clear h h' g1 g2 hsz ha hf hm
      go_enter Tryz.func72, Tryz.ntmps72
      go_wp2_with (first
        | (go_at_call 97; first
            | (with_reducible refine (k1.out _).mono ?_; rintro e w1 ⟨rfl, hb1⟩; have HR := Lib.hid (HR.out.later hb1); clear hb1)
            | (with_reducible refine (k2.out _).mono ?_; rintro e w2 ⟨rfl, hb1⟩; have HR := Lib.hid (HR.out.later hb1); clear hb1))
        | (go_at_call 56; refine (failed_any _).mono ?_; rintro e w1 ⟨rfl, hb1⟩; have HR := Lib.hid (HR.out.later hb1); clear hb1)
        | (refine wpList_store_res rfl _ _ rfl HR.out rfl _ _ _ rfl ?_; intro w5 hr1; have HD := Lib.hid hr1; clear hr1))
      exact res_end HD.out Tryz.results72 _ rfl rfl _ (fun hb => ⟨rfl, hb⟩)
end Go.Proofs.YtjdollmfjflkoaaGreatDoor
namespace Go.Proofs.YtjdollmfjflkoaaGreatDoor
open Go.RowKit Go.Lib

/-- What the table answers at a word: a function that answers v of the other words. -/
def TabP (w : World) (kt : Nat) (x : ByteArray) (args : Array Value) (v : Value) : Prop := (∀ xs W, (callFunc kt xs).run Tryz.prog W = .ok (.enter kt xs) W) ∧ ∀ W, Below w.heap.size w W → Calls Tryz.prog kt #[] W fun en W' =>
  ∃ m, en = .returned (.map (some m)) ∧ Below W.heap.size W W' ∧ ∃ kf cc, (Instr.lookup 45 (.map (some m)) (.string x) true).run Tryz.prog W' = .ok (.tuple #[.func (.func kf) #[] cc, .bool true]) W' ∧ FnP W' kf (args ++ cc) v
set_option maxHeartbeats 1000000 in
set_option maxRecDepth 20000 in
theorem by1_any (kt b bk o n c : Nat) (x s : ByteArray) (st e : Int) (w : World) (hb : w.cell? ⟨b, 0, none⟩ = some (fnU kt)) (hx : w.cell? ⟨bk, o, none⟩ = some (.string x)) (_hn : n + 1 ≤ c) (_hc : c ≤ 1000000)
    (A : Option Addr) (hA : (if c = 1 then some (⟨bk, o, none⟩ : Addr) else some ⟨bk, o + 1, none⟩) = A) (hT : TabP w kt x #[.slice A n (c - 1)] (resV s st e)) :
    Calls Tryz.prog 58 #[.slice (some ⟨bk, o, none⟩) (n + 1) c, .pointer (some ⟨b, 0, none⟩)] w fun en w' => en = .returned (resV s st e) ∧ Below w.heap.size w w' := by
  obtain ⟨he, hT⟩ := hT
  have HT := Lib.hid hT
  have HA := Lib.hid hA
  clear hT hA
  unfold fnU at hb
  have HR := Lib.hid (RI.start w)
  have c0 := cell_later HR.out.below hb
  have c1 := cell_later HR.out.below hx
  have HX := Lib.hid (fun W (h : Below w.heap.size w W) => cell_later h hx)
  clear hb hx
  have hz : (((n + 1 : Nat) : Int) == 0) = false := by simp; omega
  go_enter Tryz.func58, Tryz.ntmps58
  go_upto_region 3 with fail
  go_region_law (go_simp; go_at_fn kt; refine (HT.out _ HR.out.drew.below).mono ?_; rintro e w1 ⟨m, rfl, hb1, kf, cc, hl, hf⟩; have hx1 := HX.out _ (HR.out.drew.later hb1).below; have HR := Lib.hid (HR.out.drew.later hb1); clear hb1; have hkf := hf.1; have HF := Lib.hid hf.2; clear hf)
  all_goals
    go_wp2_with (first
      | (go_at_fn kf; rw [HA.out]; refine (HF.out _ (Below.refl _ _)).mono ?_; rintro e w2 ⟨rfl, hb2⟩; have HR := Lib.hid (HR.out.later hb2); clear hb2)
      | (refine wpList_store_res rfl _ _ rfl HR.out rfl _ _ _ rfl ?_; intro w3 hr1; have HD := Lib.hid hr1; clear hr1))
    exact res_end HD.out Tryz.results58 _ rfl rfl _ (fun hb => ⟨rfl, hb⟩)
end Go.Proofs.YtjdollmfjflkoaaGreatDoor
namespace Go.Proofs.YtjdollmfjflkoaaGreatDoor
open Go.RowKit Go.Lib

theorem UI.more {w0 w w' : World} {m n : Nat} {es : List Ent} {ks ks' : List (Nat × Value)} (h : UI w0 m n es ks w) (hb : Below w.heap.size w w') (hk : ∀ x ∈ ks', w.heap.size ≤ x.1 ∧ x.1 < w'.heap.size ∧ w'.cell? ⟨x.1, 0, none⟩ = some x.2) : UI w0 m n es (ks' ++ ks) w' := by
  have hl := h.later hb
  refine ⟨hl.own, hl.low, hl.below, fun x hx => ?_⟩
  rcases List.mem_append.1 hx with hx | hx
  · obtain ⟨h1, h2, h3⟩ := hk x hx
    exact ⟨fun he => absurd h.own.lt (by omega), h2, h3⟩
  · exact hl.cells x hx
theorem reckonU_ks (op : Int) (w : World) : Calls Tryz.prog 59 #[.int .u8 op] w fun e w' => ∃ b o, e = .returned (cloV 87 b) ∧ Below w.heap.size w w' ∧
    (∀ x ∈ [(b, cloV 61 o), (o, .int .u8 op)], w.heap.size ≤ x.1 ∧ x.1 < w'.heap.size ∧ w'.cell? ⟨x.1, 0, none⟩ = some x.2) := by
  refine (reckonU_any op w).mono ?_
  rintro e w' ⟨b, o, h1, h2, ⟨h3, h4, h5⟩, h6, h7, h8⟩
  refine ⟨b, o, h1, h2, fun x hx => ?_⟩
  rcases List.mem_cons.1 hx with rfl | hx
  · exact ⟨h4, h3, h5⟩
  · obtain rfl := List.mem_singleton.1 hx
    exact ⟨h7, h6, h8⟩
def nuEs (a b c d e f g h : Nat) : List Ent :=
  [⟨[43], cloV 87 a⟩, ⟨[45], cloV 87 b⟩, ⟨[42], cloV 87 c⟩, ⟨[47], cloV 87 d⟩, ⟨[37], cloV 87 e⟩, ⟨[99, 109, 112], cloV 87 f⟩, ⟨[108, 111, 119], cloV 55 g⟩, ⟨[116, 114, 117, 101], cloV 55 h⟩]
def nuKs (a b c d e f g h a' b' c' d' e' : Nat) : List (Nat × Value) :=
  [(h, fnU 67), (g, fnU 66), (f, fnU 63), (e, cloV 61 e'), (e', .int .u8 37), (d, cloV 61 d'), (d', .int .u8 47), (c, cloV 61 c'), (c', .int .u8 42),
   (b, cloV 61 b'), (b', .int .u8 45), (a, cloV 61 a'), (a', .int .u8 43)]
set_option maxRecDepth 20000 in
theorem numbers_any (w : World) :
    Calls Tryz.prog 43 #[] w fun en w' => ∃ m a b c d e f g h a' b' c' d' e', en = .returned (.map (some m)) ∧ UI w m 8 (nuEs a b c d e f g h) (nuKs a b c d e f g h a' b' c' d' e') w' := by
  have hmm := @run_makeMap Tryz.prog
  have HU := Lib.hid (UI.made w w w.heap.size rfl [] (Below.refl _ w) (fun x hx => by cases hx))
  go_enter Tryz.func43, Tryz.ntmps43
  go_wp2_with (first
    | (go_at_call 59; refine (reckonU_ks _ _).mono ?_; rintro e w1 ⟨b1, o1, rfl, hb1, hk1⟩; have HU := Lib.hid (HU.out.more hb1 hk1); clear hb1 hk1)
    | (go_at_call 36; refine (oneU_any _ _ _ _).mono ?_; rintro e w1 ⟨b1, rfl, hn1⟩; have HU := Lib.hid (HU.out.new hn1); clear hn1)
    | (go_at_call 60; refine (twoU_any _ _ _ _).mono ?_; rintro e w1 ⟨b1, rfl, hn1⟩; have HU := Lib.hid (HU.out.new hn1); clear hn1)
    | (refine wpList_insert_U rfl _ _ _ rfl _ _ _ _ HU.out (by decide) rfl _ (cloV _ _) rfl rfl (by decide) ?_; intro w1 hu1; have HU := Lib.hid hu1; clear hu1))
  go_ret
  exact ⟨_, _, _, _, _, _, _, _, _, _, _, _, _, _, rfl, HU.out⟩
/-- What a reckoning answers. -/
def decW (op : Int) (a b : List UInt8) : List UInt8 × Int := if (reckonD op a b).2 = 0 then ((reckonD op a b).1 ++ [10], 0) else ([], 2)
theorem reckonU2_any (op : Int) (o : Nat) (a b : ByteArray) (w : World) (ho : w.cell? ⟨o, 0, none⟩ = some (.int .u8 op)) (ha : a.size ≤ 1000000) (hb : b.size ≤ 1000000) (hop : (Lit.int .u8 op).wf = true) (ht : Tab w)
    (hl : (reckonD op a.data.toList b.data.toList).1.length ≤ 70368744177664) :
    Calls Tryz.prog 61 #[.string a, .string b, .pointer (some ⟨o, 0, none⟩)] w fun e w' => e = .returned (resV (ba (decW op a.data.toList b.data.toList).1) (decW op a.data.toList b.data.toList).2 0) ∧ Below w.heap.size w w' := by
  have HR := Lib.hid (RI.start w)
  have c0 := cell_later HR.out.below ho
  have k1 := Lib.hid (fun W (h : Tab W) => reckon_any op a b W (by omega) (by omega) hop h)
  have HT := Lib.hid (ht.below HR.out.below)
  have hR : decW op a.data.toList b.data.toList = (if (reckonD op a.data.toList b.data.toList).2 = 0 then ((reckonD op a.data.toList b.data.toList).1 ++ [10], 0) else ([], 2)) := rfl
  rw [hR]
  unfold reckonE at k1
  have k2 := Lib.hid (fun W => tried_any (ba (reckonD op a.data.toList b.data.toList).1) (reckonD op a.data.toList b.data.toList).2 W (by rw [ba_len]; exact hl))
  rw [lineB_ba] at k2
  obtain ⟨x, hx⟩ : ∃ x, x = (reckonD op a.data.toList b.data.toList).2 := ⟨_, rfl⟩
  rw [← hx] at k1 k2 ⊢
  obtain ⟨R, hRR⟩ : ∃ R, R = (if x = 0 then resV (ba ((reckonD op a.data.toList b.data.toList).1 ++ [10])) 0 0 else resV ⟨#[]⟩ 2 0) := ⟨_, rfl⟩
  rw [← hRR] at k2
  have hfin : R = resV (ba (if x = 0 then ((reckonD op a.data.toList b.data.toList).1 ++ [10], (0 : Int)) else ([], 2)).1) (if x = 0 then ((reckonD op a.data.toList b.data.toList).1 ++ [10], (0 : Int)) else ([], 2)).2 0 := by
    rw [hRR]
    split <;> rfl
  obtain ⟨s1, s2, hR2⟩ : ∃ s1 s2, R = resV s1 s2 0 := ⟨_, _, hfin⟩
  rw [← hfin]
  subst hR2
  clear hfin hRR hx hR ho ha hb hop ht hl
  generalize ba (reckonD op a.data.toList b.data.toList).1 = R0 at *
  go_enter Tryz.func61, Tryz.ntmps61
  go_wp2_with (first
    | (go_at_call 62; with_reducible refine (k1.out _ HT.out).mono ?_; rintro e w1 ⟨rfl, hb1⟩; have HR := Lib.hid (HR.out.later hb1); clear hb1)
    | (go_at_call 40; with_reducible refine (k2.out _).mono ?_; rintro e w2 ⟨rfl, hb1⟩; have HR := Lib.hid (HR.out.later hb1); clear hb1)
    | (refine wpList_store_res rfl _ _ rfl HR.out rfl _ _ _ rfl ?_; intro w5 hr1; have HD := Lib.hid hr1; clear hr1))
  exact res_end HD.out Tryz.results61 _ rfl rfl _ (fun hb => ⟨rfl, hb⟩)
end Go.Proofs.YtjdollmfjflkoaaGreatDoor
namespace Go.Proofs.YtjdollmfjflkoaaGreatDoor
open Go.RowKit Go.Lib

theorem results_tmp4 {fn : Func} {t u v x : Tmp} (h : fn.results = #[.tmp t, .tmp u, .tmp v, .tmp x]) (tmps : Array Value) (P : Program) (w : World) :
    (results fn tmps).run P w = .ok (.tuple #[tmps.getD t undef, tmps.getD u undef, tmps.getD v undef, tmps.getD x undef]) w := by
  simp [results, h]
def runV (s : ByteArray) (st fuel e : Int) : Value := .tuple #[.string s, .int .i64 st, .int .i64 fuel, .int .i64 e]
def KsAt (ks : List (Nat × Value)) (W : World) : Prop := ∀ y ∈ ks, W.cell? ⟨y.1, 0, none⟩ = some y.2
theorem RI.start' {B w : World} (h : Below B.heap.size B w) : RI B w.heap.size (w.alloc (.cells #[.string ⟨#[]⟩, .int .i64 0, .int .i64 0] 49)) :=
  ⟨heap_alloc_new w _, h.size, h.alloc h.size _⟩
theorem RD.cells {B w : World} {g : Nat} {s : ByteArray} {st e : Int} (h : RD B g (resV s st e) w) : w.cell? ⟨g, 0, none⟩ = some (.string s) ∧ w.cell? ⟨g, 1, none⟩ = some (.int .i64 st) ∧ w.cell? ⟨g, 2, none⟩ = some (.int .i64 e) := by
  obtain ⟨⟨s', st', e', h1, h2⟩, _⟩ := h
  injection h1 with h1
  have h3 := congrArg Array.toList h1
  simp only [List.cons.injEq, Value.string.injEq, Value.int.injEq, true_and, and_true] at h3
  obtain ⟨rfl, rfl, rfl⟩ := h3
  exact ⟨cell_of_row w g 0 _ _ _ h2, cell_of_row w g 1 _ _ _ h2, cell_of_row w g 2 _ _ _ h2⟩
set_option maxHeartbeats 2000000 in
set_option maxRecDepth 20000 in
theorem run_known (bk o n c : Nat) (x inp s : ByteArray) (st e fuel : Int) (w : World) (hx : w.cell? ⟨bk, o, none⟩ = some (.string x)) (hxs : x.size ≤ maxLen) (_hn : n + 1 ≤ c) (_hc : c ≤ 1000000) (A : Option Addr) (hA : (if c = 1 then some (⟨bk, o, none⟩ : Addr) else some ⟨bk, o + 1, none⟩) = A)
    (hF : ∀ (W : World) (h u d t i f : Nat), Below w.heap.size w W → KsAt (utKs h u d t i f (.string inp) (.pointer (some ⟨w.heap.size, 0, none⟩))) W → ∃ k cc, look (utEs h u d t i f) x.data.toList = some (.func (.func k) #[] cc) ∧ FnP W k (#[.slice A n (c - 1)] ++ cc) (resV s st e)) :
    Calls Tryz.prog 23 #[.slice (some ⟨bk, o, none⟩) (n + 1) c, .string inp, .int .i64 fuel] w fun en w' => en = .returned (runV s st fuel e) ∧ Below w.heap.size w w' := by
  have HF := Lib.hid hF
  have HA := Lib.hid hA
  have n1 := newC_mk w (.int .i64 fuel) 3
  obtain ⟨_, n2, n3, n4⟩ := n1
  have c1 := cell_later n2 hx
  have HB := Lib.hid n2
  have HX := Lib.hid (fun W (h : Below w.heap.size w W) => cell_later h hx)
  have HN := Lib.hid (And.intro n3 n4)
  have HXS := Lib.hid hxs
  clear hF hA hx n2 n3 n4 hxs
  go_enter Tryz.func23, Tryz.ntmps23
  go_upto_region 2 with fail
  go_region_law (go_simp; go_at_call 27; refine (utilities_any _ _ _).mono ?_; rintro e w1 ⟨m, h, u, d, t, i, f, rfl, hU⟩; have hb1 := below_at HB.out.drew hU.below HB.out.drew.size; have hx1 := HX.out _ hb1; have HB1 := Lib.hid hb1; obtain ⟨k, cc, hlk, hFn⟩ := HF.out w1 h u d t i f hb1 (fun y hy => (hU.cells y hy).2.2); have hl := hU.run x HXS.out (.func (.func k) #[] cc) true (by rw [hlk]); have HC := Lib.hid (And.intro (((Below.refl _ (w.alloc (.cells #[.int .i64 fuel] 3))).drew).trans hU.below) hFn.2); have hkf := hFn.1; clear hlk hFn hU hb1)
  all_goals
    have HFU := Lib.hid (fun W (hW : Below w1.heap.size w1 W) => cell_later hW (cell_later HC.out.1 HN.out.2))
    go_wp2_with (first
      | (go_at_fn k; rw [HA.out]; refine (HC.out.2 _ (Below.refl _ _)).mono ?_; rintro e w2 ⟨rfl, hb2⟩; have HR := Lib.hid (RI.start' hb2); clear hb2)
      | (refine wpList_store_res rfl _ _ rfl HR.out rfl _ _ _ rfl ?_; intro w3 hr1; obtain ⟨y0, y1, y2⟩ := hr1.cells; have y3 := HFU.out _ hr1.2; have HD := Lib.hid hr1.2; clear hr1))
    go_region_law (fail)
    all_goals
      go_wp2
      refine bodyPost_ret (results_tmp4 rfl _ _ _) rfl ⟨rfl, below_at HB1.out HD.out.drew HB1.out.size⟩
end Go.Proofs.YtjdollmfjflkoaaGreatDoor
