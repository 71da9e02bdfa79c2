/- Packed texts: UtOthers, UtOthers2. What each of them proves stands above its theorems; the conditions stand in these. -/
import Derived.Test.YtjdollmfjflkoaaGreatDoorShelf
import Derived.Test.YtjdollmfjflkoaaGreatDoorA10
namespace Go.Proofs.YtjdollmfjflkoaaGreatDoor
open Go.RowKit Go.Lib

theorem RI.startAt {B w : World} (h : Below B.heap.size B w) (g : Nat) (hg : g = w.heap.size) : RI B g (w.alloc (.cells #[.string ⟨#[]⟩, .int .i64 0, .int .i64 0] 49)) := by
  subst hg
  exact RI.start' h
theorem echo_none (a : Option Addr) (c : Nat) (w : World) : Calls Tryz.prog 29 #[.slice a 0 c] w fun e w' => e = .returned (resV ⟨#[10]⟩ 0 0) ∧ Below w.heap.size w w' := by
  have HR := Lib.hid (RI.start w)
  go_enter Tryz.func29, Tryz.ntmps29
  go_wp2_with (first
    | (go_at_call 31; refine (Tryz.strings_Join_none _ _ _ _).mono ?_; rintro e w1 ⟨rfl, rfl⟩)
    | (go_at_call 30; refine (said_any ⟨#[]⟩ _ (by decide)).mono ?_; rintro e w1 ⟨rfl, hb1⟩; have HR := Lib.hid (HR.out.later hb1); clear hb1)
    | (refine wpList_store_res rfl _ _ rfl HR.out rfl _ _ _ rfl ?_; intro w1 hr1; have HD := Lib.hid hr1; clear hr1))
  exact res_end HD.out Tryz.results29 _ rfl rfl _ (fun hb => ⟨rfl, hb⟩)
theorem colonU_any (v : Value) (w : World) : Calls Tryz.prog 32 #[v] w fun e w' => e = .returned (resV ⟨#[]⟩ 0 0) ∧ Below w.heap.size w w' := by
  have HR := Lib.hid (RI.start w)
  go_enter Tryz.func32, Tryz.ntmps32
  go_wp2_with (first
    | (go_at_call 33; refine (asked_any true _).mono ?_; rintro e w1 ⟨rfl, hb1⟩; have HR := Lib.hid (HR.out.later hb1); clear hb1)
    | (refine wpList_store_res rfl _ _ rfl HR.out rfl _ _ _ rfl ?_; intro w1 hr1; have HD := Lib.hid hr1; clear hr1))
  exact res_end HD.out Tryz.results32 _ rfl rfl _ (fun hb => ⟨rfl, hb⟩)
theorem trueU_any (v : Value) (w : World) : Calls Tryz.prog 34 #[v] w fun e w' => e = .returned (resV ⟨#[]⟩ 0 0) ∧ Below w.heap.size w w' := by
  have HR := Lib.hid (RI.start w)
  go_enter Tryz.func34, Tryz.ntmps34
  go_wp2_with (first
    | (go_at_call 33; refine (asked_any true _).mono ?_; rintro e w1 ⟨rfl, hb1⟩; have HR := Lib.hid (HR.out.later hb1); clear hb1)
    | (refine wpList_store_res rfl _ _ rfl HR.out rfl _ _ _ rfl ?_; intro w1 hr1; have HD := Lib.hid hr1; clear hr1))
  exact res_end HD.out Tryz.results34 _ rfl rfl _ (fun hb => ⟨rfl, hb⟩)
theorem falseU_any (v : Value) (w : World) : Calls Tryz.prog 35 #[v] w fun e w' => e = .returned (resV ⟨#[]⟩ 1 0) ∧ Below w.heap.size w w' := by
  have HR := Lib.hid (RI.start w)
  go_enter Tryz.func35, Tryz.ntmps35
  go_wp2_with (first
    | (go_at_call 33; refine (asked_any false _).mono ?_; rintro e w1 ⟨rfl, hb1⟩; have HR := Lib.hid (HR.out.later hb1); clear hb1)
    | (refine wpList_store_res rfl _ _ rfl HR.out rfl _ _ _ rfl ?_; intro w1 hr1; have HD := Lib.hid hr1; clear hr1))
  exact res_end HD.out Tryz.results35 _ rfl rfl _ (fun hb => ⟨rfl, hb⟩)
theorem test_none (a : Option Addr) (c : Nat) (w : World) : Calls Tryz.prog 45 #[.slice a 0 c] w fun e w' => e = .returned (resV ⟨#[]⟩ 2 0) ∧ Below w.heap.size w w' := by
  have HR := Lib.hid (RI.start w)
  go_enter Tryz.func45, Tryz.ntmps45
  go_wp2_with (first
    | (go_at_call 42; refine (byU_any _ _ _ _).mono ?_; rintro e w1 ⟨b1, rfl, hn1⟩; have HR := Lib.hid (HR.out.later hn1.2.1); clear hn1; unfold cloV)
    | (go_at_call 58; refine (by1_empty _ _ _ _).mono ?_; rintro e w2 ⟨rfl, hb1⟩; have HR := Lib.hid (HR.out.later hb1); clear hb1)
    | (refine wpList_store_res rfl _ _ rfl HR.out rfl _ _ _ rfl ?_; intro w3 hr1; have HD := Lib.hid hr1; clear hr1))
  exact res_end HD.out Tryz.results45 _ rfl rfl _ (fun hb => ⟨rfl, hb⟩)
set_option maxRecDepth 20000 in
theorem edit_none (s : ByteArray) (p : Option Addr) (a : Option Addr) (c : Nat) (w : World) : Calls Tryz.prog 47 #[.string s, .pointer p, .slice a 0 c] w fun e w' => e = .returned (resV ⟨#[]⟩ 2 0) ∧ Below w.heap.size w w' := by
  have hmf : ∀ (fn : Fn) (first cap : Array Value) (w : World), (Instr.makeFunc fn first cap).run Tryz.prog w = .ok (.func fn first cap) w := fun _ _ _ _ => rfl
  have h2 : Below w.heap.size w ((w.alloc (.cells #[.string s] 9)).alloc (.cells #[.pointer p] 47)) := ((Below.refl _ w).alloc (Nat.le_refl _) _).alloc (by rw [World.size_alloc]; omega) _
  have HR := Lib.hid ((RI.startAt h2 (w.heap.size + 1 + 1) (by rw [World.size_alloc, World.size_alloc])).later ((Below.refl _ _).alloc (Nat.le_refl _) (.cells #[.bool false] 4)))
  clear h2
  go_enter Tryz.func47, Tryz.ntmps47
  go_wp2_with (first
    | (go_at_call 36; refine (oneU_any _ _ _ _).mono ?_; rintro e w1 ⟨b1, rfl, hn1⟩; have HR := Lib.hid (HR.out.later hn1.2.1); clear hn1; unfold cloV)
    | (go_at_call 55; refine (one1_bad _ 0 _ _ _ (by decide)).mono ?_; rintro e w2 ⟨rfl, hb1⟩; have HR := Lib.hid (HR.out.later hb1); clear hb1)
    | (refine wpList_store_res rfl _ _ rfl HR.out rfl _ _ _ rfl ?_; intro w3 hr1; have HD := Lib.hid hr1; clear hr1))
  exact res_end HD.out Tryz.results47 _ rfl rfl _ (fun hb => ⟨rfl, hb⟩)
theorem sed_none (s : ByteArray) (p : Option Addr) (i f : Nat) (a : Option Addr) (c : Nat) (w : World) (hi : w.cell? ⟨i, 0, none⟩ = some (.string s)) (hf : w.cell? ⟨f, 0, none⟩ = some (.pointer p)) :
    Calls Tryz.prog 46 #[.slice a 0 c, .pointer (some ⟨i, 0, none⟩), .pointer (some ⟨f, 0, none⟩)] w fun e w' => e = .returned (resV ⟨#[]⟩ 2 0) ∧ Below w.heap.size w w' := by
  have HR := Lib.hid (RI.start w)
  have c0 := cell_later HR.out.below hi
  have c1 := cell_later HR.out.below hf
  clear hi hf
  go_enter Tryz.func46, Tryz.ntmps46
  go_wp2_with (first
    | (go_at_call 47; refine (edit_none _ _ _ _ _).mono ?_; rintro e w2 ⟨rfl, hb1⟩; have HR := Lib.hid (HR.out.later hb1); clear hb1)
    | (refine wpList_store_res rfl _ _ rfl HR.out rfl _ _ _ rfl ?_; intro w3 hr1; have HD := Lib.hid hr1; clear hr1))
  exact res_end HD.out Tryz.results46 _ rfl rfl _ (fun hb => ⟨rfl, hb⟩)

/-! ### All names -/
def namesU : List (List UInt8) := [[101, 99, 104, 111], [58], [116, 114, 117, 101], [102, 97, 108, 115, 101], [104, 101, 120], [117, 110, 104, 101, 120], [100, 101, 99], [115, 116, 114], [116, 101, 115, 116], [115, 101, 100]]
def knownU (l : List UInt8) : Bool := decide (l ∈ namesU)
theorem look_none {l : List UInt8} (h : knownU l = false) (a b c d e f : Nat) : look (utEs a b c d e f) l = none := by
  have h1 : l ∉ namesU := of_decide_eq_false h
  simp only [namesU, List.mem_cons, List.not_mem_nil, or_false, not_or] at h1
  obtain ⟨n1, n2, n3, n4, n5, n6, n7, n8, n9, n10⟩ := h1
  unfold look utEs
  simp only [List.foldl_cons, List.foldl_nil, lookE]
  rw [if_neg n10, if_neg n9, if_neg n8, if_neg n7, if_neg n6, if_neg n5, if_neg n4, if_neg n3, if_neg n2, if_neg n1]
theorem look_some {l : List UInt8} (h : knownU l = true) (a b c d e f : Nat) : ∃ v, look (utEs a b c d e f) l = some v := by
  have h1 : l ∈ namesU := of_decide_eq_true h
  simp only [namesU, List.mem_cons, List.not_mem_nil, or_false] at h1
  rcases h1 with rfl | rfl | rfl | rfl | rfl | rfl | rfl | rfl | rfl | rfl
  all_goals exact ⟨_, rfl⟩
theorem knownU_any (s : ByteArray) (w : World) (hs : s.size ≤ maxLen) : Calls Tryz.prog 21 #[.string s] w fun e w' => e = .returned (.bool (knownU s.data.toList)) ∧ Below w.heap.size w w' := by
  have HS := Lib.hid hs
  clear hs
  obtain ⟨y, hy⟩ : ∃ y, y = knownU s.data.toList := ⟨_, rfl⟩
  rw [← hy]
  have HY := Lib.hid (fun (a b c d e f : Nat) => show ∃ v, (match look (utEs a b c d e f) s.data.toList with | some u => (u, true) | none => (Value.nilFunc, false)) = (v, y) by
    rw [hy]
    cases h : knownU s.data.toList with
    | false => exact ⟨_, by rw [look_none h]⟩
    | true =>
      obtain ⟨v, hv⟩ := look_some h a b c d e f
      exact ⟨v, by rw [hv]⟩)
  clear hy
  go_enter Tryz.func21, Tryz.ntmps21
  go_wp2_with (first
    | (go_at_call 27; refine (utilities_any _ _ _).mono ?_; rintro e w1 ⟨m, h, u, d, t, i, f, rfl, hU⟩; have HU := Lib.hid hU; clear hU; obtain ⟨v, hv⟩ := HY.out h u d t i f; have HV := Lib.hid hv; clear hv)
    | (refine wpList_lookup_U rfl _ _ rfl _ _ _ _ HU.out rfl _ rfl HS.out _ _ HV.out ?_))
  go_ret
  exact ⟨rfl, HU.out.below⟩
end Go.Proofs.YtjdollmfjflkoaaGreatDoor
namespace Go.Proofs.YtjdollmfjflkoaaGreatDoor
open Go.RowKit Go.Lib

theorem run_lone (x inp : ByteArray) (bk : Nat) (fuel : Int) (w : World) (hx : w.cell? ⟨bk, 0, none⟩ = some (.string x)) (hk : knownU x.data.toList = true) :
    Calls Tryz.prog 23 #[.slice (some ⟨bk, 0, none⟩) 1 1, .string inp, .int .i64 fuel] w fun e w' => (∃ s st, (st : Int) ≤ 2 ∧ e = .returned (runV s st fuel 0)) ∧ Below w.heap.size w w' := by
  have h1 : x.data.toList ∈ namesU := of_decide_eq_true hk
  simp only [namesU, List.mem_cons, List.not_mem_nil, or_false] at h1
  have fin : ∀ (s : ByteArray) (st : Int), st ≤ 2 → x.size ≤ 10 →
      (∀ (W : World) (h u d t i f : Nat), Below w.heap.size w W → KsAt (utKs h u d t i f (.string inp) (.pointer (some ⟨w.heap.size, 0, none⟩))) W → ∃ k cc, look (utEs h u d t i f) x.data.toList = some (.func (.func k) #[] cc) ∧ FnP W k (#[.slice (some ⟨bk, 0, none⟩) 0 0] ++ cc) (resV s st 0)) →
      Calls Tryz.prog 23 #[.slice (some ⟨bk, 0, none⟩) 1 1, .string inp, .int .i64 fuel] w fun e w' => (∃ s st, (st : Int) ≤ 2 ∧ e = .returned (runV s st fuel 0)) ∧ Below w.heap.size w w' := by
    intro s st h2 hxs hF
    exact (run_known bk 0 0 1 x inp s st 0 fuel w hx (by unfold maxLen; omega) (by decide) (by decide) (some ⟨bk, 0, none⟩) rfl hF).mono fun e w' ⟨he, hb⟩ => ⟨⟨s, st, h2, he⟩, hb⟩
  have hsz := size_eq x
  have hln : x.data.toList.length ≤ 10 := by rcases h1 with h1 | h1 | h1 | h1 | h1 | h1 | h1 | h1 | h1 | h1 <;> rw [h1] <;> decide
  rcases h1 with h1 | h1 | h1 | h1 | h1 | h1 | h1 | h1 | h1 | h1
  · refine fin ⟨#[10]⟩ 0 (by decide) (by omega) fun W h u d t i f hW hk => ⟨29, #[], by rw [h1]; rfl, enters_of Tryz.func29 (by kernel_rfl) rfl, fun W' _ => echo_none _ _ W'⟩
  · refine fin ⟨#[]⟩ 0 (by decide) (by omega) fun W h u d t i f hW hk => ⟨32, #[], by rw [h1]; rfl, enters_of Tryz.func32 (by kernel_rfl) rfl, fun W' _ => colonU_any _ W'⟩
  · refine fin ⟨#[]⟩ 0 (by decide) (by omega) fun W h u d t i f hW hk => ⟨34, #[], by rw [h1]; rfl, enters_of Tryz.func34 (by kernel_rfl) rfl, fun W' _ => trueU_any _ W'⟩
  · refine fin ⟨#[]⟩ 1 (by decide) (by omega) fun W h u d t i f hW hk => ⟨35, #[], by rw [h1]; rfl, enters_of Tryz.func35 (by kernel_rfl) rfl, fun W' _ => falseU_any _ W'⟩
  · refine fin ⟨#[]⟩ 2 (by decide) (by omega) fun W h u d t i f hW hk => ⟨55, #[.pointer (some ⟨h, 0, none⟩)], by rw [h1]; rfl, enters_of Tryz.func55 (by kernel_rfl) rfl, fun W' _ => one1_bad h 0 0 _ W' (by decide)⟩
  · refine fin ⟨#[]⟩ 2 (by decide) (by omega) fun W h u d t i f hW hk => ⟨55, #[.pointer (some ⟨u, 0, none⟩)], by rw [h1]; rfl, enters_of Tryz.func55 (by kernel_rfl) rfl, fun W' _ => one1_bad u 0 0 _ W' (by decide)⟩
  · refine fin ⟨#[]⟩ 2 (by decide) (by omega) fun W h u d t i f hW hk => ⟨58, #[.pointer (some ⟨d, 0, none⟩)], by rw [h1]; rfl, enters_of Tryz.func58 (by kernel_rfl) rfl, fun W' _ => by1_empty d 0 _ W'⟩
  · refine fin ⟨#[]⟩ 2 (by decide) (by omega) fun W h u d t i f hW hk => ⟨58, #[.pointer (some ⟨t, 0, none⟩)], by rw [h1]; rfl, enters_of Tryz.func58 (by kernel_rfl) rfl, fun W' _ => by1_empty t 0 _ W'⟩
  · refine fin ⟨#[]⟩ 2 (by decide) (by omega) fun W h u d t i f hW hk => ⟨45, #[], by rw [h1]; rfl, enters_of Tryz.func45 (by kernel_rfl) rfl, fun W' _ => test_none _ _ W'⟩
  · refine fin ⟨#[]⟩ 2 (by decide) (by omega) fun W h u d t i f hW hk => ⟨46, #[.pointer (some ⟨i, 0, none⟩), .pointer (some ⟨f, 0, none⟩)], by rw [h1]; rfl, enters_of Tryz.func46 (by kernel_rfl) rfl, fun W' hW' => sed_none inp (some ⟨w.heap.size, 0, none⟩) i f _ _ W' (cell_later hW' (hk (i, .string inp) (by simp [utKs]))) (cell_later hW' (hk (f, .pointer (some ⟨w.heap.size, 0, none⟩)) (by simp [utKs])))⟩
set_option maxRecDepth 20000 in
theorem utilOthers_walk (s : ByteArray) (hs : s.size ≤ 140737488351232) (fuel : Int) (_hfu : -9223372036854775808 ≤ fuel ∧ fuel ≤ 9223372036854775807) (w : World) (ht : Tab w) :
    Calls Tryz.prog 8 #[.string s, .int .i64 fuel] w fun e w' => e = .returned (.bool true) ∧ Below w.heap.size w w' := by
  have HT := Lib.hid ht
  clear ht
  by_cases hl : 100 < s.size
  · go_enter Tryz.func8, Tryz.ntmps8
    go_wp2_with (first
      | (go_at_call 9; refine (shown13_any _ HT.out).mono ?_; rintro e w1 ⟨rfl, hb1⟩; have HB1 := Lib.hid hb1; clear hb1))
    go_ret
    exact ⟨rfl, HB1.out⟩
  · have KN := Lib.hid (fun W => knownU_any s W (by unfold maxLen; omega))
    cases hk : knownU s.data.toList with
    | true =>
      rw [hk] at KN
      have K1 : Hid (∀ W : World, Calls Tryz.prog 23 #[.slice (some ⟨W.heap.size, 0, none⟩) 1 1, .string ⟨#[]⟩, .int .i64 fuel] (W.alloc (.cells #[.string s] 9)) fun en w' =>
          (∃ x st, (st : Int) ≤ 2 ∧ en = .returned (.tuple #[.string x, .int .i64 st, .int .i64 fuel, .int .i64 0])) ∧ Below W.heap.size W w') :=
        Lib.hid (fun W => (run_lone s ⟨#[]⟩ W.heap.size fuel _ (rowW_new W [s] 9 0 s rfl) hk).mono fun _ _ h => ⟨h.1, below_new h.2⟩)
      clear hk
      go_enter Tryz.func8, Tryz.ntmps8
      go_wp2_with (first
        | (go_at_call 9; refine (shown13_any _ HT.out).mono ?_; rintro e w1 ⟨rfl, hb1⟩; have HB1 := Lib.hid hb1; clear hb1)
        | (go_at_call 23; with_reducible refine (K1.out _).mono ?_; rintro e w2 ⟨⟨x, st, hst, rfl⟩, hb2⟩; have HB1 := Lib.hid (below_at HB1.out hb2 HB1.out.size); clear hb2; have hne : (st != 127) = true := bne_iff_ne.2 (by omega))
        | (go_at_call 21; refine (KN.out _).mono ?_; rintro e w3 ⟨rfl, hb3⟩; have HB1 := Lib.hid (below_at HB1.out hb3 HB1.out.size); clear hb3))
      go_ret
      exact ⟨rfl, HB1.out⟩
    | false =>
      rw [hk] at KN
      have K1 : Hid (∀ W : World, Calls Tryz.prog 23 #[.slice (some ⟨W.heap.size, 0, none⟩) 1 1, .string ⟨#[]⟩, .int .i64 fuel] (W.alloc (.cells #[.string s] 9)) fun en w' =>
          en = .returned (.tuple #[.string ⟨#[]⟩, .int .i64 127, .int .i64 fuel, .int .i64 11]) ∧ Below W.heap.size W w') :=
        Lib.hid (fun W => (run_unknown W.heap.size 0 0 1 s ⟨#[]⟩ fuel _ (rowW_new W [s] 9 0 s rfl) (by unfold maxLen; omega) (by decide) (by decide) (fun a b c d e f => look_none hk a b c d e f)).mono fun _ _ h => ⟨h.1, below_new h.2⟩)
      clear hk
      go_enter Tryz.func8, Tryz.ntmps8
      go_wp2_with (first
        | (go_at_call 9; refine (shown13_any _ HT.out).mono ?_; rintro e w1 ⟨rfl, hb1⟩; have HB1 := Lib.hid hb1; clear hb1)
        | (go_at_call 23; with_reducible refine (K1.out _).mono ?_; rintro e w2 ⟨rfl, hb2⟩; have HB1 := Lib.hid (below_at HB1.out hb2 HB1.out.size); clear hb2)
        | (go_at_call 21; refine (KN.out _).mono ?_; rintro e w3 ⟨rfl, hb3⟩; have HB1 := Lib.hid (below_at HB1.out hb3 HB1.out.size); clear hb3))
      go_ret
      exact ⟨rfl, HB1.out⟩
end Go.Proofs.YtjdollmfjflkoaaGreatDoor
