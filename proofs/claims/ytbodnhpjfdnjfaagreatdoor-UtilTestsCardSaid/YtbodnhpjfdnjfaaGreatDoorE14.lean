/- Packed texts: UtNums, UtRun, UtShown, UtQuest, UtTruths. What each of them proves stands above its theorems; the conditions stand in these. -/
import Derived.Test.YtbodnhpjfdnjfaaGreatDoorE13
namespace Go.Proofs.YtbodnhpjfdnjfaaGreatDoor
open Go.RowKit Go.Lib

theorem UI.more {w0 w w' : World} {m n : Nat} {es : List Ent} {ks ks' : List (Nat × Value)} (h : UI w0 m n es ks w) (hb : Below w.heap.size w w') (hk : ∀ x ∈ ks', w.heap.size ≤ x.1 ∧ x.1 < w'.heap.size ∧ w'.cell? ⟨x.1, 0, none⟩ = some x.2) : UI w0 m n es (ks' ++ ks) w' := by
  have hl := h.later hb
  refine ⟨hl.own, hl.low, hl.below, fun x hx => ?_⟩
  rcases List.mem_append.1 hx with hx | hx
  · obtain ⟨h1, h2, h3⟩ := hk x hx
    exact ⟨fun he => absurd h.own.lt (by omega), h2, h3⟩
  · exact hl.cells x hx
theorem reckonU_ks (op : Int) (w : World) : Calls Tryz.prog 74 #[.int .u8 op] w fun e w' => ∃ b o, e = .returned (cloV 120 b) ∧ Below w.heap.size w w' ∧
    (∀ x ∈ [(b, cloV 76 o), (o, .int .u8 op)], w.heap.size ≤ x.1 ∧ x.1 < w'.heap.size ∧ w'.cell? ⟨x.1, 0, none⟩ = some x.2) := by
  refine (reckonU_any op w).mono ?_
  rintro e w' ⟨b, o, h1, h2, ⟨h3, h4, h5⟩, h6, h7, h8⟩
  refine ⟨b, o, h1, h2, fun x hx => ?_⟩
  rcases List.mem_cons.1 hx with rfl | hx
  · exact ⟨h4, h3, h5⟩
  · obtain rfl := List.mem_singleton.1 hx
    exact ⟨h7, h6, h8⟩
def nuEs (a b c d e f g h : Nat) : List Ent :=
  [⟨[43], cloV 120 a⟩, ⟨[45], cloV 120 b⟩, ⟨[42], cloV 120 c⟩, ⟨[47], cloV 120 d⟩, ⟨[37], cloV 120 e⟩, ⟨[99, 109, 112], cloV 120 f⟩, ⟨[108, 111, 119], cloV 70 g⟩, ⟨[116, 114, 117, 101], cloV 70 h⟩]
def nuKs (a b c d e f g h a' b' c' d' e' : Nat) : List (Nat × Value) :=
  [(h, fnU 82), (g, fnU 81), (f, fnU 78), (e, cloV 76 e'), (e', .int .u8 37), (d, cloV 76 d'), (d', .int .u8 47), (c, cloV 76 c'), (c', .int .u8 42),
   (b, cloV 76 b'), (b', .int .u8 45), (a, cloV 76 a'), (a', .int .u8 43)]
set_option maxRecDepth 20000 in
theorem numbers_any (w : World) :
    Calls Tryz.prog 47 #[] w fun en w' => ∃ m a b c d e f g h a' b' c' d' e', en = .returned (.map (some m)) ∧ UI w m 8 (nuEs a b c d e f g h) (nuKs a b c d e f g h a' b' c' d' e') w' := by
  have hmm := @run_makeMap Tryz.prog
  have HU := Lib.hid (UI.made w w w.heap.size rfl [] (Below.refl _ w) (fun x hx => by cases hx))
  go_enter Tryz.func47, Tryz.ntmps47
  go_wp2_with (first
    | (go_at_call 74; refine (reckonU_ks _ _).mono ?_; rintro e w1 ⟨b1, o1, rfl, hb1, hk1⟩; have HU := Lib.hid (HU.out.more hb1 hk1); clear hb1 hk1)
    | (go_at_call 40; refine (oneU_any _ _ _ _).mono ?_; rintro e w1 ⟨b1, rfl, hn1⟩; have HU := Lib.hid (HU.out.new hn1); clear hn1)
    | (go_at_call 75; refine (twoU_any _ _ _ _).mono ?_; rintro e w1 ⟨b1, rfl, hn1⟩; have HU := Lib.hid (HU.out.new hn1); clear hn1)
    | (refine wpList_insert_U rfl _ _ _ rfl _ _ _ _ HU.out (by decide) rfl _ (cloV _ _) rfl rfl (by decide) ?_; intro w1 hu1; have HU := Lib.hid hu1; clear hu1))
  go_ret
  exact ⟨_, _, _, _, _, _, _, _, _, _, _, _, _, _, rfl, HU.out⟩
/-- What a reckoning answers. -/
def decW (op : Int) (a b : List UInt8) : List UInt8 × Int := if (reckonD op a b).2 = 0 then ((reckonD op a b).1 ++ [10], 0) else ([], 2)
theorem reckonU2_any (op : Int) (o : Nat) (a b : ByteArray) (w : World) (ho : w.cell? ⟨o, 0, none⟩ = some (.int .u8 op)) (ha : a.size ≤ 1000000) (hb : b.size ≤ 1000000) (hop : (Lit.int .u8 op).wf = true) (ht : Tab w)
    (hl : (reckonD op a.data.toList b.data.toList).1.length ≤ 70368744177664) :
    Calls Tryz.prog 76 #[.string a, .string b, .pointer (some ⟨o, 0, none⟩)] w fun e w' => e = .returned (resV (ba (decW op a.data.toList b.data.toList).1) (decW op a.data.toList b.data.toList).2 0) ∧ Below w.heap.size w w' := by
  have HR := Lib.hid (RI.start w)
  have c0 := cell_later HR.out.below ho
  have k1 := Lib.hid (fun W (h : Tab W) => reckon_any op a b W (by omega) (by omega) hop h)
  have HT := Lib.hid (ht.below HR.out.below)
  have hR : decW op a.data.toList b.data.toList = (if (reckonD op a.data.toList b.data.toList).2 = 0 then ((reckonD op a.data.toList b.data.toList).1 ++ [10], 0) else ([], 2)) := rfl
  rw [hR]
  unfold reckonE at k1
  have k2 := Lib.hid (fun W => tried_any (ba (reckonD op a.data.toList b.data.toList).1) (reckonD op a.data.toList b.data.toList).2 W (by rw [ba_len]; exact hl))
  rw [lineB_ba] at k2
  obtain ⟨x, hx⟩ : ∃ x, x = (reckonD op a.data.toList b.data.toList).2 := ⟨_, rfl⟩
  rw [← hx] at k1 k2 ⊢
  obtain ⟨R, hRR⟩ : ∃ R, R = (if x = 0 then resV (ba ((reckonD op a.data.toList b.data.toList).1 ++ [10])) 0 0 else resV ⟨#[]⟩ 2 0) := ⟨_, rfl⟩
  rw [← hRR] at k2
  have hfin : R = resV (ba (if x = 0 then ((reckonD op a.data.toList b.data.toList).1 ++ [10], (0 : Int)) else ([], 2)).1) (if x = 0 then ((reckonD op a.data.toList b.data.toList).1 ++ [10], (0 : Int)) else ([], 2)).2 0 := by
    rw [hRR]
    split <;> rfl
  obtain ⟨s1, s2, hR2⟩ : ∃ s1 s2, R = resV s1 s2 0 := ⟨_, _, hfin⟩
  rw [← hfin]
  subst hR2
  clear hfin hRR hx hR ho ha hb hop ht hl
  generalize ba (reckonD op a.data.toList b.data.toList).1 = R0 at *
  go_enter Tryz.func76, Tryz.ntmps76
  go_wp2_with (first
    | (go_at_call 77; with_reducible refine (k1.out _ HT.out).mono ?_; rintro e w1 ⟨rfl, hb1⟩; have HR := Lib.hid (HR.out.later hb1); clear hb1)
    | (go_at_call 44; with_reducible refine (k2.out _).mono ?_; rintro e w2 ⟨rfl, hb1⟩; have HR := Lib.hid (HR.out.later hb1); clear hb1)
    | (refine wpList_store_res rfl _ _ rfl HR.out rfl _ _ _ rfl ?_; intro w5 hr1; have HD := Lib.hid hr1; clear hr1))
  exact res_end HD.out Tryz.results76 _ rfl rfl _ (fun hb => ⟨rfl, hb⟩)
end Go.Proofs.YtbodnhpjfdnjfaaGreatDoor
namespace Go.Proofs.YtbodnhpjfdnjfaaGreatDoor
open Go.RowKit Go.Lib

theorem results_tmp4 {fn : Func} {t u v x : Tmp} (h : fn.results = #[.tmp t, .tmp u, .tmp v, .tmp x]) (tmps : Array Value) (P : Program) (w : World) :
    (results fn tmps).run P w = .ok (.tuple #[tmps.getD t undef, tmps.getD u undef, tmps.getD v undef, tmps.getD x undef]) w := by
  simp [results, h]
def runV (s : ByteArray) (st fuel e : Int) : Value := .tuple #[.string s, .int .i64 st, .int .i64 fuel, .int .i64 e]
def KsAt (ks : List (Nat × Value)) (W : World) : Prop := ∀ y ∈ ks, W.cell? ⟨y.1, 0, none⟩ = some y.2
theorem RI.start' {B w : World} (h : Below B.heap.size B w) : RI B w.heap.size (w.alloc (.cells #[.string ⟨#[]⟩, .int .i64 0, .int .i64 0] 45)) :=
  ⟨heap_alloc_new w _, h.size, h.alloc h.size _⟩
theorem RD.cells {B w : World} {g : Nat} {s : ByteArray} {st e : Int} (h : RD B g (resV s st e) w) : w.cell? ⟨g, 0, none⟩ = some (.string s) ∧ w.cell? ⟨g, 1, none⟩ = some (.int .i64 st) ∧ w.cell? ⟨g, 2, none⟩ = some (.int .i64 e) := by
  obtain ⟨⟨s', st', e', h1, h2⟩, _⟩ := h
  injection h1 with h1
  have h3 := congrArg Array.toList h1
  simp only [List.cons.injEq, Value.string.injEq, Value.int.injEq, true_and, and_true] at h3
  obtain ⟨rfl, rfl, rfl⟩ := h3
  exact ⟨cell_of_row w g 0 _ _ _ h2, cell_of_row w g 1 _ _ _ h2, cell_of_row w g 2 _ _ _ h2⟩
set_option maxHeartbeats 2000000 in
set_option maxRecDepth 20000 in
theorem run_known (bk o n c : Nat) (x inp s : ByteArray) (st e fuel : Int) (w : World) (hx : w.cell? ⟨bk, o, none⟩ = some (.string x)) (hxs : x.size ≤ maxLen) (_hn : n + 1 ≤ c) (_hc : c ≤ 1000000) (A : Option Addr) (hA : (if c = 1 then some (⟨bk, o, none⟩ : Addr) else some ⟨bk, o + 1, none⟩) = A)
    (hF : ∀ (W : World) (h u d t i f : Nat), Below w.heap.size w W → KsAt (utKs h u d t i f (.string inp) (.pointer (some ⟨w.heap.size, 0, none⟩))) W → ∃ k cc, look (utEs h u d t i f) x.data.toList = some (.func (.func k) #[] cc) ∧ FnP W k (#[.slice A n (c - 1)] ++ cc) (resV s st e)) :
    Calls Tryz.prog 7 #[.slice (some ⟨bk, o, none⟩) (n + 1) c, .string inp, .int .i64 fuel] w fun en w' => en = .returned (runV s st fuel e) ∧ Below w.heap.size w w' := by
  have HF := Lib.hid hF
  have HA := Lib.hid hA
  have n1 := newC_mk w (.int .i64 fuel) 3
  obtain ⟨_, n2, n3, n4⟩ := n1
  have c1 := cell_later n2 hx
  have HB := Lib.hid n2
  have HX := Lib.hid (fun W (h : Below w.heap.size w W) => cell_later h hx)
  have HN := Lib.hid (And.intro n3 n4)
  have HXS := Lib.hid hxs
  clear hF hA hx n2 n3 n4 hxs
  go_enter Tryz.func7, Tryz.ntmps7
  go_upto_region 2 with fail
  go_region_law (go_simp; go_at_call 15; refine (utilities_any _ _ _).mono ?_; rintro e w1 ⟨m, h, u, d, t, i, f, rfl, hU⟩; have hb1 := below_at HB.out.drew hU.below HB.out.drew.size; have hx1 := HX.out _ hb1; have HB1 := Lib.hid hb1; obtain ⟨k, cc, hlk, hFn⟩ := HF.out w1 h u d t i f hb1 (fun y hy => (hU.cells y hy).2.2); have hl := hU.run x HXS.out (.func (.func k) #[] cc) true (by rw [hlk]); have HC := Lib.hid (And.intro (((Below.refl _ (w.alloc (.cells #[.int .i64 fuel] 3))).drew).trans hU.below) hFn.2); have hkf := hFn.1; clear hlk hFn hU hb1)
  all_goals
    have HFU := Lib.hid (fun W (hW : Below w1.heap.size w1 W) => cell_later hW (cell_later HC.out.1 HN.out.2))
    go_wp2_with (first
      | (go_at_fn k; rw [HA.out]; refine (HC.out.2 _ (Below.refl _ _)).mono ?_; rintro e w2 ⟨rfl, hb2⟩; have HR := Lib.hid (RI.start' hb2); clear hb2)
      | (refine wpList_store_res rfl _ _ rfl HR.out rfl _ _ _ rfl ?_; intro w3 hr1; obtain ⟨y0, y1, y2⟩ := hr1.cells; have y3 := HFU.out _ hr1.2; have HD := Lib.hid hr1.2; clear hr1))
    go_region_law (fail)
    all_goals
      go_wp2
      refine bodyPost_ret (results_tmp4 rfl _ _ _) rfl ⟨rfl, below_at HB1.out HD.out.drew HB1.out.size⟩
end Go.Proofs.YtbodnhpjfdnjfaaGreatDoor
namespace Go.Proofs.YtbodnhpjfdnjfaaGreatDoor
open Go.RowKit Go.Lib

theorem TabP.later {w W : World} {kt : Nat} {x : ByteArray} {args : Array Value} {v : Value} (h : TabP w kt x args v) (hb : Below w.heap.size w W) : TabP W kt x args v := ⟨h.1, fun W' h2 => h.2 W' (below_at hb h2 hb.size)⟩
theorem fnp_by (kt b bk o n c : Nat) (x s : ByteArray) (st e : Int) (w : World) (hb : w.cell? ⟨b, 0, none⟩ = some (fnU kt)) (hx : w.cell? ⟨bk, o, none⟩ = some (.string x)) (hn : n + 1 ≤ c) (hc : c ≤ 1000000)
    (A : Option Addr) (hA : (if c = 1 then some (⟨bk, o, none⟩ : Addr) else some ⟨bk, o + 1, none⟩) = A) (hT : TabP w kt x #[.slice A n (c - 1)] (resV s st e)) :
    FnP w 73 #[.slice (some ⟨bk, o, none⟩) (n + 1) c, .pointer (some ⟨b, 0, none⟩)] (resV s st e) :=
  ⟨enters_of Tryz.func73 (by kernel_rfl) rfl, fun _ h => by1_any kt b bk o n c x s st e _ (cell_later h hb) (cell_later h hx) hn hc A hA (hT.later h)⟩
theorem fnp_two (k b bk o c : Nat) (cc : Array Value) (x y s : ByteArray) (st e : Int) (w : World) (hb : w.cell? ⟨b, 0, none⟩ = some (.func (.func k) #[] cc)) (hx : w.cell? ⟨bk, o, none⟩ = some (.string x)) (hy : w.cell? ⟨bk, o + 1, none⟩ = some (.string y))
    (hf : FnP w k (#[.string x, .string y] ++ cc) (resV s st e)) : FnP w 120 #[.slice (some ⟨bk, o, none⟩) 2 c, .pointer (some ⟨b, 0, none⟩)] (resV s st e) :=
  ⟨enters_of Tryz.func120 (by kernel_rfl) rfl, fun _ h => two1_any k b bk o c cc x y s st e _ (cell_later h hb) (cell_later h hx) (cell_later h hy) (hf.later h)⟩
theorem fnp_three (k b bk o c : Nat) (cc : Array Value) (x y z s : ByteArray) (st e : Int) (w : World) (hb : w.cell? ⟨b, 0, none⟩ = some (.func (.func k) #[] cc)) (hx : w.cell? ⟨bk, o, none⟩ = some (.string x)) (hy : w.cell? ⟨bk, o + 1, none⟩ = some (.string y))
    (hz : w.cell? ⟨bk, o + 2, none⟩ = some (.string z)) (hf : FnP w k (#[.string x, .string y, .string z] ++ cc) (resV s st e)) : FnP w 130 #[.slice (some ⟨bk, o, none⟩) 3 c, .pointer (some ⟨b, 0, none⟩)] (resV s st e) :=
  ⟨enters_of Tryz.func130 (by kernel_rfl) rfl, fun _ h => three1_any k b bk o c cc x y z s st e _ (cell_later h hb) (cell_later h hx) (cell_later h hy) (cell_later h hz) (hf.later h)⟩
theorem tabP_texts (w : World) (x : ByteArray) (args : Array Value) (v : Value) (hx : x.size ≤ maxLen)
    (h : ∀ (W : World) (a b c d e f g : Nat), Below w.heap.size w W → KsAt (txKs a b c d e f g) W → ∃ kf cc, look (txEs a b c d e f g) x.data.toList = some (.func (.func kf) #[] cc) ∧ FnP W kf (args ++ cc) v) : TabP w 48 x args v := by
  refine ⟨enters_of Tryz.func48 (by kernel_rfl) rfl, fun W hW => (texts_any W).mono ?_⟩
  rintro en W' ⟨m, a, b, c, d, e, f, g, rfl, hU⟩
  obtain ⟨kf, cc, hl, hf⟩ := h W' a b c d e f g (below_at hW hU.below hW.size) (fun y hy => (hU.cells y hy).2.2)
  exact ⟨m, rfl, hU.below, kf, cc, hU.run x hx _ true (by rw [hl]), hf⟩
theorem tabP_numbers (w : World) (x : ByteArray) (args : Array Value) (v : Value) (hx : x.size ≤ maxLen)
    (h : ∀ (W : World) (a b c d e f g i a' b' c' d' e' : Nat), Below w.heap.size w W → KsAt (nuKs a b c d e f g i a' b' c' d' e') W → ∃ kf cc, look (nuEs a b c d e f g i) x.data.toList = some (.func (.func kf) #[] cc) ∧ FnP W kf (args ++ cc) v) : TabP w 47 x args v := by
  refine ⟨enters_of Tryz.func47 (by kernel_rfl) rfl, fun W hW => (numbers_any W).mono ?_⟩
  rintro en W' ⟨m, a, b, c, d, e, f, g, i, a', b', c', d', e', rfl, hU⟩
  obtain ⟨kf, cc, hl, hf⟩ := h W' a b c d e f g i a' b' c' d' e' (below_at hW hU.below hW.size) (fun y hy => (hU.cells y hy).2.2)
  exact ⟨m, rfl, hU.below, kf, cc, hU.run x hx _ true (by rw [hl]), hf⟩
/-- Words that stand in a row. -/
def RowW (w : World) (bk : Nat) (xs : List ByteArray) : Prop := ∀ (j : Nat) x, xs[j]? = some x → w.cell? ⟨bk, j, none⟩ = some (.string x)
theorem RowW.later {w W : World} {bk : Nat} {xs : List ByteArray} (h : RowW w bk xs) (hb : Below w.heap.size w W) : RowW W bk xs := fun j x hj => cell_later hb (h j x hj)
set_option maxRecDepth 20000 in
theorem run_strsub (bk : Nat) (a f m inp : ByteArray) (fuel : Int) (w : World) (hr : RowW w bk [⟨#[115, 116, 114]⟩, ⟨#[115, 117, 98]⟩, a, f, m]) (ha : a.size ≤ 1000000) (hf : f.size ≤ 1000000) (hm : m.size ≤ 1000000) :
    Calls Tryz.prog 7 #[.slice (some ⟨bk, 0, none⟩) 5 5, .string inp, .int .i64 fuel] w fun en w' => en = .returned (runV (ba (subW a.data.toList f.data.toList m.data.toList).1) (subW a.data.toList f.data.toList m.data.toList).2 fuel 0) ∧ Below w.heap.size w w' := by
  refine run_known bk 0 4 5 ⟨#[115, 116, 114]⟩ inp _ _ 0 fuel w (hr 0 _ rfl) (by decide) (by decide) (by decide) (some ⟨bk, 1, none⟩) rfl ?_
  intro W h u d t i f' hW hk
  refine ⟨73, #[.pointer (some ⟨t, 0, none⟩)], rfl, ?_⟩
  have hr1 := hr.later hW
  refine fnp_by 48 t bk 1 3 4 ⟨#[115, 117, 98]⟩ _ _ 0 W (hk (t, fnU 48) (by simp [utKs])) (hr1 1 _ rfl) (by decide) (by decide) (some ⟨bk, 2, none⟩) rfl ?_
  refine tabP_texts W _ _ _ (by decide) ?_
  intro W2 a' b' c' d' e' f'' g' hW2 hk2
  refine ⟨130, #[.pointer (some ⟨c', 0, none⟩)], rfl, ?_⟩
  have hr2 := hr1.later hW2
  refine fnp_three 88 c' bk 2 3 #[] a f m _ _ 0 W2 (hk2 (c', fnU 88) (by simp [txKs])) (hr2 2 _ rfl) (hr2 3 _ rfl) (hr2 4 _ rfl) ⟨enters_of Tryz.func88 (by kernel_rfl) rfl, fun W3 _ => subW_any a f m W3 ha hf hm⟩
set_option maxRecDepth 20000 in
theorem run_decdiv (bk : Nat) (a b inp : ByteArray) (fuel : Int) (w : World) (hr : RowW w bk [⟨#[100, 101, 99]⟩, ⟨#[47]⟩, a, b]) (ha : a.size ≤ 1000000) (hb : b.size ≤ 1000000) (ht : Tab w) (hl : (reckonD 47 a.data.toList b.data.toList).1.length ≤ 70368744177664) :
    Calls Tryz.prog 7 #[.slice (some ⟨bk, 0, none⟩) 4 4, .string inp, .int .i64 fuel] w fun en w' => en = .returned (runV (ba (decW 47 a.data.toList b.data.toList).1) (decW 47 a.data.toList b.data.toList).2 fuel 0) ∧ Below w.heap.size w w' := by
  refine run_known bk 0 3 4 ⟨#[100, 101, 99]⟩ inp _ _ 0 fuel w (hr 0 _ rfl) (by decide) (by decide) (by decide) (some ⟨bk, 1, none⟩) rfl ?_
  intro W h u d t i f' hW hk
  refine ⟨73, #[.pointer (some ⟨d, 0, none⟩)], rfl, ?_⟩
  have hr1 := hr.later hW
  refine fnp_by 47 d bk 1 2 3 ⟨#[47]⟩ _ _ 0 W (hk (d, fnU 47) (by simp [utKs])) (hr1 1 _ rfl) (by decide) (by decide) (some ⟨bk, 2, none⟩) rfl ?_
  refine tabP_numbers W _ _ _ (by decide) ?_
  intro W2 a1 b1 c1 d1 e1 f1 g1 i1 a2 b2 c2 d2 e2 hW2 hk2
  refine ⟨120, #[.pointer (some ⟨d1, 0, none⟩)], rfl, ?_⟩
  have hr2 := hr1.later hW2
  have hk3 := hk2 (d2, .int .u8 47) (by simp [nuKs])
  have ht2 := (ht.below hW).below hW2
  refine fnp_two 76 d1 bk 2 2 #[.pointer (some ⟨d2, 0, none⟩)] a b _ _ 0 W2 (hk2 (d1, cloV 76 d2) (by simp [nuKs])) (hr2 2 _ rfl) (hr2 3 _ rfl) ⟨enters_of Tryz.func76 (by kernel_rfl) rfl, fun W3 h3 => ?_⟩
  exact reckonU2_any 47 d2 a b W3 (cell_later h3 hk3) ha hb (by decide) (ht2.below h3) hl
theorem shown13_strs (W : World) (bk : Nat) (hr : RowW W bk [⟨#[115, 116, 114]⟩, ⟨#[115, 117, 98]⟩, ⟨#[104, 101, 108, 108, 111]⟩, ⟨#[50]⟩, ⟨#[51]⟩]) :
    Calls Tryz.prog 7 #[.slice (some ⟨bk, 0, none⟩) 5 5, .string ⟨#[]⟩, .int .i64 0] W fun en w' => en = .returned (runV ⟨#[101, 108, 108, 10]⟩ 0 0 0) ∧ Below W.heap.size W w' := by
  have h := run_strsub bk ⟨#[104, 101, 108, 108, 111]⟩ ⟨#[50]⟩ ⟨#[51]⟩ ⟨#[]⟩ 0 W hr (by decide) (by decide) (by decide)
  rw [show subW (⟨#[104, 101, 108, 108, 111]⟩ : ByteArray).data.toList (⟨#[50]⟩ : ByteArray).data.toList (⟨#[51]⟩ : ByteArray).data.toList = ([101, 108, 108, 10], 0) by decide +kernel] at h
  exact h
theorem shown13_nought (W : World) (bk : Nat) (hr : RowW W bk [⟨#[100, 101, 99]⟩, ⟨#[47]⟩, ⟨#[49]⟩, ⟨#[48]⟩]) (ht : Tab W) :
    Calls Tryz.prog 7 #[.slice (some ⟨bk, 0, none⟩) 4 4, .string ⟨#[]⟩, .int .i64 0] W fun en w' => en = .returned (runV ⟨#[]⟩ 2 0 0) ∧ Below W.heap.size W w' := by
  have h0 : reckonD 47 (⟨#[49]⟩ : ByteArray).data.toList (⟨#[48]⟩ : ByteArray).data.toList = ([], 4) := by decide +kernel
  have h := run_decdiv bk ⟨#[49]⟩ ⟨#[48]⟩ ⟨#[]⟩ 0 W hr (by decide) (by decide) ht (by rw [h0]; decide)
  rw [show decW 47 (⟨#[49]⟩ : ByteArray).data.toList (⟨#[48]⟩ : ByteArray).data.toList = ([], 2) by unfold decW; rw [h0]; rfl] at h
  exact h
theorem rowW_new (w : World) (xs : List ByteArray) (t : TypeId) : RowW (w.alloc (.cells (xs.map Value.string).toArray t)) w.heap.size xs := by
  intro j x hj
  rw [World.cell?_alloc_at _ _ _ _ rfl]
  simp [hj]
theorem below_new {w w' : World} {o : Obj} (h : Below (w.alloc o).heap.size (w.alloc o) w') : Below w.heap.size w w' := below_at ((Below.refl _ w).alloc (Nat.le_refl _) o) h (by rw [World.size_alloc]; omega)
set_option maxRecDepth 20000 in
theorem shown13_any (w : World) (ht : Tab w) :
    Calls Tryz.prog 4 #[] w fun e w' => e = .returned (.bool true) ∧ Below w.heap.size w w' := by
  have K1 : Hid (∀ W : World, Calls Tryz.prog 7 #[.slice (some ⟨W.heap.size, 0, none⟩) 5 5, .string ⟨#[]⟩, .int .i64 0] (W.alloc (.cells #[.string ⟨#[115, 116, 114]⟩, .string ⟨#[115, 117, 98]⟩, .string ⟨#[104, 101, 108, 108, 111]⟩, .string ⟨#[50]⟩, .string ⟨#[51]⟩] 9)) fun en w' =>
      en = .returned (.tuple #[.string ⟨#[101, 108, 108, 10]⟩, .int .i64 0, .int .i64 0, .int .i64 0]) ∧ Below W.heap.size W w') :=
    Lib.hid (fun W => (shown13_strs _ _ (rowW_new W [⟨#[115, 116, 114]⟩, ⟨#[115, 117, 98]⟩, ⟨#[104, 101, 108, 108, 111]⟩, ⟨#[50]⟩, ⟨#[51]⟩] 9)).mono fun _ _ h => ⟨h.1, below_new h.2⟩)
  have K2 : Hid (∀ W : World, Tab W → Calls Tryz.prog 7 #[.slice (some ⟨W.heap.size, 0, none⟩) 4 4, .string ⟨#[]⟩, .int .i64 0] (W.alloc (.cells #[.string ⟨#[100, 101, 99]⟩, .string ⟨#[47]⟩, .string ⟨#[49]⟩, .string ⟨#[48]⟩] 9)) fun en w' =>
      en = .returned (.tuple #[.string ⟨#[]⟩, .int .i64 2, .int .i64 0, .int .i64 0]) ∧ Below W.heap.size W w') :=
    Lib.hid (fun W h => (shown13_nought _ _ (rowW_new W [⟨#[100, 101, 99]⟩, ⟨#[47]⟩, ⟨#[49]⟩, ⟨#[48]⟩] 9) (h.below ((Below.refl _ W).alloc (Nat.le_refl _) _))).mono fun _ _ h => ⟨h.1, below_new h.2⟩)
  have HT := Lib.hid ht
  clear ht
  go_enter Tryz.func4, Tryz.ntmps4
  go_wp2_with (first
    | (go_at_call 7; first
        | (with_reducible refine (K1.out _).mono ?_; rintro e w1 ⟨rfl, hb1⟩; have HB1 := Lib.hid hb1; clear hb1)
        | (with_reducible refine (K2.out _ (HT.out.below HB1.out)).mono ?_; rintro e w2 ⟨rfl, hb2⟩; have HB2 := Lib.hid (below_at HB1.out hb2 HB1.out.size); clear hb2)))
  go_ret
  exact ⟨rfl, HB2.out⟩
end Go.Proofs.YtbodnhpjfdnjfaaGreatDoor
namespace Go.Proofs.YtbodnhpjfdnjfaaGreatDoor
open Go.RowKit Go.Lib

theorem heldU_any (k : Nat) (x y : Array Value) (w : World) : Calls Tryz.prog 140 #[.func (.func k) x y] w fun e w' => ∃ b o, e = .returned (cloV 120 b) ∧ Below w.heap.size w w' ∧
    (∀ z ∈ [(b, cloV 180 o), (o, .func (.func k) x y)], w.heap.size ≤ z.1 ∧ z.1 < w'.heap.size ∧ w'.cell? ⟨z.1, 0, none⟩ = some z.2) := by
  have hmf : ∀ (fn : Fn) (first cap : Array Value) (w : World), (Instr.makeFunc fn first cap).run Tryz.prog w = .ok (.func fn first cap) w := fun _ _ _ _ => rfl
  have n1 := Lib.hid (newC_mk w (.func (.func k) x y) 152)
  go_enter Tryz.func140, Tryz.ntmps140
  go_wp2_with (first
    | (go_at_call 75; refine (twoU_any _ _ _ _).mono ?_; rintro e w1 ⟨b1, rfl, hn1⟩; have HU := Lib.hid hn1; clear hn1))
  go_ret
  obtain ⟨_, a2, a3, a4⟩ := n1.out
  obtain ⟨hb, b2, b3, b4⟩ := HU.out
  refine ⟨b1, w.heap.size, rfl, below_at a2 b2 a2.size, fun z hz => ?_⟩
  rcases List.mem_cons.1 hz with rfl | hz
  · exact ⟨by rw [hb]; exact a2.size, b3, b4⟩
  · obtain rfl := List.mem_singleton.1 hz
    exact ⟨Nat.le_refl _, Nat.lt_of_lt_of_le a3 b2.size, by rw [b2.cell a3]; exact a4⟩
def quEs (a b c d e f g h i j : Nat) : List Ent :=
  [⟨[61], cloV 120 a⟩, ⟨[33, 61], cloV 120 b⟩, ⟨[45, 110], cloV 70 c⟩, ⟨[45, 122], cloV 70 d⟩, ⟨[45, 101, 113], cloV 120 e⟩, ⟨[45, 110, 101], cloV 120 f⟩, ⟨[45, 108, 116], cloV 120 g⟩,
   ⟨[45, 108, 101], cloV 120 h⟩, ⟨[45, 103, 116], cloV 120 i⟩, ⟨[45, 103, 101], cloV 120 j⟩]
def quKs (a b c d e f g h i j e' f' g' h' i' j' : Nat) : List (Nat × Value) :=
  [(j, cloV 180 j'), (j', fnU 146), (i, cloV 180 i'), (i', fnU 145), (h, cloV 180 h'), (h', fnU 144), (g, cloV 180 g'), (g', fnU 143),
   (f, cloV 180 f'), (f', fnU 142), (e, cloV 180 e'), (e', fnU 141), (d, fnU 139), (c, fnU 138), (b, fnU 137), (a, fnU 136)]
set_option maxRecDepth 20000 in
theorem questions_any (w : World) :
    Calls Tryz.prog 95 #[] w fun en w' => ∃ m a b c d e f g h i j e' f' g' h' i' j', en = .returned (.map (some m)) ∧ UI w m 10 (quEs a b c d e f g h i j) (quKs a b c d e f g h i j e' f' g' h' i' j') w' := by
  have hmm := @run_makeMap Tryz.prog
  have HU := Lib.hid (UI.made w w w.heap.size rfl [] (Below.refl _ w) (fun x hx => by cases hx))
  go_enter Tryz.func95, Tryz.ntmps95
  go_wp2_with (first
    | (go_at_call 140; refine (heldU_any _ _ _ _).mono ?_; rintro e w1 ⟨b1, o1, rfl, hb1, hk1⟩; have HU := Lib.hid (HU.out.more hb1 hk1); clear hb1 hk1)
    | (go_at_call 40; refine (oneU_any _ _ _ _).mono ?_; rintro e w1 ⟨b1, rfl, hn1⟩; have HU := Lib.hid (HU.out.new hn1); clear hn1)
    | (go_at_call 75; refine (twoU_any _ _ _ _).mono ?_; rintro e w1 ⟨b1, rfl, hn1⟩; have HU := Lib.hid (HU.out.new hn1); clear hn1)
    | (refine wpList_insert_U rfl _ _ _ rfl _ _ _ _ HU.out (by decide) rfl _ (cloV _ _) rfl rfl (by decide) ?_; intro w1 hu1; have HU := Lib.hid hu1; clear hu1))
  go_ret
  exact ⟨_, _, _, _, _, _, _, _, _, _, _, _, _, _, _, _, _, rfl, HU.out⟩
theorem tabP_questions (w : World) (x : ByteArray) (args : Array Value) (v : Value) (hx : x.size ≤ maxLen)
    (h : ∀ (W : World) (a b c d e f g i j k e' f' g' i' j' k' : Nat), Below w.heap.size w W → KsAt (quKs a b c d e f g i j k e' f' g' i' j' k') W → ∃ kf cc, look (quEs a b c d e f g i j k) x.data.toList = some (.func (.func kf) #[] cc) ∧ FnP W kf (args ++ cc) v) : TabP w 95 x args v := by
  refine ⟨enters_of Tryz.func95 (by kernel_rfl) rfl, fun W hW => (questions_any W).mono ?_⟩
  rintro en W' ⟨m, a, b, c, d, e, f, g, i, j, k, e', f', g', i', j', k', rfl, hU⟩
  obtain ⟨kf, cc, hl, hf⟩ := h W' a b c d e f g i j k e' f' g' i' j' k' (below_at hW hU.below hW.size) (fun y hy => (hU.cells y hy).2.2)
  exact ⟨m, rfl, hU.below, kf, cc, hU.run x hx _ true (by rw [hl]), hf⟩
theorem eqU_any (a b : ByteArray) (y : Bool) (hy : (a.toList == b.toList) = y) (w : World) : Calls Tryz.prog 136 #[.string a, .string b] w fun e w' => e = .returned (resV ⟨#[]⟩ (if y then 0 else 1) 0) ∧ Below w.heap.size w w' := by
  have HR := Lib.hid (RI.start w)
  cases y
  all_goals
    go_enter Tryz.func136, Tryz.ntmps136
    go_wp2_with (first
      | (go_at_call 37; refine (asked_any _ _).mono ?_; rintro e w1 ⟨rfl, hb1⟩; have HR := Lib.hid (HR.out.later hb1); clear hb1)
      | (refine wpList_store_res rfl _ _ rfl HR.out rfl _ _ _ rfl ?_; intro w1 hr1; have HD := Lib.hid hr1; clear hr1))
    exact res_end HD.out Tryz.results136 _ rfl rfl _ (fun hb => ⟨rfl, hb⟩)
theorem row3_later {w w1 : World} {b1 : Nat} {f : Value} {x a b : ByteArray} (h : NewC ((w.alloc (.cells #[.string ⟨#[]⟩, .int .i64 0, .int .i64 0] 45)).alloc (.cells #[.string x, .string a, .string b] 9)).drew w1 b1 f) : RowW w1 (w.heap.size + 1) [x, a, b] := by
  have h2 := (rowW_new (w.alloc (.cells #[.string ⟨#[]⟩, .int .i64 0, .int .i64 0] 45)) [x, a, b] 9).later (W := w1) (((Below.refl _ _).drew).trans h.2.1)
  rw [World.size_alloc] at h2
  exact h2
theorem ri_later3 {w w1 : World} {b1 g : Nat} {f : Value} {x a b : ByteArray} (hr : RI w g (w.alloc (.cells #[.string ⟨#[]⟩, .int .i64 0, .int .i64 0] 45))) (h : NewC ((w.alloc (.cells #[.string ⟨#[]⟩, .int .i64 0, .int .i64 0] 45)).alloc (.cells #[.string x, .string a, .string b] 9)).drew w1 b1 f) : RI w g w1 :=
  (((hr.later ((Below.refl _ _).alloc (Nat.le_refl _) (.cells #[.string x, .string a, .string b] 9))).drew).later h.2.1)
set_option maxHeartbeats 1000000 in
set_option maxRecDepth 20000 in
/-- test of three words: what it asks stands between them. -/
theorem test3_any (bk o c : Nat) (a x b s : ByteArray) (st e : Int) (w : World) (ha : w.cell? ⟨bk, o, none⟩ = some (.string a)) (hx : w.cell? ⟨bk, o + 1, none⟩ = some (.string x)) (hb : w.cell? ⟨bk, o + 2, none⟩ = some (.string b)) (_hn : 3 ≤ c) (_hc : c ≤ 1000000)
    (hT : ∀ W g, RowW W g [x, a, b] → TabP W 95 x #[.slice (some ⟨g, 1, none⟩) 2 2] (resV s st e)) :
    Calls Tryz.prog 49 #[.slice (some ⟨bk, o, none⟩) 3 c] w fun en w' => en = .returned (resV s st e) ∧ Below w.heap.size w w' := by
  have HR := Lib.hid (RI.start w)
  have c0 := cell_later HR.out.below ha
  have c1 := cell_later HR.out.below hx
  have c2 := cell_later HR.out.below hb
  have HX := Lib.hid (fun W g (hr : RowW W g [x, a, b]) (b' : Nat) (hb' : W.cell? ⟨b', 0, none⟩ = some (fnU 95)) => by1_any 95 b' g 0 2 3 x s st e W hb' (hr 0 x rfl) (by decide) (by decide) (some ⟨g, 1, none⟩) rfl (hT W g hr))
  clear ha hx hb hT
  go_enter Tryz.func49, Tryz.ntmps49
  go_upto_region 2 with fail
  go_region_law (fail)
  all_goals
    go_wp2_with (first
      | (go_at_call 46; refine (byU_any _ _ _ _).mono ?_; rintro e w1 ⟨b1, rfl, hn1⟩; have HN := Lib.hid hn1.2.2.2; have HRW := Lib.hid (row3_later hn1); have HR := Lib.hid (ri_later3 HR.out hn1); clear hn1; unfold cloV)
      | (go_at_call 73; refine (HX.out _ _ HRW.out _ HN.out).mono ?_; rintro e w2 ⟨rfl, hb1⟩; have HR := Lib.hid (HR.out.later hb1); clear hb1)
      | (refine wpList_store_res rfl _ _ rfl HR.out rfl _ _ _ rfl ?_; intro w3 hr1; have HD := Lib.hid hr1; clear hr1))
    exact res_end HD.out Tryz.results49 _ rfl rfl _ (fun hb => ⟨rfl, hb⟩)
end Go.Proofs.YtbodnhpjfdnjfaaGreatDoor
namespace Go.Proofs.YtbodnhpjfdnjfaaGreatDoor
open Go.RowKit Go.Lib

/-! ### Runs -/
theorem run_eq (bk : Nat) (a b inp : ByteArray) (y : Bool) (hy : (a.toList == b.toList) = y) (fuel : Int) (w : World) (hr : RowW w bk [⟨#[116, 101, 115, 116]⟩, a, ⟨#[61]⟩, b]) :
    Calls Tryz.prog 7 #[.slice (some ⟨bk, 0, none⟩) 4 4, .string inp, .int .i64 fuel] w fun en w' => en = .returned (runV ⟨#[]⟩ (if y then 0 else 1) fuel 0) ∧ Below w.heap.size w w' := by
  refine run_known bk 0 3 4 ⟨#[116, 101, 115, 116]⟩ inp _ _ 0 fuel w (hr 0 _ rfl) (by decide) (by decide) (by decide) (some ⟨bk, 1, none⟩) rfl ?_
  intro W h u d t i f hW hk
  refine ⟨49, #[], rfl, enters_of Tryz.func49 (by kernel_rfl) rfl, fun W1 hW1 => ?_⟩
  have hr1 := (hr.later hW).later hW1
  refine test3_any bk 1 3 a ⟨#[61]⟩ b _ _ 0 W1 (hr1 1 _ rfl) (hr1 2 _ rfl) (hr1 3 _ rfl) (by decide) (by decide) ?_
  intro W2 g hr2
  refine tabP_questions W2 _ _ _ (by decide) ?_
  intro W3 a1 b1 c1 d1 e1 f1 g1 i1 j1 k1 e' f' g' i' j' k' hW3 hk3
  refine ⟨120, #[.pointer (some ⟨a1, 0, none⟩)], rfl, ?_⟩
  exact fnp_two 136 a1 g 1 2 #[] a b _ _ 0 W3 (hk3 (a1, fnU 136) (by simp [quKs])) (hr2.later hW3 1 _ rfl) (hr2.later hW3 2 _ rfl) ⟨enters_of Tryz.func136 (by kernel_rfl) rfl, fun W4 _ => eqU_any a b y hy W4⟩
end Go.Proofs.YtbodnhpjfdnjfaaGreatDoor
