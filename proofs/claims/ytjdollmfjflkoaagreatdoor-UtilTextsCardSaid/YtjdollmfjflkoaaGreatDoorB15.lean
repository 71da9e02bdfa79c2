/- Packed texts: UtShown, UtSubs, UtShaped. What each of them proves stands above its theorems; the conditions stand in these. -/
import Derived.HandedShaped
import Derived.Shelf.Vars
import Derived.Test.YtjdollmfjflkoaaGreatDoorShelf
import Derived.Test.YtjdollmfjflkoaaGreatDoorB2
import Derived.Test.YtjdollmfjflkoaaGreatDoorB14
namespace Go.Proofs.YtjdollmfjflkoaaGreatDoor
open Go.RowKit Go.Lib

theorem TabP.later {w W : World} {kt : Nat} {x : ByteArray} {args : Array Value} {v : Value} (h : TabP w kt x args v) (hb : Below w.heap.size w W) : TabP W kt x args v := ⟨h.1, fun W' h2 => h.2 W' (below_at hb h2 hb.size)⟩
theorem fnp_by (kt b bk o n c : Nat) (x s : ByteArray) (st e : Int) (w : World) (hb : w.cell? ⟨b, 0, none⟩ = some (fnU kt)) (hx : w.cell? ⟨bk, o, none⟩ = some (.string x)) (hn : n + 1 ≤ c) (hc : c ≤ 1000000)
    (A : Option Addr) (hA : (if c = 1 then some (⟨bk, o, none⟩ : Addr) else some ⟨bk, o + 1, none⟩) = A) (hT : TabP w kt x #[.slice A n (c - 1)] (resV s st e)) :
    FnP w 58 #[.slice (some ⟨bk, o, none⟩) (n + 1) c, .pointer (some ⟨b, 0, none⟩)] (resV s st e) :=
  ⟨enters_of Tryz.func58 (by kernel_rfl) rfl, fun _ h => by1_any kt b bk o n c x s st e _ (cell_later h hb) (cell_later h hx) hn hc A hA (hT.later h)⟩
theorem fnp_two (k b bk o c : Nat) (cc : Array Value) (x y s : ByteArray) (st e : Int) (w : World) (hb : w.cell? ⟨b, 0, none⟩ = some (.func (.func k) #[] cc)) (hx : w.cell? ⟨bk, o, none⟩ = some (.string x)) (hy : w.cell? ⟨bk, o + 1, none⟩ = some (.string y))
    (hf : FnP w k (#[.string x, .string y] ++ cc) (resV s st e)) : FnP w 87 #[.slice (some ⟨bk, o, none⟩) 2 c, .pointer (some ⟨b, 0, none⟩)] (resV s st e) :=
  ⟨enters_of Tryz.func87 (by kernel_rfl) rfl, fun _ h => two1_any k b bk o c cc x y s st e _ (cell_later h hb) (cell_later h hx) (cell_later h hy) (hf.later h)⟩
theorem fnp_three (k b bk o c : Nat) (cc : Array Value) (x y z s : ByteArray) (st e : Int) (w : World) (hb : w.cell? ⟨b, 0, none⟩ = some (.func (.func k) #[] cc)) (hx : w.cell? ⟨bk, o, none⟩ = some (.string x)) (hy : w.cell? ⟨bk, o + 1, none⟩ = some (.string y))
    (hz : w.cell? ⟨bk, o + 2, none⟩ = some (.string z)) (hf : FnP w k (#[.string x, .string y, .string z] ++ cc) (resV s st e)) : FnP w 96 #[.slice (some ⟨bk, o, none⟩) 3 c, .pointer (some ⟨b, 0, none⟩)] (resV s st e) :=
  ⟨enters_of Tryz.func96 (by kernel_rfl) rfl, fun _ h => three1_any k b bk o c cc x y z s st e _ (cell_later h hb) (cell_later h hx) (cell_later h hy) (cell_later h hz) (hf.later h)⟩
theorem tabP_texts (w : World) (x : ByteArray) (args : Array Value) (v : Value) (hx : x.size ≤ maxLen)
    (h : ∀ (W : World) (a b c d e f g : Nat), Below w.heap.size w W → KsAt (txKs a b c d e f g) W → ∃ kf cc, look (txEs a b c d e f g) x.data.toList = some (.func (.func kf) #[] cc) ∧ FnP W kf (args ++ cc) v) : TabP w 44 x args v := by
  refine ⟨enters_of Tryz.func44 (by kernel_rfl) rfl, fun W hW => (texts_any W).mono ?_⟩
  rintro en W' ⟨m, a, b, c, d, e, f, g, rfl, hU⟩
  obtain ⟨kf, cc, hl, hf⟩ := h W' a b c d e f g (below_at hW hU.below hW.size) (fun y hy => (hU.cells y hy).2.2)
  exact ⟨m, rfl, hU.below, kf, cc, hU.run x hx _ true (by rw [hl]), hf⟩
theorem tabP_numbers (w : World) (x : ByteArray) (args : Array Value) (v : Value) (hx : x.size ≤ maxLen)
    (h : ∀ (W : World) (a b c d e f g i a' b' c' d' e' : Nat), Below w.heap.size w W → KsAt (nuKs a b c d e f g i a' b' c' d' e') W → ∃ kf cc, look (nuEs a b c d e f g i) x.data.toList = some (.func (.func kf) #[] cc) ∧ FnP W kf (args ++ cc) v) : TabP w 43 x args v := by
  refine ⟨enters_of Tryz.func43 (by kernel_rfl) rfl, fun W hW => (numbers_any W).mono ?_⟩
  rintro en W' ⟨m, a, b, c, d, e, f, g, i, a', b', c', d', e', rfl, hU⟩
  obtain ⟨kf, cc, hl, hf⟩ := h W' a b c d e f g i a' b' c' d' e' (below_at hW hU.below hW.size) (fun y hy => (hU.cells y hy).2.2)
  exact ⟨m, rfl, hU.below, kf, cc, hU.run x hx _ true (by rw [hl]), hf⟩
/-- Words that stand in a row. -/
def RowW (w : World) (bk : Nat) (xs : List ByteArray) : Prop := ∀ (j : Nat) x, xs[j]? = some x → w.cell? ⟨bk, j, none⟩ = some (.string x)
theorem RowW.later {w W : World} {bk : Nat} {xs : List ByteArray} (h : RowW w bk xs) (hb : Below w.heap.size w W) : RowW W bk xs := fun j x hj => cell_later hb (h j x hj)
set_option maxRecDepth 20000 in
theorem run_strsub (bk : Nat) (a f m inp : ByteArray) (fuel : Int) (w : World) (hr : RowW w bk [⟨#[115, 116, 114]⟩, ⟨#[115, 117, 98]⟩, a, f, m]) (ha : a.size ≤ 1000000) (hf : f.size ≤ 1000000) (hm : m.size ≤ 1000000) :
    Calls Tryz.prog 23 #[.slice (some ⟨bk, 0, none⟩) 5 5, .string inp, .int .i64 fuel] w fun en w' => en = .returned (runV (ba (subW a.data.toList f.data.toList m.data.toList).1) (subW a.data.toList f.data.toList m.data.toList).2 fuel 0) ∧ Below w.heap.size w w' := by
  refine run_known bk 0 4 5 ⟨#[115, 116, 114]⟩ inp _ _ 0 fuel w (hr 0 _ rfl) (by decide) (by decide) (by decide) (some ⟨bk, 1, none⟩) rfl ?_
  intro W h u d t i f' hW hk
  refine ⟨58, #[.pointer (some ⟨t, 0, none⟩)], rfl, ?_⟩
  have hr1 := hr.later hW
  refine fnp_by 44 t bk 1 3 4 ⟨#[115, 117, 98]⟩ _ _ 0 W (hk (t, fnU 44) (by simp [utKs])) (hr1 1 _ rfl) (by decide) (by decide) (some ⟨bk, 2, none⟩) rfl ?_
  refine tabP_texts W _ _ _ (by decide) ?_
  intro W2 a' b' c' d' e' f'' g' hW2 hk2
  refine ⟨96, #[.pointer (some ⟨c', 0, none⟩)], rfl, ?_⟩
  have hr2 := hr1.later hW2
  refine fnp_three 72 c' bk 2 3 #[] a f m _ _ 0 W2 (hk2 (c', fnU 72) (by simp [txKs])) (hr2 2 _ rfl) (hr2 3 _ rfl) (hr2 4 _ rfl) ⟨enters_of Tryz.func72 (by kernel_rfl) rfl, fun W3 _ => subW_any a f m W3 ha hf hm⟩
set_option maxRecDepth 20000 in
theorem run_decdiv (bk : Nat) (a b inp : ByteArray) (fuel : Int) (w : World) (hr : RowW w bk [⟨#[100, 101, 99]⟩, ⟨#[47]⟩, a, b]) (ha : a.size ≤ 1000000) (hb : b.size ≤ 1000000) (ht : Tab w) (hl : (reckonD 47 a.data.toList b.data.toList).1.length ≤ 70368744177664) :
    Calls Tryz.prog 23 #[.slice (some ⟨bk, 0, none⟩) 4 4, .string inp, .int .i64 fuel] w fun en w' => en = .returned (runV (ba (decW 47 a.data.toList b.data.toList).1) (decW 47 a.data.toList b.data.toList).2 fuel 0) ∧ Below w.heap.size w w' := by
  refine run_known bk 0 3 4 ⟨#[100, 101, 99]⟩ inp _ _ 0 fuel w (hr 0 _ rfl) (by decide) (by decide) (by decide) (some ⟨bk, 1, none⟩) rfl ?_
  intro W h u d t i f' hW hk
  refine ⟨58, #[.pointer (some ⟨d, 0, none⟩)], rfl, ?_⟩
  have hr1 := hr.later hW
  refine fnp_by 43 d bk 1 2 3 ⟨#[47]⟩ _ _ 0 W (hk (d, fnU 43) (by simp [utKs])) (hr1 1 _ rfl) (by decide) (by decide) (some ⟨bk, 2, none⟩) rfl ?_
  refine tabP_numbers W _ _ _ (by decide) ?_
  intro W2 a1 b1 c1 d1 e1 f1 g1 i1 a2 b2 c2 d2 e2 hW2 hk2
  refine ⟨87, #[.pointer (some ⟨d1, 0, none⟩)], rfl, ?_⟩
  have hr2 := hr1.later hW2
  have hk3 := hk2 (d2, .int .u8 47) (by simp [nuKs])
  have ht2 := (ht.below hW).below hW2
  refine fnp_two 61 d1 bk 2 2 #[.pointer (some ⟨d2, 0, none⟩)] a b _ _ 0 W2 (hk2 (d1, cloV 61 d2) (by simp [nuKs])) (hr2 2 _ rfl) (hr2 3 _ rfl) ⟨enters_of Tryz.func61 (by kernel_rfl) rfl, fun W3 h3 => ?_⟩
  exact reckonU2_any 47 d2 a b W3 (cell_later h3 hk3) ha hb (by decide) (ht2.below h3) hl
theorem shown13_strs (W : World) (bk : Nat) (hr : RowW W bk [⟨#[115, 116, 114]⟩, ⟨#[115, 117, 98]⟩, ⟨#[104, 101, 108, 108, 111]⟩, ⟨#[50]⟩, ⟨#[51]⟩]) :
    Calls Tryz.prog 23 #[.slice (some ⟨bk, 0, none⟩) 5 5, .string ⟨#[]⟩, .int .i64 0] W fun en w' => en = .returned (runV ⟨#[101, 108, 108, 10]⟩ 0 0 0) ∧ Below W.heap.size W w' := by
  have h := run_strsub bk ⟨#[104, 101, 108, 108, 111]⟩ ⟨#[50]⟩ ⟨#[51]⟩ ⟨#[]⟩ 0 W hr (by decide) (by decide) (by decide)
  rw [show subW (⟨#[104, 101, 108, 108, 111]⟩ : ByteArray).data.toList (⟨#[50]⟩ : ByteArray).data.toList (⟨#[51]⟩ : ByteArray).data.toList = ([101, 108, 108, 10], 0) by decide +kernel] at h
  exact h
theorem shown13_nought (W : World) (bk : Nat) (hr : RowW W bk [⟨#[100, 101, 99]⟩, ⟨#[47]⟩, ⟨#[49]⟩, ⟨#[48]⟩]) (ht : Tab W) :
    Calls Tryz.prog 23 #[.slice (some ⟨bk, 0, none⟩) 4 4, .string ⟨#[]⟩, .int .i64 0] W fun en w' => en = .returned (runV ⟨#[]⟩ 2 0 0) ∧ Below W.heap.size W w' := by
  have h0 : reckonD 47 (⟨#[49]⟩ : ByteArray).data.toList (⟨#[48]⟩ : ByteArray).data.toList = ([], 4) := by decide +kernel
  have h := run_decdiv bk ⟨#[49]⟩ ⟨#[48]⟩ ⟨#[]⟩ 0 W hr (by decide) (by decide) ht (by rw [h0]; decide)
  rw [show decW 47 (⟨#[49]⟩ : ByteArray).data.toList (⟨#[48]⟩ : ByteArray).data.toList = ([], 2) by unfold decW; rw [h0]; rfl] at h
  exact h
theorem rowW_new (w : World) (xs : List ByteArray) (t : TypeId) : RowW (w.alloc (.cells (xs.map Value.string).toArray t)) w.heap.size xs := by
  intro j x hj
  rw [World.cell?_alloc_at _ _ _ _ rfl]
  simp [hj]
theorem below_new {w w' : World} {o : Obj} (h : Below (w.alloc o).heap.size (w.alloc o) w') : Below w.heap.size w w' := below_at ((Below.refl _ w).alloc (Nat.le_refl _) o) h (by rw [World.size_alloc]; omega)
set_option maxRecDepth 20000 in
theorem shown13_any (w : World) (ht : Tab w) :
    Calls Tryz.prog 9 #[] w fun e w' => e = .returned (.bool true) ∧ Below w.heap.size w w' := by
  have K1 : Hid (∀ W : World, Calls Tryz.prog 23 #[.slice (some ⟨W.heap.size, 0, none⟩) 5 5, .string ⟨#[]⟩, .int .i64 0] (W.alloc (.cells #[.string ⟨#[115, 116, 114]⟩, .string ⟨#[115, 117, 98]⟩, .string ⟨#[104, 101, 108, 108, 111]⟩, .string ⟨#[50]⟩, .string ⟨#[51]⟩] 9)) fun en w' =>
      en = .returned (.tuple #[.string ⟨#[101, 108, 108, 10]⟩, .int .i64 0, .int .i64 0, .int .i64 0]) ∧ Below W.heap.size W w') :=
    Lib.hid (fun W => (shown13_strs _ _ (rowW_new W [⟨#[115, 116, 114]⟩, ⟨#[115, 117, 98]⟩, ⟨#[104, 101, 108, 108, 111]⟩, ⟨#[50]⟩, ⟨#[51]⟩] 9)).mono fun _ _ h => ⟨h.1, below_new h.2⟩)
  have K2 : Hid (∀ W : World, Tab W → Calls Tryz.prog 23 #[.slice (some ⟨W.heap.size, 0, none⟩) 4 4, .string ⟨#[]⟩, .int .i64 0] (W.alloc (.cells #[.string ⟨#[100, 101, 99]⟩, .string ⟨#[47]⟩, .string ⟨#[49]⟩, .string ⟨#[48]⟩] 9)) fun en w' =>
      en = .returned (.tuple #[.string ⟨#[]⟩, .int .i64 2, .int .i64 0, .int .i64 0]) ∧ Below W.heap.size W w') :=
    Lib.hid (fun W h => (shown13_nought _ _ (rowW_new W [⟨#[100, 101, 99]⟩, ⟨#[47]⟩, ⟨#[49]⟩, ⟨#[48]⟩] 9) (h.below ((Below.refl _ W).alloc (Nat.le_refl _) _))).mono fun _ _ h => ⟨h.1, below_new h.2⟩)
  have HT := Lib.hid ht
  clear ht
  go_enter Tryz.func9, Tryz.ntmps9
  go_wp2_with (first
    | (go_at_call 23; first
        | (with_reducible refine (K1.out _).mono ?_; rintro e w1 ⟨rfl, hb1⟩; have HB1 := Lib.hid hb1; clear hb1)
        | (with_reducible refine (K2.out _ (HT.out.below HB1.out)).mono ?_; rintro e w2 ⟨rfl, hb2⟩; have HB2 := Lib.hid (below_at HB1.out hb2 HB1.out.size); clear hb2)))
  go_ret
  exact ⟨rfl, HB2.out⟩
end Go.Proofs.YtjdollmfjflkoaaGreatDoor
namespace Go.Proofs.YtjdollmfjflkoaaGreatDoor
open Go.RowKit Go.Lib

/-- The library's own number holds a number. -/
def Mx13 (w : World) : Prop := ∃ m, w.cell? ⟨0, 0, none⟩ = some (.int .i64 m)
theorem Mx13.below {w w' : World} (h : Mx13 w) (hb : Below w.heap.size w w') : Mx13 w' := by
  obtain ⟨m, hm⟩ := h
  exact ⟨m, cell_later hb hm⟩
theorem indexU_any (s t : ByteArray) (w : World) (hs : s.size ≤ 100000) (hm : Mx13 w) : Calls Tryz.prog 17 #[.string s, .string t] w fun e w' => e = .returned (.int .i64 (indexU s.data.toList t.data.toList)) ∧ w' = w := by
  obtain ⟨m, hm⟩ := hm
  have k1 := Lib.hid (Tryz.strings_Index s t m w (by omega) hm)
  have h1 := Lib.index_ge s.data.toList t.data.toList
  have h2 := Lib.index_le s.data.toList t.data.toList
  rw [← size_eq] at h2
  unfold indexU
  generalize Lib.index s.data.toList t.data.toList = i at *
  clear hm
  go_enter Tryz.func17, Tryz.ntmps17
  go_wp2_with (first
    | (go_at_call 26; with_reducible refine (k1.out).mono ?_; rintro e w1 ⟨rfl, rfl⟩))
  go_ret
  exact ⟨rfl, rfl⟩
end Go.Proofs.YtjdollmfjflkoaaGreatDoor
namespace Go.Proofs.YtjdollmfjflkoaaGreatDoor
open Go.ChangeShapes Go.WideShapes Go.ChangeAt Go.RowKit

theorem mx13_of_shaped {W : World} (h : W.ShapedOpen Tryz.prog) : Mx13 W :=
  cell_of_shapedOpen_int (zero := #[.int .i64 0]) (t := 3) h (of_decide_eq_true (by kernel_rfl)) (by kernel_rfl) rfl (by kernel_rfl) (by kernel_rfl) Tryz.underlying3
theorem returnsInHanded_shaped_and {H : Type} {enc : TypeId × Value → H} {a : Assume} {C : Checked} {os : Os} {f : FuncId} {fn : Func} {s : ChangeSpec} {conds : List PathCond} {apart fresh handsOn again : Bool} {X : World → Array Value → Prop}
    (hX : ∀ (w w' : World) (args : Array Value), w.heap = w'.heap → X w args → X w' args)
    (own : ownKnob C.prog.godebug = none) (started : os.Started) (noInit : C.prog.inits.idxOf? f = none) (hfn : C.prog.funcs[f]? = some fn)
    (witness : ∃ (w : World) (tape : Tape) (i : Input), w.os = os ∧ (w.forCall tape i).Shaped C.prog ∧ i.vars = [] ∧ Input.okWide C.prog (w.forCall tape i) .any w.heap.size f i ∧
      ((s.pre enc C.prog fn conds apart (w.forCall tape i).memory i.args ∧ X (w.forCall tape i).memory i.args) ∧ sizedMet enc C.prog fn (OpenSpec.ofChange s) apart (w.forCall tape i).memory i.args) ∧ a.holds C.prog (lone (Frame.enter C.prog f i.args .normal) [] (w.forCall tape i)))
    (contract : ∀ (W : World) (base : Nat) (args : Array Value) (ds gs : List (DataW H)) (before : List MemPlace),
      (∀ (j : Nat) t v, fn.params[j]? = some t → args[j]? = some v → Value.okWide C.prog W .any base t v) →
      DataW.Whole enc C.prog fn.params.toList s.vars apart W args.toList ds gs before →
      conds.all (PathCond.test C.prog ⟨fn.params.toList, ds, s.plain.varTypes C.prog, gs⟩) = true →
      (DataW.weightsEach C.prog (fn.params.toList ++ s.plain.varTypes C.prog) (ds ++ gs)).all (· ≤ reachBytes) = true → X W args → W.ShapedOpen C.prog →
      a.holds C.prog (lone (Frame.enter C.prog f args .normal) [] W) →
      Calls C.prog f args W fun e W' => ∃ v, e = .returned v ∧ s.post enc C.prog fn apart fresh handsOn again W args v W') :
    ReturnsInHanded a C os f .any (fun w args => (s.pre enc C.prog fn conds apart w args ∧ X w args) ∧ sizedMet enc C.prog fn (OpenSpec.ofChange s) apart w args) (s.post enc C.prog fn apart fresh handsOn again) := by
  refine returnsInHanded_of_calls own started noInit witness ?_
  intro w tape i _ hsh _ hok hpre hholds
  obtain ⟨_, _, _, fn', hfn', _, _, _, _, hval⟩ := hok
  obtain rfl : fn' = fn := Option.some.inj (hfn'.symm.trans hfn)
  obtain ⟨⟨⟨ds, gs, before, hw, hc⟩, hx⟩, hz⟩ := hpre
  refine (contract (w.forCall tape i) w.heap.size i.args ds gs before hval (DataW.Whole.of_heap (w' := w.forCall tape i) (by rfl) hw) hc (hz.weights hw) (hX _ _ _ (by rfl) hx) hsh hholds).mono fun e W' ⟨v, he, hp⟩ => ?_
  subst he
  exact ChangeSpec.post_blind hp
end Go.Proofs.YtjdollmfjflkoaaGreatDoor
