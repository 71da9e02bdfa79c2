/- Packed texts: UtSubs, UtShaped. What each of them proves stands above its theorems; the conditions stand in these. -/
import Derived.HandedShaped
import Derived.Shelf.Vars
import Derived.Test.YtjdollmfjflkoaaGreatDoorShelf
import Derived.Test.YtjdollmfjflkoaaGreatDoorA2
import Derived.Test.YtjdollmfjflkoaaGreatDoorA10
namespace Go.Proofs.YtjdollmfjflkoaaGreatDoor
open Go.RowKit Go.Lib

/-- The library's own number holds a number. -/
def Mx13 (w : World) : Prop := ∃ m, w.cell? ⟨0, 0, none⟩ = some (.int .i64 m)
theorem Mx13.below {w w' : World} (h : Mx13 w) (hb : Below w.heap.size w w') : Mx13 w' := by
  obtain ⟨m, hm⟩ := h
  exact ⟨m, cell_later hb hm⟩
theorem indexU_any (s t : ByteArray) (w : World) (hs : s.size ≤ 100000) (hm : Mx13 w) : Calls Tryz.prog 17 #[.string s, .string t] w fun e w' => e = .returned (.int .i64 (indexU s.data.toList t.data.toList)) ∧ w' = w := by
  obtain ⟨m, hm⟩ := hm
  have k1 := Lib.hid (Tryz.strings_Index s t m w (by omega) hm)
  have h1 := Lib.index_ge s.data.toList t.data.toList
  have h2 := Lib.index_le s.data.toList t.data.toList
  rw [← size_eq] at h2
  unfold indexU
  generalize Lib.index s.data.toList t.data.toList = i at *
  clear hm
  go_enter Tryz.func17, Tryz.ntmps17
  go_wp2_with (first
    | (go_at_call 26; with_reducible refine (k1.out).mono ?_; rintro e w1 ⟨rfl, rfl⟩))
  go_ret
  exact ⟨rfl, rfl⟩
theorem app_toList (a b : ByteArray) : (a ++ b).data.toList = a.data.toList ++ b.data.toList := by
  have := ba_append a.data.toList b.data.toList
  have h := congrArg (fun x => x.data.toList) this
  simp only [ba_list] at h
  rw [← h]
  congr 1
set_option maxHeartbeats 2000000 in
set_option maxRecDepth 20000 in
theorem utilSubs_walk (s : ByteArray) (hs : s.size ≤ 140737488351232) (t : ByteArray) (ht0 : t.size ≤ 140737488351232) (n : UInt8) (w : World) (ht : Tab w) (hm : Mx13 w) :
    Calls Tryz.prog 4 #[.string s, .string t, .int .u8 (n.toNat : Int)] w fun e w' => e = .returned (.bool true) ∧ Below w.heap.size w w' := by
  have HT := Lib.hid ht
  have HM := Lib.hid hm
  clear ht hm
  by_cases hl : (500 : Int) < (s.size : Int) + (t.size : Int)
  · go_enter Tryz.func4, Tryz.ntmps4
    go_wp2_with (first
      | (go_at_call 9; refine (shown13_any _ HT.out).mono ?_; rintro e w1 ⟨rfl, hb1⟩; have HB1 := Lib.hid hb1; clear hb1))
    go_ret
    exact ⟨rfl, HB1.out⟩
  · have hn := UInt8.toNat_lt n
    obtain ⟨k, hk⟩ : ∃ k, n.toNat = k := ⟨_, rfl⟩
    rw [hk] at hn ⊢
    clear hk
    have hsz := size_eq s
    have htz := size_eq t
    obtain ⟨A, hA⟩ : ∃ A, ba (subU s.data.toList 1 (k : Int)) = A := ⟨_, rfl⟩
    obtain ⟨B, hB⟩ : ∃ B, ba (subU s.data.toList ((k : Int) + 1) 1000) = B := ⟨_, rfl⟩
    have hA2 : A.data.toList = s.data.toList.take k := by rw [← hA, ba_list, sub_first _ _ (by omega)]
    have hB2 : B.data.toList = s.data.toList.drop k := by rw [← hB, ba_list, sub_rest _ _ (by omega)]
    have zA : A.size ≤ s.size ∧ A.size ≤ k := by rw [size_eq A, hA2, List.length_take]; omega
    have zB : B.size ≤ s.size := by rw [size_eq B, hB2, List.length_drop]; omega
    have eAB : A ++ B = s := by
      apply ba_ext
      rw [app_toList, hA2, hB2, List.take_append_drop]
    have K1 : Hid (∀ W : World, Calls Tryz.prog 15 #[.string s, .int .i64 1, .int .i64 (k : Int)] W fun e w' => e = .returned (.string A) ∧ w' = W) := Lib.hid (fun W => hA ▸ subU_any s 1 (k : Int) W (by omega) (by omega) (by omega))
    have K2 : Hid (∀ W : World, Calls Tryz.prog 15 #[.string s, .int .i64 ((k : Int) + 1), .int .i64 1000] W fun e w' => e = .returned (.string B) ∧ w' = W) := Lib.hid (fun W => hB ▸ subU_any s ((k : Int) + 1) 1000 W (by omega) (by omega) (by omega))
    have hi := Lib.index_ge s.data.toList t.data.toList
    have hi2 := Lib.index_le s.data.toList t.data.toList
    have hj := index_both s.data.toList t.data.toList
    have hj2 := Lib.index_le (s.data.toList ++ t.data.toList) t.data.toList
    rw [List.length_append] at hj2
    have K4 : Hid (∀ W : World, Mx13 W → Calls Tryz.prog 17 #[.string s, .string t] W fun e w' => e = .returned (.int .i64 (indexU s.data.toList t.data.toList)) ∧ w' = W) := Lib.hid (fun W h => indexU_any s t W (by omega) h)
    have K5 : Hid (∀ W : World, Mx13 W → Calls Tryz.prog 17 #[.string (s ++ t), .string t] W fun e w' => e = .returned (.int .i64 (indexU (s.data.toList ++ t.data.toList) t.data.toList)) ∧ w' = W) := Lib.hid (fun W h => by
      have := indexU_any (s ++ t) t W (by rw [ByteArray.size_append]; omega) h
      rw [app_toList] at this
      exact this)
    unfold indexU at K4 K5
    have hsub : 0 ≤ Lib.index s.data.toList t.data.toList → ba (subU s.data.toList (Lib.index s.data.toList t.data.toList + 1) (t.size : Int)) = t := by
      intro h0
      have := (sub_at s.data.toList t.data.toList (Lib.index s.data.toList t.data.toList).toNat (by omega)).1
      rw [show (((Lib.index s.data.toList t.data.toList).toNat : Nat) : Int) = Lib.index s.data.toList t.data.toList by omega, ← htz] at this
      rw [this]
      exact ba_ext rfl
    obtain ⟨i, hii⟩ : ∃ i, Lib.index s.data.toList t.data.toList + 1 = i := ⟨_, rfl⟩
    obtain ⟨j, hjj⟩ : ∃ j, Lib.index (s.data.toList ++ t.data.toList) t.data.toList + 1 = j := ⟨_, rfl⟩
    rw [hii] at K4 hsub
    rw [hjj] at K5
    have i0 : 0 ≤ i := by omega
    have i1 : i ≤ (s.size : Int) + 1 := by omega
    have j0 : 0 < j := by omega
    have j1 : j ≤ 100000 := by omega
    have eAB1 : (A ++ B).toList = s.toList := by rw [eAB]
    have eAB2 : ((A ++ B).toList == s.toList) = true := by rw [eAB]; simp
    have zA1 : (A.size : Int) ≤ (k : Int) := by omega
    by_cases hi0 : i = 0
    · clear hA hB hA2 hB2 hii hjj hi hi2 hj hj2 hsub hsz htz
      subst hi0
      go_enter Tryz.func4, Tryz.ntmps4
      go_wp2_with (first
        | (go_at_call 9; refine (shown13_any _ HT.out).mono ?_; rintro e w1 ⟨rfl, hb1⟩; have HB1 := Lib.hid hb1; have HM := Lib.hid (HM.out.below hb1); clear hb1)
        | (go_at_call 15; first
            | (with_reducible refine (K1.out _).mono ?_; rintro e w2 ⟨rfl, rfl⟩)
            | (with_reducible refine (K2.out _).mono ?_; rintro e w2 ⟨rfl, rfl⟩))
        | (go_at_call 17; first
            | (with_reducible refine (K4.out _ HM.out).mono ?_; rintro e w2 ⟨rfl, rfl⟩)
            | (with_reducible refine (K5.out _ HM.out).mono ?_; rintro e w2 ⟨rfl, rfl⟩)))
      go_ret
      exact ⟨rfl, HB1.out⟩
    · have K3 : Hid (∀ W : World, Calls Tryz.prog 15 #[.string s, .int .i64 i, .int .i64 (t.size : Int)] W fun e w' => e = .returned (.string t) ∧ w' = W) := Lib.hid (fun W => by
        have := subU_any s i (t.size : Int) W (by omega) (by omega) (by omega)
        rw [hsub (by omega)] at this
        exact this)
      have i2 : 0 < i := by omega
      have i3 : (i == 0) = false := beq_eq_false_iff_ne.2 hi0
      clear hA hB hA2 hB2 hii hjj hi hi2 hj hj2 hsub hsz htz
      go_enter Tryz.func4, Tryz.ntmps4
      go_wp2_with (first
        | (go_at_call 9; refine (shown13_any _ HT.out).mono ?_; rintro e w1 ⟨rfl, hb1⟩; have HB1 := Lib.hid hb1; have HM := Lib.hid (HM.out.below hb1); clear hb1)
        | (go_at_call 15; first
            | (with_reducible refine (K1.out _).mono ?_; rintro e w2 ⟨rfl, rfl⟩)
            | (with_reducible refine (K2.out _).mono ?_; rintro e w2 ⟨rfl, rfl⟩)
            | (with_reducible refine (K3.out _).mono ?_; rintro e w2 ⟨rfl, rfl⟩))
        | (go_at_call 17; first
            | (with_reducible refine (K4.out _ HM.out).mono ?_; rintro e w2 ⟨rfl, rfl⟩)
            | (with_reducible refine (K5.out _ HM.out).mono ?_; rintro e w2 ⟨rfl, rfl⟩)))
      go_ret
      exact ⟨rfl, HB1.out⟩
end Go.Proofs.YtjdollmfjflkoaaGreatDoor
namespace Go.Proofs.YtjdollmfjflkoaaGreatDoor
open Go.ChangeShapes Go.WideShapes Go.ChangeAt Go.RowKit

theorem mx13_of_shaped {W : World} (h : W.ShapedOpen Tryz.prog) : Mx13 W :=
  cell_of_shapedOpen_int (zero := #[.int .i64 0]) (t := 3) h (of_decide_eq_true (by kernel_rfl)) (by kernel_rfl) rfl (by kernel_rfl) (by kernel_rfl) Tryz.underlying3
theorem returnsInHanded_shaped_and {H : Type} {enc : TypeId × Value → H} {a : Assume} {C : Checked} {os : Os} {f : FuncId} {fn : Func} {s : ChangeSpec} {conds : List PathCond} {apart fresh handsOn again : Bool} {X : World → Array Value → Prop}
    (hX : ∀ (w w' : World) (args : Array Value), w.heap = w'.heap → X w args → X w' args)
    (own : ownKnob C.prog.godebug = none) (started : os.Started) (noInit : C.prog.inits.idxOf? f = none) (hfn : C.prog.funcs[f]? = some fn)
    (witness : ∃ (w : World) (tape : Tape) (i : Input), w.os = os ∧ (w.forCall tape i).Shaped C.prog ∧ i.vars = [] ∧ Input.okWide C.prog (w.forCall tape i) .any w.heap.size f i ∧
      ((s.pre enc C.prog fn conds apart (w.forCall tape i).memory i.args ∧ X (w.forCall tape i).memory i.args) ∧ sizedMet enc C.prog fn (OpenSpec.ofChange s) apart (w.forCall tape i).memory i.args) ∧ a.holds C.prog (lone (Frame.enter C.prog f i.args .normal) [] (w.forCall tape i)))
    (contract : ∀ (W : World) (base : Nat) (args : Array Value) (ds gs : List (DataW H)) (before : List MemPlace),
      (∀ (j : Nat) t v, fn.params[j]? = some t → args[j]? = some v → Value.okWide C.prog W .any base t v) →
      DataW.Whole enc C.prog fn.params.toList s.vars apart W args.toList ds gs before →
      conds.all (PathCond.test C.prog ⟨fn.params.toList, ds, s.plain.varTypes C.prog, gs⟩) = true →
      (DataW.weightsEach C.prog (fn.params.toList ++ s.plain.varTypes C.prog) (ds ++ gs)).all (· ≤ reachBytes) = true → X W args → W.ShapedOpen C.prog →
      a.holds C.prog (lone (Frame.enter C.prog f args .normal) [] W) →
      Calls C.prog f args W fun e W' => ∃ v, e = .returned v ∧ s.post enc C.prog fn apart fresh handsOn again W args v W') :
    ReturnsInHanded a C os f .any (fun w args => (s.pre enc C.prog fn conds apart w args ∧ X w args) ∧ sizedMet enc C.prog fn (OpenSpec.ofChange s) apart w args) (s.post enc C.prog fn apart fresh handsOn again) := by
  refine returnsInHanded_of_calls own started noInit witness ?_
  intro w tape i _ hsh _ hok hpre hholds
  obtain ⟨_, _, _, fn', hfn', _, _, _, _, hval⟩ := hok
  obtain rfl : fn' = fn := Option.some.inj (hfn'.symm.trans hfn)
  obtain ⟨⟨⟨ds, gs, before, hw, hc⟩, hx⟩, hz⟩ := hpre
  refine (contract (w.forCall tape i) w.heap.size i.args ds gs before hval (DataW.Whole.of_heap (w' := w.forCall tape i) (by rfl) hw) hc (hz.weights hw) (hX _ _ _ (by rfl) hx) hsh hholds).mono fun e W' ⟨v, he, hp⟩ => ?_
  subst he
  exact ChangeSpec.post_blind hp
end Go.Proofs.YtjdollmfjflkoaaGreatDoor
