/- The given statement UtilTexts, proved: at every input the Go function returns true, and each argument reads afterwards as before. Conditions: the row's own (the listed tables of the library hold what their text lays when the call begins; the card ties that to the program's text). -/
import Derived.Test.YtjdollmfjflkoaaGreatDoorCards
import Derived.Test.YtjdollmfjflkoaaGreatDoorTie
import Derived.Test.YtjdollmfjflkoaaGreatDoorB2
import Derived.Test.YtjdollmfjflkoaaGreatDoorB10
import Derived.Test.YtjdollmfjflkoaaGreatDoorB15
import Derived.Test.YtjdollmfjflkoaaGreatDoorB21
namespace Go.Proofs.YtjdollmfjflkoaaGreatDoor.UtilTexts
open Go.ChangeShapes Go.WideShapes Go.ChangeAt Go.RowKit
open Go.ChangeMaps (open_string shut_string)

/-- It reads again behind a call that laid new memory alone. -/
theorem texts_again {H : Type} {enc : TypeId × Value → H} {W W' : World} {v : Value} {d : DataW H} {p : List MemPlace} {sp : Nat → Bool} (h : DataW.Trod enc Tryz.prog W 0 (fun _ => true) true 23 v d p)
    (hlt : ∀ q ∈ p, q.block < W.heap.size) (hb : Below W.heap.size W W') (hs : ∀ q ∈ p, sp q.block = true) : DataW.Trod enc Tryz.prog W' 0 sp true 23 v d p :=
  Go.WideElems.Trod_stays laidOut (by kernel_rfl) (of_decide_eq_true (by kernel_rfl)) h (fun q hq => hb.same (hlt q hq)) hs
set_option maxRecDepth 100000 in
theorem lifted (os : Os) (started : os.Started) (H : Type) (enc : TypeId × Value → H) :
    ReturnsInHanded {} Tryz.checked os 3 .any (fun w args => (Rows.utilTextsSpec.pre enc Tryz.prog Tryz.f3 [] false w args ∧ laidMetH Tryz.prog laidAll w) ∧ sizedMet enc Tryz.prog Tryz.f3 (OpenSpec.ofChange Rows.utilTextsSpec) false w args)
      (Rows.utilTextsSpec.post enc Tryz.prog Tryz.f3 false true false false) := by
  refine returnsInHanded_shaped_and (C := Tryz.checked) (X := fun w _ => laidMetH Tryz.prog laidAll w) (fun _ _ _ hh h => h.of_heap hh) own started (by kernel_rfl) Tryz.func3
    (ChangeSpec.witness_shaped (enc := enc) (C := Tryz.checked) (os := os) (X := fun w _ => laidMetH Tryz.prog laidAll w) false (World.laidAll Tryz.prog os laidAll) #[.agg #[.string ByteArray.empty, .string ByteArray.empty, .int .i64 0, .int .i64 0, .bool false]] 8 (World.laidAll_os _ _ _) (World.shaped_of_ZipB (by kernel_rfl) (by kernel_rfl)) (by kernel_rfl) (by kernel_rfl) (by kernel_rfl) (door_met os _)) ?_
  intro W base args ds gs before hval0 hW _ hsz0 hL hsh _
  have hval : ∀ (j : Nat) t v, Tryz.f3.params[j]? = some t → args[j]? = some v → Value.okWide Tryz.prog W .any base t v := hval0
  have hW' := hW
  obtain ⟨p, q, hA0, hV, rfl, hfz, hnd⟩ := hW
  have hA : DataW.TrodAll enc Tryz.prog W 0 (fun _ => true) true Tryz.f3.params.toList args.toList ds p := hA0
  rw [Tryz.params3] at hA hval
  have hsz : (DataW.weightsEach Tryz.prog (Tryz.f3.params.toList ++ Rows.utilTextsSpec.plain.varTypes Tryz.prog) (ds ++ gs)).all (· ≤ reachBytes) = true := hsz0
  clear hsz0
  rw [Tryz.params3] at hsz
  obtain ⟨v0, vs0, d0, ds0, p0, q0, hargs, rfl, rfl, h0, r0⟩ := trodAll_cons hA
  obtain ⟨rfl, rfl, rfl⟩ := trodAll_nil r0
  obtain rfl : args = #[v0] := by cases args; simp_all
  obtain ⟨rfl, rfl⟩ := trodVars_none hV
  have z0 : ∀ n ∈ DataW.weights Tryz.prog 23 d0, n ≤ reachBytes := fun n hn => by
    have := List.all_eq_true.1 hsz _ (DataW.weights_mem_each (j := 0) (t := 23) (d := d0) rfl rfl n hn)
    simpa using this
  obtain ⟨x0, x1, x2, x3, x4, y0, y1, y2, y3, y4, m, rfl, rfl, t0, t1, t2, t3, t4⟩ := open_agg5 Tryz.underlying23 (by kernel_rfl) (by kernel_rfl) (hval 0 23 v0 rfl rfl) h0
  obtain ⟨s0, e0, u0, _⟩ := DataW.trod_string Tryz.underlying9 t0
  obtain ⟨s1, e1, u1, _⟩ := DataW.trod_string Tryz.underlying9 t1
  obtain ⟨i2, e2, _, g2⟩ := DataW.trod_int Tryz.underlying2 t2
  obtain ⟨i3, e3, _, g3⟩ := DataW.trod_int Tryz.underlying2 t3
  obtain ⟨b4, e4, _⟩ := DataW.trod_bool Tryz.underlying4 t4
  obtain rfl : x0 = .string s0 := by simpa using e0
  obtain rfl : x1 = .string s1 := by simpa using e1
  obtain rfl : x2 = .int .i64 i2 := by simpa using e2
  obtain rfl : x3 = .int .i64 i3 := by simpa using e3
  obtain rfl : x4 = .bool b4 := by simpa using e4
  have zz : ∀ n ∈ DataW.weightsEach Tryz.prog [9, 9, 2, 2, 4] [y0.1, y1.1, y2.1, y3.1, y4.1], n ≤ reachBytes := fun n hn => z0 n (by simpa [DataW.weights, Tryz.underlying23] using hn)
  have hr : reachBytes = 140737488351232 := by decide
  have l0 : s0.size ≤ 140737488351232 := by
    have := zz s0.data.toList.length (DataW.weights_mem_each (j := 0) (t := 9) (d := y0.1) rfl rfl _ (by rw [u0]; simp [DataW.weights]))
    rw [hr] at this
    exact this
  have l1 : s1.size ≤ 140737488351232 := by
    have := zz s1.data.toList.length (DataW.weights_mem_each (j := 1) (t := 9) (d := y1.1) rfl rfl _ (by rw [u1]; simp [DataW.weights]))
    rw [hr] at this
    exact this
  clear hA0 hval0
  refine (utilTexts_walk s0 l0 s1 l1 i2 (i64_of_wf g2) i3 (i64_of_wf g3) b4 W (tab_of_laid hL) (mx13_of_shaped hsh)).mono fun e W' ⟨he, hg⟩ => ?_
  subst he
  exact ⟨_, rfl, post_of_below (pa := _) (pv := []) hW' (fun _ _ _ => (trodAll_cons_mk (shut_bool Tryz.underlying4 _) trodAll_mk0)) (fun sp hsp => (trodAll_cons_mk (texts_again h0 (fun q hq => hW'.lt q (by simp [hq])) hg (fun q hq => hsp q (by simp [hq]))) trodAll_mk0)) (fun _ _ => rfl) rfl hg (ok_one (by kernel_rfl) rfl (okWide_bool_mk Tryz.underlying4 _))⟩

theorem over : Rows.utilTextsRow.holds Tryz.pinned (OpenSpec.ofChange Rows.utilTextsSpec) :=
  OpenClaim.holds_of_wide 3 Tryz.f3 rfl rfl rfl rfl rfl rfl rfl ⟨rfl, rfl, rfl, rfl, rfl⟩ rfl rfl rfl rfl rfl (by kernel_rfl) Tryz.func3 (by kernel_rfl)
    (of_decide_eq_true (by kernel_rfl)) (by unfold Func.isWrapper; first | (rw [if_pos (by decide +kernel)]; kernel_rfl) | (rw [if_neg (by decide +kernel)]; exact ⟨rfl, rfl⟩))
    (fun os started H enc _ => lifted os started H enc)

/-- The given statement. -/
theorem proved : Rows.UtilTextsCardSaid :=
  Claim7.holds_tied_plain_at .later [] [.data, .data, .data, .data, .pinned] true Rows.utilTextsCard.stood.harness true
    over (fun _ h => by cases h) (by kernel_rfl) (fun _ h => by cases h) utilTexts_row_tie rfl ⟨rfl, rfl⟩ (by kernel_rfl) rfl
    (fun f fn hf hfn => by
      obtain rfl : f = 3 := Option.some.inj ((show Tryz.prog.funcNamed "dragoman/dragomanlaw13.UtilTexts" = some 3 by kernel_rfl).symm.trans hf) |>.symm
      obtain rfl : fn = Tryz.f3 := (Option.some.inj (Tryz.func3.symm.trans hfn)).symm
      exact ⟨by kernel_rfl, fun j t ht => by
        rw [Tryz.params3] at ht
        have hm : t ∈ [23] := by simpa using Array.mem_of_getElem? ht
        have hall : ([23].all fun u => !Tryz.prog.wantsStandIn u) = true := by kernel_rfl
        exact (show Tryz.prog.wantsStandIn t = false by simpa using List.all_eq_true.1 hall t hm)⟩)
    (by kernel_rfl)
#print axioms proved
end Go.Proofs.YtjdollmfjflkoaaGreatDoor.UtilTexts
