/- The given statement ArithSets, proved: at every input the Go function returns true, and each argument reads afterwards as before. Conditions: the row's own (the listed variables hold what their text lays when the call begins; the card ties that to the program's text; the input within the form's own reach). -/
import Derived.Test.YtaaecgglocgcmaaDoorCards
import Derived.Test.YtaaecgglocgcmaaDoorTie
import Derived.Test.YtaaecgglocgcmaaDoorB1
import Derived.Test.YtaaecgglocgcmaaDoorB4
import Derived.Lib.SmallJoins
namespace Go.Proofs.YtaaecgglocgcmaaDoor.ArithSets
open Go.ChangeShapes Go.WideShapes Go.ChangeAt Go.RowKit
open Go.ChangeMaps (open_string shut_string)

/-- It reads again behind a call that laid new memory alone. -/
theorem sets_again {H : Type} {enc : TypeId × Value → H} {W W' : World} {v : Value} {d : DataW H} {p : List MemPlace} {sp : Nat → Bool} (h : DataW.Trod enc Tryd.prog W 0 (fun _ => true) true 37 v d p)
    (hlt : ∀ q ∈ p, q.block < W.heap.size) (hb : Below W.heap.size W W') (hs : ∀ q ∈ p, sp q.block = true) : DataW.Trod enc Tryd.prog W' 0 sp true 37 v d p :=
  Go.WideElems.Trod_stays laidOutA (by kernel_rfl) (of_decide_eq_true (by kernel_rfl)) h (fun q hq => hb.same (hlt q hq)) hs
set_option maxRecDepth 100000 in
theorem lifted (os : Os) (started : os.Started) (H : Type) (enc : TypeId × Value → H) :
    ReturnsInHanded {} Tryd.checked os 5 .any (fun w args => (Rows.arithSetsSpec.pre enc Tryd.prog Tryd.f5 [] false w args ∧ laidMetH Tryd.prog laidAr w) ∧ sizedMet enc Tryd.prog Tryd.f5 (OpenSpec.ofChange Rows.arithSetsSpec) false w args)
      (Rows.arithSetsSpec.post enc Tryd.prog Tryd.f5 false true false false) := by
  refine returnsInHanded_of_change_and (C := Tryd.checked) (X := fun w _ => laidMetH Tryd.prog laidAr w) (fun _ _ _ hh h => h.of_heap hh) ownA started (by kernel_rfl) Tryd.func5
    (ChangeSpec.witness_shaped (enc := enc) (C := Tryd.checked) (os := os) (X := fun w _ => laidMetH Tryd.prog laidAr w) false (World.laidAll Tryd.prog os laidAr) #[.agg #[.slice none 0 0, .string ByteArray.empty, .string ByteArray.empty, .int .i64 0]] 8 (World.laidAll_os _ _ _) (World.shaped_of_ZipB (by kernel_rfl) (by kernel_rfl)) (by kernel_rfl) (by kernel_rfl) (by kernel_rfl) (door_metAr os _)) ?_
  intro W base args ds gs before hval0 hW _ hsz0 hL _
  have hval : ∀ (j : Nat) t v, Tryd.f5.params[j]? = some t → args[j]? = some v → Value.okWide Tryd.prog W .any base t v := hval0
  have hW' := hW
  obtain ⟨p, q, hA0, hV, rfl, hfz, hnd⟩ := hW
  have hA : DataW.TrodAll enc Tryd.prog W 0 (fun _ => true) true Tryd.f5.params.toList args.toList ds p := hA0
  rw [Tryd.params5] at hA hval
  have hsz : (DataW.weightsEach Tryd.prog (Tryd.f5.params.toList ++ Rows.arithSetsSpec.plain.varTypes Tryd.prog) (ds ++ gs)).all (· ≤ reachBytes) = true := hsz0
  clear hsz0
  rw [Tryd.params5] at hsz
  obtain ⟨v0, vs0, d0, ds0, p0, q0, hargs, rfl, rfl, h0, r0⟩ := trodAll_cons hA
  obtain ⟨rfl, rfl, rfl⟩ := trodAll_nil r0
  obtain rfl : args = #[v0] := by cases args; simp_all
  obtain ⟨rfl, rfl⟩ := trodVars_none hV
  have z0 : ∀ n ∈ DataW.weights Tryd.prog 37 d0, n ≤ reachBytes := fun n hn => by
    have := List.all_eq_true.1 hsz _ (DataW.weights_mem_each (j := 0) (t := 37) (d := d0) rfl rfl n hn)
    simpa using this
  obtain ⟨x0, x1, x2, x3, y0, y1, y2, y3, m, rfl, rfl, rfl, t0, t1, t2, t3⟩ := Go.Joins.open_agg4 Tryd.underlying37 (by kernel_rfl) (by kernel_rfl) (hval 0 37 v0 rfl rfl) h0
  have t0 : DataW.trod enc Tryd.prog W 0 (fun _ => true) true m 22 [x0] = some y0 := t0
  obtain ⟨a0, n0, c0, f0⟩ := Go.Joins.slice_form Tryd.underlying22 t0
  obtain rfl : x0 = .slice a0 n0 c0 := by simpa using f0
  obtain ⟨s1, e1, u1, _⟩ := DataW.trod_string Tryd.underlying9 t1
  obtain ⟨s2, e2, u2, _⟩ := DataW.trod_string Tryd.underlying9 t2
  obtain ⟨i3, e3, _, _⟩ := DataW.trod_int Tryd.underlying3 t3
  obtain rfl : x1 = .string s1 := by simpa using e1
  obtain rfl : x2 = .string s2 := by simpa using e2
  obtain rfl : x3 = .int .i64 i3 := by simpa using e3
  have zz : ∀ n ∈ DataW.weightsEach Tryd.prog [22, 9, 9, 3] [y0.1, y1.1, y2.1, y3.1], n ≤ reachBytes := fun n hn => z0 n (by simpa [DataW.weights, Tryd.underlying37] using hn)
  have hr : reachBytes = 140737488351232 := by decide
  have l1 : s1.size ≤ 140737488351232 := by
    have := zz s1.data.toList.length (DataW.weights_mem_each (j := 1) (t := 9) (d := y1.1) rfl rfl _ (by rw [u1]; simp [DataW.weights]))
    rw [hr] at this
    exact this
  have l2 : s2.size ≤ 140737488351232 := by
    have := zz s2.data.toList.length (DataW.weights_mem_each (j := 2) (t := 9) (d := y2.1) rfl rfl _ (by rw [u2]; simp [DataW.weights]))
    rw [hr] at this
    exact this
  obtain ⟨ao0, cap0, xs0, e0, g0, k0, b0⟩ := open_varsS (enc := enc) (W := W) (d := y0.1) (p := y0.2) ⟨_, _, _, rfl⟩ ⟨m, t0⟩ (fun n hn => zz n (DataW.weights_mem_each (j := 0) (t := 22) (d := y0.1) rfl rfl n hn))
  rw [e0] at g0 h0 hW'
  rw [e0]
  clear hA0 hval0
  refine (arithSets_walk W ao0 cap0 xs0 g0 k0 b0 s1 s2 l1 l2 i3 (marks_of_laid hL)).mono fun e W' ⟨he, hg⟩ => ?_
  subst he
  exact ⟨_, rfl, post_of_belowA (pa := _) (pv := []) hW' (fun _ _ _ => (trodAll_cons_mk (shut_bool Tryd.underlying4 _) trodAll_mk0)) (fun sp hsp => (trodAll_cons_mk ((sets_again h0 (fun q hq => hW'.lt q (by simp [hq])) hg (fun q hq => hsp q (by simp [hq])))) trodAll_mk0)) (fun _ _ => rfl) rfl hg (ok_one (by kernel_rfl) rfl (okWide_bool_mk Tryd.underlying4 _))⟩

theorem over : Rows.arithSetsRow.holds Tryd.pinned (OpenSpec.ofChange Rows.arithSetsSpec) :=
  OpenClaim.holds_of_wide 5 Tryd.f5 rfl rfl rfl rfl rfl rfl rfl ⟨rfl, rfl, rfl, rfl, rfl⟩ rfl rfl rfl rfl rfl (by kernel_rfl) Tryd.func5 (by kernel_rfl)
    (of_decide_eq_true (by kernel_rfl)) (by unfold Func.isWrapper; first | (rw [if_pos (by decide +kernel)]; kernel_rfl) | (rw [if_neg (by decide +kernel)]; exact ⟨rfl, rfl⟩))
    (fun os started H enc _ => lifted os started H enc)

/-- The given statement. -/
theorem proved : Rows.ArithSetsCardSaid :=
  Claim7.holds_tied_plain_at .later [] [.data, .data, .pinned] true Rows.arithSetsCard.stood.harness true
    over (fun _ h => by cases h) (by kernel_rfl) (fun _ h => by cases h) arithSets_row_tie rfl ⟨rfl, rfl⟩ (by kernel_rfl) rfl
    (fun f fn hf hfn => by
      obtain rfl : f = 5 := Option.some.inj ((show Tryd.prog.funcNamed "dragoman/dragomanlaw10.ArithSets" = some 5 by kernel_rfl).symm.trans hf) |>.symm
      obtain rfl : fn = Tryd.f5 := (Option.some.inj (Tryd.func5.symm.trans hfn)).symm
      exact ⟨by kernel_rfl, fun j t ht => by
        rw [Tryd.params5] at ht
        have hm : t ∈ [37] := by simpa using Array.mem_of_getElem? ht
        have hall : ([37].all fun u => !Tryd.prog.wantsStandIn u) = true := by kernel_rfl
        exact (show Tryd.prog.wantsStandIn t = false by simpa using List.all_eq_true.1 hall t hm)⟩)
    (by kernel_rfl)
#print axioms proved
end Go.Proofs.YtaaecgglocgcmaaDoor.ArithSets
