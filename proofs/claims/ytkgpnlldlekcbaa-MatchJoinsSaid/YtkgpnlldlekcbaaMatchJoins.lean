/- The given statement MatchJoins, proved: at every input the Go function returns true, and each argument reads afterwards as before. No condition. -/
import Derived.Test.YtkgpnlldlekcbaaM8
import Derived.Test.YtkgpnlldlekcbaaM32
import Derived.Lib.SmallJoins
namespace Go.Proofs.Ytkgpnlldlekcbaa.MatchJoins
open Go.ChangeShapes Go.WideShapes Go.ChangeAt Go.RowKit
open Go.ChangeMaps (open_string shut_string)

/-- It reads again behind a call that laid new memory alone. -/
theorem joins_again {H : Type} {enc : TypeId × Value → H} {W W' : World} {v : Value} {d : DataW H} {p : List MemPlace} {sp : Nat → Bool} (h : DataW.Trod enc Try.prog W 0 (fun _ => true) true 38 v d p)
    (hlt : ∀ q ∈ p, q.block < W.heap.size) (hb : Below W.heap.size W W') (hs : ∀ q ∈ p, sp q.block = true) : DataW.Trod enc Try.prog W' 0 sp true 38 v d p :=
  Go.WideElems.Trod_stays laidOut (by kernel_rfl) (of_decide_eq_true (by kernel_rfl)) h (fun q hq => hb.same (hlt q hq)) hs
set_option maxRecDepth 100000 in
theorem lifted (os : Os) (started : os.Started) (H : Type) (enc : TypeId × Value → H) :
    ReturnsInHanded {} Try.checked os 4 .any (Rows.matchJoinsSpec.pre6 enc Try.prog Try.f4 Rows.matchJoinsRow.domain false) (Rows.matchJoinsSpec.post enc Try.prog Try.f4 false true false false) := by
  refine returnsInHanded_of_change_shaped (C := Try.checked) own started (by kernel_rfl) Try.func4
    (ChangeSpec.witness6 (enc := enc) (C := Try.checked) false ⟨#[], #[.agg #[.slice none 0 0, .slice none 0 0, .string ByteArray.empty, .int .i64 0]], []⟩ 8 (by kernel_rfl) (by kernel_rfl) (by kernel_rfl) (by kernel_rfl)) ?_
  intro W base args ds gs before hval0 hW _ hsz0 _ _
  have hval : ∀ (j : Nat) t v, Try.f4.params[j]? = some t → args[j]? = some v → Value.okWide Try.prog W .any base t v := hval0
  have hW' := hW
  obtain ⟨p, q, hA0, hV, rfl, hfz, hnd⟩ := hW
  have hA : DataW.TrodAll enc Try.prog W 0 (fun _ => true) true Try.f4.params.toList args.toList ds p := hA0
  rw [Try.params4] at hA hval
  have hsz : (DataW.weightsEach Try.prog (Try.f4.params.toList ++ Rows.matchJoinsSpec.plain.varTypes Try.prog) (ds ++ gs)).all (· ≤ reachBytes) = true := hsz0
  clear hsz0
  rw [Try.params4] at hsz
  obtain ⟨v0, vs0, d0, ds0, p0, q0, hargs, rfl, rfl, h0, r0⟩ := trodAll_cons hA
  obtain ⟨rfl, rfl, rfl⟩ := trodAll_nil r0
  obtain rfl : args = #[v0] := by cases args; simp_all
  obtain ⟨rfl, rfl⟩ := trodVars_none hV
  obtain ⟨x0, x1, x2, x3, y0, y1, y2, y3, m, rfl, rfl, rfl, t0, t1, t2, t3⟩ := Go.Joins.open_agg4 Try.underlying38 (by kernel_rfl) (by kernel_rfl) (hval 0 38 v0 rfl rfl) h0
  have t0 : DataW.trod enc Try.prog W 0 (fun _ => true) true m 22 [x0] = some y0 := t0
  have t1 : DataW.trod enc Try.prog W 0 (fun _ => true) true m 22 [x1] = some y1 := t1
  obtain ⟨a0, n0, c0, f0⟩ := Go.Joins.slice_form Try.underlying22 t0
  obtain ⟨a1, n1, c1, f1⟩ := Go.Joins.slice_form Try.underlying22 t1
  obtain rfl : x0 = .slice a0 n0 c0 := by simpa using f0
  obtain rfl : x1 = .slice a1 n1 c1 := by simpa using f1
  obtain ⟨ao0, cap0, ts0, e0, _, g0⟩ := open_resS (enc := enc) (W := W) (d := y0.1) (p := y0.2) ⟨_, _, _, rfl⟩ ⟨m, t0⟩
  obtain ⟨ao1, cap1, ts1, e1, _, g1⟩ := open_resS (enc := enc) (W := W) (d := y1.1) (p := y1.2) ⟨_, _, _, rfl⟩ ⟨m, t1⟩
  obtain ⟨s, e2, _, _⟩ := DataW.trod_string Try.underlying9 t2
  obtain ⟨f, e3, _, _⟩ := DataW.trod_int Try.underlying3 t3
  obtain rfl : x2 = .string s := by simpa using e2
  obtain rfl : x3 = .int .i64 f := by simpa using e3
  rw [e0] at g0 h0 hW'
  rw [e1] at g1 h0 hW'
  rw [e0, e1]
  clear hA0 hval0
  refine (matchJoins_walk W ao0 cap0 ts0 g0 ao1 cap1 ts1 g1 s f).mono fun e W' ⟨he, hg⟩ => ?_
  subst he
  exact ⟨_, rfl, post_of_below (pa := _) (pv := []) hW' (fun _ _ _ => (trodAll_cons_mk (shut_bool Try.underlying4 _) trodAll_mk0)) (fun sp hsp => (trodAll_cons_mk ((joins_again h0 (fun q hq => hW'.lt q (by simp [hq])) hg (fun q hq => hsp q (by simp [hq])))) trodAll_mk0)) (fun _ _ => rfl) rfl hg (ok_one (by kernel_rfl) rfl (okWide_bool_mk Try.underlying4 _))⟩

/-- The given statement. -/
theorem proved : Rows.MatchJoinsSaid :=
  OpenClaim.holds_of_wide 4 Try.f4 rfl rfl rfl rfl rfl rfl rfl ⟨rfl, rfl, rfl, rfl, rfl⟩ rfl rfl rfl rfl rfl (by kernel_rfl) Try.func4 (by kernel_rfl)
    (of_decide_eq_true (by kernel_rfl)) (by unfold Func.isWrapper; first | (rw [if_pos (by decide +kernel)]; kernel_rfl) | (rw [if_neg (by decide +kernel)]; exact ⟨rfl, rfl⟩))
    (fun os started H enc _ => lifted os started H enc)
#print axioms proved
end Go.Proofs.Ytkgpnlldlekcbaa.MatchJoins
