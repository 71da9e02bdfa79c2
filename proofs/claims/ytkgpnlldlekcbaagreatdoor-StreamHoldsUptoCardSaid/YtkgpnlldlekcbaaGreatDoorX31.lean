/- Packed texts: StCommands, StCmdAny, StDo. What each of them proves stands above its theorems; the conditions stand in these. -/
import Derived.Deep.RegionHeld3
import Derived.Test.YtkgpnlldlekcbaaGreatDoorX29
import Derived.Test.YtkgpnlldlekcbaaGreatDoorX30
namespace Go.Proofs.YtkgpnlldlekcbaaGreatDoor
open Go.RowKit Go.Lib Go.Maps
attribute [local go_sem] Oper.semAt_some

/-- A method bound to a run's block. -/
def mthV (p k : Nat) : Value := .func (.func k) #[.pointer (some ⟨p, 0, none⟩)] #[]
def mthR (p : Nat) (v : Value) : Option (DataW Unit × List MemPlace) := match v with
  | .func (.func k) ⟨[.pointer (some ⟨q, 0, none⟩)]⟩ ⟨[]⟩ => if q = p then some (.lit (.int .i64 (k : Int)), []) else none
  | .nilFunc => some (.lit (.int .i64 (-1)), [])
  | _ => none
theorem mthR_mk (p k : Nat) : mthR p (mthV p k) = some (.lit (.int .i64 (k : Int)), []) := by unfold mthR mthV; simp
theorem mthR_inv {p : Nat} {v : Value} {k : Nat} {ps : List MemPlace} (h : mthR p v = some (.lit (.int .i64 (k : Int)), ps)) : v = mthV p k := by
  unfold mthR at h
  split at h
  · rename_i j q
    split at h
    · rename_i hq
      have := congrArg Prod.fst (Option.some.inj h)
      have h3 : Lit.int .i64 (j : Int) = Lit.int .i64 (k : Int) := DataW.lit.inj this
      have h4 := (Lit.int.inj h3).2
      rw [hq, Int.ofNat.inj h4]; rfl
    · cases h
  · have := congrArg Prod.fst (Option.some.inj h)
    have h3 : Lit.int .i64 (-1) = Lit.int .i64 (k : Int) := DataW.lit.inj this
    have := (Lit.int.inj h3).2
    omega
  · cases h
theorem mthR_nil {p : Nat} {v : Value} {ps : List MemPlace} (h : mthR p v = some (.lit (.int .i64 (-1)), ps)) : v = .nilFunc := by
  unfold mthR at h
  split at h
  · rename_i j q
    split at h
    · have := congrArg Prod.fst (Option.some.inj h)
      have h3 : Lit.int .i64 (j : Int) = Lit.int .i64 (-1) := DataW.lit.inj this
      have := (Lit.int.inj h3).2
      omega
    · cases h
  · rfl
  · cases h
theorem u8_law9 : Keyed Tryz.prog 5 := int_keyed Tryz.underlying5
theorem u8_key9 (x : Int) (h : (Lit.int .u8 x).wf = true) : keyOf Tryz.prog 5 (.int .u8 x) = some (.int .u8 x) := keyOf_int_mk Tryz.underlying5 h
theorem zeroF9 (w : World) : (zeroValue 110).run Tryz.prog w = .ok .nilFunc w := by kernel_rfl
/-- An entry of a map's literal: its operation's place, its key, the slot of its function, that function's number. -/
structure InE where
  i : Nat
  x : Int
  t : Nat
  f : Nat
/-- What the map holds, where the entries of L are not laid yet. -/
def HalfD (F : Int → Option Nat) (L : List InE) (D : DataW Unit) : Prop := ∀ (x : Int) (z : DataW Unit), D.atKey (.int .u8 x) z = if L.any (fun e => e.x == x) = true then z else match F x with
  | some f => .lit (.int .i64 (f : Int))
  | none => z
/-- Which operations have come up: all but those of L, and the late ones. -/
def ListedOk (N : Nat) (late : List Nat) (L : List InE) (listed : Array Bool) : Prop := listed.size = N ∧ ∀ i, i < N → (listed.getD i true = false ↔ (L.any (fun e => e.i == i) = true ∨ i ∈ late))
theorem getD_set (l : Array Bool) (i j : Nat) (d : Bool) (hi : i < l.size) : (l.setIfInBounds i true).getD j d = if j = i then true else l.getD j d := by
  by_cases h : j = i
  · subst h
    rw [if_pos rfl, Array.getD_eq_getD_getElem?, Array.getElem?_setIfInBounds_self_of_lt hi]
    rfl
  · rw [if_neg h, Array.getD_eq_getD_getElem?, Array.getD_eq_getD_getElem?, Array.getElem?_setIfInBounds_ne (fun e => h e.symm)]
theorem filter_len : ∀ (L : List InE) {e : InE}, (L.map InE.i).Nodup → e ∈ L → (L.filter fun e' => e'.i != e.i).length + 1 = L.length
  | [], e, _, he => by cases he
  | d :: L, e, hn, he => by
    rw [List.map_cons, List.nodup_cons] at hn
    by_cases h : d.i = e.i
    · have h0 : (d.i != e.i) = false := by simp [h]
      have h1 : L.filter (fun e' => e'.i != e.i) = L := by
        rw [List.filter_eq_self]
        intro x hx
        have : x.i ≠ e.i := fun h2 => hn.1 (by rw [h, ← h2]; exact List.mem_map.2 ⟨x, hx, rfl⟩)
        simpa using this
      rw [List.filter_cons_of_neg (by simp [h]), h1, List.length_cons]
    · have h1 : e ∈ L := by
        rcases List.mem_cons.1 he with rfl | h2
        · exact absurd rfl h
        · exact h2
      rw [List.filter_cons_of_pos (by simpa using h), List.length_cons, List.length_cons, filter_len L hn.2 h1]
section
variable {P : Program} {md : Region.Mode} {ops : Array Oper} {Q : Exit → Act → World → Prop} {S : World → Prop}
/-- Entries of a map's literal, in whatever order they are laid. -/
theorem ins_all (hS : ∀ w, S w) (T tk te : TypeId) (K : Keyed P tk) (ht : P.underlying T = some (.map tk te)) (p b : Nat) (a : Act) (m : Operand) (hm : a.eval m = .map (some b)) (N : Nat) (late : List Nat) (F : Int → Option Nat) (w0 : World) (hb0 : w0.heap.size ≤ b) (fuel : Nat)
    (hfin : ∀ (listed : Array Bool) (w : World) (D : DataW Unit), ListedOk N late [] listed → w.ownsMap P tk (mthR p) b 12 D → HalfD F [] D → Below w0.heap.size w0 w → wpAnyH P md ops Q S fuel listed a w) :
    ∀ (k : Nat) (L : List InE) (listed : Array Bool) (w : World) (D : DataW Unit) (n : Nat), L.length = k → ListedOk N late L listed → n + k ≤ 12 → w.ownsMap P tk (mthR p) b n D → HalfD F L D → Below w0.heap.size w0 w →
      (∀ e ∈ L, (∃ o, ops[e.i]? = some o ∧ o.guard = none ∧ o.dst = none ∧ o.op = Op.insert T m (.const (.int .u8 e.x)) (.tmp e.t) ∧ o.after.all (fun r => !Region.binds md r || (r.on != e.i && (listed.getD r.on false))) = true) ∧ e.i < N ∧ a.eval (.tmp e.t) = mthV p e.f ∧ keyOf P tk (.int .u8 e.x) = some (.int .u8 e.x) ∧ F e.x = some e.f ∧ (∀ i ∈ late, (ops[i]?).map (fun o' => o'.after.any (fun r => Region.binds md r && r.on == e.i)) = some true)) →
      (∀ e ∈ L, ∀ e' ∈ L, e.i = e'.i ↔ e.x = e'.x) → (L.map InE.i).Nodup → wpAnyH P md ops Q S (k + fuel) listed a w := by
  intro k
  induction k with
  | zero =>
    intro L listed w D n hk hl hn ho hD hb _ _ _
    obtain rfl : L = [] := List.eq_nil_of_length_eq_zero hk
    rw [Nat.zero_add]
    exact hfin listed w D hl (ho.mono (by omega)) hD hb
  | succ k ih =>
    intro L listed w D n hk hl hn ho hD hb hL hinj hnd
    obtain ⟨e0, he0⟩ : ∃ e, e ∈ L := List.exists_mem_of_length_pos (by omega)
    have hrd : ∀ i ∈ Region.ready md ops listed, ∃ e ∈ L, e.i = i := by
      intro i hi
      unfold Region.ready at hi
      rw [List.mem_filter] at hi
      obtain ⟨_, hi⟩ := hi
      rw [Bool.and_eq_true] at hi
      obtain ⟨h1, h2⟩ := hi
      have h1 : listed.getD i true = false := by simpa using h1
      have hiN : i < N := by
        by_cases h : i < listed.size
        · rw [← hl.1]; exact h
        · rw [Array.getD_eq_getD_getElem?, Array.getElem?_eq_none (by omega)] at h1; cases h1
      rcases (hl.2 i hiN).1 h1 with h3 | h3
      · obtain ⟨e, he, h4⟩ := List.any_eq_true.1 h3
        exact ⟨e, he, by simpa using h4⟩
      · exfalso
        have h5 := (hL e0 he0).2.2.2.2.2 i h3
        cases ho' : ops[i]? with
        | none => rw [ho'] at h5; cases h5
        | some o =>
          rw [ho'] at h5 h2
          have h5 : o.after.any (fun r => Region.binds md r && r.on == e0.i) = true := Option.some.inj h5
          have h2 : o.after.all (fun e => !Region.binds md e || listed.getD e.on false) = true := h2
          obtain ⟨r, hr, h6⟩ := Array.any_eq_true'.1 h5
          rw [Bool.and_eq_true, beq_iff_eq] at h6
          have h7 := (Array.all_eq_true'.1 h2) r hr
          rw [h6.1, h6.2] at h7
          have h8 : listed.getD e0.i true = false := (hl.2 e0.i (hL e0 he0).2.1).2 (.inl (List.any_eq_true.2 ⟨e0, he0, by simp⟩))
          have h9 : listed.getD e0.i false = false := by
            rw [Array.getD_eq_getD_getElem?] at h8 ⊢
            cases hx : listed[e0.i]? with
            | none => rfl
            | some v => rw [hx] at h8; exact h8
          rw [h9] at h7
          cases h7
    have hne : Region.ready md ops listed ≠ [] := by
      obtain ⟨⟨o, ho1, _, _, _, ho5⟩, h2, _⟩ := hL e0 he0
      refine List.ne_nil_of_mem (a := e0.i) ?_
      unfold Region.ready
      rw [List.mem_filter]
      have hlt : e0.i < ops.size := (Array.getElem?_eq_some_iff.1 ho1).1
      refine ⟨List.mem_range.2 hlt, ?_⟩
      rw [Bool.and_eq_true, ho1]
      refine ⟨?_, ?_⟩
      · rw [(hl.2 e0.i h2).2 (.inl (List.any_eq_true.2 ⟨e0, he0, by simp⟩))]; rfl
      · show o.after.all _ = true
        rw [Array.all_eq_true'] at ho5 ⊢
        intro r hr
        have := ho5 r hr
        cases hb : Region.binds md r with
        | false => rfl
        | true =>
          rw [hb] at this
          have h3 : (r.on != e0.i && listed.getD r.on false) = true := by simpa using this
          rw [Bool.and_eq_true] at h3
          simpa using h3.2
    rw [show k + 1 + fuel = (k + fuel) + 1 by omega]
    refine wpAnyH_all rfl hne fun i hi => ?_
    obtain ⟨e, he, rfl⟩ := hrd i hi
    obtain ⟨⟨o, ho1, ho2, ho3, ho4, ho5⟩, h2, h3, h4, h5, h6⟩ := hL e he
    refine wpOp_step ho1 fun K' hK => ?_
    have hw : Region.wanted o (yielded ops a.tmps) = true := by simp [Region.wanted, ho2]
    rw [if_pos hw]
    obtain ⟨w', hrun, r1, r2⟩ := ho.update K ht (by unfold maxLen; omega) h4 (mthR_mk p e.f)
    have hx : a.eval (.const (.int .u8 e.x)) = .int .u8 e.x := rfl
    have hnext : K' (a.put o.dst undef) w' := by
      refine hK _ _ ⟨hS _, ?_⟩
      rw [ho3]
      have hiN : e.i < listed.size := by rw [hl.1]; exact h2
      refine ih (L.filter fun e' => e'.i != e.i) (listed.setIfInBounds e.i true) w' _ (n + 1) ?_ ⟨by rw [Array.size_setIfInBounds]; exact hl.1, fun j hj => ?_⟩ (by omega) r1 ?_ (hb.grown r2 hb.size (fun c hc => by cases hc; exact hb0)) ?_ ?_ ?_
      · have := filter_len L hnd he
        omega
      · rw [getD_set _ _ _ _ hiN]
        by_cases hje : j = e.i
        · subst hje
          rw [if_pos rfl]
          constructor
          · intro h; cases h
          · rintro (h | h)
            · obtain ⟨e', he', h7⟩ := List.any_eq_true.1 h
              rw [List.mem_filter] at he'
              have h8 : e'.i = e.i := by simpa using h7
              simp [h8] at he'
            · exfalso
              have h7 := h6 e.i h
              rw [ho1] at h7
              have h7 : o.after.any (fun r => Region.binds md r && r.on == e.i) = true := Option.some.inj h7
              obtain ⟨r, hr, h8⟩ := Array.any_eq_true'.1 h7
              rw [Bool.and_eq_true] at h8
              have h9 := (Array.all_eq_true'.1 ho5) r hr
              rw [h8.1] at h9
              have h10 : (r.on != e.i && listed.getD r.on false) = true := by simpa using h9
              rw [Bool.and_eq_true] at h10
              have h11 := h10.1
              have h12 := h8.2
              simp at h11 h12
              exact h11 h12
        · rw [if_neg hje, hl.2 j hj]
          have h7 : (L.filter fun e' => e'.i != e.i).any (fun e' => e'.i == j) = L.any fun e' => e'.i == j := by
            rw [Bool.eq_iff_iff, List.any_eq_true, List.any_eq_true]
            constructor
            · rintro ⟨e', he', h⟩
              exact ⟨e', (List.mem_filter.1 he').1, h⟩
            · rintro ⟨e', he', h⟩
              refine ⟨e', List.mem_filter.2 ⟨he', ?_⟩, h⟩
              have h : e'.i = j := by simpa using h
              simp [h, hje]
          rw [h7]
      · intro x z
        by_cases hxe : x = e.x
        · subst hxe
          have h7 : (L.filter fun e' => e'.i != e.i).any (fun e' => e'.x == e.x) = false := by
            rw [List.any_eq_false]
            intro e' he' h
            rw [List.mem_filter] at he'
            have h8 : e'.x = e.x := by simpa using h
            have h9 := (hinj e' he'.1 e he).2 h8
            simp [h9] at he'
          rw [h7, if_neg (by simp), h5]
          exact atKey_put_same ho.isMap (by unfold WideAt.IsKeyLit; trivial) _ z
        · have h7 : (L.filter fun e' => e'.i != e.i).any (fun e' => e'.x == x) = L.any fun e' => e'.x == x := by
            rw [Bool.eq_iff_iff, List.any_eq_true, List.any_eq_true]
            constructor
            · rintro ⟨e', he', h⟩
              exact ⟨e', (List.mem_filter.1 he').1, h⟩
            · rintro ⟨e', he', h⟩
              refine ⟨e', List.mem_filter.2 ⟨he', ?_⟩, h⟩
              have h : e'.x = x := by simpa using h
              have h9 : e'.i ≠ e.i := fun h' => hxe (by rw [← h]; exact (hinj e' he' e he).1 h')
              simpa using h9
          rw [h7, atKey_put_other (fun h => hxe (Lit.int.inj h).2)]
          exact hD x z
      · intro e' he'
        rw [List.mem_filter] at he'
        obtain ⟨⟨o', q1, q2, q3, q4, q5⟩, q6⟩ := hL e' he'.1
        refine ⟨⟨o', q1, q2, q3, q4, ?_⟩, q6⟩
        rw [Array.all_eq_true'] at q5 ⊢
        intro r hr
        have := q5 r hr
        cases hbr : Region.binds md r with
        | false => rfl
        | true =>
          rw [hbr] at this
          have h3 : (r.on != e'.i && listed.getD r.on false) = true := by simpa using this
          rw [Bool.and_eq_true] at h3
          rw [getD_set _ _ _ _ hiN]
          have h4 := h3.1
          by_cases h5 : r.on = e.i
          · rw [if_pos h5]; simpa using h4
          · rw [if_neg h5, h3.2]; simpa using h4
      · intro e1 h1 e2 h2
        exact hinj e1 (List.mem_filter.1 h1).1 e2 (List.mem_filter.1 h2).1
      · exact (List.Sublist.map _ List.filter_sublist).nodup hnd
    unfold Oper.wp
    simp only [execOp, ho4, hm, hx, h3, Sem.run_bind, hrun, Result.andThen_ok, Sem.run_pure]
    exact hnext
end
end Go.Proofs.YtkgpnlldlekcbaaGreatDoor
namespace Go.Proofs.YtkgpnlldlekcbaaGreatDoor
open Go.RowKit Go.Lib Go.Maps
attribute [local go_sem] Oper.semAt_some

def cmdE : List InE := [⟨3, 112, 5, 60⟩, ⟨6, 100, 7, 61⟩, ⟨9, 113, 9, 62⟩, ⟨12, 110, 11, 63⟩, ⟨17, 104, 15, 64⟩, ⟨22, 72, 19, 65⟩, ⟨27, 103, 23, 66⟩, ⟨32, 71, 27, 67⟩, ⟨37, 120, 31, 68⟩, ⟨40, 115, 33, 69⟩, ⟨43, 98, 35, 70⟩, ⟨46, 116, 37, 71⟩]
def cmdF (x : Int) : Option Nat := (cmdE.find? fun e => e.x == x).map InE.f
theorem half_start (L : List InE) : HalfD (fun x => (L.find? fun e => e.x == x).map InE.f) L (.map []) := by
  intro x z
  by_cases h : L.any (fun e => e.x == x) = true
  · rw [if_pos h]; rfl
  · rw [if_neg h]
    have h2 : (L.find? fun e => e.x == x) = none := by
      rw [List.find?_eq_none]
      intro e he h3
      exact h (List.any_eq_true.2 ⟨e, he, h3⟩)
    dsimp only
    rw [h2]
    rfl
theorem listed9_end {N : Nat} {late : List Nat} {listed : Array Bool} (h : ListedOk N late [] listed) : listed = ((List.range N).map fun i => !late.contains i).toArray := by
  obtain ⟨h1, h2⟩ := h
  apply Array.ext
  · simp [h1]
  · intro i hi _
    have h3 := h2 i (by omega)
    have h4 : listed.getD i true = listed[i] := by rw [Array.getD_eq_getD_getElem?, Array.getElem?_eq_getElem hi]; rfl
    rw [h4] at h3
    simp only [List.any_nil, Bool.false_eq_true, false_or] at h3
    have h8 : ((List.range N).map fun i => !late.contains i).toArray[i] = !late.contains i := by simp
    rw [h8]
    by_cases h5 : i ∈ late
    · rw [h3.2 h5]
      have : late.contains i = true := List.contains_iff_mem.2 h5
      rw [this]; rfl
    · have h6 : listed[i] = true := by
        cases hb : listed[i] with
        | true => rfl
        | false => exact absurd (h3.1 hb) h5
      have h7 : late.contains i = false := by
        cases hb : late.contains i with
        | false => rfl
        | true => exact absurd (List.contains_iff_mem.1 hb) h5
      rw [h6, h7]; rfl
set_option maxHeartbeats 8000000 in
set_option maxRecDepth 100000 in
theorem commands9_any (p : Nat) (w : World) :
    Calls Tryz.prog 39 #[.pointer (some ⟨p, 0, none⟩)] w fun e w' => e = .returned (.map (some w.heap.size)) ∧ (∃ D, w'.ownsMap Tryz.prog 5 (mthR p) w.heap.size 12 D ∧ HalfD cmdF [] D) ∧ Below w.heap.size w w' := by
  have hmm := @run_makeMap Tryz.prog
  go_enter Tryz.func39, Tryz.ntmps39
  go_wp2_with fail
  refine wp_region_noPanic ?_
  refine wp_region_held_drew (S := fun _ => True) (by kernel_rfl) trivial (fun hHeld => ?_)
  refine wpAnyH_take (i := 1) (v := ?_) rfl (by kernel_rfl) (by kernel_rfl) (by kernel_rfl) (fun _ _ _ h => h) ?_ hHeld ?_; rotate_left; · (simp only [List.getElem_toArray, List.getElem_cons_succ, List.getElem_cons_zero]; refine Or.inl ⟨by rfl, ?_⟩; intro w hSw; (try dsimp only at hSw); go_simp; try with_reducible rfl)
  try simp only [List.getElem_toArray, List.getElem_cons_succ, List.getElem_cons_zero, Act.put, List.setIfInBounds_toArray, List.set_cons_zero, List.set_cons_succ]
  refine wpAnyH_take (i := 2) (v := ?_) rfl (by kernel_rfl) (by kernel_rfl) (by kernel_rfl) (fun _ _ _ h => h) ?_ hHeld ?_; rotate_left; · (simp only [List.getElem_toArray, List.getElem_cons_succ, List.getElem_cons_zero]; refine Or.inl ⟨by rfl, ?_⟩; intro w hSw; (try dsimp only at hSw); go_simp; try with_reducible rfl)
  try simp only [List.getElem_toArray, List.getElem_cons_succ, List.getElem_cons_zero, Act.put, List.setIfInBounds_toArray, List.set_cons_zero, List.set_cons_succ]
  refine wpAnyH_take (i := 4) (v := ?_) rfl (by kernel_rfl) (by kernel_rfl) (by kernel_rfl) (fun _ _ _ h => h) ?_ hHeld ?_; rotate_left; · (simp only [List.getElem_toArray, List.getElem_cons_succ, List.getElem_cons_zero]; refine Or.inl ⟨by rfl, ?_⟩; intro w hSw; (try dsimp only at hSw); go_simp; try with_reducible rfl)
  try simp only [List.getElem_toArray, List.getElem_cons_succ, List.getElem_cons_zero, Act.put, List.setIfInBounds_toArray, List.set_cons_zero, List.set_cons_succ]
  refine wpAnyH_take (i := 5) (v := ?_) rfl (by kernel_rfl) (by kernel_rfl) (by kernel_rfl) (fun _ _ _ h => h) ?_ hHeld ?_; rotate_left; · (simp only [List.getElem_toArray, List.getElem_cons_succ, List.getElem_cons_zero]; refine Or.inl ⟨by rfl, ?_⟩; intro w hSw; (try dsimp only at hSw); go_simp; try with_reducible rfl)
  try simp only [List.getElem_toArray, List.getElem_cons_succ, List.getElem_cons_zero, Act.put, List.setIfInBounds_toArray, List.set_cons_zero, List.set_cons_succ]
  refine wpAnyH_take (i := 7) (v := ?_) rfl (by kernel_rfl) (by kernel_rfl) (by kernel_rfl) (fun _ _ _ h => h) ?_ hHeld ?_; rotate_left; · (simp only [List.getElem_toArray, List.getElem_cons_succ, List.getElem_cons_zero]; refine Or.inl ⟨by rfl, ?_⟩; intro w hSw; (try dsimp only at hSw); go_simp; try with_reducible rfl)
  try simp only [List.getElem_toArray, List.getElem_cons_succ, List.getElem_cons_zero, Act.put, List.setIfInBounds_toArray, List.set_cons_zero, List.set_cons_succ]
  refine wpAnyH_take (i := 8) (v := ?_) rfl (by kernel_rfl) (by kernel_rfl) (by kernel_rfl) (fun _ _ _ h => h) ?_ hHeld ?_; rotate_left; · (simp only [List.getElem_toArray, List.getElem_cons_succ, List.getElem_cons_zero]; refine Or.inl ⟨by rfl, ?_⟩; intro w hSw; (try dsimp only at hSw); go_simp; try with_reducible rfl)
  try simp only [List.getElem_toArray, List.getElem_cons_succ, List.getElem_cons_zero, Act.put, List.setIfInBounds_toArray, List.set_cons_zero, List.set_cons_succ]
  refine wpAnyH_take (i := 10) (v := ?_) rfl (by kernel_rfl) (by kernel_rfl) (by kernel_rfl) (fun _ _ _ h => h) ?_ hHeld ?_; rotate_left; · (simp only [List.getElem_toArray, List.getElem_cons_succ, List.getElem_cons_zero]; refine Or.inl ⟨by rfl, ?_⟩; intro w hSw; (try dsimp only at hSw); go_simp; try with_reducible rfl)
  try simp only [List.getElem_toArray, List.getElem_cons_succ, List.getElem_cons_zero, Act.put, List.setIfInBounds_toArray, List.set_cons_zero, List.set_cons_succ]
  refine wpAnyH_take (i := 11) (v := ?_) rfl (by kernel_rfl) (by kernel_rfl) (by kernel_rfl) (fun _ _ _ h => h) ?_ hHeld ?_; rotate_left; · (simp only [List.getElem_toArray, List.getElem_cons_succ, List.getElem_cons_zero]; refine Or.inl ⟨by rfl, ?_⟩; intro w hSw; (try dsimp only at hSw); go_simp; try with_reducible rfl)
  try simp only [List.getElem_toArray, List.getElem_cons_succ, List.getElem_cons_zero, Act.put, List.setIfInBounds_toArray, List.set_cons_zero, List.set_cons_succ]
  refine wpAnyH_take (i := 13) (v := ?_) rfl (by kernel_rfl) (by kernel_rfl) (by kernel_rfl) (fun _ _ _ h => h) ?_ hHeld ?_; rotate_left; · (simp only [List.getElem_toArray, List.getElem_cons_succ, List.getElem_cons_zero]; refine Or.inl ⟨by rfl, ?_⟩; intro w hSw; (try dsimp only at hSw); go_simp; try with_reducible rfl)
  try simp only [List.getElem_toArray, List.getElem_cons_succ, List.getElem_cons_zero, Act.put, List.setIfInBounds_toArray, List.set_cons_zero, List.set_cons_succ]
  refine wpAnyH_take (i := 14) (v := ?_) rfl (by kernel_rfl) (by kernel_rfl) (by kernel_rfl) (fun _ _ _ h => h) ?_ hHeld ?_; rotate_left; · (simp only [List.getElem_toArray, List.getElem_cons_succ, List.getElem_cons_zero]; refine Or.inl ⟨by rfl, ?_⟩; intro w hSw; (try dsimp only at hSw); go_simp; try with_reducible rfl)
  try simp only [List.getElem_toArray, List.getElem_cons_succ, List.getElem_cons_zero, Act.put, List.setIfInBounds_toArray, List.set_cons_zero, List.set_cons_succ]
  refine wpAnyH_take (i := 15) (v := ?_) rfl (by kernel_rfl) (by kernel_rfl) (by kernel_rfl) (fun _ _ _ h => h) ?_ hHeld ?_; rotate_left; · (simp only [List.getElem_toArray, List.getElem_cons_succ, List.getElem_cons_zero]; refine Or.inl ⟨by rfl, ?_⟩; intro w hSw; (try dsimp only at hSw); go_simp; try with_reducible rfl)
  try simp only [List.getElem_toArray, List.getElem_cons_succ, List.getElem_cons_zero, Act.put, List.setIfInBounds_toArray, List.set_cons_zero, List.set_cons_succ]
  refine wpAnyH_take (i := 16) (v := ?_) rfl (by kernel_rfl) (by kernel_rfl) (by kernel_rfl) (fun _ _ _ h => h) ?_ hHeld ?_; rotate_left; · (simp only [List.getElem_toArray, List.getElem_cons_succ, List.getElem_cons_zero]; refine Or.inl ⟨by rfl, ?_⟩; intro w hSw; (try dsimp only at hSw); go_simp; try with_reducible rfl)
  try simp only [List.getElem_toArray, List.getElem_cons_succ, List.getElem_cons_zero, Act.put, List.setIfInBounds_toArray, List.set_cons_zero, List.set_cons_succ]
  refine wpAnyH_take (i := 18) (v := ?_) rfl (by kernel_rfl) (by kernel_rfl) (by kernel_rfl) (fun _ _ _ h => h) ?_ hHeld ?_; rotate_left; · (simp only [List.getElem_toArray, List.getElem_cons_succ, List.getElem_cons_zero]; refine Or.inl ⟨by rfl, ?_⟩; intro w hSw; (try dsimp only at hSw); go_simp; try with_reducible rfl)
  try simp only [List.getElem_toArray, List.getElem_cons_succ, List.getElem_cons_zero, Act.put, List.setIfInBounds_toArray, List.set_cons_zero, List.set_cons_succ]
  refine wpAnyH_take (i := 19) (v := ?_) rfl (by kernel_rfl) (by kernel_rfl) (by kernel_rfl) (fun _ _ _ h => h) ?_ hHeld ?_; rotate_left; · (simp only [List.getElem_toArray, List.getElem_cons_succ, List.getElem_cons_zero]; refine Or.inl ⟨by rfl, ?_⟩; intro w hSw; (try dsimp only at hSw); go_simp; try with_reducible rfl)
  try simp only [List.getElem_toArray, List.getElem_cons_succ, List.getElem_cons_zero, Act.put, List.setIfInBounds_toArray, List.set_cons_zero, List.set_cons_succ]
  refine wpAnyH_take (i := 20) (v := ?_) rfl (by kernel_rfl) (by kernel_rfl) (by kernel_rfl) (fun _ _ _ h => h) ?_ hHeld ?_; rotate_left; · (simp only [List.getElem_toArray, List.getElem_cons_succ, List.getElem_cons_zero]; refine Or.inl ⟨by rfl, ?_⟩; intro w hSw; (try dsimp only at hSw); go_simp; try with_reducible rfl)
  try simp only [List.getElem_toArray, List.getElem_cons_succ, List.getElem_cons_zero, Act.put, List.setIfInBounds_toArray, List.set_cons_zero, List.set_cons_succ]
  refine wpAnyH_take (i := 21) (v := ?_) rfl (by kernel_rfl) (by kernel_rfl) (by kernel_rfl) (fun _ _ _ h => h) ?_ hHeld ?_; rotate_left; · (simp only [List.getElem_toArray, List.getElem_cons_succ, List.getElem_cons_zero]; refine Or.inl ⟨by rfl, ?_⟩; intro w hSw; (try dsimp only at hSw); go_simp; try with_reducible rfl)
  try simp only [List.getElem_toArray, List.getElem_cons_succ, List.getElem_cons_zero, Act.put, List.setIfInBounds_toArray, List.set_cons_zero, List.set_cons_succ]
  refine wpAnyH_take (i := 23) (v := ?_) rfl (by kernel_rfl) (by kernel_rfl) (by kernel_rfl) (fun _ _ _ h => h) ?_ hHeld ?_; rotate_left; · (simp only [List.getElem_toArray, List.getElem_cons_succ, List.getElem_cons_zero]; refine Or.inl ⟨by rfl, ?_⟩; intro w hSw; (try dsimp only at hSw); go_simp; try with_reducible rfl)
  try simp only [List.getElem_toArray, List.getElem_cons_succ, List.getElem_cons_zero, Act.put, List.setIfInBounds_toArray, List.set_cons_zero, List.set_cons_succ]
  refine wpAnyH_take (i := 24) (v := ?_) rfl (by kernel_rfl) (by kernel_rfl) (by kernel_rfl) (fun _ _ _ h => h) ?_ hHeld ?_; rotate_left; · (simp only [List.getElem_toArray, List.getElem_cons_succ, List.getElem_cons_zero]; refine Or.inl ⟨by rfl, ?_⟩; intro w hSw; (try dsimp only at hSw); go_simp; try with_reducible rfl)
  try simp only [List.getElem_toArray, List.getElem_cons_succ, List.getElem_cons_zero, Act.put, List.setIfInBounds_toArray, List.set_cons_zero, List.set_cons_succ]
  refine wpAnyH_take (i := 25) (v := ?_) rfl (by kernel_rfl) (by kernel_rfl) (by kernel_rfl) (fun _ _ _ h => h) ?_ hHeld ?_; rotate_left; · (simp only [List.getElem_toArray, List.getElem_cons_succ, List.getElem_cons_zero]; refine Or.inl ⟨by rfl, ?_⟩; intro w hSw; (try dsimp only at hSw); go_simp; try with_reducible rfl)
  try simp only [List.getElem_toArray, List.getElem_cons_succ, List.getElem_cons_zero, Act.put, List.setIfInBounds_toArray, List.set_cons_zero, List.set_cons_succ]
  refine wpAnyH_take (i := 26) (v := ?_) rfl (by kernel_rfl) (by kernel_rfl) (by kernel_rfl) (fun _ _ _ h => h) ?_ hHeld ?_; rotate_left; · (simp only [List.getElem_toArray, List.getElem_cons_succ, List.getElem_cons_zero]; refine Or.inl ⟨by rfl, ?_⟩; intro w hSw; (try dsimp only at hSw); go_simp; try with_reducible rfl)
  try simp only [List.getElem_toArray, List.getElem_cons_succ, List.getElem_cons_zero, Act.put, List.setIfInBounds_toArray, List.set_cons_zero, List.set_cons_succ]
  refine wpAnyH_take (i := 28) (v := ?_) rfl (by kernel_rfl) (by kernel_rfl) (by kernel_rfl) (fun _ _ _ h => h) ?_ hHeld ?_; rotate_left; · (simp only [List.getElem_toArray, List.getElem_cons_succ, List.getElem_cons_zero]; refine Or.inl ⟨by rfl, ?_⟩; intro w hSw; (try dsimp only at hSw); go_simp; try with_reducible rfl)
  try simp only [List.getElem_toArray, List.getElem_cons_succ, List.getElem_cons_zero, Act.put, List.setIfInBounds_toArray, List.set_cons_zero, List.set_cons_succ]
  refine wpAnyH_take (i := 29) (v := ?_) rfl (by kernel_rfl) (by kernel_rfl) (by kernel_rfl) (fun _ _ _ h => h) ?_ hHeld ?_; rotate_left; · (simp only [List.getElem_toArray, List.getElem_cons_succ, List.getElem_cons_zero]; refine Or.inl ⟨by rfl, ?_⟩; intro w hSw; (try dsimp only at hSw); go_simp; try with_reducible rfl)
  try simp only [List.getElem_toArray, List.getElem_cons_succ, List.getElem_cons_zero, Act.put, List.setIfInBounds_toArray, List.set_cons_zero, List.set_cons_succ]
  refine wpAnyH_take (i := 30) (v := ?_) rfl (by kernel_rfl) (by kernel_rfl) (by kernel_rfl) (fun _ _ _ h => h) ?_ hHeld ?_; rotate_left; · (simp only [List.getElem_toArray, List.getElem_cons_succ, List.getElem_cons_zero]; refine Or.inl ⟨by rfl, ?_⟩; intro w hSw; (try dsimp only at hSw); go_simp; try with_reducible rfl)
  try simp only [List.getElem_toArray, List.getElem_cons_succ, List.getElem_cons_zero, Act.put, List.setIfInBounds_toArray, List.set_cons_zero, List.set_cons_succ]
  refine wpAnyH_take (i := 31) (v := ?_) rfl (by kernel_rfl) (by kernel_rfl) (by kernel_rfl) (fun _ _ _ h => h) ?_ hHeld ?_; rotate_left; · (simp only [List.getElem_toArray, List.getElem_cons_succ, List.getElem_cons_zero]; refine Or.inl ⟨by rfl, ?_⟩; intro w hSw; (try dsimp only at hSw); go_simp; try with_reducible rfl)
  try simp only [List.getElem_toArray, List.getElem_cons_succ, List.getElem_cons_zero, Act.put, List.setIfInBounds_toArray, List.set_cons_zero, List.set_cons_succ]
  refine wpAnyH_take (i := 33) (v := ?_) rfl (by kernel_rfl) (by kernel_rfl) (by kernel_rfl) (fun _ _ _ h => h) ?_ hHeld ?_; rotate_left; · (simp only [List.getElem_toArray, List.getElem_cons_succ, List.getElem_cons_zero]; refine Or.inl ⟨by rfl, ?_⟩; intro w hSw; (try dsimp only at hSw); go_simp; try with_reducible rfl)
  try simp only [List.getElem_toArray, List.getElem_cons_succ, List.getElem_cons_zero, Act.put, List.setIfInBounds_toArray, List.set_cons_zero, List.set_cons_succ]
  refine wpAnyH_take (i := 34) (v := ?_) rfl (by kernel_rfl) (by kernel_rfl) (by kernel_rfl) (fun _ _ _ h => h) ?_ hHeld ?_; rotate_left; · (simp only [List.getElem_toArray, List.getElem_cons_succ, List.getElem_cons_zero]; refine Or.inl ⟨by rfl, ?_⟩; intro w hSw; (try dsimp only at hSw); go_simp; try with_reducible rfl)
  try simp only [List.getElem_toArray, List.getElem_cons_succ, List.getElem_cons_zero, Act.put, List.setIfInBounds_toArray, List.set_cons_zero, List.set_cons_succ]
  refine wpAnyH_take (i := 35) (v := ?_) rfl (by kernel_rfl) (by kernel_rfl) (by kernel_rfl) (fun _ _ _ h => h) ?_ hHeld ?_; rotate_left; · (simp only [List.getElem_toArray, List.getElem_cons_succ, List.getElem_cons_zero]; refine Or.inl ⟨by rfl, ?_⟩; intro w hSw; (try dsimp only at hSw); go_simp; try with_reducible rfl)
  try simp only [List.getElem_toArray, List.getElem_cons_succ, List.getElem_cons_zero, Act.put, List.setIfInBounds_toArray, List.set_cons_zero, List.set_cons_succ]
  refine wpAnyH_take (i := 36) (v := ?_) rfl (by kernel_rfl) (by kernel_rfl) (by kernel_rfl) (fun _ _ _ h => h) ?_ hHeld ?_; rotate_left; · (simp only [List.getElem_toArray, List.getElem_cons_succ, List.getElem_cons_zero]; refine Or.inl ⟨by rfl, ?_⟩; intro w hSw; (try dsimp only at hSw); go_simp; try with_reducible rfl)
  try simp only [List.getElem_toArray, List.getElem_cons_succ, List.getElem_cons_zero, Act.put, List.setIfInBounds_toArray, List.set_cons_zero, List.set_cons_succ]
  refine wpAnyH_take (i := 38) (v := ?_) rfl (by kernel_rfl) (by kernel_rfl) (by kernel_rfl) (fun _ _ _ h => h) ?_ hHeld ?_; rotate_left; · (simp only [List.getElem_toArray, List.getElem_cons_succ, List.getElem_cons_zero]; refine Or.inl ⟨by rfl, ?_⟩; intro w hSw; (try dsimp only at hSw); go_simp; try with_reducible rfl)
  try simp only [List.getElem_toArray, List.getElem_cons_succ, List.getElem_cons_zero, Act.put, List.setIfInBounds_toArray, List.set_cons_zero, List.set_cons_succ]
  refine wpAnyH_take (i := 39) (v := ?_) rfl (by kernel_rfl) (by kernel_rfl) (by kernel_rfl) (fun _ _ _ h => h) ?_ hHeld ?_; rotate_left; · (simp only [List.getElem_toArray, List.getElem_cons_succ, List.getElem_cons_zero]; refine Or.inl ⟨by rfl, ?_⟩; intro w hSw; (try dsimp only at hSw); go_simp; try with_reducible rfl)
  try simp only [List.getElem_toArray, List.getElem_cons_succ, List.getElem_cons_zero, Act.put, List.setIfInBounds_toArray, List.set_cons_zero, List.set_cons_succ]
  refine wpAnyH_take (i := 41) (v := ?_) rfl (by kernel_rfl) (by kernel_rfl) (by kernel_rfl) (fun _ _ _ h => h) ?_ hHeld ?_; rotate_left; · (simp only [List.getElem_toArray, List.getElem_cons_succ, List.getElem_cons_zero]; refine Or.inl ⟨by rfl, ?_⟩; intro w hSw; (try dsimp only at hSw); go_simp; try with_reducible rfl)
  try simp only [List.getElem_toArray, List.getElem_cons_succ, List.getElem_cons_zero, Act.put, List.setIfInBounds_toArray, List.set_cons_zero, List.set_cons_succ]
  refine wpAnyH_take (i := 42) (v := ?_) rfl (by kernel_rfl) (by kernel_rfl) (by kernel_rfl) (fun _ _ _ h => h) ?_ hHeld ?_; rotate_left; · (simp only [List.getElem_toArray, List.getElem_cons_succ, List.getElem_cons_zero]; refine Or.inl ⟨by rfl, ?_⟩; intro w hSw; (try dsimp only at hSw); go_simp; try with_reducible rfl)
  try simp only [List.getElem_toArray, List.getElem_cons_succ, List.getElem_cons_zero, Act.put, List.setIfInBounds_toArray, List.set_cons_zero, List.set_cons_succ]
  refine wpAnyH_take (i := 44) (v := ?_) rfl (by kernel_rfl) (by kernel_rfl) (by kernel_rfl) (fun _ _ _ h => h) ?_ hHeld ?_; rotate_left; · (simp only [List.getElem_toArray, List.getElem_cons_succ, List.getElem_cons_zero]; refine Or.inl ⟨by rfl, ?_⟩; intro w hSw; (try dsimp only at hSw); go_simp; try with_reducible rfl)
  try simp only [List.getElem_toArray, List.getElem_cons_succ, List.getElem_cons_zero, Act.put, List.setIfInBounds_toArray, List.set_cons_zero, List.set_cons_succ]
  refine wpAnyH_take (i := 45) (v := ?_) rfl (by kernel_rfl) (by kernel_rfl) (by kernel_rfl) (fun _ _ _ h => h) ?_ hHeld ?_; rotate_left; · (simp only [List.getElem_toArray, List.getElem_cons_succ, List.getElem_cons_zero]; refine Or.inl ⟨by rfl, ?_⟩; intro w hSw; (try dsimp only at hSw); go_simp; try with_reducible rfl)
  try simp only [List.getElem_toArray, List.getElem_cons_succ, List.getElem_cons_zero, Act.put, List.setIfInBounds_toArray, List.set_cons_zero, List.set_cons_succ]
  refine wpAnyH_ready (rs := [0]) (by kernel_rfl) (by simp) ?_
  refine AllReadyH.cons rfl (fun K hK => ?_) AllReadyH.nil
  simp only [List.getElem_toArray, List.getElem_cons_zero]
  go_simp
  try dsimp only
  refine hK.out _ _ trivial (fun hNew => ?_)
  clear hK K hNew
  try simp only [List.getElem_toArray, List.getElem_cons_succ, List.getElem_cons_zero, Act.put, List.setIfInBounds_toArray, List.set_cons_zero, List.set_cons_succ]
  clear hmm
  refine ins_all (fun _ => trivial) 91 5 110 u8_law9 Tryz.underlying91 p w.heap.size _ (.tmp 3) rfl 49 [47, 48] cmdF w (Nat.le_refl _) 2 ?_ 12 cmdE _ _ (.map []) 0 rfl ⟨by kernel_rfl, by decide +kernel⟩ (by omega) (World.ownsMap_made w.drew Tryz.prog 5 (mthR p)) (half_start cmdE) (((Below.refl _ w).drew).alloc (Nat.le_refl _) _) ?_ (by decide) (by decide)
  · intro listed w2 D hl ho hD hb
    obtain rfl := listed9_end hl
    clear hl
    have hHeld : True := trivial
    refine wpAnyH_take (i := 47) (v := ?_) rfl (by kernel_rfl) (by kernel_rfl) (by kernel_rfl) (fun _ _ _ h => h) ?_ hHeld ?_; rotate_left; · (simp only [List.getElem_toArray, List.getElem_cons_succ, List.getElem_cons_zero]; refine Or.inl ⟨by rfl, ?_⟩; intro w hSw; (try dsimp only at hSw); go_simp; try with_reducible rfl)
    try simp only [List.getElem_toArray, List.getElem_cons_succ, List.getElem_cons_zero, Act.put, List.setIfInBounds_toArray, List.set_cons_zero, List.set_cons_succ]
    refine wpAnyH_take (i := 48) (v := ?_) rfl (by kernel_rfl) (by kernel_rfl) (by kernel_rfl) (fun _ _ _ h => h) ?_ hHeld ?_; rotate_left; · (simp only [List.getElem_toArray, List.getElem_cons_succ, List.getElem_cons_zero]; refine Or.inl ⟨by rfl, ?_⟩; intro w hSw; (try dsimp only at hSw); go_simp; try with_reducible rfl)
    try simp only [List.getElem_toArray, List.getElem_cons_succ, List.getElem_cons_zero, Act.put, List.setIfInBounds_toArray, List.set_cons_zero, List.set_cons_succ]
    refine wpAnyH_done (by kernel_rfl) ?_ _
    refine NoPanic.normal ?_
    go_wp2
    exact bodyPost_ret (results_tmp rfl _ _ _) rfl ⟨rfl, ⟨D, ho, hD⟩, hb⟩
  · intro e he
    simp only [cmdE, List.mem_cons, List.not_mem_nil, or_false] at he
    rcases he with rfl | rfl | rfl | rfl | rfl | rfl | rfl | rfl | rfl | rfl | rfl | rfl
    all_goals
      exact ⟨⟨_, rfl, rfl, rfl, rfl, by kernel_rfl⟩, by decide, rfl, u8_key9 _ (by decide), rfl, by decide +kernel⟩
end Go.Proofs.YtkgpnlldlekcbaaGreatDoor
namespace Go.Proofs.YtkgpnlldlekcbaaGreatDoor
open Go.RowKit Go.Lib Go.Maps
attribute [local go_sem] Oper.semAt_some

set_option maxHeartbeats 2000000 in
set_option maxRecDepth 20000 in
theorem branch9_any (E : RC) (hE : E.Ok) (s : Sn) (n d : Nat) (w : World) (h : RunM E s n (d + 1) w) (gs o : Nat) (X : ByteArray) (hX : X.size ≤ 1000000000) (hc : w.cell? ⟨gs, o + 12, none⟩ = some (.string X)) :
    Calls Tryz.prog 70 #[.pointer (some ⟨E.p, 0, none⟩), .pointer (some ⟨gs, o, none⟩)] w fun e w' => e = .returned (.int .i64 0) ∧ RunM E { s with pos := placeD E.cs X.data.toList } n d w' := by
  have k := place9_any E hE s n d w h X hX
  have hpb := place_bd E.cs X.data.toList
  have hst : ∀ w', RunM E s n d w' → RunM E { s with pos := placeD E.cs X.data.toList } n d (w'.setCell ⟨E.p, 8, none⟩ (.int .i64 (placeD E.cs X.data.toList : Int))) ∧ w'.frozen? ⟨E.p, 8, none⟩ = false ∧ ∃ v, w'.cell? ⟨E.p, 8, none⟩ = some (.int .i64 v) := fun w' h' => by
    obtain ⟨ao, cap, c0, c1, c2, c3, c4, c5, c6, c7, c8, c9, c10, c11⟩ := h'.cells
    exact ⟨h'.set hE 8 _ { s with pos := placeD E.cs X.data.toList } n d (fun vo => rfl) rfl rfl (Nat.le_refl _) h'.ps h'.hs h'.nm hpb, h'.frozen 8, _, c8⟩
  have HS := Lib.hid hst
  generalize placeD E.cs X.data.toList = r at k HS ⊢
  clear h hX hE hpb hst
  go_enter Tryz.func70, Tryz.ntmps70
  go_wp2_with (go_at_call 91; (with_reducible refine k.mono ?_); rintro e w1 ⟨rfl, h1⟩; obtain ⟨h2, f2, v2, c2⟩ := HS.out _ h1; have H2 := Lib.hid h2; clear h1 h2)
  exact bodyPost_ret (results_tmp rfl _ _ _) rfl ⟨rfl, H2.out⟩
set_option maxHeartbeats 2000000 in
set_option maxRecDepth 20000 in
theorem branchIf9_any (E : RC) (hE : E.Ok) (s : Sn) (n d : Nat) (w : World) (h : RunM E s n (d + 1) w) (gs o : Nat) (X : ByteArray) (hX : X.size ≤ 1000000000) (hc : ∀ w', Below E.B w w' → w'.cell? ⟨gs, o + 12, none⟩ = some (.string X)) :
    Calls Tryz.prog 71 #[.pointer (some ⟨E.p, 0, none⟩), .pointer (some ⟨gs, o, none⟩)] w fun e w' => e = .returned (.int .i64 0) ∧ RunM E (if s.chg then { s with chg := false, pos := placeD E.cs X.data.toList } else s) n d w' := by
  obtain ⟨ao, cap, c0, c1, c2, c3, c4, c5, c6, c7, c8, c9, c10, c11⟩ := h.cells
  have f9 := h.frozen 9
  have H := Lib.hid h
  cases hch : s.chg with
  | false =>
    rw [hch] at c9
    rw [if_neg (by simp)]
    clear h hE hc hX c0 c1 c2 c3 c4 c5 c6 c7 c8 c10 c11 hch
    go_enter Tryz.func71, Tryz.ntmps71
    go_wp2
    exact bodyPost_ret (results_tmp rfl _ _ _) rfl ⟨rfl, H.out.fewer (Nat.le_succ _)⟩
  | true =>
    rw [hch] at c9
    rw [if_pos rfl]
    have h2 := h.set hE 9 (.bool false) { s with chg := false } n (d + 1) (fun vo => rfl) rfl rfl (Nat.le_refl _) h.ps h.hs h.nm h.po
    have k := branch9_any E hE { s with chg := false } n d (w.setCell ⟨E.p, 9, none⟩ (.bool false)) h2 gs o X hX (hc _ ((Below.refl E.B w).setCell (p := ⟨E.p, 9, none⟩) hE.pB _))
    clear h hE hc hX c0 c1 c2 c3 c4 c5 c6 c7 c8 c10 c11 hch h2
    go_enter Tryz.func71, Tryz.ntmps71
    go_wp2_with (go_at_call 70; (with_reducible refine k.mono ?_); rintro e w1 ⟨rfl, h1⟩)
    exact bodyPost_ret (results_tmp rfl _ _ _) rfl ⟨rfl, h1⟩
/-- What replaced answers, of the substitutions of a script. -/
def OraS (O : Ora) (E : RC) : Prop := ∀ c ∈ E.cs, c.op = 115 → ∀ (k : Nat), E.cs[k]? = some c → ∀ (gs : Nat) (cl : Nat) (s : ByteArray) (w : World), E.vl = .slice (some ⟨gs, 0, none⟩) E.cs.length cl → Below E.w0.heap.size E.w0 w → s.size ≤ O.L →
  Calls Tryz.prog 90 #[.pointer (some ⟨gs, k * 13, none⟩), .string s] w fun e w' => (∃ r : ByteArray, e = .returned (.tuple #[.string r, .int .i64 ((O.S c s).2 : Int), .bool (decide ((O.S c s).2 = 0) || decide ((O.S c s).1.size ≤ 65536))]) ∧ ((O.S c s).2 ≠ 0 → (O.S c s).1.size ≤ 65536 → r = (O.S c s).1)) ∧ Below w.heap.size w w'
set_option maxHeartbeats 4000000 in
set_option maxRecDepth 20000 in
theorem subst9_any (E : RC) (hE : E.Ok) (s : Sn) (n d : Nat) (w : World) (h : RunM E s n d w) (gs o : Nat) (prt : Bool) (R : ByteArray) (m : Nat) (hC : prt = true → s.out.length < E.C) (hc : ∀ w', Below E.B w w' → w'.cell? ⟨gs, o + 11, none⟩ = some (.bool prt)) (hm : m ≤ 1000000000)
    (k : Calls Tryz.prog 90 #[.pointer (some ⟨gs, o, none⟩), .string s.pat] w fun e w' => (∃ r : ByteArray, e = .returned (.tuple #[.string r, .int .i64 (m : Int), .bool (decide (m = 0) || decide (R.size ≤ 65536))]) ∧ (m ≠ 0 → R.size ≤ 65536 → r = R)) ∧ Below w.heap.size w w') :
    Calls Tryz.prog 69 #[.pointer (some ⟨E.p, 0, none⟩), .pointer (some ⟨gs, o, none⟩)] w fun e w' => e = .returned (.int .i64 (if m = 0 then 0 else if 65536 < R.size then 3 else 0)) ∧
      RunM E (if m = 0 then s else if 65536 < R.size then s else if prt then outD { s with pat := R, chg := true } else { s with pat := R, chg := true }) n d w' := by
  obtain ⟨ao, cap, c0, c1, c2, c3, c4, c5, c6, c7, c8, c9, c10, c11⟩ := h.cells
  have H := Lib.hid (And.intro h hE)
  have hB := h.Blt hE
  by_cases h0 : m = 0
  · subst h0
    rw [if_pos rfl, if_pos rfl]
    have k : Calls Tryz.prog 90 #[.pointer (some ⟨gs, o, none⟩), .string s.pat] w fun e w' => (∃ r : ByteArray, e = .returned (.tuple #[.string r, .int .i64 0, .bool true])) ∧ Below w.heap.size w w' := by
      refine k.mono ?_
      rintro e w' ⟨⟨r, rfl, _⟩, hb⟩
      exact ⟨⟨r, rfl⟩, hb⟩
    clear h hE hc hC c1 c2 c3 c4 c5 c6 c7 c8 c9 c10 c11 hB
    go_enter Tryz.func69, Tryz.ntmps69
    go_wp2_with (go_at_call 90; (with_reducible refine k.mono ?_); rintro e w1 ⟨⟨r, rfl⟩, hb1⟩)
    exact bodyPost_ret (results_tmp rfl _ _ _) rfl ⟨rfl, H.out.1.below H.out.2 hb1⟩
  · rw [if_neg h0, if_neg h0]
    have hm0 : ((m : Int) == 0) = false := by rw [beq_eq_false_iff_ne]; omega
    by_cases hR : 65536 < R.size
    · rw [if_pos hR, if_pos hR]
      have k : Calls Tryz.prog 90 #[.pointer (some ⟨gs, o, none⟩), .string s.pat] w fun e w' => (∃ r : ByteArray, e = .returned (.tuple #[.string r, .int .i64 (m : Int), .bool false])) ∧ Below w.heap.size w w' := by
        refine k.mono ?_
        rintro e w' ⟨⟨r, rfl, _⟩, hb⟩
        exact ⟨⟨r, by rw [decide_eq_false h0, decide_eq_false (by omega)]; rfl⟩, hb⟩
      clear h hE hc hC c1 c2 c3 c4 c5 c6 c7 c8 c9 c10 c11 hB h0 hR
      go_enter Tryz.func69, Tryz.ntmps69
      go_wp2_with (go_at_call 90; (with_reducible refine k.mono ?_); rintro e w1 ⟨⟨r, rfl⟩, hb1⟩)
      exact bodyPost_ret (results_tmp rfl _ _ _) rfl ⟨rfl, H.out.1.below H.out.2 hb1⟩
    · rw [if_neg hR, if_neg hR]
      have k : Calls Tryz.prog 90 #[.pointer (some ⟨gs, o, none⟩), .string s.pat] w fun e w' => e = .returned (.tuple #[.string R, .int .i64 (m : Int), .bool true]) ∧ Below w.heap.size w w' := by
        refine k.mono ?_
        rintro e w' ⟨⟨r, rfl, hr⟩, hb⟩
        exact ⟨by rw [hr h0 (by omega), decide_eq_false h0, decide_eq_true (by omega)]; rfl, hb⟩
      have hRz : R.size ≤ 140737488355328 := by omega
      have hst : ∀ w', Below w.heap.size w w' → (RunM E { s with pat := R, chg := true } n d ((w'.setCell ⟨E.p, 0, none⟩ (.string R)).setCell ⟨E.p, 9, none⟩ (.bool true)) ∧ (w'.cell? ⟨E.p, 0, none⟩ = some (.string s.pat) ∧ w'.cell? ⟨E.p, 9, none⟩ = some (.bool s.chg) ∧ w'.frozen? ⟨E.p, 0, none⟩ = false ∧ w'.frozen? ⟨E.p, 9, none⟩ = false)) ∧
          ((w'.setCell ⟨E.p, 0, none⟩ (.string R)).setCell ⟨E.p, 9, none⟩ (.bool true)).cell? ⟨gs, o + 11, none⟩ = some (.bool prt) := fun w' hb => by
        have h' := h.below hE hb
        obtain ⟨ao, cap, c0, c1, c2, c3, c4, c5, c6, c7, c8, c9, c10, c11⟩ := h'.cells
        have h1 := h'.set hE 0 (.string R) { s with pat := R } n d (fun vo => rfl) rfl rfl (Nat.le_refl _) hRz h.hs h.nm h.po
        have h2 := h1.set hE 9 (.bool true) { s with pat := R, chg := true } n d (fun vo => rfl) rfl rfl (Nat.le_refl _) hRz h.hs h.nm h.po
        refine ⟨⟨h2, c0, c9, h'.frozen 0, h'.frozen 9⟩, hc _ ?_⟩
        exact ((hb.mono hB).setCell (p := ⟨E.p, 0, none⟩) hE.pB _).setCell (p := ⟨E.p, 9, none⟩) hE.pB _
      have HS := Lib.hid hst
      have kp := fun w' (h' : RunM E { s with pat := R, chg := true } n d w') (hp : prt = true) => put9_any E hE { s with pat := R, chg := true } n d w' h' (hC hp)
      clear h hE hc hC c1 c2 c3 c4 c5 c6 c7 c8 c9 c10 c11 hB h0 hR hst hRz
      cases prt with
      | true =>
        have kq := fun w' h' => kp w' h' rfl
        clear kp
        go_enter Tryz.func69, Tryz.ntmps69
        go_wp2_with (first
          | (go_at_call 90; (with_reducible refine k.mono ?_); rintro e w1 ⟨rfl, hb1⟩; obtain ⟨⟨h2, c0', c9', f0', f9'⟩, ce⟩ := HS.out _ hb1; have H2 := Lib.hid h2; clear hb1 h2)
          | (go_at_call 73; (with_reducible refine (kq _ H2.out).mono ?_); rintro e w2 ⟨rfl, h3⟩; have H3 := Lib.hid h3; clear h3))
        exact bodyPost_ret (results_tmp rfl _ _ _) rfl ⟨rfl, H3.out⟩
      | false =>
        clear kp
        go_enter Tryz.func69, Tryz.ntmps69
        go_wp2_with (go_at_call 90; (with_reducible refine k.mono ?_); rintro e w1 ⟨rfl, hb1⟩; obtain ⟨⟨h2, c0', c9', f0', f9'⟩, ce⟩ := HS.out _ hb1; have H2 := Lib.hid h2; clear hb1 h2)
        exact bodyPost_ret (results_tmp rfl _ _ _) rfl ⟨rfl, H2.out⟩
end Go.Proofs.YtkgpnlldlekcbaaGreatDoor
