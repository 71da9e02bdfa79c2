/- Packed texts: ShSigns. What each of them proves stands above its theorems; the conditions stand in these. -/
import Derived.Maps.Own
import Derived.Maps.Views
import Derived.StringKeys
import Derived.Test.YtelfgobjnibooaaGreatDoorA6
namespace Go.Proofs.YtelfgobjnibooaaGreatDoor
open Go.RowKit Go.Lib Go.Maps Go.WideElems
theorem wpList_insert_ownS {H : Type} {P : Program} (w : World) {ops : Array Oper} {rest : List Oper} {o : Oper} {a : Act} {Q : Exit → Act → World → Prop}
  (hg : o.guard = none) (m x v : Operand) (t : TypeId) (hop : o.op = Op.insert t m x v)
  (k e : TypeId) (K : Keyed P k) (ht : P.underlying t = some (.map k e)) (R : Value → Option (DataW H × List MemPlace)) (b n : Nat) (D : DataW H)
  (hm : a.eval m = .map (some b)) (hown : w.ownsMap P k R b n D) (hn : n < maxLen) (key val : Value) (kl : Lit) (hx : a.eval x = key) (hv : a.eval v = val) (hkey : keyOf P k key = some kl)
  (d : DataW H) (ps : List MemPlace) (hval : R val = some (d, ps))
  (hK : ∀ w', w'.ownsMap P k R b (n + 1) (D.put kl d) → w.grownBy w' (some b) → wpList P ops Q rest (a.put o.dst undef) w') :
  wpList P ops Q (o :: rest) a w := by
 refine wpList_plain hg fun K' hK' => ?_
 obtain ⟨w', hrun, r1, r2⟩ := hown.update K ht hn hkey hval
 unfold Oper.wp
 simp [execOp, hop, hm, hx, hv, hrun, Result.andThen]
 exact hK' _ _ (hK w' r1 r2)
def sgnL (k : Int) : DataW Unit := .lit (.int .i64 k)
def signsD : DataW Unit := ((((DataW.map []).put (.string [125]) (sgnL 2)).put (.string [58, 45]) (sgnL 3)).put (.string [35]) (sgnL 5)).put (.string [37]) (sgnL 6)
noncomputable def sgR : Value → Option (DataW Unit × List MemPlace) := plainElem Tryz.prog 3
theorem sgR_mk (k : Int) (h : (Lit.int .i64 k).wf = true) : sgR (.int .i64 k) = some (sgnL k, []) := plainElem_int Tryz.underlying3 h
theorem str_lawS : Keyed Tryz.prog 9 := string_keyed Tryz.underlying9
theorem str_keyS (s : List UInt8) (h : s.length ≤ maxLen) : keyOf Tryz.prog 9 (.string ⟨s.toArray⟩) = some (.string s) := by
 have := WideMaps.keyOf_string_mk (P := Tryz.prog) (s := ⟨s.toArray⟩) Tryz.underlying9 (by rw [show (⟨s.toArray⟩ : ByteArray).size = s.length by simp [ByteArray.size]]; exact h)
 simpa using this
theorem sgn_ne {s t : List UInt8} (h : s ≠ t) : (Lit.string s) ≠ Lit.string t := fun e => h (Lit.string.inj e)
theorem isKeyS (s : List UInt8) : WideAt.IsKeyLit (.string s) := by unfold WideAt.IsKeyLit; trivial
theorem signs_at (s : List UInt8) (z : DataW Unit) : signsD.atKey (.string s) z = if (signD s).2 then sgnL (signD s).1 else z := by
 have m1 : IsMap ((DataW.map []).put (.string [125]) (sgnL 2) : DataW Unit) := isMap_empty.put _ _
 have m2 := m1.put (.string [58, 45]) (sgnL 3)
 have m3 := m2.put (.string [35]) (sgnL 5)
 unfold signsD signD
 by_cases h4 : s = [37]
 ·subst h4; rw [atKey_put_same m3 (isKeyS _)]; rfl
 ·rw [atKey_put_other (sgn_ne h4)]
  by_cases h3 : s = [35]
  ·subst h3; rw [atKey_put_same m2 (isKeyS _)]; rfl
  ·rw [atKey_put_other (sgn_ne h3)]
   by_cases h2 : s = [58, 45]
   ·subst h2; rw [atKey_put_same m1 (isKeyS _)]; rfl
   ·rw [atKey_put_other (sgn_ne h2)]
    by_cases h1 : s = [125]
    ·subst h1; rw [atKey_put_same isMap_empty (isKeyS _)]; rfl
    ·rw [atKey_put_other (sgn_ne h1), if_neg h1, if_neg h2, if_neg h3, if_neg h4]
     rfl
theorem envS_of {w : World} {p b n : Nat} (h : w.ownsMap Tryz.prog 9 sgR b n signsD) (hb : b < p) : EnvS p (.map (some b)) w := by
 obtain ⟨es, clock, hbl, F, hs, hD⟩ := h
 refine ⟨b, _, rfl, hb, hbl, fun W hW s hs2 => ?_⟩
 have hz : (zeroValue 3).run Tryz.prog W = .ok (.int .i64 0) W := by kernel_rfl
 have hk := str_keyS s (by unfold maxLen; omega)
 rcases Maps.fit_look true str_lawS Tryz.underlying59 hz hW F hk with ⟨hrun, _, hat⟩ | ⟨e0, y, _, _, hrun, hRv, hat, _⟩
 ·rw [hrun]
  rw [← hD] at hat
  cases hd : (signD s).2 with
  | true =>
   exfalso
   have h1 := hat (sgnL 0)
   have h2 := hat (sgnL 1)
   rw [signs_at, hd] at h1 h2
   rw [if_pos rfl] at h1 h2
   rw [h1] at h2
   have h3 : Lit.int .i64 0 = Lit.int .i64 1 := DataW.lit.inj h2
   have := (Lit.int.inj h3).2
   omega
  | false =>
   have e1 : (signD s).1 = 0 := by
    unfold signD at hd ⊢
    split at hd <;> first | cases hd | skip
    split at hd <;> first | cases hd | skip
    split at hd <;> first | cases hd | skip
    split at hd <;> first | cases hd | skip
    rename_i a1 a2 a3 a4
    rw [if_neg a1, if_neg a2, if_neg a3, if_neg a4]
   rw [e1]
   rfl
 ·rw [hrun]
  rw [← hD] at hat
  obtain ⟨a, hva, hya, _⟩ := plainElem_int_inv Tryz.underlying3 hRv
  cases hd : (signD s).2 with
  | false =>
   exfalso
   have h1 := hat (sgnL 0)
   have h2 := hat (sgnL 1)
   rw [signs_at, hd] at h1 h2
   rw [if_neg (by simp)] at h1 h2
   rw [← h1] at h2
   have h3 : Lit.int .i64 1 = Lit.int .i64 0 := DataW.lit.inj h2
   have := (Lit.int.inj h3).2
   omega
  | true =>
   have h1 := hat (sgnL 0)
   rw [signs_at, hd, if_pos rfl, hya] at h1
   have h3 : Lit.int .i64 (signD s).1 = Lit.int .i64 a := DataW.lit.inj h1
   rw [hva, (Lit.int.inj h3).2]
   rfl
theorem below_ownS {g : Nat} {a w w' : World} (h : Below a.heap.size a w) (hg : w.grownBy w' (some g)) (hB : a.heap.size ≤ g) : Below a.heap.size a w' := h.grown hg h.size (fun b hb => by cases hb; exact hB)
set_option maxRecDepth 20000 in
theorem signs_any (w : World) :
  Calls Tryz.prog 28 #[] w fun e w' => e = .returned (.map (some w.heap.size)) ∧ w'.ownsMap Tryz.prog 9 sgR w.heap.size 4 signsD ∧ Below w.heap.size w w' := by
 have hmm := @run_makeMap Tryz.prog
 have HO := Lib.hid (World.ownsMap_made w Tryz.prog 9 sgR)
 have HB : Hid (Below w.heap.size w (w.alloc (.map #[] 0))) := (Below.refl _ w).alloc (Nat.le_refl _) _
 go_enter Tryz.func28, Tryz.ntmps28
 go_wp2_with (first
  | (refine wpList_insert_ownS _ rfl _ _ _ 59 rfl 9 3 str_lawS Tryz.underlying59 sgR w.heap.size 0 _ rfl HO.out (by unfold maxLen; omega) (.string ⟨#[125]⟩) (.int .i64 2) _ rfl rfl (str_keyS [125] (by decide)) _ [] (sgR_mk 2 (by decide)) ?_; intro w1 hown1 hgrow1; (have HO1 := Lib.hid hown1); (have HB1 : Hid (Below w.heap.size w w1) := below_ownS HB.out hgrow1 (Nat.le_refl _)); clear hown1 hgrow1)
  | (refine wpList_insert_ownS _ rfl _ _ _ 59 rfl 9 3 str_lawS Tryz.underlying59 sgR w.heap.size 1 _ rfl HO1.out (by unfold maxLen; omega) (.string ⟨#[58, 45]⟩) (.int .i64 3) _ rfl rfl (str_keyS [58, 45] (by decide)) _ [] (sgR_mk 3 (by decide)) ?_; intro w2 hown2 hgrow2; (have HO2 := Lib.hid hown2); (have HB2 : Hid (Below w.heap.size w w2) := below_ownS HB1.out hgrow2 (Nat.le_refl _)); clear hown2 hgrow2)
  | (refine wpList_insert_ownS _ rfl _ _ _ 59 rfl 9 3 str_lawS Tryz.underlying59 sgR w.heap.size 2 _ rfl HO2.out (by unfold maxLen; omega) (.string ⟨#[35]⟩) (.int .i64 5) _ rfl rfl (str_keyS [35] (by decide)) _ [] (sgR_mk 5 (by decide)) ?_; intro w3 hown3 hgrow3; (have HO3 := Lib.hid hown3); (have HB3 : Hid (Below w.heap.size w w3) := below_ownS HB2.out hgrow3 (Nat.le_refl _)); clear hown3 hgrow3)
  | (refine wpList_insert_ownS _ rfl _ _ _ 59 rfl 9 3 str_lawS Tryz.underlying59 sgR w.heap.size 3 _ rfl HO3.out (by unfold maxLen; omega) (.string ⟨#[37]⟩) (.int .i64 6) _ rfl rfl (str_keyS [37] (by decide)) _ [] (sgR_mk 6 (by decide)) ?_; intro w4 hown4 hgrow4; (have HO4 := Lib.hid hown4); (have HB4 : Hid (Below w.heap.size w w4) := below_ownS HB3.out hgrow4 (Nat.le_refl _)); clear hown4 hgrow4))
 go_ret
 exact ⟨rfl, HO4.out, HB4.out⟩
end Go.Proofs.YtelfgobjnibooaaGreatDoor
