/- Packed texts: ValReckon, UtMem, UtTab, UtLeaf, UtSub. What each of them proves stands above its theorems; the conditions stand in these. -/
import Derived.Laws.Rows
import Derived.Laws.Tables
import Derived.Maps.Own
import Derived.Maps.OwnOps
import Derived.Maps.OwnSet
import Derived.Maps.Views
import Derived.Shelf.Abstract
import Derived.StringKeys
import Derived.Test.YtjdollmfjflkoaaGreatDoorA7
import Derived.Test.YtjdollmfjflkoaaGreatDoorA8
namespace Go.Proofs.YtjdollmfjflkoaaGreatDoor
open Go.RowKit Go.Maps

/-- A function that stands in the table of operations, by its number. -/
def fnV (k : FuncId) : Value := .func (.func k) #[] #[]
def fnR (v : Value) : Option (DataW Unit × List MemPlace) := match v with
  | .func (.func k) ⟨[]⟩ ⟨[]⟩ => some (.lit (.int .i64 (k : Int)), [])
  | .nilFunc => some (.lit (.int .i64 (-1)), [])
  | _ => none
theorem fnR_mk (k : FuncId) : fnR (fnV k) = some (.lit (.int .i64 (k : Int)), []) := rfl
theorem fnR_inv {v : Value} {k : Nat} {ps : List MemPlace} (h : fnR v = some (.lit (.int .i64 (k : Int)), ps)) : v = fnV k := by
  unfold fnR at h
  split at h
  · rename_i j
    have := congrArg Prod.fst (Option.some.inj h)
    have h2 : (j : Int) = (k : Int) := by
      have h3 : Lit.int .i64 (j : Int) = Lit.int .i64 (k : Int) := DataW.lit.inj this
      exact (Lit.int.inj h3).2
    rw [Int.ofNat.inj h2]; rfl
  · have := congrArg Prod.fst (Option.some.inj h)
    have h3 : Lit.int .i64 (-1) = Lit.int .i64 (k : Int) := DataW.lit.inj this
    have := (Lit.int.inj h3).2
    omega
  · cases h

theorem wpList_insert_own {H : Type} {P : Program} (w : World) {ops : Array Oper} {rest : List Oper} {o : Oper} {a : Act} {Q : Exit → Act → World → Prop}
    (hg : o.guard = none) (m x v : Operand) (t : TypeId) (hop : o.op = Op.insert t m x v)
    (k e : TypeId) (K : Keyed P k) (ht : P.underlying t = some (.map k e)) (R : Value → Option (DataW H × List MemPlace)) (b n : Nat) (D : DataW H)
    (hm : a.eval m = .map (some b)) (hown : w.ownsMap P k R b n D) (hn : n < maxLen) (key val : Value) (kl : Lit) (hx : a.eval x = key) (hv : a.eval v = val) (hkey : keyOf P k key = some kl)
    (d : DataW H) (ps : List MemPlace) (hval : R val = some (d, ps))
    (hK : ∀ w', w'.ownsMap P k R b (n + 1) (D.put kl d) → w.grownBy w' (some b) → wpList P ops Q rest (a.put o.dst undef) w') :
    wpList P ops Q (o :: rest) a w := by
  refine wpList_plain hg fun K' hK' => ?_
  obtain ⟨w', hrun, r1, r2⟩ := hown.update K ht hn hkey hval
  unfold Oper.wp
  simp [execOp, hop, hm, hx, hv, hrun, Result.andThen]
  exact hK' _ _ (hK w' r1 r2)

def opsD : DataW Unit := (((((DataW.map []).put (.int .u8 43) (.lit (.int .i64 ((118 : Nat) : Int)))).put (.int .u8 45) (.lit (.int .i64 ((119 : Nat) : Int)))).put (.int .u8 42) (.lit (.int .i64 ((120 : Nat) : Int)))).put (.int .u8 47) (.lit (.int .i64 ((121 : Nat) : Int)))).put (.int .u8 37) (.lit (.int .i64 ((122 : Nat) : Int)))
theorem below_own {g : Nat} {a w w' : World} (h : Below a.heap.size a w) (hg : w.grownBy w' (some g)) (hB : a.heap.size ≤ g) : Below a.heap.size a w' := h.grown hg h.size (fun b hb => by cases hb; exact hB)
theorem u8_key (x : Int) (h : (Lit.int .u8 x).wf = true) : keyOf Tryz.prog 5 (.int .u8 x) = some (.int .u8 x) := keyOf_int_mk Tryz.underlying5 h
theorem u8_law : Keyed Tryz.prog 5 := int_keyed Tryz.underlying5
set_option maxRecDepth 20000 in
theorem operations_any (w : World) :
    Calls Tryz.prog 88 #[] w fun e w' => e = .returned (.map (some w.heap.size)) ∧ w'.ownsMap Tryz.prog 5 fnR w.heap.size 5 opsD ∧ Below w.heap.size w w' := by
  have hmm := @run_makeMap Tryz.prog
  have HO := Lib.hid (World.ownsMap_made w Tryz.prog 5 fnR)
  have HB : Hid (Below w.heap.size w (w.alloc (.map #[] 0))) := (Below.refl _ w).alloc (Nat.le_refl _) _
  go_enter Tryz.func88, Tryz.ntmps88
  go_wp2_with (first
    | (refine wpList_insert_own _ rfl _ _ _ 96 rfl 5 94 u8_law Tryz.underlying96 fnR w.heap.size 0 _ rfl HO.out (by unfold maxLen; omega) (.int .u8 43) (fnV 118) _ rfl rfl (u8_key 43 (by decide)) _ [] (fnR_mk _) ?_; intro w1 hown1 hgrow1; (have HO1 := Lib.hid hown1); (have HB1 : Hid (Below w.heap.size w w1) := below_own HB.out hgrow1 (Nat.le_refl _)); clear hown1 hgrow1)
    | (refine wpList_insert_own _ rfl _ _ _ 96 rfl 5 94 u8_law Tryz.underlying96 fnR w.heap.size 1 _ rfl HO1.out (by unfold maxLen; omega) (.int .u8 45) (fnV 119) _ rfl rfl (u8_key 45 (by decide)) _ [] (fnR_mk _) ?_; intro w2 hown2 hgrow2; (have HO2 := Lib.hid hown2); (have HB2 : Hid (Below w.heap.size w w2) := below_own HB1.out hgrow2 (Nat.le_refl _)); clear hown2 hgrow2)
    | (refine wpList_insert_own _ rfl _ _ _ 96 rfl 5 94 u8_law Tryz.underlying96 fnR w.heap.size 2 _ rfl HO2.out (by unfold maxLen; omega) (.int .u8 42) (fnV 120) _ rfl rfl (u8_key 42 (by decide)) _ [] (fnR_mk _) ?_; intro w3 hown3 hgrow3; (have HO3 := Lib.hid hown3); (have HB3 : Hid (Below w.heap.size w w3) := below_own HB2.out hgrow3 (Nat.le_refl _)); clear hown3 hgrow3)
    | (refine wpList_insert_own _ rfl _ _ _ 96 rfl 5 94 u8_law Tryz.underlying96 fnR w.heap.size 3 _ rfl HO3.out (by unfold maxLen; omega) (.int .u8 47) (fnV 121) _ rfl rfl (u8_key 47 (by decide)) _ [] (fnR_mk _) ?_; intro w4 hown4 hgrow4; (have HO4 := Lib.hid hown4); (have HB4 : Hid (Below w.heap.size w w4) := below_own HB3.out hgrow4 (Nat.le_refl _)); clear hown4 hgrow4)
    | (refine wpList_insert_own _ rfl _ _ _ 96 rfl 5 94 u8_law Tryz.underlying96 fnR w.heap.size 4 _ rfl HO4.out (by unfold maxLen; omega) (.int .u8 37) (fnV 122) _ rfl rfl (u8_key 37 (by decide)) _ [] (fnR_mk _) ?_; intro w5 hown5 hgrow5; (have HO5 := Lib.hid hown5); (have HB5 : Hid (Below w.heap.size w w5) := below_own HB4.out hgrow5 (Nat.le_refl _)); clear hown5 hgrow5))
  go_ret
  exact ⟨rfl, HO5.out, HB5.out⟩

/-- What an operation answers, by its sign. -/
def opN (op x y : Int) : Int × Int :=
  if op = 43 then into (x + y)
  else if op = 45 then into (x - y)
  else if op = 42 then into ((x * y).tdiv 1000000)
  else if op = 47 then (if y = 0 then (0, 4) else into ((x * 1000000).tdiv y))
  else (if y = 0 then (0, 4) else (x.tmod y, 0))
def isOp (op : Int) : Bool := op = 43 ∨ op = 45 ∨ op = 42 ∨ op = 47 ∨ op = 37
def reckonD (op : Int) (a b : List UInt8) : List UInt8 × Int :=
  if isOp op then
    (if (numberD a).2 ≠ 0 then ([], (numberD a).2)
    else if (numberD b).2 ≠ 0 then ([], (numberD b).2)
    else if (opN op (numberD a).1 (numberD b).1).2 ≠ 0 then ([], (opN op (numberD a).1 (numberD b).1).2)
    else (textL (opN op (numberD a).1 (numberD b).1).1, 0))
  else ([], 1)
def fnOf (op : Int) : Nat := if op = 43 then 118 else if op = 45 then 119 else if op = 42 then 120 else if op = 47 then 121 else 122
theorem opsD_has (op : Int) (h : isOp op = true) : Maps.has opsD (.int .u8 op) = true ∧ ∀ z, opsD.atKey (.int .u8 op) z = .lit (.int .i64 ((fnOf op : Nat) : Int)) := by
  have hh : op = 43 ∨ op = 45 ∨ op = 42 ∨ op = 47 ∨ op = 37 := by simpa [isOp] using h
  rcases hh with rfl | rfl | rfl | rfl | rfl
  all_goals exact ⟨by decide, fun z => rfl⟩
theorem opsD_not (op : Int) (h : isOp op = false) : Maps.has opsD (.int .u8 op) = false := by
  have hh : ¬ (op = 43 ∨ op = 45 ∨ op = 42 ∨ op = 47 ∨ op = 37) := by simpa [isOp] using h
  have hne : ∀ k : Int, op ≠ k → (Lit.int .u8 op) ≠ (Lit.int .u8 k) := fun k h e => h (Lit.int.inj e).2
  unfold opsD
  rw [has_put_other (hne _ (by omega)), has_put_other (hne _ (by omega)), has_put_other (hne _ (by omega)), has_put_other (hne _ (by omega)), has_put_other (hne _ (by omega))]
  rfl
theorem zeroF (w : World) : (zeroValue 94).run Tryz.prog w = .ok .nilFunc w := by kernel_rfl
theorem opN_bounds (op x y : Int) (hx : -9223372036854775808 ≤ x ∧ x ≤ 9223372036854775807) (h : (opN op x y).2 = 0) : -9223372036854775808 ≤ (opN op x y).1 ∧ (opN op x y).1 ≤ 9223372036854775807 := by
  have hi : ∀ z : Int, (into z).2 = 0 → -9223372036854775808 ≤ (into z).1 ∧ (into z).1 ≤ 9223372036854775807 := by
    intro z hz
    unfold into at *
    split
    · rename_i h1; exact h1
    · exact ⟨by simp only; omega, by simp only; omega⟩
  unfold opN at *
  split at h
  · rw [if_pos (by assumption)]; exact hi _ h
  · rw [if_neg (by assumption)]
    split at h
    · rw [if_pos (by assumption)]; exact hi _ h
    · rw [if_neg (by assumption)]
      split at h
      · rw [if_pos (by assumption)]; exact hi _ h
      · rw [if_neg (by assumption)]
        split at h
        · rw [if_pos (by assumption)]
          split at h
          · exact absurd h (by decide)
          · rw [if_neg (by assumption)]; exact hi _ h
        · rw [if_neg (by assumption)]
          split at h
          · exact absurd h (by decide)
          · rw [if_neg (by assumption)]
            have h1 : (x.tmod y).natAbs = x.natAbs % y.natAbs := Int.natAbs_tmod x y
            have h2 : x.natAbs % y.natAbs ≤ x.natAbs := Nat.mod_le _ _
            have h3 : 0 ≤ x → 0 ≤ x.tmod y := fun h => Int.tmod_nonneg _ h
            show -9223372036854775808 ≤ x.tmod y ∧ x.tmod y ≤ 9223372036854775807
            by_cases hx0 : 0 ≤ x
            · have := h3 hx0; omega
            · have h4 := Int.tmod_nonneg y (show 0 ≤ -x by omega)
              rw [Int.neg_tmod] at h4
              omega
def callE (p : Int × Int) : Ending := .returned (.tuple #[.int .i64 p.1, .int .i64 p.2])
theorem fn_any (op x y : Int) (w : World) (h : isOp op = true) (hx : -9223372036854775808 ≤ x ∧ x ≤ 9223372036854775807) (hy : -9223372036854775808 ≤ y ∧ y ≤ 9223372036854775807) :
    Calls Tryz.prog (fnOf op) #[.int .i64 x, .int .i64 y] w fun e w' => e = callE (opN op x y) ∧ Below w.heap.size w w' := by
  have hh : op = 43 ∨ op = 45 ∨ op = 42 ∨ op = 47 ∨ op = 37 := by simpa [isOp] using h
  rcases hh with rfl | rfl | rfl | rfl | rfl
  · exact add_any x y w hx hy
  · exact sub_any x y w hx hy
  · exact mul_any x y w hx hy
  · by_cases h0 : y = 0
    · subst h0; exact div_zero x w
    · show Calls _ _ _ _ fun e w' => e = callE (if y = 0 then (0, 4) else into ((x * 1000000).tdiv y)) ∧ _
      rw [if_neg h0]; exact div_any x y w hx hy h0
  · by_cases h0 : y = 0
    · subst h0; exact mod_zero x w
    · show Calls _ _ _ _ fun e w' => e = callE (if y = 0 then (0, 4) else (x.tmod y, 0)) ∧ _
      rw [if_neg h0]; exact mod_any x y w h0

theorem reckon_none (op : Int) (a b : ByteArray) (w : World) (hop : (Lit.int .u8 op).wf = true) (h : isOp op = false) :
    Calls Tryz.prog 62 #[.int .u8 op, .string a, .string b] w fun e w' => e = .returned (.tuple #[.string ⟨#[]⟩, .int .i64 1]) ∧ Below w.heap.size w w' := by
  have HH := Lib.hid (opsD_not op h)
  have HK := Lib.hid (u8_key op hop)
  clear h hop
  go_enter Tryz.func62, Tryz.ntmps62
  go_wp2_with (first
    | (go_at_call 88; refine (operations_any _).mono ?_; rintro e w1 ⟨rfl, hown, hb1⟩; (have HO := Lib.hid hown); clear hown)
    | (refine wpList_lookup_own_ok _ rfl _ _ 96 rfl 5 94 u8_law Tryz.underlying96 fnR (zeroF _) _ [] rfl _ 5 _ rfl HO.out (.int .u8 op) _ rfl HK.out ?_; intro v ps _; rw [HH.out]))
  go_ret2
  exact ⟨rfl, hb1⟩

set_option maxRecDepth 20000 in
theorem reckon_walk (op : Int) (k : FuncId) (a b : ByteArray) (n m r ea eb er : Int) (T : ByteArray) (w : World) (ht : Tab w)
    (HL : Hid (Maps.has opsD (.int .u8 op) = true ∧ (∀ v ps, fnR v = some (opsD.atKey (.int .u8 op) (.lit (.int .i64 (-1))), ps) → v = .func (.func k) #[] #[]) ∧ keyOf Tryz.prog 5 (.int .u8 op) = some (.int .u8 op)))
    (he : ∀ args w, (callFunc k args).run Tryz.prog w = .ok (.enter k args) w)
    (k1 : ∀ w, Calls Tryz.prog 89 #[.string a] w fun e w' => e = .returned (.tuple #[.int .i64 n, .int .i64 ea]) ∧ Below w.heap.size w w')
    (k2 : ∀ w, Calls Tryz.prog 89 #[.string b] w fun e w' => e = .returned (.tuple #[.int .i64 m, .int .i64 eb]) ∧ Below w.heap.size w w')
    (k3 : ((ea : Int) != 0) = false → ((eb : Int) != 0) = false → ∀ w, Calls Tryz.prog k #[.int .i64 n, .int .i64 m] w fun e w' => e = .returned (.tuple #[.int .i64 r, .int .i64 er]) ∧ Below w.heap.size w w')
    (k4 : ((ea : Int) != 0) = false → ((eb : Int) != 0) = false → ((er : Int) != 0) = false → ∀ w, Tab w → Calls Tryz.prog 90 #[.int .i64 r] w fun e w' => e = .returned (.string T) ∧ Below w.heap.size w w')
    (R : ByteArray) (E : Int) (h : ((ea : Int) != 0) = true ∧ R = ⟨#[]⟩ ∧ E = ea ∨ ((ea : Int) != 0) = false ∧ ((eb : Int) != 0) = true ∧ R = ⟨#[]⟩ ∧ E = eb ∨ ((ea : Int) != 0) = false ∧ ((eb : Int) != 0) = false ∧ ((er : Int) != 0) = true ∧ R = ⟨#[]⟩ ∧ E = er ∨
      ((ea : Int) != 0) = false ∧ ((eb : Int) != 0) = false ∧ ((er : Int) != 0) = false ∧ R = T ∧ E = 0) :
    Calls Tryz.prog 62 #[.int .u8 op, .string a, .string b] w fun e w' => e = .returned (.tuple #[.string R, .int .i64 E]) ∧ Below w.heap.size w w' := by
  have HT := Lib.hid ht
  clear ht
  rcases h with ⟨h1, rfl, rfl⟩ | ⟨h1, h2, rfl, rfl⟩ | ⟨h1, h2, h3, rfl, rfl⟩ | ⟨h1, h2, h3, rfl, rfl⟩
  · clear k2 k3 k4
    go_enter Tryz.func62, Tryz.ntmps62
    go_wp2_with (first
      | (go_at_call 88; refine (operations_any _).mono ?_; rintro e w1 ⟨rfl, hown, hb1⟩; (have HO := Lib.hid hown); clear hown)
      | (refine wpList_lookup_own_ok _ rfl _ _ 96 rfl 5 94 u8_law Tryz.underlying96 fnR (zeroF _) _ [] rfl _ 5 _ rfl HO.out (.int .u8 op) _ rfl HL.out.2.2 ?_; intro v ps hv; obtain rfl := HL.out.2.1 v ps hv; clear hv; rw [HL.out.1])
      | (go_at_call 89; refine (k1 _).mono ?_; rintro e w2 ⟨rfl, hb2⟩))
    go_ret2
    exact ⟨rfl, below_at hb1 hb2 hb1.size⟩
  · clear k3 k4
    go_enter Tryz.func62, Tryz.ntmps62
    go_wp2_with (first
      | (go_at_call 88; refine (operations_any _).mono ?_; rintro e w1 ⟨rfl, hown, hb1⟩; (have HO := Lib.hid hown); clear hown)
      | (refine wpList_lookup_own_ok _ rfl _ _ 96 rfl 5 94 u8_law Tryz.underlying96 fnR (zeroF _) _ [] rfl _ 5 _ rfl HO.out (.int .u8 op) _ rfl HL.out.2.2 ?_; intro v ps hv; obtain rfl := HL.out.2.1 v ps hv; clear hv; rw [HL.out.1])
      | (go_at_call 89; (with_reducible refine (k1 _).mono ?_); rintro e w2 ⟨rfl, hb2⟩; have HB2 := below_at hb1 hb2 hb1.size)
      | (go_at_call 89; (with_reducible refine (k2 _).mono ?_); rintro e w3 ⟨rfl, hb3⟩; have HB3 := below_at HB2 hb3 HB2.size))
    go_ret2
    exact ⟨rfl, HB3⟩
  · have k3' := k3 h1 h2
    clear k3 k4
    go_enter Tryz.func62, Tryz.ntmps62
    go_wp2_with (first
      | (go_at_call 88; refine (operations_any _).mono ?_; rintro e w1 ⟨rfl, hown, hb1⟩; (have HO := Lib.hid hown); clear hown)
      | (refine wpList_lookup_own_ok _ rfl _ _ 96 rfl 5 94 u8_law Tryz.underlying96 fnR (zeroF _) _ [] rfl _ 5 _ rfl HO.out (.int .u8 op) _ rfl HL.out.2.2 ?_; intro v ps hv; obtain rfl := HL.out.2.1 v ps hv; clear hv; rw [HL.out.1])
      | (go_at_call 89; (with_reducible refine (k1 _).mono ?_); rintro e w2 ⟨rfl, hb2⟩; have HB2 := below_at hb1 hb2 hb1.size)
      | (go_at_call 89; (with_reducible refine (k2 _).mono ?_); rintro e w3 ⟨rfl, hb3⟩; have HB3 := below_at HB2 hb3 HB2.size)
      | (go_at_fn k; refine (k3' _).mono ?_; rintro e w4 ⟨rfl, hb4⟩; have HB4 := below_at HB3 hb4 HB3.size))
    go_ret2
    exact ⟨rfl, HB4⟩
  · have k3' := k3 h1 h2
    have k4' := k4 h1 h2 h3
    clear k3 k4
    go_enter Tryz.func62, Tryz.ntmps62
    go_wp2_with (first
      | (go_at_call 88; refine (operations_any _).mono ?_; rintro e w1 ⟨rfl, hown, hb1⟩; (have HO := Lib.hid hown); clear hown)
      | (refine wpList_lookup_own_ok _ rfl _ _ 96 rfl 5 94 u8_law Tryz.underlying96 fnR (zeroF _) _ [] rfl _ 5 _ rfl HO.out (.int .u8 op) _ rfl HL.out.2.2 ?_; intro v ps hv; obtain rfl := HL.out.2.1 v ps hv; clear hv; rw [HL.out.1])
      | (go_at_call 89; (with_reducible refine (k1 _).mono ?_); rintro e w2 ⟨rfl, hb2⟩; have HB2 := below_at hb1 hb2 hb1.size)
      | (go_at_call 89; (with_reducible refine (k2 _).mono ?_); rintro e w3 ⟨rfl, hb3⟩; have HB3 := below_at HB2 hb3 HB2.size)
      | (go_at_fn k; refine (k3' _).mono ?_; rintro e w4 ⟨rfl, hb4⟩; have HB4 := below_at HB3 hb4 HB3.size)
      | (go_at_call 90; refine (k4' _ (HT.out.below HB4)).mono ?_; rintro e w5 ⟨rfl, hb5⟩; have HB5 := below_at HB4 hb5 HB4.size))
    go_ret2
    exact ⟨rfl, HB5⟩

def reckonE (op : Int) (a b : List UInt8) : Ending := .returned (.tuple #[.string (ba (reckonD op a b).1), .int .i64 (reckonD op a b).2])
theorem fn_enters (op : Int) (h : isOp op = true) : ∀ args w, (callFunc (fnOf op) args).run Tryz.prog w = .ok (.enter (fnOf op) args) w := by
  have hh : op = 43 ∨ op = 45 ∨ op = 42 ∨ op = 47 ∨ op = 37 := by simpa [isOp] using h
  rcases hh with rfl | rfl | rfl | rfl | rfl
  · exact enters_of Tryz.func118 (by kernel_rfl) rfl
  · exact enters_of Tryz.func119 (by kernel_rfl) rfl
  · exact enters_of Tryz.func120 (by kernel_rfl) rfl
  · exact enters_of Tryz.func121 (by kernel_rfl) rfl
  · exact enters_of Tryz.func122 (by kernel_rfl) rfl
theorem reckon_any (op : Int) (a b : ByteArray) (w : World) (ha : a.size ≤ 30000000000000) (hb : b.size ≤ 30000000000000) (hop : (Lit.int .u8 op).wf = true) (ht : Tab w) :
    Calls Tryz.prog 62 #[.int .u8 op, .string a, .string b] w fun e w' => e = reckonE op a.data.toList b.data.toList ∧ Below w.heap.size w w' := by
  cases h : isOp op with
  | false =>
    have hE : reckonE op a.data.toList b.data.toList = .returned (.tuple #[.string ⟨#[]⟩, .int .i64 1]) := by unfold reckonE reckonD; rw [h]; rfl
    rw [hE]
    exact reckon_none op a b w hop h
  | true =>
    obtain ⟨g1, g2⟩ := opsD_has op h
    have hna : ((numberD a.data.toList).2 != 0) = false → -9223372036854775808 ≤ (numberD a.data.toList).1 ∧ (numberD a.data.toList).1 ≤ 9223372036854775807 := by
      intro _
      rcases numberD_cases a.data.toList with ⟨_, h⟩ | ⟨_, h⟩
      · exact h
      · rw [h]; omega
    have hnb : ((numberD b.data.toList).2 != 0) = false → -9223372036854775808 ≤ (numberD b.data.toList).1 ∧ (numberD b.data.toList).1 ≤ 9223372036854775807 := by
      intro _
      rcases numberD_cases b.data.toList with ⟨_, h⟩ | ⟨_, h⟩
      · exact h
      · rw [h]; omega
    refine reckon_walk op (fnOf op) a b (numberD a.data.toList).1 (numberD b.data.toList).1 (opN op (numberD a.data.toList).1 (numberD b.data.toList).1).1 (numberD a.data.toList).2 (numberD b.data.toList).2 (opN op (numberD a.data.toList).1 (numberD b.data.toList).1).2
      (ba (textL (opN op (numberD a.data.toList).1 (numberD b.data.toList).1).1)) w ht ⟨g1, fun v ps hv => fnR_inv (by rw [g2] at hv; exact hv), u8_key op hop⟩ (fn_enters op h) (fun w => numberV_any a w ha) (fun w => numberV_any b w hb)
      (fun p q w => fn_any op _ _ w h (hna p) (hnb q)) (fun p q r w ht => text_any _ w (opN_bounds op _ _ (hna p) (by simpa using r)) ht) _ _ ?_
    unfold reckonD
    rw [h]
    simp only [if_true]
    by_cases e1 : (numberD a.data.toList).2 = 0
    · have f1 : ((numberD a.data.toList).2 != 0) = false := by rw [e1]; rfl
      rw [if_neg (by rw [e1]; simp)]
      by_cases e2 : (numberD b.data.toList).2 = 0
      · have f2 : ((numberD b.data.toList).2 != 0) = false := by rw [e2]; rfl
        rw [if_neg (by rw [e2]; simp)]
        by_cases e3 : (opN op (numberD a.data.toList).1 (numberD b.data.toList).1).2 = 0
        · have f3 : ((opN op (numberD a.data.toList).1 (numberD b.data.toList).1).2 != 0) = false := by rw [e3]; rfl
          rw [if_neg (by rw [e3]; simp)]
          exact .inr (.inr (.inr ⟨f1, f2, f3, rfl, rfl⟩))
        · rw [if_pos e3]
          exact .inr (.inr (.inl ⟨f1, f2, bne_iff_ne.2 e3, rfl, rfl⟩))
      · rw [if_pos e2]
        exact .inr (.inl ⟨f1, bne_iff_ne.2 e2, rfl, rfl⟩)
    · rw [if_pos e1]
      exact .inl ⟨bne_iff_ne.2 e1, rfl, rfl⟩
end Go.Proofs.YtjdollmfjflkoaaGreatDoor
namespace Go.Proofs.YtjdollmfjflkoaaGreatDoor
open Go.RowKit Go.Lib Go.Maps Go.WideElems

def heldR (v : Value) : Option (DataW Value × List MemPlace) := some (.held v, [])
/-- An entry: its name, its function. -/
structure Ent where
  key : List UInt8
  v : Value
def putE (D : DataW Value) (e : Ent) : DataW Value := D.put (.string e.key) (.held e.v)
def entD (es : List Ent) : DataW Value := es.foldl putE (.map [])
def lookE (k : List UInt8) (o : Option Value) (e : Ent) : Option Value := if k = e.key then some e.v else o
def look (es : List Ent) (k : List UInt8) : Option Value := es.foldl (lookE k) none
theorem isKeyU (s : List UInt8) : WideAt.IsKeyLit (.string s) := by unfold WideAt.IsKeyLit; trivial
theorem foldl_ent (k : List UInt8) : ∀ (es : List Ent) (D : DataW Value) (o : Option Value), IsMap D → (∀ z, D.atKey (.string k) z = (match o with | some v => .held v | none => z)) → Maps.has D (.string k) = o.isSome →
    IsMap (es.foldl putE D) ∧ (∀ z, (es.foldl putE D).atKey (.string k) z = (match es.foldl (lookE k) o with | some v => .held v | none => z)) ∧ Maps.has (es.foldl putE D) (.string k) = (es.foldl (lookE k) o).isSome
  | [], D, o, h1, h2, h3 => ⟨h1, h2, h3⟩
  | e :: es, D, o, h1, h2, h3 => by
    rw [List.foldl_cons, List.foldl_cons]
    refine foldl_ent k es (putE D e) (lookE k o e) (h1.put _ _) ?_ ?_
    · intro z
      unfold putE lookE
      by_cases h : k = e.key
      · rw [if_pos h, h, atKey_put_same h1 (isKeyU _)]
      · rw [if_neg h, atKey_put_other (fun he => h (Lit.string.inj he)), h2]
    · unfold putE lookE
      by_cases h : k = e.key
      · rw [if_pos h, h, has_put_same h1 (isKeyU _)]; rfl
      · rw [if_neg h, has_put_other (fun he => h (Lit.string.inj he)), h3]
theorem ent_look (es : List Ent) (k : List UInt8) : (∀ z, (entD es).atKey (.string k) z = (match look es k with | some v => .held v | none => z)) ∧ Maps.has (entD es) (.string k) = (look es k).isSome :=
  (foldl_ent k es (.map []) none isMap_empty (fun _ => rfl) rfl).2
theorem entD_snoc (es : List Ent) (e : Ent) : entD (es ++ [e]) = (entD es).put (.string e.key) (.held e.v) := by unfold entD; rw [List.foldl_append]; rfl
theorem str_lawU : Keyed Tryz.prog 9 := string_keyed Tryz.underlying9
theorem str_keyU (s : List UInt8) (h : s.length ≤ maxLen) : keyOf Tryz.prog 9 (.string ⟨s.toArray⟩) = some (.string s) := by
  have := WideMaps.keyOf_string_mk (P := Tryz.prog) (s := ⟨s.toArray⟩) Tryz.underlying9 (by rw [show (⟨s.toArray⟩ : ByteArray).size = s.length by simp [ByteArray.size]]; exact h)
  simpa using this
theorem zeroU (w : World) : (zeroValue 43).run Tryz.prog w = .ok .nilFunc w := by kernel_rfl

/-- A map of utilities in the making, in block m, behind the world w0; ks: blocks of one cell beside it, and what they hold. -/
structure UI (w0 : World) (m n : Nat) (es : List Ent) (ks : List (Nat × Value)) (w : World) : Prop where
  own : w.ownsMap Tryz.prog 9 heldR m n (entD es)
  low : w0.heap.size ≤ m
  below : Below w0.heap.size w0 w
  cells : ∀ x ∈ ks, x.1 ≠ m ∧ x.1 < w.heap.size ∧ w.cell? ⟨x.1, 0, none⟩ = some x.2
theorem UI.later {w0 w w' : World} {m n : Nat} {es : List Ent} {ks : List (Nat × Value)} (h : UI w0 m n es ks w) (hb : Below w.heap.size w w') : UI w0 m n es ks w' := by
  refine ⟨?_, h.low, below_at h.below hb h.below.size, fun x hx => ?_⟩
  · obtain ⟨a, b, h1, h2⟩ := h.own
    exact ⟨a, b, by rw [hb.block m h.own.lt]; exact h1, h2⟩
  · obtain ⟨g1, g2, g3⟩ := h.cells x hx
    exact ⟨g1, Nat.lt_of_lt_of_le g2 hb.size, by rw [hb.cell g2]; exact g3⟩
theorem UI.made (w0 w : World) (m : Nat) (hm : m = w.heap.size) (ks : List (Nat × Value)) (h : Below w0.heap.size w0 w) (hk : ∀ x ∈ ks, x.1 < w.heap.size ∧ w.cell? ⟨x.1, 0, none⟩ = some x.2) : UI w0 m 0 [] ks (w.alloc (.map #[] 0)) := by
  subst hm
  refine ⟨World.ownsMap_made w _ _ _, h.size, h.alloc h.size _, fun x hx => ?_⟩
  obtain ⟨h1, h2⟩ := hk x hx
  exact ⟨by omega, by rw [World.size_alloc]; omega, by rw [World.cell?_alloc_past _ _ _ h1]; exact h2⟩
/-- A new block with one cell. -/
def NewC (w w' : World) (b : Nat) (f : Value) : Prop := b = w.heap.size ∧ Below w.heap.size w w' ∧ b < w'.heap.size ∧ w'.cell? ⟨b, 0, none⟩ = some f
theorem newC_mk (w : World) (f : Value) (t : TypeId) : NewC w (w.alloc (.cells #[f] t)) w.heap.size f := by
  refine ⟨rfl, (Below.refl _ w).alloc (Nat.le_refl _) _, by rw [World.size_alloc]; exact Nat.lt_succ_self _, ?_⟩
  rw [World.cell?_alloc_at _ _ _ _ rfl]
  rfl
theorem UI.new {w0 w w' : World} {m n b : Nat} {f : Value} {es : List Ent} {ks : List (Nat × Value)} (h : UI w0 m n es ks w) (hn : NewC w w' b f) : UI w0 m n es ((b, f) :: ks) w' := by
  obtain ⟨rfl, h1, h2, h3⟩ := hn
  have hl := h.later h1
  refine ⟨hl.own, hl.low, hl.below, fun x hx => ?_⟩
  rcases List.mem_cons.1 hx with rfl | hx
  · exact ⟨fun he => absurd h.own.lt (by simp only at he; omega), h2, h3⟩
  · exact hl.cells x hx
theorem wpList_insert_U {w0 w : World} {ops : Array Oper} {rest : List Oper} {o : Oper} {a : Act} {Q : Exit → Act → World → Prop}
    (hg : o.guard = none) (m x v : Operand) (hop : o.op = Op.insert 45 m x v) (b n : Nat) (es : List Ent) (ks : List (Nat × Value)) (hU : UI w0 b n es ks w) (hn : n < 100)
    (hm : a.eval m = .map (some b)) (key : List UInt8) (val : Value) (hx : a.eval x = .string ⟨key.toArray⟩) (hv : a.eval v = val) (hk : key.length ≤ 100)
    (hK : ∀ w', UI w0 b (n + 1) (es ++ [⟨key, val⟩]) ks w' → wpList Tryz.prog ops Q rest (a.put o.dst undef) w') : wpList Tryz.prog ops Q (o :: rest) a w := by
  refine wpList_insert_own w hg m x v 45 hop 9 43 str_lawU Tryz.underlying45 heldR b n (entD es) hm hU.own (by unfold maxLen; omega) (.string ⟨key.toArray⟩) val (.string key) hx hv
    (str_keyU key (by unfold maxLen; omega)) (.held val) [] rfl (fun w' h1 h2 => hK w' ⟨?_, hU.low, ?_, ?_⟩)
  · rw [entD_snoc]
    exact h1
  · exact hU.below.grown h2 hU.below.size (fun g hg => by cases hg; exact hU.low)
  · intro y hy
    obtain ⟨g1, g2, g3⟩ := hU.cells y hy
    refine ⟨g1, Nat.lt_of_lt_of_le g2 h2.size, ?_⟩
    rw [World.cell?_of_block (w := w) (h2.block y.1 g2 (fun he => g1 (Option.some.inj he)))]
    exact g3
/-- What a name finds there. -/
theorem wpList_lookup_U {w0 w : World} {ops : Array Oper} {rest : List Oper} {o : Oper} {a : Act} {Q : Exit → Act → World → Prop}
    (hg : o.guard = none) (m x : Operand) (hop : o.op = Op.lookup 45 m x true) (b n : Nat) (es : List Ent) (ks : List (Nat × Value)) (hU : UI w0 b n es ks w)
    (hm : a.eval m = .map (some b)) (key : ByteArray) (hx : a.eval x = .string key) (hk : key.size ≤ maxLen) (v : Value) (y : Bool)
    (hl : (match look es key.data.toList with | some u => (u, true) | none => (.nilFunc, false)) = (v, y))
    (hK : wpList Tryz.prog ops Q rest (a.put o.dst (.tuple #[v, .bool y])) w) : wpList Tryz.prog ops Q (o :: rest) a w := by
  have hkey : keyOf Tryz.prog 9 (.string key) = some (.string key.data.toList) := WideMaps.keyOf_string_mk Tryz.underlying9 hk
  obtain ⟨g1, g2⟩ := ent_look es key.data.toList
  refine wpList_lookup_own_ok w hg m x 45 hop 9 43 str_lawU Tryz.underlying45 heldR (zeroU w) (.held .nilFunc) [] rfl b n (entD es) hm hU.own (.string key) (.string key.data.toList) hx hkey ?_
  intro u ps hu
  rw [g1] at hu
  rw [g2]
  cases h : look es key.data.toList with
  | none =>
    rw [h] at hu hl
    have h1 := congrArg Prod.fst (Option.some.inj hu)
    obtain rfl : u = .nilFunc := DataW.held.inj h1
    obtain ⟨rfl, rfl⟩ := Prod.mk.inj hl
    exact hK
  | some u' =>
    rw [h] at hu hl
    have h1 := congrArg Prod.fst (Option.some.inj hu)
    obtain rfl : u = u' := DataW.held.inj h1
    obtain ⟨rfl, rfl⟩ := Prod.mk.inj hl
    exact hK

theorem UI.run {w0 w : World} {m n : Nat} {es : List Ent} {ks : List (Nat × Value)} (hU : UI w0 m n es ks w) (key : ByteArray) (hk : key.size ≤ maxLen) (v : Value) (y : Bool)
    (hl : (match look es key.data.toList with | some u => (u, true) | none => (.nilFunc, false)) = (v, y)) : (Instr.lookup 45 (.map (some m)) (.string key) true).run Tryz.prog w = .ok (.tuple #[v, .bool y]) w := by
  have hkey : keyOf Tryz.prog 9 (.string key) = some (.string key.data.toList) := WideMaps.keyOf_string_mk Tryz.underlying9 hk
  obtain ⟨g1, g2⟩ := ent_look es key.data.toList
  obtain ⟨u, ps, h1, hu⟩ := hU.own.look_ok str_lawU Tryz.underlying45 (zeroU w) (zd := .held .nilFunc) (zp := []) rfl hkey
  rw [g1] at hu
  rw [h1, g2]
  cases h : look es key.data.toList with
  | none =>
    rw [h] at hu hl
    obtain rfl : u = .nilFunc := DataW.held.inj (congrArg Prod.fst (Option.some.inj hu))
    obtain ⟨rfl, rfl⟩ := Prod.mk.inj hl
    rfl
  | some u' =>
    rw [h] at hu hl
    obtain rfl : u = u' := DataW.held.inj (congrArg Prod.fst (Option.some.inj hu))
    obtain ⟨rfl, rfl⟩ := Prod.mk.inj hl
    rfl

/-! ### Functions that hold on to a function -/
def cloV (k b : Nat) : Value := .func (.func k) #[] #[.pointer (some ⟨b, 0, none⟩)]
theorem oneU_any (k : Nat) (x y : Array Value) (w : World) : Calls Tryz.prog 36 #[.func (.func k) x y] w fun e w' => ∃ b, e = .returned (cloV 55 b) ∧ NewC w w' b (.func (.func k) x y) := by
  have hmf : ∀ (fn : Fn) (first cap : Array Value) (w : World), (Instr.makeFunc fn first cap).run Tryz.prog w = .ok (.func fn first cap) w := fun _ _ _ _ => rfl
  go_enter Tryz.func36, Tryz.ntmps36
  go_wp2
  go_ret
  exact ⟨_, rfl, newC_mk _ _ _⟩
theorem twoU_any (k : Nat) (x y : Array Value) (w : World) : Calls Tryz.prog 60 #[.func (.func k) x y] w fun e w' => ∃ b, e = .returned (cloV 87 b) ∧ NewC w w' b (.func (.func k) x y) := by
  have hmf : ∀ (fn : Fn) (first cap : Array Value) (w : World), (Instr.makeFunc fn first cap).run Tryz.prog w = .ok (.func fn first cap) w := fun _ _ _ _ => rfl
  go_enter Tryz.func60, Tryz.ntmps60
  go_wp2
  go_ret
  exact ⟨_, rfl, newC_mk _ _ _⟩
theorem threeU_any (k : Nat) (x y : Array Value) (w : World) : Calls Tryz.prog 71 #[.func (.func k) x y] w fun e w' => ∃ b, e = .returned (cloV 96 b) ∧ NewC w w' b (.func (.func k) x y) := by
  have hmf : ∀ (fn : Fn) (first cap : Array Value) (w : World), (Instr.makeFunc fn first cap).run Tryz.prog w = .ok (.func fn first cap) w := fun _ _ _ _ => rfl
  go_enter Tryz.func71, Tryz.ntmps71
  go_wp2
  go_ret
  exact ⟨_, rfl, newC_mk _ _ _⟩
theorem byU_any (k : Nat) (x y : Array Value) (w : World) : Calls Tryz.prog 42 #[.func (.func k) x y] w fun e w' => ∃ b, e = .returned (cloV 58 b) ∧ NewC w w' b (.func (.func k) x y) := by
  have hmf : ∀ (fn : Fn) (first cap : Array Value) (w : World), (Instr.makeFunc fn first cap).run Tryz.prog w = .ok (.func fn first cap) w := fun _ _ _ _ => rfl
  go_enter Tryz.func42, Tryz.ntmps42
  go_wp2
  go_ret
  exact ⟨_, rfl, newC_mk _ _ _⟩
end Go.Proofs.YtjdollmfjflkoaaGreatDoor
namespace Go.Proofs.YtjdollmfjflkoaaGreatDoor
open Go.RowKit Go.Lib Go.Maps Go.WideElems

def fnU (k : Nat) : Value := .func (.func k) #[] #[]
def ptrU (b : Nat) : Value := .pointer (some ⟨b, 0, none⟩)
/-- All utilities, where the functions that they hold on to lie in the blocks h, u, d, t, and the text and the fuel of sed in i, f. -/
def utEs (h u d t i f : Nat) : List Ent :=
  [⟨[101, 99, 104, 111], fnU 29⟩, ⟨[58], fnU 32⟩, ⟨[116, 114, 117, 101], fnU 34⟩, ⟨[102, 97, 108, 115, 101], fnU 35⟩,
   ⟨[104, 101, 120], cloV 55 h⟩, ⟨[117, 110, 104, 101, 120], cloV 55 u⟩, ⟨[100, 101, 99], cloV 58 d⟩, ⟨[115, 116, 114], cloV 58 t⟩, ⟨[116, 101, 115, 116], fnU 45⟩,
   ⟨[115, 101, 100], .func (.func 46) #[] #[ptrU i, ptrU f]⟩]
def utKs (h u d t i f : Nat) (s p : Value) : List (Nat × Value) := [(t, fnU 44), (d, fnU 43), (u, fnU 39), (h, fnU 37), (i, s), (f, p)]
set_option maxRecDepth 20000 in
theorem utilities_any (s : ByteArray) (p : Option Addr) (w : World) :
    Calls Tryz.prog 27 #[.string s, .pointer p] w fun e w' => ∃ m h u d t i f, e = .returned (.map (some m)) ∧ UI w m 10 (utEs h u d t i f) (utKs h u d t i f (.string s) (.pointer p)) w' := by
  have hmm := @run_makeMap Tryz.prog
  have hmf : ∀ (fn : Fn) (first cap : Array Value) (w : World), (Instr.makeFunc fn first cap).run Tryz.prog w = .ok (.func fn first cap) w := fun _ _ _ _ => rfl
  obtain ⟨W2, hW2⟩ : ∃ W2, W2 = (w.alloc (.cells #[.string s] 9)).alloc (.cells #[.pointer p] 47) := ⟨_, rfl⟩
  have n1 := newC_mk w (.string s) 9
  have n2 := newC_mk (w.alloc (.cells #[.string s] 9)) (.pointer p) 47
  rw [← hW2] at n2
  have HU := Lib.hid (UI.made w W2 (w.heap.size + 1 + 1) (by rw [hW2, World.size_alloc, World.size_alloc]) [(w.heap.size, .string s), (w.heap.size + 1, .pointer p)] (below_at n1.2.1 n2.2.1 n1.2.1.size) (fun x hx => by
    obtain ⟨_, a2, a3, a4⟩ := n1
    obtain ⟨_, b2, b3, b4⟩ := n2
    rw [World.size_alloc] at b3 b4
    rcases List.mem_cons.1 hx with rfl | hx
    · exact ⟨Nat.lt_of_lt_of_le a3 b2.size, by rw [b2.cell a3]; exact a4⟩
    · obtain rfl := List.mem_singleton.1 hx
      exact ⟨b3, b4⟩))
  clear n1 n2
  subst hW2
  go_enter Tryz.func27, Tryz.ntmps27
  go_wp2_with (first
    | (go_at_call 36; refine (oneU_any _ _ _ _).mono ?_; rintro e w1 ⟨b1, rfl, hn1⟩; have HU := Lib.hid (HU.out.new hn1); clear hn1)
    | (go_at_call 42; refine (byU_any _ _ _ _).mono ?_; rintro e w1 ⟨b1, rfl, hn1⟩; have HU := Lib.hid (HU.out.new hn1); clear hn1)
    | (refine wpList_insert_U rfl _ _ _ rfl _ _ _ _ HU.out (by decide) rfl _ (cloV _ _) rfl rfl (by decide) ?_; intro w1 hu1; have HU := Lib.hid hu1; clear hu1)
    | (refine wpList_insert_U rfl _ _ _ rfl _ _ _ _ HU.out (by decide) rfl _ (fnU _) rfl rfl (by decide) ?_; intro w1 hu1; have HU := Lib.hid hu1; clear hu1)
    | (refine wpList_insert_U rfl _ _ _ rfl _ _ _ _ HU.out (by decide) rfl _ (.func (.func _) #[] #[ptrU _, ptrU _]) rfl rfl (by decide) ?_; intro w1 hu1; have HU := Lib.hid hu1; clear hu1))
  go_ret

  exact ⟨_, _, _, _, _, _, _, rfl, HU.out⟩
/-- Those of str. -/
def txEs (a b c d e f g : Nat) : List Ent :=
  [⟨[108, 101, 110], cloV 55 a⟩, ⟨[105, 110, 100, 101, 120], cloV 87 b⟩, ⟨[115, 117, 98], cloV 96 c⟩, ⟨[117, 112], cloV 55 d⟩, ⟨[108, 111, 119], cloV 55 e⟩, ⟨[99, 111, 117, 110, 116], cloV 55 f⟩, ⟨[102, 105, 101, 108, 100], cloV 87 g⟩]
def txKs (a b c d e f g : Nat) : List (Nat × Value) := [(g, fnU 76), (f, fnU 75), (e, fnU 74), (d, fnU 73), (c, fnU 72), (b, fnU 70), (a, fnU 69)]
set_option maxRecDepth 20000 in
theorem texts_any (w : World) :
    Calls Tryz.prog 44 #[] w fun e w' => ∃ m a b c d f g h, e = .returned (.map (some m)) ∧ UI w m 7 (txEs a b c d f g h) (txKs a b c d f g h) w' := by
  have hmm := @run_makeMap Tryz.prog
  have HU := Lib.hid (UI.made w w w.heap.size rfl [] (Below.refl _ w) (fun x hx => by cases hx))
  go_enter Tryz.func44, Tryz.ntmps44
  go_wp2_with (first
    | (go_at_call 36; refine (oneU_any _ _ _ _).mono ?_; rintro e w1 ⟨b1, rfl, hn1⟩; have HU := Lib.hid (HU.out.new hn1); clear hn1)
    | (go_at_call 60; refine (twoU_any _ _ _ _).mono ?_; rintro e w1 ⟨b1, rfl, hn1⟩; have HU := Lib.hid (HU.out.new hn1); clear hn1)
    | (go_at_call 71; refine (threeU_any _ _ _ _).mono ?_; rintro e w1 ⟨b1, rfl, hn1⟩; have HU := Lib.hid (HU.out.new hn1); clear hn1)
    | (refine wpList_insert_U rfl _ _ _ rfl _ _ _ _ HU.out (by decide) rfl _ (cloV _ _) rfl rfl (by decide) ?_; intro w1 hu1; have HU := Lib.hid hu1; clear hu1))
  go_ret
  exact ⟨_, _, _, _, _, _, _, _, rfl, HU.out⟩
/-- A reckoning by a sign. -/
theorem reckonU_any (op : Int) (w : World) : Calls Tryz.prog 59 #[.int .u8 op] w fun e w' => ∃ b o, e = .returned (cloV 87 b) ∧ Below w.heap.size w w' ∧ (b < w'.heap.size ∧ w.heap.size ≤ b ∧ w'.cell? ⟨b, 0, none⟩ = some (cloV 61 o)) ∧ o < w'.heap.size ∧ w.heap.size ≤ o ∧ w'.cell? ⟨o, 0, none⟩ = some (.int .u8 op) := by
  have hmf : ∀ (fn : Fn) (first cap : Array Value) (w : World), (Instr.makeFunc fn first cap).run Tryz.prog w = .ok (.func fn first cap) w := fun _ _ _ _ => rfl
  have n1 := Lib.hid (newC_mk w (.int .u8 op) 5)
  go_enter Tryz.func59, Tryz.ntmps59
  go_wp2_with (first
    | (go_at_call 60; refine (twoU_any _ _ _ _).mono ?_; rintro e w1 ⟨b1, rfl, hn1⟩; have HU := Lib.hid hn1; clear hn1))
  go_ret

  obtain ⟨_, a2, a3, a4⟩ := n1.out
  obtain ⟨hb, b2, b3, b4⟩ := HU.out
  refine ⟨_, _, rfl, below_at a2 b2 a2.size, ⟨b3, by rw [hb]; exact a2.size, b4⟩, Nat.lt_of_lt_of_le a3 b2.size, Nat.le_refl _, by rw [b2.cell a3]; exact a4⟩
end Go.Proofs.YtjdollmfjflkoaaGreatDoor
namespace Go.Proofs.YtjdollmfjflkoaaGreatDoor
open Go.RowKit Go.Lib

def resV (s : ByteArray) (st e : Int) : Value := .agg #[.string s, .int .i64 st, .int .i64 e]
theorem Tryz.infoUres : (Tryz.prog.info? 49).map (·.size) = some 3 := by kernel_rfl
/-- A result's block g, new since the world B. -/
structure RI (B : World) (g : Nat) (w : World) : Prop where
  row : w.heap[g]? = some (.cells #[.string ⟨#[]⟩, .int .i64 0, .int .i64 0] 49 (0, 0))
  low : B.heap.size ≤ g
  below : Below B.heap.size B w
theorem RI.start (w : World) : RI w w.heap.size (w.alloc (.cells #[.string ⟨#[]⟩, .int .i64 0, .int .i64 0] 49)) :=
  ⟨heap_alloc_new w _, Nat.le_refl _, (Below.refl _ w).alloc (Nat.le_refl _) _⟩
theorem RI.lt {B w : World} {g : Nat} (h : RI B g w) : g < w.heap.size := (Array.getElem?_eq_some_iff.1 h.row).1
theorem RI.later {B w w' : World} {g : Nat} (h : RI B g w) (hb : Below w.heap.size w w') : RI B g w' :=
  ⟨by rw [hb.block g h.lt]; exact h.row, h.low, below_at h.below hb h.below.size⟩
theorem RI.drew {B w : World} {g : Nat} (h : RI B g w) : RI B g w.drew := h.later (Below.refl _ w).drew
theorem RI.cells {B w : World} {g : Nat} (h : RI B g w) : (w.cell? ⟨g, 0, none⟩ = some (.string ⟨#[]⟩) ∧ w.cell? ⟨g, 1, none⟩ = some (.int .i64 0) ∧ w.cell? ⟨g, 2, none⟩ = some (.int .i64 0)) ∧
    (w.frozen? ⟨g, 0, none⟩ = false ∧ w.frozen? ⟨g, 1, none⟩ = false ∧ w.frozen? ⟨g, 2, none⟩ = false) :=
  ⟨⟨cell_of_row w g 0 _ _ _ h.row, cell_of_row w g 1 _ _ _ h.row, cell_of_row w g 2 _ _ _ h.row⟩, frozen_of_row w g 0 _ _ h.row, frozen_of_row w g 1 _ _ h.row, frozen_of_row w g 2 _ _ h.row⟩
/-- The block with its result in it. -/
def RD (B : World) (g : Nat) (v : Value) (w : World) : Prop := (∃ s st e, v = resV s st e ∧ w.heap[g]? = some (.cells #[.string s, .int .i64 st, .int .i64 e] 49 (0, 0))) ∧ Below B.heap.size B w
theorem RI.put {B w : World} {g : Nat} (h : RI B g w) (s : ByteArray) (st e : Int) : RD B g (resV s st e) (w.setRow g #[.string s, .int .i64 st, .int .i64 e]) := by
  refine ⟨⟨s, st, e, rfl, setRow_heap w g _ _ _ _ h.row⟩, ?_⟩
  refine ⟨by rw [setRow_os]; exact h.below.os, by rw [setRow_tape]; exact h.below.tape, by rw [setRow_output]; exact h.below.output, by rw [setRow_size]; exact h.below.size, fun i hi => ?_⟩
  rw [setRow_other w g i _ (by have := h.low; omega)]
  exact h.below.block i hi
theorem RI.put3 {B w : World} {g : Nat} (h : RI B g w) (s : ByteArray) (st e : Int) : RD B g (resV s st e) (((w.setCell ⟨g, 0, none⟩ (.string s)).setCell ⟨g, 1, none⟩ (.int .i64 st)).setCell ⟨g, 2, none⟩ (.int .i64 e)) := by
  have h1 := heap_setCell_same w g 0 _ _ (.string s) h.row
  have h2 := heap_setCell_same _ g 1 _ _ (.int .i64 st) h1
  have h3 := heap_setCell_same _ g 2 _ _ (.int .i64 e) h2
  exact ⟨⟨s, st, e, rfl, h3⟩, ((h.below.setCell (p := ⟨g, 0, none⟩) h.low _).setCell (p := ⟨g, 1, none⟩) h.low _).setCell (p := ⟨g, 2, none⟩) h.low _⟩
theorem wpList_store_res {B w : World} {g : Nat} {ops : Array Oper} {rest : List Oper} {o : Oper} {a : Act} {Q : Exit → Act → World → Prop} (hgd : o.guard = none) (x y : Operand) (ho : o.op = .store 49 x y)
    (hR : RI B g w) (hx : a.eval x = .pointer (some ⟨g, 0, none⟩)) (s : ByteArray) (st e : Int) (hy : a.eval y = resV s st e)
    (hK : ∀ w', RD B g (resV s st e) w' → wpList Tryz.prog ops Q rest (a.put o.dst undef) w') : wpList Tryz.prog ops Q (o :: rest) a w :=
  wpList_store_row hgd 49 x y ho g #[.string s, .int .i64 st, .int .i64 e] hx hy 49 _ hR.row Tryz.infoUres rfl (by simp [Value.oneCell']) (hK _ (hR.put s st e))
theorem res_end {B w : World} {g : Nat} {v : Value} (h : RD B g v w) {fn : Func} {p : Tmp} (hr : fn.results = #[.cell p 49]) (a : Act) (hp : a.tmps.getD p undef = .pointer (some ⟨g, 0, none⟩)) (hd : a.defers = []) (R : Ending → World → Prop)
    (hR : Below B.heap.size B w → R (.returned v) w) : bodyPost Tryz.prog fn R .ret a w := by
  obtain ⟨⟨s, st, e, rfl, h1⟩, h2⟩ := h
  exact bodyPost_ret (v := .agg _) (results_cell_row (p := p) (ty := 49) hr _ _ g 49 _ (0, 0) _ hp h1 Tryz.underlying49 rfl Tryz.infoUres) hd (hR h2)

theorem failed_any (w : World) : Calls Tryz.prog 56 #[] w fun e w' => e = .returned (resV ⟨#[]⟩ 2 0) ∧ Below w.heap.size w w' := by
  have HR := Lib.hid (RI.start w)
  go_enter Tryz.func56, Tryz.ntmps56
  go_wp2_with (first
    | (refine wpList_store_res rfl _ _ rfl HR.out rfl _ _ _ rfl ?_; intro w1 hr1; have HD := Lib.hid hr1; clear hr1))
  exact res_end HD.out Tryz.results56 _ rfl rfl _ (fun hb => ⟨rfl, hb⟩)
theorem asked_any (b : Bool) (w : World) : Calls Tryz.prog 33 #[.bool b] w fun e w' => e = .returned (resV ⟨#[]⟩ (if b then 0 else 1) 0) ∧ Below w.heap.size w w' := by
  have HR := Lib.hid (RI.start w)
  cases b
  all_goals
    go_enter Tryz.func33, Tryz.ntmps33
    go_wp2_with (first
      | (refine wpList_store_res rfl _ _ rfl HR.out rfl _ _ _ rfl ?_; intro w1 hr1; have HD := Lib.hid hr1; clear hr1))
    exact res_end HD.out Tryz.results33 _ rfl rfl _ (fun hb => ⟨rfl, hb⟩)
def lineB (s : ByteArray) : ByteArray := s ++ ⟨#[10]⟩
theorem said_any (s : ByteArray) (w : World) (hs : s.size ≤ 70368744177664) : Calls Tryz.prog 30 #[.string s] w fun e w' => e = .returned (resV (lineB s) 0 0) ∧ Below w.heap.size w w' := by
  have HR := Lib.hid (RI.start w)
  have hz : (⟨#[10]⟩ : ByteArray).size = 1 := rfl
  go_enter Tryz.func30, Tryz.ntmps30
  go_wp2_with (first
    | (refine wpList_store_res rfl _ _ rfl HR.out rfl _ _ _ rfl ?_; intro w1 hr1; have HD := Lib.hid hr1; clear hr1))
  exact res_end HD.out Tryz.results30 _ rfl rfl _ (fun hb => ⟨rfl, hb⟩)
theorem tried_any (s : ByteArray) (x : Int) (w : World) (hs : s.size ≤ 70368744177664) : Calls Tryz.prog 40 #[.string s, .int .i64 x] w fun e w' => e = .returned (if x = 0 then resV (lineB s) 0 0 else resV ⟨#[]⟩ 2 0) ∧ Below w.heap.size w w' := by
  have HR := Lib.hid (RI.start w)
  by_cases hx : x = 0
  · subst hx
    rw [if_pos rfl]
    go_enter Tryz.func40, Tryz.ntmps40
    go_wp2_with (first
      | (go_at_call 30; refine (said_any s _ hs).mono ?_; rintro e w1 ⟨rfl, hb1⟩; have HR := Lib.hid (HR.out.later hb1); clear hb1)
      | (refine wpList_store_res rfl _ _ rfl HR.out rfl _ _ _ rfl ?_; intro w1 hr1; have HD := Lib.hid hr1; clear hr1))
    exact res_end HD.out Tryz.results40 _ rfl rfl _ (fun hb => ⟨rfl, hb⟩)
  · rw [if_neg hx]
    have hx' : (x != 0) = true := bne_iff_ne.2 hx
    clear hx
    go_enter Tryz.func40, Tryz.ntmps40
    go_wp2_with (first
      | (go_at_call 56; refine (failed_any _).mono ?_; rintro e w1 ⟨rfl, hb1⟩; have HR := Lib.hid (HR.out.later hb1); clear hb1)
      | (refine wpList_store_res rfl _ _ rfl HR.out rfl _ _ _ rfl ?_; intro w1 hr1; have HD := Lib.hid hr1; clear hr1))
    exact res_end HD.out Tryz.results40 _ rfl rfl _ (fun hb => ⟨rfl, hb⟩)
end Go.Proofs.YtjdollmfjflkoaaGreatDoor
namespace Go.Proofs.YtjdollmfjflkoaaGreatDoor
open Go.RowKit Go.Lib

theorem extract_cap (s : ByteArray) (a i j : Nat) (h : i = j ∨ (s.size ≤ i ∧ s.size ≤ j)) : s.extract a i = s.extract a j := by
  rcases h with rfl | ⟨h1, h2⟩
  · rfl
  · apply ba_ext
    rw [extract_piece, extract_piece]
    unfold pieceU
    rw [List.take_of_length_le (by rw [List.length_drop, ← size_eq]; omega), List.take_of_length_le (by rw [List.length_drop, ← size_eq]; omega)]
theorem sub_none (s : ByteArray) (f m : Int) (w : World) (_hs : s.size ≤ 70368744177664) (h : m < 1 ∨ (s.size : Int) < f) :
    Calls Tryz.prog 15 #[.string s, .int .i64 f, .int .i64 m] w fun e w' => e = .returned (.string ⟨#[]⟩) ∧ w' = w := by
  by_cases h1 : m < 1
  · clear h
    go_enter Tryz.func15, Tryz.ntmps15
    go_wp2
    go_ret
    exact ⟨rfl, rfl⟩
  · have h2 : (s.size : Int) < f := by omega
    clear h
    go_enter Tryz.func15, Tryz.ntmps15
    go_wp2
    go_ret
    exact ⟨rfl, rfl⟩
theorem sub_low (s : ByteArray) (f m k : Int) (w : World) (hs : s.size ≤ 70368744177664) (h1 : 1 ≤ m) (h2 : m ≤ 9223372036854775807) (h3 : f < 1) (h4 : -9223372036854775808 ≤ f) (hk : m + f - 1 = k) :
    Calls Tryz.prog 15 #[.string s, .int .i64 f, .int .i64 m] w fun e w' => e = .returned (.string (s.extract 0 k.toNat)) ∧ w' = w := by
  have a1 : ¬ m < 1 := by omega
  have a2 : ¬ (s.size : Int) < f := by omega
  have a3 : -9223372036854775808 ≤ m + f := by omega
  have a4 : m + f ≤ 9223372036854775807 := by omega
  have a5 : -9223372036854775808 ≤ k := by omega
  have a6 : k ≤ 9223372036854775807 := by omega
  go_enter Tryz.func15, Tryz.ntmps15
  go_wp2
  go_ret
  refine ⟨?_, rfl⟩
  show Ending.returned (.string (s.extract 0 (max 0 (min k ↑s.size)).toNat)) = _
  congr 2
  exact extract_cap s 0 _ _ (by omega)
theorem sub_high (s : ByteArray) (f m : Int) (j : Nat) (w : World) (hs : s.size ≤ 70368744177664) (h1 : 1 ≤ m) (h2 : m ≤ 9223372036854775807) (h3 : f = (j : Int) + 1) (h4 : j < s.size) :
    Calls Tryz.prog 15 #[.string s, .int .i64 f, .int .i64 m] w fun e w' => e = .returned (.string ((s.extract j s.size).extract 0 m.toNat)) ∧ w' = w := by
  subst h3
  have a1 : ¬ m < 1 := by omega
  have a2 : ¬ (s.size : Int) < (j : Int) + 1 := by omega
  have a3 : ¬ (j : Int) + 1 < 1 := by omega
  have a4 : (j : Int) + 1 - 1 = (j : Int) := by omega
  have a5 : (s.extract j s.size).size = s.size - j := by simp [ByteArray.size_extract]
  go_enter Tryz.func15, Tryz.ntmps15
  go_wp2
  go_ret
  refine ⟨?_, rfl⟩
  show Ending.returned (.string ((s.extract j s.size).extract 0 (max 0 (min m ↑(s.size - j))).toNat)) = _
  congr 2
  exact extract_cap _ 0 _ _ (by omega)
theorem subU_any (s : ByteArray) (f m : Int) (w : World) (hs : s.size ≤ 70368744177664) (h1 : -9223372036854775808 ≤ f) (h2 : m ≤ 9223372036854775807) :
    Calls Tryz.prog 15 #[.string s, .int .i64 f, .int .i64 m] w fun e w' => e = .returned (.string (ba (subU s.data.toList f m))) ∧ w' = w := by
  have hsz := size_eq s
  unfold subU
  by_cases h : m < 1 ∨ (s.data.toList.length : Int) < f
  · rw [if_pos h]
    exact sub_none s f m w hs (by omega)
  · rw [if_neg h]
    by_cases hf : f < 1
    · rw [if_pos hf]
      refine (sub_low s f m (m + f - 1) w hs (by omega) h2 hf h1 rfl).mono fun e w' ⟨he, hw⟩ => ⟨?_, hw⟩
      rw [he]
      congr 2
      apply ba_ext
      rw [extract_piece, ba_list]
      unfold pieceU
      simp
    · rw [if_neg hf]
      refine (sub_high s f m (f - 1).toNat w hs (by omega) h2 (by omega) (by omega)).mono fun e w' ⟨he, hw⟩ => ⟨?_, hw⟩
      rw [he]
      congr 2
      apply ba_ext
      rw [extract_piece, extract_piece, ba_list]
      unfold pieceU
      rw [List.take_of_length_le (l := s.data.toList.drop (f - 1).toNat) (by rw [List.length_drop]; omega)]
      simp
end Go.Proofs.YtjdollmfjflkoaaGreatDoor
