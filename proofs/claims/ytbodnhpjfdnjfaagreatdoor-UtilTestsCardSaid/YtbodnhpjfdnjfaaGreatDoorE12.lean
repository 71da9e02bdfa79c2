/- Packed texts: ValReckon, UtMem. What each of them proves stands above its theorems; the conditions stand in these. -/
import Derived.Maps.Own
import Derived.Maps.OwnOps
import Derived.Maps.OwnSet
import Derived.Maps.Views
import Derived.Shelf.Abstract
import Derived.StringKeys
import Derived.Test.YtbodnhpjfdnjfaaGreatDoorE9
import Derived.Test.YtbodnhpjfdnjfaaGreatDoorE11
namespace Go.Proofs.YtbodnhpjfdnjfaaGreatDoor
open Go.RowKit Go.Maps

/-- A function that stands in the table of operations, by its number. -/
def fnV (k : FuncId) : Value := .func (.func k) #[] #[]
def fnR (v : Value) : Option (DataW Unit × List MemPlace) := match v with
  | .func (.func k) ⟨[]⟩ ⟨[]⟩ => some (.lit (.int .i64 (k : Int)), [])
  | .nilFunc => some (.lit (.int .i64 (-1)), [])
  | _ => none
theorem fnR_mk (k : FuncId) : fnR (fnV k) = some (.lit (.int .i64 (k : Int)), []) := rfl
theorem fnR_inv {v : Value} {k : Nat} {ps : List MemPlace} (h : fnR v = some (.lit (.int .i64 (k : Int)), ps)) : v = fnV k := by
  unfold fnR at h
  split at h
  · rename_i j
    have := congrArg Prod.fst (Option.some.inj h)
    have h2 : (j : Int) = (k : Int) := by
      have h3 : Lit.int .i64 (j : Int) = Lit.int .i64 (k : Int) := DataW.lit.inj this
      exact (Lit.int.inj h3).2
    rw [Int.ofNat.inj h2]; rfl
  · have := congrArg Prod.fst (Option.some.inj h)
    have h3 : Lit.int .i64 (-1) = Lit.int .i64 (k : Int) := DataW.lit.inj this
    have := (Lit.int.inj h3).2
    omega
  · cases h

theorem wpList_insert_own {H : Type} {P : Program} (w : World) {ops : Array Oper} {rest : List Oper} {o : Oper} {a : Act} {Q : Exit → Act → World → Prop}
    (hg : o.guard = none) (m x v : Operand) (t : TypeId) (hop : o.op = Op.insert t m x v)
    (k e : TypeId) (K : Keyed P k) (ht : P.underlying t = some (.map k e)) (R : Value → Option (DataW H × List MemPlace)) (b n : Nat) (D : DataW H)
    (hm : a.eval m = .map (some b)) (hown : w.ownsMap P k R b n D) (hn : n < maxLen) (key val : Value) (kl : Lit) (hx : a.eval x = key) (hv : a.eval v = val) (hkey : keyOf P k key = some kl)
    (d : DataW H) (ps : List MemPlace) (hval : R val = some (d, ps))
    (hK : ∀ w', w'.ownsMap P k R b (n + 1) (D.put kl d) → w.grownBy w' (some b) → wpList P ops Q rest (a.put o.dst undef) w') :
    wpList P ops Q (o :: rest) a w := by
  refine wpList_plain hg fun K' hK' => ?_
  obtain ⟨w', hrun, r1, r2⟩ := hown.update K ht hn hkey hval
  unfold Oper.wp
  simp [execOp, hop, hm, hx, hv, hrun, Result.andThen]
  exact hK' _ _ (hK w' r1 r2)

def opsD : DataW Unit := (((((DataW.map []).put (.int .u8 43) (.lit (.int .i64 ((166 : Nat) : Int)))).put (.int .u8 45) (.lit (.int .i64 ((167 : Nat) : Int)))).put (.int .u8 42) (.lit (.int .i64 ((168 : Nat) : Int)))).put (.int .u8 47) (.lit (.int .i64 ((169 : Nat) : Int)))).put (.int .u8 37) (.lit (.int .i64 ((170 : Nat) : Int)))
theorem below_own {g : Nat} {a w w' : World} (h : Below a.heap.size a w) (hg : w.grownBy w' (some g)) (hB : a.heap.size ≤ g) : Below a.heap.size a w' := h.grown hg h.size (fun b hb => by cases hb; exact hB)
theorem u8_key (x : Int) (h : (Lit.int .u8 x).wf = true) : keyOf Tryz.prog 5 (.int .u8 x) = some (.int .u8 x) := keyOf_int_mk Tryz.underlying5 h
theorem u8_law : Keyed Tryz.prog 5 := int_keyed Tryz.underlying5
set_option maxRecDepth 20000 in
theorem operations_any (w : World) :
    Calls Tryz.prog 121 #[] w fun e w' => e = .returned (.map (some w.heap.size)) ∧ w'.ownsMap Tryz.prog 5 fnR w.heap.size 5 opsD ∧ Below w.heap.size w w' := by
  have hmm := @run_makeMap Tryz.prog
  have HO := Lib.hid (World.ownsMap_made w Tryz.prog 5 fnR)
  have HB : Hid (Below w.heap.size w (w.alloc (.map #[] 0))) := (Below.refl _ w).alloc (Nat.le_refl _) _
  go_enter Tryz.func121, Tryz.ntmps121
  go_wp2_with (first
    | (refine wpList_insert_own _ rfl _ _ _ 142 rfl 5 140 u8_law Tryz.underlying142 fnR w.heap.size 0 _ rfl HO.out (by unfold maxLen; omega) (.int .u8 43) (fnV 166) _ rfl rfl (u8_key 43 (by decide)) _ [] (fnR_mk _) ?_; intro w1 hown1 hgrow1; (have HO1 := Lib.hid hown1); (have HB1 : Hid (Below w.heap.size w w1) := below_own HB.out hgrow1 (Nat.le_refl _)); clear hown1 hgrow1)
    | (refine wpList_insert_own _ rfl _ _ _ 142 rfl 5 140 u8_law Tryz.underlying142 fnR w.heap.size 1 _ rfl HO1.out (by unfold maxLen; omega) (.int .u8 45) (fnV 167) _ rfl rfl (u8_key 45 (by decide)) _ [] (fnR_mk _) ?_; intro w2 hown2 hgrow2; (have HO2 := Lib.hid hown2); (have HB2 : Hid (Below w.heap.size w w2) := below_own HB1.out hgrow2 (Nat.le_refl _)); clear hown2 hgrow2)
    | (refine wpList_insert_own _ rfl _ _ _ 142 rfl 5 140 u8_law Tryz.underlying142 fnR w.heap.size 2 _ rfl HO2.out (by unfold maxLen; omega) (.int .u8 42) (fnV 168) _ rfl rfl (u8_key 42 (by decide)) _ [] (fnR_mk _) ?_; intro w3 hown3 hgrow3; (have HO3 := Lib.hid hown3); (have HB3 : Hid (Below w.heap.size w w3) := below_own HB2.out hgrow3 (Nat.le_refl _)); clear hown3 hgrow3)
    | (refine wpList_insert_own _ rfl _ _ _ 142 rfl 5 140 u8_law Tryz.underlying142 fnR w.heap.size 3 _ rfl HO3.out (by unfold maxLen; omega) (.int .u8 47) (fnV 169) _ rfl rfl (u8_key 47 (by decide)) _ [] (fnR_mk _) ?_; intro w4 hown4 hgrow4; (have HO4 := Lib.hid hown4); (have HB4 : Hid (Below w.heap.size w w4) := below_own HB3.out hgrow4 (Nat.le_refl _)); clear hown4 hgrow4)
    | (refine wpList_insert_own _ rfl _ _ _ 142 rfl 5 140 u8_law Tryz.underlying142 fnR w.heap.size 4 _ rfl HO4.out (by unfold maxLen; omega) (.int .u8 37) (fnV 170) _ rfl rfl (u8_key 37 (by decide)) _ [] (fnR_mk _) ?_; intro w5 hown5 hgrow5; (have HO5 := Lib.hid hown5); (have HB5 : Hid (Below w.heap.size w w5) := below_own HB4.out hgrow5 (Nat.le_refl _)); clear hown5 hgrow5))
  go_ret
  exact ⟨rfl, HO5.out, HB5.out⟩

/-- What an operation answers, by its sign. -/
def opN (op x y : Int) : Int × Int :=
  if op = 43 then into (x + y)
  else if op = 45 then into (x - y)
  else if op = 42 then into ((x * y).tdiv 1000000)
  else if op = 47 then (if y = 0 then (0, 4) else into ((x * 1000000).tdiv y))
  else (if y = 0 then (0, 4) else (x.tmod y, 0))
def isOp (op : Int) : Bool := op = 43 ∨ op = 45 ∨ op = 42 ∨ op = 47 ∨ op = 37
def reckonD (op : Int) (a b : List UInt8) : List UInt8 × Int :=
  if isOp op then
    (if (numberD a).2 ≠ 0 then ([], (numberD a).2)
    else if (numberD b).2 ≠ 0 then ([], (numberD b).2)
    else if (opN op (numberD a).1 (numberD b).1).2 ≠ 0 then ([], (opN op (numberD a).1 (numberD b).1).2)
    else (textL (opN op (numberD a).1 (numberD b).1).1, 0))
  else ([], 1)
def fnOf (op : Int) : Nat := if op = 43 then 166 else if op = 45 then 167 else if op = 42 then 168 else if op = 47 then 169 else 170
theorem opsD_has (op : Int) (h : isOp op = true) : Maps.has opsD (.int .u8 op) = true ∧ ∀ z, opsD.atKey (.int .u8 op) z = .lit (.int .i64 ((fnOf op : Nat) : Int)) := by
  have hh : op = 43 ∨ op = 45 ∨ op = 42 ∨ op = 47 ∨ op = 37 := by simpa [isOp] using h
  rcases hh with rfl | rfl | rfl | rfl | rfl
  all_goals exact ⟨by decide, fun z => rfl⟩
theorem opsD_not (op : Int) (h : isOp op = false) : Maps.has opsD (.int .u8 op) = false := by
  have hh : ¬ (op = 43 ∨ op = 45 ∨ op = 42 ∨ op = 47 ∨ op = 37) := by simpa [isOp] using h
  have hne : ∀ k : Int, op ≠ k → (Lit.int .u8 op) ≠ (Lit.int .u8 k) := fun k h e => h (Lit.int.inj e).2
  unfold opsD
  rw [has_put_other (hne _ (by omega)), has_put_other (hne _ (by omega)), has_put_other (hne _ (by omega)), has_put_other (hne _ (by omega)), has_put_other (hne _ (by omega))]
  rfl
theorem zeroF (w : World) : (zeroValue 140).run Tryz.prog w = .ok .nilFunc w := by kernel_rfl
theorem opN_bounds (op x y : Int) (hx : -9223372036854775808 ≤ x ∧ x ≤ 9223372036854775807) (h : (opN op x y).2 = 0) : -9223372036854775808 ≤ (opN op x y).1 ∧ (opN op x y).1 ≤ 9223372036854775807 := by
  have hi : ∀ z : Int, (into z).2 = 0 → -9223372036854775808 ≤ (into z).1 ∧ (into z).1 ≤ 9223372036854775807 := by
    intro z hz
    unfold into at *
    split
    · rename_i h1; exact h1
    · exact ⟨by simp only; omega, by simp only; omega⟩
  unfold opN at *
  split at h
  · rw [if_pos (by assumption)]; exact hi _ h
  · rw [if_neg (by assumption)]
    split at h
    · rw [if_pos (by assumption)]; exact hi _ h
    · rw [if_neg (by assumption)]
      split at h
      · rw [if_pos (by assumption)]; exact hi _ h
      · rw [if_neg (by assumption)]
        split at h
        · rw [if_pos (by assumption)]
          split at h
          · exact absurd h (by decide)
          · rw [if_neg (by assumption)]; exact hi _ h
        · rw [if_neg (by assumption)]
          split at h
          · exact absurd h (by decide)
          · rw [if_neg (by assumption)]
            have h1 : (x.tmod y).natAbs = x.natAbs % y.natAbs := Int.natAbs_tmod x y
            have h2 : x.natAbs % y.natAbs ≤ x.natAbs := Nat.mod_le _ _
            have h3 : 0 ≤ x → 0 ≤ x.tmod y := fun h => Int.tmod_nonneg _ h
            show -9223372036854775808 ≤ x.tmod y ∧ x.tmod y ≤ 9223372036854775807
            by_cases hx0 : 0 ≤ x
            · have := h3 hx0; omega
            · have h4 := Int.tmod_nonneg y (show 0 ≤ -x by omega)
              rw [Int.neg_tmod] at h4
              omega
def callE (p : Int × Int) : Ending := .returned (.tuple #[.int .i64 p.1, .int .i64 p.2])
theorem fn_any (op x y : Int) (w : World) (h : isOp op = true) (hx : -9223372036854775808 ≤ x ∧ x ≤ 9223372036854775807) (hy : -9223372036854775808 ≤ y ∧ y ≤ 9223372036854775807) :
    Calls Tryz.prog (fnOf op) #[.int .i64 x, .int .i64 y] w fun e w' => e = callE (opN op x y) ∧ Below w.heap.size w w' := by
  have hh : op = 43 ∨ op = 45 ∨ op = 42 ∨ op = 47 ∨ op = 37 := by simpa [isOp] using h
  rcases hh with rfl | rfl | rfl | rfl | rfl
  · exact add_any x y w hx hy
  · exact sub_any x y w hx hy
  · exact mul_any x y w hx hy
  · by_cases h0 : y = 0
    · subst h0; exact div_zero x w
    · show Calls _ _ _ _ fun e w' => e = callE (if y = 0 then (0, 4) else into ((x * 1000000).tdiv y)) ∧ _
      rw [if_neg h0]; exact div_any x y w hx hy h0
  · by_cases h0 : y = 0
    · subst h0; exact mod_zero x w
    · show Calls _ _ _ _ fun e w' => e = callE (if y = 0 then (0, 4) else (x.tmod y, 0)) ∧ _
      rw [if_neg h0]; exact mod_any x y w h0

theorem reckon_none (op : Int) (a b : ByteArray) (w : World) (hop : (Lit.int .u8 op).wf = true) (h : isOp op = false) :
    Calls Tryz.prog 77 #[.int .u8 op, .string a, .string b] w fun e w' => e = .returned (.tuple #[.string ⟨#[]⟩, .int .i64 1]) ∧ Below w.heap.size w w' := by
  have HH := Lib.hid (opsD_not op h)
  have HK := Lib.hid (u8_key op hop)
  clear h hop
  go_enter Tryz.func77, Tryz.ntmps77
  go_wp2_with (first
    | (go_at_call 121; refine (operations_any _).mono ?_; rintro e w1 ⟨rfl, hown, hb1⟩; (have HO := Lib.hid hown); clear hown)
    | (refine wpList_lookup_own_ok _ rfl _ _ 142 rfl 5 140 u8_law Tryz.underlying142 fnR (zeroF _) _ [] rfl _ 5 _ rfl HO.out (.int .u8 op) _ rfl HK.out ?_; intro v ps _; rw [HH.out]))
  go_ret2
  exact ⟨rfl, hb1⟩

set_option maxRecDepth 20000 in
theorem reckon_walk (op : Int) (k : FuncId) (a b : ByteArray) (n m r ea eb er : Int) (T : ByteArray) (w : World) (ht : Tab w)
    (HL : Hid (Maps.has opsD (.int .u8 op) = true ∧ (∀ v ps, fnR v = some (opsD.atKey (.int .u8 op) (.lit (.int .i64 (-1))), ps) → v = .func (.func k) #[] #[]) ∧ keyOf Tryz.prog 5 (.int .u8 op) = some (.int .u8 op)))
    (he : ∀ args w, (callFunc k args).run Tryz.prog w = .ok (.enter k args) w)
    (k1 : ∀ w, Calls Tryz.prog 122 #[.string a] w fun e w' => e = .returned (.tuple #[.int .i64 n, .int .i64 ea]) ∧ Below w.heap.size w w')
    (k2 : ∀ w, Calls Tryz.prog 122 #[.string b] w fun e w' => e = .returned (.tuple #[.int .i64 m, .int .i64 eb]) ∧ Below w.heap.size w w')
    (k3 : ((ea : Int) != 0) = false → ((eb : Int) != 0) = false → ∀ w, Calls Tryz.prog k #[.int .i64 n, .int .i64 m] w fun e w' => e = .returned (.tuple #[.int .i64 r, .int .i64 er]) ∧ Below w.heap.size w w')
    (k4 : ((ea : Int) != 0) = false → ((eb : Int) != 0) = false → ((er : Int) != 0) = false → ∀ w, Tab w → Calls Tryz.prog 123 #[.int .i64 r] w fun e w' => e = .returned (.string T) ∧ Below w.heap.size w w')
    (R : ByteArray) (E : Int) (h : ((ea : Int) != 0) = true ∧ R = ⟨#[]⟩ ∧ E = ea ∨ ((ea : Int) != 0) = false ∧ ((eb : Int) != 0) = true ∧ R = ⟨#[]⟩ ∧ E = eb ∨ ((ea : Int) != 0) = false ∧ ((eb : Int) != 0) = false ∧ ((er : Int) != 0) = true ∧ R = ⟨#[]⟩ ∧ E = er ∨
      ((ea : Int) != 0) = false ∧ ((eb : Int) != 0) = false ∧ ((er : Int) != 0) = false ∧ R = T ∧ E = 0) :
    Calls Tryz.prog 77 #[.int .u8 op, .string a, .string b] w fun e w' => e = .returned (.tuple #[.string R, .int .i64 E]) ∧ Below w.heap.size w w' := by
  have HT := Lib.hid ht
  clear ht
  rcases h with ⟨h1, rfl, rfl⟩ | ⟨h1, h2, rfl, rfl⟩ | ⟨h1, h2, h3, rfl, rfl⟩ | ⟨h1, h2, h3, rfl, rfl⟩
  · clear k2 k3 k4
    go_enter Tryz.func77, Tryz.ntmps77
    go_wp2_with (first
      | (go_at_call 121; refine (operations_any _).mono ?_; rintro e w1 ⟨rfl, hown, hb1⟩; (have HO := Lib.hid hown); clear hown)
      | (refine wpList_lookup_own_ok _ rfl _ _ 142 rfl 5 140 u8_law Tryz.underlying142 fnR (zeroF _) _ [] rfl _ 5 _ rfl HO.out (.int .u8 op) _ rfl HL.out.2.2 ?_; intro v ps hv; obtain rfl := HL.out.2.1 v ps hv; clear hv; rw [HL.out.1])
      | (go_at_call 122; refine (k1 _).mono ?_; rintro e w2 ⟨rfl, hb2⟩))
    go_ret2
    exact ⟨rfl, below_at hb1 hb2 hb1.size⟩
  · clear k3 k4
    go_enter Tryz.func77, Tryz.ntmps77
    go_wp2_with (first
      | (go_at_call 121; refine (operations_any _).mono ?_; rintro e w1 ⟨rfl, hown, hb1⟩; (have HO := Lib.hid hown); clear hown)
      | (refine wpList_lookup_own_ok _ rfl _ _ 142 rfl 5 140 u8_law Tryz.underlying142 fnR (zeroF _) _ [] rfl _ 5 _ rfl HO.out (.int .u8 op) _ rfl HL.out.2.2 ?_; intro v ps hv; obtain rfl := HL.out.2.1 v ps hv; clear hv; rw [HL.out.1])
      | (go_at_call 122; (with_reducible refine (k1 _).mono ?_); rintro e w2 ⟨rfl, hb2⟩; have HB2 := below_at hb1 hb2 hb1.size)
      | (go_at_call 122; (with_reducible refine (k2 _).mono ?_); rintro e w3 ⟨rfl, hb3⟩; have HB3 := below_at HB2 hb3 HB2.size))
    go_ret2
    exact ⟨rfl, HB3⟩
  · have k3' := k3 h1 h2
    clear k3 k4
    go_enter Tryz.func77, Tryz.ntmps77
    go_wp2_with (first
      | (go_at_call 121; refine (operations_any _).mono ?_; rintro e w1 ⟨rfl, hown, hb1⟩; (have HO := Lib.hid hown); clear hown)
      | (refine wpList_lookup_own_ok _ rfl _ _ 142 rfl 5 140 u8_law Tryz.underlying142 fnR (zeroF _) _ [] rfl _ 5 _ rfl HO.out (.int .u8 op) _ rfl HL.out.2.2 ?_; intro v ps hv; obtain rfl := HL.out.2.1 v ps hv; clear hv; rw [HL.out.1])
      | (go_at_call 122; (with_reducible refine (k1 _).mono ?_); rintro e w2 ⟨rfl, hb2⟩; have HB2 := below_at hb1 hb2 hb1.size)
      | (go_at_call 122; (with_reducible refine (k2 _).mono ?_); rintro e w3 ⟨rfl, hb3⟩; have HB3 := below_at HB2 hb3 HB2.size)
      | (go_at_fn k; refine (k3' _).mono ?_; rintro e w4 ⟨rfl, hb4⟩; have HB4 := below_at HB3 hb4 HB3.size))
    go_ret2
    exact ⟨rfl, HB4⟩
  · have k3' := k3 h1 h2
    have k4' := k4 h1 h2 h3
    clear k3 k4
    go_enter Tryz.func77, Tryz.ntmps77
    go_wp2_with (first
      | (go_at_call 121; refine (operations_any _).mono ?_; rintro e w1 ⟨rfl, hown, hb1⟩; (have HO := Lib.hid hown); clear hown)
      | (refine wpList_lookup_own_ok _ rfl _ _ 142 rfl 5 140 u8_law Tryz.underlying142 fnR (zeroF _) _ [] rfl _ 5 _ rfl HO.out (.int .u8 op) _ rfl HL.out.2.2 ?_; intro v ps hv; obtain rfl := HL.out.2.1 v ps hv; clear hv; rw [HL.out.1])
      | (go_at_call 122; (with_reducible refine (k1 _).mono ?_); rintro e w2 ⟨rfl, hb2⟩; have HB2 := below_at hb1 hb2 hb1.size)
      | (go_at_call 122; (with_reducible refine (k2 _).mono ?_); rintro e w3 ⟨rfl, hb3⟩; have HB3 := below_at HB2 hb3 HB2.size)
      | (go_at_fn k; refine (k3' _).mono ?_; rintro e w4 ⟨rfl, hb4⟩; have HB4 := below_at HB3 hb4 HB3.size)
      | (go_at_call 123; refine (k4' _ (HT.out.below HB4)).mono ?_; rintro e w5 ⟨rfl, hb5⟩; have HB5 := below_at HB4 hb5 HB4.size))
    go_ret2
    exact ⟨rfl, HB5⟩

def reckonE (op : Int) (a b : List UInt8) : Ending := .returned (.tuple #[.string (ba (reckonD op a b).1), .int .i64 (reckonD op a b).2])
theorem fn_enters (op : Int) (h : isOp op = true) : ∀ args w, (callFunc (fnOf op) args).run Tryz.prog w = .ok (.enter (fnOf op) args) w := by
  have hh : op = 43 ∨ op = 45 ∨ op = 42 ∨ op = 47 ∨ op = 37 := by simpa [isOp] using h
  rcases hh with rfl | rfl | rfl | rfl | rfl
  · exact enters_of Tryz.func166 (by kernel_rfl) rfl
  · exact enters_of Tryz.func167 (by kernel_rfl) rfl
  · exact enters_of Tryz.func168 (by kernel_rfl) rfl
  · exact enters_of Tryz.func169 (by kernel_rfl) rfl
  · exact enters_of Tryz.func170 (by kernel_rfl) rfl
theorem reckon_any (op : Int) (a b : ByteArray) (w : World) (ha : a.size ≤ 30000000000000) (hb : b.size ≤ 30000000000000) (hop : (Lit.int .u8 op).wf = true) (ht : Tab w) :
    Calls Tryz.prog 77 #[.int .u8 op, .string a, .string b] w fun e w' => e = reckonE op a.data.toList b.data.toList ∧ Below w.heap.size w w' := by
  cases h : isOp op with
  | false =>
    have hE : reckonE op a.data.toList b.data.toList = .returned (.tuple #[.string ⟨#[]⟩, .int .i64 1]) := by unfold reckonE reckonD; rw [h]; rfl
    rw [hE]
    exact reckon_none op a b w hop h
  | true =>
    obtain ⟨g1, g2⟩ := opsD_has op h
    have hna : ((numberD a.data.toList).2 != 0) = false → -9223372036854775808 ≤ (numberD a.data.toList).1 ∧ (numberD a.data.toList).1 ≤ 9223372036854775807 := by
      intro _
      rcases numberD_cases a.data.toList with ⟨_, h⟩ | ⟨_, h⟩
      · exact h
      · rw [h]; omega
    have hnb : ((numberD b.data.toList).2 != 0) = false → -9223372036854775808 ≤ (numberD b.data.toList).1 ∧ (numberD b.data.toList).1 ≤ 9223372036854775807 := by
      intro _
      rcases numberD_cases b.data.toList with ⟨_, h⟩ | ⟨_, h⟩
      · exact h
      · rw [h]; omega
    refine reckon_walk op (fnOf op) a b (numberD a.data.toList).1 (numberD b.data.toList).1 (opN op (numberD a.data.toList).1 (numberD b.data.toList).1).1 (numberD a.data.toList).2 (numberD b.data.toList).2 (opN op (numberD a.data.toList).1 (numberD b.data.toList).1).2
      (ba (textL (opN op (numberD a.data.toList).1 (numberD b.data.toList).1).1)) w ht ⟨g1, fun v ps hv => fnR_inv (by rw [g2] at hv; exact hv), u8_key op hop⟩ (fn_enters op h) (fun w => numberV_any a w ha) (fun w => numberV_any b w hb)
      (fun p q w => fn_any op _ _ w h (hna p) (hnb q)) (fun p q r w ht => text_any _ w (opN_bounds op _ _ (hna p) (by simpa using r)) ht) _ _ ?_
    unfold reckonD
    rw [h]
    simp only [if_true]
    by_cases e1 : (numberD a.data.toList).2 = 0
    · have f1 : ((numberD a.data.toList).2 != 0) = false := by rw [e1]; rfl
      rw [if_neg (by rw [e1]; simp)]
      by_cases e2 : (numberD b.data.toList).2 = 0
      · have f2 : ((numberD b.data.toList).2 != 0) = false := by rw [e2]; rfl
        rw [if_neg (by rw [e2]; simp)]
        by_cases e3 : (opN op (numberD a.data.toList).1 (numberD b.data.toList).1).2 = 0
        · have f3 : ((opN op (numberD a.data.toList).1 (numberD b.data.toList).1).2 != 0) = false := by rw [e3]; rfl
          rw [if_neg (by rw [e3]; simp)]
          exact .inr (.inr (.inr ⟨f1, f2, f3, rfl, rfl⟩))
        · rw [if_pos e3]
          exact .inr (.inr (.inl ⟨f1, f2, bne_iff_ne.2 e3, rfl, rfl⟩))
      · rw [if_pos e2]
        exact .inr (.inl ⟨f1, bne_iff_ne.2 e2, rfl, rfl⟩)
    · rw [if_pos e1]
      exact .inl ⟨bne_iff_ne.2 e1, rfl, rfl⟩
end Go.Proofs.YtbodnhpjfdnjfaaGreatDoor
namespace Go.Proofs.YtbodnhpjfdnjfaaGreatDoor
open Go.RowKit Go.Lib Go.Maps Go.WideElems

def heldR (v : Value) : Option (DataW Value × List MemPlace) := some (.held v, [])
/-- An entry: its name, its function. -/
structure Ent where
  key : List UInt8
  v : Value
def putE (D : DataW Value) (e : Ent) : DataW Value := D.put (.string e.key) (.held e.v)
def entD (es : List Ent) : DataW Value := es.foldl putE (.map [])
def lookE (k : List UInt8) (o : Option Value) (e : Ent) : Option Value := if k = e.key then some e.v else o
def look (es : List Ent) (k : List UInt8) : Option Value := es.foldl (lookE k) none
theorem isKeyU (s : List UInt8) : WideAt.IsKeyLit (.string s) := by unfold WideAt.IsKeyLit; trivial
theorem foldl_ent (k : List UInt8) : ∀ (es : List Ent) (D : DataW Value) (o : Option Value), IsMap D → (∀ z, D.atKey (.string k) z = (match o with | some v => .held v | none => z)) → Maps.has D (.string k) = o.isSome →
    IsMap (es.foldl putE D) ∧ (∀ z, (es.foldl putE D).atKey (.string k) z = (match es.foldl (lookE k) o with | some v => .held v | none => z)) ∧ Maps.has (es.foldl putE D) (.string k) = (es.foldl (lookE k) o).isSome
  | [], D, o, h1, h2, h3 => ⟨h1, h2, h3⟩
  | e :: es, D, o, h1, h2, h3 => by
    rw [List.foldl_cons, List.foldl_cons]
    refine foldl_ent k es (putE D e) (lookE k o e) (h1.put _ _) ?_ ?_
    · intro z
      unfold putE lookE
      by_cases h : k = e.key
      · rw [if_pos h, h, atKey_put_same h1 (isKeyU _)]
      · rw [if_neg h, atKey_put_other (fun he => h (Lit.string.inj he)), h2]
    · unfold putE lookE
      by_cases h : k = e.key
      · rw [if_pos h, h, has_put_same h1 (isKeyU _)]; rfl
      · rw [if_neg h, has_put_other (fun he => h (Lit.string.inj he)), h3]
theorem ent_look (es : List Ent) (k : List UInt8) : (∀ z, (entD es).atKey (.string k) z = (match look es k with | some v => .held v | none => z)) ∧ Maps.has (entD es) (.string k) = (look es k).isSome :=
  (foldl_ent k es (.map []) none isMap_empty (fun _ => rfl) rfl).2
theorem entD_snoc (es : List Ent) (e : Ent) : entD (es ++ [e]) = (entD es).put (.string e.key) (.held e.v) := by unfold entD; rw [List.foldl_append]; rfl
theorem str_lawU : Keyed Tryz.prog 9 := string_keyed Tryz.underlying9
theorem str_keyU (s : List UInt8) (h : s.length ≤ maxLen) : keyOf Tryz.prog 9 (.string ⟨s.toArray⟩) = some (.string s) := by
  have := WideMaps.keyOf_string_mk (P := Tryz.prog) (s := ⟨s.toArray⟩) Tryz.underlying9 (by rw [show (⟨s.toArray⟩ : ByteArray).size = s.length by simp [ByteArray.size]]; exact h)
  simpa using this
theorem zeroU (w : World) : (zeroValue 39).run Tryz.prog w = .ok .nilFunc w := by kernel_rfl

/-- A map of utilities in the making, in block m, behind the world w0; ks: blocks of one cell beside it, and what they hold. -/
structure UI (w0 : World) (m n : Nat) (es : List Ent) (ks : List (Nat × Value)) (w : World) : Prop where
  own : w.ownsMap Tryz.prog 9 heldR m n (entD es)
  low : w0.heap.size ≤ m
  below : Below w0.heap.size w0 w
  cells : ∀ x ∈ ks, x.1 ≠ m ∧ x.1 < w.heap.size ∧ w.cell? ⟨x.1, 0, none⟩ = some x.2
theorem UI.later {w0 w w' : World} {m n : Nat} {es : List Ent} {ks : List (Nat × Value)} (h : UI w0 m n es ks w) (hb : Below w.heap.size w w') : UI w0 m n es ks w' := by
  refine ⟨?_, h.low, below_at h.below hb h.below.size, fun x hx => ?_⟩
  · obtain ⟨a, b, h1, h2⟩ := h.own
    exact ⟨a, b, by rw [hb.block m h.own.lt]; exact h1, h2⟩
  · obtain ⟨g1, g2, g3⟩ := h.cells x hx
    exact ⟨g1, Nat.lt_of_lt_of_le g2 hb.size, by rw [hb.cell g2]; exact g3⟩
theorem UI.made (w0 w : World) (m : Nat) (hm : m = w.heap.size) (ks : List (Nat × Value)) (h : Below w0.heap.size w0 w) (hk : ∀ x ∈ ks, x.1 < w.heap.size ∧ w.cell? ⟨x.1, 0, none⟩ = some x.2) : UI w0 m 0 [] ks (w.alloc (.map #[] 0)) := by
  subst hm
  refine ⟨World.ownsMap_made w _ _ _, h.size, h.alloc h.size _, fun x hx => ?_⟩
  obtain ⟨h1, h2⟩ := hk x hx
  exact ⟨by omega, by rw [World.size_alloc]; omega, by rw [World.cell?_alloc_past _ _ _ h1]; exact h2⟩
/-- A new block with one cell. -/
def NewC (w w' : World) (b : Nat) (f : Value) : Prop := b = w.heap.size ∧ Below w.heap.size w w' ∧ b < w'.heap.size ∧ w'.cell? ⟨b, 0, none⟩ = some f
theorem newC_mk (w : World) (f : Value) (t : TypeId) : NewC w (w.alloc (.cells #[f] t)) w.heap.size f := by
  refine ⟨rfl, (Below.refl _ w).alloc (Nat.le_refl _) _, by rw [World.size_alloc]; exact Nat.lt_succ_self _, ?_⟩
  rw [World.cell?_alloc_at _ _ _ _ rfl]
  rfl
theorem UI.new {w0 w w' : World} {m n b : Nat} {f : Value} {es : List Ent} {ks : List (Nat × Value)} (h : UI w0 m n es ks w) (hn : NewC w w' b f) : UI w0 m n es ((b, f) :: ks) w' := by
  obtain ⟨rfl, h1, h2, h3⟩ := hn
  have hl := h.later h1
  refine ⟨hl.own, hl.low, hl.below, fun x hx => ?_⟩
  rcases List.mem_cons.1 hx with rfl | hx
  · exact ⟨fun he => absurd h.own.lt (by simp only at he; omega), h2, h3⟩
  · exact hl.cells x hx
theorem wpList_insert_U {w0 w : World} {ops : Array Oper} {rest : List Oper} {o : Oper} {a : Act} {Q : Exit → Act → World → Prop}
    (hg : o.guard = none) (m x v : Operand) (hop : o.op = Op.insert 41 m x v) (b n : Nat) (es : List Ent) (ks : List (Nat × Value)) (hU : UI w0 b n es ks w) (hn : n < 100)
    (hm : a.eval m = .map (some b)) (key : List UInt8) (val : Value) (hx : a.eval x = .string ⟨key.toArray⟩) (hv : a.eval v = val) (hk : key.length ≤ 100)
    (hK : ∀ w', UI w0 b (n + 1) (es ++ [⟨key, val⟩]) ks w' → wpList Tryz.prog ops Q rest (a.put o.dst undef) w') : wpList Tryz.prog ops Q (o :: rest) a w := by
  refine wpList_insert_own w hg m x v 41 hop 9 39 str_lawU Tryz.underlying41 heldR b n (entD es) hm hU.own (by unfold maxLen; omega) (.string ⟨key.toArray⟩) val (.string key) hx hv
    (str_keyU key (by unfold maxLen; omega)) (.held val) [] rfl (fun w' h1 h2 => hK w' ⟨?_, hU.low, ?_, ?_⟩)
  · rw [entD_snoc]
    exact h1
  · exact hU.below.grown h2 hU.below.size (fun g hg => by cases hg; exact hU.low)
  · intro y hy
    obtain ⟨g1, g2, g3⟩ := hU.cells y hy
    refine ⟨g1, Nat.lt_of_lt_of_le g2 h2.size, ?_⟩
    rw [World.cell?_of_block (w := w) (h2.block y.1 g2 (fun he => g1 (Option.some.inj he)))]
    exact g3
theorem UI.run {w0 w : World} {m n : Nat} {es : List Ent} {ks : List (Nat × Value)} (hU : UI w0 m n es ks w) (key : ByteArray) (hk : key.size ≤ maxLen) (v : Value) (y : Bool)
    (hl : (match look es key.data.toList with | some u => (u, true) | none => (.nilFunc, false)) = (v, y)) : (Instr.lookup 41 (.map (some m)) (.string key) true).run Tryz.prog w = .ok (.tuple #[v, .bool y]) w := by
  have hkey : keyOf Tryz.prog 9 (.string key) = some (.string key.data.toList) := WideMaps.keyOf_string_mk Tryz.underlying9 hk
  obtain ⟨g1, g2⟩ := ent_look es key.data.toList
  obtain ⟨u, ps, h1, hu⟩ := hU.own.look_ok str_lawU Tryz.underlying41 (zeroU w) (zd := .held .nilFunc) (zp := []) rfl hkey
  rw [g1] at hu
  rw [h1, g2]
  cases h : look es key.data.toList with
  | none =>
    rw [h] at hu hl
    obtain rfl : u = .nilFunc := DataW.held.inj (congrArg Prod.fst (Option.some.inj hu))
    obtain ⟨rfl, rfl⟩ := Prod.mk.inj hl
    rfl
  | some u' =>
    rw [h] at hu hl
    obtain rfl : u = u' := DataW.held.inj (congrArg Prod.fst (Option.some.inj hu))
    obtain ⟨rfl, rfl⟩ := Prod.mk.inj hl
    rfl

/-! ### Functions that hold on to a function -/
def cloV (k b : Nat) : Value := .func (.func k) #[] #[.pointer (some ⟨b, 0, none⟩)]
theorem oneU_any (k : Nat) (x y : Array Value) (w : World) : Calls Tryz.prog 40 #[.func (.func k) x y] w fun e w' => ∃ b, e = .returned (cloV 70 b) ∧ NewC w w' b (.func (.func k) x y) := by
  have hmf : ∀ (fn : Fn) (first cap : Array Value) (w : World), (Instr.makeFunc fn first cap).run Tryz.prog w = .ok (.func fn first cap) w := fun _ _ _ _ => rfl
  go_enter Tryz.func40, Tryz.ntmps40
  go_wp2
  go_ret
  exact ⟨_, rfl, newC_mk _ _ _⟩
theorem twoU_any (k : Nat) (x y : Array Value) (w : World) : Calls Tryz.prog 75 #[.func (.func k) x y] w fun e w' => ∃ b, e = .returned (cloV 120 b) ∧ NewC w w' b (.func (.func k) x y) := by
  have hmf : ∀ (fn : Fn) (first cap : Array Value) (w : World), (Instr.makeFunc fn first cap).run Tryz.prog w = .ok (.func fn first cap) w := fun _ _ _ _ => rfl
  go_enter Tryz.func75, Tryz.ntmps75
  go_wp2
  go_ret
  exact ⟨_, rfl, newC_mk _ _ _⟩
theorem threeU_any (k : Nat) (x y : Array Value) (w : World) : Calls Tryz.prog 87 #[.func (.func k) x y] w fun e w' => ∃ b, e = .returned (cloV 130 b) ∧ NewC w w' b (.func (.func k) x y) := by
  have hmf : ∀ (fn : Fn) (first cap : Array Value) (w : World), (Instr.makeFunc fn first cap).run Tryz.prog w = .ok (.func fn first cap) w := fun _ _ _ _ => rfl
  go_enter Tryz.func87, Tryz.ntmps87
  go_wp2
  go_ret
  exact ⟨_, rfl, newC_mk _ _ _⟩
theorem byU_any (k : Nat) (x y : Array Value) (w : World) : Calls Tryz.prog 46 #[.func (.func k) x y] w fun e w' => ∃ b, e = .returned (cloV 73 b) ∧ NewC w w' b (.func (.func k) x y) := by
  have hmf : ∀ (fn : Fn) (first cap : Array Value) (w : World), (Instr.makeFunc fn first cap).run Tryz.prog w = .ok (.func fn first cap) w := fun _ _ _ _ => rfl
  go_enter Tryz.func46, Tryz.ntmps46
  go_wp2
  go_ret
  exact ⟨_, rfl, newC_mk _ _ _⟩
end Go.Proofs.YtbodnhpjfdnjfaaGreatDoor
