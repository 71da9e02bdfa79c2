/- Packed texts: ArLaid, ArCmp, ArFind, ArFrame, ArSet, HexNameRef. What each of them proves stands above its theorems; the conditions stand in these. -/
import Derived.Deep.Strs
import Derived.LaidMore
import Derived.Lay
import Derived.Lib.Bytealg
import Derived.Lib.LaidU8
import Derived.OpenShut
import Derived.OwnWalk
import Derived.ProofKit
import Derived.SevenTiedAt
import Derived.ShutString
import Derived.SizedLaws
import Derived.Stop.Joined
import Derived.Stop.LaidErr
import Derived.Test.YtaaecgglocgcmaaDoorRows
import Derived.WideKeyArgs
import Derived.Test.YtaaecgglocgcmaaDoorC0
namespace Go.Proofs.YtaaecgglocgcmaaDoor
open Go.ChangeShapes Go.WideShapes Go.ChangeAt Go.RowKit Go.Deep

theorem ownA : ownKnob Tryd.prog.godebug = none := by kernel_rfl
theorem laidOutA : laidOutB Tryd.prog = true := by kernel_rfl
/-- The list that each row of this seat bears. -/
def laidAr : List (String × DataW Unit) := [("unicode/utf8.acceptRanges", Rows.laid_unicode_utf8_acceptRanges), ("dragoman/arith.marks", Rows.laid_dragoman_arith_marks), ("unicode/utf8.first", Rows.laid_unicode_utf8_first)]
set_option maxRecDepth 100000 in
theorem door_metAr (os : Os) (args : Array Value) : laidMetH Tryd.prog laidAr ((World.laidAll Tryd.prog os laidAr).forCall (fun _ _ => 0) ⟨#[], args, []⟩).memory := by
  rw [MakeChecks.laidMetH_plain _ _ _ (by kernel_rfl)]
  exact laidMet_laidAll _ (by kernel_rfl) (by kernel_rfl)
theorem cell_plainA {w : World} {a : Addr} {v : Value} (h : w.cell? a = some v) : a.spot = none ∧ a.block < w.heap.size := by
  unfold World.cell? at h
  split at h
  · rename_i hh
    constructor
    · by_cases hs : a.spot.isSome = true
      · rw [if_pos hs] at h; cases h
      · simpa using hs
    · by_cases hl : a.block < w.heap.size
      · exact hl
      · rw [Array.getElem?_eq_none (by omega)] at hh; cases hh
  · cases h
theorem cellsStrA : Tryd.prog.cellsOf 9 = 1 := by kernel_rfl
theorem cellsStrsA : Tryd.prog.cellsOf 44 = 1 := by kernel_rfl
theorem marks_data (k : Nat) (hk : k < 6) (ds : List (DataW Unit)) (hd : Rows.laid_dragoman_arith_marks = .agg ds) (d : DataW Unit) (h : ds[k]? = some d) : d = .slice ((marksAt k).map fun t => .lit (.string t.1)) [] := by
  have : ds = (List.range 6).map fun k => .slice ((marksAt k).map fun t => .lit (.string t.1)) [] := by
    have e : Rows.laid_dragoman_arith_marks (H := Unit) = .agg ((List.range 6).map fun k => .slice ((marksAt k).map fun t => .lit (.string t.1)) []) := by rfl
    rw [e] at hd
    injection hd with hd
    exact hd.symm
  rw [this] at h
  rw [List.getElem?_map, List.getElem?_range hk] at h
  injection h with h
  exact h.symm
set_option maxRecDepth 20000 in
theorem marks_of_laid {W : World} (h : laidMetH Tryd.prog laidAr W) : Marks W.heap.size W := by
  rw [MakeChecks.laidMetH_plain _ _ _ (by kernel_rfl)] at h
  obtain ⟨g, t, cs, fuel, p, hg, hty, hvar, hd⟩ := Lib.laidMet.reads h (n := "dragoman/arith.marks") (d := Rows.laid_dragoman_arith_marks) (.tail _ (.head _))
  have hg0 : Tryd.prog.globalNamed "dragoman/arith.marks" = some 0 := by kernel_rfl
  obtain rfl : g = 0 := (Option.some.inj (hg0.symm.trans hg)).symm
  have ht0 : (Tryd.prog.globals[0]?).map (·.type) = some 72 := by kernel_rfl
  obtain rfl : t = 72 := (Option.some.inj (ht0.symm.trans hty)).symm
  obtain ⟨ds, hds⟩ : ∃ ds, Rows.laid_dragoman_arith_marks (H := Unit) = .agg ds := ⟨_, rfl⟩
  rw [hds] at hd
  have each : ∀ k, k < 6 → ∃ b o cap, W.cell? ⟨0, k, none⟩ = some (.slice (some ⟨b, o, none⟩) (marksAt k).length cap) ∧ b < W.heap.size ∧ ∀ j t, (marksAt k)[j]? = some t → W.cell? ⟨b, o + j, none⟩ = some (.string ⟨t.1.toArray⟩) := by
    intro k hk
    obtain ⟨fuel', d, q, hdk, hf⟩ := Lib.array_elem Tryd.underlying72 hd k hk
    have hdd := marks_data k hk ds hds d hdk
    have hne : 0 < (marksAt k).length := by
      match k, hk with
      | 0, _ | 1, _ | 2, _ | 3, _ | 4, _ | 5, _ => decide
    rw [cellsStrsA, Nat.mul_one] at hf
    rcases open_strs Tryd.underlying44 Tryd.underlying9 cellsStrA hf with ⟨_, h2⟩ | ⟨a, len, cap, m, Sx, h1, _, hl, hm, hmm, h2, hx⟩
    · rw [hdd] at h2; cases h2
    · have hdx : d = .slice ((List.range len).map fun i => .lit (.string (Sx i).data.toList)) ((List.range (m - len)).map fun j => .lit (.string (Sx (len + j)).data.toList)) := (Prod.mk.inj h2).1
      rw [hdd] at hdx
      injection hdx with hE hR
      have hlen : len = (marksAt k).length := by
        have := congrArg List.length hE
        simpa using this.symm
      subst hlen
      have hcell : W.cell? ⟨0, k, none⟩ = some (.slice (some a) (marksAt k).length cap) := by
        rw [World.var?_cell hg hvar k, ← Array.getElem?_toList]
        have := congrArg (·[0]?) h1
        simp only [List.getElem?_take, List.getElem?_drop] at this
        simpa using this
      have hlm : (marksAt k).length ≤ m := by rw [hmm]; split <;> omega
      obtain ⟨ab, aoff, asp⟩ := a
      have hc0 := (hx 0 (by omega)).1
      have e0 : (⟨ab, aoff, asp⟩ : Addr).add 0 = ⟨ab, aoff, asp⟩ := rfl
      rw [e0] at hc0
      have hsp : asp = none := (cell_plainA hc0).1
      subst hsp
      refine ⟨ab, aoff, cap, hcell, (cell_plainA hc0).2, fun j t hj => ?_⟩
      have hjl : j < (marksAt k).length := by
        by_cases e : j < (marksAt k).length
        · exact e
        · rw [List.getElem?_eq_none (by omega)] at hj; cases hj
      have hc := (hx j (by omega)).1
      have ea : (⟨ab, aoff, none⟩ : Addr).add j = ⟨ab, aoff + j, none⟩ := by
        unfold Addr.add
        by_cases h2 : j = 0 <;> simp [h2]
      rw [ea] at hc
      rw [hc]
      have hEj := congrArg (·[j]?) hE
      simp only [List.getElem?_map, hj, Option.map_some, List.getElem?_range hjl] at hEj
      injection hEj with hEj
      injection hEj with hEj
      injection hEj with hEj
      have : Sx j = ⟨t.1.toArray⟩ := by
        apply ByteArray.ext
        apply Array.ext'
        rw [← hEj]
      rw [this]
  refine ⟨?_, each⟩
  obtain ⟨b, o, cap, hc, _⟩ := each 0 (by decide)
  exact (cell_plainA hc).2
/-- What a row asks behind a call that laid new memory alone. -/
theorem post_of_belowA {H : Type} {enc : TypeId × Value → H} {P : Program} {f : Func} {s : ChangeSpec} {apart fresh handsOn again : Bool} {W W' : World} {args : Array Value} {v : Value} {ds gs : List (DataW H)} {before pa pv : List MemPlace}
    (hW : DataW.Whole enc P f.params.toList s.vars apart W args.toList ds gs before)
    (hres : ∀ (b : Nat) (sp : Nat → Bool) (hd : Bool), DataW.TrodAll enc P W' b sp hd f.resultTypes.toList (v.resultList f.resultTypes.size) (s.fn H (ds ++ gs)).results [])
    (hargs : ∀ sp : Nat → Bool, (∀ p ∈ before, sp p.block = true) → DataW.TrodAll enc P W' 0 sp true f.params.toList args.toList (s.fn H (ds ++ gs)).args pa)
    (hvars : ∀ sp : Nat → Bool, (∀ p ∈ before, sp p.block = true) → DataW.TrodVars enc P W' sp s.vars (s.fn H (ds ++ gs)).vars pv)
    (hps : before = pa ++ pv) (hb : Below W.heap.size W W')
    (hok : ∀ (j : Nat) (t : TypeId) (r : Value), f.resultTypes[j]? = some t → (v.resultList f.resultTypes.size)[j]? = some r → Value.okWide P W' .any 0 t r) :
    s.post enc P f apart fresh handsOn again W args v W' := by
  have hlt : ∀ p ∈ before, p.block < W.heap.size := fun p hp => hW.lt p hp
  have hold : ∀ p ∈ before, (fun b => decide (b < W.heap.size)) p.block = true := fun p hp => by simpa using hlt p hp
  refine ⟨ds, gs, before, [], pa, pv, hW, hres _ _ _, hargs _ hold, hvars _ hold, World.keptBut_mono (fun p hp => ⟨hp, ?_⟩) (hb.frame (· ∈ before)), fun _ => ?_⟩
  · rw [hps, List.mem_append] at hp
    exact Or.inr hp
  · obtain ⟨_, _, _, _, _, hz, hn⟩ := hW
    refine ⟨hok, _, _, ([] ++ pa) ++ pv, ⟨[] ++ pa, pv, trodAll_append (hargs _ (fun _ _ => rfl)) (hres _ _ _), hvars _ (fun _ _ => rfl), rfl, ?_, ?_⟩, ?_⟩
    · intro b off hp
      have hin : MemPlace.cell b off ∈ before := by rw [hps]; simpa using hp
      rw [hb.frozen (hlt _ hin)]
      exact hz b off hin
    · intro ha
      have := hn ha
      rw [hps] at this
      simpa using this
    · intro p hp _
      rw [hps]
      simpa using hp
end Go.Proofs.YtaaecgglocgcmaaDoor
namespace Go.Proofs.YtaaecgglocgcmaaDoor
open Go.RowKit Go.Lib

theorem cmp_self : ∀ a : List UInt8, compareBytes a a = 0
  | [] => rfl
  | x :: a => by unfold compareBytes; rw [if_neg (UInt8.lt_irrefl x), if_neg (UInt8.lt_irrefl x)]; exact cmp_self a
theorem cmp_eq0 : ∀ a b : List UInt8, compareBytes a b = 0 → a = b
  | [], [], _ => rfl
  | [], _ :: _, h => by simp [compareBytes] at h
  | _ :: _, [], h => by simp [compareBytes] at h
  | x :: a, y :: b, h => by
    unfold compareBytes at h
    by_cases h1 : x < y
    · rw [if_pos h1] at h; simp at h
    · rw [if_neg h1] at h
      by_cases h2 : y < x
      · rw [if_pos h2] at h; simp at h
      · rw [if_neg h2] at h
        rw [cmp_eq0 a b h]
        have : x = y := by
          apply UInt8.toNat_inj.1
          rw [UInt8.lt_iff_toNat_lt] at h1 h2
          omega
        rw [this]
theorem cmp_three : ∀ a b : List UInt8, compareBytes a b = -1 ∨ compareBytes a b = 0 ∨ compareBytes a b = 1
  | [], [] => .inr (.inl rfl)
  | [], _ :: _ => .inl rfl
  | _ :: _, [] => .inr (.inr rfl)
  | x :: a, y :: b => by
    unfold compareBytes
    split
    · exact .inl rfl
    · split
      · exact .inr (.inr rfl)
      · exact cmp_three a b
theorem cmp_flip : ∀ a b : List UInt8, compareBytes b a = - compareBytes a b
  | [], [] => rfl
  | [], _ :: _ => rfl
  | _ :: _, [] => rfl
  | x :: a, y :: b => by
    unfold compareBytes
    by_cases h1 : x < y
    · have h2 : ¬ y < x := by rw [UInt8.lt_iff_toNat_lt] at h1 ⊢; omega
      rw [if_pos h1, if_neg h2, if_pos h1]; rfl
    · rw [if_neg h1]
      by_cases h2 : y < x
      · rw [if_pos h2, if_pos h2, if_neg h1]
      · rw [if_neg h2, if_neg h2, if_neg h1]
        exact cmp_flip a b
theorem cmp_trans : ∀ a b c : List UInt8, compareBytes a b < 0 → compareBytes b c < 0 → compareBytes a c < 0
  | [], [], c, h, _ => by simp [compareBytes] at h
  | [], _ :: _, [], _, h => by simp [compareBytes] at h
  | [], _ :: _, _ :: _, _, _ => by simp [compareBytes]
  | _ :: _, [], c, h, _ => by simp [compareBytes] at h
  | _ :: _, _ :: _, [], _, h => by simp [compareBytes] at h
  | x :: a, y :: b, z :: c, h1, h2 => by
    unfold compareBytes at h1 h2 ⊢
    have l1 : x < y ∨ (x = y ∧ compareBytes a b < 0) := by
      by_cases e : x < y
      · exact .inl e
      · rw [if_neg e] at h1
        by_cases e2 : y < x
        · rw [if_pos e2] at h1; simp at h1
        · rw [if_neg e2] at h1
          exact .inr ⟨UInt8.toNat_inj.1 (by rw [UInt8.lt_iff_toNat_lt] at e e2; omega), h1⟩
    have l2 : y < z ∨ (y = z ∧ compareBytes b c < 0) := by
      by_cases e : y < z
      · exact .inl e
      · rw [if_neg e] at h2
        by_cases e2 : z < y
        · rw [if_pos e2] at h2; simp at h2
        · rw [if_neg e2] at h2
          exact .inr ⟨UInt8.toNat_inj.1 (by rw [UInt8.lt_iff_toNat_lt] at e e2; omega), h2⟩
    rcases l1 with e1 | ⟨e1, g1⟩ <;> rcases l2 with e2 | ⟨e2, g2⟩
    · rw [if_pos (by rw [UInt8.lt_iff_toNat_lt] at *; omega)]; simp
    · subst e2; rw [if_pos e1]; simp
    · subst e1; rw [if_pos e2]; simp
    · subst e1; subst e2
      rw [if_neg (UInt8.lt_irrefl x), if_neg (UInt8.lt_irrefl x)]
      exact cmp_trans a b c g1 g2

/-- Names that rise. -/
def risesA : List Vr → Bool
  | [] => true
  | [_] => true
  | x :: y :: r => decide (compareBytes x.n.data.toList y.n.data.toList < 0) && risesA (y :: r)
/-- A row that is right. -/
def rightA (vs : List Vr) : Bool := vs.all (fun x => isNameB x.n.data.toList) && risesA vs
/-- How many names stand ahead of a name. -/
def lowA : List Vr → List UInt8 → Nat
  | [], _ => 0
  | x :: r, s => if compareBytes x.n.data.toList s < 0 then lowA r s + 1 else 0
theorem rises_tail {x : Vr} {r : List Vr} (h : risesA (x :: r) = true) : risesA r = true := by
  cases r with
  | nil => rfl
  | cons y r => simp only [risesA, Bool.and_eq_true] at h; exact h.2
theorem rises_head : ∀ {x : Vr} {r : List Vr}, risesA (x :: r) = true → ∀ y ∈ r, compareBytes x.n.data.toList y.n.data.toList < 0
  | x, [], _, y, hy => by cases hy
  | x, z :: r, h, y, hy => by
    have h0 := h
    simp only [risesA, Bool.and_eq_true, decide_eq_true_eq] at h
    rcases List.mem_cons.1 hy with e | e
    · subst e; exact h.1
    · exact cmp_trans _ _ _ h.1 (rises_head (rises_tail h0) y e)
theorem low_le (vs : List Vr) (s : List UInt8) : lowA vs s ≤ vs.length := by
  induction vs with
  | nil => exact Nat.le_refl _
  | cons x r ih => unfold lowA; split <;> simp <;> omega
theorem low_below : ∀ (vs : List Vr) (s : List UInt8) (i : Nat) (x : Vr), risesA vs = true → vs[i]? = some x → (compareBytes x.n.data.toList s < 0 ↔ i < lowA vs s)
  | [], s, i, x, _, h => by simp at h
  | y :: r, s, i, x, hr, h => by
    unfold lowA
    cases i with
    | zero =>
      simp at h
      subst h
      split
      · rename_i hc; exact ⟨fun _ => Nat.succ_pos _, fun _ => hc⟩
      · rename_i hc; exact ⟨fun h => absurd h hc, fun h => absurd h (Nat.lt_irrefl _)⟩
    | succ i =>
      have hx : r[i]? = some x := by simpa using h
      have ih := low_below r s i x (rises_tail hr) hx
      split
      · rename_i hc; rw [ih]; omega
      · rename_i hc
        refine ⟨fun hl => ?_, fun h => absurd h (Nat.not_lt_zero _)⟩
        exfalso
        exact hc (cmp_trans _ _ _ (rises_head hr x (List.mem_of_getElem? hx)) hl)
theorem find_low : ∀ (vs : List Vr) (s : List UInt8), risesA vs = true → findA vs s = match vs[lowA vs s]? with | some x => if x.n.data.toList = s then some x.v else none | none => none
  | [], s, _ => rfl
  | x :: r, s, hr => by
    unfold findA lowA
    by_cases he : x.n.data.toList = s
    · rw [if_pos he, if_neg (by rw [he, cmp_self]; omega)]
      simp [he]
    · rw [if_neg he]
      by_cases hc : compareBytes x.n.data.toList s < 0
      · rw [if_pos hc, find_low r s (rises_tail hr)]
        rfl
      · rw [if_neg hc]
        show findA r s = if x.n.data.toList = s then some x.v else none
        rw [if_neg he]
        have hall : ∀ y ∈ r, y.n.data.toList ≠ s := fun y hy e => by
          have h1 := rises_head hr y hy
          rw [e] at h1
          exact hc h1
        clear hr hc he
        induction r with
        | nil => rfl
        | cons y r ih =>
          unfold findA
          rw [if_neg (hall y (by simp))]
          exact ih (fun z hz => hall z (List.mem_cons_of_mem _ hz))
end Go.Proofs.YtaaecgglocgcmaaDoor
namespace Go.Proofs.YtaaecgglocgcmaaDoor
open Go.RowKit Go.Lib

/-- A row of variables that can be read, below a block. -/
def Vars (B : Nat) (v : Value) (vs : List Vr) (w : World) : Prop :=
  ∃ ao cap, v = .slice ao vs.length cap ∧ vs.length ≤ cap ∧ vs.length ≤ 140737488355328 ∧ ∀ j x, vs[j]? = some x → ∃ b o, ao = some ⟨b, o, none⟩ ∧ b < B ∧ w.cell? ⟨b, o + j * 2, none⟩ = some (.string x.n) ∧ w.cell? ⟨b, o + j * 2 + 1, none⟩ = some (.string x.v)
theorem Vars.below {B : Nat} {v : Value} {vs : List Vr} {w w' : World} (h : Vars B v vs w) (hb : Below B w w') : Vars B v vs w' := by
  obtain ⟨ao, cap, h1, hc, hl, h2⟩ := h
  refine ⟨ao, cap, h1, hc, hl, fun j x hj => ?_⟩
  obtain ⟨b, o, h3, h4, h5, h6⟩ := h2 j x hj
  have e : ∀ i, w'.cell? ⟨b, i, none⟩ = w.cell? ⟨b, i, none⟩ := fun i => by unfold World.cell?; rw [hb.block b h4]
  exact ⟨b, o, h3, h4, (e _).trans h5, (e _).trans h6⟩
theorem Vars.mono {B B' : Nat} {v : Value} {vs : List Vr} {w : World} (h : Vars B v vs w) (hb : B ≤ B') : Vars B' v vs w := by
  obtain ⟨ao, cap, h1, hc, hl, h2⟩ := h
  refine ⟨ao, cap, h1, hc, hl, fun j x hj => ?_⟩
  obtain ⟨b, o, h3, h4, h5, h6⟩ := h2 j x hj
  exact ⟨b, o, h3, Nat.lt_of_lt_of_le h4 hb, h5, h6⟩
theorem Vars.nil (B : Nat) (w : World) : Vars B (.slice none 0 0) [] w := ⟨none, 0, rfl, Nat.le_refl _, Nat.zero_le _, fun j x h => by simp at h⟩
theorem Vars.at {B : Nat} {ao : Option Addr} {N cap : Nat} {vs : List Vr} {w : World} (h : Vars B (.slice ao N cap) vs w) {j : Nat} {x : Vr} (hj : vs[j]? = some x) : ∃ b o, ao = some ⟨b, o, none⟩ ∧ b < B ∧ w.cell? ⟨b, o + j * 2, none⟩ = some (.string x.n) ∧ w.cell? ⟨b, o + j * 2 + 1, none⟩ = some (.string x.v) := by
  obtain ⟨_, _, h1, _, _, h2⟩ := h
  cases h1
  exact h2 j x hj
theorem Vars.len {B : Nat} {ao : Option Addr} {N cap : Nat} {vs : List Vr} {w : World} (h : Vars B (.slice ao N cap) vs w) : N = vs.length ∧ N ≤ cap ∧ N ≤ 140737488355328 := by
  obtain ⟨_, _, h1, h2, h3, _⟩ := h
  cases h1
  exact ⟨rfl, h2, h3⟩

set_option maxHeartbeats 400000 in
theorem placeCmp_any (n v s : ByteArray) (w : World) :
    Calls Tryd.prog 39 #[.agg #[.string n, .string v], .string s] w fun e w' => e = .returned (.int .i64 (compareBytes n.data.toList s.data.toList)) ∧ Below w.heap.size w w' := by
  have k := fun w => Tryd.strings_Compare n s w
  generalize compareBytes n.data.toList s.data.toList = c at k
  go_enter Tryd.func39, Tryd.ntmps39
  go_wp2_with (go_at_call 40; refine (k _).mono ?_; rintro e w1 ⟨rfl, rfl⟩)
  go_ret
  exact ⟨rfl, (Below.refl _ _).alloc (Nat.le_refl _) _⟩

/-- Where a name stands, and whether it does. -/
def atA (vs : List Vr) (s : List UInt8) : Bool := match vs[lowA vs s]? with | some x => decide (x.n.data.toList = s) | none => false
set_option maxHeartbeats 2000000 in
set_option maxRecDepth 20000 in
theorem searchA_walk (f : FuncId) (he : ∀ args w, (callFunc f args).run Tryd.prog w = .ok (.enter f args) w) (k : ∀ (n v s : ByteArray) (w : World), Calls Tryd.prog f #[.agg #[.string n, .string v], .string s] w fun e w' => e = .returned (.int .i64 (compareBytes n.data.toList s.data.toList)) ∧ Below w.heap.size w w') (v : Value) (vs : List Vr) (s : ByteArray) (w : World) (h : Vars w.heap.size v vs w) (hr : risesA vs = true) :
    Calls Tryd.prog 38 #[v, .string s, .func (.func f) #[] #[]] w fun e w' => e = .returned (.tuple #[.int .i64 (lowA vs s.data.toList : Int), .bool (atA vs s.data.toList)]) ∧ Below w.heap.size w w' := by
  obtain ⟨ao, cap, rfl, hc, hn⟩ : ∃ ao cap, v = .slice ao vs.length cap ∧ vs.length ≤ cap ∧ vs.length ≤ 140737488355328 := by
    obtain ⟨ao, cap, rfl, hc, hn, _⟩ := h
    exact ⟨ao, cap, rfl, hc, hn⟩
  have hlo := low_le vs s.data.toList
  have HB := Lib.hid (low_below vs s.data.toList)
  have HR := Lib.hid hr
  have H := Lib.hid h
  have hat : atA vs s.data.toList = match vs[lowA vs s.data.toList]? with | some x => decide (x.n.data.toList = s.data.toList) | none => false := rfl
  have HAT := Lib.hid hat
  clear hr h hat
  obtain ⟨lo, hlo'⟩ : ∃ lo, lo = lowA vs s.data.toList := ⟨_, rfl⟩
  rw [← hlo'] at hlo HAT ⊢
  rw [← hlo'] at HB
  clear hlo'
  obtain ⟨n, hn'⟩ : ∃ n, n = vs.length := ⟨_, rfl⟩
  rw [← hn'] at hn hc hlo H ⊢
  have HN := Lib.hid hn'
  clear hn'
  generalize atA vs s.data.toList = at' at *
  have hge : ∀ j, j < n → ∃ x, vs[j]? = some x := fun j hj => ⟨_, List.getElem?_eq_getElem (by rw [← HN.out]; exact hj)⟩
  have HGE := Lib.hid hge
  clear hge
  obtain ⟨B, hB⟩ : ∃ B, B = w.heap.size := ⟨_, rfl⟩
  rw [← hB] at H ⊢
  have HB0 := Lib.hid hB
  have hB0 : Hid (Below B w w) := Below.refl _ _
  clear hB
  have hst : Hid (Below B w w) := hB0
  clear hB0
  go_enter Tryd.func38, Tryd.ntmps38
  go_wp2_with fail
  go_loopw [9, 10] (fun i j wr => ∃ a b : Nat, i = .int .i64 (a : Int) ∧ j = .int .i64 (b : Int) ∧ a ≤ lo ∧ lo ≤ b ∧ b ≤ n ∧ Hid (Below B w wr)) (fun i j _ => (RowKit.intOf j - RowKit.intOf i).toNat)
  case atStart => exact ⟨0, n, rfl, rfl, Nat.zero_le _, hlo, Nat.le_refl _, hst⟩
  case round =>
    obtain ⟨a, b, rfl, rfl, ha, hb, hbn, HW⟩ := hrel
    have HV := Lib.hid (H.out.below HW.out)
    by_cases hlt : a < b
    · have hh0 : a ≤ (a + b) / 2 := by omega
      have hh1 : (a + b) / 2 < b := by omega
      obtain ⟨x, hx⟩ := HGE.out ((a + b) / 2) (by omega)
      have hcel := HV.out.at hx
      obtain ⟨g, o, rfl, hg, c0, c1⟩ := hcel
      have hz := Lib.hid (HB.out _ x HR.out hx)
      have k1 := fun w => k x.n x.v s w
      obtain ⟨c, hcc⟩ : ∃ c, c = compareBytes x.n.data.toList s.data.toList := ⟨_, rfl⟩
      rw [← hcc] at k1 hz
      clear hcc hx
      generalize x.n = xn at *
      generalize x.v = xv at *
      have HG := Lib.hid hg
      clear hg
      by_cases hneg : c < 0
      · have hal : Hid ((a + b) / 2 + 1 ≤ lo) := hz.out.1 hneg
        clear hz
        go_wp2_with (go_at_fn f; refine (k1 _).mono ?_; rintro e w1 ⟨rfl, hb1⟩; have HB1 := Lib.hid hb1; clear hb1)
        go_roundw
        case rel => exact ⟨(a + b) / 2 + 1, b, by go_num, rfl, hal.out, hb, hbn, HW.out.trans (HB1.out.mono (Nat.le_trans (Nat.le_of_eq HB0.out) HW.out.size))⟩
        case measure => simp [RowKit.intOf]; omega
      · have hal : Hid (lo ≤ (a + b) / 2) := by
          show lo ≤ (a + b) / 2
          have := hz.out
          omega
        clear hz
        go_wp2_with (go_at_fn f; refine (k1 _).mono ?_; rintro e w1 ⟨rfl, hb1⟩; have HB1 := Lib.hid hb1; clear hb1)
        go_roundw
        case rel => exact ⟨a, (a + b) / 2, rfl, by go_num, ha, hal.out, by omega, HW.out.trans (HB1.out.mono (Nat.le_trans (Nat.le_of_eq HB0.out) HW.out.size))⟩
        case measure => simp [RowKit.intOf]; omega
    · obtain rfl : a = lo := by omega
      by_cases hl : a < n
      · obtain ⟨x, hx⟩ := HGE.out a hl
        have hcel := HV.out.at hx
        obtain ⟨g, o, rfl, hg, c0, c1⟩ := hcel
        have hat := HAT.out
        rw [hx] at hat
        have k1 := fun w => k x.n x.v s w
        have hat2 : at' = (compareBytes x.n.data.toList s.data.toList == 0) := by
          rw [hat, Bool.eq_iff_iff]
          simp only [decide_eq_true_eq, beq_iff_eq]
          exact ⟨fun e => by rw [e, cmp_self], cmp_eq0 _ _⟩
        obtain ⟨c, hcc⟩ : ∃ c, c = compareBytes x.n.data.toList s.data.toList := ⟨_, rfl⟩
        rw [← hcc] at k1 hat2
        clear hcc hx hat
        generalize x.n = xn at *
        generalize x.v = xv at *
        have HG := Lib.hid hg
        clear hg
        have hl' : (a : Int) < (n : Int) := by omega
        have HAT2 := Lib.hid hat2
        clear hat2
        go_wp2_with (go_at_fn f; refine (k1 _).mono ?_; rintro e w1 ⟨rfl, hb1⟩; have HB1 := Lib.hid hb1; clear hb1)
        go_ret2
        exact ⟨by rw [HAT2.out]; rfl, HW.out.trans (HB1.out.mono (Nat.le_trans (Nat.le_of_eq HB0.out) HW.out.size))⟩
      · have hat := HAT.out
        rw [List.getElem?_eq_none (by rw [← HN.out]; omega)] at hat
        have HAT2 := Lib.hid hat
        clear hat
        have hl' : decide (a < n) = false := by simp; omega
        go_wp2
        go_ret2
        exact ⟨by rw [HAT2.out]; rfl, HW.out⟩
theorem searchA_any (v : Value) (vs : List Vr) (s : ByteArray) (w : World) (h : Vars w.heap.size v vs w) (hr : risesA vs = true) :
    Calls Tryd.prog 38 #[v, .string s, .func (.func 39) #[] #[]] w fun e w' => e = .returned (.tuple #[.int .i64 (lowA vs s.data.toList : Int), .bool (atA vs s.data.toList)]) ∧ Below w.heap.size w w' :=
  searchA_walk 39 (fun args w => enters_of Tryd.func39 (by kernel_rfl) rfl args w) placeCmp_any v vs s w h hr
set_option maxHeartbeats 400000 in
theorem placeA_any (v : Value) (vs : List Vr) (s : ByteArray) (w : World) (h : Vars w.heap.size v vs w) (hr : risesA vs = true) :
    Calls Tryd.prog 30 #[v, .string s] w fun e w' => e = .returned (.tuple #[.int .i64 (lowA vs s.data.toList : Int), .bool (atA vs s.data.toList)]) ∧ Below w.heap.size w w' := by
  have k := searchA_any v vs s w h hr
  obtain ⟨ao, cap, rfl, _⟩ := h
  clear hr
  generalize (lowA vs s.data.toList : Int) = lo at k ⊢
  generalize atA vs s.data.toList = b at k ⊢
  generalize vs.length = n at k
  go_enter Tryd.func30, Tryd.ntmps30
  go_wp2_with (go_at_call 38; refine k.mono ?_; rintro e w1 ⟨rfl, hb1⟩)
  go_ret2
  exact ⟨rfl, hb1⟩
/-- What Find answers. -/
def foundE : Option ByteArray → Ending
  | some v => .returned (.tuple #[.string v, .bool true])
  | none => .returned (.tuple #[.string ByteArray.empty, .bool false])
set_option maxHeartbeats 1000000 in
set_option maxRecDepth 20000 in
theorem findA_any (v : Value) (vs : List Vr) (s : ByteArray) (w : World) (h : Vars w.heap.size v vs w) (hr : risesA vs = true) :
    Calls Tryd.prog 17 #[v, .string s] w fun e w' => e = foundE (findA vs s.data.toList) ∧ Below w.heap.size w w' := by
  have k := placeA_any v vs s w h hr
  have hlo := low_le vs s.data.toList
  have hf := find_low vs s.data.toList hr
  have hat : atA vs s.data.toList = match vs[lowA vs s.data.toList]? with | some x => decide (x.n.data.toList = s.data.toList) | none => false := rfl
  have H := Lib.hid h
  obtain ⟨ao, cap, rfl, hc, hn, _⟩ := h
  clear hr
  generalize lowA vs s.data.toList = lo at *
  generalize atA vs s.data.toList = at' at *
  generalize findA vs s.data.toList = F at *
  obtain ⟨n, hn'⟩ : ∃ n, n = vs.length := ⟨_, rfl⟩
  rw [← hn'] at k hc hn hlo H ⊢
  have HN := Lib.hid hn'
  clear hn'
  cases at'
  · have hF : F = none := by
      rw [hf]
      cases hx : vs[lo]? with
      | none => rfl
      | some x =>
        rw [hx] at hat
        have hne : x.n.data.toList ≠ s.data.toList := fun e => by simp [e] at hat
        simp [hne]
    subst hF
    clear hf hat
    unfold foundE
    go_enter Tryd.func17, Tryd.ntmps17
    go_wp2_with (go_at_call 30; refine k.mono ?_; rintro e w1 ⟨rfl, hb1⟩; have HB1 := Lib.hid hb1; clear hb1)
    go_ret2
    exact ⟨rfl, HB1.out⟩
  · cases hx : vs[lo]? with
    | none => rw [hx] at hat; cases hat
    | some x =>
      rw [hx] at hat
      have he : x.n.data.toList = s.data.toList := by simpa using hat.symm
      have hF : F = some x.v := by rw [hf, hx]; simp [he]
      subst hF
      have hlt : lo < n := by
        rw [HN.out]
        by_cases e : lo < vs.length
        · exact e
        · rw [List.getElem?_eq_none (by omega)] at hx; cases hx
      have hcel : ∀ w1 : World, Below w.heap.size w w1 → ∃ b o, ao = some ⟨b, o, none⟩ ∧ b < w.heap.size ∧ w1.cell? ⟨b, o + lo * 2, none⟩ = some (.string x.n) ∧ w1.cell? ⟨b, o + lo * 2 + 1, none⟩ = some (.string x.v) := fun w1 hb => (H.out.below hb).at hx
      have HC := Lib.hid hcel
      obtain ⟨b, o, rfl, hb, _⟩ := hcel w (Below.refl _ _)
      clear hf hat he hx hcel
      generalize x.v = xv at *
      unfold foundE
      go_enter Tryd.func17, Tryd.ntmps17
      go_wp2_with (go_at_call 30; refine k.mono ?_; rintro e w1 ⟨rfl, hb1⟩; obtain ⟨b', o', eq, _, _, c1⟩ := HC.out w1 hb1; obtain ⟨rfl, rfl⟩ : b = b' ∧ o = o' := (by cases eq; exact ⟨rfl, rfl⟩); have HB1 := Lib.hid hb1; clear hb1 eq)
      go_ret2
      exact ⟨rfl, HB1.out⟩
end Go.Proofs.YtaaecgglocgcmaaDoor
namespace Go.Proofs.YtaaecgglocgcmaaDoor
open Go.ChangeShapes Go.WideShapes Go.ChangeAt Go.RowKit Go.Deep

theorem cellsVarA : Tryd.prog.cellsOf 39 = 2 := by kernel_rfl
theorem bytesVarA : Tryd.prog.bytesOf 39 = 32 := by kernel_rfl
theorem weightsAll_memA {H : Type} {P : Program} {e : TypeId} {x : DataW H} {n : Nat} (hn : n ∈ DataW.weights P e x) : ∀ (l : List (DataW H)), x ∈ l → n ∈ DataW.weightsAll P e l
  | [], h => by cases h
  | y :: l, h => by
    simp only [DataW.weightsAll, List.mem_append]
    rcases List.mem_cons.1 h with rfl | h
    · exact .inl hn
    · exact .inr (weightsAll_memA hn l h)
set_option maxRecDepth 20000 in
/-- A variable's cells, and what they read as. -/
theorem trod_varA {H : Type} {enc : TypeId × Value → H} {W : World} {sp : Nat → Bool} {n : Nat} {cs : List Value} {y : DataW H × List MemPlace} (h : DataW.trod enc Tryd.prog W 0 sp true n 39 cs = some y) : ∃ q : Vr, cs = [.string q.n, .string q.v] ∧ y.1 = .agg [.lit (.string q.n.data.toList), .lit (.string q.v.data.toList)] := by
  obtain ⟨y0, y1, m, hx, hl, h0, h1⟩ := trod_struct2 Tryd.underlying39 h
  rw [cellsVarA] at hl
  obtain ⟨c0, c1, rfl⟩ : ∃ a b, cs = [a, b] := by
    match cs, hl with
    | [a, b], _ => exact ⟨a, b, rfl⟩
  have h0 : DataW.trod enc Tryd.prog W 0 sp true m 9 [c0] = some y0 := by simpa [cellsStrA] using h0
  have h1 : DataW.trod enc Tryd.prog W 0 sp true m 9 [c1] = some y1 := by simpa [cellsStrA] using h1
  obtain ⟨s0, e0, x0, _⟩ := DataW.trod_string Tryd.underlying9 h0
  obtain ⟨s1, e1, x1, _⟩ := DataW.trod_string Tryd.underlying9 h1
  simp at e0 e1
  subst e0 e1
  refine ⟨⟨s0, s1⟩, rfl, ?_⟩
  rw [hx, x0, x1]
instance : Inhabited Vr := ⟨⟨ByteArray.empty, ByteArray.empty⟩⟩
set_option maxRecDepth 20000 in
/-- An argument that is a row of variables. -/
theorem open_varsS {H : Type} {enc : TypeId × Value → H} {W : World} {v : Value} {d : DataW H} {p : List MemPlace} (hv : ∃ ao N cap, v = .slice ao N cap) (h : DataW.Trod enc Tryd.prog W 0 (fun _ => true) true 22 v d p)
    (hz : ∀ n ∈ DataW.weights Tryd.prog 22 d, n ≤ reachBytes) :
    ∃ (ao : Option Addr) (cap : Nat) (vs : List Vr), v = .slice ao vs.length cap ∧ Vars W.heap.size v vs W ∧ (vs.length ≤ 4398046511000 ∧ (ao = none → cap = 0)) ∧ ∀ x ∈ vs, x.n.size ≤ 140737488351232 ∧ x.v.size ≤ 140737488351232 := by
  obtain ⟨ao, N, cap, rfl⟩ := hv
  obtain ⟨fuel, hf⟩ := h
  have hf : DataW.trod enc Tryd.prog W 0 (fun _ => true) true fuel 22 [.slice ao N cap] = some (d, p) := hf
  rcases open_slice Tryd.underlying22 hf with ⟨h1, _⟩ | ⟨a, len, cap', m, n, D, Pl, h1, _, hl, hm, hmm, h2, hx⟩
  · obtain ⟨rfl, rfl, rfl⟩ : ao = none ∧ N = 0 ∧ cap = 0 := by simpa using h1
    exact ⟨none, 0, [], rfl, Vars.nil _ W, ⟨Nat.zero_le _, fun _ => rfl⟩, fun x hx => by cases hx⟩
  · obtain ⟨rfl, rfl, rfl⟩ : ao = some a ∧ N = len ∧ cap = cap' := by simpa using h1
    have hd : d = .slice ((List.range N).map D) ((List.range (m - N)).map fun j => D (N + j)) := (Prod.mk.inj h2).1
    rw [if_pos rfl] at hmm
    have hr : reachBytes = 140737488351232 := by decide
    have hN : N ≤ 4398046511000 := by
      have := hz ((((List.range N).map D).length + ((List.range (m - N)).map fun j => D (N + j)).length) * Tryd.prog.bytesOf 39) (by rw [hd]; simp [DataW.weights, Tryd.underlying22])
      rw [bytesVarA, hr, List.length_map, List.length_range, List.length_map, List.length_range] at this
      omega
    have each : ∀ i, i < m → ∃ q : Vr, W.cells? 0 (a.add (i * 2)) 2 = some [.string q.n, .string q.v] ∧ D i = .agg [.lit (.string q.n.data.toList), .lit (.string q.v.data.toList)] := fun i hi => by
      obtain ⟨cs', h3, h4⟩ := hx i hi
      obtain ⟨q, rfl, h5⟩ := trod_varA h4
      rw [cellsVarA] at h3
      exact ⟨q, h3, h5⟩
    obtain ⟨F, hF⟩ := choose_lt each
    have hS : ∀ i, i < N → (F i).n.size ≤ 140737488351232 ∧ (F i).v.size ≤ 140737488351232 := fun i hi => by
      have hDi := (hF i (by omega)).2
      have hin : ∀ n ∈ DataW.weights Tryd.prog 39 (D i), n ≤ reachBytes := fun n hn => by
        refine hz n ?_
        rw [hd]
        simp only [DataW.weights, Tryd.underlying22, List.mem_cons, List.mem_append]
        exact .inr (.inl (weightsAll_memA hn _ (List.mem_map.2 ⟨i, List.mem_range.2 hi, rfl⟩)))
      rw [hDi] at hin
      have l0 : (F i).n.data.toList.length = (F i).n.size := Array.length_toList
      have l1 : (F i).v.data.toList.length = (F i).v.size := Array.length_toList
      have g0 := hin (F i).n.data.toList.length (by simp [DataW.weights, Tryd.underlying39, DataW.weightsEach])
      have g1 := hin (F i).v.data.toList.length (by simp [DataW.weights, Tryd.underlying39, DataW.weightsEach])
      rw [hr] at g0 g1
      omega
    refine ⟨some a, cap, (List.range N).map F, by simp, ⟨some a, cap, by simp, by simpa using hl, by simp; omega, fun j q hj => ?_⟩, ⟨by simpa using hN, fun h => by cases h⟩, fun x hxm => ?_⟩
    · have hjN : j < N := by
        by_cases h : j < N
        · exact h
        · rw [List.getElem?_eq_none (by simp; omega)] at hj; cases hj
      have hq : F j = q := by simpa [hjN] using hj
      have hc := (hF j (by omega)).1
      rw [hq] at hc
      obtain ⟨_, _, hcs⟩ := World.cells?_some hc
      have c0 := hcs 0 (by decide)
      have c1 := hcs 1 (by decide)
      obtain ⟨ab, aoff, asp⟩ := a
      have hsp : asp = none := by
        have c00 := (World.cells?_some (hF 0 (by omega)).1).2.2 0 (by decide)
        have e : ((⟨ab, aoff, asp⟩ : Addr).add (0 * 2)).add 0 = ⟨ab, aoff, asp⟩ := rfl
        rw [e] at c00
        exact (cell_plainA (show W.cell? _ = some (.string (F 0).n) from c00)).1
      subst hsp
      have ea : ∀ i, ((⟨ab, aoff, none⟩ : Addr).add (j * 2)).add i = ⟨ab, aoff + j * 2 + i, none⟩ := fun i => by
        unfold Addr.add
        by_cases h1 : j * 2 = 0 <;> by_cases h2 : i = 0 <;> simp [h1, h2]
      rw [ea] at c0 c1
      exact ⟨ab, aoff, rfl, (cell_plainA (show W.cell? _ = some (.string q.n) from c0)).2, c0, c1⟩
    · obtain ⟨i, hi, rfl⟩ := List.mem_map.1 hxm
      exact hS i (List.mem_range.1 hi)
set_option maxRecDepth 20000 in
theorem open_varsA {H : Type} {enc : TypeId × Value → H} {W : World} {base : Nat} {v : Value} {d : DataW H} {p : List MemPlace} (hv : Value.okWide Tryd.prog W .any base 22 v) (h : DataW.Trod enc Tryd.prog W 0 (fun _ => true) true 22 v d p)
    (hz : ∀ n ∈ DataW.weights Tryd.prog 22 d, n ≤ reachBytes) :
    ∃ (ao : Option Addr) (cap : Nat) (vs : List Vr), v = .slice ao vs.length cap ∧ Vars W.heap.size v vs W ∧ (vs.length ≤ 4398046511000 ∧ (ao = none → cap = 0)) ∧ ∀ x ∈ vs, x.n.size ≤ 140737488351232 ∧ x.v.size ≤ 140737488351232 := by
  refine open_varsS ?_ h hz
  cases v <;> first | exact ⟨_, _, _, rfl⟩ | (exfalso; simp [Value.okWide, Cell.okWide, Cell.ok, Tryd.underlying22] at hv)
/-- It reads again behind a call that laid new memory alone. -/
theorem vars_again {H : Type} {enc : TypeId × Value → H} {W W' : World} {v : Value} {d : DataW H} {p : List MemPlace} {sp : Nat → Bool} (h : DataW.Trod enc Tryd.prog W 0 (fun _ => true) true 22 v d p)
    (hlt : ∀ q ∈ p, q.block < W.heap.size) (hb : Below W.heap.size W W') (hs : ∀ q ∈ p, sp q.block = true) : DataW.Trod enc Tryd.prog W' 0 sp true 22 v d p :=
  Go.WideElems.Trod_stays laidOutA (by kernel_rfl) (of_decide_eq_true (by kernel_rfl)) h (fun q hq => hb.same (hlt q hq)) hs
end Go.Proofs.YtaaecgglocgcmaaDoor
namespace Go.Proofs.YtaaecgglocgcmaaDoor
open Go.RowKit Go.Lib

def Vr.cells (x : Vr) : List Value := [.string x.n, .string x.v]
def vsC (vs : List Vr) : List Value := vs.flatMap Vr.cells
theorem vsC_append (a b : List Vr) : vsC (a ++ b) = vsC a ++ vsC b := by simp [vsC]
theorem vsC_length (vs : List Vr) : (vsC vs).length = vs.length * 2 := by
  induction vs with
  | nil => rfl
  | cons x r ih =>
    show (x.cells ++ vsC r).length = _
    rw [List.length_append, ih, List.length_cons]
    show 2 + r.length * 2 = _
    omega
theorem vsC_one (vs : List Vr) : ∀ u ∈ vsC vs, u.oneCell' = true := by
  intro u hu
  simp only [vsC, List.mem_flatMap, Vr.cells] at hu
  obtain ⟨x, _, hx⟩ := hu
  simp at hx
  rcases hx with rfl | rfl <;> rfl
theorem vsC_at : ∀ (vs : List Vr) (j : Nat) (x : Vr), vs[j]? = some x → (vsC vs)[j * 2]? = some (.string x.n) ∧ (vsC vs)[j * 2 + 1]? = some (.string x.v)
  | [], j, x, h => by simp at h
  | y :: r, 0, x, h => by
    simp at h
    subst h
    exact ⟨rfl, rfl⟩
  | y :: r, j + 1, x, h => by
    have ih := vsC_at r j x (by simpa using h)
    have e : vsC (y :: r) = .string y.n :: .string y.v :: vsC r := rfl
    rw [e, show (j + 1) * 2 = j * 2 + 1 + 1 by omega]
    simp only [List.getElem?_cons_succ]
    exact ih
theorem vsC_get : ∀ (vs : List Vr) (i : Nat) (u : Value), (vsC vs)[i]? = some u → ∃ j x, vs[j]? = some x ∧ (i = j * 2 ∧ u = .string x.n ∨ i = j * 2 + 1 ∧ u = .string x.v)
  | [], i, u, h => by simp [vsC] at h
  | y :: r, i, u, h => by
    have e : vsC (y :: r) = .string y.n :: .string y.v :: vsC r := rfl
    rw [e] at h
    match i, h with
    | 0, h => simp at h; exact ⟨0, y, rfl, .inl ⟨rfl, h.symm⟩⟩
    | 1, h => simp at h; exact ⟨0, y, rfl, .inr ⟨rfl, h.symm⟩⟩
    | i + 2, h =>
      simp only [List.getElem?_cons_succ] at h
      obtain ⟨j, x, h1, h2⟩ := vsC_get r i u h
      refine ⟨j + 1, x, by simpa using h1, ?_⟩
      rcases h2 with ⟨h2, h3⟩ | ⟨h2, h3⟩
      · exact .inl ⟨by omega, h3⟩
      · exact .inr ⟨by omega, h3⟩
/-- The cells of a part of a row. -/
theorem Vars.part {B : Nat} {a : Addr} {N cap : Nat} {vs : List Vr} {w : World} (h : Vars B (.slice (some a) N cap) vs w) (k : Nat) (ws : List Vr) (hw : ∀ j x, ws[j]? = some x → vs[k + j]? = some x) : ∀ j u, (vsC ws)[j]? = some u → w.cell? ((a.add (k * 2)).add j) = some u := by
  intro j u hj
  obtain ⟨i, x, h1, h2⟩ := vsC_get ws j u hj
  obtain ⟨b, o, e, _, c0, c1⟩ := h.at (hw i x h1)
  injection e with e
  subst e
  have ea : ∀ m, ((⟨b, o, none⟩ : Addr).add (k * 2)).add m = ⟨b, o + k * 2 + m, none⟩ := fun m => by
    unfold Addr.add
    by_cases h1 : k * 2 = 0 <;> by_cases h2 : m = 0 <;> simp [h1, h2]
  rw [ea]
  rcases h2 with ⟨rfl, rfl⟩ | ⟨rfl, rfl⟩
  · rw [show o + k * 2 + i * 2 = o + (k + i) * 2 by omega]; exact c0
  · rw [show o + k * 2 + (i * 2 + 1) = o + (k + i) * 2 + 1 by omega]; exact c1
theorem Vars.owned {w : World} {base n : Nat} {v : Value} {vs : List Vr} (h : w.ownsRow base 39 2 v n (vsC vs)) (hn : n ≤ 140737488355328) : Vars w.heap.size v vs w ∧ n = vs.length := by
  have hl := h.1
  rw [vsC_length] at hl
  obtain rfl : n = vs.length := by omega
  refine ⟨?_, rfl⟩
  rcases h.2 with ⟨rfl, h0⟩ | ⟨g, cap, cur, rfl, _, hg, hc, hm, hz, ht⟩
  · obtain rfl : vs = [] := List.eq_nil_of_length_eq_zero h0
    exact Vars.nil _ _
  · refine ⟨_, cap, rfl, hc, hn, fun j x hj => ⟨g, 0, rfl, block_ltA hg, ?_, ?_⟩⟩
    · have hjl : j < vs.length := by
        by_cases e : j < vs.length
        · exact e
        · rw [List.getElem?_eq_none (by omega)] at hj; cases hj
      have := (vsC_at vs j x hj).1
      rw [← ht, List.getElem?_take, if_pos (by omega)] at this
      rw [cell_of_heap hg, Nat.zero_add, ← Array.getElem?_toList]
      exact this
    · have hjl : j < vs.length := by
        by_cases e : j < vs.length
        · exact e
        · rw [List.getElem?_eq_none (by omega)] at hj; cases hj
      have := (vsC_at vs j x hj).2
      rw [← ht, List.getElem?_take, if_pos (by omega)] at this
      rw [cell_of_heap hg, Nat.zero_add, ← Array.getElem?_toList]
      exact this
/-- A row with one variable set. -/
def setA (vs : List Vr) (x : Vr) : List Vr := vs.take (lowA vs x.n.data.toList) ++ x :: vs.drop (lowA vs x.n.data.toList + if atA vs x.n.data.toList then 1 else 0)
theorem Tryd.infoVarA : (Tryd.prog.info? 39).map (fun i => (i.zero, i.size, i.bytes)) = some (some (.agg #[.string ByteArray.empty, .string ByteArray.empty]), 2, 32) := by kernel_rfl
set_option maxHeartbeats 4000000 in
set_option maxRecDepth 20000 in
theorem setA_some (a : Addr) (cap n lo hit : Nat) (vs : List Vr) (x : Vr) (ht : Bool) (w : World) (h : Vars w.heap.size (.slice (some a) n cap) vs w) (hn : n = vs.length) (hnc : n ≤ cap) (hlo : lo + hit ≤ n) (hht : hit = if ht then 1 else 0) (hN : n ≤ 4398046511000)
    (kp : Calls Tryd.prog 30 #[.slice (some a) n cap, .string x.n] w fun e w' => e = .returned (.tuple #[.int .i64 (lo : Int), .bool ht]) ∧ Below w.heap.size w w') :
    Calls Tryd.prog 20 #[.slice (some a) n cap, .string x.n, .string x.v] w fun e w' => (∃ v, e = .returned v ∧ w'.ownsRow w.heap.size 39 2 v (lo + 1 + (n - (lo + hit))) (vsC (vs.take lo) ++ x.cells ++ vsC (vs.drop (lo + hit)))) ∧ Below w.heap.size w w' := by
  obtain ⟨i0, hi, hz0, hz1, hz2⟩ := info_parts Tryd.infoVarA
  have PRE : Hid (∀ w' : World, Below w.heap.size w w' → ∀ (ad : Addr), some a = some ad → ∀ j u, (vsC (vs.take lo))[j]? = some u → w'.cell? (ad.add j) = some u) := by
    show ∀ w' : World, Below w.heap.size w w' → ∀ (ad : Addr), some a = some ad → ∀ j u, (vsC (vs.take lo))[j]? = some u → w'.cell? (ad.add j) = some u
    intro w' hb ad had j u hj
    cases had
    have := (h.below hb).part 0 (vs.take lo) (fun j x hx => by
      rw [List.getElem?_take] at hx
      split at hx
      · rw [Nat.zero_add]; exact hx
      · cases hx) j u hj
    exact this
  have SUF : Hid (∀ w' : World, Below w.heap.size w w' → ∀ j u, (vsC (vs.drop (lo + hit)))[j]? = some u → w'.cell? ((a.add ((lo + hit) * 2)).add j) = some u) := by
    show ∀ w' : World, Below w.heap.size w w' → ∀ j u, (vsC (vs.drop (lo + hit)))[j]? = some u → w'.cell? ((a.add ((lo + hit) * 2)).add j) = some u
    intro w' hb j u hj
    exact (h.below hb).part (lo + hit) (vs.drop (lo + hit)) (fun j x hx => by rw [List.getElem?_drop] at hx; exact hx) j u hj
  have LT : Hid ((vsC (vs.take lo)).length = lo * 2) := by
    show (vsC (vs.take lo)).length = lo * 2
    rw [vsC_length, List.length_take, Nat.min_eq_left (by omega)]
  have LD : Hid ((vsC (vs.drop (lo + hit))).length = (n - (lo + hit)) * 2) := by
    show (vsC (vs.drop (lo + hit))).length = (n - (lo + hit)) * 2
    rw [vsC_length, List.length_drop, hn]
  have hn1 : (n : Int) ≤ 4398046511000 := by omega
  have hlo1 : (lo : Int) ≤ (n : Int) := by omega
  have hnc1 : (n : Int) ≤ (cap : Int) := by omega
  have hlo2 : (lo : Int) ≤ (cap : Int) := by omega
  have one1 := Lib.hid (vsC_one (vs.take lo))
  have one2 := Lib.hid (vsC_one (vs.drop (lo + hit)))
  have CON : Hid (∀ w' : World, ∀ (ad : Addr), ad = ⟨w'.heap.size, 0, none⟩ → ∀ j u, x.cells[j]? = some u → (w'.alloc (.cells #[.string x.n, .string x.v] 39)).cell? (ad.add j) = some u) := by
    show ∀ w' : World, ∀ (ad : Addr), ad = ⟨w'.heap.size, 0, none⟩ → ∀ j u, x.cells[j]? = some u → (w'.alloc (.cells #[.string x.n, .string x.v] 39)).cell? (ad.add j) = some u
    intro w' ad had j u hj
    subst had
    have e : (⟨w'.heap.size, 0, none⟩ : Addr).add j = ⟨w'.heap.size, j, none⟩ := by simp [Addr.add]; intro h; exact h.symm
    rw [e, cell_of_heap (heap_alloc_new w' _)]
    simpa [Vr.cells] using hj
  have one3 : Hid (∀ u ∈ x.cells, u.oneCell' = true) := by
    show ∀ u ∈ x.cells, u.oneCell' = true
    intro u hu
    simp [Vr.cells] at hu
    rcases hu with rfl | rfl <;> rfl
  obtain ⟨X, hX⟩ : ∃ X, X = x.cells := ⟨_, rfl⟩
  have hX2 : Hid (X.length = 1 * 2) := by show X.length = 1 * 2; rw [hX]; rfl
  rw [← hX] at CON one3 ⊢
  generalize vsC (vs.take lo) = P at *
  generalize vsC (vs.drop (lo + hit)) = D at *
  clear h hn hX
  cases ht
  · obtain rfl : hit = 0 := hht
    by_cases hcap : lo + 0 = cap
    · have hDn : Hid (D = []) := by
        show D = []
        refine List.eq_nil_of_length_eq_zero ?_
        rw [LD.out]; omega
      obtain rfl : lo = cap := by omega
      obtain rfl : lo = n := by omega
      go_enter Tryd.func20, Tryd.ntmps20
      go_wp2_with (first
        | (go_at_call 30; (with_reducible refine kp.mono ?_); rintro e w1 ⟨rfl, hb1⟩; have HB := Lib.hid hb1; clear hb1)
        | (at_make; refine wpList_make_own _ rfl _ _ 22 rfl w.heap.size 39 i0 _ 2 Tryd.underlying22 hi hz0 hz1 .i64 .i64 _ (lo + 1) rfl rfl (by omega) (by rw [hz2]; omega) (by unfold maxLen; omega) HB.out.size ?_; intro w2 hown2 hgrow2; have HO2 := Lib.hid hown2; have HB2 := Lib.hid (HB.out.grown hgrow2 HB.out.size (fun r hr => by cases hr)); have HZ := Lib.hid HB.out.size; generalize w1.heap.size = g at *; clear hown2 hgrow2)
        | (at_builtin; refine wpList_append_fits_any _ rfl (.tmp 20) (.tmp 23) 22 rfl w.heap.size 39 i0 2 Tryd.underlying22 hi hz1 g 0 (lo + 1) [] rfl HO2.out (some a) lo lo P rfl LT.out (fun h => by cases h) (PRE.out _ HB2.out) one1.out (by omega) ?_; intro w3 hown3 hgrow3; simp only [Nat.zero_add, List.nil_append] at hown3; have HO3 := Lib.hid hown3; have HB3 := Lib.hid (HB2.out.grown hgrow3 HB2.out.size (fun r hr => by cases hr; exact HZ.out)); clear hown3 hgrow3)
        | (at_builtin; refine wpList_append_fits_any _ rfl (.tmp 25) (.tmp 29) 22 rfl w.heap.size 39 i0 2 Tryd.underlying22 hi hz1 g lo (lo + 1) P rfl (HO3.out.alloc _) (some ⟨w3.heap.size, 0, none⟩) 1 1 X rfl hX2.out (fun h => by cases h) (fun ad had => CON.out w3 ad (by cases had; rfl)) one3.out (by omega) ?_; intro w4 hown4 hgrow4; have HO4 := Lib.hid hown4; have HB4 := Lib.hid ((HB3.out.alloc HB3.out.size _).grown hgrow4 (by have := HB3.out.size; simp; omega) (fun r hr => by cases hr; exact HZ.out)); clear hown4 hgrow4)
        | (at_builtin; refine wpList_append_fits_any _ rfl (.tmp 34) (.tmp 37) 22 rfl w.heap.size 39 i0 2 Tryd.underlying22 hi hz1 g (lo + 1) (lo + 1) (P ++ X) rfl HO4.out _ 0 _ D rfl (by rw [hDn.out]; rfl) (fun h => by cases h) (fun ad had j u hj => by rw [hDn.out] at hj; simp at hj) one2.out (by omega) ?_; intro w5 hown5 hgrow5; have HO5 := Lib.hid hown5; have HB5 := Lib.hid (HB4.out.grown hgrow5 HB4.out.size (fun r hr => by cases hr; exact HZ.out)); clear hown5 hgrow5))
      refine bodyPost_ret (results_tmp rfl _ _ _) rfl ?_
      refine ⟨⟨_, rfl, ?_⟩, HB5.out⟩
      have HF := HO5.out
      rw [show lo + 1 + (lo - (lo + 0)) = lo + 1 + 0 by omega]
      exact HF
    · have hlt : lo + 0 < cap := by omega
      have hltI : (lo : Int) + 0 < (cap : Int) := by omega
      clear hcap
      go_enter Tryd.func20, Tryd.ntmps20
      go_wp2_with (first
        | (go_at_call 30; (with_reducible refine kp.mono ?_); rintro e w1 ⟨rfl, hb1⟩; have HB := Lib.hid hb1; clear hb1)
        | (at_make; refine wpList_make_own _ rfl _ _ 22 rfl w.heap.size 39 i0 _ 2 Tryd.underlying22 hi hz0 hz1 .i64 .i64 _ (n + 1) rfl rfl (by omega) (by rw [hz2]; omega) (by unfold maxLen; omega) HB.out.size ?_; intro w2 hown2 hgrow2; have HO2 := Lib.hid hown2; have HB2 := Lib.hid (HB.out.grown hgrow2 HB.out.size (fun r hr => by cases hr)); have HZ := Lib.hid HB.out.size; generalize w1.heap.size = g at *; clear hown2 hgrow2)
        | (at_builtin; refine wpList_append_fits_any _ rfl (.tmp 20) (.tmp 23) 22 rfl w.heap.size 39 i0 2 Tryd.underlying22 hi hz1 g 0 (n + 1) [] rfl HO2.out (some a) lo cap P rfl LT.out (fun h => by cases h) (PRE.out _ HB2.out) one1.out (by omega) ?_; intro w3 hown3 hgrow3; simp only [Nat.zero_add, List.nil_append] at hown3; have HO3 := Lib.hid hown3; have HB3 := Lib.hid (HB2.out.grown hgrow3 HB2.out.size (fun r hr => by cases hr; exact HZ.out)); clear hown3 hgrow3)
        | (at_builtin; refine wpList_append_fits_any _ rfl (.tmp 25) (.tmp 29) 22 rfl w.heap.size 39 i0 2 Tryd.underlying22 hi hz1 g lo (n + 1) P rfl (HO3.out.alloc _) (some ⟨w3.heap.size, 0, none⟩) 1 1 X rfl hX2.out (fun h => by cases h) (fun ad had => CON.out w3 ad (by cases had; rfl)) one3.out (by omega) ?_; intro w4 hown4 hgrow4; have HO4 := Lib.hid hown4; have HB4 := Lib.hid ((HB3.out.alloc HB3.out.size _).grown hgrow4 (by have := HB3.out.size; simp; omega) (fun r hr => by cases hr; exact HZ.out)); clear hown4 hgrow4)
        | (at_builtin; refine wpList_append_fits_any _ rfl (.tmp 34) (.tmp 37) 22 rfl w.heap.size 39 i0 2 Tryd.underlying22 hi hz1 g (lo + 1) (n + 1) (P ++ X) rfl HO4.out _ (n - (lo + 0)) _ D rfl LD.out (fun h => by cases h) (fun ad had j u hj => by cases had; exact SUF.out _ HB4.out j u hj) one2.out (by omega) ?_; intro w5 hown5 hgrow5; have HO5 := Lib.hid hown5; have HB5 := Lib.hid (HB4.out.grown hgrow5 HB4.out.size (fun r hr => by cases hr; exact HZ.out)); clear hown5 hgrow5))
      refine bodyPost_ret (results_tmp rfl _ _ _) rfl ?_
      refine ⟨⟨_, rfl, ?_⟩, HB5.out⟩
      have HF := HO5.out
      exact HF
  · obtain rfl : hit = 1 := hht
    by_cases hcap : lo + 1 = cap
    · have hDn : Hid (D = []) := by
        show D = []
        refine List.eq_nil_of_length_eq_zero ?_
        rw [LD.out]; omega
      obtain rfl : cap = lo + 1 := hcap.symm
      obtain rfl : n = lo + 1 := by omega
      go_enter Tryd.func20, Tryd.ntmps20
      go_wp2_with (first
        | (go_at_call 30; (with_reducible refine kp.mono ?_); rintro e w1 ⟨rfl, hb1⟩; have HB := Lib.hid hb1; clear hb1)
        | (at_make; refine wpList_make_own _ rfl _ _ 22 rfl w.heap.size 39 i0 _ 2 Tryd.underlying22 hi hz0 hz1 .i64 .i64 _ (lo + 1 + 1) rfl rfl (by omega) (by rw [hz2]; omega) (by unfold maxLen; omega) HB.out.size ?_; intro w2 hown2 hgrow2; have HO2 := Lib.hid hown2; have HB2 := Lib.hid (HB.out.grown hgrow2 HB.out.size (fun r hr => by cases hr)); have HZ := Lib.hid HB.out.size; generalize w1.heap.size = g at *; clear hown2 hgrow2)
        | (at_builtin; refine wpList_append_fits_any _ rfl (.tmp 20) (.tmp 23) 22 rfl w.heap.size 39 i0 2 Tryd.underlying22 hi hz1 g 0 (lo + 1 + 1) [] rfl HO2.out (some a) lo (lo + 1) P rfl LT.out (fun h => by cases h) (PRE.out _ HB2.out) one1.out (by omega) ?_; intro w3 hown3 hgrow3; simp only [Nat.zero_add, List.nil_append] at hown3; have HO3 := Lib.hid hown3; have HB3 := Lib.hid (HB2.out.grown hgrow3 HB2.out.size (fun r hr => by cases hr; exact HZ.out)); clear hown3 hgrow3)
        | (at_builtin; refine wpList_append_fits_any _ rfl (.tmp 25) (.tmp 29) 22 rfl w.heap.size 39 i0 2 Tryd.underlying22 hi hz1 g lo (lo + 1 + 1) P rfl (HO3.out.alloc _) (some ⟨w3.heap.size, 0, none⟩) 1 1 X rfl hX2.out (fun h => by cases h) (fun ad had => CON.out w3 ad (by cases had; rfl)) one3.out (by omega) ?_; intro w4 hown4 hgrow4; have HO4 := Lib.hid hown4; have HB4 := Lib.hid ((HB3.out.alloc HB3.out.size _).grown hgrow4 (by have := HB3.out.size; simp; omega) (fun r hr => by cases hr; exact HZ.out)); clear hown4 hgrow4)
        | (at_builtin; refine wpList_append_fits_any _ rfl (.tmp 34) (.tmp 37) 22 rfl w.heap.size 39 i0 2 Tryd.underlying22 hi hz1 g (lo + 1) (lo + 1 + 1) (P ++ X) rfl HO4.out _ 0 _ D rfl (by rw [hDn.out]; rfl) (fun h => by cases h) (fun ad had j u hj => by rw [hDn.out] at hj; simp at hj) one2.out (by omega) ?_; intro w5 hown5 hgrow5; have HO5 := Lib.hid hown5; have HB5 := Lib.hid (HB4.out.grown hgrow5 HB4.out.size (fun r hr => by cases hr; exact HZ.out)); clear hown5 hgrow5))
      refine bodyPost_ret (results_tmp rfl _ _ _) rfl ?_
      refine ⟨⟨_, rfl, ?_⟩, HB5.out⟩
      have HF := HO5.out
      rw [show lo + 1 + (lo + 1 - (lo + 1)) = lo + 1 + 0 by omega]
      exact HF
    · have hlt : lo + 1 < cap := by omega
      have hltI : (lo : Int) + 1 < (cap : Int) := by omega
      clear hcap
      go_enter Tryd.func20, Tryd.ntmps20
      go_wp2_with (first
        | (go_at_call 30; (with_reducible refine kp.mono ?_); rintro e w1 ⟨rfl, hb1⟩; have HB := Lib.hid hb1; clear hb1)
        | (at_make; refine wpList_make_own _ rfl _ _ 22 rfl w.heap.size 39 i0 _ 2 Tryd.underlying22 hi hz0 hz1 .i64 .i64 _ (n + 1) rfl rfl (by omega) (by rw [hz2]; omega) (by unfold maxLen; omega) HB.out.size ?_; intro w2 hown2 hgrow2; have HO2 := Lib.hid hown2; have HB2 := Lib.hid (HB.out.grown hgrow2 HB.out.size (fun r hr => by cases hr)); have HZ := Lib.hid HB.out.size; generalize w1.heap.size = g at *; clear hown2 hgrow2)
        | (at_builtin; refine wpList_append_fits_any _ rfl (.tmp 20) (.tmp 23) 22 rfl w.heap.size 39 i0 2 Tryd.underlying22 hi hz1 g 0 (n + 1) [] rfl HO2.out (some a) lo cap P rfl LT.out (fun h => by cases h) (PRE.out _ HB2.out) one1.out (by omega) ?_; intro w3 hown3 hgrow3; simp only [Nat.zero_add, List.nil_append] at hown3; have HO3 := Lib.hid hown3; have HB3 := Lib.hid (HB2.out.grown hgrow3 HB2.out.size (fun r hr => by cases hr; exact HZ.out)); clear hown3 hgrow3)
        | (at_builtin; refine wpList_append_fits_any _ rfl (.tmp 25) (.tmp 29) 22 rfl w.heap.size 39 i0 2 Tryd.underlying22 hi hz1 g lo (n + 1) P rfl (HO3.out.alloc _) (some ⟨w3.heap.size, 0, none⟩) 1 1 X rfl hX2.out (fun h => by cases h) (fun ad had => CON.out w3 ad (by cases had; rfl)) one3.out (by omega) ?_; intro w4 hown4 hgrow4; have HO4 := Lib.hid hown4; have HB4 := Lib.hid ((HB3.out.alloc HB3.out.size _).grown hgrow4 (by have := HB3.out.size; simp; omega) (fun r hr => by cases hr; exact HZ.out)); clear hown4 hgrow4)
        | (at_builtin; refine wpList_append_fits_any _ rfl (.tmp 34) (.tmp 37) 22 rfl w.heap.size 39 i0 2 Tryd.underlying22 hi hz1 g (lo + 1) (n + 1) (P ++ X) rfl HO4.out _ (n - (lo + 1)) _ D rfl LD.out (fun h => by cases h) (fun ad had j u hj => by cases had; exact SUF.out _ HB4.out j u hj) one2.out (by omega) ?_; intro w5 hown5 hgrow5; have HO5 := Lib.hid hown5; have HB5 := Lib.hid (HB4.out.grown hgrow5 HB4.out.size (fun r hr => by cases hr; exact HZ.out)); clear hown5 hgrow5))
      refine bodyPost_ret (results_tmp rfl _ _ _) rfl ?_
      refine ⟨⟨_, rfl, ?_⟩, HB5.out⟩
      have HF := HO5.out
      rw [show lo + 1 + (n - (lo + 1)) = n by omega] at HF ⊢
      exact HF
set_option maxHeartbeats 4000000 in
set_option maxRecDepth 20000 in
theorem setA_none (x : Vr) (w : World)
    (kp : Calls Tryd.prog 30 #[.slice none 0 0, .string x.n] w fun e w' => e = .returned (.tuple #[.int .i64 0, .bool false]) ∧ Below w.heap.size w w') :
    Calls Tryd.prog 20 #[.slice none 0 0, .string x.n, .string x.v] w fun e w' => (∃ v, e = .returned v ∧ w'.ownsRow w.heap.size 39 2 v 1 x.cells) ∧ Below w.heap.size w w' := by
  obtain ⟨i0, hi, hz0, hz1, hz2⟩ := info_parts Tryd.infoVarA
  have CON : Hid (∀ w' : World, ∀ (ad : Addr), ad = ⟨w'.heap.size, 0, none⟩ → ∀ j u, x.cells[j]? = some u → (w'.alloc (.cells #[.string x.n, .string x.v] 39)).cell? (ad.add j) = some u) := by
    show ∀ w' : World, ∀ (ad : Addr), ad = ⟨w'.heap.size, 0, none⟩ → ∀ j u, x.cells[j]? = some u → (w'.alloc (.cells #[.string x.n, .string x.v] 39)).cell? (ad.add j) = some u
    intro w' ad had j u hj
    subst had
    have e : (⟨w'.heap.size, 0, none⟩ : Addr).add j = ⟨w'.heap.size, j, none⟩ := by simp [Addr.add]; intro h; exact h.symm
    rw [e, cell_of_heap (heap_alloc_new w' _)]
    simpa [Vr.cells] using hj
  have one3 : Hid (∀ u ∈ x.cells, u.oneCell' = true) := by
    show ∀ u ∈ x.cells, u.oneCell' = true
    intro u hu
    simp [Vr.cells] at hu
    rcases hu with rfl | rfl <;> rfl
  obtain ⟨X, hX⟩ : ∃ X, X = x.cells := ⟨_, rfl⟩
  have hX2 : Hid (X.length = 1 * 2) := by show X.length = 1 * 2; rw [hX]; rfl
  rw [← hX] at CON one3 ⊢
  clear hX
  go_enter Tryd.func20, Tryd.ntmps20
  go_wp2_with (first
    | (go_at_call 30; (with_reducible refine kp.mono ?_); rintro e w1 ⟨rfl, hb1⟩; have HB := Lib.hid hb1; clear hb1)
    | (at_make; refine wpList_make_own _ rfl _ _ 22 rfl w.heap.size 39 i0 _ 2 Tryd.underlying22 hi hz0 hz1 .i64 .i64 _ 1 rfl rfl (by omega) (by rw [hz2]; omega) (by unfold maxLen; omega) HB.out.size ?_; intro w2 hown2 hgrow2; have HO2 := Lib.hid hown2; have HB2 := Lib.hid (HB.out.grown hgrow2 HB.out.size (fun r hr => by cases hr)); have HZ := Lib.hid HB.out.size; generalize w1.heap.size = g at *; clear hown2 hgrow2)
    | (at_builtin; refine wpList_append_fits_any _ rfl (.tmp 20) (.tmp 23) 22 rfl w.heap.size 39 i0 2 Tryd.underlying22 hi hz1 g 0 1 [] rfl HO2.out none 0 0 [] rfl rfl (fun _ => ⟨rfl, rfl⟩) (fun ad h => by cases h) (fun u hu => by cases hu) (by omega) ?_; intro w3 hown3 hgrow3; have HO3 := Lib.hid hown3; have HB3 := Lib.hid (HB2.out.grown hgrow3 HB2.out.size (fun r hr => by cases hr; exact HZ.out)); clear hown3 hgrow3)
    | (at_builtin; refine wpList_append_fits_any _ rfl (.tmp 25) (.tmp 29) 22 rfl w.heap.size 39 i0 2 Tryd.underlying22 hi hz1 g 0 1 [] rfl (HO3.out.alloc _) (some ⟨w3.heap.size, 0, none⟩) 1 1 X rfl hX2.out (fun h => by cases h) (fun ad had => CON.out w3 ad (by cases had; rfl)) one3.out (by omega) ?_; intro w4 hown4 hgrow4; have HO4 := Lib.hid hown4; have HB4 := Lib.hid ((HB3.out.alloc HB3.out.size _).grown hgrow4 (by have := HB3.out.size; simp; omega) (fun r hr => by cases hr; exact HZ.out)); clear hown4 hgrow4)
    | (at_builtin; refine wpList_append_fits_any _ rfl (.tmp 34) (.tmp 37) 22 rfl w.heap.size 39 i0 2 Tryd.underlying22 hi hz1 g 1 1 X rfl HO4.out none 0 0 [] rfl rfl (fun _ => ⟨rfl, rfl⟩) (fun ad h => by cases h) (fun u hu => by cases hu) (by omega) ?_; intro w5 hown5 hgrow5; rw [List.append_nil] at hown5; have HO5 := Lib.hid hown5; have HB5 := Lib.hid (HB4.out.grown hgrow5 HB4.out.size (fun r hr => by cases hr; exact HZ.out)); clear hown5 hgrow5))
  refine bodyPost_ret (results_tmp rfl _ _ _) rfl ?_
  exact ⟨⟨_, rfl, HO5.out⟩, HB5.out⟩
theorem atA_lt {vs : List Vr} {s : List UInt8} (h : atA vs s = true) : lowA vs s < vs.length := by
  unfold atA at h
  by_cases e : lowA vs s < vs.length
  · exact e
  · rw [List.getElem?_eq_none (by omega)] at h; cases h
/-- package arith's Set: a row of its own. -/
theorem setA_any (ao : Option Addr) (cap : Nat) (vs : List Vr) (x : Vr) (w : World) (h : Vars w.heap.size (.slice ao vs.length cap) vs w) (hr : risesA vs = true) (hno : ao = none → cap = 0) (hN : vs.length ≤ 4398046511000) :
    Calls Tryd.prog 20 #[.slice ao vs.length cap, .string x.n, .string x.v] w fun e w' => (∃ v, e = .returned v ∧ Vars w'.heap.size v (setA vs x) w') ∧ Below w.heap.size w w' := by
  have kp := placeA_any _ vs x.n w h hr
  have hl := h.len
  cases ao with
  | none =>
    obtain rfl := hno rfl
    have h0 : vs = [] := List.eq_nil_of_length_eq_zero (by omega)
    subst h0
    refine (setA_none x w kp).mono ?_
    rintro e w' ⟨⟨v, rfl, ho⟩, hb⟩
    have e1 : setA [] x = [x] := rfl
    have e2 : vsC [x] = x.cells := by simp [vsC]
    rw [e1]
    exact ⟨⟨v, rfl, (Vars.owned (vs := [x]) (by rw [e2]; exact ho) (by decide)).1⟩, hb⟩
  | some a =>
    have hlo := low_le vs x.n.data.toList
    refine (setA_some a cap vs.length (lowA vs x.n.data.toList) (if atA vs x.n.data.toList then 1 else 0) vs x (atA vs x.n.data.toList) w h rfl hl.2.1 (by
      split
      · rename_i ha; have := atA_lt ha; omega
      · omega) rfl hN kp).mono ?_
    rintro e w' ⟨⟨v, rfl, ho⟩, hb⟩
    have e2 : vsC (setA vs x) = vsC (vs.take (lowA vs x.n.data.toList)) ++ x.cells ++ vsC (vs.drop (lowA vs x.n.data.toList + if atA vs x.n.data.toList then 1 else 0)) := by
      unfold setA
      rw [vsC_append, List.append_assoc]
      rfl
    refine ⟨⟨v, rfl, (Vars.owned (vs := setA vs x) (by rw [e2]; exact ho) (by omega)).1⟩, hb⟩
end Go.Proofs.YtaaecgglocgcmaaDoor
namespace Go.Proofs.YtaaecgglocgcmaaDoor
open Go.RowKit Go.Lib

end Go.Proofs.YtaaecgglocgcmaaDoor
