/- Packed texts: ArLaid, ArCmp, ArFind, ArFrame, ArSet, HexNameRef, ArOf, ArName. What each of them proves stands above its theorems; the conditions stand in these. -/
import Derived.Deep.Strs
import Derived.LaidMore
import Derived.Lay
import Derived.Lib.Bytealg
import Derived.Lib.LaidU8
import Derived.OpenShut
import Derived.OwnWalk
import Derived.ProofKit
import Derived.SevenTiedAt
import Derived.ShutString
import Derived.SizedLaws
import Derived.Stop.Joined
import Derived.Stop.LaidErr
import Derived.Test.YtaaecgglocgcmaaDoorRows
import Derived.WideKeyArgs
import Derived.Test.YtaaecgglocgcmaaDoorD0
namespace Go.Proofs.YtaaecgglocgcmaaDoor
open Go.ChangeShapes Go.WideShapes Go.ChangeAt Go.RowKit Go.Deep

theorem ownA : ownKnob Tryd.prog.godebug = none := by kernel_rfl
theorem laidOutA : laidOutB Tryd.prog = true := by kernel_rfl
/-- The list that each row of this seat bears. -/
def laidAr : List (String × DataW Unit) := [("unicode/utf8.acceptRanges", Rows.laid_unicode_utf8_acceptRanges), ("dragoman/arith.marks", Rows.laid_dragoman_arith_marks), ("unicode/utf8.first", Rows.laid_unicode_utf8_first)]
set_option maxRecDepth 100000 in
theorem door_metAr (os : Os) (args : Array Value) : laidMetH Tryd.prog laidAr ((World.laidAll Tryd.prog os laidAr).forCall (fun _ _ => 0) ⟨#[], args, []⟩).memory := by
  rw [MakeChecks.laidMetH_plain _ _ _ (by kernel_rfl)]
  exact laidMet_laidAll _ (by kernel_rfl) (by kernel_rfl)
theorem cell_plainA {w : World} {a : Addr} {v : Value} (h : w.cell? a = some v) : a.spot = none ∧ a.block < w.heap.size := by
  unfold World.cell? at h
  split at h
  · rename_i hh
    constructor
    · by_cases hs : a.spot.isSome = true
      · rw [if_pos hs] at h; cases h
      · simpa using hs
    · by_cases hl : a.block < w.heap.size
      · exact hl
      · rw [Array.getElem?_eq_none (by omega)] at hh; cases hh
  · cases h
theorem cellsStrA : Tryd.prog.cellsOf 9 = 1 := by kernel_rfl
theorem cellsStrsA : Tryd.prog.cellsOf 44 = 1 := by kernel_rfl
theorem marks_data (k : Nat) (hk : k < 6) (ds : List (DataW Unit)) (hd : Rows.laid_dragoman_arith_marks = .agg ds) (d : DataW Unit) (h : ds[k]? = some d) : d = .slice ((marksAt k).map fun t => .lit (.string t.1)) [] := by
  have : ds = (List.range 6).map fun k => .slice ((marksAt k).map fun t => .lit (.string t.1)) [] := by
    have e : Rows.laid_dragoman_arith_marks (H := Unit) = .agg ((List.range 6).map fun k => .slice ((marksAt k).map fun t => .lit (.string t.1)) []) := by rfl
    rw [e] at hd
    injection hd with hd
    exact hd.symm
  rw [this] at h
  rw [List.getElem?_map, List.getElem?_range hk] at h
  injection h with h
  exact h.symm
set_option maxRecDepth 20000 in
theorem marks_of_laid {W : World} (h : laidMetH Tryd.prog laidAr W) : Marks W.heap.size W := by
  rw [MakeChecks.laidMetH_plain _ _ _ (by kernel_rfl)] at h
  obtain ⟨g, t, cs, fuel, p, hg, hty, hvar, hd⟩ := Lib.laidMet.reads h (n := "dragoman/arith.marks") (d := Rows.laid_dragoman_arith_marks) (.tail _ (.head _))
  have hg0 : Tryd.prog.globalNamed "dragoman/arith.marks" = some 0 := by kernel_rfl
  obtain rfl : g = 0 := (Option.some.inj (hg0.symm.trans hg)).symm
  have ht0 : (Tryd.prog.globals[0]?).map (·.type) = some 72 := by kernel_rfl
  obtain rfl : t = 72 := (Option.some.inj (ht0.symm.trans hty)).symm
  obtain ⟨ds, hds⟩ : ∃ ds, Rows.laid_dragoman_arith_marks (H := Unit) = .agg ds := ⟨_, rfl⟩
  rw [hds] at hd
  have each : ∀ k, k < 6 → ∃ b o cap, W.cell? ⟨0, k, none⟩ = some (.slice (some ⟨b, o, none⟩) (marksAt k).length cap) ∧ b < W.heap.size ∧ ∀ j t, (marksAt k)[j]? = some t → W.cell? ⟨b, o + j, none⟩ = some (.string ⟨t.1.toArray⟩) := by
    intro k hk
    obtain ⟨fuel', d, q, hdk, hf⟩ := Lib.array_elem Tryd.underlying72 hd k hk
    have hdd := marks_data k hk ds hds d hdk
    have hne : 0 < (marksAt k).length := by
      match k, hk with
      | 0, _ | 1, _ | 2, _ | 3, _ | 4, _ | 5, _ => decide
    rw [cellsStrsA, Nat.mul_one] at hf
    rcases open_strs Tryd.underlying44 Tryd.underlying9 cellsStrA hf with ⟨_, h2⟩ | ⟨a, len, cap, m, Sx, h1, _, hl, hm, hmm, h2, hx⟩
    · rw [hdd] at h2; cases h2
    · have hdx : d = .slice ((List.range len).map fun i => .lit (.string (Sx i).data.toList)) ((List.range (m - len)).map fun j => .lit (.string (Sx (len + j)).data.toList)) := (Prod.mk.inj h2).1
      rw [hdd] at hdx
      injection hdx with hE hR
      have hlen : len = (marksAt k).length := by
        have := congrArg List.length hE
        simpa using this.symm
      subst hlen
      have hcell : W.cell? ⟨0, k, none⟩ = some (.slice (some a) (marksAt k).length cap) := by
        rw [World.var?_cell hg hvar k, ← Array.getElem?_toList]
        have := congrArg (·[0]?) h1
        simp only [List.getElem?_take, List.getElem?_drop] at this
        simpa using this
      have hlm : (marksAt k).length ≤ m := by rw [hmm]; split <;> omega
      obtain ⟨ab, aoff, asp⟩ := a
      have hc0 := (hx 0 (by omega)).1
      have e0 : (⟨ab, aoff, asp⟩ : Addr).add 0 = ⟨ab, aoff, asp⟩ := rfl
      rw [e0] at hc0
      have hsp : asp = none := (cell_plainA hc0).1
      subst hsp
      refine ⟨ab, aoff, cap, hcell, (cell_plainA hc0).2, fun j t hj => ?_⟩
      have hjl : j < (marksAt k).length := by
        by_cases e : j < (marksAt k).length
        · exact e
        · rw [List.getElem?_eq_none (by omega)] at hj; cases hj
      have hc := (hx j (by omega)).1
      have ea : (⟨ab, aoff, none⟩ : Addr).add j = ⟨ab, aoff + j, none⟩ := by
        unfold Addr.add
        by_cases h2 : j = 0 <;> simp [h2]
      rw [ea] at hc
      rw [hc]
      have hEj := congrArg (·[j]?) hE
      simp only [List.getElem?_map, hj, Option.map_some, List.getElem?_range hjl] at hEj
      injection hEj with hEj
      injection hEj with hEj
      injection hEj with hEj
      have : Sx j = ⟨t.1.toArray⟩ := by
        apply ByteArray.ext
        apply Array.ext'
        rw [← hEj]
      rw [this]
  refine ⟨?_, each⟩
  obtain ⟨b, o, cap, hc, _⟩ := each 0 (by decide)
  exact (cell_plainA hc).2
/-- What a row asks behind a call that laid new memory alone. -/
theorem post_of_belowA {H : Type} {enc : TypeId × Value → H} {P : Program} {f : Func} {s : ChangeSpec} {apart fresh handsOn again : Bool} {W W' : World} {args : Array Value} {v : Value} {ds gs : List (DataW H)} {before pa pv : List MemPlace}
    (hW : DataW.Whole enc P f.params.toList s.vars apart W args.toList ds gs before)
    (hres : ∀ (b : Nat) (sp : Nat → Bool) (hd : Bool), DataW.TrodAll enc P W' b sp hd f.resultTypes.toList (v.resultList f.resultTypes.size) (s.fn H (ds ++ gs)).results [])
    (hargs : ∀ sp : Nat → Bool, (∀ p ∈ before, sp p.block = true) → DataW.TrodAll enc P W' 0 sp true f.params.toList args.toList (s.fn H (ds ++ gs)).args pa)
    (hvars : ∀ sp : Nat → Bool, (∀ p ∈ before, sp p.block = true) → DataW.TrodVars enc P W' sp s.vars (s.fn H (ds ++ gs)).vars pv)
    (hps : before = pa ++ pv) (hb : Below W.heap.size W W')
    (hok : ∀ (j : Nat) (t : TypeId) (r : Value), f.resultTypes[j]? = some t → (v.resultList f.resultTypes.size)[j]? = some r → Value.okWide P W' .any 0 t r) :
    s.post enc P f apart fresh handsOn again W args v W' := by
  have hlt : ∀ p ∈ before, p.block < W.heap.size := fun p hp => hW.lt p hp
  have hold : ∀ p ∈ before, (fun b => decide (b < W.heap.size)) p.block = true := fun p hp => by simpa using hlt p hp
  refine ⟨ds, gs, before, [], pa, pv, hW, hres _ _ _, hargs _ hold, hvars _ hold, World.keptBut_mono (fun p hp => ⟨hp, ?_⟩) (hb.frame (· ∈ before)), fun _ => ?_⟩
  · rw [hps, List.mem_append] at hp
    exact Or.inr hp
  · obtain ⟨_, _, _, _, _, hz, hn⟩ := hW
    refine ⟨hok, _, _, ([] ++ pa) ++ pv, ⟨[] ++ pa, pv, trodAll_append (hargs _ (fun _ _ => rfl)) (hres _ _ _), hvars _ (fun _ _ => rfl), rfl, ?_, ?_⟩, ?_⟩
    · intro b off hp
      have hin : MemPlace.cell b off ∈ before := by rw [hps]; simpa using hp
      rw [hb.frozen (hlt _ hin)]
      exact hz b off hin
    · intro ha
      have := hn ha
      rw [hps] at this
      simpa using this
    · intro p hp _
      rw [hps]
      simpa using hp
end Go.Proofs.YtaaecgglocgcmaaDoor
namespace Go.Proofs.YtaaecgglocgcmaaDoor
open Go.RowKit Go.Lib

theorem cmp_self : ∀ a : List UInt8, compareBytes a a = 0
  | [] => rfl
  | x :: a => by unfold compareBytes; rw [if_neg (UInt8.lt_irrefl x), if_neg (UInt8.lt_irrefl x)]; exact cmp_self a
theorem cmp_eq0 : ∀ a b : List UInt8, compareBytes a b = 0 → a = b
  | [], [], _ => rfl
  | [], _ :: _, h => by simp [compareBytes] at h
  | _ :: _, [], h => by simp [compareBytes] at h
  | x :: a, y :: b, h => by
    unfold compareBytes at h
    by_cases h1 : x < y
    · rw [if_pos h1] at h; simp at h
    · rw [if_neg h1] at h
      by_cases h2 : y < x
      · rw [if_pos h2] at h; simp at h
      · rw [if_neg h2] at h
        rw [cmp_eq0 a b h]
        have : x = y := by
          apply UInt8.toNat_inj.1
          rw [UInt8.lt_iff_toNat_lt] at h1 h2
          omega
        rw [this]
theorem cmp_trans : ∀ a b c : List UInt8, compareBytes a b < 0 → compareBytes b c < 0 → compareBytes a c < 0
  | [], [], c, h, _ => by simp [compareBytes] at h
  | [], _ :: _, [], _, h => by simp [compareBytes] at h
  | [], _ :: _, _ :: _, _, _ => by simp [compareBytes]
  | _ :: _, [], c, h, _ => by simp [compareBytes] at h
  | _ :: _, _ :: _, [], _, h => by simp [compareBytes] at h
  | x :: a, y :: b, z :: c, h1, h2 => by
    unfold compareBytes at h1 h2 ⊢
    have l1 : x < y ∨ (x = y ∧ compareBytes a b < 0) := by
      by_cases e : x < y
      · exact .inl e
      · rw [if_neg e] at h1
        by_cases e2 : y < x
        · rw [if_pos e2] at h1; simp at h1
        · rw [if_neg e2] at h1
          exact .inr ⟨UInt8.toNat_inj.1 (by rw [UInt8.lt_iff_toNat_lt] at e e2; omega), h1⟩
    have l2 : y < z ∨ (y = z ∧ compareBytes b c < 0) := by
      by_cases e : y < z
      · exact .inl e
      · rw [if_neg e] at h2
        by_cases e2 : z < y
        · rw [if_pos e2] at h2; simp at h2
        · rw [if_neg e2] at h2
          exact .inr ⟨UInt8.toNat_inj.1 (by rw [UInt8.lt_iff_toNat_lt] at e e2; omega), h2⟩
    rcases l1 with e1 | ⟨e1, g1⟩ <;> rcases l2 with e2 | ⟨e2, g2⟩
    · rw [if_pos (by rw [UInt8.lt_iff_toNat_lt] at *; omega)]; simp
    · subst e2; rw [if_pos e1]; simp
    · subst e1; rw [if_pos e2]; simp
    · subst e1; subst e2
      rw [if_neg (UInt8.lt_irrefl x), if_neg (UInt8.lt_irrefl x)]
      exact cmp_trans a b c g1 g2

/-- Names that rise. -/
def risesA : List Vr → Bool
  | [] => true
  | [_] => true
  | x :: y :: r => decide (compareBytes x.n.data.toList y.n.data.toList < 0) && risesA (y :: r)
/-- A row that is right. -/
def rightA (vs : List Vr) : Bool := vs.all (fun x => isNameB x.n.data.toList) && risesA vs
/-- How many names stand ahead of a name. -/
def lowA : List Vr → List UInt8 → Nat
  | [], _ => 0
  | x :: r, s => if compareBytes x.n.data.toList s < 0 then lowA r s + 1 else 0
theorem rises_tail {x : Vr} {r : List Vr} (h : risesA (x :: r) = true) : risesA r = true := by
  cases r with
  | nil => rfl
  | cons y r => simp only [risesA, Bool.and_eq_true] at h; exact h.2
theorem rises_head : ∀ {x : Vr} {r : List Vr}, risesA (x :: r) = true → ∀ y ∈ r, compareBytes x.n.data.toList y.n.data.toList < 0
  | x, [], _, y, hy => by cases hy
  | x, z :: r, h, y, hy => by
    have h0 := h
    simp only [risesA, Bool.and_eq_true, decide_eq_true_eq] at h
    rcases List.mem_cons.1 hy with e | e
    · subst e; exact h.1
    · exact cmp_trans _ _ _ h.1 (rises_head (rises_tail h0) y e)
theorem low_le (vs : List Vr) (s : List UInt8) : lowA vs s ≤ vs.length := by
  induction vs with
  | nil => exact Nat.le_refl _
  | cons x r ih => unfold lowA; split <;> simp <;> omega
theorem low_below : ∀ (vs : List Vr) (s : List UInt8) (i : Nat) (x : Vr), risesA vs = true → vs[i]? = some x → (compareBytes x.n.data.toList s < 0 ↔ i < lowA vs s)
  | [], s, i, x, _, h => by simp at h
  | y :: r, s, i, x, hr, h => by
    unfold lowA
    cases i with
    | zero =>
      simp at h
      subst h
      split
      · rename_i hc; exact ⟨fun _ => Nat.succ_pos _, fun _ => hc⟩
      · rename_i hc; exact ⟨fun h => absurd h hc, fun h => absurd h (Nat.lt_irrefl _)⟩
    | succ i =>
      have hx : r[i]? = some x := by simpa using h
      have ih := low_below r s i x (rises_tail hr) hx
      split
      · rename_i hc; rw [ih]; omega
      · rename_i hc
        refine ⟨fun hl => ?_, fun h => absurd h (Nat.not_lt_zero _)⟩
        exfalso
        exact hc (cmp_trans _ _ _ (rises_head hr x (List.mem_of_getElem? hx)) hl)
theorem find_low : ∀ (vs : List Vr) (s : List UInt8), risesA vs = true → findA vs s = match vs[lowA vs s]? with | some x => if x.n.data.toList = s then some x.v else none | none => none
  | [], s, _ => rfl
  | x :: r, s, hr => by
    unfold findA lowA
    by_cases he : x.n.data.toList = s
    · rw [if_pos he, if_neg (by rw [he, cmp_self]; omega)]
      simp [he]
    · rw [if_neg he]
      by_cases hc : compareBytes x.n.data.toList s < 0
      · rw [if_pos hc, find_low r s (rises_tail hr)]
        rfl
      · rw [if_neg hc]
        show findA r s = if x.n.data.toList = s then some x.v else none
        rw [if_neg he]
        have hall : ∀ y ∈ r, y.n.data.toList ≠ s := fun y hy e => by
          have h1 := rises_head hr y hy
          rw [e] at h1
          exact hc h1
        clear hr hc he
        induction r with
        | nil => rfl
        | cons y r ih =>
          unfold findA
          rw [if_neg (hall y (by simp))]
          exact ih (fun z hz => hall z (List.mem_cons_of_mem _ hz))
end Go.Proofs.YtaaecgglocgcmaaDoor
namespace Go.Proofs.YtaaecgglocgcmaaDoor
open Go.RowKit Go.Lib

/-- A row of variables that can be read, below a block. -/
def Vars (B : Nat) (v : Value) (vs : List Vr) (w : World) : Prop :=
  ∃ ao cap, v = .slice ao vs.length cap ∧ vs.length ≤ cap ∧ vs.length ≤ 140737488355328 ∧ ∀ j x, vs[j]? = some x → ∃ b o, ao = some ⟨b, o, none⟩ ∧ b < B ∧ w.cell? ⟨b, o + j * 2, none⟩ = some (.string x.n) ∧ w.cell? ⟨b, o + j * 2 + 1, none⟩ = some (.string x.v)
theorem Vars.below {B : Nat} {v : Value} {vs : List Vr} {w w' : World} (h : Vars B v vs w) (hb : Below B w w') : Vars B v vs w' := by
  obtain ⟨ao, cap, h1, hc, hl, h2⟩ := h
  refine ⟨ao, cap, h1, hc, hl, fun j x hj => ?_⟩
  obtain ⟨b, o, h3, h4, h5, h6⟩ := h2 j x hj
  have e : ∀ i, w'.cell? ⟨b, i, none⟩ = w.cell? ⟨b, i, none⟩ := fun i => by unfold World.cell?; rw [hb.block b h4]
  exact ⟨b, o, h3, h4, (e _).trans h5, (e _).trans h6⟩
theorem Vars.mono {B B' : Nat} {v : Value} {vs : List Vr} {w : World} (h : Vars B v vs w) (hb : B ≤ B') : Vars B' v vs w := by
  obtain ⟨ao, cap, h1, hc, hl, h2⟩ := h
  refine ⟨ao, cap, h1, hc, hl, fun j x hj => ?_⟩
  obtain ⟨b, o, h3, h4, h5, h6⟩ := h2 j x hj
  exact ⟨b, o, h3, Nat.lt_of_lt_of_le h4 hb, h5, h6⟩
theorem Vars.nil (B : Nat) (w : World) : Vars B (.slice none 0 0) [] w := ⟨none, 0, rfl, Nat.le_refl _, Nat.zero_le _, fun j x h => by simp at h⟩
theorem Vars.at {B : Nat} {ao : Option Addr} {N cap : Nat} {vs : List Vr} {w : World} (h : Vars B (.slice ao N cap) vs w) {j : Nat} {x : Vr} (hj : vs[j]? = some x) : ∃ b o, ao = some ⟨b, o, none⟩ ∧ b < B ∧ w.cell? ⟨b, o + j * 2, none⟩ = some (.string x.n) ∧ w.cell? ⟨b, o + j * 2 + 1, none⟩ = some (.string x.v) := by
  obtain ⟨_, _, h1, _, _, h2⟩ := h
  cases h1
  exact h2 j x hj
theorem Vars.len {B : Nat} {ao : Option Addr} {N cap : Nat} {vs : List Vr} {w : World} (h : Vars B (.slice ao N cap) vs w) : N = vs.length ∧ N ≤ cap ∧ N ≤ 140737488355328 := by
  obtain ⟨_, _, h1, h2, h3, _⟩ := h
  cases h1
  exact ⟨rfl, h2, h3⟩

set_option maxHeartbeats 400000 in
theorem placeCmp_any (n v s : ByteArray) (w : World) :
    Calls Tryd.prog 39 #[.agg #[.string n, .string v], .string s] w fun e w' => e = .returned (.int .i64 (compareBytes n.data.toList s.data.toList)) ∧ Below w.heap.size w w' := by
  have k := fun w => Tryd.strings_Compare n s w
  generalize compareBytes n.data.toList s.data.toList = c at k
  go_enter Tryd.func39, Tryd.ntmps39
  go_wp2_with (go_at_call 40; refine (k _).mono ?_; rintro e w1 ⟨rfl, rfl⟩)
  go_ret
  exact ⟨rfl, (Below.refl _ _).alloc (Nat.le_refl _) _⟩

/-- Where a name stands, and whether it does. -/
def atA (vs : List Vr) (s : List UInt8) : Bool := match vs[lowA vs s]? with | some x => decide (x.n.data.toList = s) | none => false
set_option maxHeartbeats 2000000 in
set_option maxRecDepth 20000 in
theorem searchA_walk (f : FuncId) (he : ∀ args w, (callFunc f args).run Tryd.prog w = .ok (.enter f args) w) (k : ∀ (n v s : ByteArray) (w : World), Calls Tryd.prog f #[.agg #[.string n, .string v], .string s] w fun e w' => e = .returned (.int .i64 (compareBytes n.data.toList s.data.toList)) ∧ Below w.heap.size w w') (v : Value) (vs : List Vr) (s : ByteArray) (w : World) (h : Vars w.heap.size v vs w) (hr : risesA vs = true) :
    Calls Tryd.prog 38 #[v, .string s, .func (.func f) #[] #[]] w fun e w' => e = .returned (.tuple #[.int .i64 (lowA vs s.data.toList : Int), .bool (atA vs s.data.toList)]) ∧ Below w.heap.size w w' := by
  obtain ⟨ao, cap, rfl, hc, hn⟩ : ∃ ao cap, v = .slice ao vs.length cap ∧ vs.length ≤ cap ∧ vs.length ≤ 140737488355328 := by
    obtain ⟨ao, cap, rfl, hc, hn, _⟩ := h
    exact ⟨ao, cap, rfl, hc, hn⟩
  have hlo := low_le vs s.data.toList
  have HB := Lib.hid (low_below vs s.data.toList)
  have HR := Lib.hid hr
  have H := Lib.hid h
  have hat : atA vs s.data.toList = match vs[lowA vs s.data.toList]? with | some x => decide (x.n.data.toList = s.data.toList) | none => false := rfl
  have HAT := Lib.hid hat
  clear hr h hat
  obtain ⟨lo, hlo'⟩ : ∃ lo, lo = lowA vs s.data.toList := ⟨_, rfl⟩
  rw [← hlo'] at hlo HAT ⊢
  rw [← hlo'] at HB
  clear hlo'
  obtain ⟨n, hn'⟩ : ∃ n, n = vs.length := ⟨_, rfl⟩
  rw [← hn'] at hn hc hlo H ⊢
  have HN := Lib.hid hn'
  clear hn'
  generalize atA vs s.data.toList = at' at *
  have hge : ∀ j, j < n → ∃ x, vs[j]? = some x := fun j hj => ⟨_, List.getElem?_eq_getElem (by rw [← HN.out]; exact hj)⟩
  have HGE := Lib.hid hge
  clear hge
  obtain ⟨B, hB⟩ : ∃ B, B = w.heap.size := ⟨_, rfl⟩
  rw [← hB] at H ⊢
  have HB0 := Lib.hid hB
  have hB0 : Hid (Below B w w) := Below.refl _ _
  clear hB
  have hst : Hid (Below B w w) := hB0
  clear hB0
  go_enter Tryd.func38, Tryd.ntmps38
  go_wp2_with fail
  go_loopw [9, 10] (fun i j wr => ∃ a b : Nat, i = .int .i64 (a : Int) ∧ j = .int .i64 (b : Int) ∧ a ≤ lo ∧ lo ≤ b ∧ b ≤ n ∧ Hid (Below B w wr)) (fun i j _ => (RowKit.intOf j - RowKit.intOf i).toNat)
  case atStart => exact ⟨0, n, rfl, rfl, Nat.zero_le _, hlo, Nat.le_refl _, hst⟩
  case round =>
    obtain ⟨a, b, rfl, rfl, ha, hb, hbn, HW⟩ := hrel
    have HV := Lib.hid (H.out.below HW.out)
    by_cases hlt : a < b
    · have hh0 : a ≤ (a + b) / 2 := by omega
      have hh1 : (a + b) / 2 < b := by omega
      obtain ⟨x, hx⟩ := HGE.out ((a + b) / 2) (by omega)
      have hcel := HV.out.at hx
      obtain ⟨g, o, rfl, hg, c0, c1⟩ := hcel
      have hz := Lib.hid (HB.out _ x HR.out hx)
      have k1 := fun w => k x.n x.v s w
      obtain ⟨c, hcc⟩ : ∃ c, c = compareBytes x.n.data.toList s.data.toList := ⟨_, rfl⟩
      rw [← hcc] at k1 hz
      clear hcc hx
      generalize x.n = xn at *
      generalize x.v = xv at *
      have HG := Lib.hid hg
      clear hg
      by_cases hneg : c < 0
      · have hal : Hid ((a + b) / 2 + 1 ≤ lo) := hz.out.1 hneg
        clear hz
        go_wp2_with (go_at_fn f; refine (k1 _).mono ?_; rintro e w1 ⟨rfl, hb1⟩; have HB1 := Lib.hid hb1; clear hb1)
        go_roundw
        case rel => exact ⟨(a + b) / 2 + 1, b, by go_num, rfl, hal.out, hb, hbn, HW.out.trans (HB1.out.mono (Nat.le_trans (Nat.le_of_eq HB0.out) HW.out.size))⟩
        case measure => simp [RowKit.intOf]; omega
      · have hal : Hid (lo ≤ (a + b) / 2) := by
          show lo ≤ (a + b) / 2
          have := hz.out
          omega
        clear hz
        go_wp2_with (go_at_fn f; refine (k1 _).mono ?_; rintro e w1 ⟨rfl, hb1⟩; have HB1 := Lib.hid hb1; clear hb1)
        go_roundw
        case rel => exact ⟨a, (a + b) / 2, rfl, by go_num, ha, hal.out, by omega, HW.out.trans (HB1.out.mono (Nat.le_trans (Nat.le_of_eq HB0.out) HW.out.size))⟩
        case measure => simp [RowKit.intOf]; omega
    · obtain rfl : a = lo := by omega
      by_cases hl : a < n
      · obtain ⟨x, hx⟩ := HGE.out a hl
        have hcel := HV.out.at hx
        obtain ⟨g, o, rfl, hg, c0, c1⟩ := hcel
        have hat := HAT.out
        rw [hx] at hat
        have k1 := fun w => k x.n x.v s w
        have hat2 : at' = (compareBytes x.n.data.toList s.data.toList == 0) := by
          rw [hat, Bool.eq_iff_iff]
          simp only [decide_eq_true_eq, beq_iff_eq]
          exact ⟨fun e => by rw [e, cmp_self], cmp_eq0 _ _⟩
        obtain ⟨c, hcc⟩ : ∃ c, c = compareBytes x.n.data.toList s.data.toList := ⟨_, rfl⟩
        rw [← hcc] at k1 hat2
        clear hcc hx hat
        generalize x.n = xn at *
        generalize x.v = xv at *
        have HG := Lib.hid hg
        clear hg
        have hl' : (a : Int) < (n : Int) := by omega
        have HAT2 := Lib.hid hat2
        clear hat2
        go_wp2_with (go_at_fn f; refine (k1 _).mono ?_; rintro e w1 ⟨rfl, hb1⟩; have HB1 := Lib.hid hb1; clear hb1)
        go_ret2
        exact ⟨by rw [HAT2.out]; rfl, HW.out.trans (HB1.out.mono (Nat.le_trans (Nat.le_of_eq HB0.out) HW.out.size))⟩
      · have hat := HAT.out
        rw [List.getElem?_eq_none (by rw [← HN.out]; omega)] at hat
        have HAT2 := Lib.hid hat
        clear hat
        have hl' : decide (a < n) = false := by simp; omega
        go_wp2
        go_ret2
        exact ⟨by rw [HAT2.out]; rfl, HW.out⟩
theorem searchA_any (v : Value) (vs : List Vr) (s : ByteArray) (w : World) (h : Vars w.heap.size v vs w) (hr : risesA vs = true) :
    Calls Tryd.prog 38 #[v, .string s, .func (.func 39) #[] #[]] w fun e w' => e = .returned (.tuple #[.int .i64 (lowA vs s.data.toList : Int), .bool (atA vs s.data.toList)]) ∧ Below w.heap.size w w' :=
  searchA_walk 39 (fun args w => enters_of Tryd.func39 (by kernel_rfl) rfl args w) placeCmp_any v vs s w h hr
set_option maxHeartbeats 400000 in
theorem placeA_any (v : Value) (vs : List Vr) (s : ByteArray) (w : World) (h : Vars w.heap.size v vs w) (hr : risesA vs = true) :
    Calls Tryd.prog 30 #[v, .string s] w fun e w' => e = .returned (.tuple #[.int .i64 (lowA vs s.data.toList : Int), .bool (atA vs s.data.toList)]) ∧ Below w.heap.size w w' := by
  have k := searchA_any v vs s w h hr
  obtain ⟨ao, cap, rfl, _⟩ := h
  clear hr
  generalize (lowA vs s.data.toList : Int) = lo at k ⊢
  generalize atA vs s.data.toList = b at k ⊢
  generalize vs.length = n at k
  go_enter Tryd.func30, Tryd.ntmps30
  go_wp2_with (go_at_call 38; refine k.mono ?_; rintro e w1 ⟨rfl, hb1⟩)
  go_ret2
  exact ⟨rfl, hb1⟩
/-- What Find answers. -/
def foundE : Option ByteArray → Ending
  | some v => .returned (.tuple #[.string v, .bool true])
  | none => .returned (.tuple #[.string ByteArray.empty, .bool false])
set_option maxHeartbeats 1000000 in
set_option maxRecDepth 20000 in
theorem findA_any (v : Value) (vs : List Vr) (s : ByteArray) (w : World) (h : Vars w.heap.size v vs w) (hr : risesA vs = true) :
    Calls Tryd.prog 17 #[v, .string s] w fun e w' => e = foundE (findA vs s.data.toList) ∧ Below w.heap.size w w' := by
  have k := placeA_any v vs s w h hr
  have hlo := low_le vs s.data.toList
  have hf := find_low vs s.data.toList hr
  have hat : atA vs s.data.toList = match vs[lowA vs s.data.toList]? with | some x => decide (x.n.data.toList = s.data.toList) | none => false := rfl
  have H := Lib.hid h
  obtain ⟨ao, cap, rfl, hc, hn, _⟩ := h
  clear hr
  generalize lowA vs s.data.toList = lo at *
  generalize atA vs s.data.toList = at' at *
  generalize findA vs s.data.toList = F at *
  obtain ⟨n, hn'⟩ : ∃ n, n = vs.length := ⟨_, rfl⟩
  rw [← hn'] at k hc hn hlo H ⊢
  have HN := Lib.hid hn'
  clear hn'
  cases at'
  · have hF : F = none := by
      rw [hf]
      cases hx : vs[lo]? with
      | none => rfl
      | some x =>
        rw [hx] at hat
        have hne : x.n.data.toList ≠ s.data.toList := fun e => by simp [e] at hat
        simp [hne]
    subst hF
    clear hf hat
    unfold foundE
    go_enter Tryd.func17, Tryd.ntmps17
    go_wp2_with (go_at_call 30; refine k.mono ?_; rintro e w1 ⟨rfl, hb1⟩; have HB1 := Lib.hid hb1; clear hb1)
    go_ret2
    exact ⟨rfl, HB1.out⟩
  · cases hx : vs[lo]? with
    | none => rw [hx] at hat; cases hat
    | some x =>
      rw [hx] at hat
      have he : x.n.data.toList = s.data.toList := by simpa using hat.symm
      have hF : F = some x.v := by rw [hf, hx]; simp [he]
      subst hF
      have hlt : lo < n := by
        rw [HN.out]
        by_cases e : lo < vs.length
        · exact e
        · rw [List.getElem?_eq_none (by omega)] at hx; cases hx
      have hcel : ∀ w1 : World, Below w.heap.size w w1 → ∃ b o, ao = some ⟨b, o, none⟩ ∧ b < w.heap.size ∧ w1.cell? ⟨b, o + lo * 2, none⟩ = some (.string x.n) ∧ w1.cell? ⟨b, o + lo * 2 + 1, none⟩ = some (.string x.v) := fun w1 hb => (H.out.below hb).at hx
      have HC := Lib.hid hcel
      obtain ⟨b, o, rfl, hb, _⟩ := hcel w (Below.refl _ _)
      clear hf hat he hx hcel
      generalize x.v = xv at *
      unfold foundE
      go_enter Tryd.func17, Tryd.ntmps17
      go_wp2_with (go_at_call 30; refine k.mono ?_; rintro e w1 ⟨rfl, hb1⟩; obtain ⟨b', o', eq, _, _, c1⟩ := HC.out w1 hb1; obtain ⟨rfl, rfl⟩ : b = b' ∧ o = o' := (by cases eq; exact ⟨rfl, rfl⟩); have HB1 := Lib.hid hb1; clear hb1 eq)
      go_ret2
      exact ⟨rfl, HB1.out⟩
end Go.Proofs.YtaaecgglocgcmaaDoor
namespace Go.Proofs.YtaaecgglocgcmaaDoor
open Go.ChangeShapes Go.WideShapes Go.ChangeAt Go.RowKit Go.Deep

theorem cellsVarA : Tryd.prog.cellsOf 39 = 2 := by kernel_rfl
theorem bytesVarA : Tryd.prog.bytesOf 39 = 32 := by kernel_rfl
theorem weightsAll_memA {H : Type} {P : Program} {e : TypeId} {x : DataW H} {n : Nat} (hn : n ∈ DataW.weights P e x) : ∀ (l : List (DataW H)), x ∈ l → n ∈ DataW.weightsAll P e l
  | [], h => by cases h
  | y :: l, h => by
    simp only [DataW.weightsAll, List.mem_append]
    rcases List.mem_cons.1 h with rfl | h
    · exact .inl hn
    · exact .inr (weightsAll_memA hn l h)
set_option maxRecDepth 20000 in
/-- A variable's cells, and what they read as. -/
theorem trod_varA {H : Type} {enc : TypeId × Value → H} {W : World} {sp : Nat → Bool} {n : Nat} {cs : List Value} {y : DataW H × List MemPlace} (h : DataW.trod enc Tryd.prog W 0 sp true n 39 cs = some y) : ∃ q : Vr, cs = [.string q.n, .string q.v] ∧ y.1 = .agg [.lit (.string q.n.data.toList), .lit (.string q.v.data.toList)] := by
  obtain ⟨y0, y1, m, hx, hl, h0, h1⟩ := trod_struct2 Tryd.underlying39 h
  rw [cellsVarA] at hl
  obtain ⟨c0, c1, rfl⟩ : ∃ a b, cs = [a, b] := by
    match cs, hl with
    | [a, b], _ => exact ⟨a, b, rfl⟩
  have h0 : DataW.trod enc Tryd.prog W 0 sp true m 9 [c0] = some y0 := by simpa [cellsStrA] using h0
  have h1 : DataW.trod enc Tryd.prog W 0 sp true m 9 [c1] = some y1 := by simpa [cellsStrA] using h1
  obtain ⟨s0, e0, x0, _⟩ := DataW.trod_string Tryd.underlying9 h0
  obtain ⟨s1, e1, x1, _⟩ := DataW.trod_string Tryd.underlying9 h1
  simp at e0 e1
  subst e0 e1
  refine ⟨⟨s0, s1⟩, rfl, ?_⟩
  rw [hx, x0, x1]
instance : Inhabited Vr := ⟨⟨ByteArray.empty, ByteArray.empty⟩⟩
set_option maxRecDepth 20000 in
/-- An argument that is a row of variables. -/
theorem open_varsS {H : Type} {enc : TypeId × Value → H} {W : World} {v : Value} {d : DataW H} {p : List MemPlace} (hv : ∃ ao N cap, v = .slice ao N cap) (h : DataW.Trod enc Tryd.prog W 0 (fun _ => true) true 22 v d p)
    (hz : ∀ n ∈ DataW.weights Tryd.prog 22 d, n ≤ reachBytes) :
    ∃ (ao : Option Addr) (cap : Nat) (vs : List Vr), v = .slice ao vs.length cap ∧ Vars W.heap.size v vs W ∧ (vs.length ≤ 4398046511000 ∧ (ao = none → cap = 0)) ∧ ∀ x ∈ vs, x.n.size ≤ 140737488351232 ∧ x.v.size ≤ 140737488351232 := by
  obtain ⟨ao, N, cap, rfl⟩ := hv
  obtain ⟨fuel, hf⟩ := h
  have hf : DataW.trod enc Tryd.prog W 0 (fun _ => true) true fuel 22 [.slice ao N cap] = some (d, p) := hf
  rcases open_slice Tryd.underlying22 hf with ⟨h1, _⟩ | ⟨a, len, cap', m, n, D, Pl, h1, _, hl, hm, hmm, h2, hx⟩
  · obtain ⟨rfl, rfl, rfl⟩ : ao = none ∧ N = 0 ∧ cap = 0 := by simpa using h1
    exact ⟨none, 0, [], rfl, Vars.nil _ W, ⟨Nat.zero_le _, fun _ => rfl⟩, fun x hx => by cases hx⟩
  · obtain ⟨rfl, rfl, rfl⟩ : ao = some a ∧ N = len ∧ cap = cap' := by simpa using h1
    have hd : d = .slice ((List.range N).map D) ((List.range (m - N)).map fun j => D (N + j)) := (Prod.mk.inj h2).1
    rw [if_pos rfl] at hmm
    have hr : reachBytes = 140737488351232 := by decide
    have hN : N ≤ 4398046511000 := by
      have := hz ((((List.range N).map D).length + ((List.range (m - N)).map fun j => D (N + j)).length) * Tryd.prog.bytesOf 39) (by rw [hd]; simp [DataW.weights, Tryd.underlying22])
      rw [bytesVarA, hr, List.length_map, List.length_range, List.length_map, List.length_range] at this
      omega
    have each : ∀ i, i < m → ∃ q : Vr, W.cells? 0 (a.add (i * 2)) 2 = some [.string q.n, .string q.v] ∧ D i = .agg [.lit (.string q.n.data.toList), .lit (.string q.v.data.toList)] := fun i hi => by
      obtain ⟨cs', h3, h4⟩ := hx i hi
      obtain ⟨q, rfl, h5⟩ := trod_varA h4
      rw [cellsVarA] at h3
      exact ⟨q, h3, h5⟩
    obtain ⟨F, hF⟩ := choose_lt each
    have hS : ∀ i, i < N → (F i).n.size ≤ 140737488351232 ∧ (F i).v.size ≤ 140737488351232 := fun i hi => by
      have hDi := (hF i (by omega)).2
      have hin : ∀ n ∈ DataW.weights Tryd.prog 39 (D i), n ≤ reachBytes := fun n hn => by
        refine hz n ?_
        rw [hd]
        simp only [DataW.weights, Tryd.underlying22, List.mem_cons, List.mem_append]
        exact .inr (.inl (weightsAll_memA hn _ (List.mem_map.2 ⟨i, List.mem_range.2 hi, rfl⟩)))
      rw [hDi] at hin
      have l0 : (F i).n.data.toList.length = (F i).n.size := Array.length_toList
      have l1 : (F i).v.data.toList.length = (F i).v.size := Array.length_toList
      have g0 := hin (F i).n.data.toList.length (by simp [DataW.weights, Tryd.underlying39, DataW.weightsEach])
      have g1 := hin (F i).v.data.toList.length (by simp [DataW.weights, Tryd.underlying39, DataW.weightsEach])
      rw [hr] at g0 g1
      omega
    refine ⟨some a, cap, (List.range N).map F, by simp, ⟨some a, cap, by simp, by simpa using hl, by simp; omega, fun j q hj => ?_⟩, ⟨by simpa using hN, fun h => by cases h⟩, fun x hxm => ?_⟩
    · have hjN : j < N := by
        by_cases h : j < N
        · exact h
        · rw [List.getElem?_eq_none (by simp; omega)] at hj; cases hj
      have hq : F j = q := by simpa [hjN] using hj
      have hc := (hF j (by omega)).1
      rw [hq] at hc
      obtain ⟨_, _, hcs⟩ := World.cells?_some hc
      have c0 := hcs 0 (by decide)
      have c1 := hcs 1 (by decide)
      obtain ⟨ab, aoff, asp⟩ := a
      have hsp : asp = none := by
        have c00 := (World.cells?_some (hF 0 (by omega)).1).2.2 0 (by decide)
        have e : ((⟨ab, aoff, asp⟩ : Addr).add (0 * 2)).add 0 = ⟨ab, aoff, asp⟩ := rfl
        rw [e] at c00
        exact (cell_plainA (show W.cell? _ = some (.string (F 0).n) from c00)).1
      subst hsp
      have ea : ∀ i, ((⟨ab, aoff, none⟩ : Addr).add (j * 2)).add i = ⟨ab, aoff + j * 2 + i, none⟩ := fun i => by
        unfold Addr.add
        by_cases h1 : j * 2 = 0 <;> by_cases h2 : i = 0 <;> simp [h1, h2]
      rw [ea] at c0 c1
      exact ⟨ab, aoff, rfl, (cell_plainA (show W.cell? _ = some (.string q.n) from c0)).2, c0, c1⟩
    · obtain ⟨i, hi, rfl⟩ := List.mem_map.1 hxm
      exact hS i (List.mem_range.1 hi)
set_option maxRecDepth 20000 in
theorem open_varsA {H : Type} {enc : TypeId × Value → H} {W : World} {base : Nat} {v : Value} {d : DataW H} {p : List MemPlace} (hv : Value.okWide Tryd.prog W .any base 22 v) (h : DataW.Trod enc Tryd.prog W 0 (fun _ => true) true 22 v d p)
    (hz : ∀ n ∈ DataW.weights Tryd.prog 22 d, n ≤ reachBytes) :
    ∃ (ao : Option Addr) (cap : Nat) (vs : List Vr), v = .slice ao vs.length cap ∧ Vars W.heap.size v vs W ∧ (vs.length ≤ 4398046511000 ∧ (ao = none → cap = 0)) ∧ ∀ x ∈ vs, x.n.size ≤ 140737488351232 ∧ x.v.size ≤ 140737488351232 := by
  refine open_varsS ?_ h hz
  cases v <;> first | exact ⟨_, _, _, rfl⟩ | (exfalso; simp [Value.okWide, Cell.okWide, Cell.ok, Tryd.underlying22] at hv)
/-- It reads again behind a call that laid new memory alone. -/
theorem vars_again {H : Type} {enc : TypeId × Value → H} {W W' : World} {v : Value} {d : DataW H} {p : List MemPlace} {sp : Nat → Bool} (h : DataW.Trod enc Tryd.prog W 0 (fun _ => true) true 22 v d p)
    (hlt : ∀ q ∈ p, q.block < W.heap.size) (hb : Below W.heap.size W W') (hs : ∀ q ∈ p, sp q.block = true) : DataW.Trod enc Tryd.prog W' 0 sp true 22 v d p :=
  Go.WideElems.Trod_stays laidOutA (by kernel_rfl) (of_decide_eq_true (by kernel_rfl)) h (fun q hq => hb.same (hlt q hq)) hs
end Go.Proofs.YtaaecgglocgcmaaDoor
namespace Go.Proofs.YtaaecgglocgcmaaDoor
open Go.RowKit Go.Lib

def Vr.cells (x : Vr) : List Value := [.string x.n, .string x.v]
end Go.Proofs.YtaaecgglocgcmaaDoor
namespace Go.Proofs.YtaaecgglocgcmaaDoor
open Go.RowKit Go.Lib

set_option maxHeartbeats 1000000 in
theorem refIsName_any (s : ByteArray) (w : World) (hs : s.size ≤ 70000000000000) :
    Calls Tryd.prog 28 #[.string s] w fun e w' => e = .returned (.bool (isNameB s.data.toList)) ∧ w = w' := by
  go_enter Tryd.func28, Tryd.ntmps28
  go_wp2
  go_loop [3] (fun i => ∃ k : Nat, k ≤ s.size ∧ i = .int .i64 k ∧ namePre (s.data.toList.take k) = true) (fun i => s.size - (RowKit.intOf i).toNat)
  case atStart => exact ⟨0, Nat.zero_le _, rfl, rfl⟩
  case round =>
    obtain ⟨k, hk, rfl, hpre⟩ := hrel
    have HP := Lib.hid hpre
    clear hpre
    by_cases hlt : k < s.size
    · have hsn := Lib.hid (namePre_take s k hlt)
      have hno := Lib.hid (namePre_no s (k + 1))
      obtain ⟨c, hcc⟩ : ∃ c, s[k] = c := ⟨_, rfl⟩
      rw [hcc] at hsn
      have cls : ((c.toNat : Int) < 48) ∨ (48 ≤ (c.toNat : Int) ∧ (c.toNat : Int) ≤ 57) ∨ (58 ≤ (c.toNat : Int) ∧ (c.toNat : Int) ≤ 64) ∨ (65 ≤ (c.toNat : Int) ∧ (c.toNat : Int) ≤ 90) ∨ (91 ≤ (c.toNat : Int) ∧ (c.toNat : Int) ≤ 94) ∨ ((c.toNat : Int) = 95) ∨ ((c.toNat : Int) = 96) ∨ (97 ≤ (c.toNat : Int) ∧ (c.toNat : Int) ≤ 122) ∨ (123 ≤ (c.toNat : Int)) := by omega
      rcases cls with h | ⟨h, h'⟩ | ⟨h, h'⟩ | ⟨h, h'⟩ | ⟨h, h'⟩ | h | h | ⟨h, h'⟩ | h <;> by_cases h0 : 0 < k
      all_goals
        first
        | have hn := Lib.hid (show nameOk k c = true by simp [nameOk, isLet, isFig]; omega)
        | have hn := Lib.hid (show nameOk k c = false by rw [Bool.eq_false_iff]; simp [nameOk, isLet, isFig]; omega)
        first
        | have h9 : ((c.toNat : Int) == 95) = false := by simp; omega
        | have h9 : ((c.toNat : Int) == 95) = true := by simp; omega
        first
        | have h8 : ((k : Int) == 0) = false := by simp; omega
        | have h8 : ((k : Int) == 0) = true := by simp; omega
        first
        | have h7 : decide ((c.toNat : Int) ≤ 90) = false := by simp; omega
        | have h7 : decide ((c.toNat : Int) ≤ 90) = true := by simp; omega
        first
        | have h6 : decide ((c.toNat : Int) ≤ 122) = false := by simp; omega
        | have h6 : decide ((c.toNat : Int) ≤ 122) = true := by simp; omega
        go_wp2
        first
        | go_ret
          refine ⟨ret_bool ?_, rfl⟩
          rw [hno.out (by rw [hsn.out, hn.out]; simp)]
        | go_round
          case rel => exact ⟨k + 1, by omega, by go_num, by rw [hsn.out, hn.out, HP.out]; rfl⟩
          case measure => simp [RowKit.intOf]; omega
    · have hall : s.data.toList.take k = s.data.toList := List.take_of_length_le (by simp; omega)
      have HA := Lib.hid hall
      clear hall
      go_wp2
      all_goals
        go_ret
        refine ⟨ret_bool ?_, rfl⟩
        have := HP.out
        rw [HA.out] at this
        simp only [isNameB, this, isEmpty_size]
        by_cases h0 : s.size = 0 <;> simp [h0]
        try omega
end Go.Proofs.YtaaecgglocgcmaaDoor
namespace Go.Proofs.YtaaecgglocgcmaaDoor
open Go.RowKit Go.Lib

def errA (e : Int) : Ending := .panicked [{ v := .iface 25 (.int .i64 e), recovered := false }]
/-- How a call ends that comes to something. -/
def CmP : Cm → Ending → Prop
  | .is n, e => e = .returned (.int .i64 n)
  | .no x, e => e = errA x

set_option maxHeartbeats 400000 in
theorem toldA_any (b : Bool) (w : World) : Calls Tryd.prog 65 #[.bool b] w fun e w' => e = .returned (.int .i64 (tellA b)) ∧ w' = w := by
  cases b
  all_goals
    go_enter Tryd.func65, Tryd.ntmps65
    go_wp2
    go_ret
    exact ⟨rfl, rfl⟩

def isSum : Mk → Bool
  | .add | .sub | .mul | .quo | .rem => true
  | _ => false
set_option maxHeartbeats 1000000 in
theorem reckonedA_any (m : Mk) (a b : Int) (w : World) (hm : isSum m = true) : Calls Tryd.prog 66 #[.int .i64 a, .string ⟨(markTx m).toArray⟩, .int .i64 b] w fun e w' => CmP (opD m a b) e ∧ w' = w := by
  cases m <;> first | cases hm | skip
  case add =>
    simp only [markTx, opD, CmP]
    go_enter Tryd.func66, Tryd.ntmps66
    go_wp2
    go_ret
    exact ⟨rfl, rfl⟩
  case sub =>
    simp only [markTx, opD, CmP]
    go_enter Tryd.func66, Tryd.ntmps66
    go_wp2
    go_ret
    exact ⟨rfl, rfl⟩
  case mul =>
    simp only [markTx, opD, CmP]
    go_enter Tryd.func66, Tryd.ntmps66
    go_wp2
    go_ret
    exact ⟨rfl, rfl⟩
  case quo =>
    by_cases h0 : b = 0
    · subst h0
      have eo : opD .quo a 0 = .no 4 := rfl
      rw [eo]
      simp only [markTx, CmP, errA]
      go_enter Tryd.func66, Tryd.ntmps66
      go_wp2
      exact ⟨rfl, rfl, rfl⟩
    · have eo : opD .quo a b = .is (wrap64 (a.tdiv b)) := if_neg h0
      rw [eo]
      have hb : (b == 0) = false := by simpa using h0
      simp only [markTx, CmP]
      go_enter Tryd.func66, Tryd.ntmps66
      go_wp2
      go_ret
      exact ⟨rfl, rfl⟩
  case rem =>
    by_cases h0 : b = 0
    · subst h0
      have eo : opD .rem a 0 = .no 4 := rfl
      rw [eo]
      simp only [markTx, CmP, errA]
      go_enter Tryd.func66, Tryd.ntmps66
      go_wp2
      exact ⟨rfl, rfl, rfl⟩
    · have eo : opD .rem a b = .is (a.tmod b) := if_neg h0
      rw [eo]
      have hb : (b == 0) = false := by simpa using h0
      simp only [markTx, CmP]
      go_enter Tryd.func66, Tryd.ntmps66
      go_wp2
      go_ret
      exact ⟨rfl, rfl⟩
set_option maxHeartbeats 2000000 in
theorem ofA_any (m : Mk) (a b : Int) (w : World) : Calls Tryd.prog 53 #[.int .i64 a, .string ⟨(markTx m).toArray⟩, .int .i64 b] w fun e w' => CmP (opD m a b) e ∧ w' = w := by
  have hr := reckonedA_any m a b
  have ht := toldA_any
  cases hm : isSum m
  · clear hr
    cases m <;> first | cases hm | skip
    case false.or.refl =>
      simp only [markTx, opD, CmP]
      cases ha : a != 0
      all_goals
        have HT := Lib.hid (ht (b != 0))
        have HT2 := Lib.hid (ht true)
        go_enter Tryd.func53, Tryd.ntmps53
        go_wp2_with (go_at_call 65; refine (ht _ _).mono ?_; rintro e w1 ⟨rfl, rfl⟩)
        go_ret
        exact ⟨rfl, rfl⟩
    case false.and.refl =>
      simp only [markTx, opD, CmP]
      cases ha : a != 0
      all_goals
        go_enter Tryd.func53, Tryd.ntmps53
        go_wp2_with (go_at_call 65; refine (ht _ _).mono ?_; rintro e w1 ⟨rfl, rfl⟩)
        go_ret
        exact ⟨rfl, rfl⟩
    all_goals
      simp only [markTx, opD, CmP]
      go_enter Tryd.func53, Tryd.ntmps53
      go_wp2_with (go_at_call 65; refine (ht _ _).mono ?_; rintro e w1 ⟨rfl, rfl⟩)
      go_ret
      exact ⟨rfl, rfl⟩
  · have hr := hr w hm
    cases hc : opD m a b with
    | is n =>
      rw [hc] at hr
      clear hc
      cases m <;> first | cases hm | skip
      all_goals
        simp only [markTx, CmP] at *
        go_enter Tryd.func53, Tryd.ntmps53
        go_wp2_with (go_at_call 66; refine hr.mono ?_; rintro e w1 ⟨rfl, rfl⟩)
        go_ret
        exact ⟨rfl, rfl⟩
    | no x =>
      rw [hc] at hr
      clear hc
      cases m <;> first | cases hm | skip
      all_goals
        simp only [markTx, CmP, errA] at *
        go_enter Tryd.func53, Tryd.ntmps53
        go_wp2_with (go_at_call 66; refine hr.mono ?_; rintro e w1 ⟨rfl, rfl⟩)
        exact ⟨rfl, rfl, rfl⟩
end Go.Proofs.YtaaecgglocgcmaaDoor
namespace Go.Proofs.YtaaecgglocgcmaaDoor
open Go.RowKit Go.Lib

theorem while_at (q : UInt8 → Bool) : ∀ (r : List UInt8) (j : Nat) (c : UInt8), j ≤ (r.takeWhile q).length → r[j]? = some c → (q c = true ↔ j + 1 ≤ (r.takeWhile q).length)
  | [], j, c, _, h => by simp at h
  | a :: r, j, c, hj, h => by
    rw [List.takeWhile_cons] at hj ⊢
    cases j with
    | zero =>
      simp at h
      subst h
      cases hq : q a <;> simp
    | succ j =>
      cases hq : q a
      · rw [hq] at hj; simp at hj
      · rw [hq] at hj
        have hc : r[j]? = some c := by simpa using h
        have := while_at q r j c (by simpa using hj) hc
        rw [this]
        simp
theorem name_at (l : List UInt8) (j : Nat) (c : UInt8) (hj : j ≤ (nameL l).length) (h : l[j]? = some c) : (nameOk j c = true ↔ j + 1 ≤ (nameL l).length) := by
  cases l with
  | nil => simp at h
  | cons a r =>
    simp only [nameL] at hj ⊢
    cases hl : isLet a
    · rw [hl] at hj
      simp at hj
      subst hj
      simp at h
      subst h
      simp [nameOk, hl]
    · rw [hl] at hj
      cases j with
      | zero =>
        simp at h
        subst h
        simp [nameOk, hl]
      | succ j =>
        have hc : r[j]? = some c := by simpa using h
        have := while_at restOk r j c (by simpa using hj) hc
        have e : nameOk (j + 1) c = restOk c := by simp [nameOk, restOk]
        rw [e, this]
        simp
theorem name_le (l : List UInt8) : (nameL l).length ≤ l.length := by
  cases l with
  | nil => exact Nat.le_refl _
  | cons a r =>
    simp only [nameL]
    split
    · simp only [List.length_cons]
      have := (List.takeWhile_prefix restOk (l := r)).length_le
      omega
    · simp
theorem name_take (l : List UInt8) : l.take (nameL l).length = nameL l := by
  cases l with
  | nil => rfl
  | cons a r =>
    simp only [nameL]
    split
    · simp only [List.length_cons, List.take_succ_cons]
      congr 1
      exact (List.prefix_iff_eq_take.1 (List.takeWhile_prefix restOk)).symm
    · rfl
/-- What stands ahead of a byte that is asked for. -/
def aheadA (k : Nat) : ByteArray := if k = 0 then ByteArray.empty else ⟨#[95]⟩
theorem ahead_ok (k : Nat) (c : UInt8) (X : ByteArray) (hX : X = aheadA k ++ ⟨#[c]⟩) : isNameB X.data.toList = nameOk k c := by
  subst hX
  unfold aheadA
  cases k with
  | zero =>
    rw [if_pos rfl]
    have e : (ByteArray.empty ++ ⟨#[c]⟩ : ByteArray).data.toList = [c] := by rw [ByteArray.data_append]; rfl
    rw [e]
    simp [isNameB, namePre, nameOk]
  | succ k =>
    rw [if_neg (by omega)]
    have e : ((⟨#[95]⟩ : ByteArray) ++ ⟨#[c]⟩ : ByteArray).data.toList = [95, c] := by rw [ByteArray.data_append]; rfl
    rw [e]
    have : isLet 95 = true := by decide
    simp [isNameB, namePre, nameOk, this, restOk]
theorem one_byte (l : List UInt8) (k : Nat) (c : UInt8) (h : l[k]? = some c) : (⟨l.toArray⟩ : ByteArray).extract k (k + 1) = ⟨#[c]⟩ := by
  apply ByteArray.ext
  rw [ByteArray.data_extract]
  apply Array.ext'
  simp only [List.extract_toArray, List.extract_eq_drop_take', List.toList_toArray]
  rw [Nat.add_comm k 1]
  have hk : k < l.length := by
    by_cases e : k < l.length
    · exact e
    · rw [List.getElem?_eq_none (by omega)] at h; cases h
  have hc : l[k] = c := by rw [List.getElem?_eq_getElem hk] at h; injection h
  rw [show l.take (1 + k) = l.take k ++ [l[k]] by rw [Nat.add_comm]; exact List.take_succ_eq_append_getElem hk]
  rw [List.drop_append_of_le_length (by simp; omega)]
  rw [List.drop_of_length_le (by simp; omega), hc]
  rfl

/-- What the method name answers. -/
def NameP (p : Nat) (l : List UInt8) (vv : Value) (d : Nat) (i : Bool) (w : World) (e : Ending) (w' : World) : Prop :=
  (nameL l = [] ∧ e = errA 9 ∨ nameL l ≠ [] ∧ e = .returned (.string ⟨(nameL l).toArray⟩) ∧ Rk p (l.drop (nameL l).length) vv d i w') ∧ Below p w w'
set_option maxHeartbeats 2000000 in
set_option maxRecDepth 20000 in
theorem nameA_any (p : Nat) (l : List UInt8) (vv : Value) (d : Nat) (i : Bool) (w : World) (h : Rk p l vv d i w) (hl : l.length ≤ 70000000000000) :
    Calls Tryd.prog 59 #[.pointer (some ⟨p, 0, none⟩)] w (NameP p l vv d i w) := by
  have hlt := h.lt
  have CEL := Lib.hid (fun (w1 : World) (hb : Below w.heap.size w w1) => (And.intro (h.below hb).cells.1 (h.below hb).cells.2.2.2.2.1))
  have PUT := Lib.hid (fun (r : List UInt8) (w1 : World) (hb : Below w.heap.size w w1) => (And.intro ((h.below hb).rest r) ((hb.mono (Nat.le_of_lt hlt)).setCell (p := ⟨p, 0, none⟩) (Nat.le_refl _) (.string ⟨r.toArray⟩))))
  have NAT := Lib.hid (name_at l)
  have hnl := name_le l
  have ONE := Lib.hid (one_byte l)
  have TK : Hid (∀ m, m = (nameL l).length → (⟨l.toArray⟩ : ByteArray).extract 0 m = ⟨(nameL l).toArray⟩) := by
    show ∀ m, m = (nameL l).length → (⟨l.toArray⟩ : ByteArray).extract 0 m = ⟨(nameL l).toArray⟩
    intro m hm
    subst hm
    apply ByteArray.ext
    rw [ByteArray.data_extract]
    apply Array.ext'
    simp only [List.extract_toArray, List.extract_eq_drop_take', List.toList_toArray, List.drop_zero]
    exact name_take l
  have DR : Hid (∀ m, (⟨l.toArray⟩ : ByteArray).extract m l.length = ⟨(l.drop m).toArray⟩) := by
    show ∀ m, (⟨l.toArray⟩ : ByteArray).extract m l.length = ⟨(l.drop m).toArray⟩
    intro m
    apply ByteArray.ext
    rw [ByteArray.data_extract]
    apply Array.ext'
    simp only [List.extract_toArray, List.extract_eq_drop_take']
    rw [List.take_of_length_le (Nat.le_refl _)]
  have EMP : Hid ((nameL l).length = 0 → nameL l = []) := by
    show (nameL l).length = 0 → nameL l = []
    exact List.eq_nil_of_length_eq_zero
  have NEM : Hid ((nameL l).length ≠ 0 → nameL l ≠ []) := by
    show (nameL l).length ≠ 0 → nameL l ≠ []
    intro h e; rw [e] at h; exact h rfl
  have GET : Hid (∀ k, k < l.length → ∃ c, l[k]? = some c) := by
    show ∀ k, k < l.length → ∃ c, l[k]? = some c
    exact fun k hk => ⟨_, List.getElem?_eq_getElem hk⟩
  obtain ⟨N, hN⟩ : ∃ N, N = (nameL l).length := ⟨_, rfl⟩
  rw [← hN] at NAT hnl TK EMP NEM
  have HN := Lib.hid hN
  clear hN h
  obtain ⟨S, hS⟩ : ∃ S : ByteArray, S = ⟨l.toArray⟩ := ⟨_, rfl⟩
  have hz : S.size = l.length := by rw [hS]; simp [ByteArray.size]
  rw [← hS] at CEL ONE TK DR
  rw [← hz] at DR GET hnl hl
  have HZ := Lib.hid hz
  clear hS hz
  obtain ⟨c0, f0⟩ := CEL.out w (Below.refl _ _)
  have B0 : Hid (Below w.heap.size w w) := Below.refl _ _
  go_enter Tryd.func59, Tryd.ntmps59
  go_wp2_with fail
  clear c0 f0
  go_loopw [3, 4] (fun lo ah wr => ∃ k : Nat, lo = .int .i64 (k : Int) ∧ ah = .string (aheadA k) ∧ k ≤ N ∧ Hid (Below w.heap.size w wr)) (fun lo _ _ => N - (RowKit.intOf lo).toNat)
  case atStart => exact ⟨0, rfl, rfl, Nat.zero_le _, B0⟩
  case round =>
    obtain ⟨k, rfl, rfl, hk, HW⟩ := hrel
    obtain ⟨c0, f0⟩ := CEL.out wr HW.out
    have hend : ∀ w1 : World, Below w.heap.size w w1 → k = N → (N = 0 → NameP p l vv d i w (errA 9) w1) ∧ (N ≠ 0 → NameP p l vv d i w (.returned (.string (S.extract 0 k))) (w1.setCell ⟨p, 0, none⟩ (.string (S.extract k S.size)))) := fun w1 hb1 e => by
      refine ⟨fun h0 => ⟨.inl ⟨EMP.out h0, rfl⟩, hb1.mono (Nat.le_of_lt hlt)⟩, fun h0 => ⟨.inr ⟨NEM.out h0, ?_, ?_⟩, ?_⟩⟩
      · rw [TK.out k e]
      · have := (PUT.out (l.drop k) w1 hb1).1
        rw [DR.out, ← HN.out, ← e]
        exact this
      · exact (hb1.mono (Nat.le_of_lt hlt)).setCell (p := ⟨p, 0, none⟩) (Nat.le_refl _) _
    have HEND := Lib.hid hend
    clear hend
    by_cases hlt2 : k < S.size
    · obtain ⟨c, hc⟩ := GET.out k hlt2
      have hst := NAT.out k c hk hc
      have hex := ONE.out k c hc
      have kN := fun w => isName_any (aheadA k ++ S.extract k (k + 1)) w (by rw [hex]; unfold aheadA; split <;> simp [ByteArray.size])
      have hok := ahead_ok k c (aheadA k ++ S.extract k (k + 1)) (by rw [hex])
      rw [hok] at kN
      have hAz : (aheadA k).size ≤ 1 := by unfold aheadA; split <;> simp [ByteArray.size]
      have hAN : aheadA (k + 1) = ⟨#[95]⟩ := by unfold aheadA; rw [if_neg (by omega)]
      have HAN := Lib.hid hAN
      have hXz : (S.extract k (k + 1)).size = 1 := by rw [hex]; simp [ByteArray.size]
      generalize aheadA k = A at *
      obtain ⟨q, hq⟩ : ∃ q, q = nameOk k c := ⟨_, rfl⟩
      rw [← hq] at kN hst
      clear hq hok hex hc hAN
      cases q
      · have hkN : k = N := by
          have : ¬ (k + 1 ≤ N) := fun e => by have := hst.2 e; cases this
          omega
        have HK := Lib.hid hkN
        clear hst
        have fin : ∀ w1 : World, Below wr.heap.size wr w1 → Below w.heap.size w w1 := fun w1 hb => HW.out.trans (hb.mono HW.out.size)
        have FIN := Lib.hid fin
        clear fin
        by_cases hN0 : k = 0
        · have hb0 : ((k : Int) == 0) = true := by rw [beq_iff_eq]; omega
          have HN0 := Lib.hid (hkN ▸ hN0 : N = 0)
          clear hN0 hkN
          go_wp2_with (go_at_call 29; refine (kN _).mono ?_; rintro e w1 ⟨rfl, hb1⟩; have HB1 := Lib.hid hb1; clear hb1)
          exact ⟨rfl, (HEND.out _ (FIN.out _ HB1.out) HK.out).1 HN0.out⟩
        · have hb0 : ((k : Int) == 0) = false := by rw [beq_eq_false_iff_ne]; omega
          have HN0 := Lib.hid (show N ≠ 0 by omega)
          clear hN0 hkN
          go_wp2_with (go_at_call 29; refine (kN _).mono ?_; rintro e w1 ⟨rfl, hb1⟩; have HB1 := Lib.hid hb1; clear hb1; obtain ⟨d0, g0⟩ := CEL.out w1 (FIN.out _ HB1.out))
          refine bodyPost_ret (results_tmp rfl _ _ _) rfl ?_
          exact (HEND.out _ (FIN.out _ HB1.out) HK.out).2 HN0.out
      · have hk1 : k + 1 ≤ N := hst.1 rfl
        clear hst
        have fin : ∀ w1 : World, Below wr.heap.size wr w1 → Below w.heap.size w w1 := fun w1 hb => HW.out.trans (hb.mono HW.out.size)
        have FIN := Lib.hid fin
        clear fin
        go_wp2_with (go_at_call 29; refine (kN _).mono ?_; rintro e w1 ⟨rfl, hb1⟩; have HB1 := Lib.hid hb1; clear hb1)
        go_roundw
        case rel => exact ⟨k + 1, by go_num, by rw [HAN.out], hk1, FIN.out _ HB1.out⟩
        case measure => simp [RowKit.intOf]; omega
    · have hkN : k = N := by omega
      have HK := Lib.hid hkN
      have hlt3 : decide (k < S.size) = false := by simp; omega
      by_cases hN0 : k = 0
      · have hb0 : ((k : Int) == 0) = true := by rw [beq_iff_eq]; omega
        have HN0 := Lib.hid (hkN ▸ hN0 : N = 0)
        clear hN0 hkN
        go_wp2
        exact ⟨rfl, (HEND.out _ HW.out HK.out).1 HN0.out⟩
      · have hb0 : ((k : Int) == 0) = false := by rw [beq_eq_false_iff_ne]; omega
        have HN0 := Lib.hid (show N ≠ 0 by omega)
        clear hN0 hkN
        go_wp2
        refine bodyPost_ret (results_tmp rfl _ _ _) rfl ?_
        exact (HEND.out _ HW.out HK.out).2 HN0.out
end Go.Proofs.YtaaecgglocgcmaaDoor
