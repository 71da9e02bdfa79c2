/- What every frame of layer 4 leans on: an argument that is a class, opened and read again; what a row asks behind a call that laid new memory alone. -/
import Derived.Test.YtolofcfegoeenaaRows
import Derived.Test.YtolofcfegoeenaaClsMath
import Derived.ProofKit
import Derived.OpenShut
import Derived.ShutString
import Derived.SizedLaws
import Derived.HandedShaped
import Derived.Laws.IdiomArrays
namespace Go.Proofs.Ytolofcfegoeenaa
open Go.ChangeShapes Go.WideShapes Go.ChangeAt Go.RowKit

theorem own : ownKnob Try.prog.godebug = none := by kernel_rfl
theorem laidOut : laidOutB Try.prog = true := by kernel_rfl
theorem cellsC : Try.prog.cellsOf 54 = 4 := by kernel_rfl
theorem cellsW : Try.prog.cellsOf 52 = 1 := by kernel_rfl
theorem u8_of_wf {a : Int} (h : (Lit.int .u8 a).wf = true) : ∃ c : UInt8, a = (c.toNat : Int) := by
  have hb := bounds_u8 h
  exact ⟨UInt8.ofNat a.toNat, by simp; omega⟩
theorem word_of_wf {a : Int} (h : (Lit.int .u64 a).wf = true) : ∃ c : BitVec 64, a = (c.toNat : Int) := by
  have hb := bounds_u64 h
  refine ⟨BitVec.ofNat 64 a.toNat, ?_⟩
  rw [BitVec.toNat_ofNat, Nat.mod_eq_of_lt (by omega)]
  omega
theorem list_four {α : Type} (l : List α) (h : (⟨l⟩ : Array α).size = 4) : ∃ a b c d, l = [a, b, c, d] := by
  match l, h with
  | [a, b, c, d], _ => exact ⟨a, b, c, d, rfl⟩
/-- What a class reads as. -/
def clsR {H : Type} (k : Cl) : DataW H := .agg [.lit (.int .u64 ((k 0).toNat : Int)), .lit (.int .u64 ((k 1).toNat : Int)), .lit (.int .u64 ((k 2).toNat : Int)), .lit (.int .u64 ((k 3).toNat : Int))]
set_option maxRecDepth 20000 in
/-- A class that came in as an argument. -/
theorem open_cls {H : Type} {enc : TypeId × Value → H} {W : World} {base : Nat} {sp : Nat → Bool} {held : Bool} {v : Value} {d : DataW H} {p : List MemPlace} (hv : Value.okWide Try.prog W .any base 54 v) (h : DataW.Trod enc Try.prog W 0 sp held 54 v d p) :
    ∃ k : Cl, v = clsV k ∧ d = clsR k ∧ p = [] := by
  obtain ⟨cs, rfl, hsz, _⟩ : ∃ cs, v = .agg cs ∧ cs.size = Try.prog.cellsOf 54 ∧ Row.okWide Try.prog W .any base 54 cs := by
    simpa [Value.okWide, Try.underlying54] using hv
  rw [cellsC] at hsz
  obtain ⟨l⟩ := cs
  obtain ⟨c0, c1, c2, c3, rfl⟩ := list_four l hsz
  obtain ⟨fuel, hf⟩ := h
  obtain ⟨y0, y1, y2, y3, m, hx, hy0, hy1, hy2, hy3⟩ := trod_array4 Try.underlying54 cellsW hf
  obtain ⟨x0, e0, rfl, w0⟩ := DataW.trod_int Try.underlying52 hy0
  obtain ⟨x1, e1, rfl, w1⟩ := DataW.trod_int Try.underlying52 hy1
  obtain ⟨x2, e2, rfl, w2⟩ := DataW.trod_int Try.underlying52 hy2
  obtain ⟨x3, e3, rfl, w3⟩ := DataW.trod_int Try.underlying52 hy3
  simp at e0 e1 e2 e3
  subst e0 e1 e2 e3
  simp only [Prod.mk.injEq] at hx
  obtain ⟨rfl, rfl⟩ := hx
  obtain ⟨b0, rfl⟩ := word_of_wf w0
  obtain ⟨b1, rfl⟩ := word_of_wf w1
  obtain ⟨b2, rfl⟩ := word_of_wf w2
  obtain ⟨b3, rfl⟩ := word_of_wf w3
  exact ⟨fun i => if i = 0 then b0 else if i = 1 then b1 else if i = 2 then b2 else b3, rfl, rfl, rfl⟩
theorem wf_word (x : BitVec 64) : (Lit.int .u64 (x.toNat : Int)).wf = true := by
  have := x.isLt
  simp [Lit.wf, IntKind.min, IntKind.max, IntKind.signed, IntKind.bits]
  omega
theorem shut_cls {H : Type} {enc : TypeId × Value → H} (W : World) (sp : Nat → Bool) (k : Cl) : DataW.Trod enc Try.prog W 0 sp true 54 (clsV k) (clsR k) [] :=
  ⟨2, by simp [DataW.trod, clsV, clsR, clsA, wd, Value.cells, Try.underlying54, Try.underlying52, cellsC, cellsW, wf_word, show List.range 4 = [0, 1, 2, 3] from rfl]⟩

/-- What a row asks behind a call that laid new memory alone. -/
theorem post_of_below {H : Type} {enc : TypeId × Value → H} {P : Program} {f : Func} {s : ChangeSpec} {apart fresh handsOn again : Bool} {W W' : World} {args : Array Value} {v : Value} {ds gs : List (DataW H)} {before pa pv : List MemPlace}
    (hW : DataW.Whole enc P f.params.toList s.vars apart W args.toList ds gs before)
    (hres : ∀ (b : Nat) (sp : Nat → Bool) (hd : Bool), DataW.TrodAll enc P W' b sp hd f.resultTypes.toList (v.resultList f.resultTypes.size) (s.fn H (ds ++ gs)).results [])
    (hargs : ∀ sp : Nat → Bool, (∀ p ∈ before, sp p.block = true) → DataW.TrodAll enc P W' 0 sp true f.params.toList args.toList (s.fn H (ds ++ gs)).args pa)
    (hvars : ∀ sp : Nat → Bool, (∀ p ∈ before, sp p.block = true) → DataW.TrodVars enc P W' sp s.vars (s.fn H (ds ++ gs)).vars pv)
    (hps : before = pa ++ pv) (hb : Below W.heap.size W W')
    (hok : ∀ (j : Nat) (t : TypeId) (r : Value), f.resultTypes[j]? = some t → (v.resultList f.resultTypes.size)[j]? = some r → Value.okWide P W' .any 0 t r) :
    s.post enc P f apart fresh handsOn again W args v W' := by
  have hlt : ∀ p ∈ before, p.block < W.heap.size := fun p hp => hW.lt p hp
  have hold : ∀ p ∈ before, (fun b => decide (b < W.heap.size)) p.block = true := fun p hp => by simpa using hlt p hp
  refine ⟨ds, gs, before, [], pa, pv, hW, hres _ _ _, hargs _ hold, hvars _ hold, World.keptBut_mono (fun p hp => ⟨hp, ?_⟩) (hb.frame (· ∈ before)), fun _ => ?_⟩
  · rw [hps, List.mem_append] at hp
    exact Or.inr hp
  · obtain ⟨_, _, _, _, _, hz, hn⟩ := hW
    refine ⟨hok, _, _, ([] ++ pa) ++ pv, ⟨[] ++ pa, pv, trodAll_append (hargs _ (fun _ _ => rfl)) (hres _ _ _), hvars _ (fun _ _ => rfl), rfl, ?_, ?_⟩, ?_⟩
    · intro b off hp
      have hin : MemPlace.cell b off ∈ before := by rw [hps]; simpa using hp
      rw [hb.frozen (hlt _ hin)]
      exact hz b off hin
    · intro ha
      have := hn ha
      rw [hps] at this
      simpa using this
    · intro p hp _
      rw [hps]
      simpa using hp
end Go.Proofs.Ytolofcfegoeenaa
