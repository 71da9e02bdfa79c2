/- Packed texts: ShLaidTwo, ShOwn, HexMath, ShTree, ShAt, ShApp. What each of them proves stands above its theorems; the conditions stand in these. -/
import Derived.Deep.RegionLaw
import Derived.LaidMore
import Derived.Lay
import Derived.Lib.AppendStr
import Derived.Lib.BufferRead
import Derived.Lib.Hide
import Derived.OpenShut
import Derived.ProofKit
import Derived.SevenTiedAt
import Derived.ShutString
import Derived.SizedLaws
import Derived.Stop.Joined
import Derived.Stop.LaidErr
import Derived.Test.YtabkmimpkoiajaaDoorProg
import Derived.Test.YtabkmimpkoiajaaDoorRows
import Derived.WalkKit
import Derived.WalkLawsBesides
import Derived.WalkSpells
namespace Go.Proofs.YtabkmimpkoiajaaDoor
open Go.ChangeShapes Go.WideShapes Go.ChangeAt Go.RowKit

theorem own : ownKnob Tryd.prog.godebug = none := by kernel_rfl
/-- What a row asks behind a call that laid new memory alone. -/
theorem post_of_below {H : Type} {enc : TypeId × Value → H} {P : Program} {f : Func} {s : ChangeSpec} {apart fresh handsOn again : Bool} {W W' : World} {args : Array Value} {v : Value} {ds gs : List (DataW H)} {before pa pv : List MemPlace}
    (hW : DataW.Whole enc P f.params.toList s.vars apart W args.toList ds gs before)
    (hres : ∀ (b : Nat) (sp : Nat → Bool) (hd : Bool), DataW.TrodAll enc P W' b sp hd f.resultTypes.toList (v.resultList f.resultTypes.size) (s.fn H (ds ++ gs)).results [])
    (hargs : ∀ sp : Nat → Bool, (∀ p ∈ before, sp p.block = true) → DataW.TrodAll enc P W' 0 sp true f.params.toList args.toList (s.fn H (ds ++ gs)).args pa)
    (hvars : ∀ sp : Nat → Bool, (∀ p ∈ before, sp p.block = true) → DataW.TrodVars enc P W' sp s.vars (s.fn H (ds ++ gs)).vars pv)
    (hps : before = pa ++ pv) (hb : Below W.heap.size W W')
    (hok : ∀ (j : Nat) (t : TypeId) (r : Value), f.resultTypes[j]? = some t → (v.resultList f.resultTypes.size)[j]? = some r → Value.okWide P W' .any 0 t r) :
    s.post enc P f apart fresh handsOn again W args v W' := by
  have hlt : ∀ p ∈ before, p.block < W.heap.size := fun p hp => hW.lt p hp
  have hold : ∀ p ∈ before, (fun b => decide (b < W.heap.size)) p.block = true := fun p hp => by simpa using hlt p hp
  refine ⟨ds, gs, before, [], pa, pv, hW, hres _ _ _, hargs _ hold, hvars _ hold, World.keptBut_mono (fun p hp => ⟨hp, ?_⟩) (hb.frame (· ∈ before)), fun _ => ?_⟩
  · rw [hps, List.mem_append] at hp
    exact Or.inr hp
  · obtain ⟨_, _, _, _, _, hz, hn⟩ := hW
    refine ⟨hok, _, _, ([] ++ pa) ++ pv, ⟨[] ++ pa, pv, trodAll_append (hargs _ (fun _ _ => rfl)) (hres _ _ _), hvars _ (fun _ _ => rfl), rfl, ?_, ?_⟩, ?_⟩
    · intro b off hp
      have hin : MemPlace.cell b off ∈ before := by rw [hps]; simpa using hp
      rw [hb.frozen (hlt _ hin)]
      exact hz b off hin
    · intro ha
      have := hn ha
      rw [hps] at this
      simpa using this
    · intro p hp _
      rw [hps]
      simpa using hp
def laidTwo : List (String × DataW Unit) := [("unicode/utf8.acceptRanges", Rows.laid_unicode_utf8_acceptRanges), ("unicode/utf8.first", Rows.laid_unicode_utf8_first)]
set_option maxRecDepth 100000 in
theorem door_metTwo (os : Os) (args : Array Value) : laidMetH Tryd.prog laidTwo ((World.laidAll Tryd.prog os laidTwo).forCall (fun _ _ => 0) ⟨#[], args, []⟩).memory := by
  rw [MakeChecks.laidMetH_plain _ _ _ (by kernel_rfl)]
  exact laidMet_laidAll _ (by kernel_rfl) (by kernel_rfl)
end Go.Proofs.YtabkmimpkoiajaaDoor
namespace Go.Proofs.YtabkmimpkoiajaaDoor
open Go.RowKit Go.Lib

theorem ownS_lt {w : World} {B g n size : Nat} {e : TypeId} {v : Value} {xs : List Value} (h : w.ownsRow B e size v n xs) (hg : v.ownBlock = some g) : B ≤ g ∧ g < w.heap.size := by
  rcases h.2 with ⟨rfl, _⟩ | ⟨g', cap, cur, rfl, hB, hgg, _⟩
  · cases hg
  · cases hg
    refine ⟨hB, ?_⟩
    by_cases hl : g' < w.heap.size
    · exact hl
    · rw [Array.getElem?_eq_none (Nat.le_of_not_lt hl)] at hgg; cases hgg
theorem ownS_same {w w' : World} {base n size : Nat} {e : TypeId} {v : Value} {xs : List Value} (h : w.ownsRow base e size v n xs) (hb : ∀ g, v.ownBlock = some g → w'.heap[g]? = w.heap[g]?) : w'.ownsRow base e size v n xs := by
  refine ⟨h.1, ?_⟩
  rcases h.2 with hn | ⟨g, cap, cur, rfl, hB, hg, rest⟩
  · exact .inl hn
  · exact .inr ⟨g, cap, cur, rfl, hB, (hb g rfl).trans hg, rest⟩
theorem ownS_base {w : World} {B B' n size : Nat} {e : TypeId} {v : Value} {xs : List Value} (h : w.ownsRow B e size v n xs) (hB : B' ≤ B) : w.ownsRow B' e size v n xs := by
  refine ⟨h.1, ?_⟩
  rcases h.2 with hn | ⟨g, cap, cur, rfl, hb, rest⟩
  · exact .inl hn
  · exact .inr ⟨g, cap, cur, rfl, by omega, rest⟩
theorem ownS_shape {w : World} {B k : Nat} {e : TypeId} {v : Value} {xs : List Value} {n : Nat} (h : w.ownsRow B e k v n xs) : ∃ ao cap, v = .slice ao n cap ∧ n ≤ cap := by
  rcases h.2 with ⟨rfl, rfl⟩ | ⟨g, cap, cur, rfl, _, _, hc, _⟩
  · exact ⟨none, 0, rfl, Nat.le_refl _⟩
  · exact ⟨_, cap, rfl, hc⟩
section
variable {P : Program}
end

/-- Something of one element's cells, which hangs on the blocks of F alone. -/
structure ElemP (X : Type) where
  q : (Nat → Prop) → World → X → List Value → Prop
  size : Nat
  len : ∀ F w x cs, q F w x cs → cs.length = size
  mono : ∀ (F F' : Nat → Prop) w x cs, (∀ g, F g → F' g) → q F w x cs → q F' w x cs
  same : ∀ (F : Nat → Prop) w w' x cs, (∀ g, F g → w'.heap[g]? = w.heap[g]?) → q F w x cs → q F w' x cs
/-- A row, whose elements are so, in the blocks of F. -/
def RowM {X : Type} (E : ElemP X) (e : TypeId) (F : Nat → Prop) (w : World) (v : Value) (xs : List X) : Prop :=
  ∃ css : List (List Value), css.length = xs.length ∧ (∀ (i : Nat) (x : X) (cs : List Value), xs[i]? = some x → css[i]? = some cs → E.q F w x cs) ∧ w.ownsRow 0 e E.size v xs.length css.flatten ∧ ∀ g, v.ownBlock = some g → F g
theorem RowM.mono {X : Type} {E : ElemP X} {e : TypeId} {F F' : Nat → Prop} {w : World} {v : Value} {xs : List X} (h : RowM E e F w v xs) (hF : ∀ g, F g → F' g) : RowM E e F' w v xs := by
  obtain ⟨css, h1, h2, h3, h4⟩ := h
  exact ⟨css, h1, fun i x cs hx hc => E.mono _ _ _ _ _ hF (h2 i x cs hx hc), h3, fun g hg => hF g (h4 g hg)⟩
theorem RowM.same {X : Type} {E : ElemP X} {e : TypeId} {F : Nat → Prop} {w w' : World} {v : Value} {xs : List X} (h : RowM E e F w v xs) (hF : ∀ g, F g → w'.heap[g]? = w.heap[g]?) : RowM E e F w' v xs := by
  obtain ⟨css, h1, h2, h3, h4⟩ := h
  exact ⟨css, h1, fun i x cs hx hc => E.same _ _ _ _ _ hF (h2 i x cs hx hc), ownS_same h3 fun g hg => hF g (h4 g hg), h4⟩
theorem RowM.nil {X : Type} (E : ElemP X) (e : TypeId) (F : Nat → Prop) (w : World) : RowM E e F w (.slice none 0 0) ([] : List X) :=
  ⟨[], rfl, fun i x cs hx => by simp at hx, World.ownsRow_nil _ _ _ _, fun g hg => by cases hg⟩
theorem RowM.shape {X : Type} {E : ElemP X} {e : TypeId} {F : Nat → Prop} {w : World} {v : Value} {xs : List X} (h : RowM E e F w v xs) : ∃ ao cap, v = .slice ao xs.length cap ∧ xs.length ≤ cap := by
  obtain ⟨css, h1, h2, h3, h4⟩ := h
  exact ownS_shape h3
/-- Blocks from one place to another. -/
def NewF (lo hi : Nat) : Nat → Prop := fun g => lo ≤ g ∧ g < hi
def NoneF : Nat → Prop := fun _ => False
end Go.Proofs.YtabkmimpkoiajaaDoor
namespace Go.Proofs.YtabkmimpkoiajaaDoor
open Go.RowKit Go.Lib

theorem take_snoc (s : ByteArray) (k : Nat) (h : k < s.size) : s.data.toList.take (k + 1) = s.data.toList.take k ++ [s[k]] := by
  rw [List.take_succ_eq_append_getElem (by simpa using h)]; rfl
end Go.Proofs.YtabkmimpkoiajaaDoor
namespace Go.Proofs.YtabkmimpkoiajaaDoor
open Go.RowKit Go.Lib

/-- Something of a value, which hangs on the blocks of F alone. -/
structure ValP (X : Type) where
  q : (Nat → Prop) → World → Value → X → Prop
  mono : ∀ (F F' : Nat → Prop) w v x, (∀ g, F g → F' g) → q F w v x → q F' w v x
  same : ∀ (F : Nat → Prop) w w' v x, (∀ g, F g → w'.heap[g]? = w.heap[g]?) → q F w v x → q F w' v x
def RowV {X : Type} (E : ElemP X) (e : TypeId) : ValP (List X) := ⟨RowM E e, fun _ _ _ _ _ h k => RowM.mono k h, fun _ _ _ _ _ h k => RowM.same k h⟩
def strE : ElemP (List UInt8) where
  q _ _ x cs := cs = [.string ⟨x.toArray⟩]
  size := 1
  len _ _ x cs h := by rw [h]; rfl
  mono _ _ _ _ _ _ h := h
  same _ _ _ _ _ _ h := h
def StrV : ValP (List (List UInt8)) := RowV strE 9
end Go.Proofs.YtabkmimpkoiajaaDoor
namespace Go.Proofs.YtabkmimpkoiajaaDoor
open Go.RowKit Go.Lib

theorem flat_eq {k : Nat} : ∀ (xss : List (List Value)) (i j : Nat) (x : List Value), (∀ y ∈ xss, y.length = k) → xss[i]? = some x → j < k → xss.flatten[i * k + j]? = x[j]?
  | [], i, j, x, _, h, _ => by simp at h
  | y :: r, 0, j, x, ha, h, hj => by
    cases h
    have hy := ha y (by simp)
    rw [List.flatten_cons, Nat.zero_mul, Nat.zero_add, List.getElem?_append_left (by omega)]
  | y :: r, i + 1, j, x, ha, h, hj => by
    have hy := ha y (by simp)
    have h' : r[i]? = some x := by simpa using h
    have e1 : (i + 1) * k = i * k + k := by rw [Nat.add_mul, Nat.one_mul]
    rw [List.flatten_cons, List.getElem?_append_right (by omega), hy]
    have : (i + 1) * k + j - k = i * k + j := by omega
    rw [this]
    exact flat_eq r i j x (fun z hz => ha z (by simp [hz])) h' hj
/-- One element of a row. -/
theorem RowM.at {X : Type} {E : ElemP X} {e : TypeId} {F : Nat → Prop} {w : World} {v : Value} {xs : List X} (h : RowM E e F w v xs) {i : Nat} {x : X} (hx : xs[i]? = some x) :
    ∃ g cap cs, v = .slice (some ⟨g, 0, none⟩) xs.length cap ∧ xs.length ≤ cap ∧ g < w.heap.size ∧ F g ∧ E.q F w x cs ∧ ∀ j u, j < E.size → cs[j]? = some u → w.cell? ⟨g, i * E.size + j, none⟩ = some u := by
  obtain ⟨css, h1, h2, h3, h4⟩ := h
  have hi : i < xs.length := (List.getElem?_eq_some_iff.1 hx).1
  obtain ⟨cs, hc⟩ : ∃ cs, css[i]? = some cs := ⟨css[i], List.getElem?_eq_getElem (by omega)⟩
  have hall : ∀ y ∈ css, y.length = E.size := by
    intro y hy
    obtain ⟨k, hk⟩ := List.mem_iff_getElem?.1 hy
    have hkl : k < xs.length := by have := (List.getElem?_eq_some_iff.1 hk).1; omega
    exact E.len _ _ _ _ (h2 k _ _ (List.getElem?_eq_getElem hkl) hk)
  rcases h3.2 with ⟨hn, _⟩ | ⟨g, cap, cur, rfl, hB, hg, hcap, _⟩
  · exfalso
    obtain ⟨_, _, e1, _⟩ := ownS_shape h3
    rw [hn] at e1
    injection e1 with _ e2 _
    omega
  · refine ⟨g, cap, cs, rfl, hcap, (ownS_lt h3 rfl).2, h4 g rfl, h2 i x cs hx hc, fun j u hj hu => ?_⟩
    have := h3.cells (g := g) rfl (i * E.size + j) u (by rw [flat_eq css i j cs hall hc hj]; exact hu)
    have hadd : (⟨g, 0, none⟩ : Addr).add (i * E.size + j) = ⟨g, i * E.size + j, none⟩ := by unfold Addr.add; split <;> simp_all
    rw [hadd] at this
    exact this
theorem RowM.short {X : Type} {E : ElemP X} {e : TypeId} {F : Nat → Prop} {w : World} {v : Value} {xs : List X} (h : RowM E e F w v xs) : xs.length ≤ maxLen := by
  obtain ⟨css, h1, h2, h3, h4⟩ := h
  rcases h3.2 with ⟨hn, _⟩ | ⟨g, cap, cur, rfl, hB, hg, hcap, hcm, _⟩
  · obtain ⟨_, _, e1, _⟩ := ownS_shape h3
    rw [hn] at e1
    injection e1 with _ e2 _
    rw [← e2]
    exact Nat.zero_le _
  · omega
/-- A text of a row. -/
theorem nm_at {F : Nat → Prop} {w : World} {v : Value} {ns : List (List UInt8)} (h : StrV.q F w v ns) {i : Nat} {x : List UInt8} (hx : ns[i]? = some x) :
    ∃ g cap, v = .slice (some ⟨g, 0, none⟩) ns.length cap ∧ ns.length ≤ cap ∧ g < w.heap.size ∧ w.cell? ⟨g, i, none⟩ = some (.string ⟨x.toArray⟩) := by
  obtain ⟨g, cap, ds, rfl, h2, h3, h4, h5, h6⟩ := RowM.at h hx
  have h5 : ds = [.string ⟨x.toArray⟩] := h5
  subst h5
  have h60 := h6 0 _ (by show 0 < 1; omega) rfl
  have hz : strE.size = 1 := rfl
  rw [hz, Nat.mul_one, Nat.add_zero] at h60
  exact ⟨g, cap, rfl, h2, h3, h60⟩
end Go.Proofs.YtabkmimpkoiajaaDoor
namespace Go.Proofs.YtabkmimpkoiajaaDoor
open Go.RowKit Go.Lib

section
variable {P : Program}
theorem run_append_none (w : World) (base : Nat) (t ty e : TypeId) (i : TypeInfo) (size : Nat) (ht : P.underlying t = some (.slice e)) (hi : P.info? e = some i)
    (v : Value) (n : Nat) (xs : List Value) (hown : w.ownsRow base e size v n xs) : (Builtin.append_ #[t, t] ty #[v, .slice none 0 0]).run P w = .ok v w := by
  obtain ⟨ao, cap, rfl, hc⟩ := ownS_shape hown
  cases ao with
  | none => simp [Builtin.append_, run_underlying ht, sizeOf, typeInfo, hi, Builtin.lenOf, Builtin.firstCells, Result.andThen, hc]
  | some a => simp [Builtin.append_, run_underlying ht, sizeOf, typeInfo, hi, Builtin.lenOf, Builtin.firstCells, Result.andThen, hc, storeCells]
end
end Go.Proofs.YtabkmimpkoiajaaDoor
