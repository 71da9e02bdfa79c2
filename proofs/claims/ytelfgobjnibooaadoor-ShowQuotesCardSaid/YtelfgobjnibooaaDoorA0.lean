/- Packed texts: HexLeaf, HexMem, ShLaidTwo, ShOwn, HexMath, HexName, ShSpec, ShTree, ShAt. What each of them proves stands above its theorems; the conditions stand in these. -/
import Derived.Deep.RegionLaw
import Derived.LaidMore
import Derived.Lay
import Derived.Lib.AppendStr
import Derived.Lib.BufferRead
import Derived.Lib.Hide
import Derived.OpenShut
import Derived.ProofKit
import Derived.SevenTiedAt
import Derived.ShutString
import Derived.SizedLaws
import Derived.Stop.Joined
import Derived.Stop.LaidErr
import Derived.Test.YtelfgobjnibooaaDoorProg
import Derived.Test.YtelfgobjnibooaaDoorRows
import Derived.WalkKit
import Derived.WalkLawsBesides
import Derived.WalkSpells
namespace Go.Proofs.YtelfgobjnibooaaDoor
open Go.RowKit

def isFig (c : UInt8) : Bool := decide (48 ≤ (c.toNat : Int)) && decide ((c.toNat : Int) ≤ 57)
def isLet (c : UInt8) : Bool := (decide (65 ≤ (c.toNat : Int)) && decide ((c.toNat : Int) ≤ 90) || decide (97 ≤ (c.toNat : Int)) && decide ((c.toNat : Int) ≤ 122)) || decide ((c.toNat : Int) = 95)
theorem ret_bool {a b : Bool} (h : a = b) : Ending.returned (.bool a) = .returned (.bool b) := by rw [h]
end Go.Proofs.YtelfgobjnibooaaDoor
namespace Go.Proofs.YtelfgobjnibooaaDoor
open Go.RowKit Go.Lib

/-- Draws turn no block. -/
theorem below_draws {B : Nat} {a w : World} (h : Below B a w) (n : Nat) : Below B a (w.drewN n) :=
  h.trans (⟨rfl, rfl, rfl, Nat.le_refl _, fun _ _ => rfl⟩ : Below B w (w.drewN n))
/-- 'string(b)' of an owned row of bytes. -/
theorem conv_owned {P : Program} {w : World} {B n : Nat} {src dst e : TypeId} {v : Value} {l : List UInt8} (hs : P.underlying src = some (.slice e)) (he : P.underlying e = some (.int .u8)) (hd : P.underlying dst = some .string)
    (h : w.ownsRow B e 1 v n (byteCells l)) : (convert src dst v).run P w = .ok (.string ⟨l.toArray⟩) w := by
  obtain ⟨hl, hor⟩ := h
  rw [byteCells_length, Nat.mul_one] at hl
  subst hl
  rcases hor with ⟨rfl, h0⟩ | ⟨g, cap, cur, rfl, _, hg, _, _, _, htk⟩
  · obtain rfl : l = [] := List.eq_nil_of_length_eq_zero h0
    exact run_convert_nil_bytes w src dst e 0 hs he hd
  · rw [Nat.mul_one] at htk
    exact run_convert_bytes_back w src dst e _ cap l hs he hd (bytes_of_row hg htk)
end Go.Proofs.YtelfgobjnibooaaDoor
namespace Go.Proofs.YtelfgobjnibooaaDoor
open Go.ChangeShapes Go.WideShapes Go.ChangeAt Go.RowKit

theorem own : ownKnob Tryd.prog.godebug = none := by kernel_rfl
/-- What a row asks behind a call that laid new memory alone. -/
theorem post_of_below {H : Type} {enc : TypeId × Value → H} {P : Program} {f : Func} {s : ChangeSpec} {apart fresh handsOn again : Bool} {W W' : World} {args : Array Value} {v : Value} {ds gs : List (DataW H)} {before pa pv : List MemPlace}
    (hW : DataW.Whole enc P f.params.toList s.vars apart W args.toList ds gs before)
    (hres : ∀ (b : Nat) (sp : Nat → Bool) (hd : Bool), DataW.TrodAll enc P W' b sp hd f.resultTypes.toList (v.resultList f.resultTypes.size) (s.fn H (ds ++ gs)).results [])
    (hargs : ∀ sp : Nat → Bool, (∀ p ∈ before, sp p.block = true) → DataW.TrodAll enc P W' 0 sp true f.params.toList args.toList (s.fn H (ds ++ gs)).args pa)
    (hvars : ∀ sp : Nat → Bool, (∀ p ∈ before, sp p.block = true) → DataW.TrodVars enc P W' sp s.vars (s.fn H (ds ++ gs)).vars pv)
    (hps : before = pa ++ pv) (hb : Below W.heap.size W W')
    (hok : ∀ (j : Nat) (t : TypeId) (r : Value), f.resultTypes[j]? = some t → (v.resultList f.resultTypes.size)[j]? = some r → Value.okWide P W' .any 0 t r) :
    s.post enc P f apart fresh handsOn again W args v W' := by
  have hlt : ∀ p ∈ before, p.block < W.heap.size := fun p hp => hW.lt p hp
  have hold : ∀ p ∈ before, (fun b => decide (b < W.heap.size)) p.block = true := fun p hp => by simpa using hlt p hp
  refine ⟨ds, gs, before, [], pa, pv, hW, hres _ _ _, hargs _ hold, hvars _ hold, World.keptBut_mono (fun p hp => ⟨hp, ?_⟩) (hb.frame (· ∈ before)), fun _ => ?_⟩
  · rw [hps, List.mem_append] at hp
    exact Or.inr hp
  · obtain ⟨_, _, _, _, _, hz, hn⟩ := hW
    refine ⟨hok, _, _, ([] ++ pa) ++ pv, ⟨[] ++ pa, pv, trodAll_append (hargs _ (fun _ _ => rfl)) (hres _ _ _), hvars _ (fun _ _ => rfl), rfl, ?_, ?_⟩, ?_⟩
    · intro b off hp
      have hin : MemPlace.cell b off ∈ before := by rw [hps]; simpa using hp
      rw [hb.frozen (hlt _ hin)]
      exact hz b off hin
    · intro ha
      have := hn ha
      rw [hps] at this
      simpa using this
    · intro p hp _
      rw [hps]
      simpa using hp
def laidTwo : List (String × DataW Unit) := [("unicode/utf8.acceptRanges", Rows.laid_unicode_utf8_acceptRanges), ("unicode/utf8.first", Rows.laid_unicode_utf8_first)]
set_option maxRecDepth 100000 in
theorem door_metTwo (os : Os) (args : Array Value) : laidMetH Tryd.prog laidTwo ((World.laidAll Tryd.prog os laidTwo).forCall (fun _ _ => 0) ⟨#[], args, []⟩).memory := by
  rw [MakeChecks.laidMetH_plain _ _ _ (by kernel_rfl)]
  exact laidMet_laidAll _ (by kernel_rfl) (by kernel_rfl)
end Go.Proofs.YtelfgobjnibooaaDoor
namespace Go.Proofs.YtelfgobjnibooaaDoor
open Go.RowKit Go.Lib

theorem ownS_lt {w : World} {B g n size : Nat} {e : TypeId} {v : Value} {xs : List Value} (h : w.ownsRow B e size v n xs) (hg : v.ownBlock = some g) : B ≤ g ∧ g < w.heap.size := by
  rcases h.2 with ⟨rfl, _⟩ | ⟨g', cap, cur, rfl, hB, hgg, _⟩
  · cases hg
  · cases hg
    refine ⟨hB, ?_⟩
    by_cases hl : g' < w.heap.size
    · exact hl
    · rw [Array.getElem?_eq_none (Nat.le_of_not_lt hl)] at hgg; cases hgg
theorem ownS_same {w w' : World} {base n size : Nat} {e : TypeId} {v : Value} {xs : List Value} (h : w.ownsRow base e size v n xs) (hb : ∀ g, v.ownBlock = some g → w'.heap[g]? = w.heap[g]?) : w'.ownsRow base e size v n xs := by
  refine ⟨h.1, ?_⟩
  rcases h.2 with hn | ⟨g, cap, cur, rfl, hB, hg, rest⟩
  · exact .inl hn
  · exact .inr ⟨g, cap, cur, rfl, hB, (hb g rfl).trans hg, rest⟩
theorem ownS_base {w : World} {B B' n size : Nat} {e : TypeId} {v : Value} {xs : List Value} (h : w.ownsRow B e size v n xs) (hB : B' ≤ B) : w.ownsRow B' e size v n xs := by
  refine ⟨h.1, ?_⟩
  rcases h.2 with hn | ⟨g, cap, cur, rfl, hb, rest⟩
  · exact .inl hn
  · exact .inr ⟨g, cap, cur, rfl, by omega, rest⟩
theorem ownS_shape {w : World} {B k : Nat} {e : TypeId} {v : Value} {xs : List Value} {n : Nat} (h : w.ownsRow B e k v n xs) : ∃ ao cap, v = .slice ao n cap ∧ n ≤ cap := by
  rcases h.2 with ⟨rfl, rfl⟩ | ⟨g, cap, cur, rfl, _, _, hc, _⟩
  · exact ⟨none, 0, rfl, Nat.le_refl _⟩
  · exact ⟨_, cap, rfl, hc⟩
section
variable {P : Program}
theorem run_append_farG (w : World) (base : Nat) (t ty e : TypeId) (i : TypeInfo) (z : Value) (size bytes : Nat) (ht : P.underlying t = some (.slice e)) (hi : P.info? e = some i) (hz : i.zero = some z)
    (hsize : i.size = size) (hby : i.bytes = bytes) (hzs : z.cells.size = size) (hsz : 0 < size)
    (v : Value) (n : Nat) (xs : List Value) (hown : w.ownsRow base e size v n xs)
    (ad : Addr) (c : Nat) (news : List Value) (hl : news.length = size) (hnews : ∀ j u, news[j]? = some u → w.cell? (ad.add j) = some u) (h1 : ∀ u ∈ news, u.oneCell' = true)
    (h63 : n + 1 ≤ maxLen) (hbytes : (n + 1) * bytes ≤ 140737488355328) (hbase : base ≤ w.heap.size) :
    ∃ v' w', (Builtin.append_ #[t, t] ty #[v, .slice (some ad) 1 c]).run P w = .ok v' w' ∧ w'.ownsRow base e size v' (n + 1) (xs ++ news) ∧ w.grownBy w' v.ownBlock ∧ (v'.ownBlock = v.ownBlock ∨ v'.ownBlock = some w.heap.size) := by
  have hl1 : news.length = 1 * size := by omega
  obtain ⟨v', w', hr, h2, h3, _⟩ := run_append_own (P := P) w base t ty e i z size bytes ht hi hz hsize hby hzs hsz v n xs hown ad 1 c news hl1 hnews h1 h63 hbytes hbase
  refine ⟨v', w', hr, h2, h3, ?_⟩
  have hb1 : bytes ≤ 140737488355328 := by
    have : 1 * bytes ≤ (n + 1) * bytes := Nat.mul_le_mul_right _ (by omega)
    omega
  have h64 : n + 1 ≤ 9223372036854775807 := by unfold maxLen at h63; omega
  rcases hown.2 with ⟨rfl, rfl⟩ | ⟨g, cap, cur, rfl, hbg, hg, hnc, hcm, hcs, htake⟩
  · have hr2 := run_append_nil (P := P) w t ty e i z ht hi hz ad 1 c news (by rw [hsize]; exact hl1) hnews (by decide) (by decide) (by rw [hby]; omega)
    rw [hr] at hr2
    injection hr2 with e1 e2
    exact .inr (by rw [e1]; rfl)
  · by_cases hroom : n + 1 ≤ cap
    · have hfit : n * i.size + news.length ≤ cur.size := by
        rw [hsize, hcs, hl]
        have : (n + 1) * size ≤ cap * size := Nat.mul_le_mul_right _ hroom
        rw [Nat.add_mul] at this
        omega
      have hr2 := run_append_room (P := P) w t ty e i ht hi g n cap cur hg ad 1 c news (by rw [hsize]; exact hl1) hnews h1 hroom hfit
      rw [hr] at hr2
      injection hr2 with e1 e2
      exact .inl (by rw [e1]; rfl)
    · have holds : ∀ j x, xs[j]? = some x → w.cell? ((⟨g, 0, none⟩ : Addr).add j) = some x := hown.cells (g := g) rfl
      have hr2 := run_append_grow (P := P) w t ty e i z ht hi hz ⟨g, 0, none⟩ n cap xs (by rw [hsize]; exact hown.1) holds ad 1 c news (by rw [hsize]; exact hl1) hnews (by omega) (by omega) (growslice_fits (by omega) (by rw [hby]; exact hbytes))
      rw [hr] at hr2
      injection hr2 with e1 e2
      exact .inr (by rw [e1]; rfl)
theorem wp_append_farG (w : World) {o : Oper} {a : Act} {K : Act → World → Prop} {Q : Exit → Act → World → Prop} (s x : Operand) (t : TypeId)
    (ho : o.op = .call { callee := .builtin .append, args := #[s, x], argTypes := #[t, t] })
    (base : Nat) (e : TypeId) (i : TypeInfo) (z : Value) (size bytes : Nat) (ht : P.underlying t = some (.slice e)) (hi : P.info? e = some i) (hz : i.zero = some z)
    (hsize : i.size = size) (hby : i.bytes = bytes) (hzs : z.cells.size = size) (hsz : 0 < size)
    (v : Value) (n : Nat) (xs : List Value) (hs : a.eval s = v) (hown : w.ownsRow base e size v n xs)
    (ad : Addr) (c : Nat) (news : List Value) (hx : a.eval x = .slice (some ad) 1 c) (hl : news.length = size) (hnews : ∀ j u, news[j]? = some u → w.cell? (ad.add j) = some u) (h1 : ∀ u ∈ news, u.oneCell' = true)
    (h63 : n + 1 ≤ maxLen) (hbytes : (n + 1) * bytes ≤ 140737488355328) (hbase : base ≤ w.heap.size)
    (h : ∀ v' w', w'.ownsRow base e size v' (n + 1) (xs ++ news) → w.grownBy w' v.ownBlock → (v'.ownBlock = v.ownBlock ∨ v'.ownBlock = some w.heap.size) → K (a.put o.dst v') w') : o.wp P a w K Q := by
  obtain ⟨v', w', hr, h2, h3, h4⟩ := run_append_farG (P := P) w base t o.type e i z size bytes ht hi hz hsize hby hzs hsz v n xs hown ad c news hl hnews h1 h63 hbytes hbase
  unfold Oper.wp execOp
  simp only [ho, resolve, invoke, builtin, Sem.run_bind, Sem.run_pure, Result.andThen_ok, List.map_toArray, List.map_cons, List.map_nil, hs, hx, hr]
  exact h v' w' h2 h3 h4
theorem wpList_append_farG (w : World) {ops : Array Oper} {rest : List Oper} {o : Oper} {a : Act} {Q : Exit → Act → World → Prop} (hgd : o.guard = none) (s x : Operand) (t : TypeId)
    (ho : o.op = .call { callee := .builtin .append, args := #[s, x], argTypes := #[t, t] })
    (base : Nat) (e : TypeId) (i : TypeInfo) (z : Value) (size bytes : Nat) (ht : P.underlying t = some (.slice e)) (hi : P.info? e = some i) (hz : i.zero = some z)
    (hsize : i.size = size) (hby : i.bytes = bytes) (hzs : z.cells.size = size) (hsz : 0 < size)
    (v : Value) (n : Nat) (xs : List Value) (hs : a.eval s = v) (hown : w.ownsRow base e size v n xs)
    (ad : Addr) (c : Nat) (news : List Value) (hx : a.eval x = .slice (some ad) 1 c) (hl : news.length = size) (hnews : ∀ j u, news[j]? = some u → w.cell? (ad.add j) = some u) (h1 : ∀ u ∈ news, u.oneCell' = true)
    (h63 : n + 1 ≤ maxLen) (hbytes : (n + 1) * bytes ≤ 140737488355328) (hbase : base ≤ w.heap.size)
    (h : ∀ v' w', w'.ownsRow base e size v' (n + 1) (xs ++ news) → w.grownBy w' v.ownBlock → (v'.ownBlock = v.ownBlock ∨ v'.ownBlock = some w.heap.size) → wpList P ops Q rest (a.put o.dst v') w') : wpList P ops Q (o :: rest) a w :=
  wpList_plain hgd fun _ hK => wp_append_farG w s x t ho base e i z size bytes ht hi hz hsize hby hzs hsz v n xs hs hown ad c news hx hl hnews h1 h63 hbytes hbase fun v' w' h2 h3 h4 => hK _ _ (h v' w' h2 h3 h4)
end

/-- Something of one element's cells, which hangs on the blocks of F alone. -/
structure ElemP (X : Type) where
  q : (Nat → Prop) → World → X → List Value → Prop
  size : Nat
  len : ∀ F w x cs, q F w x cs → cs.length = size
  mono : ∀ (F F' : Nat → Prop) w x cs, (∀ g, F g → F' g) → q F w x cs → q F' w x cs
  same : ∀ (F : Nat → Prop) w w' x cs, (∀ g, F g → w'.heap[g]? = w.heap[g]?) → q F w x cs → q F w' x cs
/-- A row, whose elements are so, in the blocks of F. -/
def RowM {X : Type} (E : ElemP X) (e : TypeId) (F : Nat → Prop) (w : World) (v : Value) (xs : List X) : Prop :=
  ∃ css : List (List Value), css.length = xs.length ∧ (∀ (i : Nat) (x : X) (cs : List Value), xs[i]? = some x → css[i]? = some cs → E.q F w x cs) ∧ w.ownsRow 0 e E.size v xs.length css.flatten ∧ ∀ g, v.ownBlock = some g → F g
theorem RowM.mono {X : Type} {E : ElemP X} {e : TypeId} {F F' : Nat → Prop} {w : World} {v : Value} {xs : List X} (h : RowM E e F w v xs) (hF : ∀ g, F g → F' g) : RowM E e F' w v xs := by
  obtain ⟨css, h1, h2, h3, h4⟩ := h
  exact ⟨css, h1, fun i x cs hx hc => E.mono _ _ _ _ _ hF (h2 i x cs hx hc), h3, fun g hg => hF g (h4 g hg)⟩
theorem RowM.same {X : Type} {E : ElemP X} {e : TypeId} {F : Nat → Prop} {w w' : World} {v : Value} {xs : List X} (h : RowM E e F w v xs) (hF : ∀ g, F g → w'.heap[g]? = w.heap[g]?) : RowM E e F w' v xs := by
  obtain ⟨css, h1, h2, h3, h4⟩ := h
  exact ⟨css, h1, fun i x cs hx hc => E.same _ _ _ _ _ hF (h2 i x cs hx hc), ownS_same h3 fun g hg => hF g (h4 g hg), h4⟩
theorem RowM.nil {X : Type} (E : ElemP X) (e : TypeId) (F : Nat → Prop) (w : World) : RowM E e F w (.slice none 0 0) ([] : List X) :=
  ⟨[], rfl, fun i x cs hx => by simp at hx, World.ownsRow_nil _ _ _ _, fun g hg => by cases hg⟩
theorem RowM.shape {X : Type} {E : ElemP X} {e : TypeId} {F : Nat → Prop} {w : World} {v : Value} {xs : List X} (h : RowM E e F w v xs) : ∃ ao cap, v = .slice ao xs.length cap ∧ xs.length ≤ cap := by
  obtain ⟨css, h1, h2, h3, h4⟩ := h
  exact ownS_shape h3
/-- Blocks from one place to another. -/
def NewF (lo hi : Nat) : Nat → Prop := fun g => lo ≤ g ∧ g < hi
theorem ownS_one {w : World} {B B' n size : Nat} {e : TypeId} {v : Value} {xs ys : List Value} (h : w.ownsRow B e size v n xs) (k : w.ownsRow B' e size v n ys) : xs = ys := by
  rcases h.2 with ⟨rfl, rfl⟩ | ⟨g, cap, cur, rfl, _, hg, _, _, _, ht⟩
  · have h1 := h.1
    have k1 := k.1
    rw [Nat.zero_mul] at h1 k1
    rw [List.eq_nil_of_length_eq_zero h1, List.eq_nil_of_length_eq_zero k1]
  · rcases k.2 with ⟨e0, _⟩ | ⟨g', cap', cur', hv, _, hg', _, _, _, ht'⟩
    · cases e0
    · cases hv
      rw [hg] at hg'
      cases hg'
      rw [← ht, ← ht']
/-- A row in the making, of blocks from B on; its elements lie in other blocks than itself, and all of it in none of A. -/
def BldA {X : Type} (E : ElemP X) (e : TypeId) (B : Nat) (A : Nat → Prop) (w : World) (v : Value) (xs : List X) : Prop :=
  ∃ (css : List (List Value)) (F : Nat → Prop), css.length = xs.length ∧ (∀ (i : Nat) (x : X) (cs : List Value), xs[i]? = some x → css[i]? = some cs → E.q F w x cs) ∧ w.ownsRow B e E.size v xs.length css.flatten ∧ (∀ g, F g → B ≤ g ∧ g < w.heap.size) ∧ (∀ g, v.ownBlock = some g → ¬ F g) ∧ ∀ g, A g → ¬ F g ∧ v.ownBlock ≠ some g
def NoneF : Nat → Prop := fun _ => False
theorem BldA.nil {X : Type} (E : ElemP X) (e : TypeId) (B : Nat) (A : Nat → Prop) (w : World) : BldA E e B A w (.slice none 0 0) ([] : List X) :=
  ⟨[], fun _ => False, rfl, fun i x cs hx => by simp at hx, World.ownsRow_nil _ _ _ _, fun g hg => hg.elim, fun g hg => (by cases hg), fun g _ => ⟨fun h => h, fun h => (by cases h)⟩⟩
theorem BldA.same {X : Type} {E : ElemP X} {e : TypeId} {B : Nat} {A : Nat → Prop} {w w' : World} {v : Value} {xs : List X} (h : BldA E e B A w v xs) (hs : w.heap.size ≤ w'.heap.size) (hb : ∀ g, B ≤ g → g < w.heap.size → ¬ A g → w'.heap[g]? = w.heap[g]?) : BldA E e B A w' v xs := by
  obtain ⟨css, F, h1, h2, h3, h4, h5, h6⟩ := h
  exact ⟨css, F, h1, fun i x cs hx hc => E.same _ _ _ _ _ (fun g hg => hb g (h4 g hg).1 (h4 g hg).2 fun ha => (h6 g ha).1 hg) (h2 i x cs hx hc), ownS_same h3 fun g hg => hb g (ownS_lt h3 hg).1 (ownS_lt h3 hg).2 (fun ha => (h6 g ha).2 hg), fun g hg => ⟨(h4 g hg).1, Nat.lt_of_lt_of_le (h4 g hg).2 hs⟩, h5, h6⟩
theorem BldA.avoid {X : Type} {E : ElemP X} {e : TypeId} {B : Nat} {A A' : Nat → Prop} {w : World} {v : Value} {xs : List X} (h : BldA E e B A w v xs) (hA : ∀ g, A' g → A g ∨ w.heap.size ≤ g) : BldA E e B A' w v xs := by
  obtain ⟨css, F, h1, h2, h3, h4, h5, h6⟩ := h
  refine ⟨css, F, h1, h2, h3, h4, h5, fun g ha => ?_⟩
  rcases hA g ha with h | h
  · exact h6 g h
  · exact ⟨fun hf => by have := (h4 g hf).2; omega, fun hv => by have := (ownS_lt h3 hv).2; omega⟩
theorem BldA.row {X : Type} {E : ElemP X} {e : TypeId} {B : Nat} {A : Nat → Prop} {w : World} {v : Value} {xs : List X} (h : BldA E e B A w v xs) : RowM E e (NewF B w.heap.size) w v xs := by
  obtain ⟨css, F, h1, h2, h3, h4, h5, h6⟩ := h
  exact ⟨css, h1, fun i x cs hx hc => E.mono _ _ _ _ _ (fun g hg => h4 g hg) (h2 i x cs hx hc), ownS_base h3 (Nat.zero_le _), fun g hg => ownS_lt h3 hg⟩
theorem BldA.own {X : Type} {E : ElemP X} {e : TypeId} {B : Nat} {A : Nat → Prop} {w : World} {v : Value} {xs : List X} (h : BldA E e B A w v xs) : ∃ ys, w.ownsRow B e E.size v xs.length ys := by
  obtain ⟨css, F, h1, h2, h3, h4, h5, h6⟩ := h
  exact ⟨_, h3⟩
theorem BldA.lt {X : Type} {E : ElemP X} {e : TypeId} {B : Nat} {A : Nat → Prop} {w : World} {v : Value} {xs : List X} (h : BldA E e B A w v xs) : ∀ g, v.ownBlock = some g → B ≤ g ∧ g < w.heap.size := by
  obtain ⟨css, F, h1, h2, h3, h4, h5, h6⟩ := h
  exact fun g hg => ownS_lt h3 hg
/-- One element more, of blocks of Fx, where the row doesn't stand; w is where the append begins. -/
theorem BldA.snoc {X : Type} {E : ElemP X} {e : TypeId} {B : Nat} {A Fx : Nat → Prop} {w w6 : World} {v v6 : Value} {xs : List X} {ys cs : List Value} {x : X} (h : BldA E e B A w v xs) (hx : E.q Fx w x cs) (hF : ∀ g, Fx g → B ≤ g ∧ g < w.heap.size) (hv : ∀ g, Fx g → v.ownBlock ≠ some g) (hA : ∀ g, A g → ¬ Fx g ∧ g < w.heap.size)
    (hy : w.ownsRow B e E.size v xs.length ys) (h6 : w6.ownsRow B e E.size v6 (xs.length + 1) (ys ++ cs)) (hg : w.grownBy w6 v.ownBlock) (hf : v6.ownBlock = v.ownBlock ∨ v6.ownBlock = some w.heap.size) : BldA E e B A w6 v6 (xs ++ [x]) := by
  obtain ⟨css, F, h1, h2, h3, h4, h5, hAF⟩ := h
  have eys := ownS_one hy h3
  subst eys
  have keep : ∀ g, (F g ∨ Fx g) → w6.heap[g]? = w.heap[g]? := fun g h => hg.block g (by
    rcases h with h | h
    · exact (h4 g h).2
    · exact (hF g h).2) (fun e' => by
      rcases h with h | h
      · exact h5 g e'.symm h
      · exact hv g h e'.symm)
  refine ⟨css ++ [cs], fun g => F g ∨ Fx g, by rw [List.length_append, List.length_append, h1]; rfl, ?_, ?_, ?_, ?_, ?_⟩
  · intro i y ds hy hd
    by_cases hi : i < xs.length
    · rw [List.getElem?_append_left hi] at hy
      rw [List.getElem?_append_left (by omega)] at hd
      exact E.same _ _ _ _ _ keep (E.mono _ _ _ _ _ (fun g h => .inl h) (h2 i y ds hy hd))
    · rw [List.getElem?_append_right (by omega)] at hy
      rw [List.getElem?_append_right (by omega)] at hd
      have hi0 : i - xs.length = 0 := by
        by_cases h : i - xs.length = 0
        · exact h
        · rw [List.getElem?_eq_none (by simp; omega)] at hy; cases hy
      rw [hi0] at hy
      rw [h1, hi0] at hd
      cases hy; cases hd
      exact E.same _ _ _ _ _ keep (E.mono _ _ _ _ _ (fun g h => .inr h) hx)
  · rw [List.length_append, List.flatten_append]
    simpa using h6
  · intro g h
    have hs := hg.size
    rcases h with h | h
    · exact ⟨(h4 g h).1, Nat.lt_of_lt_of_le (h4 g h).2 hs⟩
    · exact ⟨(hF g h).1, Nat.lt_of_lt_of_le (hF g h).2 hs⟩
  · intro g hg6 h
    rcases hf with hf | hf
    · rw [hf] at hg6
      rcases h with h | h
      · exact h5 g hg6 h
      · exact hv g h hg6
    · rw [hf] at hg6
      cases hg6
      rcases h with h | h
      · have h7 := (h4 _ h).2; omega
      · have h7 := (hF _ h).2; omega
  · intro g ha
    obtain ⟨a1, a2⟩ := hAF g ha
    obtain ⟨a3, a4⟩ := hA g ha
    refine ⟨fun h => ?_, fun h => ?_⟩
    · rcases h with h | h
      · exact a1 h
      · exact a3 h
    · rcases hf with hf | hf
      · rw [hf] at h; exact a2 h
      · rw [hf] at h; cases h; omega
end Go.Proofs.YtelfgobjnibooaaDoor
namespace Go.Proofs.YtelfgobjnibooaaDoor
open Go.RowKit Go.Lib

theorem take_snoc (s : ByteArray) (k : Nat) (h : k < s.size) : s.data.toList.take (k + 1) = s.data.toList.take k ++ [s[k]] := by
  rw [List.take_succ_eq_append_getElem (by simpa using h)]; rfl
end Go.Proofs.YtelfgobjnibooaaDoor
namespace Go.Proofs.YtelfgobjnibooaaDoor
open Go.RowKit Go.Lib

def nameOk (k : Nat) (c : UInt8) : Bool := isLet c || decide (0 < k) && isFig c
def restOk (c : UInt8) : Bool := isLet c || isFig c
def namePre : List UInt8 → Bool
  | [] => true
  | c :: r => isLet c && r.all restOk
def isNameB (l : List UInt8) : Bool := !l.isEmpty && namePre l

theorem namePre_snoc (l : List UInt8) (c : UInt8) : namePre (l ++ [c]) = (namePre l && nameOk l.length c) := by
  cases l with
  | nil => simp [namePre, nameOk]
  | cons d r => simp [namePre, nameOk, restOk, Bool.and_assoc]
theorem namePre_append (a b : List UInt8) (h : namePre a = false) : namePre (a ++ b) = false := by
  cases a with
  | nil => simp [namePre] at h
  | cons d r =>
    simp only [namePre, List.cons_append, List.all_append] at h ⊢
    cases h1 : isLet d <;> cases h2 : r.all restOk <;> simp_all
theorem namePre_take (s : ByteArray) (k : Nat) (h : k < s.size) : namePre (s.data.toList.take (k + 1)) = (namePre (s.data.toList.take k) && nameOk k s[k]) := by
  rw [take_snoc s k h, namePre_snoc]
  rw [List.length_take, Nat.min_eq_left (by simp; omega)]
theorem namePre_no (s : ByteArray) (k : Nat) (h : namePre (s.data.toList.take k) = false) : isNameB s.data.toList = false := by
  have := namePre_append _ (s.data.toList.drop k) h
  rw [List.take_append_drop] at this
  simp [isNameB, this]

end Go.Proofs.YtelfgobjnibooaaDoor
namespace Go.Proofs.YtelfgobjnibooaaDoor
open Go.RowKit Go.Lib

/-- A part of a word: its kind, whether it is quoted, its texts, its commands. -/
structure PtX (α : Type) where
  k : Nat
  q : Bool
  s : List UInt8
  t : List UInt8
  l : List α
/-- A command: its kind, names, values, words, parts. -/
inductive Co where
  | mk (k : Nat) (n : List (List UInt8)) (v w : List (List (PtX Co))) (a b c : List Co)
abbrev Pt := PtX Co
def Co.k : Co → Nat | .mk k _ _ _ _ _ _ => k
def Co.n : Co → List (List UInt8) | .mk _ n _ _ _ _ _ => n
def Co.v : Co → List (List Pt) | .mk _ _ v _ _ _ _ => v
def Co.w : Co → List (List Pt) | .mk _ _ _ w _ _ _ => w
def Co.a : Co → List Co | .mk _ _ _ _ a _ _ => a
def Co.b : Co → List Co | .mk _ _ _ _ _ b _ => b
def Co.c : Co → List Co | .mk _ _ _ _ _ _ c => c

/-- What reading comes to: what was read and the rest of the text, or what is wrong. -/
inductive Rr (α : Type) where
  | ok (x : α) (l : List UInt8)
  | bad (e : Int)
def Rr.bind {α β : Type} (r : Rr α) (f : α → List UInt8 → Rr β) : Rr β := match r with
  | .ok x l => f x l
  | .bad e => .bad e
/-- A step of a row: go on with something, or stop with it. -/
inductive It (σ β : Type) where
  | go (s : σ)
  | stop (b : β)
def iterF {σ β : Type} (step : σ → List UInt8 → Rr (It σ β)) : Nat → σ → List UInt8 → Rr β
  | 0, _, _ => .bad 0
  | f + 1, s, l => match step s l with
    | .bad e => .bad e
    | .ok (.stop b) r => .ok b r
    | .ok (.go s') r => iterF step f s' r
def iterS {σ β : Type} (step : σ → List UInt8 → Rr (It σ β)) (s : σ) (l : List UInt8) : Rr β := iterF step (l.length + 1) s l

def shMarks : List UInt8 := [32, 9, 59, 10, 39, 34, 36, 92, 124, 38, 60, 62, 40, 41, 96, 42, 63, 91, 93, 123, 125, 126]
def shOpens : List UInt8 := [39, 34, 36, 92]
def shEnds : List UInt8 := [59, 10]
def shBound : List UInt8 := [34, 36, 92, 96]
def shBarred : List UInt8 := [125, 39, 34, 36, 92, 96, 10]
def whiteS (c : UInt8) : Bool := c == 32 || c == 9
def atS (of : List UInt8) : List UInt8 → Bool
  | [] => false
  | c :: _ => of.contains c
def runS (of l : List UInt8) : List UInt8 := l.takeWhile fun c => !of.contains c
def pastS (of l : List UInt8) : List UInt8 := l.dropWhile fun c => !of.contains c
def remS (m : List UInt8) : List UInt8 := if atS [35] m then pastS [10] m else m
def gapS (l : List UInt8) : List UInt8 := remS (l.dropWhile whiteS)
def skipF (of : List UInt8) : Nat → List UInt8 → List UInt8
  | 0, l => l
  | f + 1, l => match gapS l with
    | [] => []
    | c :: r => if of.contains c then skipF of f r else c :: r
def skipS (of l : List UInt8) : List UInt8 := skipF of (l.length + 1) l
def wasS (of l : List UInt8) : Bool := atS of (gapS l)
def keyS (l : List UInt8) : List UInt8 := if atS shOpens (pastS shMarks l) then [] else runS shMarks l
def takeS (t l : List UInt8) : Option (List UInt8) := if t.isPrefixOf l then some (l.drop t.length) else none
def takeKeyS (k l : List UInt8) : Option (List UInt8) := if keyS l = k then some (l.drop k.length) else none
def nameS : List UInt8 → List UInt8
  | [] => []
  | c :: r => if isLet c then c :: r.takeWhile restOk else []
/-- What has to stand here. -/
def needS (t l : List UInt8) : Rr Unit := match takeS t l with
  | some r => .ok () r
  | none => .bad 9
def needKey (k l : List UInt8) : Rr Unit := match takeKeyS k l with
  | some r => .ok () r
  | none => .bad 9
def nameR (l : List UInt8) : Rr (List UInt8) := if nameS l = [] then .bad 9 else .ok (nameS l) (l.drop (nameS l).length)
def singleS (l : List UInt8) : Rr (List UInt8) := (needS [39] (pastS [39] l)).bind fun _ r => .ok (runS [39] l) r

/-- A word that is being read. -/
structure Sp where
  ps : List Pt
  cur : Option (Bool × List UInt8)
def litP (q : Bool) (s : List UInt8) : Pt := ⟨1, q, s, [], []⟩
def Sp.shut (st : Sp) : List Pt := match st.cur with
  | none => st.ps
  | some (q, t) => st.ps ++ [litP q t]
def Sp.lit (st : Sp) (s : List UInt8) (q : Bool) : Sp := match st.cur with
  | none => ⟨st.ps, some (q, s)⟩
  | some (q', t) => if q' = q then ⟨st.ps, some (q, t ++ s)⟩ else ⟨st.ps ++ [litP q' t], some (q, s)⟩
def Sp.add (st : Sp) (p : Pt) : Sp := ⟨st.shut ++ [p], none⟩

/-- How a list, and words, are read that are one deeper; nothing: they would be too deep. -/
structure Dn where
  lst : List UInt8 → Rr (List Co)
  wds : List UInt8 → Rr (List (List Pt))
abbrev Deeper := Option Dn
def shQuote : List UInt8 := [39, 34, 36, 92, 96]
def recS : Nat → List UInt8 → Option (List UInt8 × List UInt8)
  | _, [] => none
  | o, c :: r => if shQuote.contains c then none
    else if c = 40 then (recS (o + 1) r).map fun p => (c :: p.1, p.2)
    else if c = 41 then match o with
      | 0 => some ([], c :: r)
      | o + 1 => (recS o r).map fun p => (c :: p.1, p.2)
    else (recS o r).map fun p => (c :: p.1, p.2)
def reckS (l : List UInt8) : Rr (List UInt8) := match recS 0 l with
  | none => .bad 9
  | some (s, r) => (needS [41, 41] r).bind fun _ r' => .ok s r'
def withT (q : Bool) (k : Nat) (n l : List UInt8) : Rr Pt := (needS [125] (pastS shBarred l)).bind fun _ r => .ok ⟨k, q, n, runS shBarred l, []⟩ r
def bracedS (q : Bool) (l : List UInt8) : Rr Pt := (nameR l).bind fun n l1 =>
  match takeS [125] l1 with
  | some r => .ok ⟨2, q, n, [], []⟩ r
  | none => match takeS [58, 45] l1 with
  | some r => withT q 3 n r
  | none => match takeS [35] l1 with
  | some r => withT q 5 n r
  | none => match takeS [37] l1 with
  | some r => withT q 6 n r
  | none => .bad 9
def subS (sub : Deeper) (l : List UInt8) : Rr (List Co) := match sub with
  | none => .bad 7
  | some g => g.lst l
def partS (sub : Deeper) (q : Bool) (l : List UInt8) : Rr Pt :=
  match takeS [40, 40] l with
  | some r => (reckS r).bind fun s r' => .ok ⟨8, q, s, [], []⟩ r'
  | none => match takeS [40] l with
  | some r => (subS sub r).bind fun cs r1 => (needS [41] r1).bind fun _ r2 => .ok ⟨7, q, [], [], cs⟩ r2
  | none => match takeS [123, 35] l with
  | some r => (nameR r).bind fun n r1 => (needS [125] r1).bind fun _ r2 => .ok ⟨4, q, n, [], []⟩ r2
  | none => match takeS [123] l with
  | some r => bracedS q r
  | none => (nameR l).bind fun n r => .ok ⟨2, q, n, [], []⟩ r
def dblStep (sub : Deeper) (st : Sp) (l : List UInt8) : Rr (It Sp Sp) :=
  match takeS [34] l with
  | some r => .ok (.stop st) r
  | none => match takeS [36] l with
  | some r => (partS sub true r).bind fun p r' => .ok (.go (st.add p)) r'
  | none => match takeS [92] l with
  | some r => if atS shBound r then .ok (.go (st.lit (r.take 1) true)) (r.drop 1) else .bad 9
  | none => if runS shBound l = [] then .bad 9 else .ok (.go (st.lit (runS shBound l) true)) (pastS shBound l)
def dblS (sub : Deeper) (st : Sp) (l : List UInt8) : Rr Sp := match takeS [34] l with
  | some r => .ok (st.lit [] true) r
  | none => iterS (dblStep sub) st l
def wordStep (sub : Deeper) (st : Sp) (l : List UInt8) : Rr (It Sp (List Pt)) :=
  match takeS [39] l with
  | some r => (singleS r).bind fun s r' => .ok (.go (st.lit s true)) r'
  | none => match takeS [92] l with
  | some r => if r = [] ∨ atS [10] r = true then .bad 9 else .ok (.go (st.lit (r.take 1) true)) (r.drop 1)
  | none => match takeS [34] l with
  | some r => (dblS sub st r).bind fun st' r' => .ok (.go st') r'
  | none => match takeS [36] l with
  | some r => (partS sub false r).bind fun p r' => .ok (.go (st.add p)) r'
  | none => if l = [] ∨ atS shMarks l = true then .ok (.stop st.shut) l else .ok (.go (st.lit (runS shMarks l) false)) (pastS shMarks l)
def wordS (sub : Deeper) (l : List UInt8) : Rr (List Pt) := iterS (wordStep sub) ⟨[], none⟩ l
def wordsStep (sub : Deeper) (ws : List (List Pt)) (l : List UInt8) : Rr (It (List (List Pt)) (List (List Pt))) :=
  (wordS sub (gapS l)).bind fun ps r => if ps = [] then .ok (.stop ws) r else .ok (.go (ws ++ [ps])) r
def wordsS (sub : Deeper) (l : List UInt8) : Rr (List (List Pt)) := iterS (wordsStep sub) [] l

def shKeys : List (List UInt8) := [[105, 102], [116, 104, 101, 110], [101, 108, 115, 101], [102, 105], [119, 104, 105, 108, 101], [100, 111], [100, 111, 110, 101], [102, 111, 114], [105, 110]]
def stopKeys : List (List UInt8) := [[116, 104, 101, 110], [101, 108, 115, 101], [102, 105], [100, 111], [100, 111, 110, 101]]
def assignS (l : List UInt8) : Option (List UInt8 × List UInt8) := if nameS l = [] then none else (takeS [61] (l.drop (nameS l).length)).map fun r => (nameS l, r)
/-- Assignments that stand ahead. -/
def asgStep (sub : Deeper) (s : List (List UInt8) × List (List Pt)) (l : List UInt8) : Rr (It (List (List UInt8) × List (List Pt)) (List (List UInt8) × List (List Pt))) :=
  match assignS l with
  | none => .ok (.stop s) l
  | some (n, r) => (wordS sub r).bind fun ps r' => .ok (.go (s.1 ++ [n], s.2 ++ [ps])) (gapS r')
def simpleS (sub : Deeper) (l : List UInt8) : Rr Co := (iterS (asgStep sub) ([], []) l).bind fun s r =>
  if shKeys.contains (keyS r) then .bad 9 else (wordsS sub r).bind fun ws r' =>
  if s.1 = [] ∧ ws = [] then .bad 9 else .ok (.mk 1 s.1 s.2 ws [] [] []) r'
/-- A list that has a line. -/
def linesS (g : Dn) (l : List UInt8) : Rr (List Co) := (g.lst l).bind fun cs r => if cs = [] then .bad 9 else .ok cs r
def bodyS (g : Dn) (l : List UInt8) : Rr (List Co) := (needKey [100, 111] l).bind fun _ r => (linesS g r).bind fun cs r1 => (needKey [100, 111, 110, 101] r1).bind fun _ r2 => .ok cs r2
def elseS (g : Dn) (l : List UInt8) : Rr (List Co) := match takeKeyS [101, 108, 115, 101] l with
  | some r => linesS g r
  | none => .ok [] l
def choiceS (g : Dn) (l : List UInt8) : Rr Co := (linesS g l).bind fun a r => (needKey [116, 104, 101, 110] r).bind fun _ r1 => (linesS g r1).bind fun b r2 =>
  (elseS g r2).bind fun c r3 => (needKey [102, 105] r3).bind fun _ r4 => .ok (.mk 4 [] [] [] a b c) r4
def roundsS (g : Dn) (l : List UInt8) : Rr Co := (linesS g l).bind fun a r => (bodyS g r).bind fun b r1 => .ok (.mk 5 [] [] [] a b []) r1
def eachS (g : Dn) (l : List UInt8) : Rr Co := (nameR (gapS l)).bind fun n r => (needKey [105, 110] (gapS r)).bind fun _ r1 => (g.wds r1).bind fun ws r2 =>
  if wasS shEnds r2 = false then .bad 9 else (bodyS g (skipS shEnds r2)).bind fun b r3 => .ok (.mk 6 [n] [] ws [] b []) r3
def withinS (sub : Deeper) (f : Dn → List UInt8 → Rr Co) (l : List UInt8) : Rr Co := match sub with
  | none => .bad 7
  | some g => f g l
def cmdS (sub : Deeper) (l : List UInt8) : Rr Co :=
  if keyS l = [105, 102] then withinS sub choiceS (l.drop 2)
  else if keyS l = [119, 104, 105, 108, 101] then withinS sub roundsS (l.drop 5)
  else if keyS l = [102, 111, 114] then withinS sub eachS (l.drop 3)
  else simpleS sub l
/-- The mark, if it is next: of two that begin alike the longer one is. -/
def markS (mk l : List UInt8) : Option (List UInt8) := if mk = [124] ∧ (takeS [124, 124] (gapS l)).isSome = true then none else takeS mk (gapS l)
/-- Behind something of a row: its mark, or the gap alone. -/
def behindS (mk l : List UInt8) : List UInt8 := (markS mk l).getD (gapS l)
def rowStep (kind : Nat) (mk : List UInt8) (one : List UInt8 → Rr Co) (fits : Co → Bool) (s : List Co × Co × Bool) (l : List UInt8) : Rr (It (List Co × Co × Bool) Co) :=
  if fits s.2.1 = false then .bad 9
  else if s.2.2 = false then .ok (.stop (.mk kind [] [] [] (s.1 ++ [s.2.1]) [] [])) l
  else (one (skipS [10] l)).bind fun c r => .ok (.go (s.1 ++ [s.2.1], c, (markS mk r).isSome)) (behindS mk r)
def rowS (kind : Nat) (mk : List UInt8) (one : List UInt8 → Rr Co) (fits : Co → Bool) (l : List UInt8) : Rr Co := (one l).bind fun c r =>
  if (markS mk r).isSome = false then .ok c (behindS mk r) else iterS (rowStep kind mk one fits) ([], c, true) (behindS mk r)
def plainC (c : Co) : Bool := c.k == 1 && c.n.isEmpty
def pipeS (sub : Deeper) (l : List UInt8) : Rr Co := rowS 2 [124] (cmdS sub) plainC l
def lineS (sub : Deeper) (l : List UInt8) : Rr Co := rowS 3 [124, 124] (pipeS sub) (fun _ => true) l
def beginsS (l : List UInt8) : Bool := !stopKeys.contains (keyS l) && !l.isEmpty && (atS shOpens l || !atS shMarks l)
def listStep (sub : Deeper) (cs : List Co) (l : List UInt8) : Rr (It (List Co) (List Co)) :=
  if beginsS l = false then .ok (.stop cs) l
  else (lineS sub l).bind fun c r => if wasS shEnds r = false then .ok (.stop (cs ++ [c])) (skipS shEnds r) else .ok (.go (cs ++ [c])) (skipS shEnds r)
def listS (sub : Deeper) (l : List UInt8) : Rr (List Co) := iterS (listStep sub) [] (skipS shEnds l)
/-- With room for so many more. -/
def lvl : Nat → Deeper
  | 0 => none
  | k + 1 => some ⟨listS (lvl k), wordsS (lvl k)⟩
def lstS (k : Nat) (l : List UInt8) : Rr (List Co) := listS (lvl k) l
/-- What Read answers: the commands, and what is wrong. -/
def readSh (l : List UInt8) : List Co × Int := if 1048576 < l.length then ([], 6) else match lstS 30 l with
  | .ok cs r => if r = [] then (cs, 0) else ([], 9)
  | .bad e => ([], e)
end Go.Proofs.YtelfgobjnibooaaDoor
namespace Go.Proofs.YtelfgobjnibooaaDoor
open Go.RowKit Go.Lib

/-- Something of a value, which hangs on the blocks of F alone. -/
structure ValP (X : Type) where
  q : (Nat → Prop) → World → Value → X → Prop
  mono : ∀ (F F' : Nat → Prop) w v x, (∀ g, F g → F' g) → q F w v x → q F' w v x
  same : ∀ (F : Nat → Prop) w w' v x, (∀ g, F g → w'.heap[g]? = w.heap[g]?) → q F w v x → q F w' v x
def RowV {X : Type} (E : ElemP X) (e : TypeId) : ValP (List X) := ⟨RowM E e, fun _ _ _ _ _ h k => RowM.mono k h, fun _ _ _ _ _ h k => RowM.same k h⟩
def strE : ElemP (List UInt8) where
  q _ _ x cs := cs = [.string ⟨x.toArray⟩]
  size := 1
  len _ _ x cs h := by rw [h]; rfl
  mono _ _ _ _ _ _ h := h
  same _ _ _ _ _ _ h := h
def partE (L : ValP (List Co)) : ElemP Pt where
  q F w x cs := ∃ vl, cs = [.int .i64 (x.k : Int), .bool x.q, .string ⟨x.s.toArray⟩, .string ⟨x.t.toArray⟩, vl] ∧ L.q F w vl x.l
  size := 5
  len _ _ x cs h := by obtain ⟨vl, rfl, _⟩ := h; rfl
  mono F F' w x cs hF h := by obtain ⟨vl, h1, h2⟩ := h; exact ⟨vl, h1, L.mono _ _ _ _ _ hF h2⟩
  same F w w' x cs hF h := by obtain ⟨vl, h1, h2⟩ := h; exact ⟨vl, h1, L.same _ _ _ _ _ hF h2⟩
def wordE (V : ValP (List Pt)) : ElemP (List Pt) where
  q F w x cs := ∃ u, cs = [u] ∧ V.q F w u x
  size := 1
  len _ _ x cs h := by obtain ⟨vl, rfl, _⟩ := h; rfl
  mono F F' w x cs hF h := by obtain ⟨vl, h1, h2⟩ := h; exact ⟨vl, h1, V.mono _ _ _ _ _ hF h2⟩
  same F w w' x cs hF h := by obtain ⟨vl, h1, h2⟩ := h; exact ⟨vl, h1, V.same _ _ _ _ _ hF h2⟩
def StrV : ValP (List (List UInt8)) := RowV strE 9
def PtsV (L : ValP (List Co)) : ValP (List Pt) := RowV (partE L) 37
def WdsV (L : ValP (List Co)) : ValP (List (List Pt)) := RowV (wordE (PtsV L)) 35
def cmdE (L : ValP (List Co)) : ElemP Co where
  q F w c cs := ∃ vn vv vw va vb vc, cs = [.int .i64 (c.k : Int), vn, vv, vw, va, vb, vc] ∧ StrV.q F w vn c.n ∧ (WdsV L).q F w vv c.v ∧ (WdsV L).q F w vw c.w ∧ L.q F w va c.a ∧ L.q F w vb c.b ∧ L.q F w vc c.c
  size := 7
  len _ _ x cs h := by obtain ⟨_, _, _, _, _, _, rfl, _⟩ := h; rfl
  mono F F' w x cs hF h := by
    obtain ⟨vn, vv, vw, va, vb, vc, h0, h1, h2, h3, h4, h5, h6⟩ := h
    exact ⟨vn, vv, vw, va, vb, vc, h0, StrV.mono _ _ _ _ _ hF h1, (WdsV L).mono _ _ _ _ _ hF h2, (WdsV L).mono _ _ _ _ _ hF h3, L.mono _ _ _ _ _ hF h4, L.mono _ _ _ _ _ hF h5, L.mono _ _ _ _ _ hF h6⟩
  same F w w' x cs hF h := by
    obtain ⟨vn, vv, vw, va, vb, vc, h0, h1, h2, h3, h4, h5, h6⟩ := h
    exact ⟨vn, vv, vw, va, vb, vc, h0, StrV.same _ _ _ _ _ hF h1, (WdsV L).same _ _ _ _ _ hF h2, (WdsV L).same _ _ _ _ _ hF h3, L.same _ _ _ _ _ hF h4, L.same _ _ _ _ _ hF h5, L.same _ _ _ _ _ hF h6⟩
/-- Rows of commands, so many rows deep. -/
def cosV : Nat → ValP (List Co)
  | 0 => ⟨fun _ _ v l => v = .slice none 0 0 ∧ l = [], fun _ _ _ _ _ _ h => h, fun _ _ _ _ _ _ h => h⟩
  | n + 1 => RowV (cmdE (cosV n)) 32
/-- What is so of one is so of the other. -/
def Ups {X : Type} (L M : ValP X) : Prop := ∀ F w v x, L.q F w v x → M.q F w v x
theorem row_ups {X : Type} {E E' : ElemP X} {e : TypeId} (hs : E.size = E'.size) (h : ∀ F w x cs, E.q F w x cs → E'.q F w x cs) : Ups (RowV E e) (RowV E' e) := by
  intro F w v x hr
  obtain ⟨css, h1, h2, h3, h4⟩ := hr
  exact ⟨css, h1, fun i x cs hx hc => h _ _ _ _ (h2 i x cs hx hc), by rw [← hs]; exact h3, h4⟩
theorem pts_ups {L M : ValP (List Co)} (h : Ups L M) : Ups (PtsV L) (PtsV M) := row_ups rfl fun F w x cs hq => by
  obtain ⟨vl, h1, h2⟩ := hq; exact ⟨vl, h1, h _ _ _ _ h2⟩
theorem wds_ups {L M : ValP (List Co)} (h : Ups L M) : Ups (WdsV L) (WdsV M) := row_ups rfl fun F w x cs hq => by
  obtain ⟨vl, h1, h2⟩ := hq; exact ⟨vl, h1, pts_ups h _ _ _ _ h2⟩
theorem cmd_ups {L M : ValP (List Co)} (h : Ups L M) (F : Nat → Prop) (w : World) (c : Co) (cs : List Value) (hq : (cmdE L).q F w c cs) : (cmdE M).q F w c cs := by
  obtain ⟨vn, vv, vw, va, vb, vc, h0, h1, h2, h3, h4, h5, h6⟩ := hq
  exact ⟨vn, vv, vw, va, vb, vc, h0, h1, wds_ups h _ _ _ _ h2, wds_ups h _ _ _ _ h3, h _ _ _ _ h4, h _ _ _ _ h5, h _ _ _ _ h6⟩
theorem cos_succ : ∀ n, Ups (cosV n) (cosV (n + 1))
  | 0 => fun F w v x h => by
    obtain ⟨rfl, rfl⟩ := h
    exact RowM.nil _ _ _ _
  | n + 1 => row_ups rfl (cmd_ups (cos_succ n))
theorem cos_ups {m n : Nat} (h : m ≤ n) : Ups (cosV m) (cosV n) := by
  induction h with
  | refl => exact fun _ _ _ _ h => h
  | step _ ih => exact fun F w v x h => cos_succ _ _ _ _ _ (ih F w v x h)
theorem cos_nil (n : Nat) (F : Nat → Prop) (w : World) : (cosV n).q F w (.slice none 0 0) [] := cos_ups (Nat.zero_le n) F w _ _ ⟨rfl, rfl⟩
theorem cos_shape {n : Nat} {F : Nat → Prop} {w : World} {v : Value} {l : List Co} (h : (cosV n).q F w v l) : ∃ ao cap, v = .slice ao l.length cap ∧ l.length ≤ cap := RowM.shape (cos_succ n F w v l h)
theorem wds_shape {L : ValP (List Co)} {F : Nat → Prop} {w : World} {v : Value} {l : List (List Pt)} (h : (WdsV L).q F w v l) : ∃ ao cap, v = .slice ao l.length cap ∧ l.length ≤ cap := RowM.shape h
theorem pts_shape {L : ValP (List Co)} {F : Nat → Prop} {w : World} {v : Value} {l : List Pt} (h : (PtsV L).q F w v l) : ∃ ao cap, v = .slice ao l.length cap ∧ l.length ≤ cap := RowM.shape h
theorem str_shape {F : Nat → Prop} {w : World} {v : Value} {l : List (List UInt8)} (h : StrV.q F w v l) : ∃ ao cap, v = .slice ao l.length cap ∧ l.length ≤ cap := RowM.shape h
end Go.Proofs.YtelfgobjnibooaaDoor
namespace Go.Proofs.YtelfgobjnibooaaDoor
open Go.RowKit Go.Lib

theorem flat_eq {k : Nat} : ∀ (xss : List (List Value)) (i j : Nat) (x : List Value), (∀ y ∈ xss, y.length = k) → xss[i]? = some x → j < k → xss.flatten[i * k + j]? = x[j]?
  | [], i, j, x, _, h, _ => by simp at h
  | y :: r, 0, j, x, ha, h, hj => by
    cases h
    have hy := ha y (by simp)
    rw [List.flatten_cons, Nat.zero_mul, Nat.zero_add, List.getElem?_append_left (by omega)]
  | y :: r, i + 1, j, x, ha, h, hj => by
    have hy := ha y (by simp)
    have h' : r[i]? = some x := by simpa using h
    have e1 : (i + 1) * k = i * k + k := by rw [Nat.add_mul, Nat.one_mul]
    rw [List.flatten_cons, List.getElem?_append_right (by omega), hy]
    have : (i + 1) * k + j - k = i * k + j := by omega
    rw [this]
    exact flat_eq r i j x (fun z hz => ha z (by simp [hz])) h' hj
/-- One element of a row. -/
theorem RowM.at {X : Type} {E : ElemP X} {e : TypeId} {F : Nat → Prop} {w : World} {v : Value} {xs : List X} (h : RowM E e F w v xs) {i : Nat} {x : X} (hx : xs[i]? = some x) :
    ∃ g cap cs, v = .slice (some ⟨g, 0, none⟩) xs.length cap ∧ xs.length ≤ cap ∧ g < w.heap.size ∧ F g ∧ E.q F w x cs ∧ ∀ j u, j < E.size → cs[j]? = some u → w.cell? ⟨g, i * E.size + j, none⟩ = some u := by
  obtain ⟨css, h1, h2, h3, h4⟩ := h
  have hi : i < xs.length := (List.getElem?_eq_some_iff.1 hx).1
  obtain ⟨cs, hc⟩ : ∃ cs, css[i]? = some cs := ⟨css[i], List.getElem?_eq_getElem (by omega)⟩
  have hall : ∀ y ∈ css, y.length = E.size := by
    intro y hy
    obtain ⟨k, hk⟩ := List.mem_iff_getElem?.1 hy
    have hkl : k < xs.length := by have := (List.getElem?_eq_some_iff.1 hk).1; omega
    exact E.len _ _ _ _ (h2 k _ _ (List.getElem?_eq_getElem hkl) hk)
  rcases h3.2 with ⟨hn, _⟩ | ⟨g, cap, cur, rfl, hB, hg, hcap, _⟩
  · exfalso
    obtain ⟨_, _, e1, _⟩ := ownS_shape h3
    rw [hn] at e1
    injection e1 with _ e2 _
    omega
  · refine ⟨g, cap, cs, rfl, hcap, (ownS_lt h3 rfl).2, h4 g rfl, h2 i x cs hx hc, fun j u hj hu => ?_⟩
    have := h3.cells (g := g) rfl (i * E.size + j) u (by rw [flat_eq css i j cs hall hc hj]; exact hu)
    have hadd : (⟨g, 0, none⟩ : Addr).add (i * E.size + j) = ⟨g, i * E.size + j, none⟩ := by unfold Addr.add; split <;> simp_all
    rw [hadd] at this
    exact this
theorem RowM.short {X : Type} {E : ElemP X} {e : TypeId} {F : Nat → Prop} {w : World} {v : Value} {xs : List X} (h : RowM E e F w v xs) : xs.length ≤ maxLen := by
  obtain ⟨css, h1, h2, h3, h4⟩ := h
  rcases h3.2 with ⟨hn, _⟩ | ⟨g, cap, cur, rfl, hB, hg, hcap, hcm, _⟩
  · obtain ⟨_, _, e1, _⟩ := ownS_shape h3
    rw [hn] at e1
    injection e1 with _ e2 _
    rw [← e2]
    exact Nat.zero_le _
  · omega
/-- A command of a row. -/
theorem cmd_at {n : Nat} {F : Nat → Prop} {w : World} {v : Value} {cs : List Co} (h : (cosV (n + 1)).q F w v cs) {i : Nat} {c : Co} (hc : cs[i]? = some c) :
    ∃ g cap an nn cn av nv cv aw nw cw aa na ca ab nb cb ac nc cc, v = .slice (some ⟨g, 0, none⟩) cs.length cap ∧ cs.length ≤ cap ∧ g < w.heap.size ∧
      (w.cell? ⟨g, i * 7, none⟩ = some (.int .i64 (c.k : Int)) ∧ w.cell? ⟨g, i * 7 + 1, none⟩ = some (.slice an nn cn) ∧ w.cell? ⟨g, i * 7 + 2, none⟩ = some (.slice av nv cv) ∧ w.cell? ⟨g, i * 7 + 3, none⟩ = some (.slice aw nw cw) ∧ w.cell? ⟨g, i * 7 + 4, none⟩ = some (.slice aa na ca) ∧ w.cell? ⟨g, i * 7 + 5, none⟩ = some (.slice ab nb cb) ∧ w.cell? ⟨g, i * 7 + 6, none⟩ = some (.slice ac nc cc)) ∧
      (nn = c.n.length ∧ nn ≤ cn) ∧ (nv = c.v.length ∧ nv ≤ cv) ∧ (nw = c.w.length ∧ nw ≤ cw) ∧ (na = c.a.length ∧ na ≤ ca) ∧ (nb = c.b.length ∧ nb ≤ cb) ∧ (nc = c.c.length ∧ nc ≤ cc) ∧
      StrV.q F w (.slice an nn cn) c.n ∧ (WdsV (cosV n)).q F w (.slice av nv cv) c.v ∧ (WdsV (cosV n)).q F w (.slice aw nw cw) c.w ∧ (cosV n).q F w (.slice aa na ca) c.a ∧ (cosV n).q F w (.slice ab nb cb) c.b ∧ (cosV n).q F w (.slice ac nc cc) c.c := by
  obtain ⟨g, cap, ds, rfl, h2, h3, h4, h5, h6⟩ := RowM.at h hc
  obtain ⟨vn, vv, vw, va, vb, vc, rfl, k1, k2, k3, k4, k5, k6⟩ := h5
  obtain ⟨an, cn, rfl, l1⟩ := str_shape k1
  obtain ⟨av, cv, rfl, l2⟩ := wds_shape k2
  obtain ⟨aw, cw, rfl, l3⟩ := wds_shape k3
  obtain ⟨aa, ca, rfl, l4⟩ := cos_shape k4
  obtain ⟨ab, cb, rfl, l5⟩ := cos_shape k5
  obtain ⟨ac, cc, rfl, l6⟩ := cos_shape k6
  have hz : (cmdE (cosV n)).size = 7 := rfl
  rw [hz] at h6
  have h60 := h6 0 _ (by omega) rfl
  rw [Nat.add_zero] at h60
  exact ⟨g, cap, an, _, cn, av, _, cv, aw, _, cw, aa, _, ca, ab, _, cb, ac, _, cc, rfl, h2, h3, ⟨h60, h6 1 _ (by omega) rfl, h6 2 _ (by omega) rfl, h6 3 _ (by omega) rfl, h6 4 _ (by omega) rfl, h6 5 _ (by omega) rfl, h6 6 _ (by omega) rfl⟩, ⟨rfl, l1⟩, ⟨rfl, l2⟩, ⟨rfl, l3⟩, ⟨rfl, l4⟩, ⟨rfl, l5⟩, ⟨rfl, l6⟩, k1, k2, k3, k4, k5, k6⟩
/-- A word of a row. -/
theorem wd_at {L : ValP (List Co)} {F : Nat → Prop} {w : World} {v : Value} {ws : List (List Pt)} (h : (WdsV L).q F w v ws) {i : Nat} {x : List Pt} (hx : ws[i]? = some x) :
    ∃ g cap ao m cp, v = .slice (some ⟨g, 0, none⟩) ws.length cap ∧ ws.length ≤ cap ∧ g < w.heap.size ∧ w.cell? ⟨g, i, none⟩ = some (.slice ao m cp) ∧ m = x.length ∧ m ≤ cp ∧ (PtsV L).q F w (.slice ao m cp) x := by
  obtain ⟨g, cap, ds, rfl, h2, h3, h4, h5, h6⟩ := RowM.at h hx
  obtain ⟨u, rfl, k1⟩ := h5
  obtain ⟨ao, cp, rfl, l1⟩ := pts_shape k1
  have h60 := h6 0 _ (by show 0 < 1; omega) rfl
  have hz : (wordE (PtsV L)).size = 1 := rfl
  rw [hz, Nat.mul_one, Nat.add_zero] at h60
  exact ⟨g, cap, ao, _, cp, rfl, h2, h3, h60, rfl, l1, k1⟩
/-- A part of a word. -/
theorem pt_at {n : Nat} {F : Nat → Prop} {w : World} {v : Value} {ps : List Pt} (h : (PtsV (cosV n)).q F w v ps) {i : Nat} {x : Pt} (hx : ps[i]? = some x) :
    ∃ g cap ao m cp, v = .slice (some ⟨g, 0, none⟩) ps.length cap ∧ ps.length ≤ cap ∧ g < w.heap.size ∧
      (w.cell? ⟨g, i * 5, none⟩ = some (.int .i64 (x.k : Int)) ∧ w.cell? ⟨g, i * 5 + 1, none⟩ = some (.bool x.q) ∧ w.cell? ⟨g, i * 5 + 2, none⟩ = some (.string ⟨x.s.toArray⟩) ∧ w.cell? ⟨g, i * 5 + 3, none⟩ = some (.string ⟨x.t.toArray⟩) ∧ w.cell? ⟨g, i * 5 + 4, none⟩ = some (.slice ao m cp)) ∧
      m = x.l.length ∧ m ≤ cp ∧ (cosV n).q F w (.slice ao m cp) x.l := by
  obtain ⟨g, cap, ds, rfl, h2, h3, h4, h5, h6⟩ := RowM.at h hx
  obtain ⟨vl, rfl, k1⟩ := h5
  obtain ⟨ao, cp, rfl, l1⟩ := cos_shape k1
  have hz : (partE (cosV n)).size = 5 := rfl
  rw [hz] at h6
  have h60 := h6 0 _ (by omega) rfl
  rw [Nat.add_zero] at h60
  exact ⟨g, cap, ao, _, cp, rfl, h2, h3, ⟨h60, h6 1 _ (by omega) rfl, h6 2 _ (by omega) rfl, h6 3 _ (by omega) rfl, h6 4 _ (by omega) rfl⟩, rfl, l1, k1⟩
/-- A text of a row. -/
theorem nm_at {F : Nat → Prop} {w : World} {v : Value} {ns : List (List UInt8)} (h : StrV.q F w v ns) {i : Nat} {x : List UInt8} (hx : ns[i]? = some x) :
    ∃ g cap, v = .slice (some ⟨g, 0, none⟩) ns.length cap ∧ ns.length ≤ cap ∧ g < w.heap.size ∧ w.cell? ⟨g, i, none⟩ = some (.string ⟨x.toArray⟩) := by
  obtain ⟨g, cap, ds, rfl, h2, h3, h4, h5, h6⟩ := RowM.at h hx
  have h5 : ds = [.string ⟨x.toArray⟩] := h5
  subst h5
  have h60 := h6 0 _ (by show 0 < 1; omega) rfl
  have hz : strE.size = 1 := rfl
  rw [hz, Nat.mul_one, Nat.add_zero] at h60
  exact ⟨g, cap, rfl, h2, h3, h60⟩
end Go.Proofs.YtelfgobjnibooaaDoor
