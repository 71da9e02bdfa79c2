/- Packed texts: ClsMath, ClsFrame, ReTr, HexLeaf, HexMem, Build, ClsLeaf, ClsCalls, ReMem, ReLies, Range, ClsEach, ClsRuns, ClsSign, ClsRead, ClsSpec, ClsEql, ReFrame, ReRun, ReOwn. What each of them proves stands above its theorems; the conditions stand in these. -/
import Derived.BigQuiet
import Derived.Deep.Cut
import Derived.Deep.DeepCutAuto
import Derived.Deep.LoopGhost
import Derived.Deep.QuietTactic
import Derived.Deep.RegionHeld3
import Derived.Deep.RegionLaw
import Derived.Deep.RegionWith
import Derived.Deep.Strs
import Derived.Defers
import Derived.HandedShaped
import Derived.Laws.BitsAllLaws
import Derived.Laws.CopyOwn
import Derived.Laws.IdiomArrays
import Derived.Laws.Pointers
import Derived.Laws.ResultCell
import Derived.Laws.Rows
import Derived.Laws.StructEq
import Derived.Lib.BufferRead
import Derived.Lib.Hide
import Derived.Lib.IndexBytes
import Derived.Lib.IndexLaws
import Derived.Lib.OthersKept
import Derived.LoopIn
import Derived.LoopN
import Derived.LoopNIn
import Derived.Maps.AppendAt
import Derived.OpenShut
import Derived.OwnWalkIn
import Derived.ProofKit
import Derived.RangeFuncBound
import Derived.RangeFuncLeaves
import Derived.RangeFuncNested
import Derived.Recover
import Derived.Shelf.Abstract
import Derived.Shelf.Strings.BuilderK
import Derived.ShutString
import Derived.SizedLaws
import Derived.StillTailTactics
import Derived.TacticsInMore
import Derived.Test.YtgffmbdbjbhocaaProg
import Derived.Test.YtgffmbdbjbhocaaRows
import Derived.Test.YtgffmbdbjbhocaaShelf
import Derived.WalkKit
import Derived.WalkLawsBesides
import Derived.WalkSpells
import Derived.WideKeyArgs
namespace Go.Proofs.Ytgffmbdbjbhocaa
open Go.RowKit

/-- A class: its four words. -/
abbrev Cl := Nat → BitVec 64
def wd (x : BitVec 64) : Value := .int .u64 (x.toNat : Int)
def clsA (k : Cl) : Array Value := #[wd (k 0), wd (k 1), wd (k 2), wd (k 3)]
def clsV (k : Cl) : Value := .agg (clsA k)
/-- Is the byte of a number in it? -/
def has (k : Cl) (c : Nat) : Bool := (k (c / 64)).getLsbD (c % 64)

/-- Two classes of the same bytes are the same. -/
theorem cls_words {k l : Cl} (h : ∀ c, c < 256 → has k c = has l c) (i : Nat) (hi : i < 4) : k i = l i := by
  apply BitVec.eq_of_getLsbD_eq
  intro j hj
  have := h (64 * i + j) (by omega)
  unfold has at this
  rwa [show (64 * i + j) / 64 = i by omega, show (64 * i + j) % 64 = j by omega] at this
theorem clsA_ext {k l : Cl} (h : ∀ c, c < 256 → has k c = has l c) : clsA k = clsA l := by
  unfold clsA
  rw [cls_words h 0 (by omega), cls_words h 1 (by omega), cls_words h 2 (by omega), cls_words h 3 (by omega)]
theorem clsV_ext {k l : Cl} (h : ∀ c, c < 256 → has k c = has l c) : clsV k = clsV l := by unfold clsV; rw [clsA_ext h]

def notK (k : Cl) : Cl := fun i => ~~~ k i
theorem has_not (k : Cl) (c : Nat) : has (notK k) c = !has k c := by
  unfold has notK
  rw [BitVec.getLsbD_not]
  simp [Nat.mod_lt]
/-- The bytes below a number. -/
def belowK (n : Nat) : Cl := fun i => BitVec.ofNat 64 (2 ^ (min (n - 64 * i) 64) - 1)
theorem has_below (n c : Nat) : has (belowK n) c = decide (c < n) := by
  unfold has belowK
  rw [BitVec.getLsbD_ofNat, Nat.testBit_two_pow_sub_one]
  have h1 : c % 64 < 64 := Nat.mod_lt _ (by decide)
  have h2 : c = 64 * (c / 64) + c % 64 := (Nat.div_add_mod c 64).symm
  simp only [h1, decide_true, Bool.true_and, decide_eq_decide]
  omega
def spanK (a b : Nat) : Cl := fun i => belowK (b + 1) i &&& ~~~ belowK a i
theorem has_span (a b c : Nat) : has (spanK a b) c = (decide (a ≤ c) && decide (c ≤ b)) := by
  have e : has (spanK a b) c = (has (belowK (b + 1)) c && !has (belowK a) c) := by
    unfold has spanK
    rw [BitVec.getLsbD_and, BitVec.getLsbD_not]
    simp [Nat.mod_lt]
  rw [e, has_below, has_below, Bool.eq_iff_iff]
  simp
  omega
def oneK (c : Nat) : Cl := spanK c c
theorem has_one (c d : Nat) : has (oneK c) d = decide (d = c) := by
  unfold oneK
  rw [has_span, Bool.eq_iff_iff]
  simp
  omega

/-- The operations on words. -/
theorem ofInt_nat (x : BitVec 64) : BitVec.ofInt 64 (x.toNat : Int) = x := by
  rw [BitVec.ofInt_natCast, BitVec.ofNat_toNat, BitVec.setWidth_eq]
theorem bv_lt (x : BitVec 64) : (x.toNat : Int) < 18446744073709551616 := by have := x.isLt; omega
theorem and_wd (x y : BitVec 64) : bits .and .u64 (x.toNat : Int) (y.toNat : Int) = ((x &&& y).toNat : Int) := by
  show IntKind.u64.wrap ((BitVec.ofInt 64 (x.toNat : Int) &&& BitVec.ofInt 64 (y.toNat : Int)).toNat : Int) = _
  rw [ofInt_nat, ofInt_nat, IntKind.wrap_u64]
  exact Int.emod_eq_of_lt (by omega) (bv_lt _)
end Go.Proofs.Ytgffmbdbjbhocaa
namespace Go.Proofs.Ytgffmbdbjbhocaa
open Go.ChangeShapes Go.WideShapes Go.ChangeAt Go.RowKit

theorem own : ownKnob Try.prog.godebug = none := by kernel_rfl
theorem laidOut : laidOutB Try.prog = true := by kernel_rfl
theorem cellsC : Try.prog.cellsOf 54 = 4 := by kernel_rfl
theorem cellsW : Try.prog.cellsOf 52 = 1 := by kernel_rfl
theorem word_of_wf {a : Int} (h : (Lit.int .u64 a).wf = true) : ∃ c : BitVec 64, a = (c.toNat : Int) := by
  have hb := bounds_u64 h
  refine ⟨BitVec.ofNat 64 a.toNat, ?_⟩
  rw [BitVec.toNat_ofNat, Nat.mod_eq_of_lt (by omega)]
  omega
/-- What a row asks behind a call that laid new memory alone. -/
theorem post_of_below {H : Type} {enc : TypeId × Value → H} {P : Program} {f : Func} {s : ChangeSpec} {apart fresh handsOn again : Bool} {W W' : World} {args : Array Value} {v : Value} {ds gs : List (DataW H)} {before pa pv : List MemPlace}
    (hW : DataW.Whole enc P f.params.toList s.vars apart W args.toList ds gs before)
    (hres : ∀ (b : Nat) (sp : Nat → Bool) (hd : Bool), DataW.TrodAll enc P W' b sp hd f.resultTypes.toList (v.resultList f.resultTypes.size) (s.fn H (ds ++ gs)).results [])
    (hargs : ∀ sp : Nat → Bool, (∀ p ∈ before, sp p.block = true) → DataW.TrodAll enc P W' 0 sp true f.params.toList args.toList (s.fn H (ds ++ gs)).args pa)
    (hvars : ∀ sp : Nat → Bool, (∀ p ∈ before, sp p.block = true) → DataW.TrodVars enc P W' sp s.vars (s.fn H (ds ++ gs)).vars pv)
    (hps : before = pa ++ pv) (hb : Below W.heap.size W W')
    (hok : ∀ (j : Nat) (t : TypeId) (r : Value), f.resultTypes[j]? = some t → (v.resultList f.resultTypes.size)[j]? = some r → Value.okWide P W' .any 0 t r) :
    s.post enc P f apart fresh handsOn again W args v W' := by
  have hlt : ∀ p ∈ before, p.block < W.heap.size := fun p hp => hW.lt p hp
  have hold : ∀ p ∈ before, (fun b => decide (b < W.heap.size)) p.block = true := fun p hp => by simpa using hlt p hp
  refine ⟨ds, gs, before, [], pa, pv, hW, hres _ _ _, hargs _ hold, hvars _ hold, World.keptBut_mono (fun p hp => ⟨hp, ?_⟩) (hb.frame (· ∈ before)), fun _ => ?_⟩
  · rw [hps, List.mem_append] at hp
    exact Or.inr hp
  · obtain ⟨_, _, _, _, _, hz, hn⟩ := hW
    refine ⟨hok, _, _, ([] ++ pa) ++ pv, ⟨[] ++ pa, pv, trodAll_append (hargs _ (fun _ _ => rfl)) (hres _ _ _), hvars _ (fun _ _ => rfl), rfl, ?_, ?_⟩, ?_⟩
    · intro b off hp
      have hin : MemPlace.cell b off ∈ before := by rw [hps]; simpa using hp
      rw [hb.frozen (hlt _ hin)]
      exact hz b off hin
    · intro ha
      have := hn ha
      rw [hps] at this
      simpa using this
    · intro p hp _
      rw [hps]
      simpa using hp
end Go.Proofs.Ytgffmbdbjbhocaa
namespace Go.Proofs.Ytgffmbdbjbhocaa
open Go.RowKit

/-- A class as its four words, and no more. -/
structure K4 where
  a : BitVec 64
  b : BitVec 64
  c : BitVec 64
  d : BitVec 64
deriving DecidableEq
def K4.cl (k : K4) : Cl := fun i => if i = 0 then k.a else if i = 1 then k.b else if i = 2 then k.c else k.d
def k4 (K : Cl) : K4 := ⟨K 0, K 1, K 2, K 3⟩
theorem has_k4 (K : Cl) {c : Nat} (hc : c < 256) : has (k4 K).cl c = has K c := by
  have h : c / 64 = 0 ∨ c / 64 = 1 ∨ c / 64 = 2 ∨ c / 64 = 3 := by omega
  unfold has K4.cl k4
  rcases h with h | h | h | h <;> rw [h] <;> simp
def k0 : K4 := ⟨0, 0, 0, 0⟩
/-- A node. -/
structure Nd where
  k : Int
  s : K4
  x : Int
  y : Int
deriving DecidableEq
def Nd.cells (n : Nd) : List Value := [.int .i64 n.k, wd n.s.a, wd n.s.b, wd n.s.c, wd n.s.d, .int .i64 n.x, .int .i64 n.y]
def ndC (t : List Nd) : List Value := t.flatMap Nd.cells
theorem ndC_append (a b : List Nd) : ndC (a ++ b) = ndC a ++ ndC b := List.flatMap_append
theorem ndC_length (t : List Nd) : (ndC t).length = 7 * t.length := by
  induction t with
  | nil => rfl
  | cons a t ih =>
    show (Nd.cells a ++ ndC t).length = _
    rw [List.length_append, ih, List.length_cons]
    show 7 + _ = _
    omega

/-- A tree. -/
inductive Tr where
  | leaf (j : Nat)
  | set (k : K4)
  | rep (j : Nat) (a : Tr)
  | two (j : Nat) (a b : Tr)
def Tr.size : Tr → Nat
  | .leaf _ => 1
  | .set _ => 1
  | .rep _ a => a.size + 1
  | .two _ a b => a.size + b.size + 1
/-- Its nodes, where so many stand ahead of it. -/
def Tr.row : Tr → Nat → List Nd
  | .leaf j, _ => [⟨j, k0, 0, 0⟩]
  | .set k, _ => [⟨1, k, 0, 0⟩]
  | .rep j a, n => a.row n ++ [⟨j, k0, (n : Int) + a.size - 1, 0⟩]
  | .two j a b, n => a.row n ++ (b.row (n + a.size) ++ [⟨j, k0, (n : Int) + a.size - 1, (n : Int) + a.size + b.size - 1⟩])
/-- The kinds that there are. -/
def Tr.ok : Tr → Prop
  | .leaf j => j = 0 ∨ j = 7 ∨ j = 8
  | .set _ => True
  | .rep j a => (j = 4 ∨ j = 5 ∨ j = 6) ∧ a.ok
  | .two j a b => (j = 2 ∨ j = 3) ∧ a.ok ∧ b.ok
theorem Tr.size_pos : ∀ t : Tr, 1 ≤ t.size
  | .leaf _ => Nat.le_refl _
  | .set _ => Nat.le_refl _
  | .rep _ _ => Nat.le_add_left _ _
  | .two _ _ _ => Nat.le_add_left _ _
theorem Tr.row_length : ∀ (t : Tr) (n : Nat), (t.row n).length = t.size
  | .leaf _, _ => rfl
  | .set _, _ => rfl
  | .rep j a, n => by
    show (a.row n ++ [_]).length = a.size + 1
    rw [List.length_append, row_length a n]
    rfl
  | .two j a b, n => by
    show (a.row n ++ (b.row (n + a.size) ++ [_])).length = a.size + b.size + 1
    rw [List.length_append, List.length_append, row_length a n, row_length b _]
    rfl

end Go.Proofs.Ytgffmbdbjbhocaa
namespace Go.Proofs.Ytgffmbdbjbhocaa
open Go.RowKit

def digN (c : UInt8) : Int :=
  if 48 ≤ (c.toNat : Int) ∧ (c.toNat : Int) ≤ 57 then (c.toNat : Int) - 48
  else if 97 ≤ (c.toNat : Int) ∧ (c.toNat : Int) ≤ 102 then (c.toNat : Int) - 87
  else if 65 ≤ (c.toNat : Int) ∧ (c.toNat : Int) ≤ 70 then (c.toNat : Int) - 55
  else -1

theorem ret_int {k : IntKind} {a b : Int} (h : a = b) : Ending.returned (.int k a) = .returned (.int k b) := by rw [h]

set_option maxHeartbeats 400000 in
theorem refDigit_any (c : UInt8) (w : World) :
    Calls Try.prog 112 #[.int .u8 (c.toNat : Int)] w fun e w' => e = .returned (.int .i64 (digN c)) ∧ w = w' := by
  go_enter Try.func112, Try.ntmps112
  go_wp2
  all_goals
    go_ret
    refine ⟨ret_int ?_, rfl⟩
    simp [digN]
    try omega

end Go.Proofs.Ytgffmbdbjbhocaa
namespace Go.Proofs.Ytgffmbdbjbhocaa
open Go.RowKit Go.Lib

/-- One step of a region that draws its order: more is appended to an owned row. -/
theorem step_append_own {P : Program} {ops : Array Oper} {o : Oper} {a : Act} {w : World} {K : Act → World → Prop} {Q : Exit → Act → World → Prop} {E : Prop}
    (hg : o.guard = none) (s x : Operand) (t : TypeId) (hop : o.op = Op.call { callee := Callee.builtin Builtin.append, args := #[s, x], argTypes := #[t, t] })
    (base : Nat) (e : TypeId) (i : TypeInfo) (z : Value) (size bytes : Nat) (h1 : P.underlying t = some (.slice e)) (h2 : P.info? e = some i) (h3 : i.zero = some z) (h4 : i.size = size) (h5 : i.bytes = bytes) (h6 : z.cells.size = size) (h7 : 0 < size)
    (v : Value) (n : Nat) (xs : List Value) (hs : a.eval s = v) (hown : w.ownsRow base e size v n xs)
    (ad : Addr) (m c : Nat) (news : List Value) (hx : a.eval x = .slice (some ad) m c) (hl : news.length = m * size) (hnews : ∀ j u, news[j]? = some u → w.cell? (ad.add j) = some u) (h1c : ∀ u ∈ news, u.oneCell' = true)
    (h63 : n + m ≤ maxLen) (hbytes : (n + m) * bytes ≤ 140737488355328) (hbase : base ≤ w.heap.size)
    (hK : ∀ v' w', w'.ownsRow base e size v' (n + m) (xs ++ news) → w.grownBy w' v.ownBlock → K (a.put o.dst v') w') :
    if Region.wanted o (yielded ops a.tmps) = true then Oper.wp P o a w K Q else E := by
  have hw : Region.wanted o (yielded ops a.tmps) = true := by simp [Region.wanted, hg]
  rw [if_pos hw]
  exact wp_append_own w s x t hop base e i z size bytes h1 h2 h3 h4 h5 h6 h7 v n xs hs hown ad m c news hx hl hnews h1c h63 hbytes hbase fun v' w' a b _ => hK v' w' a b

/-- An owned row lies among the call's own blocks. -/
theorem own_base {w : World} {B n size : Nat} {e : TypeId} {v : Value} {xs : List Value} (h : w.ownsRow B e size v n xs) {g : Nat} (hg : v.ownBlock = some g) : B ≤ g := by
  rcases h.2 with ⟨rfl, _⟩ | ⟨g', _, _, rfl, hB, _⟩
  · cases hg
  · cases hg; exact hB

/-- Draws turn no block. -/
theorem below_draws {B : Nat} {a w : World} (h : Below B a w) (n : Nat) : Below B a (w.drewN n) :=
  h.trans (⟨rfl, rfl, rfl, Nat.le_refl _, fun _ _ => rfl⟩ : Below B w (w.drewN n))
end Go.Proofs.Ytgffmbdbjbhocaa
namespace Go.Proofs.Ytgffmbdbjbhocaa
open Go.RowKit Go.Lib

theorem block_lt {w : World} {b : Nat} {o : Obj} (h : w.heap[b]? = some o) : b < w.heap.size := by
  by_cases hl : b < w.heap.size
  · exact hl
  · rw [Array.getElem?_eq_none (Nat.le_of_not_lt hl)] at h; cases h

end Go.Proofs.Ytgffmbdbjbhocaa
namespace Go.Proofs.Ytgffmbdbjbhocaa
open Go.RowKit

/-- The four words' cells. -/
def four (a b c d : Int) : Value := .agg #[.int .u64 a, .int .u64 b, .int .u64 c, .int .u64 d]
theorem four_cls (k : Cl) : clsV k = four ((k 0).toNat : Int) ((k 1).toNat : Int) ((k 2).toNat : Int) ((k 3).toNat : Int) := rfl

theorem has_word (y : BitVec 64) (x : Int) (hx0 : 0 ≤ x) : (bits BinOp.and IntKind.u64 ((y.toNat : Int) / 2 ^ (x % 64).toNat) 1 == 1) = y.getLsbD (x.toNat % 64) := by
  have e1 : ((y.toNat : Int) / 2 ^ (x % 64).toNat) = ((y >>> (x.toNat % 64)).toNat : Int) := by
    rw [BitVec.toNat_ushiftRight, Nat.shiftRight_eq_div_pow, show (x % 64).toNat = x.toNat % 64 by omega]
    simp
  have e2 : (1 : Int) = ((1#64).toNat : Int) := rfl
  rw [e1, e2, and_wd]
  rw [← BitVec.testBit_toNat, Nat.testBit_eq_decide_div_mod_eq, BitVec.toNat_and, BitVec.toNat_ushiftRight, Nat.shiftRight_eq_div_pow]
  rw [show (1#64).toNat = 1 from rfl, Nat.and_one_is_mod]
  have e : ∀ n : Nat, ((n : Int) == ((1 : Nat) : Int)) = decide (n = 1) := fun n => by
    rw [Bool.eq_iff_iff]
    simp
    omega
  rw [e]
set_option maxHeartbeats 400000 in
set_option maxRecDepth 20000 in
theorem has_any (k : Cl) (x : Int) (w : World) (hx0 : 0 ≤ x) (hx1 : x ≤ 255) :
    Calls Try.prog 150 #[clsV k, .int .u8 x] w fun e w' => e = .returned (.bool (has k x.toNat)) ∧ Below w.heap.size w w' := by
  obtain ⟨q, hq⟩ : ∃ q, q = x / 64 := ⟨_, rfl⟩
  have hq4 : q = 0 ∨ q = 1 ∨ q = 2 ∨ q = 3 := by omega
  obtain ⟨r, hr⟩ : ∃ r : Bool, r = has k x.toNat := ⟨_, rfl⟩
  have HR := Lib.hid hr
  rw [← hr]
  unfold clsV clsA wd
  rcases hq4 with h | h | h | h
  all_goals
    rw [h] at hq
    have hq' := hq.symm
    have hn : x.toNat / 64 = q.toNat := by omega
    rw [h] at hn
    have HN := Lib.hid hn
    clear hq hn hr
    go_enter Try.func150, Try.ntmps150
    go_wp2
    go_ret
    refine ⟨?_, (Below.refl _ w).alloc (Nat.le_refl _) _⟩
    rw [HR.out]
    show Ending.returned (.bool _) = Ending.returned (.bool _)
    rw [has_word _ _ hx0]
    unfold has
    rw [HN.out]
    rfl

theorem ret_four {a b c d a' b' c' d' : Int} (h1 : a = a') (h2 : b = b') (h3 : c = c') (h4 : d = d') :
    Ending.returned (.agg #[.int .u64 a, .int .u64 b, .int .u64 c, .int .u64 d]) = Ending.returned (.agg #[.int .u64 a', .int .u64 b', .int .u64 c', .int .u64 d']) := by rw [h1, h2, h3, h4]
end Go.Proofs.Ytgffmbdbjbhocaa
namespace Go.Proofs.Ytgffmbdbjbhocaa
open Go.RowKit

/-- A block of four cells written over. -/
theorem set_four {w : World} {g : Nat} {t : TypeId} {p q r s : Value} (a b c d : Value) (h : w.heap[g]? = some (.cells #[p, q, r, s] t (0, 0))) :
    ((((w.setCell ⟨g, 0, none⟩ a).setCell ⟨g, 1, none⟩ b).setCell ⟨g, 2, none⟩ c).setCell ⟨g, 3, none⟩ d).heap[g]? = some (.cells #[a, b, c, d] t (0, 0)) := by
  have h1 := heap_setCell_same w g 0 _ _ a h
  have h2 := heap_setCell_same _ g 1 _ _ b h1
  have h3 := heap_setCell_same _ g 2 _ _ c h2
  exact heap_setCell_same _ g 3 _ _ d h3
theorem below_four {B g : Nat} {a w : World} (h : Below B a w) (hB : B ≤ g) (p q r s : Value) : Below B a ((((w.setCell ⟨g, 0, none⟩ p).setCell ⟨g, 1, none⟩ q).setCell ⟨g, 2, none⟩ r).setCell ⟨g, 3, none⟩ s) :=
  (((h.setCell (p := ⟨g, 0, none⟩) hB _).setCell (p := ⟨g, 1, none⟩) hB _).setCell (p := ⟨g, 2, none⟩) hB _).setCell (p := ⟨g, 3, none⟩) hB _
theorem Try.infoCls : (Try.prog.info? 54).map (·.size) = some 4 := by kernel_rfl

theorem res_four {w : World} {g : Nat} {t : TypeId} {p q r s : Value} (h : w.heap[g]? = some (.cells #[p, q, r, s] t (0, 0))) :
    (w.cell? ⟨g, 0, none⟩ = some p ∧ w.cell? ⟨g, 1, none⟩ = some q ∧ w.cell? ⟨g, 2, none⟩ = some r ∧ w.cell? ⟨g, 3, none⟩ = some s) ∧
    (w.frozen? ⟨g, 0, none⟩ = false ∧ w.frozen? ⟨g, 1, none⟩ = false ∧ w.frozen? ⟨g, 2, none⟩ = false ∧ w.frozen? ⟨g, 3, none⟩ = false) :=
  ⟨⟨cell_of_row w g 0 _ _ _ h, cell_of_row w g 1 _ _ _ h, cell_of_row w g 2 _ _ _ h, cell_of_row w g 3 _ _ _ h⟩,
    frozen_of_row w g 0 _ _ h, frozen_of_row w g 1 _ _ h, frozen_of_row w g 2 _ _ h, frozen_of_row w g 3 _ _ h⟩
end Go.Proofs.Ytgffmbdbjbhocaa
namespace Go.Proofs.Ytgffmbdbjbhocaa
open Go.RowKit Go.Lib

theorem Try.infoRe : (Try.prog.info? 56).map (fun i => (i.zero, i.size, i.bytes)) = some (some (.agg #[.int .i64 0, .int .u64 0, .int .u64 0, .int .u64 0, .int .u64 0, .int .i64 0, .int .i64 0]), 7, 56) := by kernel_rfl
theorem cells_seven (w : World) (t : TypeId) (p q r s u v z : Value) : ∀ j x, [p, q, r, s, u, v, z][j]? = some x → (w.alloc (.cells #[p, q, r, s, u, v, z] t)).cell? ((⟨w.heap.size, 0, none⟩ : Addr).add j) = some x := by
  intro j x hj
  have h := heap_alloc_new w (.cells #[p, q, r, s, u, v, z] t)
  have e : (⟨w.heap.size, 0, none⟩ : Addr).add j = ⟨w.heap.size, j, none⟩ := by simp [Addr.add]; intro h; exact h.symm
  rw [e, cell_of_heap h]
  simpa using hj
theorem own_block_lt {w : World} {B g n size : Nat} {e : TypeId} {v : Value} {xs : List Value} (h : w.ownsRow B e size v n xs) (hg : v.ownBlock = some g) : g < w.heap.size := by
  rcases h.2 with ⟨rfl, _⟩ | ⟨g', _, _, rfl, _, hh, _⟩
  · cases hg
  · cases hg; exact block_lt hh
theorem owns_same {w w' : World} {base n size : Nat} {e : TypeId} {v : Value} {xs : List Value} (h : w.ownsRow base e size v n xs) (hb : ∀ g, v.ownBlock = some g → w'.heap[g]? = w.heap[g]?) : w'.ownsRow base e size v n xs := by
  obtain ⟨h1, h2⟩ := h
  refine ⟨h1, ?_⟩
  rcases h2 with h2 | ⟨g, cap, cur, hv, hg, hh, r⟩
  · exact .inl h2
  · exact .inr ⟨g, cap, cur, hv, hg, (hb g (by rw [hv]; rfl)).trans hh, r⟩
theorem owned_slice {w : World} {B n size : Nat} {e : TypeId} {v : Value} {xs : List Value} (h : w.ownsRow B e size v n xs) (hn : 1 ≤ n) : ∃ g cap, v = .slice (some ⟨g, 0, none⟩) n cap := by
  rcases h.2 with ⟨_, h0⟩ | ⟨g, cap, cur, hv, _⟩
  · omega
  · exact ⟨g, cap, hv⟩
theorem node_cells {w : World} {g : Nat} {t : TypeId} {p q r s u v z : Value} (h : w.heap[g]? = some (.cells #[p, q, r, s, u, v, z] t (0, 0))) :
    w.cell? ⟨g, 0, none⟩ = some p ∧ w.cell? ⟨g, 1, none⟩ = some q ∧ w.cell? ⟨g, 2, none⟩ = some r ∧ w.cell? ⟨g, 3, none⟩ = some s ∧ w.cell? ⟨g, 4, none⟩ = some u ∧ w.cell? ⟨g, 5, none⟩ = some v ∧ w.cell? ⟨g, 6, none⟩ = some z :=
  ⟨cell_of_row w g 0 _ _ _ h, cell_of_row w g 1 _ _ _ h, cell_of_row w g 2 _ _ _ h, cell_of_row w g 3 _ _ _ h, cell_of_row w g 4 _ _ _ h, cell_of_row w g 5 _ _ _ h, cell_of_row w g 6 _ _ _ h⟩

end Go.Proofs.Ytgffmbdbjbhocaa
namespace Go.Proofs.Ytgffmbdbjbhocaa
open Go.RowKit Go.Lib

def kidsN (k : Int) : Int := if k = 0 ∨ k = 1 ∨ k = 7 ∨ k = 8 then 0 else if k = 4 ∨ k = 5 ∨ k = 6 then 1 else if k = 2 ∨ k = 3 then 2 else -1
theorem kinds_cases (k : Int) : k = 0 ∨ k = 1 ∨ k = 2 ∨ k = 3 ∨ k = 4 ∨ k = 5 ∨ k = 6 ∨ k = 7 ∨ k = 8 ∨ ((k == 0) = false ∧ (k == 1) = false ∧ (k == 2) = false ∧ (k == 3) = false ∧ (k == 4) = false ∧ (k == 5) = false ∧ (k == 6) = false ∧ (k == 7) = false ∧ (k == 8) = false ∧ kidsN k = -1) := by
  by_cases h0 : k = 0
  · exact .inl h0
  by_cases h1 : k = 1
  · exact .inr (.inl h1)
  by_cases h2 : k = 2
  · exact .inr (.inr (.inl h2))
  by_cases h3 : k = 3
  · exact .inr (.inr (.inr (.inl h3)))
  by_cases h4 : k = 4
  · exact .inr (.inr (.inr (.inr (.inl h4))))
  by_cases h5 : k = 5
  · exact .inr (.inr (.inr (.inr (.inr (.inl h5)))))
  by_cases h6 : k = 6
  · exact .inr (.inr (.inr (.inr (.inr (.inr (.inl h6))))))
  by_cases h7 : k = 7
  · exact .inr (.inr (.inr (.inr (.inr (.inr (.inr (.inl h7)))))))
  by_cases h8 : k = 8
  · exact .inr (.inr (.inr (.inr (.inr (.inr (.inr (.inr (.inl h8))))))))
  refine .inr (.inr (.inr (.inr (.inr (.inr (.inr (.inr (.inr ⟨beq_eq_false_iff_ne.2 h0, beq_eq_false_iff_ne.2 h1, beq_eq_false_iff_ne.2 h2, beq_eq_false_iff_ne.2 h3, beq_eq_false_iff_ne.2 h4, beq_eq_false_iff_ne.2 h5, beq_eq_false_iff_ne.2 h6, beq_eq_false_iff_ne.2 h7, beq_eq_false_iff_ne.2 h8, ?_⟩))))))))
  unfold kidsN
  simp [h0, h1, h2, h3, h4, h5, h6, h7, h8]

/-- The cells of a node, one by one. -/
def NdAt (b o : Nat) (n : Nd) (w : World) : Prop :=
  w.cell? ⟨b, o, none⟩ = some (.int .i64 n.k) ∧ w.cell? ⟨b, o + 1, none⟩ = some (wd n.s.a) ∧ w.cell? ⟨b, o + 2, none⟩ = some (wd n.s.b) ∧ w.cell? ⟨b, o + 3, none⟩ = some (wd n.s.c) ∧ w.cell? ⟨b, o + 4, none⟩ = some (wd n.s.d) ∧ w.cell? ⟨b, o + 5, none⟩ = some (.int .i64 n.x) ∧ w.cell? ⟨b, o + 6, none⟩ = some (.int .i64 n.y)
/-- A row of nodes that can be read. -/
def Lies (v : Value) (ts : List Nd) (w : World) : Prop :=
  ∃ ao cap, v = .slice ao ts.length cap ∧ ts.length ≤ 140737488355328 ∧ ∀ (j : Nat) (n : Nd), ts[j]? = some n → ∃ b o, ao = some ⟨b, o, none⟩ ∧ b < w.heap.size ∧ NdAt b (o + j * 7) n w
theorem Lies.below {v : Value} {ts : List Nd} {w w' : World} (h : Lies v ts w) (hb : Below w.heap.size w w') : Lies v ts w' := by
  obtain ⟨ao, cap, h1, hl, h2⟩ := h
  refine ⟨ao, cap, h1, hl, fun j n hj => ?_⟩
  obtain ⟨b, o, h3, h4, h5⟩ := h2 j n hj
  refine ⟨b, o, h3, Nat.lt_of_lt_of_le h4 hb.size, ?_⟩
  have e : ∀ i, w'.cell? ⟨b, i, none⟩ = w.cell? ⟨b, i, none⟩ := fun i => by unfold World.cell?; rw [hb.block b h4]
  unfold NdAt
  rw [e, e, e, e, e, e, e]
  exact h5
theorem NdAt.below {b o : Nat} {n : Nd} {w w' : World} {B : Nat} (h : NdAt b o n w) (hb : Below B w w') (hlt : b < B) : NdAt b o n w' := by
  have e : ∀ i, w'.cell? ⟨b, i, none⟩ = w.cell? ⟨b, i, none⟩ := fun i => by unfold World.cell?; rw [hb.block b hlt]
  unfold NdAt
  rw [e, e, e, e, e, e, e]
  exact h
theorem Lies.at {ao : Option Addr} {N cap : Nat} {ts : List Nd} {w : World} (h : Lies (.slice ao N cap) ts w) {j : Nat} {n : Nd} (hj : ts[j]? = some n) : ∃ b o, ao = some ⟨b, o, none⟩ ∧ b < w.heap.size ∧ NdAt b (o + j * 7) n w := by
  obtain ⟨_, _, h1, _, h2⟩ := h
  cases h1
  exact h2 j n hj
theorem ndC_get : ∀ (ts : List Nd) (j i : Nat) (n : Nd), ts[j]? = some n → i < 7 → (ndC ts)[j * 7 + i]? = n.cells[i]?
  | [], j, i, n, h, _ => by simp at h
  | t :: ts, 0, i, n, h, hi => by
    simp at h
    subst h
    show (t.cells ++ ndC ts)[0 * 7 + i]? = _
    rw [List.getElem?_append_left (by show 0 * 7 + i < 7; omega)]
    congr 1
    omega
  | t :: ts, j + 1, i, n, h, hi => by
    have h : ts[j]? = some n := by simpa using h
    show (t.cells ++ ndC ts)[(j + 1) * 7 + i]? = _
    rw [List.getElem?_append_right (by show 7 ≤ _; omega)]
    have e : (j + 1) * 7 + i - t.cells.length = j * 7 + i := by show (j + 1) * 7 + i - 7 = _; omega
    rw [e, ndC_get ts j i n h hi]
end Go.Proofs.Ytgffmbdbjbhocaa
namespace Go.Proofs.Ytgffmbdbjbhocaa
open Go.RowKit

/-- The blocks of K lie in both worlds alike. -/
def Same (K : Nat → Prop) (W W' : World) : Prop := ∀ j, K j → W'.heap[j]? = W.heap[j]?
theorem Same.refl (K : Nat → Prop) (W : World) : Same K W W := fun _ _ => rfl
theorem Same.trans {K : Nat → Prop} {A B C : World} (h : Same K A B) (k : Same K B C) : Same K A C := fun j hj => (k j hj).trans (h j hj)
theorem Same.mono {K K' : Nat → Prop} {A B : World} (h : Same K A B) (hk : ∀ j, K' j → K j) : Same K' A B := fun j hj => h j (hk j hj)

/-- What abides the heap's growth, the turn of a box among the c blocks from B on, and that of a block from B on that holds no cells. -/
def OwnC {β : Type} (B c : Nat) (I : β → World → Prop) : Prop :=
  ∀ s W W' row, I s W → W.grownBy W' row → (∀ r, row = some r → B ≤ r ∧ ((r < B + c ∧ ∃ x t, W.heap[r]? = some (.cells #[x] t (0, 0))) ∨ ∃ o : Obj, W.heap[r]? = some o ∧ o.isCells = false)) → I s W'
theorem OwnC.grow {β : Type} {B c : Nat} {I : β → World → Prop} (h : OwnC B c I) {s : β} {W W' : World} (hs : I s W) (hg : W.grownBy W' none) : I s W' := h s W W' none hs hg (fun _ e => by cases e)

theorem putObj_grown (W : World) (l : Nat) (o : Obj) : W.grownBy (W.putObj l o) (some l) := grownBy_putObj' W l o

end Go.Proofs.Ytgffmbdbjbhocaa
namespace Go.Proofs.Ytgffmbdbjbhocaa
open Go.RowKit
attribute [local go_sem] Oper.semAt_some

theorem grown_of_below {w w' : World} (h : Below w.heap.size w w') (row : Option Nat) : w.grownBy w' row := ⟨h.os, h.tape, h.output, h.size, fun k hk _ => h.block k hk⟩
theorem has_nat (k : Cl) (m : Nat) (w : World) (hm : m < 256) (b : Bool) (hb : has k m = b) :
    Calls Try.prog 150 #[clsV k, .int .u8 (m : Int)] w fun e w' => e = .returned (.bool b) ∧ Below w.heap.size w w' := by
  have h := has_any k (m : Int) w (by omega) (by omega)
  rwa [Int.toNat_natCast, hb] at h

theorem block_at {w : World} {b : Nat} {o : Obj} (h : w.heap[b]? = some o) : b < w.heap.size := (Array.getElem?_eq_some_iff.1 h).1
end Go.Proofs.Ytgffmbdbjbhocaa
namespace Go.Proofs.Ytgffmbdbjbhocaa
open Go.RowKit
attribute [local go_sem] Oper.semAt_some

theorem ne_int {x y : UInt8} (h : x ≠ y) : ((x.toNat : Int) == (y.toNat : Int)) = false := by
  rw [beq_eq_false_iff_ne]
  intro e
  apply h
  apply UInt8.toNat_inj.1
  omega
end Go.Proofs.Ytgffmbdbjbhocaa
namespace Go.Proofs.Ytgffmbdbjbhocaa
open Go.RowKit Go.Lib

/-- The bytes that have a meaning between brackets; those, and the ones of a regular expression. -/
def heldL : List UInt8 := [92, 93, 91, 94, 45]
def namedL : List UInt8 := [92, 93, 91, 94, 45, 47, 46, 42, 43, 63, 40, 41, 124, 123, 125, 36]
/-- The byte of two digits that a text begins with. -/
def toldD : List UInt8 → Option (Int × Int)
  | h :: k :: _ => if digN h < 0 ∨ digN k < 0 then none else some ((16 : Int) * digN h + digN k, 4)
  | _ => none
/-- The sign that a text begins with: its byte, and how many bytes it has. -/
def signD : List UInt8 → Option (Int × Int)
  | [] => none
  | c :: r =>
    if c = 92 then
      match r with
      | [] => none
      | d :: t => if d = 120 then toldD t else if namedL.contains d then some ((d.toNat : Int), 2) else none
    else if c = 10 ∨ heldL.contains c = true then none else some ((c.toNat : Int), 1)
def signE : Option (Int × Int) → Ending
  | none => .returned (.tuple #[.int .u8 0, .int .i64 0, .int .i64 2])
  | some (c, n) => .returned (.tuple #[.int .u8 c, .int .i64 n, .int .i64 0])

theorem digN_ge (c : UInt8) : -1 ≤ digN c ∧ digN c ≤ 15 := by
  unfold digN
  split
  · omega
  · split
    · omega
    · split <;> omega

theorem size_list {s : ByteArray} {l : List UInt8} (h : s.data.toList = l) : s.size = l.length := by
  rw [← h]; exact Array.length_toList.symm
theorem byte0 {s : ByteArray} {c : UInt8} {r : List UInt8} (h : s.data.toList = c :: r) (hs : 0 < s.size) : s[0] = c := by
  have : s.data.toList[0]? = some s[0] := by rw [List.getElem?_eq_getElem (by rw [Array.length_toList]; exact hs)]; rfl
  rw [h] at this
  exact (Option.some.inj this).symm
theorem byte1 {s : ByteArray} {c d : UInt8} {r : List UInt8} (h : s.data.toList = c :: d :: r) (hs : 1 < s.size) : s[1] = d := by
  have : s.data.toList[1]? = some s[1] := by rw [List.getElem?_eq_getElem (by rw [Array.length_toList]; exact hs)]; rfl
  rw [h] at this
  exact (Option.some.inj this).symm
set_option maxHeartbeats 1000000 in
theorem refSign_stop (s : ByteArray) (x : Int) (w : World) (hs : 0 < s.size) (hx : (s[0].toNat : Int) = x) (h : x = 10 ∨ x = 93 ∨ x = 91 ∨ x = 94 ∨ x = 45) :
    Calls Try.prog 81 #[.string s] w fun e w' => e = signE none ∧ Below w.heap.size w w' := by
  rcases h with h | h | h | h | h
  all_goals
    subst h
    go_enter Try.func81, Try.ntmps81
    go_wp2
    exact bodyPost_ret (results_tmp3 rfl _ _ _) rfl ⟨rfl, Below.refl _ _⟩
set_option maxHeartbeats 1000000 in
theorem refSign_plain (s : ByteArray) (x : Int) (w : World) (hs : 0 < s.size) (hx : (s[0].toNat : Int) = x) (h1 : (x == 10) = false) (h2 : (x == 93) = false) (h3 : (x == 91) = false) (h4 : (x == 94) = false) (h5 : (x == 45) = false) (h92 : (x != 92) = true) :
    Calls Try.prog 81 #[.string s] w fun e w' => e = signE (some (x, 1)) ∧ Below w.heap.size w w' := by
  go_enter Try.func81, Try.ntmps81
  go_wp2
  exact bodyPost_ret (results_tmp3 rfl _ _ _) rfl ⟨rfl, Below.refl _ _⟩
set_option maxHeartbeats 1000000 in
theorem refSign_empty (s : ByteArray) (w : World) (hs : s.size < 1) :
    Calls Try.prog 81 #[.string s] w fun e w' => e = signE none ∧ Below w.heap.size w w' := by
  go_enter Try.func81, Try.ntmps81
  go_wp2
  exact bodyPost_ret (results_tmp3 rfl _ _ _) rfl ⟨rfl, Below.refl _ _⟩
set_option maxHeartbeats 1000000 in
theorem refSign_alone (s : ByteArray) (w : World) (hs : 0 < s.size) (hs2 : s.size < 2) (hx : (s[0].toNat : Int) = 92) :
    Calls Try.prog 81 #[.string s] w fun e w' => e = signE none ∧ Below w.heap.size w w' := by
  go_enter Try.func81, Try.ntmps81
  go_wp2
  exact bodyPost_ret (results_tmp3 rfl _ _ _) rfl ⟨rfl, Below.refl _ _⟩
end Go.Proofs.Ytgffmbdbjbhocaa
namespace Go.Proofs.Ytgffmbdbjbhocaa
open Go.RowKit Go.Lib

theorem at_byte {s : ByteArray} {k : Nat} (h : k < s.size) : s.data.toList[k]? = some s[k] := by
  rw [List.getElem?_eq_getElem (by rw [Array.length_toList]; exact h)]; rfl

end Go.Proofs.Ytgffmbdbjbhocaa
namespace Go.Proofs.Ytgffmbdbjbhocaa
open Go.RowKit Go.Lib

def zeroK : Cl := fun _ => 0
end Go.Proofs.Ytgffmbdbjbhocaa
namespace Go.Proofs.Ytgffmbdbjbhocaa
open Go.RowKit

theorem run_equalIn_word (n : Nat) (a b : Int) (w : World) : (Op.equalIn (n + 1) 52 (.int .u64 a) (.int .u64 b)).run Try.prog w = .ok (a == b) w := run_equalIn_int w n 52 .u64 .u64 a b Try.underlying52
theorem run_part_word (xs : Array Value) (o : Nat) (v : Value) (w : World) (h : xs[o]? = some v) : (part 52 xs o).run Try.prog w = .ok v w := by
  simp [part, Sem.run_bind, Try.isAgg52, Result.andThen, h]
set_option maxRecDepth 20000 in
theorem eql_cls (n : Nat) (a b c d e f g h : Int) (w : World) :
    (Op.equalIn (n + 1 + 1) 54 (.agg #[.int .u64 a, .int .u64 b, .int .u64 c, .int .u64 d]) (.agg #[.int .u64 e, .int .u64 f, .int .u64 g, .int .u64 h])).run Try.prog w = .ok (a == e && (b == f && (c == g && d == h))) w := by
  rw [Op.equalIn]
  simp only [Sem.run_bind, run_underlying Try.underlying54, Result.andThen_ok, Try.sizeOf52]
  simp only [Std.Legacy.Range.forIn_eq_forIn_range', Std.Legacy.Range.size, List.range', List.forIn_cons, List.forIn_nil]
  simp only [Nat.zero_add, Nat.mul_one, Nat.one_add]
  obtain ⟨p, hp⟩ : ∃ p, (a == e) = p := ⟨_, rfl⟩
  obtain ⟨q, hq⟩ : ∃ p, (b == f) = p := ⟨_, rfl⟩
  obtain ⟨r, hr⟩ : ∃ p, (c == g) = p := ⟨_, rfl⟩
  obtain ⟨s, hs⟩ : ∃ p, (d == h) = p := ⟨_, rfl⟩
  have r0 := fun w => run_equalIn_word n a e w
  have r1 := fun w => run_equalIn_word n b f w
  have r2 := fun w => run_equalIn_word n c g w
  have r3 := fun w => run_equalIn_word n d h w
  rw [hp] at r0
  rw [hq] at r1
  rw [hr] at r2
  rw [hs] at r3
  rw [hp, hq, hr, hs]
  clear hp hq hr hs
  have x0 := fun w => run_part_word #[.int .u64 a, .int .u64 b, .int .u64 c, .int .u64 d] 0 _ w rfl
  have x1 := fun w => run_part_word #[.int .u64 a, .int .u64 b, .int .u64 c, .int .u64 d] 1 _ w rfl
  have x2 := fun w => run_part_word #[.int .u64 a, .int .u64 b, .int .u64 c, .int .u64 d] 2 _ w rfl
  have x3 := fun w => run_part_word #[.int .u64 a, .int .u64 b, .int .u64 c, .int .u64 d] 3 _ w rfl
  have y0 := fun w => run_part_word #[.int .u64 e, .int .u64 f, .int .u64 g, .int .u64 h] 0 _ w rfl
  have y1 := fun w => run_part_word #[.int .u64 e, .int .u64 f, .int .u64 g, .int .u64 h] 1 _ w rfl
  have y2 := fun w => run_part_word #[.int .u64 e, .int .u64 f, .int .u64 g, .int .u64 h] 2 _ w rfl
  have y3 := fun w => run_part_word #[.int .u64 e, .int .u64 f, .int .u64 g, .int .u64 h] 3 _ w rfl
  cases p <;> cases q <;> cases r <;> cases s <;> simp [Sem.run_bind, Result.andThen, r0, r1, r2, r3, x0, x1, x2, x3, y0, y1, y2, y3]
end Go.Proofs.Ytgffmbdbjbhocaa
namespace Go.Proofs.Ytgffmbdbjbhocaa
open Go.ChangeShapes Go.WideShapes Go.ChangeAt Go.RowKit Go.Deep

theorem cellsRe : Try.prog.cellsOf 56 = 7 := by kernel_rfl
theorem cellsK : Try.prog.cellsOf 41 = 2 := by kernel_rfl
theorem cellsI : Try.prog.cellsOf 3 = 1 := by kernel_rfl
theorem cell_plain {w : World} {a : Addr} {v : Value} (h : w.cell? a = some v) : a.spot = none ∧ a.block < w.heap.size := by
  unfold World.cell? at h
  split at h
  · rename_i hh
    constructor
    · by_cases hs : a.spot.isSome = true
      · rw [if_pos hs] at h; cases h
      · simpa using hs
    · by_cases hl : a.block < w.heap.size
      · exact hl
      · rw [Array.getElem?_eq_none (by omega)] at hh; cases hh
  · cases h
theorem list_seven {α : Type} (l : List α) (h : l.length = 7) : ∃ a b c d e f g, l = [a, b, c, d, e, f, g] := by
  match l, h with
  | [a, b, c, d, e, f, g], _ => exact ⟨a, b, c, d, e, f, g, rfl⟩
set_option maxRecDepth 20000 in
/-- A node's cells. -/
theorem trod_node {H : Type} {enc : TypeId × Value → H} {W : World} {sp : Nat → Bool} {n : Nat} {cs : List Value} {y : DataW H × List MemPlace} (h : DataW.trod enc Try.prog W 0 sp true n 56 cs = some y) : ∃ q : Nd, cs = q.cells := by
  obtain ⟨y0, y1, y2, m, hx, hl, h0, h1, h2⟩ := trod_struct3 Try.underlying56 h
  rw [cellsRe] at hl
  obtain ⟨c0, c1, c2, c3, c4, c5, c6, rfl⟩ := list_seven cs hl
  have h0 : DataW.trod enc Try.prog W 0 sp true m 3 [c0] = some y0 := by simpa [cellsI] using h0
  have h1 : DataW.trod enc Try.prog W 0 sp true m 54 [c1, c2, c3, c4] = some y1 := by simpa [cellsC] using h1
  have h2 : DataW.trod enc Try.prog W 0 sp true m 41 [c5, c6] = some y2 := by simpa [cellsK] using h2
  obtain ⟨z0, z1, z2, z3, m1, _, hz0, hz1, hz2, hz3⟩ := trod_array4 Try.underlying54 cellsW h1
  obtain ⟨xs, m2, _, _, _, hxl, hxs⟩ := DataW.trod_array Try.underlying41 h2
  have g5 : DataW.trod enc Try.prog W 0 sp true m2 3 [c5] = xs[0]? := by simpa [cellsI] using hxs 0 (by omega)
  have g6 : DataW.trod enc Try.prog W 0 sp true m2 3 [c6] = xs[1]? := by simpa [cellsI] using hxs 1 (by omega)
  rw [List.getElem?_eq_getElem (by omega)] at g5 g6
  obtain ⟨x0, e0, _, _⟩ := DataW.trod_int Try.underlying3 h0
  obtain ⟨x5, e5, _, _⟩ := DataW.trod_int Try.underlying3 g5
  obtain ⟨x6, e6, _, _⟩ := DataW.trod_int Try.underlying3 g6
  obtain ⟨x1, e1, _, w1⟩ := DataW.trod_int Try.underlying52 hz0
  obtain ⟨x2, e2, _, w2⟩ := DataW.trod_int Try.underlying52 hz1
  obtain ⟨x3, e3, _, w3⟩ := DataW.trod_int Try.underlying52 hz2
  obtain ⟨x4, e4, _, w4⟩ := DataW.trod_int Try.underlying52 hz3
  simp at e0 e1 e2 e3 e4 e5 e6
  subst e0 e1 e2 e3 e4 e5 e6
  obtain ⟨b1, rfl⟩ := word_of_wf w1
  obtain ⟨b2, rfl⟩ := word_of_wf w2
  obtain ⟨b3, rfl⟩ := word_of_wf w3
  obtain ⟨b4, rfl⟩ := word_of_wf w4
  exact ⟨⟨x0, ⟨b1, b2, b3, b4⟩, x5, x6⟩, rfl⟩
instance : Inhabited Nd := ⟨⟨0, k0, 0, 0⟩⟩
set_option maxRecDepth 20000 in
/-- An argument that is a row of nodes. -/
theorem open_res {H : Type} {enc : TypeId × Value → H} {W : World} {base : Nat} {v : Value} {d : DataW H} {p : List MemPlace} (hv : Value.okWide Try.prog W .any base 22 v) (h : DataW.Trod enc Try.prog W 0 (fun _ => true) true 22 v d p) :
    ∃ (ao : Option Addr) (cap : Nat) (ts : List Nd), v = .slice ao ts.length cap ∧ ts.length ≤ 9223372036854775807 ∧ (ts.length ≤ 140737488355328 → Lies v ts W) := by
  obtain ⟨ao, N, cap, rfl⟩ : ∃ ao N cap, v = .slice ao N cap := by
    cases v <;> first | exact ⟨_, _, _, rfl⟩ | (exfalso; simp [Value.okWide, Cell.okWide, Cell.ok, Try.underlying22] at hv)
  obtain ⟨fuel, hf⟩ := h
  have hf : DataW.trod enc Try.prog W 0 (fun _ => true) true fuel 22 [.slice ao N cap] = some (d, p) := hf
  rcases open_slice Try.underlying22 hf with ⟨h1, _⟩ | ⟨a, len, cap', m, n, D, Pl, h1, _, hl, hm, hmm, _, hx⟩
  · obtain ⟨rfl, rfl, rfl⟩ : ao = none ∧ N = 0 ∧ cap = 0 := by simpa using h1
    exact ⟨none, 0, [], rfl, Nat.zero_le _, fun _ => ⟨none, 0, rfl, Nat.zero_le _, fun j n h => by simp at h⟩⟩
  · obtain ⟨rfl, rfl, rfl⟩ : ao = some a ∧ N = len ∧ cap = cap' := by simpa using h1
    rw [if_pos rfl] at hmm
    have each : ∀ i, i < m → ∃ q : Nd, W.cells? 0 (a.add (i * 7)) 7 = some q.cells := fun i hi => by
      obtain ⟨cs', h2, h3⟩ := hx i hi
      obtain ⟨q, rfl⟩ := trod_node h3
      rw [cellsRe] at h2
      exact ⟨q, h2⟩
    obtain ⟨F, hF⟩ := choose_lt each
    refine ⟨some a, cap, (List.range N).map F, by simp, ?_, fun hN => ⟨some a, cap, by simp, hN, fun j q hj => ?_⟩⟩
    · unfold maxLen at hm; simp; omega
    · have hjN : j < N := by
        by_cases h : j < N
        · exact h
        · rw [List.getElem?_eq_none (by simp; omega)] at hj; cases hj
      have hq : F j = q := by simpa [hjN] using hj
      have hc := hF j (by omega)
      rw [hq] at hc
      obtain ⟨_, _, hcs⟩ := World.cells?_some hc
      have c0 := hcs 0 (by omega)
      obtain ⟨ab, aoff, asp⟩ := a
      have hone : ∀ i, i < 7 → ∃ u, q.cells[i]? = some u := fun i hi => ⟨q.cells[i]'hi, List.getElem?_eq_getElem _⟩
      have hblk : ab < W.heap.size := by
        have h := (cell_plain (show W.cell? _ = some (.int .i64 q.k) from c0)).2
        have e : (((⟨ab, aoff, asp⟩ : Addr).add (j * 7)).add 0).block = ab := by unfold Addr.add; split <;> split <;> rfl
        rwa [e] at h
      have hsp : asp = none := by
        have c00 := (World.cells?_some (hF 0 (by omega))).2.2 0 (by omega)
        have e : ((⟨ab, aoff, asp⟩ : Addr).add (0 * 7)).add 0 = ⟨ab, aoff, asp⟩ := rfl
        rw [e] at c00
        exact (cell_plain (show W.cell? _ = some (.int .i64 (F 0).k) from c00)).1
      subst hsp
      have ea : ∀ i, ((⟨ab, aoff, none⟩ : Addr).add (j * 7)).add i = ⟨ab, aoff + j * 7 + i, none⟩ := fun i => by
        unfold Addr.add
        by_cases h1 : j * 7 = 0 <;> by_cases h2 : i = 0 <;> simp [h1, h2]
      refine ⟨ab, aoff, rfl, hblk, ?_⟩
      have c1 := hcs 1 (by omega)
      have c2 := hcs 2 (by omega)
      have c3 := hcs 3 (by omega)
      have c4 := hcs 4 (by omega)
      have c5 := hcs 5 (by omega)
      have c6 := hcs 6 (by omega)
      rw [ea] at c0 c1 c2 c3 c4 c5 c6
      exact ⟨c0, c1, c2, c3, c4, c5, c6⟩
/-- It reads again behind a call that laid new memory alone. -/
theorem res_again {H : Type} {enc : TypeId × Value → H} {W W' : World} {v : Value} {d : DataW H} {p : List MemPlace} {sp : Nat → Bool} (h : DataW.Trod enc Try.prog W 0 (fun _ => true) true 22 v d p)
    (hlt : ∀ q ∈ p, q.block < W.heap.size) (hb : Below W.heap.size W W') (hs : ∀ q ∈ p, sp q.block = true) : DataW.Trod enc Try.prog W' 0 sp true 22 v d p :=
  Go.WideElems.Trod_stays laidOut (by kernel_rfl) (of_decide_eq_true (by kernel_rfl)) h (fun q hq => hb.same (hlt q hq)) hs
end Go.Proofs.Ytgffmbdbjbhocaa
namespace Go.Proofs.Ytgffmbdbjbhocaa
open Go.RowKit Go.Lib

def ints (st : List Int) : List Value := st.map (Value.int .i64)
/-- The kids that a node must have, so many of them, above a stack. -/
def wantL (st : List Int) (m : Int) : Int × Int :=
  if m = 1 then (st.getLast?.getD 0, 0) else if m = 2 then (st.dropLast.getLast?.getD 0, st.getLast?.getD 0) else (0, 0)
def rightStep (st : List Int) (j : Nat) (n : Nd) : Option (List Int) :=
  if kidsN n.k < 0 ∨ (st.length : Int) < kidsN n.k then none
  else if ¬ (n.x = (wantL st (kidsN n.k)).1 ∧ n.y = (wantL st (kidsN n.k)).2) ∨ (n.k ≠ 1 ∧ n.s ≠ k0) then none
  else some (st.take (st.length - (kidsN n.k).toNat) ++ [(j : Int)])
def rightRun : List Nd → Nat → List Int → Option (List Int)
  | [], _, st => some st
  | n :: ts, j, st => (rightStep st j n).bind (rightRun ts (j + 1))
/-- Two kids compared. -/
theorem eql_two (n : Nat) (a b c d : Int) (w : World) : (Op.equalIn (n + 1 + 1) 41 (.agg #[.int .i64 a, .int .i64 b]) (.agg #[.int .i64 c, .int .i64 d])).run Try.prog w = .ok (a == c && b == d) w := by
  rw [Op.equalIn]
  simp only [Sem.run_bind, run_underlying Try.underlying41, Result.andThen_ok, Try.sizeOf3]
  simp only [Std.Legacy.Range.forIn_eq_forIn_range', Std.Legacy.Range.size, List.range', List.forIn_cons, List.forIn_nil]
  simp only [Nat.zero_add, Nat.mul_one]
  have r0 : ∀ w, (Op.equalIn (n + 1) 3 (.int .i64 a) (.int .i64 c)).run Try.prog w = .ok (a == c) w := fun w => run_equalIn_int w n 3 .i64 .i64 a c Try.underlying3
  have r1 : ∀ w, (Op.equalIn (n + 1) 3 (.int .i64 b) (.int .i64 d)).run Try.prog w = .ok (b == d) w := fun w => run_equalIn_int w n 3 .i64 .i64 b d Try.underlying3
  have rp : ∀ (xs : Array Value) (o : Nat) (v : Value) (w : World), xs[o]? = some v → (part 3 xs o).run Try.prog w = .ok v w := fun xs o v w h => by
    simp [part, Sem.run_bind, Try.isAgg3, Result.andThen, h]
  have x0 := fun w => rp #[.int .i64 a, .int .i64 b] 0 _ w rfl
  have x1 := fun w => rp #[.int .i64 a, .int .i64 b] 1 _ w rfl
  have y0 := fun w => rp #[.int .i64 c, .int .i64 d] 0 _ w rfl
  have y1 := fun w => rp #[.int .i64 c, .int .i64 d] 1 _ w rfl
  cases hp : (a == c) <;> cases hq : (b == d) <;> simp [Sem.run_bind, Result.andThen, r0, r1, x0, x1, y0, y1, hp, hq]
/-- A tree's last node. -/
def Tr.node : Tr → Nat → Nd
  | .leaf j, _ => ⟨j, k0, 0, 0⟩
  | .set k, _ => ⟨1, k, 0, 0⟩
  | .rep j a, n => ⟨j, k0, (n : Int) + a.size - 1, 0⟩
  | .two j a b, n => ⟨j, k0, (n : Int) + a.size - 1, (n : Int) + a.size + b.size - 1⟩
/-- A tree's nodes stand in a row from some place on. -/
def Sub (ts : List Nd) (t : Tr) (n : Nat) : Prop := ∀ j, j < t.size → ts[n + j]? = (t.row n)[j]?
theorem row_root : ∀ (t : Tr) (n : Nat), (t.row n)[t.size - 1]? = some (t.node n)
  | .leaf _, _ => rfl
  | .set _, _ => rfl
  | .rep j a, n => by
    show (a.row n ++ [_])[a.size + 1 - 1]? = _
    rw [List.getElem?_append_right (by rw [Tr.row_length]; omega), Tr.row_length, show a.size + 1 - 1 - a.size = 0 by omega]
    rfl
  | .two j a b, n => by
    show (a.row n ++ (b.row (n + a.size) ++ [_]))[a.size + b.size + 1 - 1]? = _
    rw [List.getElem?_append_right (by rw [Tr.row_length]; omega), Tr.row_length, List.getElem?_append_right (by rw [Tr.row_length]; omega), Tr.row_length, show a.size + b.size + 1 - 1 - a.size - b.size = 0 by omega]
    rfl
theorem Sub.root {ts : List Nd} {t : Tr} {n r : Nat} (h : Sub ts t n) (hr : r + 1 = n + t.size) : ts[r]? = some (t.node n) := by
  have hp := t.size_pos
  have := h (t.size - 1) (by omega)
  rw [row_root] at this
  rwa [show n + (t.size - 1) = r by omega] at this
theorem Sub.rep {ts : List Nd} {j : Nat} {a : Tr} {n : Nat} (h : Sub ts (.rep j a) n) : Sub ts a n := fun i hi => by
  rw [h i (by show i < a.size + 1; omega)]
  show (a.row n ++ [_])[i]? = _
  rw [List.getElem?_append_left (by rw [Tr.row_length]; exact hi)]
theorem Sub.fst {ts : List Nd} {j : Nat} {a b : Tr} {n : Nat} (h : Sub ts (.two j a b) n) : Sub ts a n := fun i hi => by
  rw [h i (by show i < a.size + b.size + 1; omega)]
  show (a.row n ++ (b.row (n + a.size) ++ [_]))[i]? = _
  rw [List.getElem?_append_left (by rw [Tr.row_length]; exact hi)]
theorem Sub.snd {ts : List Nd} {j : Nat} {a b : Tr} {n : Nat} (h : Sub ts (.two j a b) n) : Sub ts b (n + a.size) := fun i hi => by
  rw [Nat.add_assoc, h (a.size + i) (by show a.size + i < a.size + b.size + 1; omega)]
  show (a.row n ++ (b.row (n + a.size) ++ [_]))[a.size + i]? = _
  rw [List.getElem?_append_right (by rw [Tr.row_length]; omega), Tr.row_length, List.getElem?_append_left (by rw [Tr.row_length]; omega), show a.size + i - a.size = i by omega]
theorem sub_row (t : Tr) : Sub (t.row 0) t 0 := fun j _ => by rw [Nat.zero_add]

theorem run_row : ∀ (t : Tr), t.ok → ∀ (n : Nat) (rest : List Nd) (st : List Int), rightRun (t.row n ++ rest) n st = rightRun rest (n + t.size) (st ++ [(n : Int) + t.size - 1])
  | .leaf j, hok, n, rest, st => by
    have hk : kidsN (j : Int) = 0 := by rcases hok with rfl | rfl | rfl <;> rfl
    show (rightStep st n ⟨(j : Int), k0, 0, 0⟩).bind (rightRun rest (n + 1)) = _
    have e : rightStep st n ⟨(j : Int), k0, 0, 0⟩ = some (st ++ [(n : Int)]) := by
      unfold rightStep wantL
      simp [hk]
    rw [e]
    show rightRun rest (n + 1) (st ++ [(n : Int)]) = rightRun rest (n + 1) (st ++ [(n : Int) + ((1 : Nat) : Int) - 1])
    rw [show (n : Int) + ((1 : Nat) : Int) - 1 = n by omega]
  | .set k, _, n, rest, st => by
    show (rightStep st n ⟨1, k, 0, 0⟩).bind (rightRun rest (n + 1)) = _
    have e : rightStep st n ⟨1, k, 0, 0⟩ = some (st ++ [(n : Int)]) := by
      have hk : kidsN 1 = 0 := rfl
      unfold rightStep wantL
      simp [hk]
    rw [e]
    show rightRun rest (n + 1) (st ++ [(n : Int)]) = rightRun rest (n + 1) (st ++ [(n : Int) + ((1 : Nat) : Int) - 1])
    rw [show (n : Int) + ((1 : Nat) : Int) - 1 = n by omega]
  | .rep j a, hok, n, rest, st => by
    have hk : kidsN (j : Int) = 1 := by rcases hok.1 with rfl | rfl | rfl <;> rfl
    show rightRun ((a.row n ++ [_]) ++ rest) n st = _
    rw [List.append_assoc, run_row a hok.2 n]
    show (rightStep _ (n + a.size) ⟨(j : Int), k0, (n : Int) + a.size - 1, 0⟩).bind (rightRun rest (n + a.size + 1)) = _
    have e : rightStep (st ++ [(n : Int) + a.size - 1]) (n + a.size) ⟨(j : Int), k0, (n : Int) + a.size - 1, 0⟩ = some (st ++ [((n + a.size : Nat) : Int)]) := by
      unfold rightStep wantL
      simp [hk]
      omega
    rw [e]
    show rightRun rest (n + a.size + 1) _ = rightRun rest (n + (a.size + 1)) (st ++ [(n : Int) + ((a.size + 1 : Nat) : Int) - 1])
    rw [show (n : Int) + ((a.size + 1 : Nat) : Int) - 1 = ((n + a.size : Nat) : Int) by omega]
    rfl
  | .two j a b, hok, n, rest, st => by
    have hk : kidsN (j : Int) = 2 := by rcases hok.1 with rfl | rfl <;> rfl
    have hj1 : ¬ (j : Int) = 1 := by rcases hok.1 with rfl | rfl <;> decide
    show rightRun ((a.row n ++ (b.row (n + a.size) ++ [_])) ++ rest) n st = _
    rw [List.append_assoc, run_row a hok.2.1 n, List.append_assoc, run_row b hok.2.2 (n + a.size)]
    show (rightStep _ (n + a.size + b.size) ⟨(j : Int), k0, (n : Int) + a.size - 1, (n : Int) + a.size + b.size - 1⟩).bind (rightRun rest (n + a.size + b.size + 1)) = _
    have e : rightStep ((st ++ [(n : Int) + a.size - 1]) ++ [((n + a.size : Nat) : Int) + b.size - 1]) (n + a.size + b.size) ⟨(j : Int), k0, (n : Int) + a.size - 1, (n : Int) + a.size + b.size - 1⟩ = some (st ++ [((n + a.size + b.size : Nat) : Int)]) := by
      have e1 : (st ++ [(n : Int) + a.size - 1]) ++ [((n + a.size : Nat) : Int) + b.size - 1] = st ++ [(n : Int) + a.size - 1, (n : Int) + a.size + b.size - 1] := by
        rw [List.append_assoc]
        congr 2
      rw [e1]
      have hw : wantL (st ++ [(n : Int) + a.size - 1, (n : Int) + a.size + b.size - 1]) 2 = ((n : Int) + a.size - 1, (n : Int) + a.size + b.size - 1) := by
        unfold wantL
        simp
      have hl : (st ++ [(n : Int) + a.size - 1, (n : Int) + a.size + b.size - 1]).length = st.length + 2 := by simp
      unfold rightStep
      dsimp only
      rw [hk, hw, if_neg (by rw [hl]; omega), if_neg (by rintro (h | ⟨_, h⟩) <;> exact h (by first | exact ⟨rfl, rfl⟩ | rfl)), hl]
      simp
    rw [e]
    show rightRun rest (n + a.size + b.size + 1) _ = rightRun rest (n + (a.size + b.size + 1)) (st ++ [(n : Int) + ((a.size + b.size + 1 : Nat) : Int) - 1])
    rw [show (n : Int) + ((a.size + b.size + 1 : Nat) : Int) - 1 = ((n + a.size + b.size : Nat) : Int) by omega, show n + a.size + b.size + 1 = n + (a.size + b.size + 1) by omega]
end Go.Proofs.Ytgffmbdbjbhocaa
namespace Go.Proofs.Ytgffmbdbjbhocaa
open Go.RowKit Go.Lib

theorem Try.infoInt : (Try.prog.info? 3).map (fun i => (i.zero, i.size, i.bytes)) = some (some (.int .i64 0), 1, 8) := by kernel_rfl
theorem Try.sizeInt : (Try.prog.info? 3).map (·.size) = some 1 := by kernel_rfl
theorem owns_take {w : World} {B L r cp : Nat} {e : TypeId} {ao : Option Addr} {xs : List Value} (h : w.ownsRow B e 1 (.slice ao L cp) L xs) (hr : r ≤ L) : w.ownsRow B e 1 (.slice ao r cp) r (xs.take r) := by
  obtain ⟨h1, h2⟩ := h
  refine ⟨by rw [List.length_take]; omega, ?_⟩
  rcases h2 with ⟨hv, h0⟩ | ⟨g, cap, cur, hv, hB, hg, hc, hm, hs, htk⟩
  · cases hv
    have : r = 0 := by omega
    subst this
    exact .inl ⟨rfl, rfl⟩
  · cases hv
    refine .inr ⟨g, cp, cur, rfl, hB, hg, by omega, hm, hs, ?_⟩
    rw [← htk, List.take_take]
    congr 1
    omega
theorem wpList_prefix_own {P : Program} {w : World} {ops : Array Oper} {rest : List Oper} {o : Oper} {a : Act} {Q : Exit → Act → World → Prop} (hg : o.guard = none) (s hi : Operand) (t e : TypeId) (hu : P.underlying t = some (.slice e)) (hse : ∀ w, (sizeOf e).run P w = .ok 1 w) (hop : o.op = Op.slice t s none (some hi) none)
    (B L r : Nat) (v : Value) (xs : List Value) (hs : a.eval s = v) (hh : a.eval hi = .int .i64 (r : Int)) (hown : w.ownsRow B e 1 v L xs) (hr : r ≤ L)
    (hK : ∀ v', w.ownsRow B e 1 v' r (xs.take r) → v'.ownBlock = v.ownBlock → wpList P ops Q rest (a.put o.dst v') w) : wpList P ops Q (o :: rest) a w := by
  refine wpList_plain hg fun K hK' => ?_
  have hown0 := hown
  rcases hown.2 with ⟨rfl, h0⟩ | ⟨g, cap, cur, rfl, hB, hgg, hc, hm, hz, htk⟩
  · obtain rfl : r = 0 := by omega
    subst h0
    have h2 := hK' _ _ (hK _ (owns_take hown0 (Nat.le_refl _)) rfl)
    unfold Oper.wp
    simp [execOp, hop, hs, hh]
    go_simp
    exact h2
  · have h2 := hK' _ _ (hK _ (owns_take hown0 hr) rfl)
    unfold Oper.wp
    simp [execOp, hop, hs, hh]
    have hrc : r ≤ cap := by omega
    go_simp
    exact h2
theorem owns_cap {w : World} {B L cp : Nat} {e : TypeId} {ao : Option Addr} {xs : List Value} (h : w.ownsRow B e 1 (.slice ao L cp) L xs) : L ≤ cp ∧ cp ≤ maxLen := by
  rcases h.2 with ⟨hv, h0⟩ | ⟨g, cap, cur, hv, hB, hg, hc, hm, _⟩
  · cases hv; exact ⟨Nat.le_refl _, Nat.zero_le _⟩
  · cases hv; exact ⟨hc, hm⟩
theorem owns_cell {w : World} {B L cp g : Nat} {e : TypeId} {xs : List Value} (h : w.ownsRow B e 1 (.slice (some ⟨g, 0, none⟩) L cp) L xs) {j : Nat} {v : Value} (hj : xs[j]? = some v) : w.cell? ⟨g, j, none⟩ = some v := by
  obtain ⟨h1, h2⟩ := h
  rcases h2 with ⟨hv, _⟩ | ⟨g', cap, cur, hv, hB, hg, hc, hm, hs, htk⟩
  · cases hv
  · cases hv
    have hjl : j < L := by
      by_cases hl : j < xs.length
      · omega
      · rw [List.getElem?_eq_none (by omega)] at hj; cases hj
    rw [cell_of_heap hg]
    rw [← htk, List.getElem?_take_of_lt (by omega)] at hj
    simpa using hj
theorem run_drop {ts : List Nd} {j : Nat} {n : Nd} (st : List Int) (h : ts[j]? = some n) : rightRun (ts.drop j) j st = (rightStep st j n).bind (rightRun (ts.drop (j + 1)) (j + 1)) := by
  have hlt : j < ts.length := by
    by_cases hl : j < ts.length
    · exact hl
    · rw [List.getElem?_eq_none (by omega)] at h; cases h
  rw [List.getElem?_eq_getElem hlt] at h
  cases h
  rw [List.drop_eq_getElem_cons hlt]
  rfl
theorem owns_alloc {w : World} {B n size : Nat} {e : TypeId} {v : Value} {xs : List Value} {o : Obj} (h : w.ownsRow B e size v n xs) : (w.alloc o).ownsRow B e size v n xs := owns_same h fun _g hg => Below.heap_alloc _ _ _ (own_block_lt h hg)
theorem take_snoc_length (st : List Int) (r : Nat) (j : Nat) : (st.take r ++ [(j : Int)]).length ≤ st.length + 1 := by
  rw [List.length_append, List.length_take]
  simp
  omega
theorem ints_snoc (st : List Int) (j : Int) : ints (st ++ [j]) = ints st ++ [.int .i64 j] := by unfold ints; rw [List.map_append]; rfl
theorem cell_one' (w : World) (t : TypeId) (p : Value) : ∀ j x, [p][j]? = some x → (w.alloc (.cells #[p] t)).cell? ((⟨w.heap.size, 0, none⟩ : Addr).add j) = some x := by
  intro j x hj
  have h := heap_alloc_new w (.cells #[p] t)
  have e : (⟨w.heap.size, 0, none⟩ : Addr).add j = ⟨w.heap.size, j, none⟩ := by simp [Addr.add]; intro h; exact h.symm
  rw [e, cell_of_heap h]
  simpa using hj
theorem ints_take (st : List Int) (r : Nat) : (ints st).take r = ints (st.take r) := by unfold ints; rw [List.map_take]
theorem take_snoc_len (st : List Int) (r : Nat) (j : Nat) (h : r ≤ st.length) : (st.take r ++ [(j : Int)]).length = r + 1 := by
  rw [List.length_append, List.length_take]
  simp
  omega
theorem split_one (st : List Int) (h : 1 ≤ st.length) : ∃ (s : List Int) (x : Int), st = s ++ [x] := by
  cases hr : st.reverse with
  | nil => rw [List.reverse_eq_nil_iff] at hr; rw [hr] at h; simp at h
  | cons x s => exact ⟨s.reverse, x, by rw [← List.reverse_reverse st, hr, List.reverse_cons]⟩
theorem split_two (st : List Int) (h : 2 ≤ st.length) : ∃ (s : List Int) (x y : Int), st = s ++ [x, y] := by
  obtain ⟨s, y, rfl⟩ := split_one st (by omega)
  obtain ⟨s, x, rfl⟩ := split_one s (by simp at h; omega)
  exact ⟨s, x, y, by simp⟩
end Go.Proofs.Ytgffmbdbjbhocaa
