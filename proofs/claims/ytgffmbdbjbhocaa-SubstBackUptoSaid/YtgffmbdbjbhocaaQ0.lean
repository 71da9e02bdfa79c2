/- Packed texts: ClsMath, ClsFrame, ReTr, HexLeaf, HexMem, HexMath, HexHex, Build, ClsLeaf, ClsCalls, ReMem, ReLies, Range, ClsEach, ClsRuns, HexName, ClsPlain, ClsSign, ClsRead, ClsSpec, ReFrame. What each of them proves stands above its theorems; the conditions stand in these. -/
import Derived.BigQuiet
import Derived.Deep.Cut
import Derived.Deep.DeepCutAuto
import Derived.Deep.LoopGhost
import Derived.Deep.QuietTactic
import Derived.Deep.RegionHeld3
import Derived.Deep.RegionLaw
import Derived.Deep.RegionWith
import Derived.Deep.Strs
import Derived.Defers
import Derived.HandedShaped
import Derived.Laws.BitsAllLaws
import Derived.Laws.IdiomArrays
import Derived.Laws.Pointers
import Derived.Laws.ResultCell
import Derived.Laws.Rows
import Derived.Laws.StructEq
import Derived.Lib.BufferRead
import Derived.Lib.Hide
import Derived.Lib.IndexBytes
import Derived.Lib.IndexLaws
import Derived.Lib.OthersKept
import Derived.LoopIn
import Derived.LoopN
import Derived.LoopNIn
import Derived.Maps.AppendAt
import Derived.OpenShut
import Derived.OwnWalkIn
import Derived.ProofKit
import Derived.RangeFuncBound
import Derived.RangeFuncLeaves
import Derived.RangeFuncNested
import Derived.Recover
import Derived.Shelf.Abstract
import Derived.Shelf.Strings.BuilderK
import Derived.ShutString
import Derived.SizedLaws
import Derived.StillTailTactics
import Derived.TacticsInMore
import Derived.Test.YtgffmbdbjbhocaaProg
import Derived.Test.YtgffmbdbjbhocaaRows
import Derived.Test.YtgffmbdbjbhocaaShelf
import Derived.WalkKit
import Derived.WalkLawsBesides
import Derived.WalkSpells
import Derived.WideKeyArgs
namespace Go.Proofs.Ytgffmbdbjbhocaa
open Go.RowKit

/-- A class: its four words. -/
abbrev Cl := Nat → BitVec 64
def wd (x : BitVec 64) : Value := .int .u64 (x.toNat : Int)
def clsA (k : Cl) : Array Value := #[wd (k 0), wd (k 1), wd (k 2), wd (k 3)]
def clsV (k : Cl) : Value := .agg (clsA k)
/-- Is the byte of a number in it? -/
def has (k : Cl) (c : Nat) : Bool := (k (c / 64)).getLsbD (c % 64)

/-- Two classes of the same bytes are the same. -/
theorem cls_words {k l : Cl} (h : ∀ c, c < 256 → has k c = has l c) (i : Nat) (hi : i < 4) : k i = l i := by
  apply BitVec.eq_of_getLsbD_eq
  intro j hj
  have := h (64 * i + j) (by omega)
  unfold has at this
  rwa [show (64 * i + j) / 64 = i by omega, show (64 * i + j) % 64 = j by omega] at this
theorem clsA_ext {k l : Cl} (h : ∀ c, c < 256 → has k c = has l c) : clsA k = clsA l := by
  unfold clsA
  rw [cls_words h 0 (by omega), cls_words h 1 (by omega), cls_words h 2 (by omega), cls_words h 3 (by omega)]
theorem clsV_ext {k l : Cl} (h : ∀ c, c < 256 → has k c = has l c) : clsV k = clsV l := by unfold clsV; rw [clsA_ext h]

/-- The bytes below a number. -/
def belowK (n : Nat) : Cl := fun i => BitVec.ofNat 64 (2 ^ (min (n - 64 * i) 64) - 1)
theorem has_below (n c : Nat) : has (belowK n) c = decide (c < n) := by
  unfold has belowK
  rw [BitVec.getLsbD_ofNat, Nat.testBit_two_pow_sub_one]
  have h1 : c % 64 < 64 := Nat.mod_lt _ (by decide)
  have h2 : c = 64 * (c / 64) + c % 64 := (Nat.div_add_mod c 64).symm
  simp only [h1, decide_true, Bool.true_and, decide_eq_decide]
  omega
def spanK (a b : Nat) : Cl := fun i => belowK (b + 1) i &&& ~~~ belowK a i
theorem has_span (a b c : Nat) : has (spanK a b) c = (decide (a ≤ c) && decide (c ≤ b)) := by
  have e : has (spanK a b) c = (has (belowK (b + 1)) c && !has (belowK a) c) := by
    unfold has spanK
    rw [BitVec.getLsbD_and, BitVec.getLsbD_not]
    simp [Nat.mod_lt]
  rw [e, has_below, has_below, Bool.eq_iff_iff]
  simp
  omega
def oneK (c : Nat) : Cl := spanK c c
theorem has_one (c d : Nat) : has (oneK c) d = decide (d = c) := by
  unfold oneK
  rw [has_span, Bool.eq_iff_iff]
  simp
  omega

/-- The operations on words. -/
theorem ofInt_nat (x : BitVec 64) : BitVec.ofInt 64 (x.toNat : Int) = x := by
  rw [BitVec.ofInt_natCast, BitVec.ofNat_toNat, BitVec.setWidth_eq]
theorem bv_lt (x : BitVec 64) : (x.toNat : Int) < 18446744073709551616 := by have := x.isLt; omega
theorem and_wd (x y : BitVec 64) : bits .and .u64 (x.toNat : Int) (y.toNat : Int) = ((x &&& y).toNat : Int) := by
  show IntKind.u64.wrap ((BitVec.ofInt 64 (x.toNat : Int) &&& BitVec.ofInt 64 (y.toNat : Int)).toNat : Int) = _
  rw [ofInt_nat, ofInt_nat, IntKind.wrap_u64]
  exact Int.emod_eq_of_lt (by omega) (bv_lt _)
end Go.Proofs.Ytgffmbdbjbhocaa
namespace Go.Proofs.Ytgffmbdbjbhocaa
open Go.ChangeShapes Go.WideShapes Go.ChangeAt Go.RowKit

theorem own : ownKnob Try.prog.godebug = none := by kernel_rfl
theorem laidOut : laidOutB Try.prog = true := by kernel_rfl
/-- What a row asks behind a call that laid new memory alone. -/
theorem post_of_below {H : Type} {enc : TypeId × Value → H} {P : Program} {f : Func} {s : ChangeSpec} {apart fresh handsOn again : Bool} {W W' : World} {args : Array Value} {v : Value} {ds gs : List (DataW H)} {before pa pv : List MemPlace}
    (hW : DataW.Whole enc P f.params.toList s.vars apart W args.toList ds gs before)
    (hres : ∀ (b : Nat) (sp : Nat → Bool) (hd : Bool), DataW.TrodAll enc P W' b sp hd f.resultTypes.toList (v.resultList f.resultTypes.size) (s.fn H (ds ++ gs)).results [])
    (hargs : ∀ sp : Nat → Bool, (∀ p ∈ before, sp p.block = true) → DataW.TrodAll enc P W' 0 sp true f.params.toList args.toList (s.fn H (ds ++ gs)).args pa)
    (hvars : ∀ sp : Nat → Bool, (∀ p ∈ before, sp p.block = true) → DataW.TrodVars enc P W' sp s.vars (s.fn H (ds ++ gs)).vars pv)
    (hps : before = pa ++ pv) (hb : Below W.heap.size W W')
    (hok : ∀ (j : Nat) (t : TypeId) (r : Value), f.resultTypes[j]? = some t → (v.resultList f.resultTypes.size)[j]? = some r → Value.okWide P W' .any 0 t r) :
    s.post enc P f apart fresh handsOn again W args v W' := by
  have hlt : ∀ p ∈ before, p.block < W.heap.size := fun p hp => hW.lt p hp
  have hold : ∀ p ∈ before, (fun b => decide (b < W.heap.size)) p.block = true := fun p hp => by simpa using hlt p hp
  refine ⟨ds, gs, before, [], pa, pv, hW, hres _ _ _, hargs _ hold, hvars _ hold, World.keptBut_mono (fun p hp => ⟨hp, ?_⟩) (hb.frame (· ∈ before)), fun _ => ?_⟩
  · rw [hps, List.mem_append] at hp
    exact Or.inr hp
  · obtain ⟨_, _, _, _, _, hz, hn⟩ := hW
    refine ⟨hok, _, _, ([] ++ pa) ++ pv, ⟨[] ++ pa, pv, trodAll_append (hargs _ (fun _ _ => rfl)) (hres _ _ _), hvars _ (fun _ _ => rfl), rfl, ?_, ?_⟩, ?_⟩
    · intro b off hp
      have hin : MemPlace.cell b off ∈ before := by rw [hps]; simpa using hp
      rw [hb.frozen (hlt _ hin)]
      exact hz b off hin
    · intro ha
      have := hn ha
      rw [hps] at this
      simpa using this
    · intro p hp _
      rw [hps]
      simpa using hp
end Go.Proofs.Ytgffmbdbjbhocaa
namespace Go.Proofs.Ytgffmbdbjbhocaa
open Go.RowKit

/-- A class as its four words, and no more. -/
structure K4 where
  a : BitVec 64
  b : BitVec 64
  c : BitVec 64
  d : BitVec 64
deriving DecidableEq
def K4.cl (k : K4) : Cl := fun i => if i = 0 then k.a else if i = 1 then k.b else if i = 2 then k.c else k.d
def k4 (K : Cl) : K4 := ⟨K 0, K 1, K 2, K 3⟩
theorem has_k4 (K : Cl) {c : Nat} (hc : c < 256) : has (k4 K).cl c = has K c := by
  have h : c / 64 = 0 ∨ c / 64 = 1 ∨ c / 64 = 2 ∨ c / 64 = 3 := by omega
  unfold has K4.cl k4
  rcases h with h | h | h | h <;> rw [h] <;> simp
def k0 : K4 := ⟨0, 0, 0, 0⟩
/-- A node. -/
structure Nd where
  k : Int
  s : K4
  x : Int
  y : Int
deriving DecidableEq
def Nd.cells (n : Nd) : List Value := [.int .i64 n.k, wd n.s.a, wd n.s.b, wd n.s.c, wd n.s.d, .int .i64 n.x, .int .i64 n.y]
def Nd.val (n : Nd) : Value := .agg #[.int .i64 n.k, wd n.s.a, wd n.s.b, wd n.s.c, wd n.s.d, .int .i64 n.x, .int .i64 n.y]
def ndC (t : List Nd) : List Value := t.flatMap Nd.cells
theorem ndC_append (a b : List Nd) : ndC (a ++ b) = ndC a ++ ndC b := List.flatMap_append
/-- A tree. -/
inductive Tr where
  | leaf (j : Nat)
  | set (k : K4)
  | rep (j : Nat) (a : Tr)
  | two (j : Nat) (a b : Tr)
def Tr.size : Tr → Nat
  | .leaf _ => 1
  | .set _ => 1
  | .rep _ a => a.size + 1
  | .two _ a b => a.size + b.size + 1
/-- Its nodes, where so many stand ahead of it. -/
def Tr.row : Tr → Nat → List Nd
  | .leaf j, _ => [⟨j, k0, 0, 0⟩]
  | .set k, _ => [⟨1, k, 0, 0⟩]
  | .rep j a, n => a.row n ++ [⟨j, k0, (n : Int) + a.size - 1, 0⟩]
  | .two j a b, n => a.row n ++ (b.row (n + a.size) ++ [⟨j, k0, (n : Int) + a.size - 1, (n : Int) + a.size + b.size - 1⟩])
/-- The kinds that there are. -/
def Tr.ok : Tr → Prop
  | .leaf j => j = 0 ∨ j = 7 ∨ j = 8
  | .set _ => True
  | .rep j a => (j = 4 ∨ j = 5 ∨ j = 6) ∧ a.ok
  | .two j a b => (j = 2 ∨ j = 3) ∧ a.ok ∧ b.ok
theorem Tr.size_pos : ∀ t : Tr, 1 ≤ t.size
  | .leaf _ => Nat.le_refl _
  | .set _ => Nat.le_refl _
  | .rep _ _ => Nat.le_add_left _ _
  | .two _ _ _ => Nat.le_add_left _ _
theorem Tr.row_length : ∀ (t : Tr) (n : Nat), (t.row n).length = t.size
  | .leaf _, _ => rfl
  | .set _, _ => rfl
  | .rep j a, n => by
    show (a.row n ++ [_]).length = a.size + 1
    rw [List.length_append, row_length a n]
    rfl
  | .two j a b, n => by
    show (a.row n ++ (b.row (n + a.size) ++ [_])).length = a.size + b.size + 1
    rw [List.length_append, List.length_append, row_length a n, row_length b _]
    rfl

end Go.Proofs.Ytgffmbdbjbhocaa
namespace Go.Proofs.Ytgffmbdbjbhocaa
open Go.RowKit

def isFig (c : UInt8) : Bool := decide (48 ≤ (c.toNat : Int)) && decide ((c.toNat : Int) ≤ 57)
def isLet (c : UInt8) : Bool := (decide (65 ≤ (c.toNat : Int)) && decide ((c.toNat : Int) ≤ 90) || decide (97 ≤ (c.toNat : Int)) && decide ((c.toNat : Int) ≤ 122)) || decide ((c.toNat : Int) = 95)
def digN (c : UInt8) : Int :=
  if 48 ≤ (c.toNat : Int) ∧ (c.toNat : Int) ≤ 57 then (c.toNat : Int) - 48
  else if 97 ≤ (c.toNat : Int) ∧ (c.toNat : Int) ≤ 102 then (c.toNat : Int) - 87
  else if 65 ≤ (c.toNat : Int) ∧ (c.toNat : Int) ≤ 70 then (c.toNat : Int) - 55
  else -1

theorem u8_lt (c : UInt8) : (c.toNat : Int) < 256 := by have := c.toNat_lt; omega

theorem ret_bool {a b : Bool} (h : a = b) : Ending.returned (.bool a) = .returned (.bool b) := by rw [h]
theorem ret_int {k : IntKind} {a b : Int} (h : a = b) : Ending.returned (.int k a) = .returned (.int k b) := by rw [h]

set_option maxHeartbeats 400000 in
theorem isFigure_any (c : UInt8) (w : World) :
    Calls Try.prog 156 #[.int .u8 (c.toNat : Int)] w fun e w' => e = .returned (.bool (isFig c)) ∧ w = w' := by
  go_enter Try.func156, Try.ntmps156
  go_wp2
  all_goals
    go_ret
    refine ⟨ret_bool ?_, rfl⟩
    simp [isFig]
    try omega

set_option maxHeartbeats 400000 in
theorem isLetter_any (c : UInt8) (w : World) :
    Calls Try.prog 155 #[.int .u8 (c.toNat : Int)] w fun e w' => e = .returned (.bool (isLet c)) ∧ w = w' := by
  go_enter Try.func155, Try.ntmps155
  go_wp2
  all_goals
    go_ret
    refine ⟨ret_bool ?_, rfl⟩
    rw [Bool.eq_iff_iff]
    simp [isLet]
    try omega

set_option maxHeartbeats 400000 in
theorem digit_any (c : UInt8) (w : World) :
    Calls Try.prog 152 #[.int .u8 (c.toNat : Int)] w fun e w' => e = .returned (.int .i64 (digN c)) ∧ w = w' := by
  go_enter Try.func152, Try.ntmps152
  go_wp2
  all_goals
    go_ret
    refine ⟨ret_int ?_, rfl⟩
    simp [digN]
    try omega

set_option maxHeartbeats 400000 in
theorem refDigit_any (c : UInt8) (w : World) :
    Calls Try.prog 112 #[.int .u8 (c.toNat : Int)] w fun e w' => e = .returned (.int .i64 (digN c)) ∧ w = w' := by
  go_enter Try.func112, Try.ntmps112
  go_wp2
  all_goals
    go_ret
    refine ⟨ret_int ?_, rfl⟩
    simp [digN]
    try omega

end Go.Proofs.Ytgffmbdbjbhocaa
namespace Go.Proofs.Ytgffmbdbjbhocaa
open Go.RowKit Go.Lib

/-- A row of some length and some room, both known as numbers. -/
theorem wpList_make_lc {P : Program} (w : World) {ops : Array Oper} {rest : List Oper} {o : Oper} {a : Act} {Q : Exit → Act → World → Prop}
    (hg : o.guard = none) (l c : Operand) (t : TypeId) (hop : o.op = Op.makeSlice t l c)
    (base : Nat) (e : TypeId) (i : TypeInfo) (z : Value) (size : Nat) (h1 : P.underlying t = some (.slice e)) (h2 : P.info? e = some i) (h3 : i.zero = some z) (h4 : i.size = size)
    (kl kc : IntKind) (L C : Int) (m n : Nat) (hl : a.eval l = .int kl L) (hc : a.eval c = .int kc C) (hL : L = (m : Int)) (hC : C = (n : Int)) (hmn : m ≤ n) (b2 : i.bytes * n ≤ 281474976710656) (b3 : n ≤ maxLen) (b4 : base ≤ w.heap.size)
    (hK : ∀ w', w'.ownsRow base e size (.slice (some ⟨w.heap.size, 0, none⟩) m n) m (madeCells z.cells (m * size)).toList → w.grownBy w' none → wpList P ops Q rest (a.put o.dst (.slice (some ⟨w.heap.size, 0, none⟩) m n)) w') :
    wpList P ops Q (o :: rest) a w := by
  refine wpList_plain hg fun K hK' => ?_
  subst hL
  subst hC
  subst h4
  have hrun := run_make (P := P) w t e i z h1 h2 h3 kl kc (m : Int) (n : Int) (by omega) (by omega) (by have := b2; omega) (by unfold maxLen at b3; omega)
  unfold Oper.wp
  simp [execOp, hop, hl, hc, hrun, Result.andThen]
  refine hK' _ _ (hK _ ⟨by simp [size_madeCells], .inr ⟨w.heap.size, n, _, rfl, b4, heap_alloc_new w _, hmn, b3, by simp [size_madeCells], ?_⟩⟩ (World.grownBy_alloc w _ none))
  unfold madeCells
  have hle : m * i.size ≤ n * i.size := Nat.mul_le_mul_right _ hmn
  simp only [Array.toList_map, Array.toList_range, ← List.map_take, List.take_range, Nat.min_eq_left hle]

/-- One step of a region that draws its order: more is appended to an owned row. -/
theorem step_append_own {P : Program} {ops : Array Oper} {o : Oper} {a : Act} {w : World} {K : Act → World → Prop} {Q : Exit → Act → World → Prop} {E : Prop}
    (hg : o.guard = none) (s x : Operand) (t : TypeId) (hop : o.op = Op.call { callee := Callee.builtin Builtin.append, args := #[s, x], argTypes := #[t, t] })
    (base : Nat) (e : TypeId) (i : TypeInfo) (z : Value) (size bytes : Nat) (h1 : P.underlying t = some (.slice e)) (h2 : P.info? e = some i) (h3 : i.zero = some z) (h4 : i.size = size) (h5 : i.bytes = bytes) (h6 : z.cells.size = size) (h7 : 0 < size)
    (v : Value) (n : Nat) (xs : List Value) (hs : a.eval s = v) (hown : w.ownsRow base e size v n xs)
    (ad : Addr) (m c : Nat) (news : List Value) (hx : a.eval x = .slice (some ad) m c) (hl : news.length = m * size) (hnews : ∀ j u, news[j]? = some u → w.cell? (ad.add j) = some u) (h1c : ∀ u ∈ news, u.oneCell' = true)
    (h63 : n + m ≤ maxLen) (hbytes : (n + m) * bytes ≤ 140737488355328) (hbase : base ≤ w.heap.size)
    (hK : ∀ v' w', w'.ownsRow base e size v' (n + m) (xs ++ news) → w.grownBy w' v.ownBlock → K (a.put o.dst v') w') :
    if Region.wanted o (yielded ops a.tmps) = true then Oper.wp P o a w K Q else E := by
  have hw : Region.wanted o (yielded ops a.tmps) = true := by simp [Region.wanted, hg]
  rw [if_pos hw]
  exact wp_append_own w s x t hop base e i z size bytes h1 h2 h3 h4 h5 h6 h7 v n xs hs hown ad m c news hx hl hnews h1c h63 hbytes hbase fun v' w' a b _ => hK v' w' a b

/-- An owned row lies among the call's own blocks. -/
theorem own_base {w : World} {B n size : Nat} {e : TypeId} {v : Value} {xs : List Value} (h : w.ownsRow B e size v n xs) {g : Nat} (hg : v.ownBlock = some g) : B ≤ g := by
  rcases h.2 with ⟨rfl, _⟩ | ⟨g', _, _, rfl, hB, _⟩
  · cases hg
  · cases hg; exact hB

/-- Draws turn no block. -/
theorem below_draws {B : Nat} {a w : World} (h : Below B a w) (n : Nat) : Below B a (w.drewN n) :=
  h.trans (⟨rfl, rfl, rfl, Nat.le_refl _, fun _ _ => rfl⟩ : Below B w (w.drewN n))
theorem made1 : (madeCells #[Value.int .u8 0] 1).toList = [.int .u8 0] := by simp [madeCells, Array.range_succ]
/-- 'string(b)' of an owned row of bytes. -/
theorem conv_owned {P : Program} {w : World} {B n : Nat} {src dst e : TypeId} {v : Value} {l : List UInt8} (hs : P.underlying src = some (.slice e)) (he : P.underlying e = some (.int .u8)) (hd : P.underlying dst = some .string)
    (h : w.ownsRow B e 1 v n (byteCells l)) : (convert src dst v).run P w = .ok (.string ⟨l.toArray⟩) w := by
  obtain ⟨hl, hor⟩ := h
  rw [byteCells_length, Nat.mul_one] at hl
  subst hl
  rcases hor with ⟨rfl, h0⟩ | ⟨g, cap, cur, rfl, _, hg, _, _, _, htk⟩
  · obtain rfl : l = [] := List.eq_nil_of_length_eq_zero h0
    exact run_convert_nil_bytes w src dst e 0 hs he hd
  · rw [Nat.mul_one] at htk
    exact run_convert_bytes_back w src dst e _ cap l hs he hd (bytes_of_row hg htk)
end Go.Proofs.Ytgffmbdbjbhocaa
namespace Go.Proofs.Ytgffmbdbjbhocaa
open Go.RowKit Go.Lib

def hexDg (n : Nat) : UInt8 := if n < 10 then UInt8.ofNat (48 + n) else UInt8.ofNat (87 + n)
def hexL : List UInt8 → List UInt8
  | [] => []
  | c :: l => hexDg (c.toNat / 16) :: hexDg (c.toNat % 16) :: hexL l
theorem hexL_append (a b : List UInt8) : hexL (a ++ b) = hexL a ++ hexL b := by
  induction a with
  | nil => rfl
  | cons c a ih => simp [hexL, ih]
theorem hexL_length (l : List UInt8) : (hexL l).length = 2 * l.length := by
  induction l with
  | nil => rfl
  | cons c l ih => simp [hexL, ih]; omega
/-- The whole text: x, then the digits. -/
def hexT (l : List UInt8) : List UInt8 := 120 :: hexL l
theorem hexT_length (l : List UInt8) : (hexT l).length = 1 + 2 * l.length := by simp [hexT, hexL_length]; omega
theorem take_snoc (s : ByteArray) (k : Nat) (h : k < s.size) : s.data.toList.take (k + 1) = s.data.toList.take k ++ [s[k]] := by
  rw [List.take_succ_eq_append_getElem (by simpa using h)]; rfl
theorem hexT_snoc (s : ByteArray) (k : Nat) (h : k < s.size) :
    hexT (s.data.toList.take (k + 1)) = hexT (s.data.toList.take k) ++ [hexDg (s[k].toNat / 16), hexDg (s[k].toNat % 16)] := by
  rw [take_snoc s k h]
  simp [hexT, hexL_append, hexL]
theorem bc_append (a b : List UInt8) : byteCells (a ++ b) = byteCells a ++ byteCells b := by simp [byteCells]
theorem and15_fin : ∀ n : Fin 256, bits BinOp.and IntKind.u8 (n.val : Int) 15 = (n.val : Int) % 16 := by decide +kernel
theorem and15 (c : UInt8) : bits BinOp.and IntKind.u8 (c.toNat : Int) 15 = (c.toNat : Int) % 16 := and15_fin ⟨c.toNat, c.toNat_lt⟩
/-- The sixteen digits, each at its number's place. -/
theorem dig_fin : ∀ n : Fin 16, (⟨#[48, 49, 50, 51, 52, 53, 54, 55, 56, 57, 97, 98, 99, 100, 101, 102]⟩ : ByteArray)[n.val]'(n.isLt) = hexDg n.val := by decide +kernel
theorem dig_at (x : Int) (n : Nat) (hx : x = (n : Int)) (hn : n < 16) (h : x.toNat < (⟨#[48, 49, 50, 51, 52, 53, 54, 55, 56, 57, 97, 98, 99, 100, 101, 102]⟩ : ByteArray).size) :
    (⟨#[48, 49, 50, 51, 52, 53, 54, 55, 56, 57, 97, 98, 99, 100, 101, 102]⟩ : ByteArray)[x.toNat] = hexDg n := by
  subst hx
  exact dig_fin ⟨n, hn⟩
/-- Two cells of a new row. -/
theorem cells_two (w : World) (a b : UInt8) (t : TypeId) : ∀ j u, (byteCells [a, b])[j]? = some u → (w.alloc (.cells #[.int .u8 (a.toNat : Int), .int .u8 (b.toNat : Int)] t)).cell? ((⟨w.heap.size, 0, none⟩ : Addr).add j) = some u := by
  intro j u hj
  match j, hj with
  | 0, hj => simp [byteCells] at hj; subst hj; simp [Addr.add]
  | 1, hj => simp [byteCells] at hj; subst hj; simp [Addr.add]
theorem bc_one (l : List UInt8) : ∀ u ∈ byteCells l, u.oneCell' = true := by
  intro u hu
  simp only [byteCells, List.mem_map] at hu
  obtain ⟨b, _, rfl⟩ := hu
  rfl
/-- 'string([]byte{x})'. -/
theorem conv_new1 {P : Program} (src dst e : TypeId) (hs : P.underlying src = some (.slice e)) (he : P.underlying e = some (.int .u8)) (hd : P.underlying dst = some .string) (w : World) (x : Int) (c : UInt8) (hx : x = (c.toNat : Int)) :
    (convert src dst (.slice (some ⟨w.heap.size, 0, none⟩) 1 1)).run P (w.alloc (.cells #[.int .u8 x] e)) = .ok (.string ⟨[c].toArray⟩) (w.alloc (.cells #[.int .u8 x] e)) := by
  subst hx
  exact run_convert_bytes_back (P := P) _ src dst e ⟨w.heap.size, 0, none⟩ 1 [c] hs he hd (fun j hj => by
    have : j = 0 := by simpa using hj
    subst this
    simp [Addr.add])
theorem hexDg_lo (n : Nat) (h : n < 10) : ((hexDg n).toNat : Int) = 48 + (n : Int) := by
  unfold hexDg; rw [if_pos h]; simp; omega
theorem hexDg_hi (n : Nat) (h : 10 ≤ n) (h' : n < 16) : ((hexDg n).toNat : Int) = 87 + (n : Int) := by
  unfold hexDg; rw [if_neg (by omega)]; simp; omega
end Go.Proofs.Ytgffmbdbjbhocaa
namespace Go.Proofs.Ytgffmbdbjbhocaa
open Go.RowKit Go.Lib

theorem Try.info5 : (Try.prog.info? 5).map (fun i => (i.zero, i.size, i.bytes)) = some (some (.int .u8 0), 1, 1) := by kernel_rfl

set_option maxHeartbeats 400000 in
theorem hex_any (s : ByteArray) (w : World) (hs : s.size ≤ 70000000000000) :
    Calls Try.prog 139 #[.string s] w fun e w' => e = .returned (.string ⟨(hexT s.data.toList).toArray⟩) ∧ Below w.heap.size w w' := by
  obtain ⟨i0, hi, hz0, hz1, hz2⟩ := info_parts Try.info5
  go_enter Try.func139, Try.ntmps139
  go_wp2_with (first | (at_make; refine wpList_make_lc _ rfl _ _ 88 rfl w.heap.size 5 i0 (.int .u8 0) 1 Try.underlying88 hi hz0 hz1 .i64 .i64 _ _ 1 (1 + 2 * s.size) rfl rfl rfl (by omega) (by omega) (by rw [hz2]; omega) (by unfold maxLen; omega) (Nat.le_refl _) ?_))
  intro w1 hown1 hgrow1
  have hb1 : Below w.heap.size w w1 := (Below.refl _ _).grown hgrow1 (Nat.le_refl _) (by simp)
  have hc1 : w1.cell? ⟨w.heap.size, 0, none⟩ = some (.int .u8 0) := by rw [hown1.cellAt 0 (by omega), made1]; rfl
  have hf1 : w1.frozen? ⟨w.heap.size, 0, none⟩ = false := hown1.frozenAt 0
  obtain ⟨hown2, hgrow2⟩ := hown1.stored 0 (.int .u8 120)
  have hb2 : Below w.heap.size w (w1.setCell ⟨w.heap.size, 0, none⟩ (.int .u8 120)) := hb1.setCell (Nat.le_refl _) _
  clear hown1 hgrow1 hgrow2 hb1
  have hown3 : (w1.setCell ⟨w.heap.size, 0, none⟩ (.int .u8 120)).ownsRow w.heap.size 5 1 (.slice (some ⟨w.heap.size, 0, none⟩) 1 (1 + 2 * s.size)) 1 (byteCells (hexT (s.data.toList.take 0))) := by
    rw [made1] at hown2; exact hown2
  clear hown2
  go_wp2
  go_loopw [3, 14] (fun v i wr => ∃ k : Nat, k ≤ s.size ∧ i = .int .i64 k ∧ wr.ownsRow w.heap.size 5 1 v (1 + 2 * k) (byteCells (hexT (s.data.toList.take k))) ∧ Below w.heap.size w wr)
    (fun _ i _ => s.size - (RowKit.intOf i).toNat)
  case atStart => exact ⟨0, Nat.zero_le _, rfl, hown3, hb2⟩
  case round =>
    obtain ⟨k, hk, rfl, hown, hbel⟩ := hrel
    clear hown3 hb2 hc1 hf1
    by_cases hlt : k < s.size
    · obtain ⟨c, hc⟩ : ∃ c, s[k] = c := ⟨_, rfl⟩
      have hd1 : 0 ≤ (c.toNat : Int) / 16 ∧ (c.toNat : Int) / 16 < 16 := by have := u8_lt c; omega
      have hd2 : 0 ≤ (c.toNat : Int) % 16 ∧ (c.toNat : Int) % 16 < 16 := by omega
      have hd3 := and15 c
      have hd4 := dig_at ((c.toNat : Int) / 16) (c.toNat / 16) (by omega) (by have := hd1; omega)
      have hd5 := dig_at ((c.toNat : Int) % 16) (c.toNat % 16) (by omega) (by omega)
      go_wp2
      go_region_law (refine step_append_own rfl (.tmp 17) (.tmp 28) 88 rfl w.heap.size 5 i0 (.int .u8 0) 1 1 Try.underlying88 hi hz0 hz1 hz2 rfl (by decide) _ (1 + 2 * k) (byteCells (hexT (s.data.toList.take k))) (by simp [Act.eval]) (hown.drew.alloc _) ⟨wr.heap.size, 0, none⟩ 2 2 (byteCells [hexDg (c.toNat / 16), hexDg (c.toNat % 16)]) (by simp [Act.eval]) rfl (cells_two _ _ _ _) (bc_one _) (by unfold maxLen; omega) (by omega) (by have := hbel.size; simp; omega) ?_; intro v2 w2 hown2 hgrow2)
      all_goals
        have hown3 : w2.ownsRow w.heap.size 5 1 v2 (1 + 2 * (k + 1)) (byteCells (hexT (s.data.toList.take (k + 1)))) := by
          rw [hexT_snoc s k hlt, bc_append, hc]; exact hown2
        have hbel2 : Below w.heap.size w w2 := (hbel.drew.alloc hbel.size _).grown hgrow2 (by have := hbel.size; simp; omega) (fun g hg => own_base hown hg)
        clear hown2 hgrow2 hd1 hd2 hd3 hd4 hd5 hc
        go_wp2
        go_roundw
        case rel => exact ⟨k + 1, by omega, by go_num, hown3, hbel2⟩
        case measure => simp [RowKit.intOf]; omega
    · have hkk : k = s.size := by omega
      have hall : hexT (s.data.toList.take k) = hexT s.data.toList := by rw [List.take_of_length_le (by simp; omega)]
      rw [hall] at hown
      have hcv := conv_owned (P := Try.prog) (src := 88) (dst := 9) Try.underlying88 Try.underlying5 Try.underlying9 hown
      have HK := Lib.hid hkk
      clear hkk hall
      go_wp2
      go_ret
      exact ⟨rfl, hbel⟩
end Go.Proofs.Ytgffmbdbjbhocaa
namespace Go.Proofs.Ytgffmbdbjbhocaa
open Go.RowKit Go.Lib

theorem Try.sizeBuilder : (Try.prog.info? 90).map (·.size) = some 2 := by kernel_rfl
theorem Try.liesBuilder : liesAt Try.prog Try.prog.depth 90 (2 / Try.prog.cellsOf 90) 0 90 1 = true := by kernel_rfl

set_option maxHeartbeats 1000000 in
set_option maxRecDepth 100000 in
theorem check_used (b : Nat) (w : World) (h0 : w.cell? ⟨b, 0, none⟩ = some (.pointer (some ⟨b, 0, none⟩))) :
    Calls Try.prog 91 #[.pointer (some ⟨b, 0, none⟩)] w fun e w' => e = .returned (.tuple #[]) ∧ w' = w := by
  obtain ⟨j, hj, _⟩ := Option.map_eq_some_iff.1 Try.sizeBuilder
  go_enter Try.func91, Try.ntmps91
  go_wp2
  rw [Lib.run_neq_ptr_same w _ Try.underlying87 hj]
  go_wp2
  go_end0
  exact ⟨rfl, rfl⟩

set_option maxHeartbeats 1000000 in
set_option maxRecDepth 100000 in
theorem check_fresh (b : Nat) (w : World) (h0 : w.cell? ⟨b, 0, none⟩ = some (.pointer none)) (hsh : w.shape? b = some (90, 2)) (hfz : w.frozen? ⟨b, 0, none⟩ = false) :
    Calls Try.prog 91 #[.pointer (some ⟨b, 0, none⟩)] w fun e w' => e = .returned (.tuple #[]) ∧ w' = w.setCell ⟨b, 0, none⟩ (.pointer (some ⟨b, 0, none⟩)) := by
  obtain ⟨j, hj, hjs⟩ := Option.map_eq_some_iff.1 Try.sizeBuilder
  go_enter Try.func91, Try.ntmps91
  go_wp2
  rw [Lib.run_to_unsafe w ⟨b, 0, none⟩ Try.underlying87 Try.underlying151 hj (by rw [hjs]; decide) hsh (Nat.zero_lt_succ 1)]
  simp only [Result.andThen]
  rw [Oper.upon_value]
  go_wp2
  rw [run_callFunc_extern Try.func119 (by kernel_rfl) (by kernel_rfl) (by kernel_rfl) (e := Extern.AbiNoEscape.same) (by kernel_rfl)]
  rw [Lib.run_noEscape]
  simp only [Result.andThen]
  rw [Oper.upon_value]
  go_wp2
  rw [Lib.run_from_unsafe w ⟨b, 0, none⟩ Try.underlying151 Try.underlying87 hj hsh Try.liesBuilder]
  simp only [Result.andThen]
  rw [Oper.upon_value]
  go_wp2
  go_end0
  exact ⟨rfl, rfl⟩

theorem check_any (B b : Nat) (bs : List Value) (w : World) (h : IsBuilderF 90 5 B b bs w) :
    Calls Try.prog 91 #[.pointer (some ⟨b, 0, none⟩)] w fun e w' => e = .returned (.tuple #[]) ∧ (BuilderAtF 90 5 B b (.pointer (some ⟨b, 0, none⟩)) bs w' ∧ Below B w w' ∧ OthersKept 5 (some b) w w') := by
  rcases h with h | h
  · refine (check_fresh b w h.cell0 h.shape h.frozen0).mono ?_
    rintro e w' ⟨rfl, rfl⟩
    exact ⟨rfl, h.used _, (Below.refl B w).setCell (p := ⟨b, 0, none⟩) h.1 _, (OthersKept.refl _ _ w).setCell ⟨b, 0, none⟩ rfl _⟩
  · refine (check_used b w h.cell0).mono ?_
    rintro e w' ⟨rfl, rfl⟩
    exact ⟨rfl, h, Below.refl B _, OthersKept.refl _ _ _⟩

/-- The builder's block behind a row that has grown. -/
theorem builder_block {w w1 w2 : World} {b : Nat} {v : Value} {T : TypeId} (hbk : w1.heap[b]? = some (.cells #[.pointer (some ⟨b, 0, none⟩), v] T (0, 0))) (hlt : b < w.heap.size) (hsame : w.heap[b]? = w1.heap[b]?)
    (hgrow : w.grownBy w2 v.ownBlock) (hne : v.ownBlock ≠ some b) : w2.heap[b]? = some (.cells #[.pointer (some ⟨b, 0, none⟩), v] T (0, 0)) := by
  rw [hgrow.block b hlt (fun e => hne e.symm), hsame]
  exact hbk
theorem block_lt {w : World} {b : Nat} {o : Obj} (h : w.heap[b]? = some o) : b < w.heap.size := by
  by_cases hl : b < w.heap.size
  · exact hl
  · rw [Array.getElem?_eq_none (Nat.le_of_not_lt hl)] at h; cases h

set_option maxHeartbeats 2000000 in
set_option maxRecDepth 100000 in
theorem writeString_any (B b : Nat) (bs : List Value) (s : ByteArray) (w : World) (h : IsBuilderF 90 5 B b bs w) (hlen : bs.length + s.size ≤ 140737488355328) (hBw : B ≤ w.heap.size) :
    Calls Try.prog 68 #[.pointer (some ⟨b, 0, none⟩), .string s] w fun e w' => e = .returned (.tuple #[.int .i64 s.size, .nilIface]) ∧ (BuilderAtF 90 5 B b (.pointer (some ⟨b, 0, none⟩)) (bs ++ strCells s) w' ∧ Below B w w' ∧ OthersKept 5 (some b) w w') := by
  obtain ⟨i0, hi, hz0, hz1, hz2⟩ := info_parts Try.info5
  go_enter Try.func68, Try.ntmps68
  go_wp2_with (go_at_call 91; refine (check_any B b bs _ h).mono ?_)
  rintro e w1 ⟨rfl, h1, hb1, hk1⟩
  obtain ⟨hB, v, hbk, hown, hne⟩ := h1
  have c0 : w1.cell? ⟨b, 0, none⟩ = some (.pointer (some ⟨b, 0, none⟩)) := by rw [cell_of_heap hbk]; rfl
  have c1 : w1.cell? ⟨b, 1, none⟩ = some v := by rw [cell_of_heap hbk]; rfl
  have hlt := block_lt hbk
  go_wp2_with (at_builtin; refine wpList_append_own_stringF _ rfl _ _ 88 9 rfl B 5 i0 Try.underlying88 Try.underlying9 hi hz0 hz1 hz2 _ _ _ rfl hown s rfl ?c3 ?c4 ?c5 ?_)
  case c3 => unfold maxLen; omega
  case c4 => omega
  case c5 => have := hb1.size; omega
  intro v' w2 hown' hgrow _
  have hb2 := builder_block (w := w1) hbk hlt rfl hgrow hne
  have d0 : w2.cell? ⟨b, 0, none⟩ = some (.pointer (some ⟨b, 0, none⟩)) := by rw [cell_of_heap hb2]; rfl
  have d1 : w2.cell? ⟨b, 1, none⟩ = some v := by rw [cell_of_heap hb2]; rfl
  have f1 : w2.frozen? ⟨b, 1, none⟩ = false := frozen_of_heap hb2 1
  obtain ⟨ao, n', cap, rfl⟩ : ∃ ao n' cap, v' = .slice ao n' cap := by
    rcases hown'.2 with ⟨hv, _⟩ | ⟨g, cap, cur, fz, hv, _⟩
    · exact ⟨_, _, _, hv⟩
    · exact ⟨_, _, _, hv⟩
  go_wp2
  go_ret2
  refine ⟨rfl, ?_, ?_, (hk1.grown hgrow (ownsRowF_kind hown)).setCell ⟨b, 1, none⟩ rfl _⟩
  · exact BuilderAtF.put (T := 90) (e := 5) hB hb2 (bs' := bs ++ strCells s) (by simpa [strCells_length] using hown') (by decide)
  · exact (hb1.grown hgrow (by have := hb1.size; omega) (fun k hk => (hown.lt k hk).1)).setCell (p := ⟨b, 1, none⟩) hB _

end Go.Proofs.Ytgffmbdbjbhocaa
namespace Go.Proofs.Ytgffmbdbjbhocaa
open Go.RowKit

/-- The four words' cells. -/
def four (a b c d : Int) : Value := .agg #[.int .u64 a, .int .u64 b, .int .u64 c, .int .u64 d]
theorem four_cls (k : Cl) : clsV k = four ((k 0).toNat : Int) ((k 1).toNat : Int) ((k 2).toNat : Int) ((k 3).toNat : Int) := rfl

theorem has_word (y : BitVec 64) (x : Int) (hx0 : 0 ≤ x) : (bits BinOp.and IntKind.u64 ((y.toNat : Int) / 2 ^ (x % 64).toNat) 1 == 1) = y.getLsbD (x.toNat % 64) := by
  have e1 : ((y.toNat : Int) / 2 ^ (x % 64).toNat) = ((y >>> (x.toNat % 64)).toNat : Int) := by
    rw [BitVec.toNat_ushiftRight, Nat.shiftRight_eq_div_pow, show (x % 64).toNat = x.toNat % 64 by omega]
    simp
  have e2 : (1 : Int) = ((1#64).toNat : Int) := rfl
  rw [e1, e2, and_wd]
  rw [← BitVec.testBit_toNat, Nat.testBit_eq_decide_div_mod_eq, BitVec.toNat_and, BitVec.toNat_ushiftRight, Nat.shiftRight_eq_div_pow]
  rw [show (1#64).toNat = 1 from rfl, Nat.and_one_is_mod]
  have e : ∀ n : Nat, ((n : Int) == ((1 : Nat) : Int)) = decide (n = 1) := fun n => by
    rw [Bool.eq_iff_iff]
    simp
    omega
  rw [e]
set_option maxHeartbeats 400000 in
set_option maxRecDepth 20000 in
theorem has_any (k : Cl) (x : Int) (w : World) (hx0 : 0 ≤ x) (hx1 : x ≤ 255) :
    Calls Try.prog 150 #[clsV k, .int .u8 x] w fun e w' => e = .returned (.bool (has k x.toNat)) ∧ Below w.heap.size w w' := by
  obtain ⟨q, hq⟩ : ∃ q, q = x / 64 := ⟨_, rfl⟩
  have hq4 : q = 0 ∨ q = 1 ∨ q = 2 ∨ q = 3 := by omega
  obtain ⟨r, hr⟩ : ∃ r : Bool, r = has k x.toNat := ⟨_, rfl⟩
  have HR := Lib.hid hr
  rw [← hr]
  unfold clsV clsA wd
  rcases hq4 with h | h | h | h
  all_goals
    rw [h] at hq
    have hq' := hq.symm
    have hn : x.toNat / 64 = q.toNat := by omega
    rw [h] at hn
    have HN := Lib.hid hn
    clear hq hn hr
    go_enter Try.func150, Try.ntmps150
    go_wp2
    go_ret
    refine ⟨?_, (Below.refl _ w).alloc (Nat.le_refl _) _⟩
    rw [HR.out]
    show Ending.returned (.bool _) = Ending.returned (.bool _)
    rw [has_word _ _ hx0]
    unfold has
    rw [HN.out]
    rfl

theorem ret_four {a b c d a' b' c' d' : Int} (h1 : a = a') (h2 : b = b') (h3 : c = c') (h4 : d = d') :
    Ending.returned (.agg #[.int .u64 a, .int .u64 b, .int .u64 c, .int .u64 d]) = Ending.returned (.agg #[.int .u64 a', .int .u64 b', .int .u64 c', .int .u64 d']) := by rw [h1, h2, h3, h4]
end Go.Proofs.Ytgffmbdbjbhocaa
namespace Go.Proofs.Ytgffmbdbjbhocaa
open Go.RowKit

/-- A block of four cells written over. -/
theorem set_four {w : World} {g : Nat} {t : TypeId} {p q r s : Value} (a b c d : Value) (h : w.heap[g]? = some (.cells #[p, q, r, s] t (0, 0))) :
    ((((w.setCell ⟨g, 0, none⟩ a).setCell ⟨g, 1, none⟩ b).setCell ⟨g, 2, none⟩ c).setCell ⟨g, 3, none⟩ d).heap[g]? = some (.cells #[a, b, c, d] t (0, 0)) := by
  have h1 := heap_setCell_same w g 0 _ _ a h
  have h2 := heap_setCell_same _ g 1 _ _ b h1
  have h3 := heap_setCell_same _ g 2 _ _ c h2
  exact heap_setCell_same _ g 3 _ _ d h3
theorem below_four {B g : Nat} {a w : World} (h : Below B a w) (hB : B ≤ g) (p q r s : Value) : Below B a ((((w.setCell ⟨g, 0, none⟩ p).setCell ⟨g, 1, none⟩ q).setCell ⟨g, 2, none⟩ r).setCell ⟨g, 3, none⟩ s) :=
  (((h.setCell (p := ⟨g, 0, none⟩) hB _).setCell (p := ⟨g, 1, none⟩) hB _).setCell (p := ⟨g, 2, none⟩) hB _).setCell (p := ⟨g, 3, none⟩) hB _
theorem Try.infoCls : (Try.prog.info? 54).map (·.size) = some 4 := by kernel_rfl

theorem res_four {w : World} {g : Nat} {t : TypeId} {p q r s : Value} (h : w.heap[g]? = some (.cells #[p, q, r, s] t (0, 0))) :
    (w.cell? ⟨g, 0, none⟩ = some p ∧ w.cell? ⟨g, 1, none⟩ = some q ∧ w.cell? ⟨g, 2, none⟩ = some r ∧ w.cell? ⟨g, 3, none⟩ = some s) ∧
    (w.frozen? ⟨g, 0, none⟩ = false ∧ w.frozen? ⟨g, 1, none⟩ = false ∧ w.frozen? ⟨g, 2, none⟩ = false ∧ w.frozen? ⟨g, 3, none⟩ = false) :=
  ⟨⟨cell_of_row w g 0 _ _ _ h, cell_of_row w g 1 _ _ _ h, cell_of_row w g 2 _ _ _ h, cell_of_row w g 3 _ _ _ h⟩,
    frozen_of_row w g 0 _ _ h, frozen_of_row w g 1 _ _ h, frozen_of_row w g 2 _ _ h, frozen_of_row w g 3 _ _ h⟩
end Go.Proofs.Ytgffmbdbjbhocaa
namespace Go.Proofs.Ytgffmbdbjbhocaa
open Go.RowKit Go.Lib

theorem Try.infoRe : (Try.prog.info? 56).map (fun i => (i.zero, i.size, i.bytes)) = some (some (.agg #[.int .i64 0, .int .u64 0, .int .u64 0, .int .u64 0, .int .u64 0, .int .i64 0, .int .i64 0]), 7, 56) := by kernel_rfl
theorem cells_seven (w : World) (t : TypeId) (p q r s u v z : Value) : ∀ j x, [p, q, r, s, u, v, z][j]? = some x → (w.alloc (.cells #[p, q, r, s, u, v, z] t)).cell? ((⟨w.heap.size, 0, none⟩ : Addr).add j) = some x := by
  intro j x hj
  have h := heap_alloc_new w (.cells #[p, q, r, s, u, v, z] t)
  have e : (⟨w.heap.size, 0, none⟩ : Addr).add j = ⟨w.heap.size, j, none⟩ := by simp [Addr.add]; intro h; exact h.symm
  rw [e, cell_of_heap h]
  simpa using hj
theorem own_block_lt {w : World} {B g n size : Nat} {e : TypeId} {v : Value} {xs : List Value} (h : w.ownsRow B e size v n xs) (hg : v.ownBlock = some g) : g < w.heap.size := by
  rcases h.2 with ⟨rfl, _⟩ | ⟨g', _, _, rfl, _, hh, _⟩
  · cases hg
  · cases hg; exact block_lt hh
theorem owns_same {w w' : World} {base n size : Nat} {e : TypeId} {v : Value} {xs : List Value} (h : w.ownsRow base e size v n xs) (hb : ∀ g, v.ownBlock = some g → w'.heap[g]? = w.heap[g]?) : w'.ownsRow base e size v n xs := by
  obtain ⟨h1, h2⟩ := h
  refine ⟨h1, ?_⟩
  rcases h2 with h2 | ⟨g, cap, cur, hv, hg, hh, r⟩
  · exact .inl h2
  · exact .inr ⟨g, cap, cur, hv, hg, (hb g (by rw [hv]; rfl)).trans hh, r⟩
theorem owned_slice {w : World} {B n size : Nat} {e : TypeId} {v : Value} {xs : List Value} (h : w.ownsRow B e size v n xs) (hn : 1 ≤ n) : ∃ g cap, v = .slice (some ⟨g, 0, none⟩) n cap := by
  rcases h.2 with ⟨_, h0⟩ | ⟨g, cap, cur, hv, _⟩
  · omega
  · exact ⟨g, cap, hv⟩
end Go.Proofs.Ytgffmbdbjbhocaa
namespace Go.Proofs.Ytgffmbdbjbhocaa
open Go.RowKit Go.Lib

def kidsN (k : Int) : Int := if k = 0 ∨ k = 1 ∨ k = 7 ∨ k = 8 then 0 else if k = 4 ∨ k = 5 ∨ k = 6 then 1 else if k = 2 ∨ k = 3 then 2 else -1
/-- The cells of a node, one by one. -/
def NdAt (b o : Nat) (n : Nd) (w : World) : Prop :=
  w.cell? ⟨b, o, none⟩ = some (.int .i64 n.k) ∧ w.cell? ⟨b, o + 1, none⟩ = some (wd n.s.a) ∧ w.cell? ⟨b, o + 2, none⟩ = some (wd n.s.b) ∧ w.cell? ⟨b, o + 3, none⟩ = some (wd n.s.c) ∧ w.cell? ⟨b, o + 4, none⟩ = some (wd n.s.d) ∧ w.cell? ⟨b, o + 5, none⟩ = some (.int .i64 n.x) ∧ w.cell? ⟨b, o + 6, none⟩ = some (.int .i64 n.y)
/-- A row of nodes that can be read. -/
def Lies (v : Value) (ts : List Nd) (w : World) : Prop :=
  ∃ ao cap, v = .slice ao ts.length cap ∧ ts.length ≤ 140737488355328 ∧ ∀ (j : Nat) (n : Nd), ts[j]? = some n → ∃ b o, ao = some ⟨b, o, none⟩ ∧ b < w.heap.size ∧ NdAt b (o + j * 7) n w
theorem Lies.below {v : Value} {ts : List Nd} {w w' : World} (h : Lies v ts w) (hb : Below w.heap.size w w') : Lies v ts w' := by
  obtain ⟨ao, cap, h1, hl, h2⟩ := h
  refine ⟨ao, cap, h1, hl, fun j n hj => ?_⟩
  obtain ⟨b, o, h3, h4, h5⟩ := h2 j n hj
  refine ⟨b, o, h3, Nat.lt_of_lt_of_le h4 hb.size, ?_⟩
  have e : ∀ i, w'.cell? ⟨b, i, none⟩ = w.cell? ⟨b, i, none⟩ := fun i => by unfold World.cell?; rw [hb.block b h4]
  unfold NdAt
  rw [e, e, e, e, e, e, e]
  exact h5
theorem NdAt.below {b o : Nat} {n : Nd} {w w' : World} {B : Nat} (h : NdAt b o n w) (hb : Below B w w') (hlt : b < B) : NdAt b o n w' := by
  have e : ∀ i, w'.cell? ⟨b, i, none⟩ = w.cell? ⟨b, i, none⟩ := fun i => by unfold World.cell?; rw [hb.block b hlt]
  unfold NdAt
  rw [e, e, e, e, e, e, e]
  exact h
theorem Lies.at {ao : Option Addr} {N cap : Nat} {ts : List Nd} {w : World} (h : Lies (.slice ao N cap) ts w) {j : Nat} {n : Nd} (hj : ts[j]? = some n) : ∃ b o, ao = some ⟨b, o, none⟩ ∧ b < w.heap.size ∧ NdAt b (o + j * 7) n w := by
  obtain ⟨_, _, h1, _, h2⟩ := h
  cases h1
  exact h2 j n hj
theorem ndC_get : ∀ (ts : List Nd) (j i : Nat) (n : Nd), ts[j]? = some n → i < 7 → (ndC ts)[j * 7 + i]? = n.cells[i]?
  | [], j, i, n, h, _ => by simp at h
  | t :: ts, 0, i, n, h, hi => by
    simp at h
    subst h
    show (t.cells ++ ndC ts)[0 * 7 + i]? = _
    rw [List.getElem?_append_left (by show 0 * 7 + i < 7; omega)]
    congr 1
    omega
  | t :: ts, j + 1, i, n, h, hi => by
    have h : ts[j]? = some n := by simpa using h
    show (t.cells ++ ndC ts)[(j + 1) * 7 + i]? = _
    rw [List.getElem?_append_right (by show 7 ≤ _; omega)]
    have e : (j + 1) * 7 + i - t.cells.length = j * 7 + i := by show (j + 1) * 7 + i - 7 = _; omega
    rw [e, ndC_get ts j i n h hi]
end Go.Proofs.Ytgffmbdbjbhocaa
namespace Go.Proofs.Ytgffmbdbjbhocaa
open Go.RowKit

/-- The blocks of K lie in both worlds alike. -/
def Same (K : Nat → Prop) (W W' : World) : Prop := ∀ j, K j → W'.heap[j]? = W.heap[j]?
theorem Same.refl (K : Nat → Prop) (W : World) : Same K W W := fun _ _ => rfl
theorem Same.trans {K : Nat → Prop} {A B C : World} (h : Same K A B) (k : Same K B C) : Same K A C := fun j hj => (k j hj).trans (h j hj)
theorem Same.mono {K K' : Nat → Prop} {A B : World} (h : Same K A B) (hk : ∀ j, K' j → K j) : Same K' A B := fun j hj => h j (hk j hj)

/-- What abides the heap's growth, the turn of a box among the c blocks from B on, and that of a block from B on that holds no cells. -/
def OwnC {β : Type} (B c : Nat) (I : β → World → Prop) : Prop :=
  ∀ s W W' row, I s W → W.grownBy W' row → (∀ r, row = some r → B ≤ r ∧ ((r < B + c ∧ ∃ x t, W.heap[r]? = some (.cells #[x] t (0, 0))) ∨ ∃ o : Obj, W.heap[r]? = some o ∧ o.isCells = false)) → I s W'
theorem OwnC.grow {β : Type} {B c : Nat} {I : β → World → Prop} (h : OwnC B c I) {s : β} {W W' : World} (hs : I s W) (hg : W.grownBy W' none) : I s W' := h s W W' none hs hg (fun _ e => by cases e)

theorem putObj_grown (W : World) (l : Nat) (o : Obj) : W.grownBy (W.putObj l o) (some l) := grownBy_putObj' W l o

end Go.Proofs.Ytgffmbdbjbhocaa
namespace Go.Proofs.Ytgffmbdbjbhocaa
open Go.RowKit
attribute [local go_sem] Oper.semAt_some

theorem grown_of_below {w w' : World} (h : Below w.heap.size w w') (row : Option Nat) : w.grownBy w' row := ⟨h.os, h.tape, h.output, h.size, fun k hk _ => h.block k hk⟩
theorem has_nat (k : Cl) (m : Nat) (w : World) (hm : m < 256) (b : Bool) (hb : has k m = b) :
    Calls Try.prog 150 #[clsV k, .int .u8 (m : Int)] w fun e w' => e = .returned (.bool b) ∧ Below w.heap.size w w' := by
  have h := has_any k (m : Int) w (by omega) (by omega)
  rwa [Int.toNat_natCast, hb] at h

end Go.Proofs.Ytgffmbdbjbhocaa
namespace Go.Proofs.Ytgffmbdbjbhocaa
open Go.RowKit
attribute [local go_sem] Oper.semAt_some

theorem ne_int {x y : UInt8} (h : x ≠ y) : ((x.toNat : Int) == (y.toNat : Int)) = false := by
  rw [beq_eq_false_iff_ne]
  intro e
  apply h
  apply UInt8.toNat_inj.1
  omega
end Go.Proofs.Ytgffmbdbjbhocaa
namespace Go.Proofs.Ytgffmbdbjbhocaa
open Go.RowKit Go.Lib

def nameOk (k : Nat) (c : UInt8) : Bool := isLet c || decide (0 < k) && isFig c
def restOk (c : UInt8) : Bool := isLet c || isFig c
def namePre : List UInt8 → Bool
  | [] => true
  | c :: r => isLet c && r.all restOk
def isNameB (l : List UInt8) : Bool := !l.isEmpty && namePre l

theorem namePre_snoc (l : List UInt8) (c : UInt8) : namePre (l ++ [c]) = (namePre l && nameOk l.length c) := by
  cases l with
  | nil => simp [namePre, nameOk]
  | cons d r => simp [namePre, nameOk, restOk, Bool.and_assoc]
theorem namePre_append (a b : List UInt8) (h : namePre a = false) : namePre (a ++ b) = false := by
  cases a with
  | nil => simp [namePre] at h
  | cons d r =>
    simp only [namePre, List.cons_append, List.all_append] at h ⊢
    cases h1 : isLet d <;> cases h2 : r.all restOk <;> simp_all
theorem namePre_take (s : ByteArray) (k : Nat) (h : k < s.size) : namePre (s.data.toList.take (k + 1)) = (namePre (s.data.toList.take k) && nameOk k s[k]) := by
  rw [take_snoc s k h, namePre_snoc]
  rw [List.length_take, Nat.min_eq_left (by simp; omega)]
theorem namePre_no (s : ByteArray) (k : Nat) (h : namePre (s.data.toList.take k) = false) : isNameB s.data.toList = false := by
  have := namePre_append _ (s.data.toList.drop k) h
  rw [List.take_append_drop] at this
  simp [isNameB, this]

set_option maxHeartbeats 400000 in
theorem isNameFits_any (s : ByteArray) (k : Nat) (b : Nat) (w : World) (hk : k < s.size) (_hs : s.size ≤ maxLen) (hc : w.cell? ⟨b, 0, none⟩ = some (.string s)) :
    Calls Try.prog 154 #[.int .i64 (k : Int), .pointer (some ⟨b, 0, none⟩)] w fun e w' => e = .returned (.bool (nameOk k s[k])) ∧ w = w' := by
  unfold maxLen at _hs
  obtain ⟨c, hcc⟩ : ∃ c, s[k] = c := ⟨_, rfl⟩
  rw [hcc]
  cases hl : isLet c <;> cases hf : isFig c <;> by_cases h0 : 0 < k
  all_goals
    have HL := Lib.hid hl
    have HF := Lib.hid hf
    go_enter Try.func154, Try.ntmps154
    go_wp2_with (first | (go_at_call 155; refine (isLetter_any _ _).mono ?_; rintro e w' ⟨rfl, rfl⟩) | (go_at_call 156; refine (isFigure_any _ _).mono ?_; rintro e w' ⟨rfl, rfl⟩))
    go_ret
    refine ⟨ret_bool ?_, rfl⟩
    simp [nameOk, HL.out, HF.out, h0]

set_option maxHeartbeats 400000 in
theorem isName_any (s : ByteArray) (w : World) (hs : s.size ≤ 70000000000000) :
    Calls Try.prog 138 #[.string s] w fun e w' => e = .returned (.bool (isNameB s.data.toList)) ∧ Below w.heap.size w w' := by
  have hcl : (w.alloc (.cells #[.string s] 9)).cell? ⟨w.heap.size, 0, none⟩ = some (.string s) := by simp
  go_enter Try.func138, Try.ntmps138
  go_wp2
  go_loop [8] (fun i => ∃ k : Nat, k ≤ s.size ∧ i = .int .i64 k ∧ namePre (s.data.toList.take k) = true) (fun i => s.size - (RowKit.intOf i).toNat)
  case atStart => exact ⟨0, Nat.zero_le _, rfl, rfl⟩
  case round =>
    obtain ⟨k, hk, rfl, hpre⟩ := hrel
    have HP := Lib.hid hpre
    clear hpre
    by_cases hlt : k < s.size
    · have hsn := Lib.hid (namePre_take s k hlt)
      have hfit := isNameFits_any s k w.heap.size (w.alloc (.cells #[.string s] 9)) hlt (by unfold maxLen; omega) hcl
      cases hn : nameOk k s[k]
      · rw [hn] at hfit
        have HN := Lib.hid hn
        clear hn
        go_wp2_with (go_at_call 154; refine hfit.mono ?_; rintro e w' ⟨rfl, rfl⟩)
        go_ret
        refine ⟨ret_bool ?_, (Below.refl _ _).alloc (Nat.le_refl _) _⟩
        rw [namePre_no s (k + 1) (by rw [hsn.out, HN.out]; simp)]
      · rw [hn] at hfit
        have HN := Lib.hid hn
        clear hn
        go_wp2_with (go_at_call 154; refine hfit.mono ?_; rintro e w' ⟨rfl, rfl⟩)
        go_round
        case rel => exact ⟨k + 1, by omega, by go_num, by rw [hsn.out, HN.out, HP.out]; rfl⟩
        case measure => simp [RowKit.intOf]; omega
    · have hall : s.data.toList.take k = s.data.toList := List.take_of_length_le (by simp; omega)
      have HA := Lib.hid hall
      clear hall
      go_wp2
      all_goals
        go_ret
        refine ⟨ret_bool ?_, (Below.refl _ _).alloc (Nat.le_refl _) _⟩
        have := HP.out
        rw [HA.out] at this
        simp [isNameB, this, ByteArray.toList_eq]
end Go.Proofs.Ytgffmbdbjbhocaa
namespace Go.Proofs.Ytgffmbdbjbhocaa
open Go.RowKit Go.Lib

/-- How a byte is written: plainly, or by its number. -/
def plainL (c : UInt8) : List UInt8 := if c = 32 ∨ restOk c = true then [c] else 92 :: hexT [c]
theorem plain_length (c : UInt8) : 1 ≤ (plainL c).length ∧ (plainL c).length ≤ 4 := by
  unfold plainL
  split
  · simp
  · simp [hexT_length]
theorem name_one (c : UInt8) : isNameB [95, c] = restOk c := by
  show (true && (isLet 95 && ([c].all restOk))) = restOk c
  have h : isLet 95 = true := by decide
  rw [h]
  simp

set_option maxHeartbeats 400000 in
theorem plain_walk (c : UInt8) (b : Bool) (T : ByteArray) (w : World) (hT : T.size ≤ 3) (hb : ((c.toNat : Int) == 32) = b) (nb : Bool)
    (k1 : ∀ w, Calls Try.prog 138 #[.string ⟨#[95, c]⟩] w fun e w' => e = .returned (.bool nb) ∧ Below w.heap.size w w')
    (k2 : ∀ w, Calls Try.prog 139 #[.string ⟨[c].toArray⟩] w fun e w' => e = .returned (.string T) ∧ Below w.heap.size w w') :
    Calls Try.prog 113 #[.int .u8 (c.toNat : Int)] w fun e w' => e = .returned (.string (if b = true ∨ nb = true then ⟨[c].toArray⟩ else ⟨#[92]⟩ ++ T)) ∧ Below w.heap.size w w' := by
  obtain ⟨R, hR⟩ : ∃ R : ByteArray, R = (if b = true ∨ nb = true then ⟨[c].toArray⟩ else ⟨#[92]⟩ ++ T) := ⟨_, rfl⟩
  rw [← hR]
  have HR := Lib.hid hR
  clear hR
  have kc := fun w => conv_new1 (P := Try.prog) 88 9 5 Try.underlying88 Try.underlying5 Try.underlying9 w (c.toNat : Int) c rfl
  go_enter Try.func113, Try.ntmps113
  go_wp2_with (first
    | (go_at_call 138; refine (k1 _).mono ?_; rintro e w1 ⟨rfl, hb1⟩)
    | (go_at_call 139; refine (k2 _).mono ?_; rintro e w2 ⟨rfl, hb2⟩))
  · rename_i h
    go_ret
    exact ⟨by rw [HR.out, if_pos (.inl h)]; rfl, (Below.refl _ w).alloc (Nat.le_refl _) _⟩
  · rename_i h
    go_ret
    exact ⟨by rw [HR.out, if_pos (.inr h)]; rfl, (((Below.refl _ w).alloc (Nat.le_refl _) _).trans (hb1.mono (by simp)))⟩
  · go_ret
    refine ⟨?_, (((Below.refl _ w).alloc (Nat.le_refl _) _).trans (hb1.mono (by simp))).trans (hb2.mono (by have := hb1.size; simp at this; omega))⟩
    rw [HR.out, if_neg (by intro h; rcases h with h | h <;> simp_all)]
    rfl
theorem plain_any (c : UInt8) (w : World) : Calls Try.prog 113 #[.int .u8 (c.toNat : Int)] w fun e w' => e = .returned (.string ⟨(plainL c).toArray⟩) ∧ Below w.heap.size w w' := by
  have k1 : ∀ w, Calls Try.prog 138 #[.string ⟨#[95, c]⟩] w fun e w' => e = .returned (.bool (restOk c)) ∧ Below w.heap.size w w' := fun w => by
    have h := isName_any ⟨#[95, c]⟩ w (by show 2 ≤ _; decide)
    rwa [show isNameB (⟨#[95, c]⟩ : ByteArray).data.toList = restOk c from name_one c] at h
  have k2 := fun w => hex_any ⟨[c].toArray⟩ w (by show 1 ≤ _; decide)
  refine (plain_walk c _ _ w (by show (hexT [c]).length ≤ 3; rw [hexT_length]; simp) rfl _ k1 k2).mono fun e w' h => ⟨h.1.trans ?_, h.2⟩
  congr 2
  unfold plainL
  have e32 : (((c.toNat : Int) == 32) = true) = (c = 32) := by
    apply propext
    rw [beq_iff_eq]
    constructor
    · intro h
      apply UInt8.toNat_inj.1
      show c.toNat = 32
      omega
    · intro h; rw [h]; rfl
  by_cases h : c = 32 ∨ restOk c = true
  · rw [if_pos (h.imp_left e32.mpr), if_pos h]
  · rw [if_neg (fun h2 => h (h2.imp_left e32.mp)), if_neg h]
    rfl
end Go.Proofs.Ytgffmbdbjbhocaa
namespace Go.Proofs.Ytgffmbdbjbhocaa
open Go.RowKit Go.Lib

/-- The bytes that have a meaning between brackets; those, and the ones of a regular expression. -/
def heldL : List UInt8 := [92, 93, 91, 94, 45]
def namedL : List UInt8 := [92, 93, 91, 94, 45, 47, 46, 42, 43, 63, 40, 41, 124, 123, 125, 36]
/-- The byte of two digits that a text begins with. -/
def toldD : List UInt8 → Option (Int × Int)
  | h :: k :: _ => if digN h < 0 ∨ digN k < 0 then none else some ((16 : Int) * digN h + digN k, 4)
  | _ => none
/-- The sign that a text begins with: its byte, and how many bytes it has. -/
def signD : List UInt8 → Option (Int × Int)
  | [] => none
  | c :: r =>
    if c = 92 then
      match r with
      | [] => none
      | d :: t => if d = 120 then toldD t else if namedL.contains d then some ((d.toNat : Int), 2) else none
    else if c = 10 ∨ heldL.contains c = true then none else some ((c.toNat : Int), 1)
def signE : Option (Int × Int) → Ending
  | none => .returned (.tuple #[.int .u8 0, .int .i64 0, .int .i64 2])
  | some (c, n) => .returned (.tuple #[.int .u8 c, .int .i64 n, .int .i64 0])

theorem contains_index (l : List UInt8) (c : UInt8) : decide (0 ≤ indexByte l c) = l.contains c := by
  rw [Bool.eq_iff_iff]
  simp only [decide_eq_true_eq, List.contains_iff_mem]
  constructor
  · intro h
    obtain ⟨o, ho⟩ := Int.eq_ofNat_of_zero_le h
    exact List.mem_of_getElem? (indexByte_some ho).1
  · intro h
    obtain ⟨k, hk⟩ := List.mem_iff_getElem?.1 h
    have hg := indexByte_ge l c
    by_cases hn : indexByte l c = -1
    · exact absurd hk (indexByte_none hn k)
    · omega
theorem u8_back (c : UInt8) : (c.toNat : Int).toNat.toUInt8 = c := by simp
theorem among_any (s : ByteArray) (c : UInt8) (w : World) :
    Calls Try.prog 137 #[.string s, .int .u8 (c.toNat : Int)] w fun e w' => e = .returned (.bool (s.data.toList.contains c)) ∧ w = w' := by
  have k : ∀ w, Calls Try.prog 153 #[.string s, .int .u8 (c.toNat : Int)] w fun e w' => e = .returned (.int .i64 (indexByte s.data.toList c)) ∧ w' = w := fun w => by
    have := Try.strings_IndexByte s (c.toNat : Int) w
    rwa [u8_back] at this
  have hg := contains_index s.data.toList c
  obtain ⟨b, hb⟩ : ∃ b, b = s.data.toList.contains c := ⟨_, rfl⟩
  obtain ⟨i, hi⟩ : ∃ i, i = indexByte s.data.toList c := ⟨_, rfl⟩
  rw [← hi] at k hg
  rw [← hb] at hg ⊢
  clear hb hi
  go_enter Try.func137, Try.ntmps137
  go_wp2_with (go_at_call 153; refine (k _).mono ?_; rintro e w1 ⟨rfl, rfl⟩)
  go_ret
  exact ⟨by rw [← hg]; rfl, rfl⟩

theorem or_digits : ∀ p q : Fin 16, bits BinOp.or IntKind.i64 ((p.val : Int) * 16) (q.val : Int) = 16 * (p.val : Int) + (q.val : Int) := by decide +kernel
theorem digN_ge (c : UInt8) : -1 ≤ digN c ∧ digN c ≤ 15 := by
  unfold digN
  split
  · omega
  · split
    · omega
    · split <;> omega

set_option maxHeartbeats 1000000 in
theorem told_any (s : ByteArray) (w : World) :
    Calls Try.prog 136 #[.string s] w fun e w' => e = signE (toldD s.data.toList) ∧ Below w.heap.size w w' := by
  obtain ⟨E, hE⟩ : ∃ E, E = signE (toldD s.data.toList) := ⟨_, rfl⟩
  rw [← hE]
  by_cases h2 : s.size < 2
  · have hn : E = .returned (.tuple #[.int .u8 0, .int .i64 0, .int .i64 2]) := by
      rw [hE]
      have hl : s.data.toList.length < 2 := by rw [Array.length_toList]; exact h2
      match h : s.data.toList, hl with
      | [], _ => rfl
      | [_], _ => rfl
      | _ :: _ :: _, hl => simp at hl; omega
    rw [hn]
    go_enter Try.func136, Try.ntmps136
    go_wp2
    exact bodyPost_ret (results_tmp3 rfl _ _ _) rfl ⟨rfl, Below.refl _ _⟩
  · have h2' : 2 ≤ s.size := by omega
    have h1' : 1 < s.size := by omega
    have h0' : 0 < s.size := by omega
    have hl : s.data.toList = s[0] :: s[1] :: s.data.toList.drop 2 := by
      have hlen : s.data.toList.length = s.size := Array.length_toList ..
      have e0 : s.data.toList[0]'(by omega) = s[0] := rfl
      have e1 : s.data.toList[1]'(by omega) = s[1] := rfl
      rw [← e0, ← e1, List.getElem_cons_drop, List.getElem_cons_drop, List.drop_zero]
    have hE2 : E = signE (if digN s[0] < 0 ∨ digN s[1] < 0 then none else some ((16 : Int) * digN s[0] + digN s[1], 4)) := by rw [hE, hl]; rfl
    obtain ⟨a, ha⟩ : ∃ a, s[0] = a := ⟨_, rfl⟩
    obtain ⟨b, hb⟩ : ∃ b, s[1] = b := ⟨_, rfl⟩
    rw [ha, hb] at hE2
    have c1 := fun w => (digit_any a w).mono (fun e w' h => (⟨h.1, h.2.symm⟩ : e = .returned (.int .i64 (digN a)) ∧ w' = w))
    have c2 := fun w => (digit_any b w).mono (fun e w' h => (⟨h.1, h.2.symm⟩ : e = .returned (.int .i64 (digN b)) ∧ w' = w))
    have b1 := digN_ge a
    have b2 := digN_ge b
    obtain ⟨p, hp⟩ : ∃ p, digN a = p := ⟨_, rfl⟩
    obtain ⟨q, hq⟩ : ∃ q, digN b = q := ⟨_, rfl⟩
    rw [hp] at c1 b1 hE2
    rw [hq] at c2 b2 hE2
    clear hp hq hl hE h2
    have HE := Lib.hid hE2
    clear hE2
    by_cases hp : p < 0 ∨ q < 0
    · have hE : E = signE none := by rw [HE.out, if_pos hp]
      rw [hE]
      have hor : (decide (p < 0) || decide (q < 0)) = true := by simpa using hp
      go_enter Try.func136, Try.ntmps136
      go_wp2
      go_quiet ((go_at_call 152; first | with_reducible exact Calls.quiet_of_same (c1 _) | with_reducible exact Calls.quiet_of_same (c2 _)))
      go_wp2
      all_goals exact bodyPost_ret (results_tmp3 rfl _ _ _) rfl ⟨rfl, below_draws (Below.refl _ w) _⟩
    · have hE : E = signE (some ((16 : Int) * p + q, 4)) := by rw [HE.out, if_neg hp]
      rw [hE]
      have hp0 : 0 ≤ p := by omega
      have hq0 : 0 ≤ q := by omega
      go_enter Try.func136, Try.ntmps136
      go_wp2
      go_quiet ((go_at_call 152; first | with_reducible exact Calls.quiet_of_same (c1 _) | with_reducible exact Calls.quiet_of_same (c2 _)))
      go_wp2
      refine bodyPost_ret (results_tmp3 rfl _ _ _) rfl ⟨?_, below_draws (Below.refl _ w) _⟩
      have e := or_digits ⟨p.toNat, by omega⟩ ⟨q.toNat, by omega⟩
      simp only [Int.toNat_of_nonneg hp0, Int.toNat_of_nonneg hq0] at e
      show Ending.returned (.tuple #[.int .u8 (bits BinOp.or IntKind.i64 (p * 16) q % 256), .int .i64 4, .int .i64 0]) = _
      rw [e, Int.emod_eq_of_lt (by omega) (by omega)]
      rfl

theorem u8_of_int {x : UInt8} (h : (x.toNat : Int) = 10) : x = 10 := by
  apply UInt8.toNat_inj.1
  show x.toNat = 10
  omega
theorem cut_hit (c : UInt8) (r : List UInt8) (p : UInt8) (s : ByteArray) (hs : s.data.toList = c :: r) (hc : c = p) (w : World) :
    Calls Try.prog 135 #[.string s, .string ⟨#[p]⟩] w fun e w' => e = .returned (.tuple #[.string ⟨r.toArray⟩, .bool true]) ∧ w' = w := by
  have h := Try.strings_CutPrefix s ⟨#[p]⟩ w
  have e1 : hasPrefix (c :: r) [p] = true := by simp [hasPrefix, hc]
  have e2 : trimPrefix (c :: r) [p] = r := by unfold trimPrefix; rw [e1]; rfl
  rw [hs] at h
  rwa [show (⟨#[p]⟩ : ByteArray).data.toList = [p] from rfl, e1, e2] at h
theorem cut_miss (l : List UInt8) (p : UInt8) (s : ByteArray) (hs : s.data.toList = l) (hc : l.head? ≠ some p) (w : World) :
    Calls Try.prog 135 #[.string s, .string ⟨#[p]⟩] w fun e w' => e = .returned (.tuple #[.string s, .bool false]) ∧ w' = w := by
  have h := Try.strings_CutPrefix s ⟨#[p]⟩ w
  have e1 : hasPrefix s.data.toList [p] = false := by
    rw [hs]
    cases l with
    | nil => rfl
    | cons c r =>
      have : c ≠ p := by simpa using hc
      show (p == c && ([] : List UInt8).isPrefixOf r) = false
      rw [show (p == c) = false by rw [beq_eq_false_iff_ne]; exact Ne.symm this]
      rfl
  have e2 : trimPrefix s.data.toList [p] = s.data.toList := by unfold trimPrefix; rw [e1]; rfl
  rwa [show (⟨#[p]⟩ : ByteArray).data.toList = [p] from rfl, e1, e2] at h

set_option maxHeartbeats 1000000 in
/-- A text that does not begin with a backslash. -/
theorem sign_plain (s t2 : ByteArray) (b2 : Bool) (w : World)
    (k1 : ∀ w, Calls Try.prog 135 #[.string s, .string ⟨#[92]⟩] w fun e w' => e = .returned (.tuple #[.string s, .bool false]) ∧ w' = w)
    (k2 : ∀ w, Calls Try.prog 135 #[.string s, .string ⟨#[120]⟩] w fun e w' => e = .returned (.tuple #[.string t2, .bool b2]) ∧ w' = w)
    (he : s.toList.isEmpty = false) (hs : 0 < s.size) (x : UInt8) (hx : s[0] = x) (a : Bool) (k3 : ∀ w, Calls Try.prog 137 #[.string ⟨#[92, 93, 91, 94, 45]⟩, .int .u8 (x.toNat : Int)] w fun e w' => e = .returned (.bool a) ∧ w = w') :
    Calls Try.prog 111 #[.string s] w fun e w' => e = signE (if x = 10 ∨ a = true then none else some ((x.toNat : Int), 1)) ∧ Below w.heap.size w w' := by
  obtain ⟨E, hE⟩ : ∃ E, E = signE (if x = 10 ∨ a = true then none else some ((x.toNat : Int), 1)) := ⟨_, rfl⟩
  rw [← hE]
  have HE := Lib.hid hE
  clear hE
  go_enter Try.func111, Try.ntmps111
  go_wp2_with (first
    | (go_at_call 135; first
        | (with_reducible refine (k1 _).mono ?_; rintro e w1 ⟨rfl, rfl⟩)
        | (with_reducible refine (k2 _).mono ?_; rintro e w1 ⟨rfl, rfl⟩))
    | (go_at_call 137; with_reducible refine (k3 _).mono ?_; rintro e w1 ⟨rfl, rfl⟩))
  all_goals refine bodyPost_ret (results_tmp3 rfl _ _ _) rfl ⟨?_, Below.refl _ _⟩
  all_goals rw [HE.out]
  · rename_i h
    rw [if_pos (.inl (u8_of_int h))]
    rfl
  · rename_i h0 h
    rw [if_neg (fun hn => by
      rcases hn with hn | hn
      · rw [hn] at h0; exact h0 rfl
      · rw [hn] at h; exact absurd h.2 (by decide))]
    rfl
  · rename_i h0 h
    rw [if_pos (by
      rcases h with h | h
      · exact .inl (u8_of_int (by simpa using h))
      · exact .inr (by simpa using h))]
    rfl

set_option maxHeartbeats 1000000 in
/-- A text that begins with a backslash and x. -/
theorem sign_told (s t1 t2 : ByteArray) (w : World)
    (k1 : ∀ w, Calls Try.prog 135 #[.string s, .string ⟨#[92]⟩] w fun e w' => e = .returned (.tuple #[.string t1, .bool true]) ∧ w' = w)
    (k2 : ∀ w, Calls Try.prog 135 #[.string t1, .string ⟨#[120]⟩] w fun e w' => e = .returned (.tuple #[.string t2, .bool true]) ∧ w' = w)
    (c n er : Int) (k3 : ∀ w, Calls Try.prog 136 #[.string t2] w fun e w' => e = .returned (.tuple #[.int .u8 c, .int .i64 n, .int .i64 er]) ∧ Below w.heap.size w w') :
    Calls Try.prog 111 #[.string s] w fun e w' => e = .returned (.tuple #[.int .u8 c, .int .i64 n, .int .i64 er]) ∧ Below w.heap.size w w' := by
  go_enter Try.func111, Try.ntmps111
  go_wp2_with (first
    | (go_at_call 135; first
        | (with_reducible refine (k1 _).mono ?_; rintro e w1 ⟨rfl, rfl⟩)
        | (with_reducible refine (k2 _).mono ?_; rintro e w1 ⟨rfl, rfl⟩))
    | (go_at_call 136; with_reducible refine (k3 _).mono ?_; rintro e w1 ⟨rfl, hb⟩))
  exact bodyPost_ret (results_tmp3 rfl _ _ _) rfl ⟨rfl, hb⟩

set_option maxHeartbeats 1000000 in
/-- A backslash alone. -/
theorem sign_alone (s t1 t2 : ByteArray) (w : World)
    (k1 : ∀ w, Calls Try.prog 135 #[.string s, .string ⟨#[92]⟩] w fun e w' => e = .returned (.tuple #[.string t1, .bool true]) ∧ w' = w)
    (k2 : ∀ w, Calls Try.prog 135 #[.string t1, .string ⟨#[120]⟩] w fun e w' => e = .returned (.tuple #[.string t2, .bool false]) ∧ w' = w)
    (ht : t1.toList.isEmpty = true) :
    Calls Try.prog 111 #[.string s] w fun e w' => e = signE none ∧ Below w.heap.size w w' := by
  go_enter Try.func111, Try.ntmps111
  go_wp2_with (first
    | (go_at_call 135; first
        | (with_reducible refine (k1 _).mono ?_; rintro e w1 ⟨rfl, rfl⟩)
        | (with_reducible refine (k2 _).mono ?_; rintro e w1 ⟨rfl, rfl⟩)))
  all_goals exact bodyPost_ret (results_tmp3 rfl _ _ _) rfl ⟨rfl, Below.refl _ _⟩

set_option maxHeartbeats 1000000 in
/-- A backslash with another byte behind it. -/
theorem sign_named (s t1 t2 : ByteArray) (w : World)
    (k1 : ∀ w, Calls Try.prog 135 #[.string s, .string ⟨#[92]⟩] w fun e w' => e = .returned (.tuple #[.string t1, .bool true]) ∧ w' = w)
    (k2 : ∀ w, Calls Try.prog 135 #[.string t1, .string ⟨#[120]⟩] w fun e w' => e = .returned (.tuple #[.string t2, .bool false]) ∧ w' = w)
    (ht : t1.toList.isEmpty = false) (hs : 0 < t1.size) (x : UInt8) (hx : t1[0] = x) (a : Bool)
    (k3 : ∀ w, Calls Try.prog 137 #[.string ⟨#[92, 93, 91, 94, 45, 47, 46, 42, 43, 63, 40, 41, 124, 123, 125, 36]⟩, .int .u8 (x.toNat : Int)] w fun e w' => e = .returned (.bool a) ∧ w = w') :
    Calls Try.prog 111 #[.string s] w fun e w' => e = signE (if a = true then some ((x.toNat : Int), 2) else none) ∧ Below w.heap.size w w' := by
  obtain ⟨E, hE⟩ : ∃ E, E = signE (if a = true then some ((x.toNat : Int), 2) else none) := ⟨_, rfl⟩
  rw [← hE]
  have HE := Lib.hid hE
  clear hE
  cases a
  all_goals
    go_enter Try.func111, Try.ntmps111
    go_wp2_with (first
      | (go_at_call 135; first
          | (with_reducible refine (k1 _).mono ?_; rintro e w1 ⟨rfl, rfl⟩)
          | (with_reducible refine (k2 _).mono ?_; rintro e w1 ⟨rfl, rfl⟩))
      | (go_at_call 137; with_reducible refine (k3 _).mono ?_; rintro e w1 ⟨rfl, rfl⟩))
    all_goals first
      | (rename_i h; rw [h] at ht; cases ht)
      | exact bodyPost_ret (results_tmp3 rfl _ _ _) rfl ⟨by rw [HE.out]; rfl, Below.refl _ _⟩

set_option maxHeartbeats 1000000 in
theorem sign_empty (s : ByteArray) (w : World)
    (k1 : ∀ w, Calls Try.prog 135 #[.string s, .string ⟨#[92]⟩] w fun e w' => e = .returned (.tuple #[.string s, .bool false]) ∧ w' = w)
    (k2 : ∀ w, Calls Try.prog 135 #[.string s, .string ⟨#[120]⟩] w fun e w' => e = .returned (.tuple #[.string s, .bool false]) ∧ w' = w)
    (ht : s.toList.isEmpty = true) :
    Calls Try.prog 111 #[.string s] w fun e w' => e = signE none ∧ Below w.heap.size w w' := by
  go_enter Try.func111, Try.ntmps111
  go_wp2_with (first
    | (go_at_call 135; first
        | (with_reducible refine (k1 _).mono ?_; rintro e w1 ⟨rfl, rfl⟩)
        | (with_reducible refine (k2 _).mono ?_; rintro e w1 ⟨rfl, rfl⟩)))
  all_goals exact bodyPost_ret (results_tmp3 rfl _ _ _) rfl ⟨rfl, Below.refl _ _⟩
theorem mk_list (l : List UInt8) : (⟨l.toArray⟩ : ByteArray).data.toList = l := rfl
theorem size_list {s : ByteArray} {l : List UInt8} (h : s.data.toList = l) : s.size = l.length := by
  rw [← h]; exact Array.length_toList.symm
theorem byte0 {s : ByteArray} {c : UInt8} {r : List UInt8} (h : s.data.toList = c :: r) (hs : 0 < s.size) : s[0] = c := by
  have : s.data.toList[0]? = some s[0] := by rw [List.getElem?_eq_getElem (by rw [Array.length_toList]; exact hs)]; rfl
  rw [h] at this
  exact (Option.some.inj this).symm
theorem byte1 {s : ByteArray} {c d : UInt8} {r : List UInt8} (h : s.data.toList = c :: d :: r) (hs : 1 < s.size) : s[1] = d := by
  have : s.data.toList[1]? = some s[1] := by rw [List.getElem?_eq_getElem (by rw [Array.length_toList]; exact hs)]; rfl
  rw [h] at this
  exact (Option.some.inj this).symm
theorem full (s : ByteArray) {c : UInt8} {r : List UInt8} (h : s.data.toList = c :: r) : s.toList.isEmpty = false := by
  rw [toList_data, h]; rfl
theorem sign_any (s : ByteArray) (w : World) : Calls Try.prog 111 #[.string s] w fun e w' => e = signE (signD s.data.toList) ∧ Below w.heap.size w w' := by
  obtain ⟨l, hl⟩ : ∃ l, s.data.toList = l := ⟨_, rfl⟩
  rw [hl]
  cases l with
  | nil => exact sign_empty s w (cut_miss [] 92 s hl (by simp)) (cut_miss [] 120 s hl (by simp)) (by rw [toList_data, hl]; rfl)
  | cons c r =>
    have hs : 0 < s.size := by rw [size_list hl]; simp
    by_cases hc : c = 92
    · cases r with
      | nil =>
        have h := sign_alone s ⟨([] : List UInt8).toArray⟩ ⟨([] : List UInt8).toArray⟩ w (cut_hit c [] 92 s hl hc) (cut_miss [] 120 _ rfl (by simp)) (by rw [toList_data]; rfl)
        simpa [signD, hc] using h
      | cons d t =>
        by_cases hd : d = 120
        · have e : signD (c :: d :: t) = toldD t := by simp [signD, hc, hd]
          rw [e]
          have k := told_any ⟨t.toArray⟩
          rw [mk_list] at k
          cases hq : toldD t with
          | none =>
            rw [hq] at k
            exact sign_told s ⟨(d :: t).toArray⟩ ⟨t.toArray⟩ w (cut_hit c (d :: t) 92 s hl hc) (cut_hit d t 120 _ rfl hd) 0 0 2 k
          | some p =>
            obtain ⟨x, n⟩ := p
            rw [hq] at k
            exact sign_told s ⟨(d :: t).toArray⟩ ⟨t.toArray⟩ w (cut_hit c (d :: t) 92 s hl hc) (cut_hit d t 120 _ rfl hd) x n 0 k
        · have e : signD (c :: d :: t) = if namedL.contains d = true then some ((d.toNat : Int), 2) else none := by simp only [signD, if_pos hc, if_neg hd]
          rw [e]
          have h := sign_named s ⟨(d :: t).toArray⟩ ⟨(d :: t).toArray⟩ w (cut_hit c (d :: t) 92 s hl hc) (cut_miss (d :: t) 120 _ rfl (by simpa using hd)) (full ⟨(d :: t).toArray⟩ rfl) (by simp [ByteArray.size]) d rfl _ (fun w => among_any _ d w)
          exact h
    · have e : signD (c :: r) = if c = 10 ∨ heldL.contains c = true then none else some ((c.toNat : Int), 1) := by simp only [signD, if_neg hc]
      rw [e]
      by_cases hx : c = 120
      · exact sign_plain s _ _ w (cut_miss (c :: r) 92 s hl (by simpa using hc)) (cut_hit c r 120 s hl hx) (full s hl) hs c (byte0 hl hs) _ (fun w => among_any _ c w)
      · exact sign_plain s _ _ w (cut_miss (c :: r) 92 s hl (by simpa using hc)) (cut_miss (c :: r) 120 s hl (by simpa using hx)) (full s hl) hs c (byte0 hl hs) _ (fun w => among_any _ c w)

set_option maxHeartbeats 1000000 in
theorem refSign_stop (s : ByteArray) (x : Int) (w : World) (hs : 0 < s.size) (hx : (s[0].toNat : Int) = x) (h : x = 10 ∨ x = 93 ∨ x = 91 ∨ x = 94 ∨ x = 45) :
    Calls Try.prog 81 #[.string s] w fun e w' => e = signE none ∧ Below w.heap.size w w' := by
  rcases h with h | h | h | h | h
  all_goals
    subst h
    go_enter Try.func81, Try.ntmps81
    go_wp2
    exact bodyPost_ret (results_tmp3 rfl _ _ _) rfl ⟨rfl, Below.refl _ _⟩
set_option maxHeartbeats 1000000 in
theorem refSign_plain (s : ByteArray) (x : Int) (w : World) (hs : 0 < s.size) (hx : (s[0].toNat : Int) = x) (h1 : (x == 10) = false) (h2 : (x == 93) = false) (h3 : (x == 91) = false) (h4 : (x == 94) = false) (h5 : (x == 45) = false) (h92 : (x != 92) = true) :
    Calls Try.prog 81 #[.string s] w fun e w' => e = signE (some (x, 1)) ∧ Below w.heap.size w w' := by
  go_enter Try.func81, Try.ntmps81
  go_wp2
  exact bodyPost_ret (results_tmp3 rfl _ _ _) rfl ⟨rfl, Below.refl _ _⟩
set_option maxHeartbeats 1000000 in
theorem refSign_empty (s : ByteArray) (w : World) (hs : s.size < 1) :
    Calls Try.prog 81 #[.string s] w fun e w' => e = signE none ∧ Below w.heap.size w w' := by
  go_enter Try.func81, Try.ntmps81
  go_wp2
  exact bodyPost_ret (results_tmp3 rfl _ _ _) rfl ⟨rfl, Below.refl _ _⟩
set_option maxHeartbeats 1000000 in
theorem refSign_alone (s : ByteArray) (w : World) (hs : 0 < s.size) (hs2 : s.size < 2) (hx : (s[0].toNat : Int) = 92) :
    Calls Try.prog 81 #[.string s] w fun e w' => e = signE none ∧ Below w.heap.size w w' := by
  go_enter Try.func81, Try.ntmps81
  go_wp2
  exact bodyPost_ret (results_tmp3 rfl _ _ _) rfl ⟨rfl, Below.refl _ _⟩
end Go.Proofs.Ytgffmbdbjbhocaa
namespace Go.Proofs.Ytgffmbdbjbhocaa
open Go.RowKit Go.Lib

theorem at_byte {s : ByteArray} {k : Nat} (h : k < s.size) : s.data.toList[k]? = some s[k] := by
  rw [List.getElem?_eq_getElem (by rw [Array.length_toList]; exact h)]; rfl

end Go.Proofs.Ytgffmbdbjbhocaa
namespace Go.Proofs.Ytgffmbdbjbhocaa
open Go.RowKit Go.Lib

def zeroK : Cl := fun _ => 0
end Go.Proofs.Ytgffmbdbjbhocaa
namespace Go.Proofs.Ytgffmbdbjbhocaa
open Go.ChangeShapes Go.WideShapes Go.ChangeAt Go.RowKit Go.Deep

theorem cell_plain {w : World} {a : Addr} {v : Value} (h : w.cell? a = some v) : a.spot = none ∧ a.block < w.heap.size := by
  unfold World.cell? at h
  split at h
  · rename_i hh
    constructor
    · by_cases hs : a.spot.isSome = true
      · rw [if_pos hs] at h; cases h
      · simpa using hs
    · by_cases hl : a.block < w.heap.size
      · exact hl
      · rw [Array.getElem?_eq_none (by omega)] at hh; cases hh
  · cases h
instance : Inhabited Nd := ⟨⟨0, k0, 0, 0⟩⟩
end Go.Proofs.Ytgffmbdbjbhocaa
