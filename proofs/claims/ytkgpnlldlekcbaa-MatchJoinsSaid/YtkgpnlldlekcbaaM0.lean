/- Packed texts: ClsMath, ClsFrame, ReTr, HexLeaf, HexMem, ClsEql. What each of them proves stands above its theorems; the conditions stand in these. -/
import Derived.Deep.RegionLaw
import Derived.HandedShaped
import Derived.Laws.BitsAllLaws
import Derived.Laws.IdiomArrays
import Derived.Laws.StructEq
import Derived.Lib.BufferRead
import Derived.Lib.Hide
import Derived.OpenShut
import Derived.ProofKit
import Derived.ShutString
import Derived.SizedLaws
import Derived.Test.YtkgpnlldlekcbaaProg
import Derived.Test.YtkgpnlldlekcbaaRows
import Derived.WalkKit
import Derived.WalkLawsBesides
import Derived.WalkSpells
namespace Go.Proofs.Ytkgpnlldlekcbaa
open Go.RowKit

/-- A class: its four words. -/
abbrev Cl := Nat → BitVec 64
def wd (x : BitVec 64) : Value := .int .u64 (x.toNat : Int)
def clsA (k : Cl) : Array Value := #[wd (k 0), wd (k 1), wd (k 2), wd (k 3)]
def clsV (k : Cl) : Value := .agg (clsA k)
/-- Is the byte of a number in it? -/
def has (k : Cl) (c : Nat) : Bool := (k (c / 64)).getLsbD (c % 64)

/-- Two classes of the same bytes are the same. -/
theorem cls_words {k l : Cl} (h : ∀ c, c < 256 → has k c = has l c) (i : Nat) (hi : i < 4) : k i = l i := by
  apply BitVec.eq_of_getLsbD_eq
  intro j hj
  have := h (64 * i + j) (by omega)
  unfold has at this
  rwa [show (64 * i + j) / 64 = i by omega, show (64 * i + j) % 64 = j by omega] at this
theorem clsA_ext {k l : Cl} (h : ∀ c, c < 256 → has k c = has l c) : clsA k = clsA l := by
  unfold clsA
  rw [cls_words h 0 (by omega), cls_words h 1 (by omega), cls_words h 2 (by omega), cls_words h 3 (by omega)]
theorem clsV_ext {k l : Cl} (h : ∀ c, c < 256 → has k c = has l c) : clsV k = clsV l := by unfold clsV; rw [clsA_ext h]

/-- The bytes below a number. -/
def belowK (n : Nat) : Cl := fun i => BitVec.ofNat 64 (2 ^ (min (n - 64 * i) 64) - 1)
theorem has_below (n c : Nat) : has (belowK n) c = decide (c < n) := by
  unfold has belowK
  rw [BitVec.getLsbD_ofNat, Nat.testBit_two_pow_sub_one]
  have h1 : c % 64 < 64 := Nat.mod_lt _ (by decide)
  have h2 : c = 64 * (c / 64) + c % 64 := (Nat.div_add_mod c 64).symm
  simp only [h1, decide_true, Bool.true_and, decide_eq_decide]
  omega
def spanK (a b : Nat) : Cl := fun i => belowK (b + 1) i &&& ~~~ belowK a i
theorem has_span (a b c : Nat) : has (spanK a b) c = (decide (a ≤ c) && decide (c ≤ b)) := by
  have e : has (spanK a b) c = (has (belowK (b + 1)) c && !has (belowK a) c) := by
    unfold has spanK
    rw [BitVec.getLsbD_and, BitVec.getLsbD_not]
    simp [Nat.mod_lt]
  rw [e, has_below, has_below, Bool.eq_iff_iff]
  simp
  omega
def oneK (c : Nat) : Cl := spanK c c
theorem has_one (c d : Nat) : has (oneK c) d = decide (d = c) := by
  unfold oneK
  rw [has_span, Bool.eq_iff_iff]
  simp
  omega

/-- The operations on words. -/
theorem ofInt_nat (x : BitVec 64) : BitVec.ofInt 64 (x.toNat : Int) = x := by
  rw [BitVec.ofInt_natCast, BitVec.ofNat_toNat, BitVec.setWidth_eq]
theorem bv_lt (x : BitVec 64) : (x.toNat : Int) < 18446744073709551616 := by have := x.isLt; omega
theorem and_wd (x y : BitVec 64) : bits .and .u64 (x.toNat : Int) (y.toNat : Int) = ((x &&& y).toNat : Int) := by
  show IntKind.u64.wrap ((BitVec.ofInt 64 (x.toNat : Int) &&& BitVec.ofInt 64 (y.toNat : Int)).toNat : Int) = _
  rw [ofInt_nat, ofInt_nat, IntKind.wrap_u64]
  exact Int.emod_eq_of_lt (by omega) (bv_lt _)
end Go.Proofs.Ytkgpnlldlekcbaa
namespace Go.Proofs.Ytkgpnlldlekcbaa
open Go.ChangeShapes Go.WideShapes Go.ChangeAt Go.RowKit

theorem own : ownKnob Try.prog.godebug = none := by kernel_rfl
theorem laidOut : laidOutB Try.prog = true := by kernel_rfl
theorem cellsC : Try.prog.cellsOf 47 = 4 := by kernel_rfl
theorem cellsW : Try.prog.cellsOf 45 = 1 := by kernel_rfl
theorem word_of_wf {a : Int} (h : (Lit.int .u64 a).wf = true) : ∃ c : BitVec 64, a = (c.toNat : Int) := by
  have hb := bounds_u64 h
  refine ⟨BitVec.ofNat 64 a.toNat, ?_⟩
  rw [BitVec.toNat_ofNat, Nat.mod_eq_of_lt (by omega)]
  omega
/-- What a row asks behind a call that laid new memory alone. -/
theorem post_of_below {H : Type} {enc : TypeId × Value → H} {P : Program} {f : Func} {s : ChangeSpec} {apart fresh handsOn again : Bool} {W W' : World} {args : Array Value} {v : Value} {ds gs : List (DataW H)} {before pa pv : List MemPlace}
    (hW : DataW.Whole enc P f.params.toList s.vars apart W args.toList ds gs before)
    (hres : ∀ (b : Nat) (sp : Nat → Bool) (hd : Bool), DataW.TrodAll enc P W' b sp hd f.resultTypes.toList (v.resultList f.resultTypes.size) (s.fn H (ds ++ gs)).results [])
    (hargs : ∀ sp : Nat → Bool, (∀ p ∈ before, sp p.block = true) → DataW.TrodAll enc P W' 0 sp true f.params.toList args.toList (s.fn H (ds ++ gs)).args pa)
    (hvars : ∀ sp : Nat → Bool, (∀ p ∈ before, sp p.block = true) → DataW.TrodVars enc P W' sp s.vars (s.fn H (ds ++ gs)).vars pv)
    (hps : before = pa ++ pv) (hb : Below W.heap.size W W')
    (hok : ∀ (j : Nat) (t : TypeId) (r : Value), f.resultTypes[j]? = some t → (v.resultList f.resultTypes.size)[j]? = some r → Value.okWide P W' .any 0 t r) :
    s.post enc P f apart fresh handsOn again W args v W' := by
  have hlt : ∀ p ∈ before, p.block < W.heap.size := fun p hp => hW.lt p hp
  have hold : ∀ p ∈ before, (fun b => decide (b < W.heap.size)) p.block = true := fun p hp => by simpa using hlt p hp
  refine ⟨ds, gs, before, [], pa, pv, hW, hres _ _ _, hargs _ hold, hvars _ hold, World.keptBut_mono (fun p hp => ⟨hp, ?_⟩) (hb.frame (· ∈ before)), fun _ => ?_⟩
  · rw [hps, List.mem_append] at hp
    exact Or.inr hp
  · obtain ⟨_, _, _, _, _, hz, hn⟩ := hW
    refine ⟨hok, _, _, ([] ++ pa) ++ pv, ⟨[] ++ pa, pv, trodAll_append (hargs _ (fun _ _ => rfl)) (hres _ _ _), hvars _ (fun _ _ => rfl), rfl, ?_, ?_⟩, ?_⟩
    · intro b off hp
      have hin : MemPlace.cell b off ∈ before := by rw [hps]; simpa using hp
      rw [hb.frozen (hlt _ hin)]
      exact hz b off hin
    · intro ha
      have := hn ha
      rw [hps] at this
      simpa using this
    · intro p hp _
      rw [hps]
      simpa using hp
end Go.Proofs.Ytkgpnlldlekcbaa
namespace Go.Proofs.Ytkgpnlldlekcbaa
open Go.RowKit

/-- A class as its four words, and no more. -/
structure K4 where
  a : BitVec 64
  b : BitVec 64
  c : BitVec 64
  d : BitVec 64
deriving DecidableEq
def K4.cl (k : K4) : Cl := fun i => if i = 0 then k.a else if i = 1 then k.b else if i = 2 then k.c else k.d
def k4 (K : Cl) : K4 := ⟨K 0, K 1, K 2, K 3⟩
theorem has_k4 (K : Cl) {c : Nat} (hc : c < 256) : has (k4 K).cl c = has K c := by
  have h : c / 64 = 0 ∨ c / 64 = 1 ∨ c / 64 = 2 ∨ c / 64 = 3 := by omega
  unfold has K4.cl k4
  rcases h with h | h | h | h <;> rw [h] <;> simp
def k0 : K4 := ⟨0, 0, 0, 0⟩
/-- A node. -/
structure Nd where
  k : Int
  s : K4
  x : Int
  y : Int
deriving DecidableEq
def Nd.cells (n : Nd) : List Value := [.int .i64 n.k, wd n.s.a, wd n.s.b, wd n.s.c, wd n.s.d, .int .i64 n.x, .int .i64 n.y]
def ndC (t : List Nd) : List Value := t.flatMap Nd.cells
theorem ndC_append (a b : List Nd) : ndC (a ++ b) = ndC a ++ ndC b := List.flatMap_append
theorem ndC_length (t : List Nd) : (ndC t).length = 7 * t.length := by
  induction t with
  | nil => rfl
  | cons a t ih =>
    show (Nd.cells a ++ ndC t).length = _
    rw [List.length_append, ih, List.length_cons]
    show 7 + _ = _
    omega

/-- A tree. -/
inductive Tr where
  | leaf (j : Nat)
  | set (k : K4)
  | rep (j : Nat) (a : Tr)
  | two (j : Nat) (a b : Tr)
def Tr.size : Tr → Nat
  | .leaf _ => 1
  | .set _ => 1
  | .rep _ a => a.size + 1
  | .two _ a b => a.size + b.size + 1
/-- Its nodes, where so many stand ahead of it. -/
def Tr.row : Tr → Nat → List Nd
  | .leaf j, _ => [⟨j, k0, 0, 0⟩]
  | .set k, _ => [⟨1, k, 0, 0⟩]
  | .rep j a, n => a.row n ++ [⟨j, k0, (n : Int) + a.size - 1, 0⟩]
  | .two j a b, n => a.row n ++ (b.row (n + a.size) ++ [⟨j, k0, (n : Int) + a.size - 1, (n : Int) + a.size + b.size - 1⟩])
/-- The kinds that there are. -/
def Tr.ok : Tr → Prop
  | .leaf j => j = 0 ∨ j = 7 ∨ j = 8
  | .set _ => True
  | .rep j a => (j = 4 ∨ j = 5 ∨ j = 6) ∧ a.ok
  | .two j a b => (j = 2 ∨ j = 3) ∧ a.ok ∧ b.ok
theorem Tr.size_pos : ∀ t : Tr, 1 ≤ t.size
  | .leaf _ => Nat.le_refl _
  | .set _ => Nat.le_refl _
  | .rep _ _ => Nat.le_add_left _ _
  | .two _ _ _ => Nat.le_add_left _ _
theorem Tr.row_length : ∀ (t : Tr) (n : Nat), (t.row n).length = t.size
  | .leaf _, _ => rfl
  | .set _, _ => rfl
  | .rep j a, n => by
    show (a.row n ++ [_]).length = a.size + 1
    rw [List.length_append, row_length a n]
    rfl
  | .two j a b, n => by
    show (a.row n ++ (b.row (n + a.size) ++ [_])).length = a.size + b.size + 1
    rw [List.length_append, List.length_append, row_length a n, row_length b _]
    rfl

end Go.Proofs.Ytkgpnlldlekcbaa
namespace Go.Proofs.Ytkgpnlldlekcbaa
open Go.RowKit

def digN (c : UInt8) : Int :=
  if 48 ≤ (c.toNat : Int) ∧ (c.toNat : Int) ≤ 57 then (c.toNat : Int) - 48
  else if 97 ≤ (c.toNat : Int) ∧ (c.toNat : Int) ≤ 102 then (c.toNat : Int) - 87
  else if 65 ≤ (c.toNat : Int) ∧ (c.toNat : Int) ≤ 70 then (c.toNat : Int) - 55
  else -1

theorem ret_int {k : IntKind} {a b : Int} (h : a = b) : Ending.returned (.int k a) = .returned (.int k b) := by rw [h]

set_option maxHeartbeats 400000 in
theorem refDigit_any (c : UInt8) (w : World) :
    Calls Try.prog 126 #[.int .u8 (c.toNat : Int)] w fun e w' => e = .returned (.int .i64 (digN c)) ∧ w = w' := by
  go_enter Try.func126, Try.ntmps126
  go_wp2
  all_goals
    go_ret
    refine ⟨ret_int ?_, rfl⟩
    simp [digN]
    try omega

end Go.Proofs.Ytkgpnlldlekcbaa
namespace Go.Proofs.Ytkgpnlldlekcbaa
open Go.RowKit Go.Lib

/-- One step of a region that draws its order: more is appended to an owned row. -/
theorem step_append_own {P : Program} {ops : Array Oper} {o : Oper} {a : Act} {w : World} {K : Act → World → Prop} {Q : Exit → Act → World → Prop} {E : Prop}
    (hg : o.guard = none) (s x : Operand) (t : TypeId) (hop : o.op = Op.call { callee := Callee.builtin Builtin.append, args := #[s, x], argTypes := #[t, t] })
    (base : Nat) (e : TypeId) (i : TypeInfo) (z : Value) (size bytes : Nat) (h1 : P.underlying t = some (.slice e)) (h2 : P.info? e = some i) (h3 : i.zero = some z) (h4 : i.size = size) (h5 : i.bytes = bytes) (h6 : z.cells.size = size) (h7 : 0 < size)
    (v : Value) (n : Nat) (xs : List Value) (hs : a.eval s = v) (hown : w.ownsRow base e size v n xs)
    (ad : Addr) (m c : Nat) (news : List Value) (hx : a.eval x = .slice (some ad) m c) (hl : news.length = m * size) (hnews : ∀ j u, news[j]? = some u → w.cell? (ad.add j) = some u) (h1c : ∀ u ∈ news, u.oneCell' = true)
    (h63 : n + m ≤ maxLen) (hbytes : (n + m) * bytes ≤ 140737488355328) (hbase : base ≤ w.heap.size)
    (hK : ∀ v' w', w'.ownsRow base e size v' (n + m) (xs ++ news) → w.grownBy w' v.ownBlock → K (a.put o.dst v') w') :
    if Region.wanted o (yielded ops a.tmps) = true then Oper.wp P o a w K Q else E := by
  have hw : Region.wanted o (yielded ops a.tmps) = true := by simp [Region.wanted, hg]
  rw [if_pos hw]
  exact wp_append_own w s x t hop base e i z size bytes h1 h2 h3 h4 h5 h6 h7 v n xs hs hown ad m c news hx hl hnews h1c h63 hbytes hbase fun v' w' a b _ => hK v' w' a b

/-- An owned row lies among the call's own blocks. -/
theorem own_base {w : World} {B n size : Nat} {e : TypeId} {v : Value} {xs : List Value} (h : w.ownsRow B e size v n xs) {g : Nat} (hg : v.ownBlock = some g) : B ≤ g := by
  rcases h.2 with ⟨rfl, _⟩ | ⟨g', _, _, rfl, hB, _⟩
  · cases hg
  · cases hg; exact hB

/-- Draws turn no block. -/
theorem below_draws {B : Nat} {a w : World} (h : Below B a w) (n : Nat) : Below B a (w.drewN n) :=
  h.trans (⟨rfl, rfl, rfl, Nat.le_refl _, fun _ _ => rfl⟩ : Below B w (w.drewN n))
end Go.Proofs.Ytkgpnlldlekcbaa
namespace Go.Proofs.Ytkgpnlldlekcbaa
open Go.RowKit

theorem run_equalIn_word (n : Nat) (a b : Int) (w : World) : (Op.equalIn (n + 1) 45 (.int .u64 a) (.int .u64 b)).run Try.prog w = .ok (a == b) w := run_equalIn_int w n 45 .u64 .u64 a b Try.underlying45
theorem run_part_word (xs : Array Value) (o : Nat) (v : Value) (w : World) (h : xs[o]? = some v) : (part 45 xs o).run Try.prog w = .ok v w := by
  simp [part, Sem.run_bind, Try.isAgg45, Result.andThen, h]
set_option maxRecDepth 20000 in
theorem eql_cls (n : Nat) (a b c d e f g h : Int) (w : World) :
    (Op.equalIn (n + 1 + 1) 47 (.agg #[.int .u64 a, .int .u64 b, .int .u64 c, .int .u64 d]) (.agg #[.int .u64 e, .int .u64 f, .int .u64 g, .int .u64 h])).run Try.prog w = .ok (a == e && (b == f && (c == g && d == h))) w := by
  rw [Op.equalIn]
  simp only [Sem.run_bind, run_underlying Try.underlying47, Result.andThen_ok, Try.sizeOf45]
  simp only [Std.Legacy.Range.forIn_eq_forIn_range', Std.Legacy.Range.size, List.range', List.forIn_cons, List.forIn_nil]
  simp only [Nat.zero_add, Nat.mul_one, Nat.one_add]
  obtain ⟨p, hp⟩ : ∃ p, (a == e) = p := ⟨_, rfl⟩
  obtain ⟨q, hq⟩ : ∃ p, (b == f) = p := ⟨_, rfl⟩
  obtain ⟨r, hr⟩ : ∃ p, (c == g) = p := ⟨_, rfl⟩
  obtain ⟨s, hs⟩ : ∃ p, (d == h) = p := ⟨_, rfl⟩
  have r0 := fun w => run_equalIn_word n a e w
  have r1 := fun w => run_equalIn_word n b f w
  have r2 := fun w => run_equalIn_word n c g w
  have r3 := fun w => run_equalIn_word n d h w
  rw [hp] at r0
  rw [hq] at r1
  rw [hr] at r2
  rw [hs] at r3
  rw [hp, hq, hr, hs]
  clear hp hq hr hs
  have x0 := fun w => run_part_word #[.int .u64 a, .int .u64 b, .int .u64 c, .int .u64 d] 0 _ w rfl
  have x1 := fun w => run_part_word #[.int .u64 a, .int .u64 b, .int .u64 c, .int .u64 d] 1 _ w rfl
  have x2 := fun w => run_part_word #[.int .u64 a, .int .u64 b, .int .u64 c, .int .u64 d] 2 _ w rfl
  have x3 := fun w => run_part_word #[.int .u64 a, .int .u64 b, .int .u64 c, .int .u64 d] 3 _ w rfl
  have y0 := fun w => run_part_word #[.int .u64 e, .int .u64 f, .int .u64 g, .int .u64 h] 0 _ w rfl
  have y1 := fun w => run_part_word #[.int .u64 e, .int .u64 f, .int .u64 g, .int .u64 h] 1 _ w rfl
  have y2 := fun w => run_part_word #[.int .u64 e, .int .u64 f, .int .u64 g, .int .u64 h] 2 _ w rfl
  have y3 := fun w => run_part_word #[.int .u64 e, .int .u64 f, .int .u64 g, .int .u64 h] 3 _ w rfl
  cases p <;> cases q <;> cases r <;> cases s <;> simp [Sem.run_bind, Result.andThen, r0, r1, r2, r3, x0, x1, x2, x3, y0, y1, y2, y3]
end Go.Proofs.Ytkgpnlldlekcbaa
