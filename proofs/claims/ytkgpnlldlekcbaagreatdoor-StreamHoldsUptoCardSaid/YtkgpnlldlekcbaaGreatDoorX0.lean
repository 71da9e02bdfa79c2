/- Packed texts: ClsMath, ClsFrame, ReTr, HexLeaf, HexMem, HexMath, HexName, HexWholeMath, HexCount, HexWhole. What each of them proves stands above its theorems; the conditions stand in these. -/
import Derived.Deep.RegionLaw
import Derived.HandedShaped
import Derived.Laws.BitsAllLaws
import Derived.Laws.IdiomArrays
import Derived.Lib.BufferRead
import Derived.Lib.Hide
import Derived.OpenShut
import Derived.ProofKit
import Derived.ShutString
import Derived.SizedLaws
import Derived.Test.YtkgpnlldlekcbaaGreatDoorProg
import Derived.Test.YtkgpnlldlekcbaaGreatDoorRows
import Derived.WalkKit
import Derived.WalkLawsBesides
import Derived.WalkSpells
namespace Go.Proofs.YtkgpnlldlekcbaaGreatDoor
open Go.RowKit

/-- A class: its four words. -/
abbrev Cl := Nat → BitVec 64
def wd (x : BitVec 64) : Value := .int .u64 (x.toNat : Int)
def clsA (k : Cl) : Array Value := #[wd (k 0), wd (k 1), wd (k 2), wd (k 3)]
def clsV (k : Cl) : Value := .agg (clsA k)
/-- Is the byte of a number in it? -/
def has (k : Cl) (c : Nat) : Bool := (k (c / 64)).getLsbD (c % 64)

def notK (k : Cl) : Cl := fun i => ~~~ k i
def orK (k l : Cl) : Cl := fun i => k i ||| l i
/-- The bytes below a number. -/
def belowK (n : Nat) : Cl := fun i => BitVec.ofNat 64 (2 ^ (min (n - 64 * i) 64) - 1)
def spanK (a b : Nat) : Cl := fun i => belowK (b + 1) i &&& ~~~ belowK a i
def oneK (c : Nat) : Cl := spanK c c
def cntK (k : Cl) : Nat := (List.range 256).countP (has k)
/-- The operations on words. -/
theorem ofInt_nat (x : BitVec 64) : BitVec.ofInt 64 (x.toNat : Int) = x := by
  rw [BitVec.ofInt_natCast, BitVec.ofNat_toNat, BitVec.setWidth_eq]
theorem bv_lt (x : BitVec 64) : (x.toNat : Int) < 18446744073709551616 := by have := x.isLt; omega
theorem or_wd (x y : BitVec 64) : bits .or .u64 (x.toNat : Int) (y.toNat : Int) = ((x ||| y).toNat : Int) := by
  show IntKind.u64.wrap ((BitVec.ofInt 64 (x.toNat : Int) ||| BitVec.ofInt 64 (y.toNat : Int)).toNat : Int) = _
  rw [ofInt_nat, ofInt_nat, IntKind.wrap_u64]
  exact Int.emod_eq_of_lt (by omega) (bv_lt _)
theorem andNot_wd (x y : BitVec 64) : bits .andNot .u64 (x.toNat : Int) (y.toNat : Int) = ((x &&& ~~~ y).toNat : Int) := by
  show IntKind.u64.wrap ((BitVec.ofInt 64 (x.toNat : Int) &&& ~~~ BitVec.ofInt 64 (y.toNat : Int)).toNat : Int) = _
  rw [ofInt_nat, ofInt_nat, IntKind.wrap_u64]
  exact Int.emod_eq_of_lt (by omega) (bv_lt _)
end Go.Proofs.YtkgpnlldlekcbaaGreatDoor
namespace Go.Proofs.YtkgpnlldlekcbaaGreatDoor
open Go.ChangeShapes Go.WideShapes Go.ChangeAt Go.RowKit

theorem own : ownKnob Tryz.prog.godebug = none := by kernel_rfl
theorem laidOut : laidOutB Tryz.prog = true := by kernel_rfl
/-- What a row asks behind a call that laid new memory alone. -/
theorem post_of_below {H : Type} {enc : TypeId × Value → H} {P : Program} {f : Func} {s : ChangeSpec} {apart fresh handsOn again : Bool} {W W' : World} {args : Array Value} {v : Value} {ds gs : List (DataW H)} {before pa pv : List MemPlace}
    (hW : DataW.Whole enc P f.params.toList s.vars apart W args.toList ds gs before)
    (hres : ∀ (b : Nat) (sp : Nat → Bool) (hd : Bool), DataW.TrodAll enc P W' b sp hd f.resultTypes.toList (v.resultList f.resultTypes.size) (s.fn H (ds ++ gs)).results [])
    (hargs : ∀ sp : Nat → Bool, (∀ p ∈ before, sp p.block = true) → DataW.TrodAll enc P W' 0 sp true f.params.toList args.toList (s.fn H (ds ++ gs)).args pa)
    (hvars : ∀ sp : Nat → Bool, (∀ p ∈ before, sp p.block = true) → DataW.TrodVars enc P W' sp s.vars (s.fn H (ds ++ gs)).vars pv)
    (hps : before = pa ++ pv) (hb : Below W.heap.size W W')
    (hok : ∀ (j : Nat) (t : TypeId) (r : Value), f.resultTypes[j]? = some t → (v.resultList f.resultTypes.size)[j]? = some r → Value.okWide P W' .any 0 t r) :
    s.post enc P f apart fresh handsOn again W args v W' := by
  have hlt : ∀ p ∈ before, p.block < W.heap.size := fun p hp => hW.lt p hp
  have hold : ∀ p ∈ before, (fun b => decide (b < W.heap.size)) p.block = true := fun p hp => by simpa using hlt p hp
  refine ⟨ds, gs, before, [], pa, pv, hW, hres _ _ _, hargs _ hold, hvars _ hold, World.keptBut_mono (fun p hp => ⟨hp, ?_⟩) (hb.frame (· ∈ before)), fun _ => ?_⟩
  · rw [hps, List.mem_append] at hp
    exact Or.inr hp
  · obtain ⟨_, _, _, _, _, hz, hn⟩ := hW
    refine ⟨hok, _, _, ([] ++ pa) ++ pv, ⟨[] ++ pa, pv, trodAll_append (hargs _ (fun _ _ => rfl)) (hres _ _ _), hvars _ (fun _ _ => rfl), rfl, ?_, ?_⟩, ?_⟩
    · intro b off hp
      have hin : MemPlace.cell b off ∈ before := by rw [hps]; simpa using hp
      rw [hb.frozen (hlt _ hin)]
      exact hz b off hin
    · intro ha
      have := hn ha
      rw [hps] at this
      simpa using this
    · intro p hp _
      rw [hps]
      simpa using hp
end Go.Proofs.YtkgpnlldlekcbaaGreatDoor
namespace Go.Proofs.YtkgpnlldlekcbaaGreatDoor
open Go.RowKit

/-- A class as its four words, and no more. -/
structure K4 where
  a : BitVec 64
  b : BitVec 64
  c : BitVec 64
  d : BitVec 64
deriving DecidableEq
def K4.cl (k : K4) : Cl := fun i => if i = 0 then k.a else if i = 1 then k.b else if i = 2 then k.c else k.d
def k4 (K : Cl) : K4 := ⟨K 0, K 1, K 2, K 3⟩
theorem clsV_k4 (K : Cl) : clsV (k4 K).cl = clsV K := rfl
def k0 : K4 := ⟨0, 0, 0, 0⟩
/-- What a point stands for. -/
def kPoint : K4 := k4 (notK (oneK 10))

/-- A node. -/
structure Nd where
  k : Int
  s : K4
  x : Int
  y : Int
deriving DecidableEq
def Nd.cells (n : Nd) : List Value := [.int .i64 n.k, wd n.s.a, wd n.s.b, wd n.s.c, wd n.s.d, .int .i64 n.x, .int .i64 n.y]
def Nd.val (n : Nd) : Value := .agg #[.int .i64 n.k, wd n.s.a, wd n.s.b, wd n.s.c, wd n.s.d, .int .i64 n.x, .int .i64 n.y]
def ndC (t : List Nd) : List Value := t.flatMap Nd.cells
theorem ndC_append (a b : List Nd) : ndC (a ++ b) = ndC a ++ ndC b := List.flatMap_append
/-- A tree. -/
inductive Tr where
  | leaf (j : Nat)
  | set (k : K4)
  | rep (j : Nat) (a : Tr)
  | two (j : Nat) (a b : Tr)
def Tr.size : Tr → Nat
  | .leaf _ => 1
  | .set _ => 1
  | .rep _ a => a.size + 1
  | .two _ a b => a.size + b.size + 1
def Tr.kind : Tr → Nat
  | .leaf j => j
  | .set _ => 1
  | .rep j _ => j
  | .two j _ _ => j
/-- Its nodes, where so many stand ahead of it. -/
def Tr.row : Tr → Nat → List Nd
  | .leaf j, _ => [⟨j, k0, 0, 0⟩]
  | .set k, _ => [⟨1, k, 0, 0⟩]
  | .rep j a, n => a.row n ++ [⟨j, k0, (n : Int) + a.size - 1, 0⟩]
  | .two j a b, n => a.row n ++ (b.row (n + a.size) ++ [⟨j, k0, (n : Int) + a.size - 1, (n : Int) + a.size + b.size - 1⟩])
/-- The kinds that there are. -/
def Tr.ok : Tr → Prop
  | .leaf j => j = 0 ∨ j = 7 ∨ j = 8
  | .set _ => True
  | .rep j a => (j = 4 ∨ j = 5 ∨ j = 6) ∧ a.ok
  | .two j a b => (j = 2 ∨ j = 3) ∧ a.ok ∧ b.ok
theorem Tr.row_length : ∀ (t : Tr) (n : Nat), (t.row n).length = t.size
  | .leaf _, _ => rfl
  | .set _, _ => rfl
  | .rep j a, n => by
    show (a.row n ++ [_]).length = a.size + 1
    rw [List.length_append, row_length a n]
    rfl
  | .two j a b, n => by
    show (a.row n ++ (b.row (n + a.size) ++ [_])).length = a.size + b.size + 1
    rw [List.length_append, List.length_append, row_length a n, row_length b _]
    rfl

end Go.Proofs.YtkgpnlldlekcbaaGreatDoor
namespace Go.Proofs.YtkgpnlldlekcbaaGreatDoor
open Go.RowKit

def isFig (c : UInt8) : Bool := decide (48 ≤ (c.toNat : Int)) && decide ((c.toNat : Int) ≤ 57)
def isLet (c : UInt8) : Bool := (decide (65 ≤ (c.toNat : Int)) && decide ((c.toNat : Int) ≤ 90) || decide (97 ≤ (c.toNat : Int)) && decide ((c.toNat : Int) ≤ 122)) || decide ((c.toNat : Int) = 95)
def digN (c : UInt8) : Int :=
  if 48 ≤ (c.toNat : Int) ∧ (c.toNat : Int) ≤ 57 then (c.toNat : Int) - 48
  else if 97 ≤ (c.toNat : Int) ∧ (c.toNat : Int) ≤ 102 then (c.toNat : Int) - 87
  else if 65 ≤ (c.toNat : Int) ∧ (c.toNat : Int) ≤ 70 then (c.toNat : Int) - 55
  else -1

theorem ret_bool {a b : Bool} (h : a = b) : Ending.returned (.bool a) = .returned (.bool b) := by rw [h]
theorem ret_int {k : IntKind} {a b : Int} (h : a = b) : Ending.returned (.int k a) = .returned (.int k b) := by rw [h]

set_option maxHeartbeats 400000 in
theorem isFigure_any (c : UInt8) (w : World) :
    Calls Tryz.prog 158 #[.int .u8 (c.toNat : Int)] w fun e w' => e = .returned (.bool (isFig c)) ∧ w = w' := by
  go_enter Tryz.func158, Tryz.ntmps158
  go_wp2
  all_goals
    go_ret
    refine ⟨ret_bool ?_, rfl⟩
    simp [isFig]
    try omega

set_option maxHeartbeats 400000 in
theorem isLetter_any (c : UInt8) (w : World) :
    Calls Tryz.prog 157 #[.int .u8 (c.toNat : Int)] w fun e w' => e = .returned (.bool (isLet c)) ∧ w = w' := by
  go_enter Tryz.func157, Tryz.ntmps157
  go_wp2
  all_goals
    go_ret
    refine ⟨ret_bool ?_, rfl⟩
    rw [Bool.eq_iff_iff]
    simp [isLet]
    try omega

set_option maxHeartbeats 400000 in
theorem digit_any (c : UInt8) (w : World) :
    Calls Tryz.prog 203 #[.int .u8 (c.toNat : Int)] w fun e w' => e = .returned (.int .i64 (digN c)) ∧ w = w' := by
  go_enter Tryz.func203, Tryz.ntmps203
  go_wp2
  all_goals
    go_ret
    refine ⟨ret_int ?_, rfl⟩
    simp [digN]
    try omega

end Go.Proofs.YtkgpnlldlekcbaaGreatDoor
namespace Go.Proofs.YtkgpnlldlekcbaaGreatDoor
open Go.RowKit Go.Lib

/-- One step of a region that draws its order: more is appended to an owned row. -/
theorem step_append_own {P : Program} {ops : Array Oper} {o : Oper} {a : Act} {w : World} {K : Act → World → Prop} {Q : Exit → Act → World → Prop} {E : Prop}
    (hg : o.guard = none) (s x : Operand) (t : TypeId) (hop : o.op = Op.call { callee := Callee.builtin Builtin.append, args := #[s, x], argTypes := #[t, t] })
    (base : Nat) (e : TypeId) (i : TypeInfo) (z : Value) (size bytes : Nat) (h1 : P.underlying t = some (.slice e)) (h2 : P.info? e = some i) (h3 : i.zero = some z) (h4 : i.size = size) (h5 : i.bytes = bytes) (h6 : z.cells.size = size) (h7 : 0 < size)
    (v : Value) (n : Nat) (xs : List Value) (hs : a.eval s = v) (hown : w.ownsRow base e size v n xs)
    (ad : Addr) (m c : Nat) (news : List Value) (hx : a.eval x = .slice (some ad) m c) (hl : news.length = m * size) (hnews : ∀ j u, news[j]? = some u → w.cell? (ad.add j) = some u) (h1c : ∀ u ∈ news, u.oneCell' = true)
    (h63 : n + m ≤ maxLen) (hbytes : (n + m) * bytes ≤ 140737488355328) (hbase : base ≤ w.heap.size)
    (hK : ∀ v' w', w'.ownsRow base e size v' (n + m) (xs ++ news) → w.grownBy w' v.ownBlock → K (a.put o.dst v') w') :
    if Region.wanted o (yielded ops a.tmps) = true then Oper.wp P o a w K Q else E := by
  have hw : Region.wanted o (yielded ops a.tmps) = true := by simp [Region.wanted, hg]
  rw [if_pos hw]
  exact wp_append_own w s x t hop base e i z size bytes h1 h2 h3 h4 h5 h6 h7 v n xs hs hown ad m c news hx hl hnews h1c h63 hbytes hbase fun v' w' a b _ => hK v' w' a b

/-- An owned row lies among the call's own blocks. -/
theorem own_base {w : World} {B n size : Nat} {e : TypeId} {v : Value} {xs : List Value} (h : w.ownsRow B e size v n xs) {g : Nat} (hg : v.ownBlock = some g) : B ≤ g := by
  rcases h.2 with ⟨rfl, _⟩ | ⟨g', _, _, rfl, hB, _⟩
  · cases hg
  · cases hg; exact hB

/-- Draws turn no block. -/
theorem below_draws {B : Nat} {a w : World} (h : Below B a w) (n : Nat) : Below B a (w.drewN n) :=
  h.trans (⟨rfl, rfl, rfl, Nat.le_refl _, fun _ _ => rfl⟩ : Below B w (w.drewN n))
/-- 'string(b)' of an owned row of bytes. -/
theorem conv_owned {P : Program} {w : World} {B n : Nat} {src dst e : TypeId} {v : Value} {l : List UInt8} (hs : P.underlying src = some (.slice e)) (he : P.underlying e = some (.int .u8)) (hd : P.underlying dst = some .string)
    (h : w.ownsRow B e 1 v n (byteCells l)) : (convert src dst v).run P w = .ok (.string ⟨l.toArray⟩) w := by
  obtain ⟨hl, hor⟩ := h
  rw [byteCells_length, Nat.mul_one] at hl
  subst hl
  rcases hor with ⟨rfl, h0⟩ | ⟨g, cap, cur, rfl, _, hg, _, _, _, htk⟩
  · obtain rfl : l = [] := List.eq_nil_of_length_eq_zero h0
    exact run_convert_nil_bytes w src dst e 0 hs he hd
  · rw [Nat.mul_one] at htk
    exact run_convert_bytes_back w src dst e _ cap l hs he hd (bytes_of_row hg htk)
end Go.Proofs.YtkgpnlldlekcbaaGreatDoor
namespace Go.Proofs.YtkgpnlldlekcbaaGreatDoor
open Go.RowKit Go.Lib

def hexDg (n : Nat) : UInt8 := if n < 10 then UInt8.ofNat (48 + n) else UInt8.ofNat (87 + n)
def hexL : List UInt8 → List UInt8
  | [] => []
  | c :: l => hexDg (c.toNat / 16) :: hexDg (c.toNat % 16) :: hexL l
/-- The whole text: x, then the digits. -/
def hexT (l : List UInt8) : List UInt8 := 120 :: hexL l
theorem take_snoc (s : ByteArray) (k : Nat) (h : k < s.size) : s.data.toList.take (k + 1) = s.data.toList.take k ++ [s[k]] := by
  rw [List.take_succ_eq_append_getElem (by simpa using h)]; rfl
theorem bc_append (a b : List UInt8) : byteCells (a ++ b) = byteCells a ++ byteCells b := by simp [byteCells]
end Go.Proofs.YtkgpnlldlekcbaaGreatDoor
namespace Go.Proofs.YtkgpnlldlekcbaaGreatDoor
open Go.RowKit Go.Lib

def nameOk (k : Nat) (c : UInt8) : Bool := isLet c || decide (0 < k) && isFig c
def restOk (c : UInt8) : Bool := isLet c || isFig c
def namePre : List UInt8 → Bool
  | [] => true
  | c :: r => isLet c && r.all restOk
def isNameB (l : List UInt8) : Bool := !l.isEmpty && namePre l

theorem namePre_snoc (l : List UInt8) (c : UInt8) : namePre (l ++ [c]) = (namePre l && nameOk l.length c) := by
  cases l with
  | nil => simp [namePre, nameOk]
  | cons d r => simp [namePre, nameOk, restOk, Bool.and_assoc]
theorem namePre_append (a b : List UInt8) (h : namePre a = false) : namePre (a ++ b) = false := by
  cases a with
  | nil => simp [namePre] at h
  | cons d r =>
    simp only [namePre, List.cons_append, List.all_append] at h ⊢
    cases h1 : isLet d <;> cases h2 : r.all restOk <;> simp_all
theorem namePre_take (s : ByteArray) (k : Nat) (h : k < s.size) : namePre (s.data.toList.take (k + 1)) = (namePre (s.data.toList.take k) && nameOk k s[k]) := by
  rw [take_snoc s k h, namePre_snoc]
  rw [List.length_take, Nat.min_eq_left (by simp; omega)]
theorem namePre_no (s : ByteArray) (k : Nat) (h : namePre (s.data.toList.take k) = false) : isNameB s.data.toList = false := by
  have := namePre_append _ (s.data.toList.drop k) h
  rw [List.take_append_drop] at this
  simp [isNameB, this]

set_option maxHeartbeats 400000 in
theorem isNameFits_any (s : ByteArray) (k : Nat) (b : Nat) (w : World) (hk : k < s.size) (_hs : s.size ≤ maxLen) (hc : w.cell? ⟨b, 0, none⟩ = some (.string s)) :
    Calls Tryz.prog 156 #[.int .i64 (k : Int), .pointer (some ⟨b, 0, none⟩)] w fun e w' => e = .returned (.bool (nameOk k s[k])) ∧ w = w' := by
  unfold maxLen at _hs
  obtain ⟨c, hcc⟩ : ∃ c, s[k] = c := ⟨_, rfl⟩
  rw [hcc]
  cases hl : isLet c <;> cases hf : isFig c <;> by_cases h0 : 0 < k
  all_goals
    have HL := Lib.hid hl
    have HF := Lib.hid hf
    go_enter Tryz.func156, Tryz.ntmps156
    go_wp2_with (first | (go_at_call 157; refine (isLetter_any _ _).mono ?_; rintro e w' ⟨rfl, rfl⟩) | (go_at_call 158; refine (isFigure_any _ _).mono ?_; rintro e w' ⟨rfl, rfl⟩))
    go_ret
    refine ⟨ret_bool ?_, rfl⟩
    simp [nameOk, HL.out, HF.out, h0]

set_option maxHeartbeats 400000 in
theorem isName_any (s : ByteArray) (w : World) (hs : s.size ≤ 70000000000000) :
    Calls Tryz.prog 143 #[.string s] w fun e w' => e = .returned (.bool (isNameB s.data.toList)) ∧ Below w.heap.size w w' := by
  have hcl : (w.alloc (.cells #[.string s] 9)).cell? ⟨w.heap.size, 0, none⟩ = some (.string s) := by simp
  go_enter Tryz.func143, Tryz.ntmps143
  go_wp2
  go_loop [8] (fun i => ∃ k : Nat, k ≤ s.size ∧ i = .int .i64 k ∧ namePre (s.data.toList.take k) = true) (fun i => s.size - (RowKit.intOf i).toNat)
  case atStart => exact ⟨0, Nat.zero_le _, rfl, rfl⟩
  case round =>
    obtain ⟨k, hk, rfl, hpre⟩ := hrel
    have HP := Lib.hid hpre
    clear hpre
    by_cases hlt : k < s.size
    · have hsn := Lib.hid (namePre_take s k hlt)
      have hfit := isNameFits_any s k w.heap.size (w.alloc (.cells #[.string s] 9)) hlt (by unfold maxLen; omega) hcl
      cases hn : nameOk k s[k]
      · rw [hn] at hfit
        have HN := Lib.hid hn
        clear hn
        go_wp2_with (go_at_call 156; refine hfit.mono ?_; rintro e w' ⟨rfl, rfl⟩)
        go_ret
        refine ⟨ret_bool ?_, (Below.refl _ _).alloc (Nat.le_refl _) _⟩
        rw [namePre_no s (k + 1) (by rw [hsn.out, HN.out]; simp)]
      · rw [hn] at hfit
        have HN := Lib.hid hn
        clear hn
        go_wp2_with (go_at_call 156; refine hfit.mono ?_; rintro e w' ⟨rfl, rfl⟩)
        go_round
        case rel => exact ⟨k + 1, by omega, by go_num, by rw [hsn.out, HN.out, HP.out]; rfl⟩
        case measure => simp [RowKit.intOf]; omega
    · have hall : s.data.toList.take k = s.data.toList := List.take_of_length_le (by simp; omega)
      have HA := Lib.hid hall
      clear hall
      go_wp2
      all_goals
        go_ret
        refine ⟨ret_bool ?_, (Below.refl _ _).alloc (Nat.le_refl _) _⟩
        have := HP.out
        rw [HA.out] at this
        simp [isNameB, this, ByteArray.toList_eq]
end Go.Proofs.YtkgpnlldlekcbaaGreatDoor
namespace Go.Proofs.YtkgpnlldlekcbaaGreatDoor
open Go.RowKit Go.Lib

def figV (c : UInt8) : Nat := c.toNat - 48
def natOf (l : List UInt8) : Nat := l.foldl (fun a c => 10 * a + figV c) 0
theorem natOf_snoc (l : List UInt8) (c : UInt8) : natOf (l ++ [c]) = 10 * natOf l + figV c := by simp [natOf]
theorem natOf_le_foldl (b : List UInt8) : ∀ x : Nat, x ≤ b.foldl (fun a c => 10 * a + figV c) x := by
  induction b with
  | nil => intro x; exact Nat.le_refl _
  | cons c b ih => intro x; exact Nat.le_trans (by omega) (ih (10 * x + figV c))
theorem natOf_mono (a b : List UInt8) : natOf a ≤ natOf (a ++ b) := by
  unfold natOf; rw [List.foldl_append]; exact natOf_le_foldl b _

/-- The figures that a text begins with. -/
def figs (l : List UInt8) : List UInt8 := l.takeWhile isFig
theorem figs_stop (a r : List UInt8) (c : UInt8) (ha : a.all isFig = true) (hc : isFig c = false) : figs (a ++ c :: r) = a := by
  unfold figs
  induction a with
  | nil => simp [hc]
  | cons d a ih =>
    simp only [List.all_cons, Bool.and_eq_true] at ha
    simp [ha.1, ih ha.2]
theorem figs_all (a : List UInt8) (ha : a.all isFig = true) : figs a = a := by
  unfold figs
  induction a with
  | nil => rfl
  | cons d a ih =>
    simp only [List.all_cons, Bool.and_eq_true] at ha
    simp [List.takeWhile, ha.1, ih ha.2]
theorem figs_isFig (l : List UInt8) : (figs l).all isFig = true := by
  unfold figs
  induction l with
  | nil => rfl
  | cons d a ih =>
    cases h : isFig d
    · simp [List.takeWhile, h]
    · simp only [List.takeWhile, h, List.all_cons, Bool.true_and]; exact ih
theorem figs_prefix (l : List UInt8) : figs l = l.take (figs l).length := by
  unfold figs
  induction l with
  | nil => rfl
  | cons d a ih =>
    cases h : isFig d
    · simp [List.takeWhile, h]
    · simp only [List.takeWhile, h, List.length_cons, List.take_succ_cons, List.cons.injEq, true_and]; exact ih
theorem figs_length_le (l : List UInt8) : (figs l).length ≤ l.length := by
  have := congrArg List.length (figs_prefix l)
  rw [List.length_take] at this; omega
/-- Where a text's figures end. -/
theorem figs_at (s : ByteArray) (k : Nat) (hk : k < s.size) (ha : (s.data.toList.take k).all isFig = true) (hc : isFig s[k] = false) : (figs s.data.toList).length = k := by
  have h1 : s.data.toList = s.data.toList.take k ++ s[k] :: s.data.toList.drop (k + 1) := by
    conv => lhs; rw [← List.take_append_drop k s.data.toList]
    rw [List.drop_eq_getElem_cons (by rw [Array.length_toList]; exact hk)]; rfl
  rw [h1, figs_stop _ _ _ ha hc, List.length_take, Array.length_toList]
  exact Nat.min_eq_left (Nat.le_of_lt hk)
theorem figs_whole (s : ByteArray) (ha : s.data.toList.all isFig = true) : (figs s.data.toList).length = s.size := by
  rw [figs_all _ ha, Array.length_toList]; rfl

/-- Where the number begins: behind a sign. -/
def isNeg (l : List UInt8) : Bool := l.head? == some 45
def afterSign (l : List UInt8) : List UInt8 := if isNeg l then l.tail else l
/-- What a text's beginning tells: the number, how many bytes it takes, and why not. -/
def wholeD (l : List UInt8) : Int × Int × Int :=
  if figs (afterSign l) = [] then (0, 0, 2)
  else if isNeg l then
    (if natOf (figs (afterSign l)) ≤ 9223372036854775808 then (-(natOf (figs (afterSign l)) : Int), (figs (afterSign l)).length + 1, 0) else (0, 0, 3))
  else
    (if natOf (figs (afterSign l)) ≤ 9223372036854775807 then ((natOf (figs (afterSign l)) : Int), (figs (afterSign l)).length, 0) else (0, 0, 3))
end Go.Proofs.YtkgpnlldlekcbaaGreatDoor
namespace Go.Proofs.YtkgpnlldlekcbaaGreatDoor
open Go.RowKit Go.Lib

set_option maxHeartbeats 400000 in
theorem count_any (s : ByteArray) (w : World) (hs : s.size ≤ 70000000000000) :
    Calls Tryz.prog 153 #[.string s] w fun e w' => e = .returned (.int .i64 ((figs s.data.toList).length : Int)) ∧ w = w' := by
  go_enter Tryz.func153, Tryz.ntmps153
  go_wp2
  go_loop [6] (fun i => ∃ k : Nat, k ≤ s.size ∧ i = .int .i64 k ∧ Hid ((s.data.toList.take k).all isFig = true)) (fun i => s.size - (RowKit.intOf i).toNat)
  case atStart => exact ⟨0, Nat.zero_le _, rfl, rfl⟩
  case round =>
    obtain ⟨k, hk, rfl, HP⟩ := hrel
    by_cases hlt : k < s.size
    · have HT := Lib.hid (take_snoc s k hlt)
      have HE := Lib.hid (figs_at s k hlt HP.out)
      obtain ⟨c, hc⟩ : ∃ c, s[k] = c := ⟨_, rfl⟩
      rw [hc] at HT HE
      have cf := fun w => isFigure_any c w
      generalize hb : isFig c = b at cf HE
      have HB := Lib.hid hb
      clear hb
      cases b
      · go_wp2_with (go_at_call 158; refine (cf _).mono ?_; rintro e w' ⟨rfl, rfl⟩)
        go_ret
        exact ⟨ret_int (by rw [HE.out (by simp)]), rfl⟩
      · go_wp2_with (go_at_call 158; refine (cf _).mono ?_; rintro e w' ⟨rfl, rfl⟩)
        go_round
        case rel =>
          refine ⟨k + 1, by omega, by go_num, ?_⟩
          show (s.data.toList.take (k + 1)).all isFig = true
          rw [HT.out, List.all_append, HP.out]
          simp [HB.out]
        case measure => simp [RowKit.intOf]; omega
    · have HA := Lib.hid (show s.data.toList.all isFig = true by
        have := HP.out
        rw [List.take_of_length_le (by rw [Array.length_toList]; exact Nat.le_of_not_lt hlt)] at this
        exact this)
      go_wp2
      go_ret
      exact ⟨ret_int (by rw [figs_whole s HA.out]), rfl⟩

theorem fig_bounds (c : UInt8) (h : isFig c = true) : 48 ≤ (c.toNat : Int) ∧ (c.toNat : Int) ≤ 57 := by
  unfold isFig at h
  simpa only [Bool.and_eq_true, decide_eq_true_eq] using h
theorem all_at (s : ByteArray) (k : Nat) (hk : k < s.size) (h : s.data.toList.all isFig = true) : isFig s[k] = true := by
  rw [List.all_eq_true] at h
  exact h _ (List.getElem_mem (by rw [Array.length_toList]; exact hk))

/-- What size answers. -/
def sizeE (n m : Int) : Ending := .returned (.tuple (if n ≤ m then #[.int .u64 n, .bool true] else #[.int .u64 0, .bool false]))
theorem sizeE_yes {n m : Int} (h : n ≤ m) : Ending.returned (.tuple #[.int .u64 n, .bool true]) = sizeE n m := by unfold sizeE; rw [if_pos h]
theorem sizeE_no {n m : Int} (h : m < n) : Ending.returned (.tuple #[.int .u64 0, .bool false]) = sizeE n m := by unfold sizeE; rw [if_neg (by omega)]

set_option maxHeartbeats 400000 in
theorem size_any (s : ByteArray) (m : Int) (w : World) (hs : s.size ≤ 70000000000000) (hf : s.data.toList.all isFig = true) (hm0 : 9 ≤ m) (hm1 : m ≤ 9223372036854775808) :
    Calls Tryz.prog 154 #[.string s, .int .u64 m] w fun e w' =>
      e = sizeE (natOf s.data.toList : Int) m ∧ w = w' := by
  have HF := Lib.hid hf
  clear hf
  go_enter Tryz.func154, Tryz.ntmps154
  go_wp2
  go_loop [6, 11] (fun n i => ∃ (k : Nat) (a : Int), k ≤ s.size ∧ i = .int .i64 k ∧ n = .int .u64 a ∧ Hid (a = natOf (s.data.toList.take k)) ∧ 0 ≤ a ∧ a ≤ m) (fun _ i => s.size - (RowKit.intOf i).toNat)
  case atStart => exact ⟨0, 0, Nat.zero_le _, rfl, rfl, rfl, Int.le_refl _, by omega⟩
  case round =>
    obtain ⟨k, a, hk, rfl, rfl, HA, ha0, ham⟩ := hrel
    by_cases hlt : k < s.size
    · have HS := Lib.hid (natOf_snoc (s.data.toList.take k) s[k])
      have HT := Lib.hid (take_snoc s k hlt)
      have hc := fig_bounds _ (all_at s k hlt HF.out)
      have HL : Hid (natOf (s.data.toList.take (k + 1)) ≤ natOf s.data.toList) := by
        have := natOf_mono (s.data.toList.take (k + 1)) (s.data.toList.drop (k + 1))
        rw [List.take_append_drop] at this; exact this
      obtain ⟨z, hz⟩ : ∃ z : Int, (s[k].toNat : Int) = z := ⟨_, rfl⟩
      rw [hz] at hc
      have HZ : Hid ((figV s[k] : Int) = z - 48) := by
        show (figV s[k] : Int) = z - 48
        unfold figV; omega
      obtain ⟨hc0, hc1⟩ := hc
      by_cases ho : (m - (z - 48)) / 10 < a
      · have HO : Hid (m < (natOf s.data.toList : Int)) := by
          show m < (natOf s.data.toList : Int)
          have h1 := HL.out
          rw [HT.out, HS.out] at h1
          have h2 := HA.out
          have h3 := HZ.out
          omega
        go_wp2
        go_ret2
        exact ⟨sizeE_no HO.out, rfl⟩
      · have h9 : 0 ≤ 10 * a + (z - 48) := by omega
        have h10 : 10 * a + (z - 48) ≤ m := by omega
        go_wp2
        go_round
        case rel =>
          refine ⟨k + 1, 10 * a + (z - 48), by omega, by go_num, rfl, ?_, h9, h10⟩
          show _ = ((natOf (s.data.toList.take (k + 1)) : Nat) : Int)
          rw [HT.out, HS.out]
          have h2 := HA.out
          have h3 := HZ.out
          omega
        case measure => simp [RowKit.intOf]; omega
    · have HX := Lib.hid (show a = natOf s.data.toList by
        have := HA.out
        rw [List.take_of_length_le (by rw [Array.length_toList]; exact Nat.le_of_not_lt hlt)] at this
        exact this)
      go_wp2
      go_ret2
      rw [← HX.out]
      exact ⟨sizeE_yes ham, rfl⟩
end Go.Proofs.YtkgpnlldlekcbaaGreatDoor
namespace Go.Proofs.YtkgpnlldlekcbaaGreatDoor
open Go.RowKit Go.Lib

/-- What Whole answers. -/
def wholeE (l : List UInt8) : Ending := .returned (.tuple #[.int .i64 (wholeD l).1, .int .i64 (wholeD l).2.1, .int .i64 (wholeD l).2.2])
theorem wholeE_none {l : List UInt8} (h : (figs (afterSign l)).length = 0) : Ending.returned (.tuple #[.int .i64 0, .int .i64 0, .int .i64 2]) = wholeE l := by
  unfold wholeE wholeD; rw [if_pos (List.eq_nil_of_length_eq_zero h)]
theorem wholeE_neg_over {l : List UInt8} (h : (figs (afterSign l)).length ≠ 0) (hn : isNeg l = true) (ho : (9223372036854775808 : Int) < (natOf (figs (afterSign l)) : Int)) : Ending.returned (.tuple #[.int .i64 0, .int .i64 0, .int .i64 3]) = wholeE l := by
  unfold wholeE wholeD; rw [if_neg (by intro e; rw [e] at h; exact h rfl), if_pos hn, if_neg (by omega)]
theorem wholeE_neg {l : List UInt8} (h : (figs (afterSign l)).length ≠ 0) (hn : isNeg l = true) (ho : (natOf (figs (afterSign l)) : Int) ≤ 9223372036854775808) (k : Int) (hk : k = ((figs (afterSign l)).length : Int) + 1) (v : Int) (hv : v = -(natOf (figs (afterSign l)) : Int)) : Ending.returned (.tuple #[.int .i64 v, .int .i64 k, .int .i64 0]) = wholeE l := by
  unfold wholeE wholeD; rw [if_neg (by intro e; rw [e] at h; exact h rfl), if_pos hn, if_pos (by omega), hk, hv]
theorem wholeE_pos_over {l : List UInt8} (h : (figs (afterSign l)).length ≠ 0) (hn : isNeg l = false) (ho : (9223372036854775807 : Int) < (natOf (figs (afterSign l)) : Int)) : Ending.returned (.tuple #[.int .i64 0, .int .i64 0, .int .i64 3]) = wholeE l := by
  unfold wholeE wholeD; rw [if_neg (by intro e; rw [e] at h; exact h rfl), if_neg (by rw [hn]; simp), if_neg (by omega)]
theorem wholeE_pos {l : List UInt8} (h : (figs (afterSign l)).length ≠ 0) (hn : isNeg l = false) (ho : (natOf (figs (afterSign l)) : Int) ≤ 9223372036854775807) (k : Int) (hk : k = ((figs (afterSign l)).length : Int)) (v : Int) (hv : v = (natOf (figs (afterSign l)) : Int)) : Ending.returned (.tuple #[.int .i64 v, .int .i64 k, .int .i64 0]) = wholeE l := by
  unfold wholeE wholeD; rw [if_neg (by intro e; rw [e] at h; exact h rfl), if_neg (by rw [hn]; simp), if_pos (by omega), hk, hv]

theorem isEmpty_size (s : ByteArray) : s.data.toList.isEmpty = decide (s.size = 0) := by
  rw [Bool.eq_iff_iff, List.isEmpty_iff, decide_eq_true_iff, ← List.length_eq_zero_iff, Array.length_toList]
  exact Iff.rfl
/-- The two pieces that Whole cuts out of its text: behind the sign, and the figures. -/
theorem tail_of (s : ByteArray) (_h : 0 < s.size) : (s.extract 1 s.size).data.toList = s.data.toList.tail := by
  rw [Lib.extract_data]
  have : s.size = s.data.toList.length := by rw [Array.length_toList]; rfl
  rw [this, List.drop_one, List.take_of_length_le]
  rw [List.length_tail]; omega

set_option maxHeartbeats 400000 in
theorem whole_any (s : ByteArray) (w : World) (hs : s.size ≤ 70000000000000) :
    Calls Tryz.prog 141 #[.string s] w fun e w' => e = wholeE s.data.toList ∧ w = w' := by
  by_cases h0 : s.size = 0
  · have he1 : s.toList.isEmpty = true := by rw [ByteArray.toList_eq, isEmpty_size, decide_eq_true h0]
    have hl : s.data.toList = [] := List.eq_nil_of_length_eq_zero (by rw [Array.length_toList]; exact h0)
    have HW := Lib.hid (wholeE_none (l := s.data.toList) (by rw [hl]; rfl))
    have k1 : ∀ w, Calls Tryz.prog 153 #[.string ByteArray.empty] w fun e w' => e = .returned (.int .i64 0) ∧ w = w' := fun w => count_any ByteArray.empty w (by decide)
    clear hl
    go_enter Tryz.func141, Tryz.ntmps141
    go_wp2_with (go_at_call 153; refine (k1 _).mono ?_; rintro e w' ⟨rfl, rfl⟩)
    go_ret3
    exact ⟨HW.out, rfl⟩
  · have he1 : s.toList.isEmpty = false := by rw [ByteArray.toList_eq, isEmpty_size, decide_eq_false h0]
    have hpos : 0 < s.size := by omega
    have hlen : s.size = s.data.toList.length := by rw [Array.length_toList]; rfl
    have hh : s.data.toList.head? = some s[0] := by
      rw [List.head?_eq_getElem?, List.getElem?_eq_getElem (by rw [← hlen]; exact hpos)]; rfl
    by_cases hx : ((s[0].toNat : Int) == 45) = true
    · have hneg : isNeg s.data.toList = true := by
        unfold isNeg; rw [hh]
        have : s[0] = 45 := UInt8.toNat_inj.1 (by simp at hx; have : s[0].toNat = 45 := by omega
                                                  exact this)
        rw [this]; rfl
      have hT := tail_of s hpos
      have haft : afterSign s.data.toList = s.data.toList.tail := by unfold afterSign; rw [if_pos hneg]
      rw [← haft] at hT
      have hle := figs_length_le (afterSign s.data.toList)
      rw [← hT, Array.length_toList] at hle
      have hts : (s.extract 1 s.size).size = s.size - 1 := by rw [ByteArray.size_extract]; omega
      have hle2 : (figs (s.extract 1 s.size).data.toList).length ≤ s.size - 1 := by rw [← hts]; exact hle
      have k1 := fun w => count_any (s.extract 1 s.size) w (by rw [hts]; omega)
      rw [hT] at k1 hle2
      have hF : ∀ m, m = (figs (afterSign s.data.toList)).length → (s.extract 1 (1 + m)).data.toList = figs (afterSign s.data.toList) := by
        intro m hm
        rw [Lib.extract_data, List.drop_one, ← haft, hm, Nat.add_sub_cancel_left]
        exact (figs_prefix _).symm
      have w0 := wholeE_none (l := s.data.toList)
      have w1 := wholeE_neg_over (l := s.data.toList)
      have w2 := wholeE_neg (l := s.data.toList)
      have k2 : ∀ m : Nat, m = (figs (afterSign s.data.toList)).length → ∀ w, Calls Tryz.prog 154 #[.string (s.extract 1 (1 + m)), .int .u64 9223372036854775808] w fun e w' => e = sizeE (natOf (figs (afterSign s.data.toList)) : Int) 9223372036854775808 ∧ w = w' := by
        intro m hm w
        have := size_any (s.extract 1 (1 + m)) 9223372036854775808 w (by rw [ByteArray.size_extract]; omega) (by rw [hF m hm]; exact figs_isFig _) (by omega) (by omega)
        rw [hF m hm] at this
        exact this
      generalize hm : (figs (afterSign s.data.toList)).length = m at k1 k2 hle2 w0 w1 w2
      have k3 := k2 m rfl
      generalize hN : (natOf (figs (afterSign s.data.toList)) : Int) = N at k3 w1 w2
      have hN0 : 0 ≤ N := by omega
      clear k2 hF hT hts hle haft hh hm hN hlen
      have W0 := Lib.hid w0
      have W1 := Lib.hid w1
      have W2 := Lib.hid w2
      have HNEG := Lib.hid hneg
      clear w0 w1 w2 hneg
      by_cases hm0 : m = 0
      · subst hm0
        go_enter Tryz.func141, Tryz.ntmps141
        go_wp2_with (go_at_call 153; refine (k1 _).mono ?_; rintro e w' ⟨rfl, rfl⟩)
        go_ret3
        exact ⟨W0.out (by simp), rfl⟩
      · have hmb : (((m : Nat) : Int) == 0) = false := by simp; omega
        by_cases ho : N ≤ 9223372036854775808
        · rw [← sizeE_yes ho] at k3
          have hw1 : IntKind.i64.wrap (IntKind.u64.wrap (-N)) = -N := by
            rw [IntKind.wrap_i64, show IntKind.u64.wrap (-N) = (-N) % 18446744073709551616 by simp [IntKind.wrap, IntKind.bits, IntKind.signed]]
            omega
          have HO := Lib.hid ho
          clear ho
          go_enter Tryz.func141, Tryz.ntmps141
          go_wp2_with (first | (go_at_call 153; refine (k1 _).mono ?_; rintro e w' ⟨rfl, rfl⟩) | (go_at_call 154; refine (k3 _).mono ?_; rintro e w' ⟨rfl, rfl⟩))
          go_ret3
          exact ⟨W2.out hm0 HNEG.out HO.out _ (by omega) _ rfl, rfl⟩
        · rw [← sizeE_no (show (9223372036854775808 : Int) < N by omega)] at k3
          have HO := Lib.hid ho
          clear ho
          go_enter Tryz.func141, Tryz.ntmps141
          go_wp2_with (first | (go_at_call 153; refine (k1 _).mono ?_; rintro e w' ⟨rfl, rfl⟩) | (go_at_call 154; refine (k3 _).mono ?_; rintro e w' ⟨rfl, rfl⟩))
          go_ret3
          exact ⟨W1.out hm0 HNEG.out (by have := HO.out; omega), rfl⟩
    · rw [Bool.not_eq_true] at hx
      have hneg : isNeg s.data.toList = false := by
        unfold isNeg; rw [hh]
        cases hb : (some s[0] == some (45 : UInt8)) with
        | false => rfl
        | true =>
          have : s[0] = 45 := by simpa using hb
          rw [this] at hx
          exact absurd hx (by decide)
      have haft : afterSign s.data.toList = s.data.toList := by unfold afterSign; rw [if_neg (by rw [hneg]; simp)]
      have hle2 := figs_length_le (afterSign s.data.toList)
      rw [haft, ← hlen] at hle2
      have k1 := fun w => count_any s w hs
      have hF : ∀ m, m = (figs s.data.toList).length → (s.extract 0 m).data.toList = figs s.data.toList := by
        intro m hm
        rw [Lib.extract_data, List.drop_zero, hm, Nat.sub_zero]
        exact (figs_prefix _).symm
      have w0 := wholeE_none (l := s.data.toList)
      have w1 := wholeE_pos_over (l := s.data.toList)
      have w2 := wholeE_pos (l := s.data.toList)
      rw [haft] at w0 w1 w2
      have k2 : ∀ m : Nat, m = (figs s.data.toList).length → ∀ w, Calls Tryz.prog 154 #[.string (s.extract 0 m), .int .u64 9223372036854775807] w fun e w' => e = sizeE (natOf (figs s.data.toList) : Int) 9223372036854775807 ∧ w = w' := by
        intro m hm w
        have := size_any (s.extract 0 m) 9223372036854775807 w (by rw [ByteArray.size_extract]; omega) (by rw [hF m hm]; exact figs_isFig _) (by omega) (by omega)
        rw [hF m hm] at this
        exact this
      generalize hm : (figs s.data.toList).length = m at k1 k2 hle2 w0 w1 w2
      have k3 := k2 m rfl
      generalize hN : (natOf (figs s.data.toList) : Int) = N at k3 w1 w2
      have hN0 : 0 ≤ N := by omega
      clear k2 hF haft hh hm hN hlen
      have W0 := Lib.hid w0
      have W1 := Lib.hid w1
      have W2 := Lib.hid w2
      have HNEG := Lib.hid hneg
      clear w0 w1 w2 hneg
      by_cases hm0 : m = 0
      · subst hm0
        go_enter Tryz.func141, Tryz.ntmps141
        go_wp2_with (go_at_call 153; refine (k1 _).mono ?_; rintro e w' ⟨rfl, rfl⟩)
        go_ret3
        exact ⟨W0.out (by simp), rfl⟩
      · have hmb : (((m : Nat) : Int) == 0) = false := by simp; omega
        by_cases ho : N ≤ 9223372036854775807
        · rw [← sizeE_yes ho] at k3
          have hw1 : IntKind.i64.wrap N = N := by rw [IntKind.wrap_i64]; omega
          have HO := Lib.hid ho
          clear ho
          go_enter Tryz.func141, Tryz.ntmps141
          go_wp2_with (first | (go_at_call 153; refine (k1 _).mono ?_; rintro e w' ⟨rfl, rfl⟩) | (go_at_call 154; refine (k3 _).mono ?_; rintro e w' ⟨rfl, rfl⟩))
          go_ret3
          exact ⟨W2.out hm0 HNEG.out HO.out _ (by omega) _ rfl, rfl⟩
        · rw [← sizeE_no (show (9223372036854775807 : Int) < N by omega)] at k3
          have HO := Lib.hid ho
          clear ho
          go_enter Tryz.func141, Tryz.ntmps141
          go_wp2_with (first | (go_at_call 153; refine (k1 _).mono ?_; rintro e w' ⟨rfl, rfl⟩) | (go_at_call 154; refine (k3 _).mono ?_; rintro e w' ⟨rfl, rfl⟩))
          go_ret3
          exact ⟨W1.out hm0 HNEG.out (by have := HO.out; omega), rfl⟩
end Go.Proofs.YtkgpnlldlekcbaaGreatDoor
