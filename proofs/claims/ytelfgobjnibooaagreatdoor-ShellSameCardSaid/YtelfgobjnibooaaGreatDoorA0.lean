/- Packed texts: HexLeaf, HexMem, ShLaidTwo, HexMath, HexName, ShSpec, ShNice. What each of them proves stands above its theorems; the conditions stand in these. -/
import Derived.Deep.RegionLaw
import Derived.LaidMore
import Derived.Lay
import Derived.Lib.BufferRead
import Derived.Lib.Hide
import Derived.OpenShut
import Derived.ProofKit
import Derived.SevenTiedAt
import Derived.ShutString
import Derived.SizedLaws
import Derived.Stop.Joined
import Derived.Stop.LaidErr
import Derived.Test.YtelfgobjnibooaaGreatDoorProg
import Derived.Test.YtelfgobjnibooaaGreatDoorRows
import Derived.WalkKit
import Derived.WalkLawsBesides
import Derived.WalkSpells
namespace Go.Proofs.YtelfgobjnibooaaGreatDoor
open Go.RowKit
def isFig (c : UInt8) : Bool := decide (48 ≤ (c.toNat : Int)) && decide ((c.toNat : Int) ≤ 57)
def isLet (c : UInt8) : Bool := (decide (65 ≤ (c.toNat : Int)) && decide ((c.toNat : Int) ≤ 90) || decide (97 ≤ (c.toNat : Int)) && decide ((c.toNat : Int) ≤ 122)) || decide ((c.toNat : Int) = 95)
theorem ret_bool {a b : Bool} (h : a = b) : Ending.returned (.bool a) = .returned (.bool b) := by rw [h]
set_option maxHeartbeats 400000 in
theorem isFigure_any (c : UInt8) (w : World) :
  Calls Tryz.prog 97 #[.int .u8 (c.toNat : Int)] w fun e w' => e = .returned (.bool (isFig c)) ∧ w = w' := by
 go_enter Tryz.func97, Tryz.ntmps97
 go_wp2
 all_goals
  go_ret
  refine ⟨ret_bool ?_, rfl⟩
  simp [isFig]
  try omega
set_option maxHeartbeats 400000 in
theorem isLetter_any (c : UInt8) (w : World) :
  Calls Tryz.prog 96 #[.int .u8 (c.toNat : Int)] w fun e w' => e = .returned (.bool (isLet c)) ∧ w = w' := by
 go_enter Tryz.func96, Tryz.ntmps96
 go_wp2
 all_goals
  go_ret
  refine ⟨ret_bool ?_, rfl⟩
  rw [Bool.eq_iff_iff]
  simp [isLet]
  try omega
end Go.Proofs.YtelfgobjnibooaaGreatDoor
namespace Go.Proofs.YtelfgobjnibooaaGreatDoor
open Go.RowKit Go.Lib
theorem below_draws {B : Nat} {a w : World} (h : Below B a w) (n : Nat) : Below B a (w.drewN n) :=
 h.trans (⟨rfl, rfl, rfl, Nat.le_refl _, fun _ _ => rfl⟩ : Below B w (w.drewN n))
theorem conv_owned {P : Program} {w : World} {B n : Nat} {src dst e : TypeId} {v : Value} {l : List UInt8} (hs : P.underlying src = some (.slice e)) (he : P.underlying e = some (.int .u8)) (hd : P.underlying dst = some .string)
  (h : w.ownsRow B e 1 v n (byteCells l)) : (convert src dst v).run P w = .ok (.string ⟨l.toArray⟩) w := by
 obtain ⟨hl, hor⟩ := h
 rw [byteCells_length, Nat.mul_one] at hl
 subst hl
 rcases hor with ⟨rfl, h0⟩ | ⟨g, cap, cur, rfl, _, hg, _, _, _, htk⟩
 ·obtain rfl : l = [] := List.eq_nil_of_length_eq_zero h0
  exact run_convert_nil_bytes w src dst e 0 hs he hd
 ·rw [Nat.mul_one] at htk
  exact run_convert_bytes_back w src dst e _ cap l hs he hd (bytes_of_row hg htk)
end Go.Proofs.YtelfgobjnibooaaGreatDoor
namespace Go.Proofs.YtelfgobjnibooaaGreatDoor
open Go.ChangeShapes Go.WideShapes Go.ChangeAt Go.RowKit
theorem own : ownKnob Tryz.prog.godebug = none := by kernel_rfl
theorem post_of_below {H : Type} {enc : TypeId × Value → H} {P : Program} {f : Func} {s : ChangeSpec} {apart fresh handsOn again : Bool} {W W' : World} {args : Array Value} {v : Value} {ds gs : List (DataW H)} {before pa pv : List MemPlace}
  (hW : DataW.Whole enc P f.params.toList s.vars apart W args.toList ds gs before)
  (hres : ∀ (b : Nat) (sp : Nat → Bool) (hd : Bool), DataW.TrodAll enc P W' b sp hd f.resultTypes.toList (v.resultList f.resultTypes.size) (s.fn H (ds ++ gs)).results [])
  (hargs : ∀ sp : Nat → Bool, (∀ p ∈ before, sp p.block = true) → DataW.TrodAll enc P W' 0 sp true f.params.toList args.toList (s.fn H (ds ++ gs)).args pa)
  (hvars : ∀ sp : Nat → Bool, (∀ p ∈ before, sp p.block = true) → DataW.TrodVars enc P W' sp s.vars (s.fn H (ds ++ gs)).vars pv)
  (hps : before = pa ++ pv) (hb : Below W.heap.size W W')
  (hok : ∀ (j : Nat) (t : TypeId) (r : Value), f.resultTypes[j]? = some t → (v.resultList f.resultTypes.size)[j]? = some r → Value.okWide P W' .any 0 t r) :
  s.post enc P f apart fresh handsOn again W args v W' := by
 have hlt : ∀ p ∈ before, p.block < W.heap.size := fun p hp => hW.lt p hp
 have hold : ∀ p ∈ before, (fun b => decide (b < W.heap.size)) p.block = true := fun p hp => by simpa using hlt p hp
 refine ⟨ds, gs, before, [], pa, pv, hW, hres _ _ _, hargs _ hold, hvars _ hold, World.keptBut_mono (fun p hp => ⟨hp, ?_⟩) (hb.frame (· ∈ before)), fun _ => ?_⟩
 ·rw [hps, List.mem_append] at hp
  exact Or.inr hp
 ·obtain ⟨_, _, _, _, _, hz, hn⟩ := hW
  refine ⟨hok, _, _, ([] ++ pa) ++ pv, ⟨[] ++ pa, pv, trodAll_append (hargs _ (fun _ _ => rfl)) (hres _ _ _), hvars _ (fun _ _ => rfl), rfl, ?_, ?_⟩, ?_⟩
  ·intro b off hp
   have hin : MemPlace.cell b off ∈ before := by rw [hps]; simpa using hp
   rw [hb.frozen (hlt _ hin)]
   exact hz b off hin
  ·intro ha
   have := hn ha
   rw [hps] at this
   simpa using this
  ·intro p hp _
   rw [hps]
   simpa using hp
def laidTwo : List (String × DataW Unit) := [("unicode/utf8.acceptRanges", Rows.laid_unicode_utf8_acceptRanges), ("unicode/utf8.first", Rows.laid_unicode_utf8_first)]
set_option maxRecDepth 100000 in
theorem door_metTwo (os : Os) (args : Array Value) : laidMetH Tryz.prog laidTwo ((World.laidAll Tryz.prog os laidTwo).forCall (fun _ _ => 0) ⟨#[], args, []⟩).memory := by
 rw [MakeChecks.laidMetH_plain _ _ _ (by kernel_rfl)]
 exact laidMet_laidAll _ (by kernel_rfl) (by kernel_rfl)
end Go.Proofs.YtelfgobjnibooaaGreatDoor
namespace Go.Proofs.YtelfgobjnibooaaGreatDoor
open Go.RowKit Go.Lib
theorem take_snoc (s : ByteArray) (k : Nat) (h : k < s.size) : s.data.toList.take (k + 1) = s.data.toList.take k ++ [s[k]] := by
 rw [List.take_succ_eq_append_getElem (by simpa using h)]; rfl
theorem bc_append (a b : List UInt8) : byteCells (a ++ b) = byteCells a ++ byteCells b := by simp [byteCells]
end Go.Proofs.YtelfgobjnibooaaGreatDoor
namespace Go.Proofs.YtelfgobjnibooaaGreatDoor
open Go.RowKit Go.Lib
def nameOk (k : Nat) (c : UInt8) : Bool := isLet c || decide (0 < k) && isFig c
def restOk (c : UInt8) : Bool := isLet c || isFig c
def namePre : List UInt8 → Bool
 | [] => true
 | c :: r => isLet c && r.all restOk
def isNameB (l : List UInt8) : Bool := !l.isEmpty && namePre l
theorem namePre_snoc (l : List UInt8) (c : UInt8) : namePre (l ++ [c]) = (namePre l && nameOk l.length c) := by
 cases l with
 | nil => simp [namePre, nameOk]
 | cons d r => simp [namePre, nameOk, restOk, Bool.and_assoc]
theorem namePre_append (a b : List UInt8) (h : namePre a = false) : namePre (a ++ b) = false := by
 cases a with
 | nil => simp [namePre] at h
 | cons d r =>
  simp only [namePre, List.cons_append, List.all_append] at h ⊢
  cases h1 : isLet d <;> cases h2 : r.all restOk <;> simp_all
theorem namePre_take (s : ByteArray) (k : Nat) (h : k < s.size) : namePre (s.data.toList.take (k + 1)) = (namePre (s.data.toList.take k) && nameOk k s[k]) := by
 rw [take_snoc s k h, namePre_snoc]
 rw [List.length_take, Nat.min_eq_left (by simp; omega)]
theorem namePre_no (s : ByteArray) (k : Nat) (h : namePre (s.data.toList.take k) = false) : isNameB s.data.toList = false := by
 have := namePre_append _ (s.data.toList.drop k) h
 rw [List.take_append_drop] at this
 simp [isNameB, this]
set_option maxHeartbeats 400000 in
theorem isNameFits_any (s : ByteArray) (k : Nat) (b : Nat) (w : World) (hk : k < s.size) (_hs : s.size ≤ maxLen) (hc : w.cell? ⟨b, 0, none⟩ = some (.string s)) :
  Calls Tryz.prog 95 #[.int .i64 (k : Int), .pointer (some ⟨b, 0, none⟩)] w fun e w' => e = .returned (.bool (nameOk k s[k])) ∧ w = w' := by
 unfold maxLen at _hs
 obtain ⟨c, hcc⟩ : ∃ c, s[k] = c := ⟨_, rfl⟩
 rw [hcc]
 cases hl : isLet c <;> cases hf : isFig c <;> by_cases h0 : 0 < k
 all_goals
  have HL := Lib.hid hl
  have HF := Lib.hid hf
  go_enter Tryz.func95, Tryz.ntmps95
  go_wp2_with (first | (go_at_call 96; refine (isLetter_any _ _).mono ?_; rintro e w' ⟨rfl, rfl⟩) | (go_at_call 97; refine (isFigure_any _ _).mono ?_; rintro e w' ⟨rfl, rfl⟩))
  go_ret
  refine ⟨ret_bool ?_, rfl⟩
  simp [nameOk, HL.out, HF.out, h0]
set_option maxHeartbeats 400000 in
theorem isName_any (s : ByteArray) (w : World) (hs : s.size ≤ 70000000000000) :
  Calls Tryz.prog 71 #[.string s] w fun e w' => e = .returned (.bool (isNameB s.data.toList)) ∧ Below w.heap.size w w' := by
 have hcl : (w.alloc (.cells #[.string s] 9)).cell? ⟨w.heap.size, 0, none⟩ = some (.string s) := by simp
 go_enter Tryz.func71, Tryz.ntmps71
 go_wp2
 go_loop [8] (fun i => ∃ k : Nat, k ≤ s.size ∧ i = .int .i64 k ∧ namePre (s.data.toList.take k) = true) (fun i => s.size - (RowKit.intOf i).toNat)
 case atStart => exact ⟨0, Nat.zero_le _, rfl, rfl⟩
 case round =>
  obtain ⟨k, hk, rfl, hpre⟩ := hrel
  have HP := Lib.hid hpre
  clear hpre
  by_cases hlt : k < s.size
  ·have hsn := Lib.hid (namePre_take s k hlt)
   have hfit := isNameFits_any s k w.heap.size (w.alloc (.cells #[.string s] 9)) hlt (by unfold maxLen; omega) hcl
   cases hn : nameOk k s[k]
   ·rw [hn] at hfit
    have HN := Lib.hid hn
    clear hn
    go_wp2_with (go_at_call 95; refine hfit.mono ?_; rintro e w' ⟨rfl, rfl⟩)
    go_ret
    refine ⟨ret_bool ?_, (Below.refl _ _).alloc (Nat.le_refl _) _⟩
    rw [namePre_no s (k + 1) (by rw [hsn.out, HN.out]; simp)]
   ·rw [hn] at hfit
    have HN := Lib.hid hn
    clear hn
    go_wp2_with (go_at_call 95; refine hfit.mono ?_; rintro e w' ⟨rfl, rfl⟩)
    go_round
    case rel => exact ⟨k + 1, by omega, by go_num, by rw [hsn.out, HN.out, HP.out]; rfl⟩
    case measure => simp [RowKit.intOf]; omega
  ·have hall : s.data.toList.take k = s.data.toList := List.take_of_length_le (by simp; omega)
   have HA := Lib.hid hall
   clear hall
   go_wp2
   all_goals
    go_ret
    refine ⟨ret_bool ?_, (Below.refl _ _).alloc (Nat.le_refl _) _⟩
    have := HP.out
    rw [HA.out] at this
    simp [isNameB, this, ByteArray.toList_eq]
end Go.Proofs.YtelfgobjnibooaaGreatDoor
namespace Go.Proofs.YtelfgobjnibooaaGreatDoor
open Go.RowKit Go.Lib
structure PtX (α : Type) where
 k : Nat
 q : Bool
 s : List UInt8
 t : List UInt8
 l : List α
inductive Co where
 | mk (k : Nat) (n : List (List UInt8)) (v w : List (List (PtX Co))) (a b c : List Co)
abbrev Pt := PtX Co
def Co.k : Co → Nat | .mk k _ _ _ _ _ _ => k
def Co.n : Co → List (List UInt8) | .mk _ n _ _ _ _ _ => n
def Co.v : Co → List (List Pt) | .mk _ _ v _ _ _ _ => v
def Co.w : Co → List (List Pt) | .mk _ _ _ w _ _ _ => w
def Co.a : Co → List Co | .mk _ _ _ _ a _ _ => a
def Co.b : Co → List Co | .mk _ _ _ _ _ b _ => b
def Co.c : Co → List Co | .mk _ _ _ _ _ _ c => c
inductive Rr (α : Type) where
 | ok (x : α) (l : List UInt8)
 | bad (e : Int)
def Rr.bind {α β : Type} (r : Rr α) (f : α → List UInt8 → Rr β) : Rr β := match r with
 | .ok x l => f x l
 | .bad e => .bad e
inductive It (σ β : Type) where
 | go (s : σ)
 | stop (b : β)
def iterF {σ β : Type} (step : σ → List UInt8 → Rr (It σ β)) : Nat → σ → List UInt8 → Rr β
  | 0, _, _ => .bad 0
  | f + 1, s, l => match step s l with
    | .bad e => .bad e
    | .ok (.stop b) r => .ok b r
    | .ok (.go s') r => iterF step f s' r
def iterS {σ β : Type} (step : σ → List UInt8 → Rr (It σ β)) (s : σ) (l : List UInt8) : Rr β := iterF step (l.length + 1) s l
def shMarks : List UInt8 := [32, 9, 59, 10, 39, 34, 36, 92, 124, 38, 60, 62, 40, 41, 96, 42, 63, 91, 93, 123, 125, 126]
def shOpens : List UInt8 := [39, 34, 36, 92]
def shEnds : List UInt8 := [59, 10]
def shBound : List UInt8 := [34, 36, 92, 96]
def shBarred : List UInt8 := [125, 39, 34, 36, 92, 96, 10]
def whiteS (c : UInt8) : Bool := c == 32 || c == 9
def atS (of : List UInt8) : List UInt8 → Bool
 | [] => false
 | c :: _ => of.contains c
def runS (of l : List UInt8) : List UInt8 := l.takeWhile fun c => !of.contains c
def pastS (of l : List UInt8) : List UInt8 := l.dropWhile fun c => !of.contains c
def remS (m : List UInt8) : List UInt8 := if atS [35] m then pastS [10] m else m
def gapS (l : List UInt8) : List UInt8 := remS (l.dropWhile whiteS)
def skipF (of : List UInt8) : Nat → List UInt8 → List UInt8
  | 0, l => l
  | f + 1, l => match gapS l with
    | [] => []
    | c :: r => if of.contains c then skipF of f r else c :: r
def skipS (of l : List UInt8) : List UInt8 := skipF of (l.length + 1) l
def wasS (of l : List UInt8) : Bool := atS of (gapS l)
def keyS (l : List UInt8) : List UInt8 := if atS shOpens (pastS shMarks l) then [] else runS shMarks l
def takeS (t l : List UInt8) : Option (List UInt8) := if t.isPrefixOf l then some (l.drop t.length) else none
def takeKeyS (k l : List UInt8) : Option (List UInt8) := if keyS l = k then some (l.drop k.length) else none
def nameS : List UInt8 → List UInt8
 | [] => []
 | c :: r => if isLet c then c :: r.takeWhile restOk else []
def needS (t l : List UInt8) : Rr Unit := match takeS t l with
 | some r => .ok () r
 | none => .bad 9
def needKey (k l : List UInt8) : Rr Unit := match takeKeyS k l with
 | some r => .ok () r
 | none => .bad 9
def nameR (l : List UInt8) : Rr (List UInt8) := if nameS l = [] then .bad 9 else .ok (nameS l) (l.drop (nameS l).length)
def singleS (l : List UInt8) : Rr (List UInt8) := (needS [39] (pastS [39] l)).bind fun _ r => .ok (runS [39] l) r
structure Sp where
 ps : List Pt
 cur : Option (Bool × List UInt8)
def litP (q : Bool) (s : List UInt8) : Pt := ⟨1, q, s, [], []⟩
def Sp.shut (st : Sp) : List Pt := match st.cur with
 | none => st.ps
 | some (q, t) => st.ps ++ [litP q t]
def Sp.lit (st : Sp) (s : List UInt8) (q : Bool) : Sp := match st.cur with
 | none => ⟨st.ps, some (q, s)⟩
 | some (q', t) => if q' = q then ⟨st.ps, some (q, t ++ s)⟩ else ⟨st.ps ++ [litP q' t], some (q, s)⟩
def Sp.add (st : Sp) (p : Pt) : Sp := ⟨st.shut ++ [p], none⟩
structure Dn where
 lst : List UInt8 → Rr (List Co)
 wds : List UInt8 → Rr (List (List Pt))
abbrev Deeper := Option Dn
def shQuote : List UInt8 := [39, 34, 36, 92, 96]
def recS : Nat → List UInt8 → Option (List UInt8 × List UInt8)
  | _, [] => none
  | o, c :: r => if shQuote.contains c then none
    else if c = 40 then (recS (o + 1) r).map fun p => (c :: p.1, p.2)
    else if c = 41 then match o with
      | 0 => some ([], c :: r)
      | o + 1 => (recS o r).map fun p => (c :: p.1, p.2)
    else (recS o r).map fun p => (c :: p.1, p.2)
def reckS (l : List UInt8) : Rr (List UInt8) := match recS 0 l with
 | none => .bad 9
 | some (s, r) => (needS [41, 41] r).bind fun _ r' => .ok s r'
def withT (q : Bool) (k : Nat) (n l : List UInt8) : Rr Pt := (needS [125] (pastS shBarred l)).bind fun _ r => .ok ⟨k, q, n, runS shBarred l, []⟩ r
def bracedS (q : Bool) (l : List UInt8) : Rr Pt := (nameR l).bind fun n l1 =>
 match takeS [125] l1 with
 | some r => .ok ⟨2, q, n, [], []⟩ r
 | none => match takeS [58, 45] l1 with
 | some r => withT q 3 n r
 | none => match takeS [35] l1 with
 | some r => withT q 5 n r
 | none => match takeS [37] l1 with
 | some r => withT q 6 n r
 | none => .bad 9
def subS (sub : Deeper) (l : List UInt8) : Rr (List Co) := match sub with
 | none => .bad 7
 | some g => g.lst l
def partS (sub : Deeper) (q : Bool) (l : List UInt8) : Rr Pt :=
 match takeS [40, 40] l with
 | some r => (reckS r).bind fun s r' => .ok ⟨8, q, s, [], []⟩ r'
 | none => match takeS [40] l with
 | some r => (subS sub r).bind fun cs r1 => (needS [41] r1).bind fun _ r2 => .ok ⟨7, q, [], [], cs⟩ r2
 | none => match takeS [123, 35] l with
 | some r => (nameR r).bind fun n r1 => (needS [125] r1).bind fun _ r2 => .ok ⟨4, q, n, [], []⟩ r2
 | none => match takeS [123] l with
 | some r => bracedS q r
 | none => (nameR l).bind fun n r => .ok ⟨2, q, n, [], []⟩ r
def dblStep (sub : Deeper) (st : Sp) (l : List UInt8) : Rr (It Sp Sp) :=
 match takeS [34] l with
 | some r => .ok (.stop st) r
 | none => match takeS [36] l with
 | some r => (partS sub true r).bind fun p r' => .ok (.go (st.add p)) r'
 | none => match takeS [92] l with
 | some r => if atS shBound r then .ok (.go (st.lit (r.take 1) true)) (r.drop 1) else .bad 9
 | none => if runS shBound l = [] then .bad 9 else .ok (.go (st.lit (runS shBound l) true)) (pastS shBound l)
def dblS (sub : Deeper) (st : Sp) (l : List UInt8) : Rr Sp := match takeS [34] l with
 | some r => .ok (st.lit [] true) r
 | none => iterS (dblStep sub) st l
def wordStep (sub : Deeper) (st : Sp) (l : List UInt8) : Rr (It Sp (List Pt)) :=
 match takeS [39] l with
 | some r => (singleS r).bind fun s r' => .ok (.go (st.lit s true)) r'
 | none => match takeS [92] l with
 | some r => if r = [] ∨ atS [10] r = true then .bad 9 else .ok (.go (st.lit (r.take 1) true)) (r.drop 1)
 | none => match takeS [34] l with
 | some r => (dblS sub st r).bind fun st' r' => .ok (.go st') r'
 | none => match takeS [36] l with
 | some r => (partS sub false r).bind fun p r' => .ok (.go (st.add p)) r'
 | none => if l = [] ∨ atS shMarks l = true then .ok (.stop st.shut) l else .ok (.go (st.lit (runS shMarks l) false)) (pastS shMarks l)
def wordS (sub : Deeper) (l : List UInt8) : Rr (List Pt) := iterS (wordStep sub) ⟨[], none⟩ l
def wordsStep (sub : Deeper) (ws : List (List Pt)) (l : List UInt8) : Rr (It (List (List Pt)) (List (List Pt))) :=
 (wordS sub (gapS l)).bind fun ps r => if ps = [] then .ok (.stop ws) r else .ok (.go (ws ++ [ps])) r
def wordsS (sub : Deeper) (l : List UInt8) : Rr (List (List Pt)) := iterS (wordsStep sub) [] l
def shKeys : List (List UInt8) := [[105, 102], [116, 104, 101, 110], [101, 108, 115, 101], [102, 105], [119, 104, 105, 108, 101], [100, 111], [100, 111, 110, 101], [102, 111, 114], [105, 110]]
def stopKeys : List (List UInt8) := [[116, 104, 101, 110], [101, 108, 115, 101], [102, 105], [100, 111], [100, 111, 110, 101]]
def assignS (l : List UInt8) : Option (List UInt8 × List UInt8) := if nameS l = [] then none else (takeS [61] (l.drop (nameS l).length)).map fun r => (nameS l, r)
def asgStep (sub : Deeper) (s : List (List UInt8) × List (List Pt)) (l : List UInt8) : Rr (It (List (List UInt8) × List (List Pt)) (List (List UInt8) × List (List Pt))) :=
 match assignS l with
 | none => .ok (.stop s) l
 | some (n, r) => (wordS sub r).bind fun ps r' => .ok (.go (s.1 ++ [n], s.2 ++ [ps])) (gapS r')
def simpleS (sub : Deeper) (l : List UInt8) : Rr Co := (iterS (asgStep sub) ([], []) l).bind fun s r =>
 if shKeys.contains (keyS r) then .bad 9 else (wordsS sub r).bind fun ws r' =>
 if s.1 = [] ∧ ws = [] then .bad 9 else .ok (.mk 1 s.1 s.2 ws [] [] []) r'
def linesS (g : Dn) (l : List UInt8) : Rr (List Co) := (g.lst l).bind fun cs r => if cs = [] then .bad 9 else .ok cs r
def bodyS (g : Dn) (l : List UInt8) : Rr (List Co) := (needKey [100, 111] l).bind fun _ r => (linesS g r).bind fun cs r1 => (needKey [100, 111, 110, 101] r1).bind fun _ r2 => .ok cs r2
def elseS (g : Dn) (l : List UInt8) : Rr (List Co) := match takeKeyS [101, 108, 115, 101] l with
 | some r => linesS g r
 | none => .ok [] l
def choiceS (g : Dn) (l : List UInt8) : Rr Co := (linesS g l).bind fun a r => (needKey [116, 104, 101, 110] r).bind fun _ r1 => (linesS g r1).bind fun b r2 =>
 (elseS g r2).bind fun c r3 => (needKey [102, 105] r3).bind fun _ r4 => .ok (.mk 4 [] [] [] a b c) r4
def roundsS (g : Dn) (l : List UInt8) : Rr Co := (linesS g l).bind fun a r => (bodyS g r).bind fun b r1 => .ok (.mk 5 [] [] [] a b []) r1
def eachS (g : Dn) (l : List UInt8) : Rr Co := (nameR (gapS l)).bind fun n r => (needKey [105, 110] (gapS r)).bind fun _ r1 => (g.wds r1).bind fun ws r2 =>
 if wasS shEnds r2 = false then .bad 9 else (bodyS g (skipS shEnds r2)).bind fun b r3 => .ok (.mk 6 [n] [] ws [] b []) r3
def withinS (sub : Deeper) (f : Dn → List UInt8 → Rr Co) (l : List UInt8) : Rr Co := match sub with
 | none => .bad 7
 | some g => f g l
def cmdS (sub : Deeper) (l : List UInt8) : Rr Co :=
 if keyS l = [105, 102] then withinS sub choiceS (l.drop 2)
 else if keyS l = [119, 104, 105, 108, 101] then withinS sub roundsS (l.drop 5)
 else if keyS l = [102, 111, 114] then withinS sub eachS (l.drop 3)
 else simpleS sub l
def markS (mk l : List UInt8) : Option (List UInt8) := if mk = [124] ∧ (takeS [124, 124] (gapS l)).isSome = true then none else takeS mk (gapS l)
def behindS (mk l : List UInt8) : List UInt8 := (markS mk l).getD (gapS l)
def rowStep (kind : Nat) (mk : List UInt8) (one : List UInt8 → Rr Co) (fits : Co → Bool) (s : List Co × Co × Bool) (l : List UInt8) : Rr (It (List Co × Co × Bool) Co) :=
 if fits s.2.1 = false then .bad 9
 else if s.2.2 = false then .ok (.stop (.mk kind [] [] [] (s.1 ++ [s.2.1]) [] [])) l
 else (one (skipS [10] l)).bind fun c r => .ok (.go (s.1 ++ [s.2.1], c, (markS mk r).isSome)) (behindS mk r)
def rowS (kind : Nat) (mk : List UInt8) (one : List UInt8 → Rr Co) (fits : Co → Bool) (l : List UInt8) : Rr Co := (one l).bind fun c r =>
 if (markS mk r).isSome = false then .ok c (behindS mk r) else iterS (rowStep kind mk one fits) ([], c, true) (behindS mk r)
def plainC (c : Co) : Bool := c.k == 1 && c.n.isEmpty
def pipeS (sub : Deeper) (l : List UInt8) : Rr Co := rowS 2 [124] (cmdS sub) plainC l
def lineS (sub : Deeper) (l : List UInt8) : Rr Co := rowS 3 [124, 124] (pipeS sub) (fun _ => true) l
def beginsS (l : List UInt8) : Bool := !stopKeys.contains (keyS l) && !l.isEmpty && (atS shOpens l || !atS shMarks l)
def listStep (sub : Deeper) (cs : List Co) (l : List UInt8) : Rr (It (List Co) (List Co)) :=
 if beginsS l = false then .ok (.stop cs) l
 else (lineS sub l).bind fun c r => if wasS shEnds r = false then .ok (.stop (cs ++ [c])) (skipS shEnds r) else .ok (.go (cs ++ [c])) (skipS shEnds r)
def listS (sub : Deeper) (l : List UInt8) : Rr (List Co) := iterS (listStep sub) [] (skipS shEnds l)
def lvl : Nat → Deeper
 | 0 => none
 | k + 1 => some ⟨listS (lvl k), wordsS (lvl k)⟩
def lstS (k : Nat) (l : List UInt8) : Rr (List Co) := listS (lvl k) l
def readSh (l : List UInt8) : List Co × Int := if 1048576 < l.length then ([], 6) else match lstS 30 l with
 | .ok cs r => if r = [] then (cs, 0) else ([], 9)
 | .bad e => ([], e)
theorem shell_shown : readSh [120, 61, 49, 32, 101, 99, 104, 111, 32, 34, 36, 120, 34] = ([.mk 1 [[120]] [[litP false [49]]] [[litP false [101, 99, 104, 111]], [⟨2, true, [120], [], []⟩]] [] [] []], 0) := by rfl
end Go.Proofs.YtelfgobjnibooaaGreatDoor
namespace Go.Proofs.YtelfgobjnibooaaGreatDoor
open Go.RowKit Go.Lib
theorem takeS_some {t l r : List UInt8} (h : takeS t l = some r) : l = t ++ r := by
 unfold takeS at h
 split at h
 ·rename_i hp
  cases h
  exact (List.prefix_iff_eq_append.1 (List.isPrefixOf_iff_prefix.1 hp)).symm
 ·cases h
theorem takeS_app (t r : List UInt8) : takeS t (t ++ r) = some r := by
 unfold takeS
 rw [if_pos (List.isPrefixOf_iff_prefix.2 (List.prefix_append t r)), List.drop_left]
theorem takeS_len {t l r : List UInt8} (h : takeS t l = some r) : l.length = t.length + r.length := by
 rw [takeS_some h, List.length_append]
theorem dropS_len (p : UInt8 → Bool) : ∀ l : List UInt8, (l.dropWhile p).length ≤ l.length
 | [] => Nat.le_refl _
 | c :: l => by
  have := dropS_len p l
  unfold List.dropWhile
  split <;> simp only [List.length_cons] <;> omega
theorem pastS_len (of l : List UInt8) : (pastS of l).length ≤ l.length := dropS_len _ l
theorem run_past (of l : List UInt8) : runS of l ++ pastS of l = l := List.takeWhile_append_dropWhile
theorem run_past_len (of l : List UInt8) : (runS of l).length + (pastS of l).length = l.length := by
 rw [← List.length_append, run_past]
theorem remS_len (l : List UInt8) : (remS l).length ≤ l.length := by
 unfold remS
 split
 ·exact pastS_len _ _
 ·exact Nat.le_refl _
theorem gapS_len (l : List UInt8) : (gapS l).length ≤ l.length := Nat.le_trans (remS_len _) (dropS_len _ l)
theorem skipF_fuel (of : List UInt8) : ∀ (f g : Nat) (l : List UInt8), l.length < f → l.length < g → skipF of f l = skipF of g l
 | 0, _, _, h, _ => by omega
 | _ + 1, 0, _, _, h => by omega
 | f + 1, g + 1, l, h1, h2 => by
  have hg := gapS_len l
  unfold skipF
  cases hl : gapS l with
  | nil => rfl
  | cons c r =>
   rw [hl, List.length_cons] at hg
   dsimp only
   split
   ·exact skipF_fuel of f g r (by omega) (by omega)
   ·rfl
theorem skipS_eq (of l : List UInt8) : skipS of l = match gapS l with
  | [] => []
  | c :: r => if of.contains c then skipS of r else c :: r := by
 have hg := gapS_len l
 have e0 : skipS of l = match gapS l with
  | [] => []
  | c :: r => if of.contains c then skipF of l.length r else c :: r := rfl
 rw [e0]
 cases hl : gapS l with
 | nil => rfl
 | cons c r =>
  rw [hl, List.length_cons] at hg
  dsimp only
  split
  ·exact skipF_fuel of _ _ r (by omega) (by omega)
  ·rfl
theorem skipS_len (of : List UInt8) : ∀ (n : Nat) (l : List UInt8), l.length = n → (skipS of l).length ≤ l.length ∧ (wasS of l = true → (skipS of l).length < l.length) := by
 intro n
 induction n using Nat.strongRecOn with
 | ind n ih =>
  intro l hn
  have hg := gapS_len l
  rw [skipS_eq]
  unfold wasS
  cases hl : gapS l with
  | nil => exact ⟨Nat.zero_le _, fun h => by cases h⟩
  | cons c r =>
   rw [hl, List.length_cons] at hg
   dsimp only
   by_cases hc : of.contains c = true
   ·rw [if_pos hc]
    have := (ih r.length (by omega) r rfl).1
    exact ⟨by omega, fun _ => by omega⟩
   ·rw [if_neg hc]
    exact ⟨by rw [List.length_cons]; omega, fun h => absurd h hc⟩
theorem skip_len (of l : List UInt8) : (skipS of l).length ≤ l.length := (skipS_len of _ l rfl).1
theorem bind_ok {α β : Type} {R : Rr α} {f : α → List UInt8 → Rr β} {x : β} {r : List UInt8} (h : R.bind f = .ok x r) : ∃ y r1, R = .ok y r1 ∧ f y r1 = .ok x r := by
 cases R with
 | ok y r1 => exact ⟨y, r1, rfl, h⟩
 | bad e => cases h
def Nice {α : Type} (l : List UInt8) : Rr α → Prop
 | .ok _ r => r.length ≤ l.length
 | .bad e => e = 7 ∨ e = 9
theorem Nice.mono {α : Type} {l l' : List UInt8} {R : Rr α} (h : Nice l R) (hl : l.length ≤ l'.length) : Nice l' R := by
 cases R with
 | ok x r => exact Nat.le_trans h hl
 | bad e => exact h
theorem Nice.bind {α β : Type} {l : List UInt8} {R : Rr α} {f : α → List UInt8 → Rr β} (h : Nice l R) (k : ∀ x r, R = .ok x r → Nice r (f x r)) : Nice l (R.bind f) := by
 cases R with
 | ok x r => exact (k x r rfl).mono h
 | bad e => exact h
theorem nice9 {α : Type} {l : List UInt8} : Nice l (Rr.bad 9 : Rr α) := .inr rfl
theorem nice7 {α : Type} {l : List UInt8} : Nice l (Rr.bad 7 : Rr α) := .inl rfl
def NiceI {σ β : Type} (l : List UInt8) : Rr (It σ β) → Prop
 | .ok (.go _) r => r.length < l.length
 | .ok (.stop _) r => r.length ≤ l.length
 | .bad e => e = 7 ∨ e = 9
theorem NiceI.nice {σ β : Type} {l : List UInt8} {R : Rr (It σ β)} (h : NiceI l R) : Nice l R := by
  cases R with
  | bad e => exact h
  | ok x r => cases x with
    | go s => exact Nat.le_of_lt h
    | stop b => exact h
theorem NiceI.bind {α σ β : Type} {l l' : List UInt8} {R : Rr α} {f : α → List UInt8 → Rr (It σ β)} (h : Nice l' R) (_hl : l'.length < l.length) (k : ∀ x r, R = .ok x r → r.length ≤ l'.length → NiceI l (f x r)) : NiceI l (R.bind f) := by
 cases R with
 | ok x r => exact k x r rfl h
 | bad e => exact h
theorem iterF_fuel {σ β : Type} {step : σ → List UInt8 → Rr (It σ β)} (hs : ∀ s l, NiceI l (step s l)) : ∀ (f g : Nat) (s : σ) (l : List UInt8), l.length < f → l.length < g → iterF step f s l = iterF step g s l
 | 0, _, _, _, h, _ => by omega
 | _ + 1, 0, _, _, _, h => by omega
 | f + 1, g + 1, s, l, h1, h2 => by
  have h := hs s l
  unfold iterF
  cases hr : step s l with
  | bad e => rfl
  | ok x r =>
   rw [hr] at h
   cases x with
   | stop b => rfl
   | go s' =>
    have h : r.length < l.length := h
    exact iterF_fuel hs f g s' r (by omega) (by omega)
theorem iterS_eq {σ β : Type} {step : σ → List UInt8 → Rr (It σ β)} (hs : ∀ s l, NiceI l (step s l)) (s : σ) (l : List UInt8) : iterS step s l = match step s l with
  | .bad e => .bad e
  | .ok (.stop b) r => .ok b r
  | .ok (.go s') r => iterS step s' r := by
 have h := hs s l
 have e0 : iterS step s l = match step s l with
  | .bad e => .bad e
  | .ok (.stop b) r => .ok b r
  | .ok (.go s') r => iterF step l.length s' r := rfl
 rw [e0]
 cases hr : step s l with
 | bad e => rfl
 | ok x r =>
  rw [hr] at h
  cases x with
  | stop b => rfl
  | go s' => exact iterF_fuel hs _ _ s' r h (Nat.lt_succ_self _)
theorem iter_nice {σ β : Type} {step : σ → List UInt8 → Rr (It σ β)} (hs : ∀ s l, NiceI l (step s l)) : ∀ (n : Nat) (s : σ) (l : List UInt8), l.length = n → Nice l (iterS step s l) := by
 intro n
 induction n using Nat.strongRecOn with
 | ind n ih =>
  intro s l hn
  have h := hs s l
  rw [iterS_eq hs]
  cases hr : step s l with
  | bad e => rw [hr] at h; exact h
  | ok x r =>
   rw [hr] at h
   cases x with
   | stop b => exact h
   | go s' =>
    have h : r.length < l.length := h
    exact (ih r.length (by omega) s' r rfl).mono (Nat.le_of_lt h)
theorem iterS_nice {σ β : Type} {step : σ → List UInt8 → Rr (It σ β)} (hs : ∀ s l, NiceI l (step s l)) (s : σ) (l : List UInt8) : Nice l (iterS step s l) := iter_nice hs _ s l rfl
theorem needS_nice (t l : List UInt8) : Nice l (needS t l) := by
 unfold needS
 cases h : takeS t l with
 | none => exact nice9
 | some r => have := takeS_len h; show r.length ≤ l.length; omega
theorem takeKey_drop {k l r : List UInt8} (h : takeKeyS k l = some r) : r = l.drop k.length := by
 unfold takeKeyS at h
 split at h
 ·cases h; rfl
 ·cases h
theorem needKey_nice (k l : List UInt8) : Nice l (needKey k l) := by
 unfold needKey
 cases h : takeKeyS k l with
 | none => exact nice9
 | some r => have := takeKey_drop h; show r.length ≤ l.length; rw [this, List.length_drop]; omega
theorem nameR_nice (l : List UInt8) : Nice l (nameR l) := by
 unfold nameR
 split
 ·exact nice9
 ·show (l.drop _).length ≤ l.length
  rw [List.length_drop]; omega
theorem singleS_nice (l : List UInt8) : Nice l (singleS l) := by
 unfold singleS
 refine Nice.mono (l := pastS [39] l) ?_ (pastS_len _ _)
 exact (needS_nice _ _).bind fun x r _ => Nat.le_refl _
theorem recS_len : ∀ (l : List UInt8) (o : Nat) (s r : List UInt8), recS o l = some (s, r) → l = s ++ r
 | [], _, _, _, h => by cases h
 | c :: l, o, s, r, h => by
  unfold recS at h
  split at h
  ·cases h
  ·split at h
   ·cases hr : recS (o + 1) l with
    | none => rw [hr] at h; cases h
    | some p => rw [hr] at h; obtain ⟨a, b⟩ := p; cases h; rw [recS_len l _ a b hr]; rfl
   ·split at h
    ·cases o with
     | zero => cases h; rfl
     | succ o =>
      dsimp only at h
      cases hr : recS o l with
      | none => rw [hr] at h; cases h
      | some p => rw [hr] at h; obtain ⟨a, b⟩ := p; cases h; rw [recS_len l _ a b hr]; rfl
    ·cases hr : recS o l with
     | none => rw [hr] at h; cases h
     | some p => rw [hr] at h; obtain ⟨a, b⟩ := p; cases h; rw [recS_len l _ a b hr]; rfl
theorem reckS_nice (l : List UInt8) : Nice l (reckS l) := by
 unfold reckS
 cases h : recS 0 l with
 | none => exact nice9
 | some p =>
  obtain ⟨s, r⟩ := p
  have := recS_len l 0 s r h
  refine Nice.mono (l := r) ?_ (by rw [this, List.length_append]; omega)
  exact (needS_nice _ _).bind fun x r' _ => Nat.le_refl _
theorem withT_nice (q : Bool) (k : Nat) (n l : List UInt8) : Nice l (withT q k n l) := by
 unfold withT
 refine Nice.mono (l := pastS shBarred l) ?_ (pastS_len _ _)
 exact (needS_nice _ _).bind fun x r _ => Nat.le_refl _
theorem bracedS_nice (q : Bool) (l : List UInt8) : Nice l (bracedS q l) := by
 unfold bracedS
 refine (nameR_nice l).bind fun n r _ => ?_
 split
 ·rename_i r1 h; have := takeS_len h; show r1.length ≤ _; omega
 ·split
  ·rename_i r1 h; have := takeS_len h; exact (withT_nice _ _ _ _).mono (by omega)
  ·split
   ·rename_i r1 h; have := takeS_len h; exact (withT_nice _ _ _ _).mono (by omega)
   ·split
    ·rename_i r1 h; have := takeS_len h; exact (withT_nice _ _ _ _).mono (by omega)
    ·exact nice9
def GoodD (sub : Deeper) : Prop := ∀ g, sub = some g → (∀ l, Nice l (g.lst l)) ∧ ∀ l, Nice l (g.wds l)
theorem subS_nice {sub : Deeper} (hg : GoodD sub) (l : List UInt8) : Nice l (subS sub l) := by
 cases sub with
 | none => exact nice7
 | some g => exact (hg g rfl).1 l
theorem partS_nice {sub : Deeper} (hg : GoodD sub) (q : Bool) (l : List UInt8) : Nice l (partS sub q l) := by
 unfold partS
 split
 ·rename_i r h; have := takeS_len h
  exact Nice.mono ((reckS_nice r).bind fun x r' _ => Nat.le_refl _) (by omega)
 ·split
  ·rename_i r h; have := takeS_len h
   exact Nice.mono ((subS_nice hg r).bind fun x r' _ => (needS_nice _ _).bind fun _ _ _ => Nat.le_refl _) (by omega)
  ·split
   ·rename_i r h; have := takeS_len h
    exact Nice.mono ((nameR_nice r).bind fun x r' _ => (needS_nice _ _).bind fun _ _ _ => Nat.le_refl _) (by omega)
   ·split
    ·rename_i r h; have := takeS_len h
     exact (bracedS_nice _ _).mono (by omega)
    ·exact (nameR_nice l).bind fun _ _ _ => Nat.le_refl _
theorem dblStep_nice {sub : Deeper} (hg : GoodD sub) (st : Sp) (l : List UInt8) : NiceI l (dblStep sub st l) := by
 unfold dblStep
 split
 ·rename_i r h; have := takeS_len h; show r.length ≤ _; omega
 ·split
  ·rename_i r h; have := takeS_len h; simp only [List.length_cons, List.length_nil] at this
   exact NiceI.bind (partS_nice hg true r) (by omega) fun x r' _ h2 => by show r'.length < _; omega
  ·split
   ·rename_i r h; have := takeS_len h; simp only [List.length_cons, List.length_nil] at this
    split
    ·show (r.drop 1).length < _; rw [List.length_drop]; omega
    ·exact .inr rfl
   ·split
    ·exact .inr rfl
    ·rename_i h
     have := run_past_len shBound l
     have h2 : (runS shBound l).length ≠ 0 := fun e => h (List.eq_nil_of_length_eq_zero e)
     show (pastS shBound l).length < _; omega
theorem dblS_nice {sub : Deeper} (hg : GoodD sub) (st : Sp) (l : List UInt8) : Nice l (dblS sub st l) := by
 unfold dblS
 split
 ·rename_i r h; have := takeS_len h; show r.length ≤ _; omega
 ·exact iterS_nice (dblStep_nice hg) st l
theorem run_cons {of : List UInt8} {l : List UInt8} (h1 : l ≠ []) (h2 : atS of l = false) : runS of l ≠ [] := by
 cases l with
 | nil => exact absurd rfl h1
 | cons c r =>
  have h2 : of.contains c = false := h2
  unfold runS
  rw [List.takeWhile_cons, h2]
  simp
theorem wordStep_nice {sub : Deeper} (hg : GoodD sub) (st : Sp) (l : List UInt8) : NiceI l (wordStep sub st l) := by
 unfold wordStep
 split
 ·rename_i r h; have := takeS_len h; simp only [List.length_cons, List.length_nil] at this
  exact NiceI.bind (singleS_nice r) (by omega) fun x r' _ h2 => by show r'.length < _; omega
 ·split
  ·rename_i r h; have := takeS_len h; simp only [List.length_cons, List.length_nil] at this
   split
   ·exact .inr rfl
   ·show (r.drop 1).length < _; rw [List.length_drop]; omega
  ·split
   ·rename_i r h; have := takeS_len h; simp only [List.length_cons, List.length_nil] at this
    exact NiceI.bind (dblS_nice hg st r) (by omega) fun x r' _ h2 => by show r'.length < _; omega
   ·split
    ·rename_i r h; have := takeS_len h; simp only [List.length_cons, List.length_nil] at this
     exact NiceI.bind (partS_nice hg false r) (by omega) fun x r' _ h2 => by show r'.length < _; omega
    ·split
     ·exact Nat.le_refl _
     ·rename_i h
      have h1 : l ≠ [] := fun e => h (.inl e)
      have h2 : atS shMarks l = false := by cases hh : atS shMarks l with | false => rfl | true => exact absurd (.inr hh) h
      have := run_past_len shMarks l
      have h3 : (runS shMarks l).length ≠ 0 := fun e => run_cons h1 h2 (List.eq_nil_of_length_eq_zero e)
      show (pastS shMarks l).length < _; omega
theorem wordS_nice {sub : Deeper} (hg : GoodD sub) (l : List UInt8) : Nice l (wordS sub l) := iterS_nice (wordStep_nice hg) _ l
theorem wordS_lt {sub : Deeper} (hg : GoodD sub) {l r : List UInt8} {ps : List Pt} (h : wordS sub l = .ok ps r) (hp : ps ≠ []) : r.length < l.length := by
 have hn := wordStep_nice hg ⟨[], none⟩ l
 unfold wordS at h
 rw [iterS_eq (wordStep_nice hg)] at h
 cases hs : wordStep sub ⟨[], none⟩ l with
 | bad e => rw [hs] at h; cases h
 | ok x r1 =>
  rw [hs] at h hn
  cases x with
  | go s =>
   have hn : r1.length < l.length := hn
   have := iterS_nice (wordStep_nice hg) s r1
   dsimp only at h
   rw [h] at this
   exact Nat.lt_of_le_of_lt this hn
  | stop b =>
   exfalso
   cases h
   unfold wordStep at hs
   split at hs
   ·obtain ⟨_, _, _, h⟩ := bind_ok hs; cases h
   ·split at hs
    ·split at hs <;> cases hs
    ·split at hs
     ·obtain ⟨_, _, _, h⟩ := bind_ok hs; cases h
     ·split at hs
      ·obtain ⟨_, _, _, h⟩ := bind_ok hs; cases h
      ·split at hs
       ·cases hs; exact hp rfl
       ·cases hs
theorem wordsStep_nice {sub : Deeper} (hg : GoodD sub) (ws : List (List Pt)) (l : List UInt8) : NiceI l (wordsStep sub ws l) := by
 unfold wordsStep
 have h := wordS_nice hg (gapS l)
 have hl := gapS_len l
 cases hr : wordS sub (gapS l) with
 | bad e => rw [hr] at h; exact h
 | ok ps r =>
  rw [hr] at h
  have h : r.length ≤ (gapS l).length := h
  show NiceI l (if ps = [] then .ok (.stop ws) r else .ok (.go (ws ++ [ps])) r)
  split
  ·show r.length ≤ _; omega
  ·rename_i hp
   have := wordS_lt hg hr hp
   show r.length < _; omega
theorem wordsS_nice {sub : Deeper} (hg : GoodD sub) (l : List UInt8) : Nice l (wordsS sub l) := iterS_nice (wordsStep_nice hg) _ l
theorem assignS_len {l n r : List UInt8} (h : assignS l = some (n, r)) : r.length < l.length := by
 unfold assignS at h
 split at h
 ·cases h
 ·cases ht : takeS [61] (l.drop (nameS l).length) with
  | none => rw [ht] at h; cases h
  | some r' =>
   rw [ht] at h
   cases h
   have := takeS_len ht
   rw [List.length_drop] at this
   simp only [List.length_cons, List.length_nil] at this
   omega
theorem asgStep_nice {sub : Deeper} (hg : GoodD sub) (s : List (List UInt8) × List (List Pt)) (l : List UInt8) : NiceI l (asgStep sub s l) := by
 unfold asgStep
 split
 ·exact Nat.le_refl _
 ·rename_i n r h
  have := assignS_len h
  exact NiceI.bind (wordS_nice hg r) this fun x r' _ h2 => by have := gapS_len r'; show (gapS r').length < _; omega
theorem simpleS_nice {sub : Deeper} (hg : GoodD sub) (l : List UInt8) : Nice l (simpleS sub l) := by
 unfold simpleS
 refine (iterS_nice (asgStep_nice hg) _ l).bind fun s r _ => ?_
 split
 ·exact nice9
 ·refine (wordsS_nice hg r).bind fun ws r' _ => ?_
  split
  ·exact nice9
  ·exact Nat.le_refl _
def GoodG (g : Dn) : Prop := (∀ l, Nice l (g.lst l)) ∧ ∀ l, Nice l (g.wds l)
theorem linesS_nice {g : Dn} (hg : GoodG g) (l : List UInt8) : Nice l (linesS g l) := by
 unfold linesS
 refine (hg.1 l).bind fun cs r _ => ?_
 split
 ·exact nice9
 ·exact Nat.le_refl _
theorem bodyS_nice {g : Dn} (hg : GoodG g) (l : List UInt8) : Nice l (bodyS g l) :=
 (needKey_nice _ _).bind fun _ r _ => (linesS_nice hg r).bind fun _cs _r1 _ => (needKey_nice _ _).bind fun _ _r2 _ => Nat.le_refl _
theorem elseS_nice {g : Dn} (hg : GoodG g) (l : List UInt8) : Nice l (elseS g l) := by
 unfold elseS
 split
 ·rename_i r h
  have := takeKey_drop h
  exact (linesS_nice hg r).mono (by rw [this, List.length_drop]; omega)
 ·exact Nat.le_refl _
theorem choiceS_nice {g : Dn} (hg : GoodG g) (l : List UInt8) : Nice l (choiceS g l) :=
 (linesS_nice hg l).bind fun _a _r _ => (needKey_nice _ _).bind fun _ r1 _ => (linesS_nice hg r1).bind fun _b r2 _ => (elseS_nice hg r2).bind fun _c _r3 _ => (needKey_nice _ _).bind fun _ _r4 _ => Nat.le_refl _
theorem roundsS_nice {g : Dn} (hg : GoodG g) (l : List UInt8) : Nice l (roundsS g l) :=
 (linesS_nice hg l).bind fun _a r _ => (bodyS_nice hg r).bind fun _b _r1 _ => Nat.le_refl _
theorem eachS_nice {g : Dn} (hg : GoodG g) (l : List UInt8) : Nice l (eachS g l) := by
 unfold eachS
 refine Nice.mono (l := gapS l) ?_ (gapS_len l)
 refine (nameR_nice _).bind fun n r _ => Nice.mono (l := gapS r) ?_ (gapS_len r)
 refine (needKey_nice _ _).bind fun _ r1 _ => (hg.2 r1).bind fun ws r2 _ => ?_
 split
 ·exact nice9
 ·exact Nice.mono ((bodyS_nice hg _).bind fun _ _ _ => Nat.le_refl _) (skip_len _ _)
theorem withinS_nice {sub : Deeper} (hg : GoodD sub) {f : Dn → List UInt8 → Rr Co} (hf : ∀ g, GoodG g → ∀ l, Nice l (f g l)) (l : List UInt8) : Nice l (withinS sub f l) := by
 cases sub with
 | none => exact nice7
 | some g => exact hf g (hg g rfl) l
theorem cmdS_nice {sub : Deeper} (hg : GoodD sub) (l : List UInt8) : Nice l (cmdS sub l) := by
 unfold cmdS
 split
 ·exact (withinS_nice hg (fun g h => choiceS_nice h) _).mono (by rw [List.length_drop]; omega)
 ·split
  ·exact (withinS_nice hg (fun g h => roundsS_nice h) _).mono (by rw [List.length_drop]; omega)
  ·split
   ·exact (withinS_nice hg (fun g h => eachS_nice h) _).mono (by rw [List.length_drop]; omega)
   ·exact simpleS_nice hg l
theorem markS_len {mk l r : List UInt8} (h : markS mk l = some r) : r.length + mk.length ≤ l.length := by
 unfold markS at h
 split at h
 ·cases h
 ·have := takeS_len h
  have := gapS_len l
  omega
theorem behindS_len (mk l : List UInt8) : (behindS mk l).length ≤ l.length := by
 unfold behindS
 cases h : markS mk l with
 | none => exact gapS_len l
 | some r => have := markS_len h; show r.length ≤ _; omega
def NotNil (one : List UInt8 → Rr Co) : Prop := ∀ l c r, one l = .ok c r → r.length < l.length
theorem rowStep_nice {kind : Nat} {mk : List UInt8} {one : List UInt8 → Rr Co} {fits : Co → Bool} (h1 : ∀ l, Nice l (one l)) (h2 : NotNil one) (s : List Co × Co × Bool) (l : List UInt8) : NiceI l (rowStep kind mk one fits s l) := by
 unfold rowStep
 split
 ·exact .inr rfl
 ·split
  ·exact Nat.le_refl _
  ·have hn := h1 (skipS [10] l)
   have hl := skip_len [10] l
   cases hr : one (skipS [10] l) with
   | bad e => rw [hr] at hn; exact hn
   | ok c r =>
    have := h2 _ _ _ hr
    have := behindS_len mk r
    show (behindS mk r).length < _; omega
theorem rowS_nice {kind : Nat} {mk : List UInt8} {one : List UInt8 → Rr Co} {fits : Co → Bool} (h1 : ∀ l, Nice l (one l)) (h2 : NotNil one) (l : List UInt8) : Nice l (rowS kind mk one fits l) := by
 unfold rowS
 refine (h1 l).bind fun c r _ => ?_
 split
 ·exact behindS_len mk r
 ·exact (iterS_nice (rowStep_nice h1 h2) _ _).mono (behindS_len mk r)
theorem rowS_lt {kind : Nat} {mk : List UInt8} {one : List UInt8 → Rr Co} {fits : Co → Bool} (h1 : ∀ l, Nice l (one l)) (h2 : NotNil one) : NotNil (rowS kind mk one fits) := by
 intro l c r h
 unfold rowS at h
 obtain ⟨c1, r1, h3, h⟩ := bind_ok h
 have h4 := h2 _ _ _ h3
 have h5 := behindS_len mk r1
 split at h
 ·cases h; omega
 ·have := iterS_nice (rowStep_nice (kind := kind) (mk := mk) (fits := fits) h1 h2) ([], c1, true) (behindS mk r1)
  rw [h] at this
  have this : r.length ≤ (behindS mk r1).length := this
  omega
theorem wordsS_lt {sub : Deeper} (hg : GoodD sub) {l r : List UInt8} {ws : List (List Pt)} (h : wordsS sub l = .ok ws r) (hw : ws ≠ []) : r.length < l.length := by
 have hn := wordsStep_nice hg [] l
 unfold wordsS at h
 rw [iterS_eq (wordsStep_nice hg)] at h
 cases hs : wordsStep sub [] l with
 | bad e => rw [hs] at h; cases h
 | ok x r1 =>
  rw [hs] at h hn
  cases x with
  | go s =>
   have hn : r1.length < l.length := hn
   have := iterS_nice (wordsStep_nice hg) s r1
   dsimp only at h
   rw [h] at this
   exact Nat.lt_of_le_of_lt this hn
  | stop b =>
   exfalso
   cases h
   unfold wordsStep at hs
   obtain ⟨ps, r2, _, h⟩ := bind_ok hs
   split at h
   ·cases h; exact hw rfl
   ·cases h
theorem asg_lt {sub : Deeper} (hg : GoodD sub) {l r : List UInt8} {s : List (List UInt8) × List (List Pt)} (h : iterS (asgStep sub) ([], []) l = .ok s r) (hs1 : s.1 ≠ []) : r.length < l.length := by
 have hn := asgStep_nice hg ([], []) l
 rw [iterS_eq (asgStep_nice hg)] at h
 cases hs : asgStep sub ([], []) l with
 | bad e => rw [hs] at h; cases h
 | ok x r1 =>
  rw [hs] at h hn
  cases x with
  | go s' =>
   have hn : r1.length < l.length := hn
   have := iterS_nice (asgStep_nice hg) s' r1
   dsimp only at h
   rw [h] at this
   exact Nat.lt_of_le_of_lt this hn
  | stop b =>
   exfalso
   cases h
   unfold asgStep at hs
   split at hs
   ·cases hs; exact hs1 rfl
   ·obtain ⟨_, _, _, h⟩ := bind_ok hs; cases h
theorem simpleS_lt {sub : Deeper} (hg : GoodD sub) : NotNil (simpleS sub) := by
 intro l c r h
 unfold simpleS at h
 obtain ⟨s, r1, h1, h⟩ := bind_ok h
 split at h
 ·cases h
 ·obtain ⟨ws, r2, h2, h⟩ := bind_ok h
  split at h
  ·cases h
  ·rename_i hne
   cases h
   have a1 := iterS_nice (asgStep_nice hg) ([], []) l
   rw [h1] at a1
   have a1 : r1.length ≤ l.length := a1
   have a2 := wordsS_nice hg r1
   rw [h2] at a2
   have a2 : r.length ≤ r1.length := a2
   by_cases hs : s.1 = []
   ·have := wordsS_lt hg h2 (fun e => hne ⟨hs, e⟩); omega
   ·have := asg_lt hg h1 hs; omega
theorem key_len {l k : List UInt8} (h : keyS l = k) (hk : k ≠ []) : k.length ≤ l.length := by
 unfold keyS at h
 split at h
 ·exact absurd h.symm hk
 ·have := run_past_len shMarks l
  rw [h] at this
  omega
theorem withinS_le {sub : Deeper} (hg : GoodD sub) {f : Dn → List UInt8 → Rr Co} (hf : ∀ g, GoodG g → ∀ l, Nice l (f g l)) {l r : List UInt8} {c : Co} (h : withinS sub f l = .ok c r) : r.length ≤ l.length := by
 have := withinS_nice hg hf l
 rw [h] at this
 exact this
theorem cmdS_lt {sub : Deeper} (hg : GoodD sub) : NotNil (cmdS sub) := by
 intro l c r h
 unfold cmdS at h
 split at h
 ·rename_i hk
  have h1 := key_len hk (by simp)
  have h2 := withinS_le hg (fun g h => choiceS_nice h) h
  rw [List.length_drop] at h2
  simp only [List.length_cons, List.length_nil] at h1
  omega
 ·split at h
  ·rename_i hk
   have h1 := key_len hk (by simp)
   have h2 := withinS_le hg (fun g h => roundsS_nice h) h
   rw [List.length_drop] at h2
   simp only [List.length_cons, List.length_nil] at h1
   omega
  ·split at h
   ·rename_i hk
    have h1 := key_len hk (by simp)
    have h2 := withinS_le hg (fun g h => eachS_nice h) h
    rw [List.length_drop] at h2
    simp only [List.length_cons, List.length_nil] at h1
    omega
   ·exact simpleS_lt hg _ _ _ h
theorem pipeS_nice {sub : Deeper} (hg : GoodD sub) (l : List UInt8) : Nice l (pipeS sub l) := rowS_nice (cmdS_nice hg) (cmdS_lt hg) l
theorem pipeS_lt {sub : Deeper} (hg : GoodD sub) : NotNil (pipeS sub) := rowS_lt (cmdS_nice hg) (cmdS_lt hg)
theorem lineS_nice {sub : Deeper} (hg : GoodD sub) (l : List UInt8) : Nice l (lineS sub l) := rowS_nice (pipeS_nice hg) (pipeS_lt hg) l
theorem lineS_lt {sub : Deeper} (hg : GoodD sub) : NotNil (lineS sub) := rowS_lt (pipeS_nice hg) (pipeS_lt hg)
theorem listStep_nice {sub : Deeper} (hg : GoodD sub) (cs : List Co) (l : List UInt8) : NiceI l (listStep sub cs l) := by
 unfold listStep
 split
 ·exact Nat.le_refl _
 ·have hn := lineS_nice hg l
  cases hr : lineS sub l with
  | bad e => rw [hr] at hn; exact hn
  | ok c r =>
   rw [hr] at hn
   have h1 := lineS_lt hg _ _ _ hr
   have h2 := skip_len shEnds r
   show NiceI l (if wasS shEnds r = false then .ok (.stop (cs ++ [c])) (skipS shEnds r) else .ok (.go (cs ++ [c])) (skipS shEnds r))
   split
   ·show (skipS shEnds r).length ≤ _; omega
   ·show (skipS shEnds r).length < _; omega
theorem listS_nice {sub : Deeper} (hg : GoodD sub) (l : List UInt8) : Nice l (listS sub l) := (iterS_nice (listStep_nice hg) _ _).mono (skip_len _ _)
theorem lvl_good : ∀ k, GoodD (lvl k)
 | 0 => fun g h => by cases h
 | k + 1 => fun g h => by
  cases h
  exact ⟨listS_nice (lvl_good k), wordsS_nice (lvl_good k)⟩
theorem lstS_nice (k : Nat) (l : List UInt8) : Nice l (lstS k l) := listS_nice (lvl_good k) l
end Go.Proofs.YtelfgobjnibooaaGreatDoor
