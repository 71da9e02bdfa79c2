/- Packed texts: HexLeaf, HexMem, HexMath, HexName, HexWholeMath, ArSpec, ArMath, HexCount, HexWhole, ArMem. What each of them proves stands above its theorems; the conditions stand in these. -/
import Derived.Deep.RegionLaw
import Derived.Lib.BufferRead
import Derived.Lib.Hide
import Derived.Shelf.Strings.SlTrimAscii
import Derived.Test.YtaaecgglocgcmaaDoorProg
import Derived.Test.YtaaecgglocgcmaaDoorShelf
import Derived.WalkKit
import Derived.WalkLawsBesides
import Derived.WalkSpells
namespace Go.Proofs.YtaaecgglocgcmaaDoor
open Go.RowKit

def isFig (c : UInt8) : Bool := decide (48 ≤ (c.toNat : Int)) && decide ((c.toNat : Int) ≤ 57)
def isLet (c : UInt8) : Bool := (decide (65 ≤ (c.toNat : Int)) && decide ((c.toNat : Int) ≤ 90) || decide (97 ≤ (c.toNat : Int)) && decide ((c.toNat : Int) ≤ 122)) || decide ((c.toNat : Int) = 95)
theorem u8_lt (c : UInt8) : (c.toNat : Int) < 256 := by have := c.toNat_lt; omega

theorem ret_bool {a b : Bool} (h : a = b) : Ending.returned (.bool a) = .returned (.bool b) := by rw [h]
theorem ret_int {k : IntKind} {a b : Int} (h : a = b) : Ending.returned (.int k a) = .returned (.int k b) := by rw [h]

set_option maxHeartbeats 400000 in
theorem isFigure_any (c : UInt8) (w : World) :
    Calls Tryd.prog 37 #[.int .u8 (c.toNat : Int)] w fun e w' => e = .returned (.bool (isFig c)) ∧ w = w' := by
  go_enter Tryd.func37, Tryd.ntmps37
  go_wp2
  all_goals
    go_ret
    refine ⟨ret_bool ?_, rfl⟩
    simp [isFig]
    try omega

set_option maxHeartbeats 400000 in
theorem isLetter_any (c : UInt8) (w : World) :
    Calls Tryd.prog 36 #[.int .u8 (c.toNat : Int)] w fun e w' => e = .returned (.bool (isLet c)) ∧ w = w' := by
  go_enter Tryd.func36, Tryd.ntmps36
  go_wp2
  all_goals
    go_ret
    refine ⟨ret_bool ?_, rfl⟩
    rw [Bool.eq_iff_iff]
    simp [isLet]
    try omega

end Go.Proofs.YtaaecgglocgcmaaDoor
namespace Go.Proofs.YtaaecgglocgcmaaDoor
open Go.RowKit Go.Lib

/-- Draws turn no block. -/
theorem below_draws {B : Nat} {a w : World} (h : Below B a w) (n : Nat) : Below B a (w.drewN n) :=
  h.trans (⟨rfl, rfl, rfl, Nat.le_refl _, fun _ _ => rfl⟩ : Below B w (w.drewN n))
end Go.Proofs.YtaaecgglocgcmaaDoor
namespace Go.Proofs.YtaaecgglocgcmaaDoor
open Go.RowKit Go.Lib

theorem take_snoc (s : ByteArray) (k : Nat) (h : k < s.size) : s.data.toList.take (k + 1) = s.data.toList.take k ++ [s[k]] := by
  rw [List.take_succ_eq_append_getElem (by simpa using h)]; rfl
end Go.Proofs.YtaaecgglocgcmaaDoor
namespace Go.Proofs.YtaaecgglocgcmaaDoor
open Go.RowKit Go.Lib

def nameOk (k : Nat) (c : UInt8) : Bool := isLet c || decide (0 < k) && isFig c
def restOk (c : UInt8) : Bool := isLet c || isFig c
def namePre : List UInt8 → Bool
  | [] => true
  | c :: r => isLet c && r.all restOk
def isNameB (l : List UInt8) : Bool := !l.isEmpty && namePre l

theorem namePre_snoc (l : List UInt8) (c : UInt8) : namePre (l ++ [c]) = (namePre l && nameOk l.length c) := by
  cases l with
  | nil => simp [namePre, nameOk]
  | cons d r => simp [namePre, nameOk, restOk, Bool.and_assoc]
theorem namePre_append (a b : List UInt8) (h : namePre a = false) : namePre (a ++ b) = false := by
  cases a with
  | nil => simp [namePre] at h
  | cons d r =>
    simp only [namePre, List.cons_append, List.all_append] at h ⊢
    cases h1 : isLet d <;> cases h2 : r.all restOk <;> simp_all
theorem namePre_take (s : ByteArray) (k : Nat) (h : k < s.size) : namePre (s.data.toList.take (k + 1)) = (namePre (s.data.toList.take k) && nameOk k s[k]) := by
  rw [take_snoc s k h, namePre_snoc]
  rw [List.length_take, Nat.min_eq_left (by simp; omega)]
theorem namePre_no (s : ByteArray) (k : Nat) (h : namePre (s.data.toList.take k) = false) : isNameB s.data.toList = false := by
  have := namePre_append _ (s.data.toList.drop k) h
  rw [List.take_append_drop] at this
  simp [isNameB, this]

set_option maxHeartbeats 400000 in
theorem isNameFits_any (s : ByteArray) (k : Nat) (b : Nat) (w : World) (hk : k < s.size) (_hs : s.size ≤ maxLen) (hc : w.cell? ⟨b, 0, none⟩ = some (.string s)) :
    Calls Tryd.prog 35 #[.int .i64 (k : Int), .pointer (some ⟨b, 0, none⟩)] w fun e w' => e = .returned (.bool (nameOk k s[k])) ∧ w = w' := by
  unfold maxLen at _hs
  obtain ⟨c, hcc⟩ : ∃ c, s[k] = c := ⟨_, rfl⟩
  rw [hcc]
  cases hl : isLet c <;> cases hf : isFig c <;> by_cases h0 : 0 < k
  all_goals
    have HL := Lib.hid hl
    have HF := Lib.hid hf
    go_enter Tryd.func35, Tryd.ntmps35
    go_wp2_with (first | (go_at_call 36; refine (isLetter_any _ _).mono ?_; rintro e w' ⟨rfl, rfl⟩) | (go_at_call 37; refine (isFigure_any _ _).mono ?_; rintro e w' ⟨rfl, rfl⟩))
    go_ret
    refine ⟨ret_bool ?_, rfl⟩
    simp [nameOk, HL.out, HF.out, h0]

set_option maxHeartbeats 400000 in
theorem isName_any (s : ByteArray) (w : World) (hs : s.size ≤ 70000000000000) :
    Calls Tryd.prog 29 #[.string s] w fun e w' => e = .returned (.bool (isNameB s.data.toList)) ∧ Below w.heap.size w w' := by
  have hcl : (w.alloc (.cells #[.string s] 9)).cell? ⟨w.heap.size, 0, none⟩ = some (.string s) := by simp
  go_enter Tryd.func29, Tryd.ntmps29
  go_wp2
  go_loop [8] (fun i => ∃ k : Nat, k ≤ s.size ∧ i = .int .i64 k ∧ namePre (s.data.toList.take k) = true) (fun i => s.size - (RowKit.intOf i).toNat)
  case atStart => exact ⟨0, Nat.zero_le _, rfl, rfl⟩
  case round =>
    obtain ⟨k, hk, rfl, hpre⟩ := hrel
    have HP := Lib.hid hpre
    clear hpre
    by_cases hlt : k < s.size
    · have hsn := Lib.hid (namePre_take s k hlt)
      have hfit := isNameFits_any s k w.heap.size (w.alloc (.cells #[.string s] 9)) hlt (by unfold maxLen; omega) hcl
      cases hn : nameOk k s[k]
      · rw [hn] at hfit
        have HN := Lib.hid hn
        clear hn
        go_wp2_with (go_at_call 35; refine hfit.mono ?_; rintro e w' ⟨rfl, rfl⟩)
        go_ret
        refine ⟨ret_bool ?_, (Below.refl _ _).alloc (Nat.le_refl _) _⟩
        rw [namePre_no s (k + 1) (by rw [hsn.out, HN.out]; simp)]
      · rw [hn] at hfit
        have HN := Lib.hid hn
        clear hn
        go_wp2_with (go_at_call 35; refine hfit.mono ?_; rintro e w' ⟨rfl, rfl⟩)
        go_round
        case rel => exact ⟨k + 1, by omega, by go_num, by rw [hsn.out, HN.out, HP.out]; rfl⟩
        case measure => simp [RowKit.intOf]; omega
    · have hall : s.data.toList.take k = s.data.toList := List.take_of_length_le (by simp; omega)
      have HA := Lib.hid hall
      clear hall
      go_wp2
      all_goals
        go_ret
        refine ⟨ret_bool ?_, (Below.refl _ _).alloc (Nat.le_refl _) _⟩
        have := HP.out
        rw [HA.out] at this
        simp [isNameB, this, ByteArray.toList_eq]
end Go.Proofs.YtaaecgglocgcmaaDoor
namespace Go.Proofs.YtaaecgglocgcmaaDoor
open Go.RowKit Go.Lib

def figV (c : UInt8) : Nat := c.toNat - 48
def natOf (l : List UInt8) : Nat := l.foldl (fun a c => 10 * a + figV c) 0
theorem natOf_snoc (l : List UInt8) (c : UInt8) : natOf (l ++ [c]) = 10 * natOf l + figV c := by simp [natOf]
theorem natOf_le_foldl (b : List UInt8) : ∀ x : Nat, x ≤ b.foldl (fun a c => 10 * a + figV c) x := by
  induction b with
  | nil => intro x; exact Nat.le_refl _
  | cons c b ih => intro x; exact Nat.le_trans (by omega) (ih (10 * x + figV c))
theorem natOf_mono (a b : List UInt8) : natOf a ≤ natOf (a ++ b) := by
  unfold natOf; rw [List.foldl_append]; exact natOf_le_foldl b _

/-- The figures that a text begins with. -/
def figs (l : List UInt8) : List UInt8 := l.takeWhile isFig
theorem figs_stop (a r : List UInt8) (c : UInt8) (ha : a.all isFig = true) (hc : isFig c = false) : figs (a ++ c :: r) = a := by
  unfold figs
  induction a with
  | nil => simp [hc]
  | cons d a ih =>
    simp only [List.all_cons, Bool.and_eq_true] at ha
    simp [ha.1, ih ha.2]
theorem figs_all (a : List UInt8) (ha : a.all isFig = true) : figs a = a := by
  unfold figs
  induction a with
  | nil => rfl
  | cons d a ih =>
    simp only [List.all_cons, Bool.and_eq_true] at ha
    simp [List.takeWhile, ha.1, ih ha.2]
theorem figs_isFig (l : List UInt8) : (figs l).all isFig = true := by
  unfold figs
  induction l with
  | nil => rfl
  | cons d a ih =>
    cases h : isFig d
    · simp [List.takeWhile, h]
    · simp only [List.takeWhile, h, List.all_cons, Bool.true_and]; exact ih
theorem figs_prefix (l : List UInt8) : figs l = l.take (figs l).length := by
  unfold figs
  induction l with
  | nil => rfl
  | cons d a ih =>
    cases h : isFig d
    · simp [List.takeWhile, h]
    · simp only [List.takeWhile, h, List.length_cons, List.take_succ_cons, List.cons.injEq, true_and]; exact ih
theorem figs_length_le (l : List UInt8) : (figs l).length ≤ l.length := by
  have := congrArg List.length (figs_prefix l)
  rw [List.length_take] at this; omega
/-- Where a text's figures end. -/
theorem figs_at (s : ByteArray) (k : Nat) (hk : k < s.size) (ha : (s.data.toList.take k).all isFig = true) (hc : isFig s[k] = false) : (figs s.data.toList).length = k := by
  have h1 : s.data.toList = s.data.toList.take k ++ s[k] :: s.data.toList.drop (k + 1) := by
    conv => lhs; rw [← List.take_append_drop k s.data.toList]
    rw [List.drop_eq_getElem_cons (by rw [Array.length_toList]; exact hk)]; rfl
  rw [h1, figs_stop _ _ _ ha hc, List.length_take, Array.length_toList]
  exact Nat.min_eq_left (Nat.le_of_lt hk)
theorem figs_whole (s : ByteArray) (ha : s.data.toList.all isFig = true) : (figs s.data.toList).length = s.size := by
  rw [figs_all _ ha, Array.length_toList]; rfl

/-- Where the number begins: behind a sign. -/
def isNeg (l : List UInt8) : Bool := l.head? == some 45
def afterSign (l : List UInt8) : List UInt8 := if isNeg l then l.tail else l
/-- What a text's beginning tells: the number, how many bytes it takes, and why not. -/
def wholeD (l : List UInt8) : Int × Int × Int :=
  if figs (afterSign l) = [] then (0, 0, 2)
  else if isNeg l then
    (if natOf (figs (afterSign l)) ≤ 9223372036854775808 then (-(natOf (figs (afterSign l)) : Int), (figs (afterSign l)).length + 1, 0) else (0, 0, 3))
  else
    (if natOf (figs (afterSign l)) ≤ 9223372036854775807 then ((natOf (figs (afterSign l)) : Int), (figs (afterSign l)).length, 0) else (0, 0, 3))
end Go.Proofs.YtaaecgglocgcmaaDoor
namespace Go.Proofs.YtaaecgglocgcmaaDoor
open Go.RowKit Go.Lib

/-- The marks between two numbers. -/
inductive Mk where
  | or | and | eq | ne | le | ge | lt | gt | add | sub | mul | quo | rem
/-- What a text says. -/
inductive Ex where
  | num (n : Int)
  | name (l : List UInt8)
  | neg (e : Ex)
  | bang (e : Ex)
  | bin (m : Mk) (a b : Ex)
/-- What reading comes to: what was said and the rest of the text, or what is wrong. -/
inductive Pr where
  | ok (e : Ex) (l : List UInt8)
  | bad (x : Int)
/-- What is to be read next: a number with its signs; a row of a level; the rest of a row. -/
inductive Job where
  | un
  | row (k : Nat)
  | more (k : Nat) (e : Ex)

def blankA (c : UInt8) : Bool := c == 32 || c == 9 || c == 10
def skipA (l : List UInt8) : List UInt8 := l.dropWhile blankA
def marksAt : Nat → List (List UInt8 × Mk)
  | 0 => [([124, 124], .or)]
  | 1 => [([38, 38], .and)]
  | 2 => [([61, 61], .eq), ([33, 61], .ne)]
  | 3 => [([60, 61], .le), ([62, 61], .ge), ([60], .lt), ([62], .gt)]
  | 4 => [([43], .add), ([45], .sub)]
  | 5 => [([42], .mul), ([47], .quo), ([37], .rem)]
  | _ => []
def markIn : List (List UInt8 × Mk) → List UInt8 → Option (Mk × List UInt8)
  | [], _ => none
  | (t, m) :: r, l => if t.isPrefixOf l then some (m, l.drop t.length) else markIn r l
def nameL : List UInt8 → List UInt8
  | [] => []
  | c :: r => if isLet c then c :: r.takeWhile restOk else []
def Pr.map (f : Ex → Ex) : Pr → Pr
  | .ok e l => .ok (f e) l
  | .bad x => .bad x
def Pr.skipped : Pr → Pr
  | .ok e l => .ok e (skipA l)
  | .bad x => .bad x
def Pr.closed : Pr → Pr
  | .ok e l => if l.head? = some 41 then .ok e l.tail else .bad 9
  | .bad x => .bad x
def figA (l : List UInt8) : Pr := if (wholeD l).2.2 = 0 then .ok (.num (wholeD l).1) (l.drop (wholeD l).2.1.toNat) else .bad 9
def atomA (c : UInt8) (r : List UInt8) : Pr :=
  if isFig c then figA (c :: r)
  else if isLet c then .ok (.name (nameL (c :: r))) ((c :: r).drop (nameL (c :: r)).length)
  else .bad 9
def pF : Nat → Job → Nat → List UInt8 → Pr
  | 0, _, _, _ => .bad 0
  | f + 1, .un, d, l =>
    match skipA l with
    | [] => .bad 9
    | c :: r =>
      if c = 40 then (if d = 30 then .bad 7 else (pF f (.row 0) (d + 1) r).closed)
      else if c = 45 then (if d = 30 then .bad 7 else (pF f .un (d + 1) r).map .neg)
      else if c = 33 then (if d = 30 then .bad 7 else (pF f .un (d + 1) r).map .bang)
      else if c = 43 then (if d = 30 then .bad 7 else pF f .un (d + 1) r)
      else atomA c r
  | f + 1, .row k, d, l =>
    if k = 6 then (pF f .un d l).skipped
    else match pF f (.row (k + 1)) d l with
      | .ok e r => pF f (.more k e) d r
      | .bad x => .bad x
  | f + 1, .more k e, d, l =>
    match markIn (marksAt k) l with
    | none => .ok e l
    | some (m, r) => match pF f (.row (k + 1)) d r with
      | .ok b r' => pF f (.more k (.bin m e b)) d r'
      | .bad x => .bad x
/-- A whole text, in so many signs and brackets. -/
def Pr.whole : Pr → Pr
  | .ok e l => if l = [] then .ok e [] else .bad 9
  | .bad x => .bad x
def readA (l : List UInt8) : Pr := (pF (8 * l.length + 8) (.row 0) 0 l).whole

/-- What something comes to: a number, or what is wrong. -/
inductive Cm where
  | is (n : Int)
  | no (x : Int)
def tellA (b : Bool) : Int := if b then 1 else 0
def opD : Mk → Int → Int → Cm
  | .or, a, b => .is (tellA (a != 0 || b != 0))
  | .and, a, b => .is (tellA (a != 0 && b != 0))
  | .eq, a, b => .is (tellA (a == b))
  | .ne, a, b => .is (tellA (a != b))
  | .le, a, b => .is (tellA (decide (a ≤ b)))
  | .ge, a, b => .is (tellA (decide (b ≤ a)))
  | .lt, a, b => .is (tellA (decide (a < b)))
  | .gt, a, b => .is (tellA (decide (b < a)))
  | .add, a, b => .is (wrap64 (a + b))
  | .sub, a, b => .is (wrap64 (a - b))
  | .mul, a, b => .is (wrap64 (a * b))
  | .quo, a, b => if b = 0 then .no 4 else .is (wrap64 (a.tdiv b))
  | .rem, a, b => if b = 0 then .no 4 else .is (a.tmod b)
/-- May what stands on the right of a mark change it? -/
def idleA : Mk → Int → Bool
  | .or, a => a != 0
  | .and, a => a == 0
  | _, _ => false
def ev (V : List UInt8 → Cm) : Ex → Cm
  | .num n => .is n
  | .name s => V s
  | .neg e => match ev V e with
    | .is n => .is (wrap64 (-n))
    | .no x => .no x
  | .bang e => match ev V e with
    | .is n => .is (tellA (n == 0))
    | .no x => .no x
  | .bin m a b => match ev V a with
    | .no x => .no x
    | .is x => if idleA m x then opD m x 0 else match ev V b with
      | .no y => .no y
      | .is y => opD m x y
/-- A value's number. -/
def numA (v : List UInt8) : Cm :=
  if v = [] then .is 0 else if (wholeD v).2.2 = 0 ∧ (wholeD v).2.1 = (v.length : Int) then .is (wholeD v).1 else .no 2
/-- A variable. -/
structure Vr where
  n : ByteArray
  v : ByteArray
def findA : List Vr → List UInt8 → Option ByteArray
  | [], _ => none
  | x :: r, s => if x.n.data.toList = s then some x.v else findA r s
def valA (vs : List Vr) (s : List UInt8) : Cm := match findA vs s with
  | some v => numA v.data.toList
  | none => .is 0
/-- What Eval answers: the number, and what is wrong. -/
def evalA (vs : List Vr) (l : List UInt8) : Int × Int := match readA l with
  | .bad x => (0, x)
  | .ok e _ => match ev (valA vs) e with
    | .is n => (n, 0)
    | .no x => (0, x)

theorem skip_le (l : List UInt8) : (skipA l).length ≤ l.length := by
  unfold skipA
  induction l with
  | nil => simp
  | cons c l ih =>
    rw [List.dropWhile_cons]
    split
    · simp; omega
    · simp
theorem markIn_lt : ∀ (ms : List (List UInt8 × Mk)) (l : List UInt8) (m : Mk) (r : List UInt8), (∀ t ∈ ms, t.1 ≠ []) → markIn ms l = some (m, r) → r.length < l.length
  | [], l, m, r, _, h => by simp [markIn] at h
  | (t, m') :: ms, l, m, r, hne, h => by
    unfold markIn at h
    split at h
    · rename_i hp
      cases h
      have hp' := List.isPrefixOf_iff_prefix.1 hp
      have h1 := hp'.length_le
      have h2 : t.length ≠ 0 := fun e => hne (t, m') (by simp) (List.eq_nil_of_length_eq_zero e)
      rw [List.length_drop]
      omega
    · exact markIn_lt ms l m r (fun t ht => hne t (List.mem_cons_of_mem _ ht)) h
theorem marks_ne (k : Nat) : ∀ t ∈ marksAt k, t.1 ≠ [] := by
  match k with
  | 0 | 1 | 2 | 3 | 4 | 5 => decide
  | _ + 6 => intro t h; simp [marksAt] at h
theorem mark_lt {k : Nat} {l r : List UInt8} {m : Mk} (h : markIn (marksAt k) l = some (m, r)) : r.length < l.length := markIn_lt _ _ _ _ (marks_ne k) h
end Go.Proofs.YtaaecgglocgcmaaDoor
namespace Go.Proofs.YtaaecgglocgcmaaDoor
open Go.RowKit Go.Lib

def needA : Job → List UInt8 → Nat
  | .un, l => 8 * l.length + 1
  | .row k, l => 8 * l.length + (6 - k) + 2
  | .more _ _, l => 8 * l.length + 1
def okJ : Job → Prop
  | .un => True
  | .row k => k ≤ 6
  | .more k _ => k ≤ 5
def shorter : Job → List UInt8 → List UInt8 → Prop
  | .more _ _, l, r => r.length ≤ l.length
  | _, l, r => r.length < l.length
theorem figs_takes (c : UInt8) (r : List UInt8) (e : Ex) (l : List UInt8) (h : atomA c r = .ok e l) : l.length < (c :: r).length := by
  unfold atomA figA at h
  by_cases hf : isFig c = true
  · rw [if_pos hf] at h
    split at h
    · rename_i hz
      cases h
      rw [List.length_drop]
      have hu : 1 ≤ (wholeD (c :: r)).2.1.toNat := by
        have hn : isNeg (c :: r) = false := by
          unfold isNeg
          cases hb : ((c :: r).head? == some (45 : UInt8)) with
          | false => rfl
          | true =>
            have : c = 45 := by simpa using hb
            rw [this] at hf
            exact absurd hf (by decide)
        have ha : afterSign (c :: r) = c :: r := by unfold afterSign; rw [if_neg (by rw [hn]; simp)]
        unfold wholeD at hz ⊢
        rw [ha] at hz ⊢
        split
        · rename_i h0
          rw [if_pos h0] at hz
          exact absurd hz (by simp)
        · rename_i h0
          rw [if_neg h0, if_neg (by rw [hn]; simp)] at hz
          rw [if_neg (by rw [hn]; simp)]
          split
          · simp only []
            have : (figs (c :: r)).length ≠ 0 := fun e => h0 (List.eq_nil_of_length_eq_zero e)
            omega
          · rename_i h1
            rw [if_neg h1] at hz
            exact absurd hz (by simp)
      have : 1 ≤ (c :: r).length := by simp
      omega
    · cases h
  · rw [if_neg hf] at h
    split at h
    · rename_i hl
      cases h
      rw [List.length_drop]
      have h1 : (nameL (c :: r)).length ≠ 0 := by simp only [nameL]; rw [if_pos hl]; simp
      have : 1 ≤ (c :: r).length := by simp
      omega
    · cases h
theorem skip_cons {l r : List UInt8} {c : UInt8} (h : skipA l = c :: r) : r.length < l.length := by
  have := skip_le l
  rw [h, List.length_cons] at this
  omega
theorem atom_bad0 (c : UInt8) (r : List UInt8) : atomA c r ≠ .bad 0 := by
  unfold atomA figA
  intro h
  split at h
  · split at h
    · cases h
    · injection h with h; exact absurd h (by decide)
  · split at h
    · cases h
    · injection h with h; exact absurd h (by decide)
theorem pF_enough : ∀ (f : Nat) (j : Job) (d : Nat) (l : List UInt8), okJ j → needA j l ≤ f → pF f j d l ≠ .bad 0 ∧ ∀ e r, pF f j d l = .ok e r → shorter j l r
  | 0, j, d, l, _, h => by cases j <;> (simp only [needA] at h; omega)
  | f + 1, .un, d, l, _, h => by
    have h : 8 * l.length + 1 ≤ f + 1 := h
    unfold pF
    cases hs : skipA l with
    | nil => exact ⟨by simp, by simp⟩
    | cons c r =>
      have hlt := skip_cons hs
      have i1 := pF_enough f (.row 0) (d + 1) r (Nat.zero_le _) (by simp only [needA]; omega)
      have i2 := pF_enough f .un (d + 1) r trivial (by simp only [needA]; omega)
      have tm : ∀ (g : Ex → Ex), (pF f .un (d + 1) r).map g ≠ .bad 0 ∧ ∀ e r', (pF f .un (d + 1) r).map g = .ok e r' → r'.length < l.length := fun g => by
        cases hr : pF f .un (d + 1) r with
        | bad x => exact ⟨fun e => i2.1 (by rw [hr]; cases e; rfl), fun e r' h => by cases h⟩
        | ok e0 r0 =>
          have := i2.2 _ _ hr
          exact ⟨fun e => (by cases e), fun e r' h => (by cases h; exact Nat.lt_trans this hlt)⟩
      simp only []
      split
      · split
        · exact ⟨by simp, by simp⟩
        · cases hr : pF f (.row 0) (d + 1) r with
          | bad x => exact ⟨fun e => i1.1 (by rw [hr]; cases e; rfl), fun e r' h => by cases h⟩
          | ok e0 r0 =>
            have h3 : r0.length < r.length := i1.2 _ _ hr
            unfold Pr.closed
            simp only []
            split
            · refine ⟨by simp, fun e r' h => ?_⟩
              cases h
              show r0.tail.length < l.length
              rw [List.length_tail]
              omega
            · exact ⟨by simp, by simp⟩
      · split
        · split
          · exact ⟨by simp, by simp⟩
          · exact tm _
        · split
          · split
            · exact ⟨by simp, by simp⟩
            · exact tm _
          · split
            · split
              · exact ⟨by simp, by simp⟩
              · refine ⟨i2.1, fun e r' h => ?_⟩
                exact Nat.lt_trans (i2.2 _ _ h) hlt
            · refine ⟨atom_bad0 _ _, fun e r' h => ?_⟩
              have h5 := figs_takes _ _ _ _ h
              show r'.length < l.length
              simp at h5
              omega
  | f + 1, .row k, d, l, hk, h => by
    have hk : k ≤ 6 := hk
    have h : 8 * l.length + (6 - k) + 2 ≤ f + 1 := h
    unfold pF
    split
    · have i1 := pF_enough f .un d l trivial (by simp only [needA]; omega)
      cases hr : pF f .un d l with
      | bad x => exact ⟨fun e => i1.1 (by rw [hr]; cases e; rfl), fun e r' h => by cases h⟩
      | ok e0 r0 =>
        have h3 : r0.length < l.length := i1.2 _ _ hr
        refine ⟨fun e => (by cases e), fun e r' h => ?_⟩
        cases h
        exact Nat.lt_of_le_of_lt (skip_le r0) h3
    · have i1 := pF_enough f (.row (k + 1)) d l (by show k + 1 ≤ 6; omega) (by simp only [needA]; omega)
      cases hr : pF f (.row (k + 1)) d l with
      | bad x => exact ⟨fun e => i1.1 (by rw [hr]; cases e; rfl), fun e r' h => by cases h⟩
      | ok e0 r0 =>
        have h3 : r0.length < l.length := i1.2 _ _ hr
        have i2 := pF_enough f (.more k e0) d r0 (by show k ≤ 5; omega) (by simp only [needA]; omega)
        refine ⟨i2.1, fun e r' h => ?_⟩
        have h4 : r'.length ≤ r0.length := i2.2 _ _ h
        exact Nat.lt_of_le_of_lt h4 h3
  | f + 1, .more k e, d, l, hk, h => by
    have hk : k ≤ 5 := hk
    have h : 8 * l.length + 1 ≤ f + 1 := h
    unfold pF
    cases hm : markIn (marksAt k) l with
    | none => exact ⟨by simp, fun e r' h => by cases h; exact Nat.le_refl _⟩
    | some mr =>
      obtain ⟨m, r⟩ := mr
      have hlt := mark_lt hm
      have i1 := pF_enough f (.row (k + 1)) d r (by show k + 1 ≤ 6; omega) (by simp only [needA]; omega)
      simp only []
      cases hr : pF f (.row (k + 1)) d r with
      | bad x => exact ⟨fun e => i1.1 (by rw [hr]; cases e; rfl), fun e r' h => by cases h⟩
      | ok b r0 =>
        have h3 : r0.length < r.length := i1.2 _ _ hr
        have i2 := pF_enough f (.more k (.bin m e b)) d r0 hk (by simp only [needA]; omega)
        refine ⟨i2.1, fun e r' h => ?_⟩
        have h4 : r'.length ≤ r0.length := i2.2 _ _ h
        show r'.length ≤ l.length
        omega

theorem pF_more : ∀ (f : Nat) (j : Job) (d : Nat) (l : List UInt8), pF f j d l ≠ .bad 0 → pF (f + 1) j d l = pF f j d l
  | 0, j, d, l, h => absurd rfl h
  | f + 1, .un, d, l, h => by
    unfold pF at h ⊢
    cases hs : skipA l with
    | nil => rfl
    | cons c r =>
      rw [hs] at h
      simp only [] at h ⊢
      have i1 := pF_more f (.row 0) (d + 1) r
      have i2 := pF_more f .un (d + 1) r
      have c1 : pF f (.row 0) (d + 1) r = .bad 0 ∨ pF (f + 1) (.row 0) (d + 1) r = pF f (.row 0) (d + 1) r := by
        by_cases e : pF f (.row 0) (d + 1) r = .bad 0
        · exact .inl e
        · exact .inr (i1 e)
      have c2 : pF f .un (d + 1) r = .bad 0 ∨ pF (f + 1) .un (d + 1) r = pF f .un (d + 1) r := by
        by_cases e : pF f .un (d + 1) r = .bad 0
        · exact .inl e
        · exact .inr (i2 e)
      rcases c1 with c1 | c1 <;> rcases c2 with c2 | c2 <;> simp only [c1, c2] at h ⊢
      all_goals
        repeat' split
        all_goals first | rfl | (exfalso; revert h; simp_all [Pr.closed, Pr.map])
  | f + 1, .row k, d, l, h => by
    unfold pF at h ⊢
    split
    · rename_i hk
      rw [if_pos hk] at h
      rw [pF_more f .un d l (fun e => h (by rw [e]; rfl))]
    · rename_i hk
      rw [if_neg hk] at h
      have e1 : pF f (.row (k + 1)) d l ≠ .bad 0 := fun e => h (by rw [e])
      rw [pF_more f (.row (k + 1)) d l e1]
      cases hr : pF f (.row (k + 1)) d l with
      | bad x => rfl
      | ok e r =>
        rw [hr] at h
        exact pF_more f _ d r h
  | f + 1, .more k e, d, l, h => by
    unfold pF at h ⊢
    cases hm : markIn (marksAt k) l with
    | none => rfl
    | some mr =>
      obtain ⟨m, r⟩ := mr
      rw [hm] at h
      simp only [] at h ⊢
      have e1 : pF f (.row (k + 1)) d r ≠ .bad 0 := fun e => h (by rw [e])
      rw [pF_more f (.row (k + 1)) d r e1]
      cases hr : pF f (.row (k + 1)) d r with
      | bad x => rfl
      | ok b r' =>
        rw [hr] at h
        exact pF_more f _ d r' h
theorem pF_mono {f f' : Nat} {j : Job} {d : Nat} {l : List UInt8} (h : pF f j d l ≠ .bad 0) (hf : f ≤ f') : pF f' j d l = pF f j d l := by
  induction hf with
  | refl => rfl
  | step _ ih => rw [pF_more _ _ _ _ (by rw [ih]; exact h), ih]
theorem readA_fuel (l : List UInt8) : pF (8 * l.length + 8) (.row 0) 0 l ≠ .bad 0 := (pF_enough _ _ _ _ (Nat.zero_le _) (by simp only [needA]; omega)).1
end Go.Proofs.YtaaecgglocgcmaaDoor
namespace Go.Proofs.YtaaecgglocgcmaaDoor
open Go.RowKit Go.Lib

set_option maxHeartbeats 400000 in
theorem count_any (s : ByteArray) (w : World) (hs : s.size ≤ 70000000000000) :
    Calls Tryd.prog 69 #[.string s] w fun e w' => e = .returned (.int .i64 ((figs s.data.toList).length : Int)) ∧ w = w' := by
  go_enter Tryd.func69, Tryd.ntmps69
  go_wp2
  go_loop [6] (fun i => ∃ k : Nat, k ≤ s.size ∧ i = .int .i64 k ∧ Hid ((s.data.toList.take k).all isFig = true)) (fun i => s.size - (RowKit.intOf i).toNat)
  case atStart => exact ⟨0, Nat.zero_le _, rfl, rfl⟩
  case round =>
    obtain ⟨k, hk, rfl, HP⟩ := hrel
    by_cases hlt : k < s.size
    · have HT := Lib.hid (take_snoc s k hlt)
      have HE := Lib.hid (figs_at s k hlt HP.out)
      obtain ⟨c, hc⟩ : ∃ c, s[k] = c := ⟨_, rfl⟩
      rw [hc] at HT HE
      have cf := fun w => isFigure_any c w
      generalize hb : isFig c = b at cf HE
      have HB := Lib.hid hb
      clear hb
      cases b
      · go_wp2_with (go_at_call 37; refine (cf _).mono ?_; rintro e w' ⟨rfl, rfl⟩)
        go_ret
        exact ⟨ret_int (by rw [HE.out (by simp)]), rfl⟩
      · go_wp2_with (go_at_call 37; refine (cf _).mono ?_; rintro e w' ⟨rfl, rfl⟩)
        go_round
        case rel =>
          refine ⟨k + 1, by omega, by go_num, ?_⟩
          show (s.data.toList.take (k + 1)).all isFig = true
          rw [HT.out, List.all_append, HP.out]
          simp [HB.out]
        case measure => simp [RowKit.intOf]; omega
    · have HA := Lib.hid (show s.data.toList.all isFig = true by
        have := HP.out
        rw [List.take_of_length_le (by rw [Array.length_toList]; exact Nat.le_of_not_lt hlt)] at this
        exact this)
      go_wp2
      go_ret
      exact ⟨ret_int (by rw [figs_whole s HA.out]), rfl⟩

theorem fig_bounds (c : UInt8) (h : isFig c = true) : 48 ≤ (c.toNat : Int) ∧ (c.toNat : Int) ≤ 57 := by
  unfold isFig at h
  simpa only [Bool.and_eq_true, decide_eq_true_eq] using h
theorem all_at (s : ByteArray) (k : Nat) (hk : k < s.size) (h : s.data.toList.all isFig = true) : isFig s[k] = true := by
  rw [List.all_eq_true] at h
  exact h _ (List.getElem_mem (by rw [Array.length_toList]; exact hk))

/-- What size answers. -/
def sizeE (n m : Int) : Ending := .returned (.tuple (if n ≤ m then #[.int .u64 n, .bool true] else #[.int .u64 0, .bool false]))
theorem sizeE_yes {n m : Int} (h : n ≤ m) : Ending.returned (.tuple #[.int .u64 n, .bool true]) = sizeE n m := by unfold sizeE; rw [if_pos h]
theorem sizeE_no {n m : Int} (h : m < n) : Ending.returned (.tuple #[.int .u64 0, .bool false]) = sizeE n m := by unfold sizeE; rw [if_neg (by omega)]

set_option maxHeartbeats 400000 in
theorem size_any (s : ByteArray) (m : Int) (w : World) (hs : s.size ≤ 70000000000000) (hf : s.data.toList.all isFig = true) (hm0 : 9 ≤ m) (hm1 : m ≤ 9223372036854775808) :
    Calls Tryd.prog 70 #[.string s, .int .u64 m] w fun e w' =>
      e = sizeE (natOf s.data.toList : Int) m ∧ w = w' := by
  have HF := Lib.hid hf
  clear hf
  go_enter Tryd.func70, Tryd.ntmps70
  go_wp2
  go_loop [6, 11] (fun n i => ∃ (k : Nat) (a : Int), k ≤ s.size ∧ i = .int .i64 k ∧ n = .int .u64 a ∧ Hid (a = natOf (s.data.toList.take k)) ∧ 0 ≤ a ∧ a ≤ m) (fun _ i => s.size - (RowKit.intOf i).toNat)
  case atStart => exact ⟨0, 0, Nat.zero_le _, rfl, rfl, rfl, Int.le_refl _, by omega⟩
  case round =>
    obtain ⟨k, a, hk, rfl, rfl, HA, ha0, ham⟩ := hrel
    by_cases hlt : k < s.size
    · have HS := Lib.hid (natOf_snoc (s.data.toList.take k) s[k])
      have HT := Lib.hid (take_snoc s k hlt)
      have hc := fig_bounds _ (all_at s k hlt HF.out)
      have HL : Hid (natOf (s.data.toList.take (k + 1)) ≤ natOf s.data.toList) := by
        have := natOf_mono (s.data.toList.take (k + 1)) (s.data.toList.drop (k + 1))
        rw [List.take_append_drop] at this; exact this
      obtain ⟨z, hz⟩ : ∃ z : Int, (s[k].toNat : Int) = z := ⟨_, rfl⟩
      rw [hz] at hc
      have HZ : Hid ((figV s[k] : Int) = z - 48) := by
        show (figV s[k] : Int) = z - 48
        unfold figV; omega
      obtain ⟨hc0, hc1⟩ := hc
      by_cases ho : (m - (z - 48)) / 10 < a
      · have HO : Hid (m < (natOf s.data.toList : Int)) := by
          show m < (natOf s.data.toList : Int)
          have h1 := HL.out
          rw [HT.out, HS.out] at h1
          have h2 := HA.out
          have h3 := HZ.out
          omega
        go_wp2
        go_ret2
        exact ⟨sizeE_no HO.out, rfl⟩
      · have h9 : 0 ≤ 10 * a + (z - 48) := by omega
        have h10 : 10 * a + (z - 48) ≤ m := by omega
        go_wp2
        go_round
        case rel =>
          refine ⟨k + 1, 10 * a + (z - 48), by omega, by go_num, rfl, ?_, h9, h10⟩
          show _ = ((natOf (s.data.toList.take (k + 1)) : Nat) : Int)
          rw [HT.out, HS.out]
          have h2 := HA.out
          have h3 := HZ.out
          omega
        case measure => simp [RowKit.intOf]; omega
    · have HX := Lib.hid (show a = natOf s.data.toList by
        have := HA.out
        rw [List.take_of_length_le (by rw [Array.length_toList]; exact Nat.le_of_not_lt hlt)] at this
        exact this)
      go_wp2
      go_ret2
      rw [← HX.out]
      exact ⟨sizeE_yes ham, rfl⟩
end Go.Proofs.YtaaecgglocgcmaaDoor
namespace Go.Proofs.YtaaecgglocgcmaaDoor
open Go.RowKit Go.Lib

/-- What Whole answers. -/
def wholeE (l : List UInt8) : Ending := .returned (.tuple #[.int .i64 (wholeD l).1, .int .i64 (wholeD l).2.1, .int .i64 (wholeD l).2.2])
theorem wholeE_none {l : List UInt8} (h : (figs (afterSign l)).length = 0) : Ending.returned (.tuple #[.int .i64 0, .int .i64 0, .int .i64 2]) = wholeE l := by
  unfold wholeE wholeD; rw [if_pos (List.eq_nil_of_length_eq_zero h)]
theorem wholeE_neg_over {l : List UInt8} (h : (figs (afterSign l)).length ≠ 0) (hn : isNeg l = true) (ho : (9223372036854775808 : Int) < (natOf (figs (afterSign l)) : Int)) : Ending.returned (.tuple #[.int .i64 0, .int .i64 0, .int .i64 3]) = wholeE l := by
  unfold wholeE wholeD; rw [if_neg (by intro e; rw [e] at h; exact h rfl), if_pos hn, if_neg (by omega)]
theorem wholeE_neg {l : List UInt8} (h : (figs (afterSign l)).length ≠ 0) (hn : isNeg l = true) (ho : (natOf (figs (afterSign l)) : Int) ≤ 9223372036854775808) (k : Int) (hk : k = ((figs (afterSign l)).length : Int) + 1) (v : Int) (hv : v = -(natOf (figs (afterSign l)) : Int)) : Ending.returned (.tuple #[.int .i64 v, .int .i64 k, .int .i64 0]) = wholeE l := by
  unfold wholeE wholeD; rw [if_neg (by intro e; rw [e] at h; exact h rfl), if_pos hn, if_pos (by omega), hk, hv]
theorem wholeE_pos_over {l : List UInt8} (h : (figs (afterSign l)).length ≠ 0) (hn : isNeg l = false) (ho : (9223372036854775807 : Int) < (natOf (figs (afterSign l)) : Int)) : Ending.returned (.tuple #[.int .i64 0, .int .i64 0, .int .i64 3]) = wholeE l := by
  unfold wholeE wholeD; rw [if_neg (by intro e; rw [e] at h; exact h rfl), if_neg (by rw [hn]; simp), if_neg (by omega)]
theorem wholeE_pos {l : List UInt8} (h : (figs (afterSign l)).length ≠ 0) (hn : isNeg l = false) (ho : (natOf (figs (afterSign l)) : Int) ≤ 9223372036854775807) (k : Int) (hk : k = ((figs (afterSign l)).length : Int)) (v : Int) (hv : v = (natOf (figs (afterSign l)) : Int)) : Ending.returned (.tuple #[.int .i64 v, .int .i64 k, .int .i64 0]) = wholeE l := by
  unfold wholeE wholeD; rw [if_neg (by intro e; rw [e] at h; exact h rfl), if_neg (by rw [hn]; simp), if_pos (by omega), hk, hv]

theorem isEmpty_size (s : ByteArray) : s.data.toList.isEmpty = decide (s.size = 0) := by
  rw [Bool.eq_iff_iff, List.isEmpty_iff, decide_eq_true_iff, ← List.length_eq_zero_iff, Array.length_toList]
  exact Iff.rfl
/-- The two pieces that Whole cuts out of its text: behind the sign, and the figures. -/
theorem tail_of (s : ByteArray) (_h : 0 < s.size) : (s.extract 1 s.size).data.toList = s.data.toList.tail := by
  rw [Lib.extract_data]
  have : s.size = s.data.toList.length := by rw [Array.length_toList]; rfl
  rw [this, List.drop_one, List.take_of_length_le]
  rw [List.length_tail]; omega

set_option maxHeartbeats 400000 in
theorem whole_any (s : ByteArray) (w : World) (hs : s.size ≤ 70000000000000) :
    Calls Tryd.prog 58 #[.string s] w fun e w' => e = wholeE s.data.toList ∧ w = w' := by
  by_cases h0 : s.size = 0
  · have he1 : s.toList.isEmpty = true := by rw [ByteArray.toList_eq, isEmpty_size, decide_eq_true h0]
    have hl : s.data.toList = [] := List.eq_nil_of_length_eq_zero (by rw [Array.length_toList]; exact h0)
    have HW := Lib.hid (wholeE_none (l := s.data.toList) (by rw [hl]; rfl))
    have k1 : ∀ w, Calls Tryd.prog 69 #[.string ByteArray.empty] w fun e w' => e = .returned (.int .i64 0) ∧ w = w' := fun w => count_any ByteArray.empty w (by decide)
    clear hl
    go_enter Tryd.func58, Tryd.ntmps58
    go_wp2_with (go_at_call 69; refine (k1 _).mono ?_; rintro e w' ⟨rfl, rfl⟩)
    go_ret3
    exact ⟨HW.out, rfl⟩
  · have he1 : s.toList.isEmpty = false := by rw [ByteArray.toList_eq, isEmpty_size, decide_eq_false h0]
    have hpos : 0 < s.size := by omega
    have hlen : s.size = s.data.toList.length := by rw [Array.length_toList]; rfl
    have hh : s.data.toList.head? = some s[0] := by
      rw [List.head?_eq_getElem?, List.getElem?_eq_getElem (by rw [← hlen]; exact hpos)]; rfl
    by_cases hx : ((s[0].toNat : Int) == 45) = true
    · have hneg : isNeg s.data.toList = true := by
        unfold isNeg; rw [hh]
        have : s[0] = 45 := UInt8.toNat_inj.1 (by simp at hx; have : s[0].toNat = 45 := by omega
                                                  exact this)
        rw [this]; rfl
      have hT := tail_of s hpos
      have haft : afterSign s.data.toList = s.data.toList.tail := by unfold afterSign; rw [if_pos hneg]
      rw [← haft] at hT
      have hle := figs_length_le (afterSign s.data.toList)
      rw [← hT, Array.length_toList] at hle
      have hts : (s.extract 1 s.size).size = s.size - 1 := by rw [ByteArray.size_extract]; omega
      have hle2 : (figs (s.extract 1 s.size).data.toList).length ≤ s.size - 1 := by rw [← hts]; exact hle
      have k1 := fun w => count_any (s.extract 1 s.size) w (by rw [hts]; omega)
      rw [hT] at k1 hle2
      have hF : ∀ m, m = (figs (afterSign s.data.toList)).length → (s.extract 1 (1 + m)).data.toList = figs (afterSign s.data.toList) := by
        intro m hm
        rw [Lib.extract_data, List.drop_one, ← haft, hm, Nat.add_sub_cancel_left]
        exact (figs_prefix _).symm
      have w0 := wholeE_none (l := s.data.toList)
      have w1 := wholeE_neg_over (l := s.data.toList)
      have w2 := wholeE_neg (l := s.data.toList)
      have k2 : ∀ m : Nat, m = (figs (afterSign s.data.toList)).length → ∀ w, Calls Tryd.prog 70 #[.string (s.extract 1 (1 + m)), .int .u64 9223372036854775808] w fun e w' => e = sizeE (natOf (figs (afterSign s.data.toList)) : Int) 9223372036854775808 ∧ w = w' := by
        intro m hm w
        have := size_any (s.extract 1 (1 + m)) 9223372036854775808 w (by rw [ByteArray.size_extract]; omega) (by rw [hF m hm]; exact figs_isFig _) (by omega) (by omega)
        rw [hF m hm] at this
        exact this
      generalize hm : (figs (afterSign s.data.toList)).length = m at k1 k2 hle2 w0 w1 w2
      have k3 := k2 m rfl
      generalize hN : (natOf (figs (afterSign s.data.toList)) : Int) = N at k3 w1 w2
      have hN0 : 0 ≤ N := by omega
      clear k2 hF hT hts hle haft hh hm hN hlen
      have W0 := Lib.hid w0
      have W1 := Lib.hid w1
      have W2 := Lib.hid w2
      have HNEG := Lib.hid hneg
      clear w0 w1 w2 hneg
      by_cases hm0 : m = 0
      · subst hm0
        go_enter Tryd.func58, Tryd.ntmps58
        go_wp2_with (go_at_call 69; refine (k1 _).mono ?_; rintro e w' ⟨rfl, rfl⟩)
        go_ret3
        exact ⟨W0.out (by simp), rfl⟩
      · have hmb : (((m : Nat) : Int) == 0) = false := by simp; omega
        by_cases ho : N ≤ 9223372036854775808
        · rw [← sizeE_yes ho] at k3
          have hw1 : IntKind.i64.wrap (IntKind.u64.wrap (-N)) = -N := by
            rw [IntKind.wrap_i64, show IntKind.u64.wrap (-N) = (-N) % 18446744073709551616 by simp [IntKind.wrap, IntKind.bits, IntKind.signed]]
            omega
          have HO := Lib.hid ho
          clear ho
          go_enter Tryd.func58, Tryd.ntmps58
          go_wp2_with (first | (go_at_call 69; refine (k1 _).mono ?_; rintro e w' ⟨rfl, rfl⟩) | (go_at_call 70; refine (k3 _).mono ?_; rintro e w' ⟨rfl, rfl⟩))
          go_ret3
          exact ⟨W2.out hm0 HNEG.out HO.out _ (by omega) _ rfl, rfl⟩
        · rw [← sizeE_no (show (9223372036854775808 : Int) < N by omega)] at k3
          have HO := Lib.hid ho
          clear ho
          go_enter Tryd.func58, Tryd.ntmps58
          go_wp2_with (first | (go_at_call 69; refine (k1 _).mono ?_; rintro e w' ⟨rfl, rfl⟩) | (go_at_call 70; refine (k3 _).mono ?_; rintro e w' ⟨rfl, rfl⟩))
          go_ret3
          exact ⟨W1.out hm0 HNEG.out (by have := HO.out; omega), rfl⟩
    · rw [Bool.not_eq_true] at hx
      have hneg : isNeg s.data.toList = false := by
        unfold isNeg; rw [hh]
        cases hb : (some s[0] == some (45 : UInt8)) with
        | false => rfl
        | true =>
          have : s[0] = 45 := by simpa using hb
          rw [this] at hx
          exact absurd hx (by decide)
      have haft : afterSign s.data.toList = s.data.toList := by unfold afterSign; rw [if_neg (by rw [hneg]; simp)]
      have hle2 := figs_length_le (afterSign s.data.toList)
      rw [haft, ← hlen] at hle2
      have k1 := fun w => count_any s w hs
      have hF : ∀ m, m = (figs s.data.toList).length → (s.extract 0 m).data.toList = figs s.data.toList := by
        intro m hm
        rw [Lib.extract_data, List.drop_zero, hm, Nat.sub_zero]
        exact (figs_prefix _).symm
      have w0 := wholeE_none (l := s.data.toList)
      have w1 := wholeE_pos_over (l := s.data.toList)
      have w2 := wholeE_pos (l := s.data.toList)
      rw [haft] at w0 w1 w2
      have k2 : ∀ m : Nat, m = (figs s.data.toList).length → ∀ w, Calls Tryd.prog 70 #[.string (s.extract 0 m), .int .u64 9223372036854775807] w fun e w' => e = sizeE (natOf (figs s.data.toList) : Int) 9223372036854775807 ∧ w = w' := by
        intro m hm w
        have := size_any (s.extract 0 m) 9223372036854775807 w (by rw [ByteArray.size_extract]; omega) (by rw [hF m hm]; exact figs_isFig _) (by omega) (by omega)
        rw [hF m hm] at this
        exact this
      generalize hm : (figs s.data.toList).length = m at k1 k2 hle2 w0 w1 w2
      have k3 := k2 m rfl
      generalize hN : (natOf (figs s.data.toList) : Int) = N at k3 w1 w2
      have hN0 : 0 ≤ N := by omega
      clear k2 hF haft hh hm hN hlen
      have W0 := Lib.hid w0
      have W1 := Lib.hid w1
      have W2 := Lib.hid w2
      have HNEG := Lib.hid hneg
      clear w0 w1 w2 hneg
      by_cases hm0 : m = 0
      · subst hm0
        go_enter Tryd.func58, Tryd.ntmps58
        go_wp2_with (go_at_call 69; refine (k1 _).mono ?_; rintro e w' ⟨rfl, rfl⟩)
        go_ret3
        exact ⟨W0.out (by simp), rfl⟩
      · have hmb : (((m : Nat) : Int) == 0) = false := by simp; omega
        by_cases ho : N ≤ 9223372036854775807
        · rw [← sizeE_yes ho] at k3
          have hw1 : IntKind.i64.wrap N = N := by rw [IntKind.wrap_i64]; omega
          have HO := Lib.hid ho
          clear ho
          go_enter Tryd.func58, Tryd.ntmps58
          go_wp2_with (first | (go_at_call 69; refine (k1 _).mono ?_; rintro e w' ⟨rfl, rfl⟩) | (go_at_call 70; refine (k3 _).mono ?_; rintro e w' ⟨rfl, rfl⟩))
          go_ret3
          exact ⟨W2.out hm0 HNEG.out HO.out _ (by omega) _ rfl, rfl⟩
        · rw [← sizeE_no (show (9223372036854775807 : Int) < N by omega)] at k3
          have HO := Lib.hid ho
          clear ho
          go_enter Tryd.func58, Tryd.ntmps58
          go_wp2_with (first | (go_at_call 69; refine (k1 _).mono ?_; rintro e w' ⟨rfl, rfl⟩) | (go_at_call 70; refine (k3 _).mono ?_; rintro e w' ⟨rfl, rfl⟩))
          go_ret3
          exact ⟨W1.out hm0 HNEG.out (by have := HO.out; omega), rfl⟩
end Go.Proofs.YtaaecgglocgcmaaDoor
namespace Go.Proofs.YtaaecgglocgcmaaDoor
open Go.RowKit Go.Lib

/-- A reckoner lies in a block: the rest of its text, the variables, how deep, and whether it is idle. -/
def Rk (p : Nat) (l : List UInt8) (vv : Value) (d : Nat) (i : Bool) (w : World) : Prop := w.heap[p]? = some (.cells #[.string ⟨l.toArray⟩, vv, .int .i64 (d : Int), .bool i] 48 (0, 0))
theorem Rk.cells {p : Nat} {l : List UInt8} {vv : Value} {d : Nat} {i : Bool} {w : World} (h : Rk p l vv d i w) :
    w.cell? ⟨p, 0, none⟩ = some (.string ⟨l.toArray⟩) ∧ w.cell? ⟨p, 1, none⟩ = some vv ∧ w.cell? ⟨p, 2, none⟩ = some (.int .i64 (d : Int)) ∧ w.cell? ⟨p, 3, none⟩ = some (.bool i) ∧ w.frozen? ⟨p, 0, none⟩ = false ∧ w.frozen? ⟨p, 1, none⟩ = false ∧ w.frozen? ⟨p, 2, none⟩ = false ∧ w.frozen? ⟨p, 3, none⟩ = false := by
  unfold Rk at h
  refine ⟨by rw [cell_of_heap h]; rfl, by rw [cell_of_heap h]; rfl, by rw [cell_of_heap h]; rfl, by rw [cell_of_heap h]; rfl, frozen_of_heap h _, frozen_of_heap h _, frozen_of_heap h _, frozen_of_heap h _⟩
theorem block_ltA {w : World} {g : Nat} {o : Obj} (h : w.heap[g]? = some o) : g < w.heap.size := by
  by_cases hl : g < w.heap.size
  · exact hl
  · rw [Array.getElem?_eq_none (Nat.le_of_not_lt hl)] at h; cases h
theorem Rk.lt {p : Nat} {l : List UInt8} {vv : Value} {d : Nat} {i : Bool} {w : World} (h : Rk p l vv d i w) : p < w.heap.size := block_ltA h
theorem Rk.below {p : Nat} {l : List UInt8} {vv : Value} {d : Nat} {i : Bool} {w w' : World} (h : Rk p l vv d i w) (hb : Below w.heap.size w w') : Rk p l vv d i w' := (hb.block p h.lt).trans h
theorem Rk.rest {p : Nat} {l : List UInt8} {vv : Value} {d : Nat} {i : Bool} {w : World} (h : Rk p l vv d i w) (r : List UInt8) : Rk p r vv d i (w.setCell ⟨p, 0, none⟩ (.string ⟨r.toArray⟩)) := by
  have h := heap_setCell_same w p 0 _ _ (.string ⟨r.toArray⟩) h
  simpa [Rk] using h
theorem Rk.deep {p : Nat} {l : List UInt8} {vv : Value} {d : Nat} {i : Bool} {w : World} (h : Rk p l vv d i w) (x : Nat) : Rk p l vv x i (w.setCell ⟨p, 2, none⟩ (.int .i64 (x : Int))) := by
  have h := heap_setCell_same w p 2 _ _ (.int .i64 (x : Int)) h
  simpa [Rk] using h
theorem Rk.idle {p : Nat} {l : List UInt8} {vv : Value} {d : Nat} {i : Bool} {w : World} (h : Rk p l vv d i w) (x : Bool) : Rk p l vv d x (w.setCell ⟨p, 3, none⟩ (.bool x)) := by
  have h := heap_setCell_same w p 3 _ _ (.bool x) h
  simpa [Rk] using h

theorem skip_trim (l : List UInt8) : trimLeftS l [32, 9, 10] = skipA l := by
  unfold trimLeftS skipA
  congr 1
  funext c
  unfold blankA
  cases h1 : c == 32 <;> cases h2 : c == 9 <;> cases h3 : c == 10 <;> simp_all
theorem trimA_any (l : List UInt8) (w : World) :
    Calls Tryd.prog 51 #[.string ⟨l.toArray⟩, .string ⟨#[32, 9, 10]⟩] w fun e w' => e = .returned (.string ⟨(skipA l).toArray⟩) ∧ Below w.heap.size w w' := by
  have h := Any.strings_TrimLeft_laid Tryd.lays161 (by kernel_rfl) ⟨l.toArray⟩ ⟨#[32, 9, 10]⟩ w (by decide) (ascii_of_all (by decide))
  refine Calls.mono h ?_
  rintro e w' ⟨rfl, hb⟩
  refine ⟨?_, hb⟩
  rw [← skip_trim]

set_option maxHeartbeats 1000000 in
set_option maxRecDepth 20000 in
theorem blanksA_any (p : Nat) (l : List UInt8) (vv : Value) (d : Nat) (i : Bool) (w : World) (h : Rk p l vv d i w) :
    Calls Tryd.prog 42 #[.pointer (some ⟨p, 0, none⟩)] w fun e w' => e = .returned (.tuple #[]) ∧ Rk p (skipA l) vv d i w' ∧ Below p w w' := by
  obtain ⟨c0, c1, c2, c3, f0, f1, f2, f3⟩ := h.cells
  have k := trimA_any l w
  have hlt := h.lt
  have fin : ∀ w1 : World, Below w.heap.size w w1 → Rk p (skipA l) vv d i (w1.setCell ⟨p, 0, none⟩ (.string ⟨(skipA l).toArray⟩)) ∧ Below p w (w1.setCell ⟨p, 0, none⟩ (.string ⟨(skipA l).toArray⟩)) := fun w1 hb =>
    ⟨(h.below hb).rest _, (hb.mono (Nat.le_of_lt hlt)).setCell (p := ⟨p, 0, none⟩) (Nat.le_refl _) _⟩
  have cel : ∀ w1 : World, Below w.heap.size w w1 → w1.cell? ⟨p, 0, none⟩ = some (.string ⟨l.toArray⟩) ∧ w1.frozen? ⟨p, 0, none⟩ = false := fun w1 hb => ⟨(h.below hb).cells.1, (h.below hb).cells.2.2.2.2.1⟩
  have FIN := Lib.hid fin
  have CEL := Lib.hid cel
  clear fin cel h
  generalize (⟨l.toArray⟩ : ByteArray) = S at *
  generalize (⟨(skipA l).toArray⟩ : ByteArray) = S' at *
  go_enter Tryd.func42, Tryd.ntmps42
  go_wp2_with (go_at_call 51; refine k.mono ?_; rintro e w1 ⟨rfl, hb⟩; obtain ⟨d0, g0⟩ := CEL.out w1 hb; have HB := Lib.hid hb; clear hb)
  go_end0
  exact ⟨rfl, FIN.out _ HB.out⟩

def markTx : Mk → List UInt8
  | .or => [124, 124] | .and => [38, 38] | .eq => [61, 61] | .ne => [33, 61] | .le => [60, 61] | .ge => [62, 61] | .lt => [60] | .gt => [62] | .add => [43] | .sub => [45] | .mul => [42] | .quo => [47] | .rem => [37]
theorem marksAt_tx : ∀ k, ∀ t ∈ marksAt k, t.1 = markTx t.2
  | 0 | 1 | 2 | 3 | 4 | 5 => by simp [marksAt, markTx]
  | _ + 6 => by simp [marksAt]
/-- The table of marks holds what its text lays; all of it lies below a block. -/
def Marks (B : Nat) (w : World) : Prop := 0 < B ∧ ∀ k, k < 6 → ∃ b o cap, w.cell? ⟨0, k, none⟩ = some (.slice (some ⟨b, o, none⟩) (marksAt k).length cap) ∧ b < B ∧ ∀ j t, (marksAt k)[j]? = some t → w.cell? ⟨b, o + j, none⟩ = some (.string ⟨t.1.toArray⟩)
theorem Marks.below {B : Nat} {w w' : World} (h : Marks B w) (hb : Below B w w') : Marks B w' := by
  refine ⟨h.1, fun k hk => ?_⟩
  obtain ⟨b, o, cap, h1, h2, h3⟩ := h.2 k hk
  have e : ∀ g i, g < B → w'.cell? ⟨g, i, none⟩ = w.cell? ⟨g, i, none⟩ := fun g i hg => by unfold World.cell?; rw [hb.block g hg]
  exact ⟨b, o, cap, (e _ _ h.1).trans h1, h2, fun j t hj => (e _ _ h2).trans (h3 j t hj)⟩
theorem Marks.mono {B B' : Nat} {w : World} (h : Marks B w) (hb : B ≤ B') : Marks B' w :=
  ⟨Nat.lt_of_lt_of_le h.1 hb, fun k hk => by
    obtain ⟨b, o, cap, h1, h2, h3⟩ := h.2 k hk
    exact ⟨b, o, cap, h1, Nat.lt_of_lt_of_le h2 hb, h3⟩⟩
/-- What the method mark answers. -/
def MarkP (p : Nat) (_l : List UInt8) (vv : Value) (d : Nat) (i : Bool) (w : World) : Option (Mk × List UInt8) → Ending → World → Prop
  | none, e, w' => e = .returned (.string ByteArray.empty) ∧ w' = w
  | some (m, r), e, w' => e = .returned (.string ⟨(markTx m).toArray⟩) ∧ Rk p r vv d i w' ∧ Below p w w'
theorem markIn_drop (ms : List (List UInt8 × Mk)) (l : List UInt8) (i : Nat) (t : List UInt8 × Mk) (hi : ms[i]? = some t) : markIn (ms.drop i) l = if t.1.isPrefixOf l then some (t.2, l.drop t.1.length) else markIn (ms.drop (i + 1)) l := by
  have h1 : i < ms.length := by
    by_cases h : i < ms.length
    · exact h
    · rw [List.getElem?_eq_none (by omega)] at hi; cases hi
  rw [List.drop_eq_getElem_cons h1]
  rw [List.getElem?_eq_getElem h1] at hi
  injection hi with hi
  rw [hi]
  obtain ⟨a, b⟩ := t
  rfl
set_option maxHeartbeats 1000000 in
set_option maxRecDepth 20000 in
theorem markA_any (p : Nat) (l : List UInt8) (vv : Value) (d : Nat) (i : Bool) (k : Nat) (w : World) (h : Rk p l vv d i w) (hM : Marks p w) (hk : k < 6) (hl : l.length ≤ 70000000000000) :
    Calls Tryd.prog 43 #[.pointer (some ⟨p, 0, none⟩), .int .i64 (k : Int)] w (MarkP p l vv d i w (markIn (marksAt k) l)) := by
  obtain ⟨c0, c1, c2, c3, f0, f1, f2, f3⟩ := h.cells
  obtain ⟨b, o, cap, h1, h2, h3⟩ := hM.2 k hk
  have hlen : (marksAt k).length ≤ 4 := by
    match k, hk with
    | 0, _ | 1, _ | 2, _ | 3, _ | 4, _ | 5, _ => decide
  have HM := Lib.hid h3
  have hk' : (k : Int) < 6 := by omega
  have PUT := Lib.hid (fun r => (And.intro (h.rest r) ((Below.refl p w).setCell (p := ⟨p, 0, none⟩) (Nat.le_refl _) (.string ⟨r.toArray⟩))))
  have hmd := markIn_drop (marksAt k) l
  have hmn : ∀ j, (marksAt k).length ≤ j → markIn ((marksAt k).drop j) l = none := by
    intro j hj
    rw [List.drop_of_length_le hj]
    rfl
  have HTX := Lib.hid (marksAt_tx k)
  have MD := Lib.hid hmd
  have MN := Lib.hid hmn
  have hgo : ∀ j, j < (marksAt k).length → ∃ t, (marksAt k)[j]? = some t := fun j hj => ⟨_, List.getElem?_eq_getElem hj⟩
  have HGO := Lib.hid hgo
  obtain ⟨R, hR⟩ : ∃ R, R = markIn (marksAt k) l := ⟨_, rfl⟩
  have H0 : Hid (R = markIn ((marksAt k).drop 0) l) := by show R = _; rw [hR]; rfl
  rw [← hR]
  clear h3 h hM hmd hmn hgo hR
  obtain ⟨n, hn⟩ : ∃ n, n = (marksAt k).length := ⟨_, rfl⟩
  rw [← hn] at h1 hlen HGO MN
  obtain ⟨S, hS⟩ : ∃ S : ByteArray, S = ⟨l.toArray⟩ := ⟨_, rfl⟩
  have hz : S.size = l.length := by rw [hS]; simp [ByteArray.size]
  rw [← hS] at c0
  have HS := Lib.hid hS
  clear hS hn
  have hsz : S.size ≤ 70000000000000 := by omega
  have HZ := Lib.hid hz
  clear hz hl
  go_enter Tryd.func43, Tryd.ntmps43
  go_wp2_with fail
  go_loop [11] (fun v => ∃ j : Nat, j ≤ n ∧ v = .int .i64 (j : Int) ∧ Hid (R = markIn ((marksAt k).drop j) l)) (fun v => n - (RowKit.intOf v).toNat)
  case atStart => exact ⟨0, Nat.zero_le _, rfl, H0⟩
  case round =>
    obtain ⟨j, hj, rfl, HR⟩ := hrel
    by_cases hlt : j < n
    · obtain ⟨t, ht⟩ := HGO.out j hlt
      have hcell := HM.out j t ht
      have hstep := MD.out j t ht
      have hmem := HTX.out t (List.mem_of_getElem? ht)
      have kp := fun w => Tryd.strings_HasPrefix S ⟨t.1.toArray⟩ w
      have hhp : hasPrefix S.data.toList t.1 = t.1.isPrefixOf l := by rw [HS.out]; rfl
      have hle : t.1.isPrefixOf l = true → t.1.length ≤ S.size := fun hp => by rw [HZ.out]; exact (List.isPrefixOf_iff_prefix.1 hp).length_le
      have hex : S.extract t.1.length S.size = ⟨(l.drop t.1.length).toArray⟩ := by
        rw [HS.out]
        apply ByteArray.ext
        rw [ByteArray.data_extract]
        apply Array.ext'
        simp only [List.extract_toArray, List.extract_eq_drop_take']
        rw [List.take_of_length_le (by simp [ByteArray.size])]
      rw [show (⟨t.1.toArray⟩ : ByteArray).data.toList = t.1 by simp, hhp] at kp
      clear hhp
      obtain ⟨T, hT⟩ : ∃ T : ByteArray, T = ⟨t.1.toArray⟩ := ⟨_, rfl⟩
      have hTz : T.size = t.1.length := by rw [hT]; simp [ByteArray.size]
      rw [← hT] at hcell kp
      rw [← hTz] at hex hle
      have HEX := Lib.hid hex
      have HST := Lib.hid hstep
      have HMEM := Lib.hid hmem
      have HT := Lib.hid hT
      have HTZ := Lib.hid hTz
      clear hex hstep hmem hT hTz ht
      obtain ⟨q, hq⟩ : ∃ q, q = t.1.isPrefixOf l := ⟨_, rfl⟩
      rw [← hq] at kp hle
      have HQ := Lib.hid hq
      clear hq
      cases q
      · clear hle
        go_wp2_with (go_at_call 52; refine (kp _).mono ?_; rintro e w1 ⟨rfl, rfl⟩)
        go_round
        case rel => exact ⟨j + 1, by omega, by go_num, by show R = _; rw [HR.out, HST.out, ← HQ.out]; rfl⟩
        case measure => simp [RowKit.intOf]; omega
      · have hle := hle rfl
        have hle' : (T.size : Int) ≤ (S.size : Int) := by omega
        go_wp2_with (go_at_call 52; refine (kp _).mono ?_; rintro e w1 ⟨rfl, rfl⟩)
        rw [HEX.out]
        have hfin : MarkP p l vv d i w1 R (.returned (.string T)) (w1.setCell ⟨p, 0, none⟩ (.string ⟨(l.drop T.size).toArray⟩)) := by
          rw [HR.out, HST.out, ← HQ.out, HTZ.out, HT.out, HMEM.out]
          exact ⟨rfl, (PUT.out _).1, (PUT.out _).2⟩
        refine bodyPost_ret (results_tmp rfl _ _ _) rfl ?_
        exact hfin
    · have hfin : MarkP p l vv d i w R (.returned (.string ByteArray.empty)) w := by
        rw [HR.out, MN.out j (by omega)]
        exact ⟨rfl, rfl⟩
      have HF := Lib.hid hfin
      clear hfin
      go_wp2
      refine bodyPost_ret (results_tmp rfl _ _ _) rfl ?_
      exact HF.out
end Go.Proofs.YtaaecgglocgcmaaDoor
