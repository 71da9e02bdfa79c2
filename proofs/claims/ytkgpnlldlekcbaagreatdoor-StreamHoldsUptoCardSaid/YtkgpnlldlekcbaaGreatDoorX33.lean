/- Packed texts: StRun, StLines, StFrame, SeRead. What each of them proves stands above its theorems; the conditions stand in these. -/
import Derived.Deep.DeepHandedRow
import Derived.HandedShaped
import Derived.LaidMore
import Derived.Lay
import Derived.OpenShut
import Derived.ProofKit
import Derived.Shelf.Vars
import Derived.ShutString
import Derived.SizedLaws
import Derived.Stop.Joined
import Derived.Stop.LaidErr
import Derived.Test.YtkgpnlldlekcbaaGreatDoorRows
import Derived.Test.YtkgpnlldlekcbaaGreatDoorShelf
import Derived.Test.YtkgpnlldlekcbaaGreatDoorX17
import Derived.Test.YtkgpnlldlekcbaaGreatDoorX28
import Derived.Test.YtkgpnlldlekcbaaGreatDoorX32
namespace Go.Proofs.YtkgpnlldlekcbaaGreatDoor
open Go.RowKit Go.Lib Go.Maps
attribute [local go_sem] Oper.semAt_some

theorem infoBool9 : (Tryz.prog.info? 4).map (fun i => (i.zero, i.size, i.bytes)) = some (some (.bool false), 1, 1) := by kernel_rfl
theorem made_bools (n : Nat) : madeCells #[.bool false] n = ⟨(List.replicate n false).map Value.bool⟩ := by
  unfold madeCells
  apply Array.ext'
  simp [List.ext_getElem_iff, Nat.mod_one]
/-- A run's first state, as it stands in memory. -/
theorem run_begin (E : RC) (_hE : E.ko = none) (w w2 w3 : World) (n : Nat) (hw0 : E.w0 = w) (hB : E.B = w.heap.size) (hg : E.g = w.heap.size) (hm : E.m = w.heap.size + 1) (hp : E.p = w2.heap.size) (hn : n ≤ 1000000000000000000)
    (ho : w2.ownsMap Tryz.prog 9 (plainElem (H := Unit) Tryz.prog 3) (w.heap.size + 1) (0 + 1) ((DataW.map []).put (.string []) (.lit (.int .i64 (E.cs.length : Int)))))
    (hgr : ((w.alloc (.cells (madeCells #[.bool false] E.cs.length) 4)).alloc (.map #[] 0)).grownBy w2 (some (w.heap.size + 1)))
    (h3 : w3 = w2.alloc (.cells #[.string ⟨#[]⟩, .string ⟨#[]⟩, E.vl, E.vx, .bool E.q, .int .i64 (n : Int), .slice none 0 0, .int .i64 0, .int .i64 0, .bool false, .slice (some ⟨w.heap.size, 0, none⟩) E.cs.length E.cs.length, .map (some (w.heap.size + 1))] 60)) :
    RunM E (startD E.cs) n 0 w3 := by
  have hz1 : (w.alloc (.cells (madeCells #[.bool false] E.cs.length) 4)).heap.size = w.heap.size + 1 := by simp
  have hz2 : ((w.alloc (.cells (madeCells #[.bool false] E.cs.length) 4)).alloc (.map #[] 0)).heap.size = w.heap.size + 2 := by simp
  have hlow : Below w.heap.size w w2 := (((Below.refl _ w).alloc (Nat.le_refl _) _).alloc (by omega) _).grown hgr (by omega) (fun b hb => by injection hb with hb; omega)
  have hon : w2.heap[w.heap.size]? = some (.cells (madeCells #[.bool false] E.cs.length) 4 (0, 0)) := by
    rw [hgr.block w.heap.size (by omega) (fun e => by injection e with e; omega)]
    exact (Below.heap_alloc _ _ _ (by omega)).trans (heap_alloc_new w _)
  have hlt := block_lt hon
  obtain ⟨es, cl, hmb, r⟩ := ho
  have hmlt := block_lt hmb
  subst h3
  refine ⟨?_, ⟨.slice none 0 0, ?_, World.ownsRow_nil _ _ _ _⟩, ?_, by simp [startD], ⟨1, (DataW.map []).put (.string []) (.lit (.int .i64 (E.cs.length : Int))), ⟨es, cl, ?_, r⟩, by omega, ?_⟩, Nat.zero_le _, Nat.zero_le _, Nat.zero_le _, Nat.zero_le _, Nat.zero_le _, fun b e => by rw [_hE] at e; cases e⟩
  · rw [hB, hw0]
    exact hlow.alloc hlow.size _
  · rw [hp]
    have := heap_alloc_new w2 (.cells #[.string ⟨#[]⟩, .string ⟨#[]⟩, E.vl, E.vx, .bool E.q, .int .i64 (n : Int), .slice none 0 0, .int .i64 0, .int .i64 0, .bool false, .slice (some ⟨w.heap.size, 0, none⟩) E.cs.length E.cs.length, .map (some (w.heap.size + 1))] 60)
    rw [this]
    unfold rowR startD
    rw [hg, hm]
    rfl
  · rw [hg]
    refine (Below.heap_alloc _ _ _ hlt).trans (hon.trans ?_)
    rw [made_bools]
    rfl
  · rw [hm]
    exact (Below.heap_alloc _ _ _ hmlt).trans hmb
  · intro x
    by_cases hx : x = []
    · subst hx
      refine ⟨fun _ z => ?_, fun _ => ?_⟩
      · rw [atKey_put_same isMap_empty (by unfold WideAt.IsKeyLit; trivial)]
        unfold placeD
        rw [if_pos rfl]
      · exact has_put_same isMap_empty (by unfold WideAt.IsKeyLit; trivial) _
    · have hne : (Lit.string x) ≠ (Lit.string []) := fun e => hx (Lit.string.inj e)
      refine ⟨fun h => ?_, fun e => absurd e hx⟩
      rw [has_put_other hne] at h
      cases h
/-- What Run answers. -/
def RunS (B : Nat) (w : World) (R : List ByteArray × Nat × Int) (e : Ending) (w' : World) : Prop := ∃ v, e = .returned (.tuple #[v, .int .i64 (R.2.1 : Int), .int .i64 R.2.2]) ∧ w'.ownsRow B 9 1 v R.1.length (strC R.1) ∧ Below B w w'
set_option maxHeartbeats 8000000 in
set_option maxRecDepth 100000 in
theorem run9_any (O : Ora) (cs : List Cm) (xs : List ByteArray) (B' : Nat) (vl vx : Value) (q : Bool) (f : Int) (w : World) (hscr : ScrS B' cs vl w) (hstr : Strs vx xs w) (hxz : ∀ x ∈ xs, x.size ≤ 140737488355328) (hcl : cs.length ≤ 1000000000) (hla : ∀ c ∈ cs, c.label.length ≤ 1000000000) (hC : O.C * 16 ≤ 140737488355328) (hf : f ≤ 1000000000000000000)
    (hO : ∀ E : RC, E.cs = cs → E.vl = vl → E.w0 = w → OraI O E ∧ OraS O E ∧ OraN O E) (R : List ByteArray × Nat × Int) (hr : runD O cs xs q f.toNat (startD cs) = some R) :
    Calls Tryz.prog 13 #[vl, vx, .bool q, .int .i64 f] w (RunS w.heap.size w R) := by
  obtain ⟨al, cl, hvl⟩ := hscr.shape
  obtain ⟨ax, cx, hvx, _, hxl, _⟩ := id hstr
  obtain ⟨n, hn⟩ : ∃ n, n = f.toNat := ⟨_, rfl⟩
  rw [← hn] at hr
  have hnb : n ≤ 1000000000000000000 := by omega
  obtain ⟨N, hN⟩ : ∃ N, N = cs.length := ⟨_, rfl⟩
  obtain ⟨M, hM⟩ : ∃ M, M = xs.length := ⟨_, rfl⟩
  have hN2 : N ≤ 1000000000 := by omega
  have kmk := fun (w : World) => run_make_row' (P := Tryz.prog) 51 4 (.bool false) 1 Tryz.underlying51 infoBool9 rfl .i64 .i64 N (by omega) (by omega) w
  have hmm := @run_makeMap Tryz.prog
  have hmax : max f 0 = (n : Int) := by omega
  have hkey : keyOf Tryz.prog 9 (.string ⟨#[]⟩) = some (.string []) := WideMaps.keyOf_string_mk Tryz.underlying9 (by decide)
  have ho := World.ownsMap_made (w.alloc (.cells (madeCells #[.bool false] N) 4)) Tryz.prog 9 (plainElem (H := Unit) Tryz.prog 3)
  rw [show (w.alloc (.cells (madeCells #[.bool false] N) 4)).heap.size = w.heap.size + 1 from by simp] at ho
  obtain ⟨w2, hrun, hown2, hgrow2⟩ := ho.update str_law Tryz.underlying56 (by unfold maxLen; omega) hkey (plainElem_int (a := (N : Int)) Tryz.underlying3 (WalkArith.wf_i64 (by omega)))
  have hNI : (N : Int) ≤ 1000000000 := by omega
  -- the run's constants
  obtain ⟨E, hE⟩ : ∃ E : RC, E = { B := w.heap.size, p := w2.heap.size, g := w.heap.size, m := w.heap.size + 1, vl := vl, vx := vx, q := q, cs := cs, xs := xs, w0 := w, C := O.C, ko := some (w2.heap.size + 1), kp := fun o => ∃ D, (∀ w' : World, w'.heap[w2.heap.size + 1]? = some o → w'.ownsMap Tryz.prog 5 (mthR w2.heap.size) (w2.heap.size + 1) 12 D) ∧ HalfD cmdF [] D } := ⟨_, rfl⟩
  have hlow2 : Below w.heap.size w w2 := (((Below.refl _ w).alloc (Nat.le_refl _) _).alloc (by simp) _).grown hgrow2 (by simp; omega) (fun b hb => by injection hb with hb; omega)
  have hmlt : w.heap.size + 1 < w2.heap.size := by
    have := hgrow2.size
    simp at this
    omega
  have hOk : E.Ok := by
    subst hE
    exact ⟨rfl, hlow2.size, Nat.le_refl _, Nat.le_succ _, ⟨B', hscr⟩, hstr, hxz, hcl, hla, hC, fun b e => by injection e with e; show b ≠ w.heap.size + 1; omega⟩
  obtain ⟨w3, hw3⟩ : ∃ w3, w3 = w2.alloc (.cells #[.string ⟨#[]⟩, .string ⟨#[]⟩, vl, vx, .bool q, .int .i64 (n : Int), .slice none 0 0, .int .i64 0, .int .i64 0, .bool false, .slice (some ⟨w.heap.size, 0, none⟩) N N, .map (some (w.heap.size + 1))] 60) := ⟨_, rfl⟩
  have hst : RunM { E with ko := none } (startD cs) n 0 w3 := by
    subst hE
    subst hN
    exact run_begin _ rfl w w2 w3 n rfl rfl rfl rfl rfl hnb hown2 hgrow2 hw3
  have hz3 : w3.heap.size = w2.heap.size + 1 := by rw [hw3]; simp
  have kc : Calls Tryz.prog 39 #[.pointer (some ⟨E.p, 0, none⟩)] w3 fun e w' => e = .returned (.map (some (w2.heap.size + 1))) ∧ RunM E (startD cs) n 0 w' := by
    refine (commands9_any E.p w3).mono ?_
    rintro e w' ⟨rfl, ⟨D, ho, hD⟩, hb⟩
    rw [hz3] at ho
    refine ⟨by rw [hz3], ?_⟩
    have h' := hst.kept hb (by subst hE; rw [hz3]; show w.heap.size ≤ _; omega)
    refine ⟨h'.low, h'.row, h'.on, h'.onl, h'.map, h'.ps, h'.hs, h'.nm, h'.ou, h'.po, fun b e => ?_⟩
    subst hE
    injection e with e
    subst e
    obtain ⟨es, cl2, g1, g2⟩ := ho
    exact ⟨es, cl2, g1, D, fun w'' hw => ⟨es, cl2, hw, g2⟩, hD⟩
  have hko : KoOk E (w2.heap.size + 1) := by
    subst hE
    exact ⟨rfl, fun es cl2 h => h⟩
  obtain ⟨o1, o2, o3⟩ := hO E (by rw [hE]) (by rw [hE]) (by rw [hE])
  have hr' : runD O E.cs E.xs E.q n (startD cs) = some R := by subst hE; exact hr
  have kY := cycles9_any O E hOk o1 o2 o3 (w2.heap.size + 1) hko (by rw [hE]) R (startD cs) n w3 kc rfl hr'
  have kY : Calls Tryz.prog 21 #[.pointer (some ⟨w2.heap.size, 0, none⟩)] w3 fun e w' => e = .returned (.int .i64 R.2.2) ∧ ∃ v, (w'.cell? ⟨w2.heap.size, 6, none⟩ = some v ∧ w'.cell? ⟨w2.heap.size, 5, none⟩ = some (.int .i64 (R.2.1 : Int))) ∧ w'.ownsRow w.heap.size 9 1 v R.1.length (strC R.1) ∧ Below w.heap.size w w' := by
    subst hE
    refine kY.mono ?_
    rintro e w' ⟨rfl, s, hs, hm⟩
    obtain ⟨vo, h1, h2⟩ := hm.row
    rw [hs] at h2
    exact ⟨rfl, vo, ⟨by rw [cell_of_heap h1]; rfl, by rw [cell_of_heap h1]; rfl⟩, h2, hm.low⟩
  rw [hw3, hvl, hvx] at kY
  rw [← hN] at hvl kY
  rw [← hM] at hvx kY
  subst hvl
  subst hvx
  unfold RunS
  clear hE hOk hst hz3 kc hko o1 o2 o3 hr' hr hown2 hgrow2 ho hkey hlow2 hmlt hO hscr hstr hxz hcl hla hC hf hw3 hN hM hn hN2 hnb hxl
  go_enter Tryz.func13, Tryz.ntmps13
  go_wp2_with (go_at_call 21; (with_reducible refine kY.mono ?_); rintro e w4 ⟨rfl, v, ⟨c6, c5⟩, ho4, hb4⟩; obtain ⟨a4, cap4, rfl⟩ := own_zeroB ho4; have H4 := Lib.hid (And.intro ho4 hb4); clear ho4 hb4)
  go_quiet (fail)
  go_wp2
  refine bodyPost_ret (results_tmp3 rfl _ _ _) rfl ⟨_, rfl, owns_same H4.out.1 fun g hg => rfl, below_draws H4.out.2 _⟩
end Go.Proofs.YtkgpnlldlekcbaaGreatDoor
namespace Go.Proofs.YtkgpnlldlekcbaaGreatDoor
open Go.RowKit Go.Lib
attribute [local go_sem] Oper.semAt_some

/-- The library's own variable MaxLen holds a number. -/
def Mx (w : World) : Prop := ∃ m, w.cell? ⟨0, 0, none⟩ = some (.int .i64 m)
theorem Mx.below {w w' : World} (h : Mx w) (hb : Below w.heap.size w w') : Mx w' := by
  obtain ⟨m, hm⟩ := h
  exact ⟨m, cell_stays hb hm⟩
def trimB (s : ByteArray) : ByteArray := ⟨(Lib.trimSuffix s.data.toList [10]).toArray⟩
def linesB (s : ByteArray) : List ByteArray := if s.data.toList = [] then [] else Lib.splitB ⟨#[10]⟩ 0 (Lib.countB (trimB s) ⟨#[10]⟩) (trimB s)
theorem trim_len (l : List UInt8) : (Lib.trimSuffix l [10]).length ≤ l.length := by
  unfold Lib.trimSuffix
  split
  · rw [List.length_take]; omega
  · exact Nat.le_refl _
set_option maxHeartbeats 1000000 in
set_option maxRecDepth 20000 in
theorem lines9_any (s : ByteArray) (w : World) (hs : s.size < 4294967281) (hm : Mx w) :
    Calls Tryz.prog 16 #[.string s] w fun e w' => (∃ v, e = .returned v ∧ w'.ownsRow w.heap.size 9 1 v (linesB s).length (strC (linesB s))) ∧ Below w.heap.size w w' := by
  have hz : s.data.toList.length = s.size := Array.length_toList
  by_cases h : s.data.toList = []
  · have hE : s.toList.isEmpty = true := by rw [Lib.toList_data, h]; rfl
    have hl : linesB s = [] := by unfold linesB; rw [if_pos h]
    rw [hl]
    clear h hl hz hm hs
    go_enter Tryz.func16, Tryz.ntmps16
    go_wp2
    exact bodyPost_ret (results_tmp rfl _ _ _) rfl ⟨⟨_, rfl, World.ownsRow_nil _ _ _ _⟩, Below.refl _ _⟩
  · have hE : s.toList.isEmpty = false := by rw [Lib.toList_data]; simpa using h
    have hl : linesB s = Lib.splitB ⟨#[10]⟩ 0 (Lib.countB (trimB s) ⟨#[10]⟩) (trimB s) := by unfold linesB; rw [if_neg h]
    have k1 : ∀ w, Calls Tryz.prog 23 #[.string s, .string ⟨#[10]⟩] w fun e w' => e = .returned (.string (trimB s)) ∧ w' = w := fun w => Tryz.strings_TrimSuffix s ⟨#[10]⟩ w (by omega)
    have hts : (trimB s).size ≤ s.size := by
      show (Lib.trimSuffix s.data.toList [10]).toArray.size ≤ _
      rw [List.size_toArray]
      have := trim_len s.data.toList
      omega
    have k2 : Calls Tryz.prog 22 #[.string (trimB s), .string ⟨#[10]⟩] w fun e w' => (∃ v, e = .returned v ∧ w'.ownsRow w.heap.size 9 1 v (linesB s).length (strC (linesB s))) ∧ Below w.heap.size w w' := by
      obtain ⟨m, hm⟩ := hm
      refine (Tryz.strings_Split (trimB s) ⟨#[10]⟩ m w (by omega) hm (by decide)).mono ?_
      rintro e w' ⟨rfl, rfl⟩
      have hln : (linesB s).length = Lib.countB (trimB s) ⟨#[10]⟩ + 1 := by rw [hl]; exact Lib.splitB_all ⟨#[10]⟩ (by decide) 0 _ _ rfl
      have hcl := Lib.countB_le ⟨#[10]⟩ (by decide) (trimB s).size (trimB s) (Nat.le_refl _)
      rw [← hl, ← hln]
      refine ⟨⟨_, rfl, ⟨by rw [strC_length]; simp, .inr ⟨w.heap.size, (linesB s).length, _, rfl, Nat.le_refl _, heap_alloc_new w _, Nat.le_refl _, by unfold maxLen; omega, by simp, ?_⟩⟩⟩, (Below.refl _ w).alloc (Nat.le_refl _) _⟩
      unfold strC
      rw [List.take_of_length_le (by simp)]
    generalize linesB s = L at k2 ⊢
    generalize trimB s = T at k1 k2
    clear h hl hz hm hs hts
    go_enter Tryz.func16, Tryz.ntmps16
    go_wp2_with (first
      | (go_at_call 23; (with_reducible refine (k1 _).mono ?_); rintro e w1 ⟨rfl, rfl⟩)
      | (go_at_call 22; (with_reducible refine k2.mono ?_); rintro e w2 ⟨⟨v, rfl, ho⟩, hb⟩; have H := Lib.hid (And.intro ho hb); clear ho hb))
    refine bodyPost_ret (results_tmp rfl _ _ _) rfl ?_
    exact ⟨⟨v, rfl, H.out.1⟩, H.out.2⟩

/-! ### What a text's lines are -/
theorem index_ten (x r : List UInt8) (h : ∀ c ∈ x, c ≠ 10) : Lib.index (x ++ 10 :: r) [10] = (x.length : Int) := by
  induction x with
  | nil => simp [Lib.index, List.isPrefixOf]
  | cons b x ih =>
    have hb : b ≠ 10 := h b (by simp)
    have hp : ([10] : List UInt8).isPrefixOf (b :: (x ++ 10 :: r)) = false := by simp [List.isPrefixOf, Ne.symm hb]
    rw [List.cons_append, Lib.index, hp, ih (fun c hc => h c (by simp [hc]))]
    rw [if_neg (by simp), if_neg (by rw [beq_iff_eq]; omega), List.length_cons]
    omega
theorem index_none (x : List UInt8) (h : ∀ c ∈ x, c ≠ 10) : Lib.index x [10] = -1 := by
  induction x with
  | nil => rfl
  | cons b x ih =>
    have hb : b ≠ 10 := h b (by simp)
    have hp : ([10] : List UInt8).isPrefixOf (b :: x) = false := by simp [List.isPrefixOf, Ne.symm hb]
    rw [Lib.index, hp, ih (fun c hc => h c (by simp [hc]))]
    simp
theorem split9_one (k : Nat) (x : List UInt8) (h : ∀ c ∈ x, c ≠ 10) : Lib.splitK [10] 0 k x = [x] := by
  cases k with
  | zero => rfl
  | succ k => unfold Lib.splitK; rw [index_none x h]; rfl
theorem split9_more (k : Nat) (x r : List UInt8) (h : ∀ c ∈ x, c ≠ 10) : Lib.splitK [10] 0 (k + 1) (x ++ 10 :: r) = x :: Lib.splitK [10] 0 k r := by
  conv => lhs; unfold Lib.splitK
  rw [index_ten x r h, if_neg (by rw [beq_iff_eq]; omega)]
  simp
/-- Texts with a line's end between. -/
def midL : List (List UInt8) → List UInt8
  | [] => []
  | [x] => x
  | x :: y :: r => x ++ 10 :: midL (y :: r)
/-- .. and one behind each. -/
def endL (xs : List (List UInt8)) : List UInt8 := xs.flatMap (· ++ [10])
theorem end_mid : ∀ (xs : List (List UInt8)), xs ≠ [] → endL xs = midL xs ++ [10]
  | [], h => absurd rfl h
  | [x], _ => by simp [endL, midL]
  | x :: y :: r, _ => by
    have := end_mid (y :: r) (by simp)
    unfold endL at this ⊢
    rw [List.flatMap_cons, this]
    simp [midL]
theorem split_mid : ∀ (xs : List (List UInt8)), xs ≠ [] → (∀ x ∈ xs, ∀ c ∈ x, c ≠ 10) → Lib.splitK [10] 0 ((midL xs).count 10) (midL xs) = xs
  | [], h, _ => absurd rfl h
  | [x], _, h => split9_one _ x (h x (by simp))
  | x :: y :: r, _, h => by
    have hx := h x (by simp)
    have hc : (midL (x :: y :: r)).count 10 = (midL (y :: r)).count 10 + 1 := by
      show (x ++ 10 :: midL (y :: r)).count 10 = _
      rw [List.count_append, List.count_cons_self, List.count_eq_zero.2 (fun hm => hx 10 hm rfl)]
      omega
    rw [hc]
    show Lib.splitK [10] 0 _ (x ++ 10 :: midL (y :: r)) = _
    rw [split9_more _ _ _ hx, split_mid (y :: r) (by simp) (fun z hz => h z (by simp [hz]))]
theorem trim_end (l : List UInt8) : Lib.trimSuffix (l ++ [10]) [10] = l := by
  unfold Lib.trimSuffix Lib.hasSuffix
  rw [if_pos (by simp [List.isSuffixOf_iff_suffix])]
  simp
theorem trim_not (l : List UInt8) (h : l.getLast? ≠ some 10) : Lib.trimSuffix l [10] = l := by
  unfold Lib.trimSuffix Lib.hasSuffix
  rw [if_neg]
  rw [List.isSuffixOf_iff_suffix]
  rintro ⟨p, hp⟩
  rw [← hp] at h
  simp at h
theorem map_data_inj {a b : List ByteArray} (h : a.map (·.data.toList) = b.map (·.data.toList)) : a = b := by
  induction a generalizing b with
  | nil =>
    cases b with
    | nil => rfl
    | cons => cases h
  | cons x a ih =>
    cases b with
    | nil => cases h
    | cons y b =>
      rw [List.map_cons, List.map_cons] at h
      injection h with h1 h2
      rw [ih h2]
      congr 1
      cases x; cases y
      congr 1
      exact Array.toList_inj.1 h1
theorem countB_ten (s : ByteArray) : Lib.countB s ⟨#[10]⟩ = s.data.toList.count 10 := Lib.count_one 10 s.data.toList
theorem lines_of (s : ByteArray) (xs : List ByteArray) (hx : xs ≠ []) (hn : ∀ x ∈ xs, ∀ c ∈ x.data.toList, c ≠ 10) (h0 : s.data.toList ≠ []) (h : (trimB s).data.toList = midL (xs.map (·.data.toList))) : linesB s = xs := by
  apply map_data_inj
  unfold linesB
  rw [if_neg h0, Lib.splitB_data, countB_ten, h]
  refine split_mid _ (by simpa using hx) ?_
  intro x hx c hc
  obtain ⟨y, hy, rfl⟩ := List.mem_map.1 hx
  exact hn y hy c hc
/-- The lines of lines, each with an end behind it. -/
theorem lines_end (s : ByteArray) (xs : List ByteArray) (hn : ∀ x ∈ xs, ∀ c ∈ x.data.toList, c ≠ 10) (h : s.data.toList = endL (xs.map (·.data.toList))) : linesB s = xs := by
  by_cases hx : xs = []
  · subst hx
    unfold linesB
    rw [if_pos (show s.data.toList = [] from h)]
  · have h1 := end_mid (xs.map (·.data.toList)) (by simpa using hx)
    refine lines_of s xs hx hn (by rw [h, h1]; simp) ?_
    show Lib.trimSuffix s.data.toList [10] = _
    rw [h, h1, trim_end]
theorem mid_last : ∀ (xs : List (List UInt8)) (x : List UInt8), x ≠ [] → (midL (xs ++ [x])).getLast? = x.getLast? ∧ midL (xs ++ [x]) ≠ []
  | [], x, h => ⟨rfl, h⟩
  | [y], x, h => by
    show (y ++ 10 :: x).getLast? = _ ∧ y ++ 10 :: x ≠ []
    refine ⟨?_, by simp⟩
    rw [List.getLast?_append, List.getLast?_cons]
    cases hx : x.getLast? with
    | none => rw [List.getLast?_eq_none_iff] at hx; exact absurd hx h
    | some v => simp
  | y :: z :: r, x, h => by
    obtain ⟨h1, h2⟩ := mid_last (z :: r) x h
    show (y ++ 10 :: midL ((z :: r) ++ [x])).getLast? = _ ∧ y ++ 10 :: midL ((z :: r) ++ [x]) ≠ []
    refine ⟨?_, by simp⟩
    rw [List.getLast?_append, List.getLast?_cons, h1]
    cases hx : x.getLast? with
    | none => rw [List.getLast?_eq_none_iff] at hx; exact absurd hx h
    | some v => simp
/-- .. and without the last end, if the last one has bytes. -/
theorem lines_mid (s : ByteArray) (xs : List ByteArray) (x : ByteArray) (hn : ∀ y ∈ xs ++ [x], ∀ c ∈ y.data.toList, c ≠ 10) (hx : x.data.toList ≠ []) (h : s.data.toList = midL ((xs ++ [x]).map (·.data.toList))) : linesB s = xs ++ [x] := by
  have hm : (xs ++ [x]).map (·.data.toList) = xs.map (·.data.toList) ++ [x.data.toList] := by simp
  obtain ⟨h1, h2⟩ := mid_last (xs.map (·.data.toList)) x.data.toList hx
  rw [← hm] at h1 h2
  refine lines_of s (xs ++ [x]) (by simp) hn (by rw [h]; exact h2) ?_
  show Lib.trimSuffix s.data.toList [10] = _
  rw [h, trim_not _ ?_]
  rw [h1]
  intro hl
  exact hn x (by simp) 10 (List.mem_of_getLast? hl) rfl
end Go.Proofs.YtkgpnlldlekcbaaGreatDoor
namespace Go.Proofs.YtkgpnlldlekcbaaGreatDoor
open Go.ChangeShapes Go.WideShapes Go.ChangeAt Go.RowKit

def laidTwo : List (String × DataW Unit) := [("unicode/utf8.acceptRanges", Rows.laid_unicode_utf8_acceptRanges), ("unicode/utf8.first", Rows.laid_unicode_utf8_first)]
set_option maxRecDepth 100000 in
theorem door_metTwo (os : Os) (args : Array Value) : laidMetH Tryz.prog laidTwo ((World.laidAll Tryz.prog os laidTwo).forCall (fun _ _ => 0) ⟨#[], args, []⟩).memory := by
  rw [MakeChecks.laidMetH_plain _ _ _ (by kernel_rfl)]
  exact laidMet_laidAll _ (by kernel_rfl) (by kernel_rfl)
/-- The library's own number: the world's shape holds some. -/
theorem mx_of_shaped {W : World} (h : W.ShapedOpen Tryz.prog) : Mx W :=
  cell_of_shapedOpen_int (zero := #[.int .i64 0]) (t := 3) h (of_decide_eq_true (by kernel_rfl)) (by kernel_rfl) rfl (by kernel_rfl) (by kernel_rfl) Tryz.underlying3
theorem i64_of_wf {a : Int} (h : (Lit.int .i64 a).wf = true) : -9223372036854775808 ≤ a ∧ a ≤ 9223372036854775807 := by
  have hb := bounds_i64 h
  omega
end Go.Proofs.YtkgpnlldlekcbaaGreatDoor
namespace Go.Proofs.YtkgpnlldlekcbaaGreatDoor
open Go.RowKit Go.Lib

theorem read8_idle (p q : Addr) (w : World) :
    CallsD Tryz.prog 46 #[.pointer (some p), .pointer (some q)] .returning w fun e u' w' => e = .returned (.tuple #[]) ∧ u' = .returning ∧ w' = w := by
  refine callsD_of_wpS Tryz.func46 rfl fun c₀ cs hu => ?_
  apply wpS_seq
  apply wpS_region
  simp [wpOpsS, go_sem, recoverD, hu, Tryz.ntmps46, Exit.thenS]
  apply wpS_seq
  apply wpS_region
  simp [wpOpsS, go_sem, Exit.thenS]
  refine wpS_cond (t := false) (by simp [Act.eval, Array.replicate]) ?_
  simp only [Bool.false_eq_true, if_false]
  refine wpS_of_wp (wp_skip ?_)
  cases c₀
  simp_all [bodyPostS, results, Tryz.results46]
theorem read8_panics (g : Nat) (a : Value) (b e : Int) (t1 t2 : TypeId) (w : World)
    (ha : w.heap[g]? = some (.cells #[a] t1 (0, 0))) (hb : w.heap[g + 1]? = some (.cells #[.int .i64 b] t2 (0, 0))) :
    CallsD Tryz.prog 46 #[.pointer (some ⟨g, 0, none⟩), .pointer (some ⟨g + 1, 0, none⟩)] (.panicking [{ v := .iface 31 (.int .i64 e), recovered := false }]) w fun e' u' w' =>
      e' = .returned (.tuple #[]) ∧ u' = .panicking [{ v := .iface 31 (.int .i64 e), recovered := true }] ∧ w' = ((w.setCell ⟨g, 0, none⟩ (.slice none 0 0)).setCell ⟨g + 1, 0, none⟩ (.int .i64 e)).drew := by
  have hca : w.cell? ⟨g, 0, none⟩ = some a := by simp [World.cell?, ha]
  have hfa : w.frozen? ⟨g, 0, none⟩ = false := by simp [World.frozen?, ha]
  have hcb : w.cell? ⟨g + 1, 0, none⟩ = some (.int .i64 b) := by simp [World.cell?, hb]
  have hfb : w.frozen? ⟨g + 1, 0, none⟩ = false := by simp [World.frozen?, hb]
  have hta := assert_errno e
  refine callsD_of_wpS Tryz.func46 rfl fun c₀ cs hu => ?_
  apply wpS_seq
  apply wpS_region
  simp [wpOpsS, go_sem, recoverD, hu, Tryz.ntmps46, Exit.thenS]
  apply wpS_seq
  apply wpS_region
  simp [wpOpsS, go_sem, Exit.thenS]
  refine wpS_cond (t := true) (by simp [Act.eval, Array.replicate]) ?_
  simp only [if_true]
  refine wpS_of_wp ?_
  go_region_law (fail)
  all_goals
    simp [bodyPostS, results, Tryz.results46]
/-- The three blocks: the two answers', the reader's. -/
theorem three_new (w : World) (S : ByteArray) : ∃ W, W = ((w.alloc (.cells #[.slice none 0 0] 26)).alloc (.cells #[.int .i64 0] 31)).alloc (.cells #[.string S] 97) ∧
    W.heap[w.heap.size]? = some (.cells #[.slice none 0 0] 26 (0, 0)) ∧ W.heap[w.heap.size + 1]? = some (.cells #[.int .i64 0] 31 (0, 0)) ∧ W.heap[w.heap.size + 2]? = some (.cells #[.string S] 97 (0, 0)) ∧ W.heap.size = w.heap.size + 3 ∧ Below w.heap.size w W := by
  obtain ⟨T1, T2, T3, T4⟩ := two_new w (.cells #[.slice none 0 0] 26) (.cells #[.int .i64 0] 31)
  have h3 := heap_alloc_new ((w.alloc (.cells #[.slice none 0 0] 26)).alloc (.cells #[.int .i64 0] 31)) (.cells #[.string S] 97)
  rw [T3] at h3
  exact ⟨_, rfl, (Below.heap_alloc _ _ _ (by rw [T3]; omega)).trans T1, (Below.heap_alloc _ _ _ (by rw [T3]; omega)).trans T2, h3, by simp, T4.alloc (by rw [T3]; omega) _⟩
/-- What Read answers. -/
def Rd8 (B : Nat) (r : All) (e : Ending) (w' : World) : Prop := match r with
  | .ok cs => ∃ v, e = .returned (.tuple #[v, .int .i64 0]) ∧ ScrS B cs v w'
  | .bad x => e = .returned (.tuple #[.slice none 0 0, .int .i64 x])
set_option maxHeartbeats 2000000 in
set_option maxRecDepth 20000 in
theorem read8_long (S : ByteArray) (w : World) (hs : 8192 < S.size) (hs2 : S.size ≤ 140737488355328) :
    Calls Tryz.prog 24 #[.string S] w fun e w' => e = .returned (.tuple #[.slice none 0 0, .int .i64 6]) ∧ Below w.heap.size w w' := by
  have hd : decide ((8192 : Int) < (S.size : Int)) = true := by simpa using (by omega : (8192 : Int) < (S.size : Int))
  go_enter Tryz.func24, Tryz.ntmps24
  go_wp2_with fail
  refine bodyPost_ret (v := .tuple #[.slice none 0 0, .int .i64 6]) (by simp [results, Tryz.results24, go_sem]) rfl ⟨rfl, ?_⟩
  exact ((Below.refl _ w).alloc (Nat.le_refl _) _).alloc (by simp) _
/-- What lies where the commands have been read. -/
theorem read8_at {w W w2 : World} {S : ByteArray} (hW : W.heap[w.heap.size]? = some (.cells #[.slice none 0 0] 26 (0, 0)) ∧ W.heap[w.heap.size + 1]? = some (.cells #[.int .i64 0] 31 (0, 0)) ∧ W.heap[w.heap.size + 2]? = some (.cells #[.string S] 97 (0, 0)) ∧ W.heap.size = w.heap.size + 3 ∧ Below w.heap.size w W) (hb : Below (w.heap.size + 2) W w2) :
    w2.heap[w.heap.size]? = some (.cells #[.slice none 0 0] 26 (0, 0)) ∧ w2.heap[w.heap.size + 1]? = some (.cells #[.int .i64 0] 31 (0, 0)) ∧ w.heap.size + 3 ≤ w2.heap.size ∧ Below w.heap.size w w2 :=
  ⟨(hb.block _ (by omega)).trans hW.1, (hb.block _ (by omega)).trans hW.2.1, by have := hb.size; omega, hW.2.2.2.2.trans (hb.mono (by omega))⟩
set_option maxHeartbeats 4000000 in
set_option maxRecDepth 20000 in
theorem read8_bad (l : List UInt8) (S : ByteArray) (hS : S = ⟨l.toArray⟩) (x : Int) (w : World) (hs : l.length ≤ 8192)
    (k1 : ∀ w1 : World, Rd (w.heap.size + 2) l w1 → Calls Tryz.prog 47 #[.pointer (some ⟨w.heap.size + 2, 0, none⟩)] w1 fun e w2 => e = errV x ∧ Below (w.heap.size + 2) w1 w2) :
    Calls Tryz.prog 24 #[.string S] w fun e w' => e = .returned (.tuple #[.slice none 0 0, .int .i64 x]) ∧ Below w.heap.size w w' := by
  have hmf : ∀ (fn : Fn) (first cap : Array Value) (w : World), (Instr.makeFunc fn first cap).run Tryz.prog w = .ok (.func fn first cap) w := fun _ _ _ _ => rfl
  have hz : S.size = l.length := by rw [hS]; simp [ByteArray.size]
  have hd : decide ((8192 : Int) < (S.size : Int)) = false := by simp; omega
  obtain ⟨W, hW, hT⟩ := three_new w S
  have hr : Rd (w.heap.size + 2) l W := by have := hT.2.2.1; rw [hS] at this; exact this
  have k2 := k1 W hr
  rw [hW] at k2
  have HT := Lib.hid hT
  have HW := Lib.hid hW
  clear hT hr k1 hS hz hW
  unfold errV at k2
  go_enter_defers Tryz.func24, Tryz.ntmps24
  go_wp2_with (go_at_call 47; refine k2.mono ?_; rintro e w2 ⟨rfl, hb2⟩; rw [← HW.out] at hb2; obtain ⟨T1, T2, T3, T4⟩ := read8_at HT.out hb2)
  obtain ⟨c3, c4⟩ := cell_one T1
  obtain ⟨c5, c6⟩ := cell_one T2
  refine leaves_cons (f := 46) (args := #[.pointer (some ⟨w.heap.size, 0, none⟩), .pointer (some ⟨w.heap.size + 1, 0, none⟩)]) (by simp) (by simp [go_sem]) ?_
  refine (read8_panics w.heap.size _ 0 x _ _ _ T1 T2).mono ?_
  rintro e u' w'' ⟨rfl, rfl, rfl⟩
  simp [Leaves, settle, results, Tryz.results24, go_sem, c3, c5]
  exact ((T4.setCell (by simp) _).setCell (by simp) _).drew
/-- Behind the commands: they stand in the first answer's block. -/
theorem read8_put {w w2 : World} {cs : List Cm} {v : Value} (T1 : w2.heap[w.heap.size]? = some (.cells #[.slice none 0 0] 26 (0, 0))) (T2 : w2.heap[w.heap.size + 1]? = some (.cells #[.int .i64 0] 31 (0, 0))) (T3 : w.heap.size + 3 ≤ w2.heap.size) (T4 : Below w.heap.size w w2) (hs : ScrS (w.heap.size + 3) cs v w2) :
    (w2.setCell ⟨w.heap.size, 0, none⟩ v).heap[w.heap.size]? = some (.cells #[v] 26 (0, 0)) ∧ (w2.setCell ⟨w.heap.size, 0, none⟩ v).heap[w.heap.size + 1]? = some (.cells #[.int .i64 0] 31 (0, 0)) ∧ w.heap.size + 3 ≤ (w2.setCell ⟨w.heap.size, 0, none⟩ v).heap.size ∧ Below w.heap.size w (w2.setCell ⟨w.heap.size, 0, none⟩ v) ∧ ScrS (w.heap.size + 3) cs v (w2.setCell ⟨w.heap.size, 0, none⟩ v) :=
  ⟨heap_setCell_same w2 w.heap.size 0 _ _ v T1, (Below.heap_setCell _ _ _ _ (by show w.heap.size + 1 ≠ w.heap.size; omega)).trans T2, by simpa using T3, T4.setCell (Nat.le_refl _) _, hs.moved (p := w.heap.size) (by omega) (.set _ _ _ _)⟩
set_option maxHeartbeats 4000000 in
set_option maxRecDepth 20000 in
theorem read8_ok (l : List UInt8) (S : ByteArray) (hS : S = ⟨l.toArray⟩) (cs : List Cm) (w : World) (hs : l.length ≤ 8192) (hcs : cs.length ≤ 1000000000) (hla : ∀ c ∈ cs, c.label.length ≤ 1000000000) (hbd : boundD cs = true)
    (k1 : ∀ w1 : World, Rd (w.heap.size + 2) l w1 → Calls Tryz.prog 47 #[.pointer (some ⟨w.heap.size + 2, 0, none⟩)] w1 fun e w2 => ∃ v, e = .returned v ∧ ScrS w1.heap.size cs v w2 ∧ cs.length ≤ 2000 ∧ Below (w.heap.size + 2) w1 w2) :
    Calls Tryz.prog 24 #[.string S] w fun e w' => (∃ v, e = .returned (.tuple #[v, .int .i64 0]) ∧ ScrS w.heap.size cs v w') ∧ Below w.heap.size w w' := by
  have hmf : ∀ (fn : Fn) (first cap : Array Value) (w : World), (Instr.makeFunc fn first cap).run Tryz.prog w = .ok (.func fn first cap) w := fun _ _ _ _ => rfl
  have hz : S.size = l.length := by rw [hS]; simp [ByteArray.size]
  have hd : decide ((8192 : Int) < (S.size : Int)) = false := by simp; omega
  obtain ⟨W, hW, hT⟩ := three_new w S
  have hr : Rd (w.heap.size + 2) l W := by have := hT.2.2.1; rw [hS] at this; exact this
  have k2 := k1 W hr
  have hWz := hT.2.2.2.1
  rw [hWz] at k2
  rw [hW] at k2
  have kb := fun v w3 (h : ScrS (w.heap.size + 3) cs v w3) => bound_any _ cs v w3 h hcs hla
  rw [hbd] at kb
  have HT := Lib.hid hT
  have HW := Lib.hid hW
  clear hT hr k1 hS hz hW hWz hbd hla
  go_enter_defers Tryz.func24, Tryz.ntmps24
  go_wp2_with (first
    | (go_at_call 47; refine k2.mono ?_; rintro e w2 ⟨v, rfl, hsc, _, hb2⟩; rw [← HW.out] at hb2
       obtain ⟨T1, T2, T3, T4⟩ := read8_at HT.out hb2
       obtain ⟨ao, cap, rfl⟩ := hsc.shape
       obtain ⟨U1, U2, U3, U4, U5⟩ := read8_put T1 T2 T3 T4 hsc
       obtain ⟨c3, c4⟩ := cell_one T1
       have c5 := (cell_one U1).1
       have k3 := kb _ _ U5
       have HU := Lib.hid (And.intro U1 (And.intro U2 (And.intro U3 (And.intro U4 U5))))
       clear k2 kb T1 T2 T3 T4 hsc hb2 U1 U2 U3 U4 U5)
    | (go_at_call 48; refine k3.mono ?_; rintro e w4 ⟨rfl, hb4⟩
       have V1 := (hb4.block w.heap.size (by have := HU.out.2.2.1; omega)).trans HU.out.1
       have V2 := (hb4.block (w.heap.size + 1) (by have := HU.out.2.2.1; omega)).trans HU.out.2.1
       obtain ⟨e3, e4⟩ := cell_one V1
       obtain ⟨e5, e6⟩ := cell_one V2
       have HV := Lib.hid (And.intro (HU.out.2.2.2.1.trans (hb4.mono (by have := HU.out.2.2.1; omega))) (HU.out.2.2.2.2.below hb4))
       clear V1 V2 hb4 k3))
  refine leaves_cons (f := 46) (args := #[.pointer (some ⟨w.heap.size, 0, none⟩), .pointer (some ⟨w.heap.size + 1, 0, none⟩)]) (by simp) (by simp [go_sem]) ?_
  refine (read8_idle ⟨w.heap.size, 0, none⟩ ⟨w.heap.size + 1, 0, none⟩ _).mono ?_
  rintro e u' w'' ⟨rfl, rfl, rfl⟩
  simp [Leaves, settle, results, Tryz.results24, go_sem, e3, e5]
  refine ⟨?_, (HV.out.1.setCell (by simp) _).setCell (by simp) _⟩
  exact ((HV.out.2.moved (p := w.heap.size) (by omega) (.set _ _ _ _)).moved (p := w.heap.size + 1) (by omega) (.set _ _ _ _)).base (by omega)
set_option maxHeartbeats 4000000 in
set_option maxRecDepth 20000 in
theorem read8_name (l : List UInt8) (S : ByteArray) (hS : S = ⟨l.toArray⟩) (cs : List Cm) (w : World) (hs : l.length ≤ 8192) (hcs : cs.length ≤ 1000000000) (hla : ∀ c ∈ cs, c.label.length ≤ 1000000000) (hbd : boundD cs = false)
    (k1 : ∀ w1 : World, Rd (w.heap.size + 2) l w1 → Calls Tryz.prog 47 #[.pointer (some ⟨w.heap.size + 2, 0, none⟩)] w1 fun e w2 => ∃ v, e = .returned v ∧ ScrS w1.heap.size cs v w2 ∧ cs.length ≤ 2000 ∧ Below (w.heap.size + 2) w1 w2) :
    Calls Tryz.prog 24 #[.string S] w fun e w' => e = .returned (.tuple #[.slice none 0 0, .int .i64 8]) ∧ Below w.heap.size w w' := by
  have hmf : ∀ (fn : Fn) (first cap : Array Value) (w : World), (Instr.makeFunc fn first cap).run Tryz.prog w = .ok (.func fn first cap) w := fun _ _ _ _ => rfl
  have hz : S.size = l.length := by rw [hS]; simp [ByteArray.size]
  have hd : decide ((8192 : Int) < (S.size : Int)) = false := by simp; omega
  obtain ⟨W, hW, hT⟩ := three_new w S
  have hr : Rd (w.heap.size + 2) l W := by have := hT.2.2.1; rw [hS] at this; exact this
  have k2 := k1 W hr
  have hWz := hT.2.2.2.1
  rw [hWz] at k2
  rw [hW] at k2
  have kb := fun v w3 (h : ScrS (w.heap.size + 3) cs v w3) => bound_any _ cs v w3 h hcs hla
  rw [hbd] at kb
  have HT := Lib.hid hT
  have HW := Lib.hid hW
  clear hT hr k1 hS hz hW hWz hbd hla
  go_enter_defers Tryz.func24, Tryz.ntmps24
  go_wp2_with (first
    | (go_at_call 47; refine k2.mono ?_; rintro e w2 ⟨v, rfl, hsc, _, hb2⟩; rw [← HW.out] at hb2
       obtain ⟨T1, T2, T3, T4⟩ := read8_at HT.out hb2
       obtain ⟨ao, cap, rfl⟩ := hsc.shape
       obtain ⟨U1, U2, U3, U4, U5⟩ := read8_put T1 T2 T3 T4 hsc
       obtain ⟨c3, c4⟩ := cell_one T1
       have c5 := (cell_one U1).1
       have k3 := kb _ _ U5
       have HU := Lib.hid (And.intro U1 (And.intro U2 (And.intro U3 (And.intro U4 U5))))
       clear k2 kb T1 T2 T3 T4 hsc hb2 U1 U2 U3 U4 U5)
    | (go_at_call 48; refine k3.mono ?_; rintro e w4 ⟨rfl, hb4⟩
       have V1 := (hb4.block w.heap.size (by have := HU.out.2.2.1; omega)).trans HU.out.1
       have V2 := (hb4.block (w.heap.size + 1) (by have := HU.out.2.2.1; omega)).trans HU.out.2.1
       have HV := Lib.hid (HU.out.2.2.2.1.trans (hb4.mono (by have := HU.out.2.2.1; omega)))
       clear hb4 k3))
  obtain ⟨e3, e4⟩ := cell_one V1
  obtain ⟨e5, e6⟩ := cell_one V2
  refine leaves_cons (f := 46) (args := #[.pointer (some ⟨w.heap.size, 0, none⟩), .pointer (some ⟨w.heap.size + 1, 0, none⟩)]) (by simp) (by simp [go_sem]) ?_
  refine (read8_panics w.heap.size _ 0 8 _ _ _ V1 V2).mono ?_
  rintro e u' w'' ⟨rfl, rfl, rfl⟩
  simp [Leaves, settle, results, Tryz.results24, go_sem, e3, e5]
  exact ((HV.out.setCell (by simp) _).setCell (by simp) _).drew
theorem labP_lab {l r y : List UInt8} (h : labP l = .ok y r) : y.length ≤ l.length := by
  cases l with
  | nil => cases h
  | cons c l =>
    unfold labP at h
    dsimp only at h
    split at h
    · cases h
      have : (l.takeWhile restOk).length ≤ l.length := (List.takeWhile_sublist restOk).length_le
      simp only [List.length_cons]
      omega
    · cases h
theorem letP_lab {R : List UInt8 → Res} {a b : Ad} {neg : Bool} {l r : List UInt8} {c : Cm} (h : letP R a b neg l = .ok c r) : c.label.length ≤ l.length := by
  cases l with
  | nil => cases h
  | cons o l =>
    unfold letP at h
    dsimp only at h
    have hb := blk_len l
    simp only [List.length_cons]
    split at h
    · cases l with
      | nil => cases h
      | cons d l1 =>
        dsimp only at h
        split at h
        · obtain ⟨t, l2, ht, h⟩ := got_bind h
          obtain ⟨ys, l3, hy, h⟩ := got_bind h
          cases h
          simp
        · cases h
    · split at h
      · split at h
        · cases h; simp
        · obtain ⟨y, r', hy, h⟩ := got_bind h
          have := labP_lab hy
          cases h
          show y.length ≤ _
          omega
      · split at h
        · split at h
          · obtain ⟨y, r', hy, h⟩ := got_bind h
            have := labP_lab hy
            cases h
            show y.length ≤ _
            omega
          · cases h
        · split at h
          · cases h; simp
          · cases h
theorem comP_lab {R : List UInt8 → Res} {l r : List UInt8} {c : Cm} (h : comP R l = .ok c r) : c.label.length ≤ l.length := by
  unfold comP at h
  obtain ⟨a, l1, ha, h⟩ := got_bind h
  obtain ⟨b, l2, hb, h⟩ := got_bind h
  obtain ⟨c', l3, hc, h⟩ := got_bind h
  have h1 := adP_len ha
  have h2 := secP_len hb
  have h3 := letP_lab hc
  have h4 := notL_len l2
  split at h
  · cases h; omega
  · cases h
theorem scr_lab {R : List UInt8 → Res} (m : Nat) : ∀ (k : Nat) (l : List UInt8) (cs ds : List Cm), l.length = k → l.length ≤ m → scr R l cs = .ok ds → (∀ c ∈ cs, c.label.length ≤ m) → ∀ c ∈ ds, c.label.length ≤ m := by
  intro k
  induction k using Nat.strongRecOn with
  | ind k ih =>
    intro l cs ds hk hm h hc
    rw [scr_eq] at h
    rcases scrS_ok h with ⟨he, rfl⟩ | ⟨c, l1, d, l2, he, h1, h2, h3, h4⟩
    · exact hc
    · have hd := dw_len sepS l
      rw [he] at hd
      have hl := comP_len h3
      have hb := comP_lab h3
      refine ih l2.length (by omega) l2 _ _ rfl (by omega) h4 fun c' hc' => ?_
      rcases List.mem_append.mp hc' with h | h
      · exact hc c' h
      · rw [List.mem_singleton] at h; subst h; omega
/-- What a text comes to. -/
noncomputable def sedR (l : List UInt8) : All := if 8192 < l.length then .bad 6 else readSd reR l
/-- Package sed's Read: what the rules say. -/
theorem read8_any (S : ByteArray) (w : World) (hl : S.size ≤ 140737488355328) :
    Calls Tryz.prog 24 #[.string S] w fun e w' => Rd8 w.heap.size (sedR S.data.toList) e w' ∧ Below w.heap.size w w' := by
  have hS : S = ⟨S.data.toList.toArray⟩ := by cases S; rfl
  have hz : S.data.toList.length = S.size := Array.length_toList
  generalize S.data.toList = l at hS hz
  unfold sedR
  by_cases hlong : 8192 < l.length
  · rw [if_pos hlong]
    exact read8_long S w (by omega) hl
  · rw [if_neg hlong]
    have k1 := fun w1 (h1 : Rd (w.heap.size + 2) l w1) => script_any (w.heap.size + 2) l w1 h1 (by omega)
    unfold ScE at k1
    unfold readSd
    have hsc : scrP reR (l.length + 1) l [] = scr reR l [] := rfl
    rw [hsc]
    cases hs : scr reR l [] with
    | bad x =>
      rw [hs] at k1
      exact read8_bad l S hS x w (by omega) k1
    | ok cs =>
      rw [hs] at k1
      have hla := scr_lab 1000000000 l.length l [] cs rfl (by omega) hs (by simp)
      have hcl := (scr_len l.length l [] cs rfl hs).2
      simp only [List.length_nil] at hcl
      dsimp only
      cases hb : boundD cs with
      | true => exact read8_ok l S hS cs w (by omega) (by omega) hla hb k1
      | false => exact read8_name l S hS cs w (by omega) (by omega) hla hb k1
end Go.Proofs.YtkgpnlldlekcbaaGreatDoor
