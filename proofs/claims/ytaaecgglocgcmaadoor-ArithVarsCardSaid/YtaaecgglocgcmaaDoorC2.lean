/- Packed texts: ArOf, ArName, ArVar, ArAns, ArJoined, ArHeld. What each of them proves stands above its theorems; the conditions stand in these. -/
import Derived.Test.YtaaecgglocgcmaaDoorC0
import Derived.Test.YtaaecgglocgcmaaDoorC1
namespace Go.Proofs.YtaaecgglocgcmaaDoor
open Go.RowKit Go.Lib

def errA (e : Int) : Ending := .panicked [{ v := .iface 25 (.int .i64 e), recovered := false }]
/-- How a call ends that comes to something. -/
def CmP : Cm → Ending → Prop
  | .is n, e => e = .returned (.int .i64 n)
  | .no x, e => e = errA x

set_option maxHeartbeats 400000 in
theorem toldA_any (b : Bool) (w : World) : Calls Tryd.prog 65 #[.bool b] w fun e w' => e = .returned (.int .i64 (tellA b)) ∧ w' = w := by
  cases b
  all_goals
    go_enter Tryd.func65, Tryd.ntmps65
    go_wp2
    go_ret
    exact ⟨rfl, rfl⟩

def isSum : Mk → Bool
  | .add | .sub | .mul | .quo | .rem => true
  | _ => false
set_option maxHeartbeats 1000000 in
theorem reckonedA_any (m : Mk) (a b : Int) (w : World) (hm : isSum m = true) : Calls Tryd.prog 66 #[.int .i64 a, .string ⟨(markTx m).toArray⟩, .int .i64 b] w fun e w' => CmP (opD m a b) e ∧ w' = w := by
  cases m <;> first | cases hm | skip
  case add =>
    simp only [markTx, opD, CmP]
    go_enter Tryd.func66, Tryd.ntmps66
    go_wp2
    go_ret
    exact ⟨rfl, rfl⟩
  case sub =>
    simp only [markTx, opD, CmP]
    go_enter Tryd.func66, Tryd.ntmps66
    go_wp2
    go_ret
    exact ⟨rfl, rfl⟩
  case mul =>
    simp only [markTx, opD, CmP]
    go_enter Tryd.func66, Tryd.ntmps66
    go_wp2
    go_ret
    exact ⟨rfl, rfl⟩
  case quo =>
    by_cases h0 : b = 0
    · subst h0
      have eo : opD .quo a 0 = .no 4 := rfl
      rw [eo]
      simp only [markTx, CmP, errA]
      go_enter Tryd.func66, Tryd.ntmps66
      go_wp2
      exact ⟨rfl, rfl, rfl⟩
    · have eo : opD .quo a b = .is (wrap64 (a.tdiv b)) := if_neg h0
      rw [eo]
      have hb : (b == 0) = false := by simpa using h0
      simp only [markTx, CmP]
      go_enter Tryd.func66, Tryd.ntmps66
      go_wp2
      go_ret
      exact ⟨rfl, rfl⟩
  case rem =>
    by_cases h0 : b = 0
    · subst h0
      have eo : opD .rem a 0 = .no 4 := rfl
      rw [eo]
      simp only [markTx, CmP, errA]
      go_enter Tryd.func66, Tryd.ntmps66
      go_wp2
      exact ⟨rfl, rfl, rfl⟩
    · have eo : opD .rem a b = .is (a.tmod b) := if_neg h0
      rw [eo]
      have hb : (b == 0) = false := by simpa using h0
      simp only [markTx, CmP]
      go_enter Tryd.func66, Tryd.ntmps66
      go_wp2
      go_ret
      exact ⟨rfl, rfl⟩
set_option maxHeartbeats 2000000 in
theorem ofA_any (m : Mk) (a b : Int) (w : World) : Calls Tryd.prog 53 #[.int .i64 a, .string ⟨(markTx m).toArray⟩, .int .i64 b] w fun e w' => CmP (opD m a b) e ∧ w' = w := by
  have hr := reckonedA_any m a b
  have ht := toldA_any
  cases hm : isSum m
  · clear hr
    cases m <;> first | cases hm | skip
    case false.or.refl =>
      simp only [markTx, opD, CmP]
      cases ha : a != 0
      all_goals
        have HT := Lib.hid (ht (b != 0))
        have HT2 := Lib.hid (ht true)
        go_enter Tryd.func53, Tryd.ntmps53
        go_wp2_with (go_at_call 65; refine (ht _ _).mono ?_; rintro e w1 ⟨rfl, rfl⟩)
        go_ret
        exact ⟨rfl, rfl⟩
    case false.and.refl =>
      simp only [markTx, opD, CmP]
      cases ha : a != 0
      all_goals
        go_enter Tryd.func53, Tryd.ntmps53
        go_wp2_with (go_at_call 65; refine (ht _ _).mono ?_; rintro e w1 ⟨rfl, rfl⟩)
        go_ret
        exact ⟨rfl, rfl⟩
    all_goals
      simp only [markTx, opD, CmP]
      go_enter Tryd.func53, Tryd.ntmps53
      go_wp2_with (go_at_call 65; refine (ht _ _).mono ?_; rintro e w1 ⟨rfl, rfl⟩)
      go_ret
      exact ⟨rfl, rfl⟩
  · have hr := hr w hm
    cases hc : opD m a b with
    | is n =>
      rw [hc] at hr
      clear hc
      cases m <;> first | cases hm | skip
      all_goals
        simp only [markTx, CmP] at *
        go_enter Tryd.func53, Tryd.ntmps53
        go_wp2_with (go_at_call 66; refine hr.mono ?_; rintro e w1 ⟨rfl, rfl⟩)
        go_ret
        exact ⟨rfl, rfl⟩
    | no x =>
      rw [hc] at hr
      clear hc
      cases m <;> first | cases hm | skip
      all_goals
        simp only [markTx, CmP, errA] at *
        go_enter Tryd.func53, Tryd.ntmps53
        go_wp2_with (go_at_call 66; refine hr.mono ?_; rintro e w1 ⟨rfl, rfl⟩)
        exact ⟨rfl, rfl, rfl⟩
end Go.Proofs.YtaaecgglocgcmaaDoor
namespace Go.Proofs.YtaaecgglocgcmaaDoor
open Go.RowKit Go.Lib

theorem while_at (q : UInt8 → Bool) : ∀ (r : List UInt8) (j : Nat) (c : UInt8), j ≤ (r.takeWhile q).length → r[j]? = some c → (q c = true ↔ j + 1 ≤ (r.takeWhile q).length)
  | [], j, c, _, h => by simp at h
  | a :: r, j, c, hj, h => by
    rw [List.takeWhile_cons] at hj ⊢
    cases j with
    | zero =>
      simp at h
      subst h
      cases hq : q a <;> simp
    | succ j =>
      cases hq : q a
      · rw [hq] at hj; simp at hj
      · rw [hq] at hj
        have hc : r[j]? = some c := by simpa using h
        have := while_at q r j c (by simpa using hj) hc
        rw [this]
        simp
theorem name_at (l : List UInt8) (j : Nat) (c : UInt8) (hj : j ≤ (nameL l).length) (h : l[j]? = some c) : (nameOk j c = true ↔ j + 1 ≤ (nameL l).length) := by
  cases l with
  | nil => simp at h
  | cons a r =>
    simp only [nameL] at hj ⊢
    cases hl : isLet a
    · rw [hl] at hj
      simp at hj
      subst hj
      simp at h
      subst h
      simp [nameOk, hl]
    · rw [hl] at hj
      cases j with
      | zero =>
        simp at h
        subst h
        simp [nameOk, hl]
      | succ j =>
        have hc : r[j]? = some c := by simpa using h
        have := while_at restOk r j c (by simpa using hj) hc
        have e : nameOk (j + 1) c = restOk c := by simp [nameOk, restOk]
        rw [e, this]
        simp
theorem name_le (l : List UInt8) : (nameL l).length ≤ l.length := by
  cases l with
  | nil => exact Nat.le_refl _
  | cons a r =>
    simp only [nameL]
    split
    · simp only [List.length_cons]
      have := (List.takeWhile_prefix restOk (l := r)).length_le
      omega
    · simp
theorem name_take (l : List UInt8) : l.take (nameL l).length = nameL l := by
  cases l with
  | nil => rfl
  | cons a r =>
    simp only [nameL]
    split
    · simp only [List.length_cons, List.take_succ_cons]
      congr 1
      exact (List.prefix_iff_eq_take.1 (List.takeWhile_prefix restOk)).symm
    · rfl
/-- What stands ahead of a byte that is asked for. -/
def aheadA (k : Nat) : ByteArray := if k = 0 then ByteArray.empty else ⟨#[95]⟩
theorem ahead_ok (k : Nat) (c : UInt8) (X : ByteArray) (hX : X = aheadA k ++ ⟨#[c]⟩) : isNameB X.data.toList = nameOk k c := by
  subst hX
  unfold aheadA
  cases k with
  | zero =>
    rw [if_pos rfl]
    have e : (ByteArray.empty ++ ⟨#[c]⟩ : ByteArray).data.toList = [c] := by rw [ByteArray.data_append]; rfl
    rw [e]
    simp [isNameB, namePre, nameOk]
  | succ k =>
    rw [if_neg (by omega)]
    have e : ((⟨#[95]⟩ : ByteArray) ++ ⟨#[c]⟩ : ByteArray).data.toList = [95, c] := by rw [ByteArray.data_append]; rfl
    rw [e]
    have : isLet 95 = true := by decide
    simp [isNameB, namePre, nameOk, this, restOk]
theorem one_byte (l : List UInt8) (k : Nat) (c : UInt8) (h : l[k]? = some c) : (⟨l.toArray⟩ : ByteArray).extract k (k + 1) = ⟨#[c]⟩ := by
  apply ByteArray.ext
  rw [ByteArray.data_extract]
  apply Array.ext'
  simp only [List.extract_toArray, List.extract_eq_drop_take', List.toList_toArray]
  rw [Nat.add_comm k 1]
  have hk : k < l.length := by
    by_cases e : k < l.length
    · exact e
    · rw [List.getElem?_eq_none (by omega)] at h; cases h
  have hc : l[k] = c := by rw [List.getElem?_eq_getElem hk] at h; injection h
  rw [show l.take (1 + k) = l.take k ++ [l[k]] by rw [Nat.add_comm]; exact List.take_succ_eq_append_getElem hk]
  rw [List.drop_append_of_le_length (by simp; omega)]
  rw [List.drop_of_length_le (by simp; omega), hc]
  rfl

/-- What the method name answers. -/
def NameP (p : Nat) (l : List UInt8) (vv : Value) (d : Nat) (i : Bool) (w : World) (e : Ending) (w' : World) : Prop :=
  (nameL l = [] ∧ e = errA 9 ∨ nameL l ≠ [] ∧ e = .returned (.string ⟨(nameL l).toArray⟩) ∧ Rk p (l.drop (nameL l).length) vv d i w') ∧ Below p w w'
set_option maxHeartbeats 2000000 in
set_option maxRecDepth 20000 in
theorem nameA_any (p : Nat) (l : List UInt8) (vv : Value) (d : Nat) (i : Bool) (w : World) (h : Rk p l vv d i w) (hl : l.length ≤ 70000000000000) :
    Calls Tryd.prog 59 #[.pointer (some ⟨p, 0, none⟩)] w (NameP p l vv d i w) := by
  have hlt := h.lt
  have CEL := Lib.hid (fun (w1 : World) (hb : Below w.heap.size w w1) => (And.intro (h.below hb).cells.1 (h.below hb).cells.2.2.2.2.1))
  have PUT := Lib.hid (fun (r : List UInt8) (w1 : World) (hb : Below w.heap.size w w1) => (And.intro ((h.below hb).rest r) ((hb.mono (Nat.le_of_lt hlt)).setCell (p := ⟨p, 0, none⟩) (Nat.le_refl _) (.string ⟨r.toArray⟩))))
  have NAT := Lib.hid (name_at l)
  have hnl := name_le l
  have ONE := Lib.hid (one_byte l)
  have TK : Hid (∀ m, m = (nameL l).length → (⟨l.toArray⟩ : ByteArray).extract 0 m = ⟨(nameL l).toArray⟩) := by
    show ∀ m, m = (nameL l).length → (⟨l.toArray⟩ : ByteArray).extract 0 m = ⟨(nameL l).toArray⟩
    intro m hm
    subst hm
    apply ByteArray.ext
    rw [ByteArray.data_extract]
    apply Array.ext'
    simp only [List.extract_toArray, List.extract_eq_drop_take', List.toList_toArray, List.drop_zero]
    exact name_take l
  have DR : Hid (∀ m, (⟨l.toArray⟩ : ByteArray).extract m l.length = ⟨(l.drop m).toArray⟩) := by
    show ∀ m, (⟨l.toArray⟩ : ByteArray).extract m l.length = ⟨(l.drop m).toArray⟩
    intro m
    apply ByteArray.ext
    rw [ByteArray.data_extract]
    apply Array.ext'
    simp only [List.extract_toArray, List.extract_eq_drop_take']
    rw [List.take_of_length_le (Nat.le_refl _)]
  have EMP : Hid ((nameL l).length = 0 → nameL l = []) := by
    show (nameL l).length = 0 → nameL l = []
    exact List.eq_nil_of_length_eq_zero
  have NEM : Hid ((nameL l).length ≠ 0 → nameL l ≠ []) := by
    show (nameL l).length ≠ 0 → nameL l ≠ []
    intro h e; rw [e] at h; exact h rfl
  have GET : Hid (∀ k, k < l.length → ∃ c, l[k]? = some c) := by
    show ∀ k, k < l.length → ∃ c, l[k]? = some c
    exact fun k hk => ⟨_, List.getElem?_eq_getElem hk⟩
  obtain ⟨N, hN⟩ : ∃ N, N = (nameL l).length := ⟨_, rfl⟩
  rw [← hN] at NAT hnl TK EMP NEM
  have HN := Lib.hid hN
  clear hN h
  obtain ⟨S, hS⟩ : ∃ S : ByteArray, S = ⟨l.toArray⟩ := ⟨_, rfl⟩
  have hz : S.size = l.length := by rw [hS]; simp [ByteArray.size]
  rw [← hS] at CEL ONE TK DR
  rw [← hz] at DR GET hnl hl
  have HZ := Lib.hid hz
  clear hS hz
  obtain ⟨c0, f0⟩ := CEL.out w (Below.refl _ _)
  have B0 : Hid (Below w.heap.size w w) := Below.refl _ _
  go_enter Tryd.func59, Tryd.ntmps59
  go_wp2_with fail
  clear c0 f0
  go_loopw [3, 4] (fun lo ah wr => ∃ k : Nat, lo = .int .i64 (k : Int) ∧ ah = .string (aheadA k) ∧ k ≤ N ∧ Hid (Below w.heap.size w wr)) (fun lo _ _ => N - (RowKit.intOf lo).toNat)
  case atStart => exact ⟨0, rfl, rfl, Nat.zero_le _, B0⟩
  case round =>
    obtain ⟨k, rfl, rfl, hk, HW⟩ := hrel
    obtain ⟨c0, f0⟩ := CEL.out wr HW.out
    have hend : ∀ w1 : World, Below w.heap.size w w1 → k = N → (N = 0 → NameP p l vv d i w (errA 9) w1) ∧ (N ≠ 0 → NameP p l vv d i w (.returned (.string (S.extract 0 k))) (w1.setCell ⟨p, 0, none⟩ (.string (S.extract k S.size)))) := fun w1 hb1 e => by
      refine ⟨fun h0 => ⟨.inl ⟨EMP.out h0, rfl⟩, hb1.mono (Nat.le_of_lt hlt)⟩, fun h0 => ⟨.inr ⟨NEM.out h0, ?_, ?_⟩, ?_⟩⟩
      · rw [TK.out k e]
      · have := (PUT.out (l.drop k) w1 hb1).1
        rw [DR.out, ← HN.out, ← e]
        exact this
      · exact (hb1.mono (Nat.le_of_lt hlt)).setCell (p := ⟨p, 0, none⟩) (Nat.le_refl _) _
    have HEND := Lib.hid hend
    clear hend
    by_cases hlt2 : k < S.size
    · obtain ⟨c, hc⟩ := GET.out k hlt2
      have hst := NAT.out k c hk hc
      have hex := ONE.out k c hc
      have kN := fun w => isName_any (aheadA k ++ S.extract k (k + 1)) w (by rw [hex]; unfold aheadA; split <;> simp [ByteArray.size])
      have hok := ahead_ok k c (aheadA k ++ S.extract k (k + 1)) (by rw [hex])
      rw [hok] at kN
      have hAz : (aheadA k).size ≤ 1 := by unfold aheadA; split <;> simp [ByteArray.size]
      have hAN : aheadA (k + 1) = ⟨#[95]⟩ := by unfold aheadA; rw [if_neg (by omega)]
      have HAN := Lib.hid hAN
      have hXz : (S.extract k (k + 1)).size = 1 := by rw [hex]; simp [ByteArray.size]
      generalize aheadA k = A at *
      obtain ⟨q, hq⟩ : ∃ q, q = nameOk k c := ⟨_, rfl⟩
      rw [← hq] at kN hst
      clear hq hok hex hc hAN
      cases q
      · have hkN : k = N := by
          have : ¬ (k + 1 ≤ N) := fun e => by have := hst.2 e; cases this
          omega
        have HK := Lib.hid hkN
        clear hst
        have fin : ∀ w1 : World, Below wr.heap.size wr w1 → Below w.heap.size w w1 := fun w1 hb => HW.out.trans (hb.mono HW.out.size)
        have FIN := Lib.hid fin
        clear fin
        by_cases hN0 : k = 0
        · have hb0 : ((k : Int) == 0) = true := by rw [beq_iff_eq]; omega
          have HN0 := Lib.hid (hkN ▸ hN0 : N = 0)
          clear hN0 hkN
          go_wp2_with (go_at_call 29; refine (kN _).mono ?_; rintro e w1 ⟨rfl, hb1⟩; have HB1 := Lib.hid hb1; clear hb1)
          exact ⟨rfl, (HEND.out _ (FIN.out _ HB1.out) HK.out).1 HN0.out⟩
        · have hb0 : ((k : Int) == 0) = false := by rw [beq_eq_false_iff_ne]; omega
          have HN0 := Lib.hid (show N ≠ 0 by omega)
          clear hN0 hkN
          go_wp2_with (go_at_call 29; refine (kN _).mono ?_; rintro e w1 ⟨rfl, hb1⟩; have HB1 := Lib.hid hb1; clear hb1; obtain ⟨d0, g0⟩ := CEL.out w1 (FIN.out _ HB1.out))
          refine bodyPost_ret (results_tmp rfl _ _ _) rfl ?_
          exact (HEND.out _ (FIN.out _ HB1.out) HK.out).2 HN0.out
      · have hk1 : k + 1 ≤ N := hst.1 rfl
        clear hst
        have fin : ∀ w1 : World, Below wr.heap.size wr w1 → Below w.heap.size w w1 := fun w1 hb => HW.out.trans (hb.mono HW.out.size)
        have FIN := Lib.hid fin
        clear fin
        go_wp2_with (go_at_call 29; refine (kN _).mono ?_; rintro e w1 ⟨rfl, hb1⟩; have HB1 := Lib.hid hb1; clear hb1)
        go_roundw
        case rel => exact ⟨k + 1, by go_num, by rw [HAN.out], hk1, FIN.out _ HB1.out⟩
        case measure => simp [RowKit.intOf]; omega
    · have hkN : k = N := by omega
      have HK := Lib.hid hkN
      have hlt3 : decide (k < S.size) = false := by simp; omega
      by_cases hN0 : k = 0
      · have hb0 : ((k : Int) == 0) = true := by rw [beq_iff_eq]; omega
        have HN0 := Lib.hid (hkN ▸ hN0 : N = 0)
        clear hN0 hkN
        go_wp2
        exact ⟨rfl, (HEND.out _ HW.out HK.out).1 HN0.out⟩
      · have hb0 : ((k : Int) == 0) = false := by rw [beq_eq_false_iff_ne]; omega
        have HN0 := Lib.hid (show N ≠ 0 by omega)
        clear hN0 hkN
        go_wp2
        refine bodyPost_ret (results_tmp rfl _ _ _) rfl ?_
        exact (HEND.out _ HW.out HK.out).2 HN0.out
end Go.Proofs.YtaaecgglocgcmaaDoor
namespace Go.Proofs.YtaaecgglocgcmaaDoor
open Go.RowKit Go.Lib

/-- What the reckoner's methods answer: what a text comes to, or what is wrong; a number whatever it is, where it is only read. -/
def AnsA (p : Nat) (vv : Value) (d : Nat) (i : Bool) (V : List UInt8 → Cm) (w : World) (r : Pr) (e : Ending) (w' : World) : Prop :=
  (match r with
  | .bad x => e = errA x
  | .ok ex l => if i = true then ∃ n, e = .returned (.int .i64 n) ∧ Rk p l vv d i w' else
    match ev V ex with
    | .is n => e = .returned (.int .i64 n) ∧ Rk p l vv d i w'
    | .no x => e = errA x) ∧ Below p w w'
theorem AnsA.bad {p : Nat} {vv : Value} {d : Nat} {i : Bool} {V : List UInt8 → Cm} {w w' : World} {x : Int} (h : Below p w w') : AnsA p vv d i V w (.bad x) (errA x) w' := ⟨rfl, h⟩
theorem AnsA.idle {p : Nat} {vv : Value} {d : Nat} {V : List UInt8 → Cm} {w w' : World} {ex : Ex} {l : List UInt8} {n : Int} (h : Rk p l vv d true w') (hb : Below p w w') : AnsA p vv d true V w (.ok ex l) (.returned (.int .i64 n)) w' := by
  refine ⟨?_, hb⟩
  show if true = true then _ else _
  rw [if_pos rfl]
  exact ⟨n, rfl, h⟩
theorem AnsA.live {p : Nat} {vv : Value} {d : Nat} {V : List UInt8 → Cm} {w w' : World} {ex : Ex} {l : List UInt8} {n : Int} (he : ev V ex = .is n) (h : Rk p l vv d false w') (hb : Below p w w') : AnsA p vv d false V w (.ok ex l) (.returned (.int .i64 n)) w' := by
  refine ⟨?_, hb⟩
  show if false = true then _ else _
  rw [if_neg (by simp), he]
  exact ⟨rfl, h⟩
theorem AnsA.both {p : Nat} {vv : Value} {d : Nat} {i : Bool} {V : List UInt8 → Cm} {w w' : World} {ex : Ex} {l : List UInt8} {n : Int} (he : i = false → ev V ex = .is n) (h : Rk p l vv d i w') (hb : Below p w w') : AnsA p vv d i V w (.ok ex l) (.returned (.int .i64 n)) w' := by
  cases i
  · exact AnsA.live (he rfl) h hb
  · exact AnsA.idle h hb
theorem AnsA.no {p : Nat} {vv : Value} {d : Nat} {V : List UInt8 → Cm} {w w' : World} {ex : Ex} {l : List UInt8} {x : Int} (he : ev V ex = .no x) (hb : Below p w w') : AnsA p vv d false V w (.ok ex l) (errA x) w' := by
  refine ⟨?_, hb⟩
  show if false = true then _ else _
  rw [if_neg (by simp), he]

theorem whole_used (l : List UInt8) : 0 ≤ (wholeD l).2.1 ∧ (wholeD l).2.1 ≤ (l.length : Int) := by
  have h := figs_length_le (afterSign l)
  have h2 : (afterSign l).length ≤ l.length := by unfold afterSign; split <;> simp
  have h3 : isNeg l = true → (afterSign l).length + 1 = l.length := fun hn => by
    unfold afterSign
    rw [if_pos hn]
    cases l with
    | nil => cases hn
    | cons a r => rfl
  unfold wholeD
  split
  · exact ⟨Int.le_refl _, by simp⟩
  · split
    · rename_i hn
      have := h3 hn
      split
      · constructor <;> simp only [] <;> omega
      · exact ⟨Int.le_refl _, by simp⟩
    · split
      · constructor <;> simp only [] <;> omega
      · exact ⟨Int.le_refl _, by simp⟩
set_option maxHeartbeats 1000000 in
set_option maxRecDepth 20000 in
theorem figuresA_any (p : Nat) (l : List UInt8) (vv : Value) (d : Nat) (i : Bool) (V : List UInt8 → Cm) (w : World) (h : Rk p l vv d i w) (hl : l.length ≤ 70000000000000) :
    Calls Tryd.prog 49 #[.pointer (some ⟨p, 0, none⟩)] w (AnsA p vv d i V w (figA l)) := by
  obtain ⟨c0, c1, c2, c3, f0, f1, f2, f3⟩ := h.cells
  have PUT := Lib.hid (fun r => (And.intro (h.rest r) ((Below.refl p w).setCell (p := ⟨p, 0, none⟩) (Nat.le_refl _) (.string ⟨r.toArray⟩))))
  have k := fun w => whole_any ⟨l.toArray⟩ w (by simpa [ByteArray.size] using hl)
  rw [show (⟨l.toArray⟩ : ByteArray).data.toList = l by simp] at k
  unfold wholeE at k
  have hu := whole_used l
  have hfig : figA l = if (wholeD l).2.2 = 0 then .ok (.num (wholeD l).1) (l.drop (wholeD l).2.1.toNat) else .bad 9 := rfl
  have DR : Hid (∀ m, (⟨l.toArray⟩ : ByteArray).extract m l.length = ⟨(l.drop m).toArray⟩) := by
    show ∀ m, (⟨l.toArray⟩ : ByteArray).extract m l.length = ⟨(l.drop m).toArray⟩
    intro m
    apply ByteArray.ext
    rw [ByteArray.data_extract]
    apply Array.ext'
    simp only [List.extract_toArray, List.extract_eq_drop_take']
    rw [List.take_of_length_le (Nat.le_refl _)]
  have hz : (⟨l.toArray⟩ : ByteArray).size = l.length := by simp [ByteArray.size]
  rw [← hz] at DR hu hl
  rw [hfig]
  clear h hz hfig
  generalize (wholeD l).1 = n at *
  obtain ⟨u, hu'⟩ : ∃ u : Nat, (wholeD l).2.1 = (u : Int) := ⟨(wholeD l).2.1.toNat, by omega⟩
  rw [hu'] at k hu ⊢
  rw [Int.toNat_natCast]
  clear hu'
  generalize (wholeD l).2.2 = x at *
  generalize (⟨l.toArray⟩ : ByteArray) = S at *
  by_cases hx : x = 0
  · rw [if_pos hx]
    subst hx
    go_enter Tryd.func49, Tryd.ntmps49
    go_wp2_with (go_at_call 58; refine (k _).mono ?_; rintro e w1 ⟨rfl, rfl⟩)
    refine bodyPost_ret (results_tmp rfl _ _ _) rfl ?_
    rw [DR.out]
    exact AnsA.both (fun _ => rfl) (PUT.out _).1 (PUT.out _).2
  · rw [if_neg hx]
    have hx' : (x == 0) = false := by simpa using hx
    go_enter Tryd.func49, Tryd.ntmps49
    go_wp2_with (go_at_call 58; refine (k _).mono ?_; rintro e w1 ⟨rfl, rfl⟩)
    exact ⟨rfl, AnsA.bad (Below.refl _ _)⟩

theorem num_cases (v : List UInt8) : (v = [] ∧ numA v = .is 0) ∨ (v ≠ [] ∧ (wholeD v).2.2 = 0 ∧ (wholeD v).2.1 = (v.length : Int) ∧ numA v = .is (wholeD v).1) ∨ (v ≠ [] ∧ ¬ ((wholeD v).2.2 = 0 ∧ (wholeD v).2.1 = (v.length : Int)) ∧ numA v = .no 2) := by
  by_cases h : v = []
  · exact .inl ⟨h, if_pos h⟩
  · by_cases h2 : (wholeD v).2.2 = 0 ∧ (wholeD v).2.1 = (v.length : Int)
    · exact .inr (.inl ⟨h, h2.1, h2.2, by unfold numA; rw [if_neg h, if_pos h2]⟩)
    · exact .inr (.inr ⟨h, h2, by unfold numA; rw [if_neg h, if_neg h2]⟩)
/-- What the method variable answers. -/
def varR (l : List UInt8) : Pr := if nameL l = [] then .bad 9 else .ok (.name (nameL l)) (l.drop (nameL l).length)
set_option maxHeartbeats 2000000 in
set_option maxRecDepth 20000 in
theorem variableA_any (p : Nat) (l : List UInt8) (vv : Value) (d : Nat) (i : Bool) (vs : List Vr) (w : World) (h : Rk p l vv d i w) (hl : l.length ≤ 70000000000000) (hV : Vars p vv vs w) (hr : risesA vs = true) (hs : ∀ x ∈ vs, x.v.size ≤ 70000000000000) :
    Calls Tryd.prog 50 #[.pointer (some ⟨p, 0, none⟩)] w (AnsA p vv d i (valA vs) w (varR l)) := by
  have kn := nameA_any p l vv d i w h hl
  unfold NameP at kn
  unfold varR
  by_cases hn : nameL l = []
  · rw [if_pos hn]
    have kn' : Calls Tryd.prog 59 #[.pointer (some ⟨p, 0, none⟩)] w fun e w' => e = errA 9 ∧ Below p w w' := kn.mono (by
      rintro e w' ⟨h1 | h1, hb⟩
      · exact ⟨h1.2, hb⟩
      · exact absurd hn h1.1)
    clear kn
    unfold errA at kn'
    go_enter Tryd.func50, Tryd.ntmps50
    go_wp2_with (go_at_call 59; refine kn'.mono ?_; rintro e w1 ⟨rfl, hb1⟩)
    exact ⟨rfl, AnsA.bad hb1⟩
  · rw [if_neg hn]
    have kn' : Calls Tryd.prog 59 #[.pointer (some ⟨p, 0, none⟩)] w fun e w' => e = .returned (.string ⟨(nameL l).toArray⟩) ∧ Rk p (l.drop (nameL l).length) vv d i w' ∧ Below p w w' := kn.mono (by
      rintro e w' ⟨h1 | h1, hb⟩
      · exact absurd h1.1 hn
      · exact ⟨h1.2.1, h1.2.2, hb⟩)
    clear kn
    have HFIND := Lib.hid (fun (w1 : World) (h1 : Rk p (l.drop (nameL l).length) vv d i w1) (hb : Below p w w1) => findA_any vv vs ⟨(nameL l).toArray⟩ w1 ((hV.below hb).mono (Nat.le_of_lt h1.lt)) hr)
    have hval : valA vs (nameL l) = match findA vs (nameL l) with | some v => numA v.data.toList | none => .is 0 := rfl
    rw [show ((⟨(nameL l).toArray⟩ : ByteArray)).data.toList = nameL l by simp] at HFIND
    have hsz : ∀ v, findA vs (nameL l) = some v → v.size ≤ 70000000000000 := by
      clear hval HFIND kn' hn hV hr h hl
      intro v
      induction vs with
      | nil => intro h; cases h
      | cons x r ih =>
        unfold findA
        split
        · intro h; cases h; exact hs x (by simp)
        · exact ih (fun y hy => hs y (List.mem_cons_of_mem _ hy))
    clear hn h hs
    have hev : ev (valA vs) (.name (nameL l)) = valA vs (nameL l) := rfl
    generalize valA vs = V at *
    generalize nameL l = nm at *
    generalize l.drop nm.length = rs at *
    cases i
    · cases hF : findA vs nm with
      | none =>
        rw [hF] at HFIND hval
        have hE : ev V (.name nm) = .is 0 := hev.trans hval
        have HE := Lib.hid hE
        clear hval hF hsz hE hev hr hl hV
        unfold foundE at HFIND
        go_enter Tryd.func50, Tryd.ntmps50
        go_wp2_with (first
          | (go_at_call 59; refine kn'.mono ?_; rintro e w1 ⟨rfl, h1, hb1⟩; obtain ⟨d0, d1, d2, d3, _⟩ := h1.cells; have k2 := HFIND.out w1 h1 hb1; have H1 := Lib.hid h1; have HB1 := Lib.hid hb1; clear h1 hb1)
          | (go_at_call 17; refine k2.mono ?_; rintro e w2 ⟨rfl, hb2⟩))
        refine bodyPost_ret (results_tmp rfl _ _ _) rfl ?_
        exact AnsA.live HE.out (H1.out.below hb2) (HB1.out.trans (hb2.mono (Nat.le_of_lt H1.out.lt)))
      | some v =>
        rw [hF] at HFIND hval
        have hvz := hsz v hF
        have kw := fun w => whole_any v w hvz
        unfold wholeE at kw
        have hu := whole_used v.data.toList
        have hlen : v.data.toList.length = v.size := by rw [Array.length_toList]; rfl
        rw [hlen] at hu
        unfold foundE at HFIND
        have hc := num_cases v.data.toList
        rw [hlen] at hc
        have hemp : v.toList.isEmpty = decide (v.size = 0) := by rw [ByteArray.toList_eq, isEmpty_size]
        have hnil : v.data.toList = [] ↔ v.size = 0 := by rw [← hlen]; exact ⟨fun e => by rw [e]; rfl, List.eq_nil_of_length_eq_zero⟩
        rw [hnil] at hc
        have hval' : ev V (.name nm) = numA v.data.toList := hev.trans hval
        have hnz : v.data.toList ≠ [] → v.toList.isEmpty = false := fun h => by rw [hemp]; exact decide_eq_false (fun e => h (hnil.2 e))
        clear hval hev hF hsz hr hl hV hnil hlen
        generalize numA v.data.toList = N at *
        generalize (wholeD v.data.toList).1 = n at *
        generalize (wholeD v.data.toList).2.1 = u at *
        generalize (wholeD v.data.toList).2.2 = x at *
        rcases hc with ⟨h0, hN⟩ | ⟨h0, hx, hu2, hN⟩ | ⟨h0, hx, hN⟩
        · have he : v.toList.isEmpty = true := by rw [hemp, h0]; rfl
          have HE := Lib.hid (hval'.trans hN)
          clear hval' hN hemp h0 hnz
          go_enter Tryd.func50, Tryd.ntmps50
          go_wp2_with (first
            | (go_at_call 59; refine kn'.mono ?_; rintro e w1 ⟨rfl, h1, hb1⟩; obtain ⟨d0, d1, d2, d3, _⟩ := h1.cells; have k2 := HFIND.out w1 h1 hb1; have H1 := Lib.hid h1; have HB1 := Lib.hid hb1; clear h1 hb1)
            | (go_at_call 17; refine k2.mono ?_; rintro e w2 ⟨rfl, hb2⟩))
          refine bodyPost_ret (results_tmp rfl _ _ _) rfl ?_
          exact AnsA.live HE.out (H1.out.below hb2) (HB1.out.trans (hb2.mono (Nat.le_of_lt H1.out.lt)))
        · have he : v.toList.isEmpty = false := hnz h0
          have HE := Lib.hid (hval'.trans hN)
          subst hx hu2
          clear hval' hN hemp h0 hnz
          go_enter Tryd.func50, Tryd.ntmps50
          go_wp2_with (first
            | (go_at_call 59; refine kn'.mono ?_; rintro e w1 ⟨rfl, h1, hb1⟩; obtain ⟨d0, d1, d2, d3, _⟩ := h1.cells; have k2 := HFIND.out w1 h1 hb1; have H1 := Lib.hid h1; have HB1 := Lib.hid hb1; clear h1 hb1)
            | (go_at_call 17; refine k2.mono ?_; rintro e w2 ⟨rfl, hb2⟩)
            | (go_at_call 58; refine (kw _).mono ?_; rintro e w3 ⟨rfl, rfl⟩))
          refine bodyPost_ret (results_tmp rfl _ _ _) rfl ?_
          exact AnsA.live HE.out (H1.out.below hb2) (HB1.out.trans (hb2.mono (Nat.le_of_lt H1.out.lt)))
        · have he : v.toList.isEmpty = false := hnz h0
          have HE := Lib.hid (hval'.trans hN)
          by_cases hx0 : x = 0
          · subst hx0
            have hu3 : u < (v.size : Int) := by omega
            clear hval' hN hemp h0 hnz hx
            go_enter Tryd.func50, Tryd.ntmps50
            go_wp2_with (first
              | (go_at_call 59; refine kn'.mono ?_; rintro e w1 ⟨rfl, h1, hb1⟩; obtain ⟨d0, d1, d2, d3, _⟩ := h1.cells; have k2 := HFIND.out w1 h1 hb1; have H1 := Lib.hid h1; have HB1 := Lib.hid hb1; clear h1 hb1)
              | (go_at_call 17; refine k2.mono ?_; rintro e w2 ⟨rfl, hb2⟩)
              | (go_at_call 58; refine (kw _).mono ?_; rintro e w3 ⟨rfl, rfl⟩))
            exact ⟨rfl, AnsA.no HE.out (HB1.out.trans (hb2.mono (Nat.le_of_lt H1.out.lt)))⟩
          · have hxb : (x != 0) = true := by simpa using hx0
            clear hval' hN hemp h0 hnz hx hx0
            go_enter Tryd.func50, Tryd.ntmps50
            go_wp2_with (first
              | (go_at_call 59; refine kn'.mono ?_; rintro e w1 ⟨rfl, h1, hb1⟩; obtain ⟨d0, d1, d2, d3, _⟩ := h1.cells; have k2 := HFIND.out w1 h1 hb1; have H1 := Lib.hid h1; have HB1 := Lib.hid hb1; clear h1 hb1)
              | (go_at_call 17; refine k2.mono ?_; rintro e w2 ⟨rfl, hb2⟩)
              | (go_at_call 58; refine (kw _).mono ?_; rintro e w3 ⟨rfl, rfl⟩))
            all_goals exact ⟨rfl, AnsA.no HE.out (HB1.out.trans (hb2.mono (Nat.le_of_lt H1.out.lt)))⟩
    · clear HFIND hval hsz hev hr hl hV
      go_enter Tryd.func50, Tryd.ntmps50
      go_wp2_with (first
        | (go_at_call 59; refine kn'.mono ?_; rintro e w1 ⟨rfl, h1, hb1⟩; obtain ⟨d0, d1, d2, d3, _⟩ := h1.cells; have H1 := Lib.hid h1; have HB1 := Lib.hid hb1; clear h1 hb1))
      refine bodyPost_ret (results_tmp rfl _ _ _) rfl ?_
      exact AnsA.idle H1.out HB1.out
end Go.Proofs.YtaaecgglocgcmaaDoor
namespace Go.Proofs.YtaaecgglocgcmaaDoor
open Go.RowKit Go.Lib

/-- The marks' table and the variables lie below the reckoner. -/
def EnvA (p : Nat) (vv : Value) (vs : List Vr) (w : World) : Prop := Marks p w ∧ Vars p vv vs w
theorem EnvA.below {p : Nat} {vv : Value} {vs : List Vr} {w w' : World} (h : EnvA p vv vs w) (hb : Below p w w') : EnvA p vv vs w' := ⟨h.1.below hb, h.2.below hb⟩
/-- Nothing is asked where a text is only read; else it can be read. -/
def Good (i : Bool) (R : Pr) : Prop := i = true ∨ ∃ ex l, R = .ok ex l
/-- Why a method panics. -/
def Why (i : Bool) (V : List UInt8 → Cm) (R : Pr) (x : Int) : Prop := R = .bad x ∨ i = false ∧ ∃ ex l, R = .ok ex l ∧ ev V ex = .no x
theorem AnsA.why {p : Nat} {vv : Value} {d : Nat} {i : Bool} {V : List UInt8 → Cm} {R : Pr} {w w' : World} {x : Int} (h : Why i V R x) (hb : Below p w w') : AnsA p vv d i V w R (errA x) w' := by
  rcases h with h | ⟨h, ex, l, h1, h2⟩
  · rw [h]; exact AnsA.bad hb
  · rw [h, h1]; exact AnsA.no h2 hb
/-- How a method goes well. -/
def Well (p : Nat) (vv : Value) (d : Nat) (i : Bool) (V : List UInt8 → Cm) (ex : Ex) (l : List UInt8) (e : Ending) (w' : World) : Prop := ∃ n, (i = false → ev V ex = .is n) ∧ e = .returned (.int .i64 n) ∧ Rk p l vv d i w'
theorem split_ans {p : Nat} {vv : Value} {d : Nat} {i : Bool} {V : List UInt8 → Cm} {R : Pr} {F : FuncId} {args : Array Value} {C : World → Prop}
    (h : ∀ w, C w → Calls Tryd.prog F args w (AnsA p vv d i V w R)) :
    (∃ x, Why i V R x ∧ ∀ w, C w → Calls Tryd.prog F args w fun e w' => e = errA x ∧ Below p w w') ∨
    (∃ ex l, R = .ok ex l ∧ ∀ w, C w → Calls Tryd.prog F args w fun e w' => Well p vv d i V ex l e w' ∧ Below p w w') := by
  cases R with
  | bad x => exact .inl ⟨x, .inl rfl, fun w hC => (h w hC).mono (by rintro e w' ⟨h1, hb⟩; exact ⟨h1, hb⟩)⟩
  | ok ex l =>
    cases i
    · cases he : ev V ex with
      | is n =>
        refine .inr ⟨ex, l, rfl, fun w hC => (h w hC).mono ?_⟩
        rintro e w' ⟨h1, hb⟩
        have h1 : (if false = true then ∃ n, e = .returned (.int .i64 n) ∧ Rk p l vv d false w' else match ev V ex with | .is n => e = .returned (.int .i64 n) ∧ Rk p l vv d false w' | .no x => e = errA x) := h1
        rw [if_neg (by simp), he] at h1
        exact ⟨⟨n, fun _ => he, h1⟩, hb⟩
      | no x =>
        refine .inl ⟨x, .inr ⟨rfl, ex, l, rfl, he⟩, fun w hC => (h w hC).mono ?_⟩
        rintro e w' ⟨h1, hb⟩
        have h1 : (if false = true then ∃ n, e = .returned (.int .i64 n) ∧ Rk p l vv d false w' else match ev V ex with | .is n => e = .returned (.int .i64 n) ∧ Rk p l vv d false w' | .no x => e = errA x) := h1
        rw [if_neg (by simp), he] at h1
        exact ⟨h1, hb⟩
    · refine .inr ⟨ex, l, rfl, fun w hC => (h w hC).mono ?_⟩
      rintro e w' ⟨h1, hb⟩
      have h1 : (if true = true then ∃ n, e = .returned (.int .i64 n) ∧ Rk p l vv d true w' else match ev V ex with | .is n => e = .returned (.int .i64 n) ∧ Rk p l vv d true w' | .no x => e = errA x) := h1
      rw [if_pos rfl] at h1
      obtain ⟨n, h1, h2⟩ := h1
      exact ⟨⟨n, fun h => (by cases h), h1, h2⟩, hb⟩
/-- What reading comes to takes no more than there is. -/
theorem pF_short {f : Nat} {j : Job} {d : Nat} {l r : List UInt8} {e : Ex} (hj : okJ j) (h : pF f j d l = .ok e r) : r.length ≤ l.length := by
  have h1 : pF (max f (needA j l)) j d l = .ok e r := by rw [pF_mono (by rw [h]; simp) (Nat.le_max_left _ _), h]
  have h2 := (pF_enough (max f (needA j l)) j d l hj (Nat.le_max_right _ _)).2 e r h1
  cases j with
  | un => exact Nat.le_of_lt h2
  | row k => exact Nat.le_of_lt h2
  | more k e => exact h2
/-- What goes wrong on the left goes wrong in all. -/
theorem more_no (V : List UInt8 → Cm) : ∀ (f k : Nat) (e : Ex) (d : Nat) (l r : List UInt8) (E : Ex) (x : Int), pF f (.more k e) d l = .ok E r → ev V e = .no x → ev V E = .no x
  | 0, k, e, d, l, r, E, x, h, _ => by simp [pF] at h
  | f + 1, k, e, d, l, r, E, x, h, hx => by
    unfold pF at h
    cases hm : markIn (marksAt k) l with
    | none => rw [hm] at h; simp only [] at h; cases h; exact hx
    | some mr =>
      obtain ⟨m, r1⟩ := mr
      rw [hm] at h
      simp only [] at h
      cases hr : pF f (.row (k + 1)) d r1 with
      | bad y => rw [hr] at h; cases h
      | ok b r2 =>
        rw [hr] at h
        simp only [] at h
        refine more_no V f k _ d r2 r E x h ?_
        show (match ev V e with | .no x => Cm.no x | .is x => if idleA m x then opD m x 0 else match ev V b with | .no y => .no y | .is y => opD m x y) = .no x
        rw [hx]
end Go.Proofs.YtaaecgglocgcmaaDoor
namespace Go.Proofs.YtaaecgglocgcmaaDoor
open Go.RowKit Go.Lib

def binR (m : Mk) (e : Ex) : Pr → Pr
  | .ok b l => .ok (.bin m e b) l
  | .bad x => .bad x
theorem op_idle (m : Mk) (a n : Int) (h : idleA m a = true) : opD m a n = opD m a 0 := by
  cases m <;> first | cases h | skip
  · have h : (a != 0) = true := h
    simp [opD, h]
  · have h : (a == 0) = true := h
    have h2 : (a != 0) = false := by simpa using h
    simp [opD, h2]
theorem bin_ev (V : List UInt8 → Cm) (m : Mk) (e b : Ex) (a : Int) (he : ev V e = .is a) : ev V (.bin m e b) = if idleA m a then opD m a 0 else match ev V b with | .no y => .no y | .is y => opD m a y := by
  show (match ev V e with | .no x => Cm.no x | .is x => if idleA m x then opD m x 0 else match ev V b with | .no y => .no y | .is y => opD m x y) = _
  rw [he]

/-- Which mark it is, as far as it matters whether what stands on the right is reckoned. -/
def MarkW (M : ByteArray) (a : Int) (j : Bool) : Prop :=
  (M.toList = [124, 124] ∧ ((a == 0) = true ∧ (a != 0) = false) ∧ j = false) ∨ (M.toList = [124, 124] ∧ ((a == 0) = false ∧ (a != 0) = true) ∧ j = true) ∨ (¬ M.toList = [124, 124] ∧ M.toList = [38, 38] ∧ ((a == 0) = true ∧ (a != 0) = false) ∧ j = true) ∨ (¬ M.toList = [124, 124] ∧ M.toList = [38, 38] ∧ ((a == 0) = false ∧ (a != 0) = true) ∧ j = false) ∨ (¬ M.toList = [124, 124] ∧ ¬ M.toList = [38, 38] ∧ j = false)
theorem markW_any (m : Mk) (a : Int) : MarkW ⟨(markTx m).toArray⟩ a (idleA m a) := by
  unfold MarkW
  rw [ByteArray.toList_eq]
  by_cases ha : a = 0
  · subst ha
    cases m <;> simp [markTx, idleA]
  · cases m <;> simp [markTx, idleA, ha]
/-- What joined does where what stands on the right goes wrong. -/
theorem joined_bad (p K : Nat) (r : List UInt8) (vv : Value) (d : Nat) (i j : Bool) (a x : Int) (M : ByteArray) (w : World) (C : World → Prop) (h : Rk p r vv d i w) (hM : i = false → MarkW M a j) (hij : i = true → j = true)
    (hC : ∀ w', Rk p r vv d j w' → Below p w w' → C w')
    (kr : ∀ w, C w → Calls Tryd.prog 31 #[.pointer (some ⟨p, 0, none⟩), .int .i64 (K : Int)] w fun e w' => e = errA x ∧ Below p w w') :
    Calls Tryd.prog 44 #[.pointer (some ⟨p, 0, none⟩), .int .i64 a, .string M, .int .i64 (K : Int)] w fun e w' => e = errA x ∧ Below p w w' := by
  obtain ⟨c0, c1, c2, c3, f0, f1, f2, f3⟩ := h.cells
  have PUT := Lib.hid (And.intro (h.idle j) ((Below.refl p w).setCell (p := ⟨p, 3, none⟩) (Nat.le_refl _) (.bool j)))
  have k2 := kr _ (hC _ PUT.out.1 PUT.out.2)
  clear h kr hC c0 c1 c2 f0 f1 f2
  unfold errA at k2 ⊢
  cases i
  · have hM := hM rfl
    clear hij
    rcases hM with ⟨g1, ⟨g2, g3⟩, rfl⟩ | ⟨g1, ⟨g2, g3⟩, rfl⟩ | ⟨g1, g4, ⟨g2, g3⟩, rfl⟩ | ⟨g1, g4, ⟨g2, g3⟩, rfl⟩ | ⟨g1, g4, rfl⟩
    all_goals
      go_enter Tryd.func44, Tryd.ntmps44
      go_wp2_with (go_at_call 31; (with_reducible refine k2.mono ?_); rintro e w1 ⟨rfl, hb1⟩)
      exact ⟨rfl, rfl, PUT.out.2.trans hb1⟩
  · have hj := hij rfl
    subst hj
    clear hM hij
    go_enter Tryd.func44, Tryd.ntmps44
    go_wp2_with (go_at_call 31; (with_reducible refine k2.mono ?_); rintro e w1 ⟨rfl, hb1⟩)
    exact ⟨rfl, rfl, PUT.out.2.trans hb1⟩
def JoinP (p : Nat) (l : List UInt8) (vv : Value) (d : Nat) : Bool → Cm → Ending → World → Prop
  | true, _, e, w' => e = .returned (.int .i64 0) ∧ Rk p l vv d true w'
  | false, .is n, e, w' => e = .returned (.int .i64 n) ∧ Rk p l vv d false w'
  | false, .no x, e, _ => e = errA x
/-- What joined does where what stands on the right goes well. -/
theorem joined_well (p K : Nat) (r l : List UInt8) (vv : Value) (d : Nat) (i j : Bool) (a : Int) (Q : Int → Prop) (c : Cm) (M : ByteArray) (w : World) (C : World → Prop) (h : Rk p r vv d i w) (hM : i = false → MarkW M a j) (hij : i = true → j = true)
    (hC : ∀ w', Rk p r vv d j w' → Below p w w' → C w')
    (kr : ∀ w, C w → Calls Tryd.prog 31 #[.pointer (some ⟨p, 0, none⟩), .int .i64 (K : Int)] w fun e w' => (∃ n, Q n ∧ e = .returned (.int .i64 n) ∧ Rk p l vv d j w') ∧ Below p w w')
    (ko : i = false → ∀ n, Q n → ∀ w, Calls Tryd.prog 53 #[.int .i64 a, .string M, .int .i64 n] w fun e w' => CmP c e ∧ w' = w) :
    Calls Tryd.prog 44 #[.pointer (some ⟨p, 0, none⟩), .int .i64 a, .string M, .int .i64 (K : Int)] w fun e w' => JoinP p l vv d i c e w' ∧ Below p w w' := by
  obtain ⟨c0, c1, c2, c3, f0, f1, f2, f3⟩ := h.cells
  have PUT := Lib.hid (And.intro (h.idle j) ((Below.refl p w).setCell (p := ⟨p, 3, none⟩) (Nat.le_refl _) (.bool j)))
  have BACK := Lib.hid (fun (w1 : World) (h1 : Rk p l vv d j w1) (hb : Below p (w.setCell ⟨p, 3, none⟩ (.bool j)) w1) => (And.intro (h1.idle i) ((PUT.out.2.trans hb).setCell (p := ⟨p, 3, none⟩) (Nat.le_refl _) (.bool i))))
  have k2 := kr _ (hC _ PUT.out.1 PUT.out.2)
  clear h kr hC c0 c1 c2 f0 f1 f2
  cases i
  · have hM := hM rfl
    have ko2 := ko rfl
    clear hij ko
    cases c with
    | is z =>
      simp only [CmP] at ko2
      change Calls Tryd.prog 44 #[.pointer (some ⟨p, 0, none⟩), .int .i64 a, .string M, .int .i64 (K : Int)] w fun e w' => (e = .returned (.int .i64 z) ∧ Rk p l vv d false w') ∧ Below p w w'
      rcases hM with ⟨g1, ⟨g2, g3⟩, rfl⟩ | ⟨g1, ⟨g2, g3⟩, rfl⟩ | ⟨g1, g4, ⟨g2, g3⟩, rfl⟩ | ⟨g1, g4, ⟨g2, g3⟩, rfl⟩ | ⟨g1, g4, rfl⟩
      all_goals
        go_enter Tryd.func44, Tryd.ntmps44
        go_wp2_with (first
          | (go_at_call 31; (with_reducible refine k2.mono ?_); rintro e w1 ⟨⟨n, hq, rfl, h1⟩, hb1⟩; have ko3 := ko2 n hq; have e3 := h1.cells.2.2.2.1; have e4 := h1.cells.2.2.2.2.2.2.2; have H1 := Lib.hid h1; have HB1 := Lib.hid hb1; clear h1 hb1)
          | (go_at_call 53; (with_reducible refine (ko3 _).mono ?_); rintro e w2 ⟨rfl, rfl⟩))
        refine bodyPost_ret (results_tmp rfl _ _ _) rfl ?_
        exact ⟨⟨rfl, (BACK.out _ H1.out HB1.out).1⟩, (BACK.out _ H1.out HB1.out).2⟩
    | no x =>
      simp only [CmP, errA] at ko2
      change Calls Tryd.prog 44 #[.pointer (some ⟨p, 0, none⟩), .int .i64 a, .string M, .int .i64 (K : Int)] w fun e w' => e = errA x ∧ Below p w w'
      unfold errA
      rcases hM with ⟨g1, ⟨g2, g3⟩, rfl⟩ | ⟨g1, ⟨g2, g3⟩, rfl⟩ | ⟨g1, g4, ⟨g2, g3⟩, rfl⟩ | ⟨g1, g4, ⟨g2, g3⟩, rfl⟩ | ⟨g1, g4, rfl⟩
      all_goals
        go_enter Tryd.func44, Tryd.ntmps44
        go_wp2_with (first
          | (go_at_call 31; (with_reducible refine k2.mono ?_); rintro e w1 ⟨⟨n, hq, rfl, h1⟩, hb1⟩; have ko3 := ko2 n hq; have e3 := h1.cells.2.2.2.1; have e4 := h1.cells.2.2.2.2.2.2.2; have H1 := Lib.hid h1; have HB1 := Lib.hid hb1; clear h1 hb1)
          | (go_at_call 53; (with_reducible refine (ko3 _).mono ?_); rintro e w2 ⟨rfl, rfl⟩))
        exact ⟨rfl, rfl, (BACK.out _ H1.out HB1.out).2⟩
  · have hj := hij rfl
    subst hj
    change Calls Tryd.prog 44 #[.pointer (some ⟨p, 0, none⟩), .int .i64 a, .string M, .int .i64 (K : Int)] w fun e w' => (e = .returned (.int .i64 0) ∧ Rk p l vv d true w') ∧ Below p w w'
    clear hM hij ko
    go_enter Tryd.func44, Tryd.ntmps44
    go_wp2_with (go_at_call 31; (with_reducible refine k2.mono ?_); rintro e w1 ⟨⟨n, hq, rfl, h1⟩, hb1⟩; have e3 := h1.cells.2.2.2.1; have e4 := h1.cells.2.2.2.2.2.2.2; have H1 := Lib.hid h1; have HB1 := Lib.hid hb1; clear h1 hb1)
    refine bodyPost_ret (results_tmp rfl _ _ _) rfl ?_
    exact ⟨⟨rfl, (BACK.out _ H1.out HB1.out).1⟩, (BACK.out _ H1.out HB1.out).2⟩
theorem joinedA_any (p K : Nat) (r : List UInt8) (vv : Value) (vs : List Vr) (d : Nat) (i : Bool) (V : List UInt8 → Cm) (m : Mk) (e : Ex) (a : Int) (R2 : Pr) (w : World) (h : Rk p r vv d i w) (hE : EnvA p vv vs w) (hg : Good i R2) (he : i = false → ev V e = .is a)
    (kr : ∀ j, Good j R2 → ∀ w, (Rk p r vv d j w ∧ EnvA p vv vs w) → Calls Tryd.prog 31 #[.pointer (some ⟨p, 0, none⟩), .int .i64 (K : Int)] w (AnsA p vv d j V w R2)) :
    Calls Tryd.prog 44 #[.pointer (some ⟨p, 0, none⟩), .int .i64 a, .string ⟨(markTx m).toArray⟩, .int .i64 (K : Int)] w (AnsA p vv d i V w (binR m e R2)) := by
  obtain ⟨j, hj⟩ : ∃ j, j = (i || idleA m a) := ⟨_, rfl⟩
  have hgj : Good j R2 := by
    rcases hg with h | h
    · exact .inl (by rw [hj, h]; rfl)
    · exact .inr h
  have hM : i = false → MarkW ⟨(markTx m).toArray⟩ a j := fun hi => by rw [hj, hi]; exact markW_any m a
  have hij : i = true → j = true := fun hi => by rw [hj, hi]; rfl
  have hC : ∀ w', Rk p r vv d j w' → Below p w w' → (Rk p r vv d j w' ∧ EnvA p vv vs w') := fun w' h1 hb => ⟨h1, hE.below hb⟩
  rcases split_ans (kr j hgj) with ⟨x, hw, k⟩ | ⟨b, l, rfl, k⟩
  · refine (joined_bad p K r vv d i j a x _ w _ h hM hij hC k).mono ?_
    rintro e' w' ⟨rfl, hb⟩
    refine AnsA.why ?_ hb
    rcases hw with rfl | ⟨hj0, b, l, rfl, hx⟩
    · exact .inl rfl
    · rw [hj0] at hj
      have hj := hj.symm
      rw [Bool.or_eq_false_iff] at hj
      refine .inr ⟨hj.1, .bin m e b, l, rfl, ?_⟩
      rw [bin_ev V m e b a (he hj.1), if_neg (by rw [hj.2]; simp), hx]
  · refine (joined_well p K r l vv d i j a (fun n => j = false → ev V b = .is n) (ev V (.bin m e b)) _ w _ h hM hij hC k ?_).mono ?_
    · intro hi n hq w1
      rw [bin_ev V m e b a (he hi)]
      have hof := ofA_any m a n w1
      cases hid : idleA m a
      · rw [if_neg (by simp), hq (by rw [hj, hi, hid]; rfl)]
        exact hof
      · rw [if_pos rfl, ← op_idle m a n hid]
        exact hof
    · rintro e' w' ⟨h1, hb⟩
      refine ⟨?_, hb⟩
      cases i
      · show if false = true then _ else _
        rw [if_neg (by simp)]
        cases hv : ev V (.bin m e b) with
        | is n => rw [hv] at h1; exact h1
        | no x => rw [hv] at h1; exact h1
      · show if true = true then _ else _
        rw [if_pos rfl]
        exact ⟨0, h1.1, h1.2⟩
end Go.Proofs.YtaaecgglocgcmaaDoor
namespace Go.Proofs.YtaaecgglocgcmaaDoor
open Go.RowKit Go.Lib

theorem full_listA (c : UInt8) (l : List UInt8) : (⟨(c :: l).toArray⟩ : ByteArray).toList.isEmpty = false := by rw [ByteArray.toList_eq]; rfl
theorem empty_listA : (⟨([] : List UInt8).toArray⟩ : ByteArray).toList.isEmpty = true := by rw [ByteArray.toList_eq]; rfl
theorem ex_from (l : List UInt8) (m n : Nat) (h : n = l.length) : (⟨l.toArray⟩ : ByteArray).extract m n = ⟨(l.drop m).toArray⟩ := by
  subst h
  apply ByteArray.ext
  rw [ByteArray.data_extract]
  apply Array.ext'
  simp only [List.extract_toArray, List.extract_eq_drop_take']
  rw [List.take_of_length_le (Nat.le_refl _)]
/-- What stands behind a sign, or in brackets. -/
def heldR (c : UInt8) (R0 R1 : Pr) : Pr := if c = 40 then R0.closed else if c = 45 then R1.map .neg else if c = 33 then R1.map .bang else R1
theorem map_why {i : Bool} {V : List UInt8 → Cm} {R : Pr} {x : Int} (g : Ex → Ex) (hg : ∀ e, ev V e = .no x → ev V (g e) = .no x) (h : Why i V R x) : Why i V (R.map g) x := by
  rcases h with rfl | ⟨hi, ex, l, rfl, he⟩
  · exact .inl rfl
  · exact .inr ⟨hi, g ex, l, rfl, hg _ he⟩
theorem closed_why {i : Bool} {V : List UInt8 → Cm} {R : Pr} {x : Int} (hG : Good i R.closed) (h : Why i V R x) : Why i V R.closed x := by
  rcases h with rfl | ⟨hi, ex, l, rfl, he⟩
  · exact .inl rfl
  · rcases hG with h | ⟨ex', l', h⟩
    · rw [hi] at h; cases h
    · have h0 : (if l.head? = some 41 then Pr.ok ex l.tail else Pr.bad 9) = .ok ex' l' := h
      split at h0
      · rename_i hh
        cases h0
        exact .inr ⟨hi, _, _, h, he⟩
      · cases h0
theorem good_closed {i : Bool} {R : Pr} (h : Good i R.closed) : Good i R := by
  rcases h with h | ⟨ex, l, h⟩
  · exact .inl h
  · cases R with
    | bad x => cases h
    | ok e l => exact .inr ⟨e, l, rfl⟩
theorem good_map {i : Bool} {R : Pr} {g : Ex → Ex} (h : Good i (R.map g)) : Good i R := by
  rcases h with h | ⟨ex, l, h⟩
  · exact .inl h
  · cases R with
    | bad x => cases h
    | ok e l => exact .inr ⟨e, l, rfl⟩

set_option maxHeartbeats 2000000 in
set_option maxRecDepth 20000 in
theorem held_neg (p : Nat) (r : List UInt8) (vv : Value) (vs : List Vr) (d : Nat) (i : Bool) (V : List UInt8 → Cm) (R : Pr) (w : World) (h : Rk p (45 :: r) vv d i w) (hl : r.length ≤ 70000000000000) (hE : EnvA p vv vs w)
    (kr : ∀ w, (Rk p r vv d i w ∧ EnvA p vv vs w) → Calls Tryd.prog 41 #[.pointer (some ⟨p, 0, none⟩)] w (AnsA p vv d i V w R)) :
    Calls Tryd.prog 57 #[.pointer (some ⟨p, 0, none⟩)] w (AnsA p vv d i V w (R.map .neg)) := by
  obtain ⟨c0, c1, c2, c3, f0, f1, f2, f3⟩ := h.cells
  have h1 := h.rest r
  have hb1 : Below p w (w.setCell ⟨p, 0, none⟩ (.string ⟨r.toArray⟩)) := (Below.refl p w).setCell (p := ⟨p, 0, none⟩) (Nat.le_refl _) _
  have hex := ex_from (45 :: r) 1 (r.length + 1) rfl
  have hbyte : (⟨(45 :: r : List UInt8).toArray⟩ : ByteArray).size = r.length + 1 := by simp [ByteArray.size]
  have hfst : ∀ S : ByteArray, S = ⟨(45 :: r : List UInt8).toArray⟩ → ∀ h0 : 0 < S.size, S[0] = 45 := by intro S hS h0; subst hS; rfl
  rw [show (45 :: r : List UInt8).drop 1 = r from rfl] at hex
  obtain ⟨S, hS⟩ : ∃ S : ByteArray, S = ⟨(45 :: r : List UInt8).toArray⟩ := ⟨_, rfl⟩
  rw [← hS] at hex hbyte c0
  have hb40 := hfst S hS
  have hs : 0 < S.size := by omega
  have hb := hb40 hs
  have HB := Lib.hid hb1
  rcases split_ans kr with ⟨x, hw, k⟩ | ⟨ex, l, rfl, k⟩
  · have k2 := k _ ⟨h1, hE.below hb1⟩
    have W := Lib.hid (map_why .neg (fun e he => by show (match ev V e with | .is n => _ | .no x => _) = _; rw [he]) hw)
    clear h h1 hE hw hb1 kr k hfst hb40 hS
    generalize (⟨r.toArray⟩ : ByteArray) = S1 at *
    unfold errA at k2
    go_enter Tryd.func57, Tryd.ntmps57
    go_wp2_with (go_at_call 41; (with_reducible refine k2.mono ?_); rintro e w1 ⟨rfl, hb2⟩)
    exact ⟨rfl, AnsA.why W.out (HB.out.trans hb2)⟩
  · have k2 := k _ ⟨h1, hE.below hb1⟩
    clear h h1 hE hb1 kr k hfst hb40 hS
    unfold Well at k2
    generalize (⟨r.toArray⟩ : ByteArray) = S1 at *
    go_enter Tryd.func57, Tryd.ntmps57
    go_wp2_with (first
      | (go_at_call 41; (with_reducible refine k2.mono ?_); rintro e w1 ⟨⟨n, hev, rfl, h2⟩, hb2⟩; have HEV := Lib.hid hev; have H2 := Lib.hid h2; have HB2 := Lib.hid hb2; clear hev h2 hb2)
      | fail)
    refine bodyPost_ret (results_tmp rfl _ _ _) rfl ?_
    refine AnsA.both (fun hi => ?_) H2.out (HB.out.trans HB2.out)
    show (match ev V ex with | .is n => _ | .no x => _) = _
    rw [HEV.out hi]
set_option maxHeartbeats 2000000 in
set_option maxRecDepth 20000 in
theorem held_bang (p : Nat) (r : List UInt8) (vv : Value) (vs : List Vr) (d : Nat) (i : Bool) (V : List UInt8 → Cm) (R : Pr) (w : World) (h : Rk p (33 :: r) vv d i w) (hl : r.length ≤ 70000000000000) (hE : EnvA p vv vs w)
    (kr : ∀ w, (Rk p r vv d i w ∧ EnvA p vv vs w) → Calls Tryd.prog 41 #[.pointer (some ⟨p, 0, none⟩)] w (AnsA p vv d i V w R)) :
    Calls Tryd.prog 57 #[.pointer (some ⟨p, 0, none⟩)] w (AnsA p vv d i V w (R.map .bang)) := by
  obtain ⟨c0, c1, c2, c3, f0, f1, f2, f3⟩ := h.cells
  have h1 := h.rest r
  have hb1 : Below p w (w.setCell ⟨p, 0, none⟩ (.string ⟨r.toArray⟩)) := (Below.refl p w).setCell (p := ⟨p, 0, none⟩) (Nat.le_refl _) _
  have hex := ex_from (33 :: r) 1 (r.length + 1) rfl
  have hbyte : (⟨(33 :: r : List UInt8).toArray⟩ : ByteArray).size = r.length + 1 := by simp [ByteArray.size]
  have hfst : ∀ S : ByteArray, S = ⟨(33 :: r : List UInt8).toArray⟩ → ∀ h0 : 0 < S.size, S[0] = 33 := by intro S hS h0; subst hS; rfl
  rw [show (33 :: r : List UInt8).drop 1 = r from rfl] at hex
  obtain ⟨S, hS⟩ : ∃ S : ByteArray, S = ⟨(33 :: r : List UInt8).toArray⟩ := ⟨_, rfl⟩
  rw [← hS] at hex hbyte c0
  have hb40 := hfst S hS
  have hs : 0 < S.size := by omega
  have hb := hb40 hs
  have HB := Lib.hid hb1
  rcases split_ans kr with ⟨x, hw, k⟩ | ⟨ex, l, rfl, k⟩
  · have k2 := k _ ⟨h1, hE.below hb1⟩
    have W := Lib.hid (map_why .bang (fun e he => by show (match ev V e with | .is n => _ | .no x => _) = _; rw [he]) hw)
    clear h h1 hE hw hb1 kr k hfst hb40 hS
    generalize (⟨r.toArray⟩ : ByteArray) = S1 at *
    unfold errA at k2
    go_enter Tryd.func57, Tryd.ntmps57
    go_wp2_with (go_at_call 41; (with_reducible refine k2.mono ?_); rintro e w1 ⟨rfl, hb2⟩)
    exact ⟨rfl, AnsA.why W.out (HB.out.trans hb2)⟩
  · have k2 := k _ ⟨h1, hE.below hb1⟩
    clear h h1 hE hb1 kr k hfst hb40 hS
    unfold Well at k2
    generalize (⟨r.toArray⟩ : ByteArray) = S1 at *
    have kt := toldA_any
    go_enter Tryd.func57, Tryd.ntmps57
    go_wp2_with (first
      | (go_at_call 41; (with_reducible refine k2.mono ?_); rintro e w1 ⟨⟨n, hev, rfl, h2⟩, hb2⟩; have HEV := Lib.hid hev; have H2 := Lib.hid h2; have HB2 := Lib.hid hb2; clear hev h2 hb2)
      | (go_at_call 65; (with_reducible refine (kt _ _).mono ?_); rintro e w2 ⟨rfl, rfl⟩))
    refine bodyPost_ret (results_tmp rfl _ _ _) rfl ?_
    refine AnsA.both (fun hi => ?_) H2.out (HB.out.trans HB2.out)
    show (match ev V ex with | .is n => _ | .no x => _) = _
    rw [HEV.out hi]
set_option maxHeartbeats 2000000 in
set_option maxRecDepth 20000 in
theorem held_plus (p : Nat) (r : List UInt8) (vv : Value) (vs : List Vr) (d : Nat) (i : Bool) (V : List UInt8 → Cm) (R : Pr) (w : World) (h : Rk p (43 :: r) vv d i w) (hl : r.length ≤ 70000000000000) (hE : EnvA p vv vs w)
    (kr : ∀ w, (Rk p r vv d i w ∧ EnvA p vv vs w) → Calls Tryd.prog 41 #[.pointer (some ⟨p, 0, none⟩)] w (AnsA p vv d i V w R)) :
    Calls Tryd.prog 57 #[.pointer (some ⟨p, 0, none⟩)] w (AnsA p vv d i V w R) := by
  obtain ⟨c0, c1, c2, c3, f0, f1, f2, f3⟩ := h.cells
  have h1 := h.rest r
  have hb1 : Below p w (w.setCell ⟨p, 0, none⟩ (.string ⟨r.toArray⟩)) := (Below.refl p w).setCell (p := ⟨p, 0, none⟩) (Nat.le_refl _) _
  have hex := ex_from (43 :: r) 1 (r.length + 1) rfl
  have hbyte : (⟨(43 :: r : List UInt8).toArray⟩ : ByteArray).size = r.length + 1 := by simp [ByteArray.size]
  have hfst : ∀ S : ByteArray, S = ⟨(43 :: r : List UInt8).toArray⟩ → ∀ h0 : 0 < S.size, S[0] = 43 := by intro S hS h0; subst hS; rfl
  rw [show (43 :: r : List UInt8).drop 1 = r from rfl] at hex
  obtain ⟨S, hS⟩ : ∃ S : ByteArray, S = ⟨(43 :: r : List UInt8).toArray⟩ := ⟨_, rfl⟩
  rw [← hS] at hex hbyte c0
  have hb40 := hfst S hS
  have hs : 0 < S.size := by omega
  have hb := hb40 hs
  have HB := Lib.hid hb1
  rcases split_ans kr with ⟨x, hw, k⟩ | ⟨ex, l, rfl, k⟩
  · have k2 := k _ ⟨h1, hE.below hb1⟩
    have W := Lib.hid (hw)
    clear h h1 hE hw hb1 kr k hfst hb40 hS
    generalize (⟨r.toArray⟩ : ByteArray) = S1 at *
    unfold errA at k2
    go_enter Tryd.func57, Tryd.ntmps57
    go_wp2_with (go_at_call 41; (with_reducible refine k2.mono ?_); rintro e w1 ⟨rfl, hb2⟩)
    exact ⟨rfl, AnsA.why W.out (HB.out.trans hb2)⟩
  · have k2 := k _ ⟨h1, hE.below hb1⟩
    clear h h1 hE hb1 kr k hfst hb40 hS
    unfold Well at k2
    generalize (⟨r.toArray⟩ : ByteArray) = S1 at *
    go_enter Tryd.func57, Tryd.ntmps57
    go_wp2_with (first
      | (go_at_call 41; (with_reducible refine k2.mono ?_); rintro e w1 ⟨⟨n, hev, rfl, h2⟩, hb2⟩; have HEV := Lib.hid hev; have H2 := Lib.hid h2; have HB2 := Lib.hid hb2; clear hev h2 hb2)
      | fail)
    refine bodyPost_ret (results_tmp rfl _ _ _) rfl ?_
    refine AnsA.both (fun hi => ?_) H2.out (HB.out.trans HB2.out)
    exact HEV.out hi
set_option maxHeartbeats 2000000 in
set_option maxRecDepth 20000 in
theorem held_paren (p : Nat) (r : List UInt8) (vv : Value) (vs : List Vr) (d : Nat) (i : Bool) (V : List UInt8 → Cm) (R : Pr) (w : World) (h : Rk p (40 :: r) vv d i w) (hl : r.length ≤ 70000000000000) (hE : EnvA p vv vs w) (hG : Good i R.closed) (hR : ∀ ex l, R = .ok ex l → l.length ≤ r.length)
    (kr : ∀ w, (Rk p r vv d i w ∧ EnvA p vv vs w) → Calls Tryd.prog 31 #[.pointer (some ⟨p, 0, none⟩), .int .i64 0] w (AnsA p vv d i V w R)) :
    Calls Tryd.prog 57 #[.pointer (some ⟨p, 0, none⟩)] w (AnsA p vv d i V w R.closed) := by
  obtain ⟨c0, c1, c2, c3, f0, f1, f2, f3⟩ := h.cells
  have h1 := h.rest r
  have hb1 : Below p w (w.setCell ⟨p, 0, none⟩ (.string ⟨r.toArray⟩)) := (Below.refl p w).setCell (p := ⟨p, 0, none⟩) (Nat.le_refl _) _
  have hex := ex_from (40 :: r) 1 (r.length + 1) rfl
  have hbyte : (⟨(40 :: r : List UInt8).toArray⟩ : ByteArray).size = r.length + 1 := by simp [ByteArray.size]
  have hfst : ∀ S : ByteArray, S = ⟨(40 :: r : List UInt8).toArray⟩ → ∀ h0 : 0 < S.size, S[0] = 40 := by intro S hS h0; subst hS; rfl
  rw [show (40 :: r : List UInt8).drop 1 = r from rfl] at hex
  obtain ⟨S, hS⟩ : ∃ S : ByteArray, S = ⟨(40 :: r : List UInt8).toArray⟩ := ⟨_, rfl⟩
  rw [← hS] at hex hbyte c0
  have hb40 := hfst S hS
  have hs : 0 < S.size := by omega
  have hb := hb40 hs
  have HB := Lib.hid hb1
  rcases split_ans kr with ⟨x, hw, k⟩ | ⟨ex, l, rfl, k⟩
  · have k2 := k _ ⟨h1, hE.below hb1⟩
    have W := Lib.hid (closed_why hG hw)
    clear h h1 hE hG hR hw hb1 kr k hfst hb40 hS
    generalize (⟨r.toArray⟩ : ByteArray) = S1 at *
    unfold errA at k2
    go_enter Tryd.func57, Tryd.ntmps57
    go_wp2_with (go_at_call 31; (with_reducible refine k2.mono ?_); rintro e w1 ⟨rfl, hb2⟩)
    exact ⟨rfl, AnsA.why W.out (HB.out.trans hb2)⟩
  · have k2 := k _ ⟨h1, hE.below hb1⟩
    have hlen := hR _ _ rfl
    have hcl : (Pr.ok ex l).closed = if l.head? = some 41 then .ok ex l.tail else .bad 9 := rfl
    rw [hcl]
    clear h h1 hE hb1 kr k hfst hb40 hS hR hG hcl
    unfold Well at k2
    have kp := fun w => Tryd.strings_HasPrefix ⟨l.toArray⟩ ⟨#[41]⟩ w
    have hpre : hasPrefix (⟨l.toArray⟩ : ByteArray).data.toList (⟨#[41]⟩ : ByteArray).data.toList = decide (l.head? = some 41) := by
      cases l with
      | nil => rfl
      | cons a l =>
        show ([41] : List UInt8).isPrefixOf (a :: l) = decide (some a = some 41)
        simp only [List.isPrefixOf, Bool.and_true, Option.some.injEq]
        rw [Bool.eq_iff_iff, beq_iff_eq, decide_eq_true_eq]
        exact ⟨fun e => e.symm, fun e => e.symm⟩
    rw [hpre] at kp
    clear hpre
    by_cases hh : l.head? = some 41
    · rw [if_pos hh, decide_eq_true hh] at *
      obtain ⟨l2, rfl⟩ : ∃ l2, l = 41 :: l2 := by
        cases l with
        | nil => cases hh
        | cons a l => simp at hh; exact ⟨l, by rw [hh]⟩
      have hex2 := ex_from (41 :: l2) 1 (l2.length + 1) rfl
      rw [show (41 :: l2 : List UInt8).drop 1 = l2 from rfl] at hex2
      have hz2 : (⟨(41 :: l2 : List UInt8).toArray⟩ : ByteArray).size = l2.length + 1 := by simp [ByteArray.size]
      have hl2 : l2.length + 1 ≤ r.length := hlen
      clear hh hlen
      have PUT := Lib.hid (fun (w1 : World) (h2 : Rk p (41 :: l2) vv d i w1) => And.intro (h2.rest l2) ((Below.refl p w1).setCell (p := ⟨p, 0, none⟩) (Nat.le_refl _) (.string ⟨l2.toArray⟩)))
      have CEL := Lib.hid (fun (w1 : World) (h2 : Rk p (41 :: l2) vv d i w1) => And.intro h2.cells.1 h2.cells.2.2.2.2.1)
      generalize (⟨r.toArray⟩ : ByteArray) = S1 at *
      generalize (⟨l2.toArray⟩ : ByteArray) = S3 at *
      generalize (⟨(41 :: l2 : List UInt8).toArray⟩ : ByteArray) = S2 at *
      go_enter Tryd.func57, Tryd.ntmps57
      go_wp2_with (first
        | (go_at_call 31; (with_reducible refine k2.mono ?_); rintro e w1 ⟨⟨n, hev, rfl, h2⟩, hb2⟩; obtain ⟨d0, g0⟩ := CEL.out w1 h2; have HEV := Lib.hid hev; have H2 := Lib.hid h2; have HB2 := Lib.hid hb2; clear hev h2 hb2)
        | (go_at_call 52; (with_reducible refine (kp _).mono ?_); rintro e w2 ⟨rfl, rfl⟩))
      refine bodyPost_ret (results_tmp rfl _ _ _) rfl ?_
      exact AnsA.both (fun hi => HEV.out hi) (PUT.out _ H2.out).1 ((HB.out.trans HB2.out).trans (PUT.out _ H2.out).2)
    · rw [if_neg hh]
      rw [decide_eq_false hh] at kp
      have CEL := Lib.hid (fun (w1 : World) (h2 : Rk p l vv d i w1) => And.intro h2.cells.1 h2.cells.2.2.2.2.1)
      clear hh
      generalize (⟨r.toArray⟩ : ByteArray) = S1 at *
      generalize (⟨l.toArray⟩ : ByteArray) = S2 at *
      go_enter Tryd.func57, Tryd.ntmps57
      go_wp2_with (first
        | (go_at_call 31; (with_reducible refine k2.mono ?_); rintro e w1 ⟨⟨n, hev, rfl, h2⟩, hb2⟩; obtain ⟨d0, g0⟩ := CEL.out w1 h2; have HEV := Lib.hid hev; have H2 := Lib.hid h2; have HB2 := Lib.hid hb2; clear hev h2 hb2)
        | (go_at_call 52; (with_reducible refine (kp _).mono ?_); rintro e w2 ⟨rfl, rfl⟩))
      exact ⟨rfl, AnsA.bad (HB.out.trans HB2.out)⟩
end Go.Proofs.YtaaecgglocgcmaaDoor
