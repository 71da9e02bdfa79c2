/- Packed texts: ArSetMath, ArithUnsetWalk. What each of them proves stands above its theorems; the conditions stand in these. -/
import Derived.Test.YtaaecgglocgcmaaDoorA3
import Derived.Test.YtaaecgglocgcmaaDoorA4
import Derived.Test.YtaaecgglocgcmaaDoorA10
namespace Go.Proofs.YtaaecgglocgcmaaDoor
open Go.RowKit Go.Lib

def insA : List Vr → Vr → List Vr
  | [], x => [x]
  | y :: r, x => if compareBytes y.n.data.toList x.n.data.toList < 0 then y :: insA r x else if y.n.data.toList = x.n.data.toList then x :: r else x :: y :: r
theorem atA_cons (y : Vr) (r : List Vr) (s : List UInt8) : atA (y :: r) s = if compareBytes y.n.data.toList s < 0 then atA r s else decide (y.n.data.toList = s) := by
  unfold atA
  rw [lowA]
  by_cases hc : compareBytes y.n.data.toList s < 0
  · rw [if_pos hc, if_pos hc]; rfl
  · rw [if_neg hc, if_neg hc]; rfl
theorem set_ins : ∀ (vs : List Vr) (x : Vr), setA vs x = insA vs x
  | [], x => rfl
  | y :: r, x => by
    unfold setA
    rw [atA_cons, lowA]
    unfold insA
    by_cases hc : compareBytes y.n.data.toList x.n.data.toList < 0
    · rw [if_pos hc, if_pos hc, if_pos hc]
      have ih := set_ins r x
      unfold setA at ih
      rw [← ih, List.take_succ_cons, List.cons_append, Nat.add_right_comm, List.drop_succ_cons]
    · rw [if_neg hc, if_neg hc, if_neg hc]
      by_cases he : y.n.data.toList = x.n.data.toList
      · rw [if_pos he, decide_eq_true he]; rfl
      · rw [if_neg he, decide_eq_false he]; rfl
theorem mem_ins : ∀ (vs : List Vr) (x z : Vr), z ∈ insA vs x → z = x ∨ z ∈ vs
  | [], x, z, h => by simp [insA] at h; exact .inl h
  | y :: r, x, z, h => by
    unfold insA at h
    split at h
    · rcases List.mem_cons.1 h with e | e
      · exact .inr (by rw [e]; simp)
      · rcases mem_ins r x z e with e | e
        · exact .inl e
        · exact .inr (List.mem_cons_of_mem _ e)
    · split at h
      · rcases List.mem_cons.1 h with e | e
        · exact .inl e
        · exact .inr (List.mem_cons_of_mem _ e)
      · rcases List.mem_cons.1 h with e | e
        · exact .inl e
        · exact .inr e
theorem find_ins : ∀ (vs : List Vr) (x : Vr) (s : List UInt8), findA (insA vs x) s = if x.n.data.toList = s then some x.v else findA vs s
  | [], x, s => by
    show findA [x] s = _
    unfold findA
    rfl
  | y :: r, x, s => by
    unfold insA
    by_cases hc : compareBytes y.n.data.toList x.n.data.toList < 0
    · rw [if_pos hc]
      unfold findA
      rw [find_ins r x s]
      by_cases hy : y.n.data.toList = s
      · have hx : x.n.data.toList ≠ s := fun e => by
          rw [hy, e, cmp_self] at hc
          omega
        rw [if_pos hy, if_neg hx, if_pos hy]
      · rw [if_neg hy, if_neg hy]
    · rw [if_neg hc]
      by_cases he : y.n.data.toList = x.n.data.toList
      · rw [if_pos he]
        unfold findA
        by_cases hx : x.n.data.toList = s
        · rw [if_pos hx, if_pos hx]
        · rw [if_neg hx, if_neg hx, if_neg (by rw [he]; exact hx)]
      · rw [if_neg he]
        show (if x.n.data.toList = s then some x.v else findA (y :: r) s) = _
        rfl
theorem rises_cons {y : Vr} {l : List Vr} (h1 : ∀ z ∈ l, compareBytes y.n.data.toList z.n.data.toList < 0) (h2 : risesA l = true) : risesA (y :: l) = true := by
  cases l with
  | nil => rfl
  | cons z r =>
    simp only [risesA, Bool.and_eq_true, decide_eq_true_eq]
    exact ⟨h1 z (by simp), h2⟩
theorem rises_ins : ∀ (vs : List Vr) (x : Vr), risesA vs = true → risesA (insA vs x) = true
  | [], x, _ => rfl
  | y :: r, x, h => by
    unfold insA
    by_cases hc : compareBytes y.n.data.toList x.n.data.toList < 0
    · rw [if_pos hc]
      refine rises_cons (fun z hz => ?_) (rises_ins r x (rises_tail h))
      rcases mem_ins r x z hz with rfl | e
      · exact hc
      · exact rises_head h z e
    · rw [if_neg hc]
      by_cases he : y.n.data.toList = x.n.data.toList
      · rw [if_pos he]
        exact rises_cons (fun z hz => by rw [← he]; exact rises_head h z hz) (rises_tail h)
      · rw [if_neg he]
        have hxy : compareBytes x.n.data.toList y.n.data.toList < 0 := by
          rw [cmp_flip]
          rcases cmp_three y.n.data.toList x.n.data.toList with e | e | e
          · omega
          · exact absurd (cmp_eq0 _ _ e) he
          · omega
        refine rises_cons (fun z hz => ?_) h
        rcases List.mem_cons.1 hz with rfl | e
        · exact hxy
        · exact cmp_trans _ _ _ hxy (rises_head h z e)
theorem right_ins (vs : List Vr) (x : Vr) (h : rightA vs = true) (hx : isNameB x.n.data.toList = true) : rightA (insA vs x) = true := by
  obtain ⟨h1, h2⟩ := right_name h
  unfold rightA
  rw [Bool.and_eq_true, List.all_eq_true]
  refine ⟨fun z hz => ?_, rises_ins vs x h2⟩
  rcases mem_ins vs x z hz with rfl | e
  · exact hx
  · exact h1 z e
end Go.Proofs.YtaaecgglocgcmaaDoor
namespace Go.Proofs.YtaaecgglocgcmaaDoor
open Go.RowKit Go.Lib

def newN : ByteArray := ⟨#[110, 101, 119, 95, 49]⟩
theorem rd_new : readA [110, 101, 119, 95, 49] = .ok (.name [110, 101, 119, 95, 49]) [] := by rfl
theorem eval_new (vs : List Vr) (v : Cm) (n : Int) (hv : valA vs [110, 101, 119, 95, 49] = v) (h : v = .is n) : evalA vs [110, 101, 119, 95, 49] = (n, 0) := eval_ok rd_new (hv.trans h)
theorem val_set (vs : List Vr) (v : ByteArray) (n : Int) (h : numA v.data.toList = .is n) : evalA (insA vs ⟨newN, v⟩) [110, 101, 119, 95, 49] = (n, 0) := by
  refine eval_new _ _ n rfl ?_
  unfold valA
  rw [find_ins, if_pos (show (newN.data.toList : List UInt8) = [110, 101, 119, 95, 49] by rfl)]
  exact h
theorem new_name : isNameB newN.data.toList = true := by decide +kernel
set_option maxHeartbeats 4000000 in
set_option maxRecDepth 100000 in
theorem arithUnset_walk (w : World) (ao : Option Addr) (cap : Nat) (vs : List Vr) (hV : Vars w.heap.size (.slice ao vs.length cap) vs w) (hno : vs.length ≤ 4398046511000 ∧ (ao = none → cap = 0)) (hsz : ∀ x ∈ vs, x.n.size ≤ 140737488351232 ∧ x.v.size ≤ 140737488351232) (n : Int) (hn : -9223372036854775808 ≤ n ∧ n ≤ 9223372036854775807) (hM : Marks w.heap.size w) :
    Calls Tryd.prog 10 #[.slice ao vs.length cap, .int .i64 n] w fun e w' => e = .returned (.bool true) ∧ Below w.heap.size w w' := by
  have kS := shownA_any w hM
  have kF : ∀ w1, Below w.heap.size w w1 → Calls Tryd.prog 12 #[.slice ao vs.length cap] w1 fun e w' => e = .returned (.bool (fewA vs)) ∧ Below w.heap.size w w' := fun w1 hb =>
    (fewA_any _ vs w1 ((hV.below hb).mono hb.size) (fun x hx => by have := hsz x hx; omega)).mono fun e w' ⟨he, hb2⟩ => ⟨he, hb.trans (hb2.mono hb.size)⟩
  have KF := Lib.hid kF
  clear kF
  cases hf : fewA vs
  · rw [hf] at KF
    clear hf hV hsz hM hno
    generalize vs.length = N at *
    go_enter Tryd.func10, Tryd.ntmps10
    go_wp2_with (first
      | (go_at_call 11; (with_reducible refine kS.mono ?_); rintro e w1 ⟨rfl, hbl⟩; have kf := KF.out w1 hbl; clear hbl kS)
      | (go_at_call 12; (with_reducible refine kf.mono ?_); rintro e w2 ⟨rfl, hbl⟩; have HB := Lib.hid hbl; clear hbl kf))
    go_ret
    exact ⟨rfl, HB.out⟩
  · rw [hf] at KF
    obtain ⟨hlen, hsh, hri⟩ := few_facts hf
    have hrr := (right_name hri).2
    -- what each call answers, at every world behind
    have kE : ∀ w1, Below w.heap.size w w1 → Calls Tryd.prog 13 #[.string ⟨#[110, 101, 119, 95, 49]⟩, .slice ao vs.length cap] w1 fun e w' => e = .returned (.tuple #[.int .i64 (evalA vs [110, 101, 119, 95, 49]).1, .int .i64 (evalA vs [110, 101, 119, 95, 49]).2]) ∧ Below w.heap.size w w' := fun w1 hb =>
      (evalA_any [110, 101, 119, 95, 49] _ vs w1 ((hM.below hb).mono hb.size) ((hV.below hb).mono hb.size) (by decide) hrr (fun x hx => by have := hsh x hx; omega)).mono fun e w' ⟨he, hb2⟩ => ⟨he, hb.trans (hb2.mono hb.size)⟩
    have kD : ∀ w1, Below w.heap.size w w1 → Calls Tryd.prog 17 #[.slice ao vs.length cap, .string ⟨#[110, 101, 119, 95, 49]⟩] w1 fun e w' => e = foundE (findA vs [110, 101, 119, 95, 49]) ∧ Below w.heap.size w w' := fun w1 hb =>
      (findA_any _ vs ⟨#[110, 101, 119, 95, 49]⟩ w1 ((hV.below hb).mono hb.size) hrr).mono fun e w' ⟨he, hb2⟩ => ⟨he, hb.trans (hb2.mono hb.size)⟩
    have kG : ∀ w1, Below w.heap.size w w1 → Calls Tryd.prog 22 #[.int .i64 n] w1 fun e w' => e = .returned (.string (numB n)) ∧ Below w.heap.size w w' := fun w1 hb =>
      (figuresLaw_any n w1 hn.1 hn.2).mono fun e w' ⟨he, hb2⟩ => ⟨he, hb.trans (hb2.mono hb.size)⟩
    have kSet : ∀ (v : ByteArray) w1, Below w.heap.size w w1 → Calls Tryd.prog 20 #[.slice ao vs.length cap, .string ⟨#[110, 101, 119, 95, 49]⟩, .string v] w1 fun e w' => (∃ ao2 N2 cap2, e = .returned (.slice ao2 N2 cap2) ∧ Vars w'.heap.size (.slice ao2 N2 cap2) (insA vs ⟨newN, v⟩) w') ∧ Below w.heap.size w w' := fun v w1 hb =>
      (setA_any ao cap vs ⟨newN, v⟩ w1 ((hV.below hb).mono hb.size) hrr hno.2 hno.1).mono fun e w' ⟨⟨u, he, hu⟩, hb2⟩ => by
        rw [set_ins] at hu
        obtain ⟨ao2, cap2, rfl, h2⟩ := id hu
        exact ⟨⟨ao2, _, cap2, he, hu⟩, hb.trans (hb2.mono hb.size)⟩
    have kE2 : ∀ (v : ByteArray) (k : Int), v.size ≤ 200 → numA v.data.toList = .is k → ∀ ao2 N2 cap2 w1, Below w.heap.size w w1 → Vars w1.heap.size (.slice ao2 N2 cap2) (insA vs ⟨newN, v⟩) w1 → Calls Tryd.prog 13 #[.string ⟨#[110, 101, 119, 95, 49]⟩, .slice ao2 N2 cap2] w1 fun e w' => e = .returned (.tuple #[.int .i64 k, .int .i64 0]) ∧ Below w.heap.size w w' := fun v k hvz hk ao2 N2 cap2 w1 hb hv => by
      have := evalA_any [110, 101, 119, 95, 49] _ _ w1 ((hM.below hb).mono hb.size) hv (by decide) (rises_ins vs ⟨newN, v⟩ hrr) (fun x hx => by
        rcases mem_ins vs _ x hx with rfl | hx
        · show v.size ≤ _; omega
        · have := hsh x hx; omega)
      rw [val_set vs v k hk] at this
      exact this.mono fun e w' ⟨he, hb2⟩ => ⟨he, hb.trans (hb2.mono hb.size)⟩
    have kR : ∀ ao2 N2 cap2 w1, Below w.heap.size w w1 → Vars w1.heap.size (.slice ao2 N2 cap2) (insA vs ⟨newN, ByteArray.empty⟩) w1 → Calls Tryd.prog 15 #[.slice ao2 N2 cap2] w1 fun e w' => e = .returned (.bool true) ∧ Below w.heap.size w w' := fun ao2 N2 cap2 w1 hb hv => by
      have := refRightA_any _ _ w1 hv (fun x hx => by
        rcases mem_ins vs _ x hx with rfl | hx
        · decide
        · have := hsh x hx; omega)
      rw [right_ins vs ⟨newN, ByteArray.empty⟩ hri new_name] at this
      exact this.mono fun e w' ⟨he, hb2⟩ => ⟨he, hb.trans (hb2.mono hb.size)⟩
    have kE2a := kE2 (numB n) n (Nat.le_trans (text_size n hn.1 hn.2) (by decide)) (numB_num n hn.1 hn.2)
    have kE2b := kE2 ByteArray.empty 0 (by decide) rfl
    have kSa := kSet (numB n)
    have kSb : ∀ w1, Below w.heap.size w w1 → Calls Tryd.prog 20 #[.slice ao vs.length cap, .string ⟨#[110, 101, 119, 95, 49]⟩, .string ⟨#[]⟩] w1 fun e w' => (∃ ao2 N2 cap2, e = .returned (.slice ao2 N2 cap2) ∧ Vars w'.heap.size (.slice ao2 N2 cap2) (insA vs ⟨newN, ByteArray.empty⟩) w') ∧ Below w.heap.size w w' := kSet ByteArray.empty
    have hval : findA vs [110, 101, 119, 95, 49] = none → evalA vs [110, 101, 119, 95, 49] = (0, 0) := fun h => eval_new vs _ 0 rfl (by unfold valA; rw [h])
    obtain ⟨⟨a, e⟩, hr⟩ : ∃ r, evalA vs [110, 101, 119, 95, 49] = r := ⟨_, rfl⟩
    rw [hr] at kE hval
    have KE := Lib.hid kE
    have KD := Lib.hid kD
    have KG := Lib.hid kG
    have KSa := Lib.hid kSa
    have KSb := Lib.hid kSb
    have KEa := Lib.hid kE2a
    have KEb := Lib.hid kE2b
    have KR := Lib.hid kR
    have HVAL := Lib.hid hval
    clear kE kD kG kSa kSb kE2a kE2b kR hval hr kSet kE2 hf hV hsz hM hno hn hsh hri hrr hlen
    generalize numB n = NB at *
    generalize insA vs ⟨newN, NB⟩ = vsA at *
    generalize insA vs ⟨newN, ByteArray.empty⟩ = vsB at *
    generalize vs.length = N at *
    generalize findA vs [110, 101, 119, 95, 49] = F at *
    have hcase : (F = none ∧ a = 0 ∧ e = 0) ∨ ∃ v, F = some v := by
      cases F with
      | none =>
        have := HVAL.out rfl
        simp only [Prod.mk.injEq] at this
        exact .inl ⟨rfl, this.1, this.2⟩
      | some v => exact .inr ⟨v, rfl⟩
    clear HVAL
    rcases hcase with ⟨rfl, rfl, rfl⟩ | ⟨v, rfl⟩
    all_goals
      unfold foundE at KD
      go_enter Tryd.func10, Tryd.ntmps10
      go_wp2_with (first
        | (go_at_call 11; (with_reducible refine kS.mono ?_); rintro ee w1 ⟨rfl, hbl⟩; clear kS)
        | (go_at_call 12; (with_reducible refine (KF.out _ (by assumption)).mono ?_); rintro ee w2 ⟨rfl, hbl2⟩; clear hbl)
        | (go_at_call 17; (with_reducible refine (KD.out _ (by assumption)).mono ?_); rintro ee w4 ⟨rfl, hbl4⟩; clear hbl3)
        | (go_at_call 22; (with_reducible refine (KG.out _ (by assumption)).mono ?_); rintro ee w5 ⟨rfl, hbl5⟩; clear hbl4)
        | (go_at_call 20; first
          | ((with_reducible refine (KSa.out _ (by assumption)).mono ?_); rintro ee w6 ⟨⟨ao2, N2, cap2, rfl, hva⟩, hbl6⟩; clear hbl5)
          | ((with_reducible refine (KSb.out _ (by assumption)).mono ?_); rintro ee w8 ⟨⟨ao3, N3, cap3, rfl, hvb⟩, hbl8⟩))
        | (go_at_call 15; (with_reducible refine (KR.out _ _ _ _ (by assumption) (by assumption)).mono ?_); rintro ee w11 ⟨rfl, hbl11⟩)
        | (go_at_call 13; first
          | ((with_reducible refine (KE.out _ (by assumption)).mono ?_); rintro ee w3 ⟨rfl, hbl3⟩; clear hbl2)
          | ((with_reducible refine (KEa.out _ _ _ _ (by assumption) (by assumption)).mono ?_); rintro ee w7 ⟨rfl, hbl7⟩; clear hbl6 hva)
          | ((with_reducible refine (KEb.out _ _ _ _ (by assumption) (by assumption)).mono ?_); rintro ee w9 ⟨rfl, hbl9⟩)))
      go_ret
      exact ⟨rfl, hbl11⟩
end Go.Proofs.YtaaecgglocgcmaaDoor
