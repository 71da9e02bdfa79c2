/- Packed texts: ShLeaf2, ShLeaf3, ShReck. What each of them proves stands above its theorems; the conditions stand in these. -/
import Derived.Test.YtelfgobjnibooaaGreatDoorA0
import Derived.Test.YtelfgobjnibooaaGreatDoorA4
namespace Go.Proofs.YtelfgobjnibooaaGreatDoor
open Go.RowKit Go.Lib
set_option maxHeartbeats 1000000 in
set_option maxRecDepth 20000 in
theorem need_yes (w : World) : Calls Tryz.prog 30 #[.bool true] w fun e w' => e = .returned (.tuple #[]) ∧ w' = w := by
 go_enter Tryz.func30, Tryz.ntmps30
 go_wp2
 go_end0
 exact ⟨rfl, rfl⟩
set_option maxHeartbeats 1000000 in
set_option maxRecDepth 20000 in
theorem need_no (w : World) : Calls Tryz.prog 30 #[.bool false] w fun e w' => e = errS 9 ∧ w' = w := by
 unfold errS
 go_enter Tryz.func30, Tryz.ntmps30
 go_wp2
 exact ⟨rfl, rfl, rfl⟩
theorem key_take {l k : List UInt8} (h : keyS l = k) : takeS k l = some (l.drop k.length) := by
 unfold takeS
 rw [if_pos]
 unfold keyS at h
 split at h
 ·subst h; rfl
 ·subst h
  exact List.isPrefixOf_iff_prefix.2 (List.takeWhile_prefix _)
theorem ba_ne {a b : List UInt8} (h : a ≠ b) : ((⟨a.toArray⟩ : ByteArray).toList == (⟨b.toArray⟩ : ByteArray).toList) = false ∧ ¬ (⟨a.toArray⟩ : ByteArray).toList = (⟨b.toArray⟩ : ByteArray).toList := by
 have e : ¬ (⟨a.toArray⟩ : ByteArray).toList = (⟨b.toArray⟩ : ByteArray).toList := by rw [toList_data, toList_data]; exact h
 exact ⟨beq_eq_false_iff_ne.2 e, e⟩
theorem ba_ne_lit {a b : List UInt8} (h : a ≠ b) : ((⟨a.toArray⟩ : ByteArray).toList == b) = false ∧ ¬ (⟨a.toArray⟩ : ByteArray).toList = b := by
 have e : ¬ (⟨a.toArray⟩ : ByteArray).toList = b := by rw [toList_data]; exact h
 exact ⟨beq_eq_false_iff_ne.2 e, e⟩
set_option maxHeartbeats 1000000 in
set_option maxRecDepth 20000 in
theorem takeKey_yes (p : Nat) (k l r : List UInt8) (sg : Value) (d : Nat) (w : World) (h : Rs p l sg d w) (hl : l.length ≤ 1048576) (ht : takeKeyS k l = some r) :
  Calls Tryz.prog 138 #[.pointer (some ⟨p, 0, none⟩), .string ⟨k.toArray⟩] w fun e w' => e = .returned (.bool true) ∧ Rs p r sg d w' ∧ Mvd p w w' := by
 have hk : keyS l = k := by
  unfold takeKeyS at ht
  split at ht
  ·assumption
  ·cases ht
 have hr := takeKey_drop ht
 have k1 := keyS_any p l sg d w h hl
 rw [hk] at k1
 have k2 := fun w1 (hb : Below w.heap.size w w1) => takeS_yes p k l r sg d w1 (h.below hb) hl (by rw [hr]; exact key_take hk)
 have K2 := Lib.hid k2
 have hp := h.lt
 have MV := Lib.hid (fun w1 (hb : Below w.heap.size w w1) => Mvd.of hb hp)
 clear k2 h hk hr ht
 generalize (⟨k.toArray⟩ : ByteArray) = K at *
 go_enter Tryz.func138, Tryz.ntmps138
 go_wp2_with (first
  | (go_at_call 75; (with_reducible refine k1.mono ?_); rintro e w1 ⟨rfl, hb⟩; have k3 := K2.out w1 hb; have HM := Lib.hid (MV.out w1 hb); clear hb)
  | (go_at_call 103; (with_reducible refine k3.mono ?_); rintro e w2 ⟨rfl, h2, m2⟩))
 exact bodyPost_ret (results_tmp rfl _ _ _) rfl ⟨rfl, h2, HM.out.trans m2⟩
set_option maxHeartbeats 1000000 in
set_option maxRecDepth 20000 in
theorem takeKey_no (p : Nat) (k l : List UInt8) (sg : Value) (d : Nat) (w : World) (h : Rs p l sg d w) (hl : l.length ≤ 1048576) (ht : takeKeyS k l = none) :
  Calls Tryz.prog 138 #[.pointer (some ⟨p, 0, none⟩), .string ⟨k.toArray⟩] w fun e w' => e = .returned (.bool false) ∧ Rs p l sg d w' ∧ Mvd p w w' := by
 have hk : keyS l ≠ k := by
  unfold takeKeyS at ht
  split at ht
  ·cases ht
  ·assumption
 have k1 := keyS_any p l sg d w h hl
 obtain ⟨e1, e2⟩ := ba_ne hk
 have hp := h.lt
 have MV := Lib.hid (fun w1 (hb : Below w.heap.size w w1) => And.intro (h.below hb) (Mvd.of hb hp))
 clear h hk ht
 generalize (⟨k.toArray⟩ : ByteArray) = K at *
 generalize (⟨(keyS l).toArray⟩ : ByteArray) = K1 at *
 go_enter Tryz.func138, Tryz.ntmps138
 go_wp2_with (first
  | (go_at_call 75; (with_reducible refine k1.mono ?_); rintro e w1 ⟨rfl, hb⟩))
 exact bodyPost_ret (results_tmp rfl _ _ _) rfl ⟨rfl, MV.out _ hb⟩
set_option maxHeartbeats 2000000 in
set_option maxRecDepth 20000 in
theorem isKey_any (k : List UInt8) (w : World) : Calls Tryz.prog 144 #[.string ⟨k.toArray⟩] w fun e w' => e = .returned (.bool (shKeys.contains k)) ∧ w' = w := by
 cases hc : shKeys.contains k
 ·have hn : ∀ x ∈ shKeys, k ≠ x := fun x hx e => by
   have : shKeys.contains k = true := by rw [e]; exact List.contains_iff_mem.2 hx
   rw [hc] at this; cases this
  obtain ⟨a0, b0⟩ := ba_ne_lit (hn [105, 102] (by decide))
  obtain ⟨a1, b1⟩ := ba_ne_lit (hn [116, 104, 101, 110] (by decide))
  obtain ⟨a2, b2⟩ := ba_ne_lit (hn [101, 108, 115, 101] (by decide))
  obtain ⟨a3, b3⟩ := ba_ne_lit (hn [102, 105] (by decide))
  obtain ⟨a4, b4⟩ := ba_ne_lit (hn [119, 104, 105, 108, 101] (by decide))
  obtain ⟨a5, b5⟩ := ba_ne_lit (hn [100, 111] (by decide))
  obtain ⟨a6, b6⟩ := ba_ne_lit (hn [100, 111, 110, 101] (by decide))
  obtain ⟨a7, b7⟩ := ba_ne_lit (hn [102, 111, 114] (by decide))
  obtain ⟨a8, b8⟩ := ba_ne_lit (hn [105, 110] (by decide))
  clear hn hc
  generalize (⟨k.toArray⟩ : ByteArray) = K at *
  go_enter Tryz.func144, Tryz.ntmps144
  go_wp2
  exact bodyPost_ret (results_tmp rfl _ _ _) rfl ⟨rfl, rfl⟩
 ·have hm : k ∈ shKeys := List.contains_iff_mem.1 hc
  unfold shKeys at hm
  simp only [List.mem_cons, List.not_mem_nil, or_false] at hm
  clear hc
  rcases hm with rfl | rfl | rfl | rfl | rfl | rfl | rfl | rfl | rfl
  all_goals
   go_enter Tryz.func144, Tryz.ntmps144
   go_wp2
   exact bodyPost_ret (results_tmp rfl _ _ _) rfl ⟨rfl, rfl⟩
set_option maxHeartbeats 4000000 in
set_option maxRecDepth 20000 in
theorem beginsS_any (p : Nat) (l : List UInt8) (sg : Value) (d : Nat) (w : World) (h : Rs p l sg d w) (hl : l.length ≤ 1048576) :
  Calls Tryz.prog 48 #[.pointer (some ⟨p, 0, none⟩)] w fun e w' => e = .returned (.bool (beginsS l)) ∧ Below w.heap.size w w' := by
 have k1 := keyS_any p l sg d w h hl
 have CEL := Lib.hid (fun (w1 : World) (hb : Below w.heap.size w w1) => (h.below hb).cell.1)
 have kO := fun w1 (hb : Below w.heap.size w w1) => (show Calls Tryz.prog 74 #[.pointer (some ⟨p, 0, none⟩), .string ⟨#[39, 34, 36, 92]⟩] w1 fun e w' => e = .returned (.bool (atS shOpens l)) ∧ w' = w1 from atS_any p shOpens l sg d w1 (h.below hb))
 have kM := fun w1 (hb : Below w.heap.size w w1) => (show Calls Tryz.prog 74 #[.pointer (some ⟨p, 0, none⟩), .string ⟨#[32, 9, 59, 10, 39, 34, 36, 92, 124, 38, 60, 62, 40, 41, 96, 42, 63, 91, 93, 123, 125, 126]⟩] w1 fun e w' => e = .returned (.bool (atS shMarks l)) ∧ w' = w1 from atS_any p shMarks l sg d w1 (h.below hb))
 have KO := Lib.hid kO
 have KM := Lib.hid kM
 clear kO kM h
 have eb : beginsS l = (!stopKeys.contains (keyS l) && !l.isEmpty && (atS shOpens l || !atS shMarks l)) := rfl
 cases hc : stopKeys.contains (keyS l)
 ·rw [hc] at eb
  have hn : ∀ x ∈ stopKeys, keyS l ≠ x := fun x hx e => by
   have : stopKeys.contains (keyS l) = true := by rw [e]; exact List.contains_iff_mem.2 hx
   rw [hc] at this; cases this
  obtain ⟨a1, b1⟩ := ba_ne_lit (hn [116, 104, 101, 110] (by decide))
  obtain ⟨a2, b2⟩ := ba_ne_lit (hn [101, 108, 115, 101] (by decide))
  obtain ⟨a3, b3⟩ := ba_ne_lit (hn [102, 105] (by decide))
  obtain ⟨a5, b5⟩ := ba_ne_lit (hn [100, 111] (by decide))
  obtain ⟨a6, b6⟩ := ba_ne_lit (hn [100, 111, 110, 101] (by decide))
  clear hn hc
  generalize (⟨(keyS l).toArray⟩ : ByteArray) = K at *
  have hE := isEmptyS l
  obtain ⟨B, hB⟩ : ∃ B, B = beginsS l := ⟨_, rfl⟩
  rw [← hB] at eb ⊢
  clear hB
  generalize (⟨l.toArray⟩ : ByteArray) = S at *
  cases hem : l.isEmpty
  ·rw [hem] at hE eb
   cases ho : atS shOpens l
   ·rw [ho] at KO eb
    cases hm : atS shMarks l
    ·rw [hm] at KM eb
     simp only [Bool.not_false, Bool.and_true, Bool.or_true] at eb
     subst eb
     clear hem ho hm
     go_enter Tryz.func48, Tryz.ntmps48
     go_wp2_with (first
      | (go_at_call 75; (with_reducible refine k1.mono ?_); rintro e w1 ⟨rfl, hb⟩; have d0 := CEL.out w1 hb; have HB := Lib.hid hb; clear hb)
      | (go_at_call 74; first | ((with_reducible refine (KO.out _ HB.out).mono ?_); rintro e w2 ⟨rfl, rfl⟩) | ((with_reducible refine (KM.out _ HB.out).mono ?_); rintro e w2 ⟨rfl, rfl⟩)))
     exact bodyPost_ret (results_tmp rfl _ _ _) rfl ⟨rfl, HB.out⟩
    ·rw [hm] at KM eb
     simp only [Bool.not_false, Bool.not_true, Bool.and_true, Bool.and_false, Bool.or_self] at eb
     subst eb
     clear hem ho hm
     go_enter Tryz.func48, Tryz.ntmps48
     go_wp2_with (first
      | (go_at_call 75; (with_reducible refine k1.mono ?_); rintro e w1 ⟨rfl, hb⟩; have d0 := CEL.out w1 hb; have HB := Lib.hid hb; clear hb)
      | (go_at_call 74; first | ((with_reducible refine (KO.out _ HB.out).mono ?_); rintro e w2 ⟨rfl, rfl⟩) | ((with_reducible refine (KM.out _ HB.out).mono ?_); rintro e w2 ⟨rfl, rfl⟩)))
     exact bodyPost_ret (results_tmp rfl _ _ _) rfl ⟨rfl, HB.out⟩
   ·rw [ho] at KO eb
    simp only [Bool.not_false, Bool.and_true, Bool.true_or] at eb
    subst eb
    clear hem ho
    go_enter Tryz.func48, Tryz.ntmps48
    go_wp2_with (first
     | (go_at_call 75; (with_reducible refine k1.mono ?_); rintro e w1 ⟨rfl, hb⟩; have d0 := CEL.out w1 hb; have HB := Lib.hid hb; clear hb)
     | (go_at_call 74; ((with_reducible refine (KO.out _ HB.out).mono ?_); rintro e w2 ⟨rfl, rfl⟩)))
    exact bodyPost_ret (results_tmp rfl _ _ _) rfl ⟨rfl, HB.out⟩
  ·rw [hem] at hE eb
   simp only [Bool.not_true, Bool.and_false, Bool.false_and] at eb
   subst eb
   clear hem
   go_enter Tryz.func48, Tryz.ntmps48
   go_wp2_with (first
    | (go_at_call 75; (with_reducible refine k1.mono ?_); rintro e w1 ⟨rfl, hb⟩; have d0 := CEL.out w1 hb; have HB := Lib.hid hb; clear hb))
   exact bodyPost_ret (results_tmp rfl _ _ _) rfl ⟨rfl, HB.out⟩
 ·rw [hc] at eb
  simp only [Bool.not_true, Bool.false_and] at eb
  rw [eb]
  have hm : keyS l ∈ stopKeys := List.contains_iff_mem.1 hc
  unfold stopKeys at hm
  simp only [List.mem_cons, List.not_mem_nil, or_false] at hm
  clear hc eb
  rcases hm with hm | hm | hm | hm | hm
  all_goals
   rw [hm] at k1
   clear hm
   go_enter Tryz.func48, Tryz.ntmps48
   go_wp2_with (go_at_call 75; (with_reducible refine k1.mono ?_); rintro e w1 ⟨rfl, hb⟩)
   exact bodyPost_ret (results_tmp rfl _ _ _) rfl ⟨rfl, hb⟩
end Go.Proofs.YtelfgobjnibooaaGreatDoor
namespace Go.Proofs.YtelfgobjnibooaaGreatDoor
open Go.RowKit Go.Lib
theorem tw_at (p : UInt8 → Bool) : ∀ (r : List UInt8) (i : Nat) (c : UInt8), r[i]? = some c → i ≤ (r.takeWhile p).length → p c = decide (i < (r.takeWhile p).length)
 | [], _, _, h, _ => by simp at h
 | a :: r, 0, c, h, _ => by
  simp only [List.getElem?_cons_zero, Option.some.injEq] at h
  subst h
  rw [List.takeWhile_cons]
  cases hp : p a <;> simp
 | a :: r, i + 1, c, h, hi => by
  simp only [List.getElem?_cons_succ] at h
  rw [List.takeWhile_cons] at hi ⊢
  cases hp : p a
  ·rw [hp] at hi; simp at hi
  ·rw [hp] at hi
   simp only [if_true, List.length_cons] at hi ⊢
   rw [tw_at p r i c h (by omega)]
   simp
theorem nameS_cons (a : UInt8) (r : List UInt8) : nameS (a :: r) = if isLet a then a :: r.takeWhile restOk else [] := rfl
theorem name_at (l : List UInt8) (j : Nat) (c : UInt8) (h : l[j]? = some c) (hj : j ≤ (nameS l).length) : (if j = 0 then isLet c else restOk c) = decide (j < (nameS l).length) := by
 cases l with
 | nil => simp at h
 | cons a r =>
  rw [nameS_cons] at hj ⊢
  cases ha : isLet a
  ·rw [ha] at hj
   simp only [Bool.false_eq_true, if_false, List.length_nil] at hj ⊢
   obtain rfl : j = 0 := by omega
   simp only [List.getElem?_cons_zero, Option.some.injEq] at h
   subst h
   rw [if_pos rfl, ha]; rfl
  ·rw [ha] at hj
   simp only [if_true, List.length_cons] at hj ⊢
   cases j with
   | zero =>
    simp only [List.getElem?_cons_zero, Option.some.injEq] at h
    subst h
    rw [if_pos rfl, ha]; simp
   | succ j =>
    simp only [List.getElem?_cons_succ] at h
    rw [if_neg (by omega), tw_at restOk r j c h (by omega)]
    simp
theorem nameS_le (l : List UInt8) : (nameS l).length ≤ l.length := by
 cases l with
 | nil => exact Nat.le_refl _
 | cons a r =>
  rw [nameS_cons]
  split
  ·simp only [List.length_cons]
   have := (List.takeWhile_sublist restOk (l := r)).length_le
   omega
  ·exact Nat.zero_le _
theorem nameS_take (l : List UInt8) : l.take (nameS l).length = nameS l := by
 cases l with
 | nil => rfl
 | cons a r =>
  rw [nameS_cons]
  split
  ·simp only [List.length_cons, List.take_succ_cons]
   rw [List.prefix_iff_eq_take.1 (List.takeWhile_prefix restOk (l := r))]
   simp
  ·rfl
def aheadS (j : Nat) : ByteArray := if j = 0 then ⟨#[]⟩ else ⟨#[95]⟩
theorem ahead_size (j : Nat) : (aheadS j).size ≤ 1 := by unfold aheadS; split <;> decide
theorem ahead_name (j : Nat) (c : UInt8) : isNameB (aheadS j ++ ⟨#[c]⟩ : ByteArray).data.toList = if j = 0 then isLet c else restOk c := by
 unfold aheadS
 by_cases hj : j = 0
 ·rw [if_pos hj, if_pos hj]
  show (true && (isLet c && true)) = isLet c
  rw [Bool.true_and, Bool.and_true]
 ·rw [if_neg hj, if_neg hj]
  show isNameB [95, c] = _
  show (!List.isEmpty [95, c] && (isLet 95 && [c].all restOk)) = restOk c
  rw [show isLet 95 = true by decide]
  show (true && (true && (restOk c && true))) = _
  rw [Bool.true_and, Bool.true_and, Bool.and_true]
theorem extract_one_byte (S : ByteArray) (j : Nat) (h : j < S.size) : S.extract j (j + 1) = ⟨#[S[j]]⟩ := by
 apply ByteArray.ext
 rw [ByteArray.data_extract]
 have hd : j < S.data.size := h
 apply Array.ext
 ·rw [Array.size_extract]
  show min (j + 1) S.data.size - j = 1
  omega
 ·intro i h1 h2
  have h2 : i < 1 := h2
  obtain rfl : i = 0 := by omega
  rw [Array.getElem_extract]
  rfl
set_option maxHeartbeats 2000000 in
set_option maxRecDepth 20000 in
theorem named_any (p : Nat) (l : List UInt8) (sg : Value) (d : Nat) (w : World) (h : Rs p l sg d w) (hl : l.length ≤ 1048576) :
  Calls Tryz.prog 161 #[.pointer (some ⟨p, 0, none⟩)] w fun e w' => e = .returned (.int .i64 ((nameS l).length : Int)) ∧ Below w.heap.size w w' := by
 have CEL := Lib.hid (fun (w1 : World) (hb : Below w.heap.size w w1) => (h.below hb).cell.1)
 have hle := nameS_le l
 have hsz := sizeS l
 have AT := Lib.hid (name_at l)
 have hby := fun (j : Nat) (c : UInt8) (hc : l[j]? = some c) (hh : j < (⟨l.toArray⟩ : ByteArray).size) => byteS (S := ⟨l.toArray⟩) rfl hh hc
 have HGET := Lib.hid (fun j (hj : j < l.length) => (⟨_, List.getElem?_eq_getElem hj⟩ : ∃ c, l[j]? = some c))
 generalize (⟨l.toArray⟩ : ByteArray) = S at *
 have BY := Lib.hid hby
 clear hby h
 obtain ⟨n, hn⟩ : ∃ n, n = (nameS l).length := ⟨_, rfl⟩
 obtain ⟨L, hL⟩ : ∃ L, L = l.length := ⟨_, rfl⟩
 rw [← hn] at hle AT ⊢
 rw [← hL] at hle hsz hl HGET
 clear hn hL
 have HSZ := Lib.hid hsz
 go_enter Tryz.func161, Tryz.ntmps161
 go_wp2_with fail
 go_loopg [3, 4] L (fun g v a wr => Hid (∃ j : Nat, v = .int .i64 (j : Int) ∧ a = .string (aheadS j) ∧ j ≤ n ∧ L ≤ j + g ∧ Below w.heap.size w wr))
 case atStart => exact ⟨0, rfl, rfl, Nat.zero_le _, by omega, Below.refl _ _⟩
 case round =>
  obtain ⟨j, rfl, rfl, hj, hg, hb⟩ := hrel.out
  clear hrel
  have d0 := CEL.out wr hb
  have HB := Lib.hid hb
  clear hb
  by_cases hlt : j < L
  ·obtain ⟨c, hc⟩ := HGET.out j hlt
   have hjS : j < S.size := by omega
   have hb := BY.out j c hc hjS
   have hat := AT.out j c hc hj
   have hx := extract_one_byte S j hjS
   rw [hb] at hx
   have hz := ahead_size j
   have kn := isName_any (aheadS j ++ ⟨#[c]⟩)
   rw [ahead_name, hat] at kn
   have hzz : (aheadS j ++ ⟨#[c]⟩ : ByteArray).size ≤ 70000000000000 := by rw [ByteArray.size_append]; show _ + 1 ≤ _; omega
   have kn2 := fun w => kn w hzz
   have hltI : (j : Int) < (S.size : Int) := by omega
   have hj1 : (j : Int) + 1 ≤ (S.size : Int) := by omega
   have hj0 : (0 : Int) ≤ (j : Int) := by omega
   have hjj : (j : Int) ≤ (j : Int) + 1 := by omega
   have hsum : (9223372036854775807 < (aheadS j).size + (⟨#[c]⟩ : ByteArray).size) = False := by
    have : (⟨#[c]⟩ : ByteArray).size = 1 := rfl
    rw [this]
    simp only [eq_iff_iff, iff_false]; omega
   have HAH : Hid (∀ j : Nat, (.string ⟨#[95]⟩ : Value) = .string (aheadS (j + 1))) := fun j => by unfold aheadS; rw [if_neg (by omega)]
   generalize aheadS j = A at *
   generalize (⟨#[c]⟩ : ByteArray) = C at *
   clear hb hc kn hzz hat hz hsz
   cases gk with
   | zero => omega
   | succ g =>
    by_cases hnm : j < n
    ·rw [decide_eq_true hnm] at kn2
     have hwr : IntKind.i64.wrap ((j : Int) + 1) = (j : Int) + 1 := wrap_small _ (by omega) (by omega)
     go_wp2_with (go_at_call 71; refine (kn2 _).mono ?_; rintro e w2 ⟨rfl, hb2⟩; have HB2 := Lib.hid (HB.out.trans (hb2.mono HB.out.size)); clear hb2)
     go_roundg g
     case measure => omega
     case rel => exact ⟨j + 1, by go_num, HAH.out j, by omega, by omega, HB2.out⟩
    ·rw [decide_eq_false hnm] at kn2
     have hjn : j = n := by omega
     have HJ := Lib.hid hjn
     clear hjn
     go_wp2_with (go_at_call 71; refine (kn2 _).mono ?_; rintro e w2 ⟨rfl, hb2⟩; have HB2 := Lib.hid (HB.out.trans (hb2.mono HB.out.size)); clear hb2)
     refine bodyPost_ret (results_tmp rfl _ _ _) rfl ⟨?_, HB2.out⟩
     rw [← HJ.out]; rfl
  ·have hjn : j = n := by omega
   have HJ := Lib.hid hjn
   have hlt2 : ¬ (j : Int) < (S.size : Int) := by omega
   clear hjn hlt hsz
   go_wp2
   refine bodyPost_ret (results_tmp rfl _ _ _) rfl ⟨?_, HB.out⟩
   rw [← HJ.out]; rfl
set_option maxHeartbeats 1000000 in
set_option maxRecDepth 20000 in
theorem name_yes (p : Nat) (l : List UInt8) (sg : Value) (d : Nat) (w : World) (h : Rs p l sg d w) (hl : l.length ≤ 1048576) (hn : nameS l ≠ []) :
  Calls Tryz.prog 140 #[.pointer (some ⟨p, 0, none⟩)] w fun e w' => e = .returned (.string ⟨(nameS l).toArray⟩) ∧ Rs p (l.drop (nameS l).length) sg d w' ∧ Mvd p w w' := by
 have k1 := named_any p l sg d w h hl
 have k2 := fun w1 (hb : Below w.heap.size w w1) => cutS_any p (nameS l).length l sg d w1 (h.below hb) (nameS_le l) hl
 rw [nameS_take] at k2
 have K2 := Lib.hid k2
 have hp := h.lt
 have MV := Lib.hid (fun w1 (hb : Below w.heap.size w w1) => Mvd.of hb hp)
 have h0 : (nameS l).length ≠ 0 := fun e => hn (List.eq_nil_of_length_eq_zero e)
 clear k2 h hn
 generalize (⟨(nameS l).toArray⟩ : ByteArray) = W at *
 generalize l.drop (nameS l).length = R at *
 generalize (nameS l).length = n at *
 have hn0 : (0 : Int) < (n : Int) := by omega
 have hn1 : 0 < n := by omega
 go_enter Tryz.func140, Tryz.ntmps140
 go_wp2_with (first
  | (go_at_call 161; (with_reducible refine k1.mono ?_); rintro e w1 ⟨rfl, hb⟩; have k3 := K2.out w1 hb; have HM := Lib.hid (MV.out w1 hb); clear hb)
  | (go_at_call 30; refine (need_yes _).mono ?_; rintro e w2 ⟨rfl, rfl⟩)
  | (go_at_call 162; (with_reducible refine k3.mono ?_); rintro e w3 ⟨rfl, h2, m2⟩))
 exact bodyPost_ret (results_tmp rfl _ _ _) rfl ⟨rfl, h2, HM.out.trans m2⟩
set_option maxHeartbeats 1000000 in
set_option maxRecDepth 20000 in
theorem name_no (p : Nat) (l : List UInt8) (sg : Value) (d : Nat) (w : World) (h : Rs p l sg d w) (hl : l.length ≤ 1048576) (hn : nameS l = []) :
  Calls Tryz.prog 140 #[.pointer (some ⟨p, 0, none⟩)] w fun e w' => e = errS 9 ∧ Mvd p w w' := by
 have k1 := named_any p l sg d w h hl
 rw [hn] at k1
 have hp := h.lt
 have MV := Lib.hid (fun w1 (hb : Below w.heap.size w w1) => Mvd.of hb hp)
 have k2 := need_no
 unfold errS at k2 ⊢
 clear h hn
 go_enter Tryz.func140, Tryz.ntmps140
 go_wp2_with (first
  | (go_at_call 161; (with_reducible refine k1.mono ?_); rintro e w1 ⟨rfl, hb⟩; have HM := Lib.hid (MV.out w1 hb); clear hb)
  | (go_at_call 30; refine (k2 _).mono ?_; rintro e w2 ⟨rfl, rfl⟩))
 exact ⟨rfl, rfl, HM.out⟩
theorem drop_extract (l : List UInt8) (n : Nat) : (⟨l.toArray⟩ : ByteArray).extract n (⟨l.toArray⟩ : ByteArray).size = ⟨(l.drop n).toArray⟩ := extract_fromS l n _ (by rw [sizeS]; exact Nat.le_refl _)
theorem assign_none {l : List UInt8} (h : assignS l = none) : nameS l = [] ∨ (nameS l ≠ [] ∧ takeS [61] (l.drop (nameS l).length) = none) := by
 unfold assignS at h
 by_cases hn : nameS l = []
 ·exact .inl hn
 ·rw [if_neg hn] at h
  refine .inr ⟨hn, ?_⟩
  cases ht : takeS [61] (l.drop (nameS l).length) with
  | none => rfl
  | some r => rw [ht] at h; cases h
theorem assign_some {l n r : List UInt8} (h : assignS l = some (n, r)) : n = nameS l ∧ nameS l ≠ [] ∧ takeS [61] (l.drop (nameS l).length) = some r := by
 unfold assignS at h
 by_cases hn : nameS l = []
 ·rw [if_pos hn] at h; cases h
 ·rw [if_neg hn] at h
  cases ht : takeS [61] (l.drop (nameS l).length) with
  | none => rw [ht] at h; cases h
  | some r' => rw [ht] at h; cases h; exact ⟨rfl, hn, rfl⟩
theorem takeS_pre (t l : List UInt8) : (t.isPrefixOf l) = (takeS t l).isSome := by
 unfold takeS
 cases t.isPrefixOf l <;> rfl
set_option maxHeartbeats 1000000 in
set_option maxRecDepth 20000 in
theorem assigned_none (p : Nat) (l : List UInt8) (sg : Value) (d : Nat) (w : World) (h : Rs p l sg d w) (hl : l.length ≤ 1048576) (ha : assignS l = none) :
  Calls Tryz.prog 142 #[.pointer (some ⟨p, 0, none⟩)] w fun e w' => e = .returned (.tuple #[.string ⟨#[]⟩, .bool false]) ∧ Rs p l sg d w' ∧ Mvd p w w' := by
 have k1 := named_any p l sg d w h hl
 have CEL := Lib.hid (fun (w1 : World) (hb : Below w.heap.size w w1) => (h.below hb).cell.1)
 have hp := h.lt
 have MV := Lib.hid (fun w1 (hb : Below w.heap.size w w1) => And.intro (h.below hb) (Mvd.of hb hp))
 clear h
 rcases assign_none ha with hn | ⟨hn, ht⟩
 ·rw [hn] at k1
  clear hn ha
  go_enter Tryz.func142, Tryz.ntmps142
  go_wp2_with (go_at_call 161; (with_reducible refine k1.mono ?_); rintro e w1 ⟨rfl, hb⟩)
  refine bodyPost_ret (v := .tuple #[.string ⟨#[]⟩, .bool false]) (by simp [results, Tryz.results142, go_sem]) rfl ⟨rfl, MV.out _ hb⟩
 ·have h0 : (nameS l).length ≠ 0 := fun e => hn (List.eq_nil_of_length_eq_zero e)
  have kp := fun w => Tryz.strings_HasPrefix ⟨(l.drop (nameS l).length).toArray⟩ ⟨#[61]⟩ w
  have hpf : hasPrefix (⟨(l.drop (nameS l).length).toArray⟩ : ByteArray).data.toList (⟨#[61]⟩ : ByteArray).data.toList = false := by
   show ([61] : List UInt8).isPrefixOf _ = false
   rw [takeS_pre, ht]; rfl
  rw [hpf] at kp
  have hex := drop_extract l (nameS l).length
  have hsz := sizeS l
  have hle := nameS_le l
  clear hn ha hpf ht
  generalize (⟨(l.drop (nameS l).length).toArray⟩ : ByteArray) = D at *
  generalize (nameS l).length = n at *
  generalize (⟨l.toArray⟩ : ByteArray) = S at CEL hex hsz
  have hn0 : ((n : Int) == 0) = false := by rw [beq_eq_false_iff_ne]; omega
  have hn1 : (n : Int) ≤ (S.size : Int) := by omega
  have hn2 : (0 : Int) ≤ (n : Int) := by omega
  clear hsz hle h0
  go_enter Tryz.func142, Tryz.ntmps142
  go_wp2_with (first
   | (go_at_call 161; (with_reducible refine k1.mono ?_); rintro e w1 ⟨rfl, hb⟩; have d0 := CEL.out w1 hb; have HM := Lib.hid (MV.out w1 hb); clear hb)
   | (go_at_call 98; refine (kp _).mono ?_; rintro e w2 ⟨rfl, rfl⟩))
  refine bodyPost_ret (v := .tuple #[.string ⟨#[]⟩, .bool false]) (by simp [results, Tryz.results142, go_sem]) rfl ⟨rfl, HM.out⟩
set_option maxHeartbeats 1000000 in
set_option maxRecDepth 20000 in
theorem assigned_some (p : Nat) (l n r : List UInt8) (sg : Value) (d : Nat) (w : World) (h : Rs p l sg d w) (hl : l.length ≤ 1048576) (ha : assignS l = some (n, r)) :
  Calls Tryz.prog 142 #[.pointer (some ⟨p, 0, none⟩)] w fun e w' => e = .returned (.tuple #[.string ⟨n.toArray⟩, .bool true]) ∧ Rs p r sg d w' ∧ Mvd p w w' := by
 obtain ⟨rfl, hn, ht⟩ := assign_some ha
 have k1 := named_any p l sg d w h hl
 have CEL := Lib.hid (fun (w1 : World) (hb : Below w.heap.size w w1) => (h.below hb).cell.1)
 have hp := h.lt
 have MV := Lib.hid (fun w1 (hb : Below w.heap.size w w1) => And.intro (h.below hb) (Mvd.of hb hp))
 have h0 : (nameS l).length ≠ 0 := fun e => hn (List.eq_nil_of_length_eq_zero e)
 have kp := fun w => Tryz.strings_HasPrefix ⟨(l.drop (nameS l).length).toArray⟩ ⟨#[61]⟩ w
 have hpf : hasPrefix (⟨(l.drop (nameS l).length).toArray⟩ : ByteArray).data.toList (⟨#[61]⟩ : ByteArray).data.toList = true := by
  show ([61] : List UInt8).isPrefixOf _ = true
  rw [takeS_pre, ht]; rfl
 rw [hpf] at kp
 have kc := fun w1 (h1 : Rs p l sg d w1) => cutS_any p (nameS l).length l sg d w1 h1 (nameS_le l) hl
 rw [nameS_take] at kc
 have kt := fun w1 (h1 : Rs p (l.drop (nameS l).length) sg d w1) => (show Calls Tryz.prog 103 #[.pointer (some ⟨p, 0, none⟩), .string ⟨#[61]⟩] w1 fun e w' => e = .returned (.bool true) ∧ Rs p r sg d w' ∧ Mvd p w1 w' from takeS_yes p [61] _ r sg d w1 h1 (by rw [List.length_drop]; omega) ht)
 have hex := drop_extract l (nameS l).length
 have hsz := sizeS l
 have hle := nameS_le l
 clear hn ha hpf ht h
 generalize (⟨(l.drop (nameS l).length).toArray⟩ : ByteArray) = D at *
 generalize (⟨(nameS l).toArray⟩ : ByteArray) = W at *
 generalize l.drop (nameS l).length = R at *
 generalize (nameS l).length = n at *
 generalize (⟨l.toArray⟩ : ByteArray) = S at CEL hex hsz
 have hn0 : ((n : Int) == 0) = false := by rw [beq_eq_false_iff_ne]; omega
 have hn1 : (n : Int) ≤ (S.size : Int) := by omega
 have hn2 : (0 : Int) ≤ (n : Int) := by omega
 clear hsz hle h0
 go_enter Tryz.func142, Tryz.ntmps142
 go_wp2_with (first
  | (go_at_call 161; (with_reducible refine k1.mono ?_); rintro e w1 ⟨rfl, hb⟩; have d0 := CEL.out w1 hb; have HM := Lib.hid (MV.out w1 hb); clear hb)
  | (go_at_call 98; refine (kp _).mono ?_; rintro e w2 ⟨rfl, rfl⟩)
  | (go_at_call 162; (with_reducible refine (kc _ HM.out.1).mono ?_); rintro e w3 ⟨rfl, h2, m2⟩; have H2 := Lib.hid (And.intro h2 m2); clear h2 m2)
  | (go_at_call 103; (with_reducible refine (kt _ H2.out.1).mono ?_); rintro e w4 ⟨rfl, h3, m3⟩))
 refine bodyPost_ret (v := .tuple #[.string W, .bool true]) (by simp [results, Tryz.results142, go_sem]) rfl ⟨rfl, h3, (HM.out.2.trans H2.out.2).trans m3⟩
set_option maxHeartbeats 1000000 in
set_option maxRecDepth 20000 in
theorem mark_any (p : Nat) (mk l : List UInt8) (hmk : mk = [124] ∨ mk = [124, 124]) (sg : Value) (d : Nat) (w : World) (h : Rs p l sg d w) (hl : l.length ≤ 1048576) :
  Calls Tryz.prog 77 #[.pointer (some ⟨p, 0, none⟩), .string ⟨mk.toArray⟩] w fun e w' => e = .returned (.bool (markS mk l).isSome) ∧ Rs p (behindS mk l) sg d w' ∧ Mvd p w w' := by
 have k := gapS_any p l sg d w h hl
 have hgl := gapS_len l
 have kt1 := fun r w1 (h1 : Rs p (gapS l) sg d w1) (e : takeS mk (gapS l) = some r) => takeS_yes p mk (gapS l) r sg d w1 h1 (by omega) e
 have kt0 := fun w1 (h1 : Rs p (gapS l) sg d w1) (e : takeS mk (gapS l) = none) => takeS_no p mk (gapS l) sg d w1 h1 e
 have kp := fun w => Tryz.strings_HasPrefix ⟨(gapS l).toArray⟩ ⟨#[124, 124]⟩ w
 have hpf : hasPrefix (⟨(gapS l).toArray⟩ : ByteArray).data.toList (⟨#[124, 124]⟩ : ByteArray).data.toList = (takeS [124, 124] (gapS l)).isSome := takeS_pre _ _
 rw [hpf] at kp
 have CEL := Lib.hid (fun (w1 : World) (h1 : Rs p (gapS l) sg d w1) => h1.cell.1)
 have em : markS mk l = if mk = [124] ∧ (takeS [124, 124] (gapS l)).isSome = true then none else takeS mk (gapS l) := rfl
 have eb : behindS mk l = (markS mk l).getD (gapS l) := rfl
 obtain ⟨B, hB⟩ : ∃ B, B = behindS mk l := ⟨_, rfl⟩
 obtain ⟨M, hM⟩ : ∃ M, M = markS mk l := ⟨_, rfl⟩
 rw [← hB, ← hM] at eb
 rw [← hM] at em
 rw [← hB, ← hM]
 clear hB hM hpf h
 generalize gapS l = G at *
 obtain ⟨X, hX⟩ : ∃ X : ByteArray, X = ⟨G.toArray⟩ := ⟨_, rfl⟩
 rw [← hX] at kp CEL
 clear hX
 rcases hmk with rfl | rfl
 ·cases hs : (takeS [124, 124] G).isSome
  ·rw [hs] at kp em
   rw [if_neg (by simp)] at em
   cases ht : takeS [124] G with
   | none =>
    have kt := fun w1 h1 => kt0 w1 h1 ht
    rw [ht] at em
    subst em
    rw [Option.getD_none] at eb
    subst eb
    clear hs ht kt0 kt1
    go_enter Tryz.func77, Tryz.ntmps77
    go_wp2_with (first
     | (go_at_call 73; (with_reducible refine k.mono ?_); rintro e w1 ⟨rfl, h1, m1⟩; have d0 := CEL.out w1 h1; have H1 := Lib.hid (And.intro h1 m1); clear h1 m1)
     | (go_at_call 98; refine (kp _).mono ?_; rintro e w2 ⟨rfl, rfl⟩)
     | (go_at_call 103; (with_reducible refine (kt _ H1.out.1).mono ?_); rintro e w4 ⟨rfl, rfl⟩))
    exact bodyPost_ret (results_tmp rfl _ _ _) rfl ⟨rfl, H1.out⟩
   | some r =>
    have kt := fun w1 h1 => kt1 r w1 h1 ht
    rw [ht] at em
    subst em
    rw [Option.getD_some] at eb
    subst eb
    clear hs ht kt0 kt1
    go_enter Tryz.func77, Tryz.ntmps77
    go_wp2_with (first
     | (go_at_call 73; (with_reducible refine k.mono ?_); rintro e w1 ⟨rfl, h1, m1⟩; have d0 := CEL.out w1 h1; have H1 := Lib.hid (And.intro h1 m1); clear h1 m1)
     | (go_at_call 98; refine (kp _).mono ?_; rintro e w2 ⟨rfl, rfl⟩)
     | (go_at_call 103; (with_reducible refine (kt _ H1.out.1).mono ?_); rintro e w4 ⟨rfl, h3, m3⟩))
    exact bodyPost_ret (results_tmp rfl _ _ _) rfl ⟨rfl, h3, H1.out.2.trans m3⟩
  ·rw [hs] at kp em
   rw [if_pos ⟨rfl, rfl⟩] at em
   subst em
   rw [Option.getD_none] at eb
   subst eb
   clear hs kt0 kt1
   go_enter Tryz.func77, Tryz.ntmps77
   go_wp2_with (first
    | (go_at_call 73; (with_reducible refine k.mono ?_); rintro e w1 ⟨rfl, h1, m1⟩; have d0 := CEL.out w1 h1; have H1 := Lib.hid (And.intro h1 m1); clear h1 m1)
    | (go_at_call 98; refine (kp _).mono ?_; rintro e w2 ⟨rfl, rfl⟩))
   exact bodyPost_ret (results_tmp rfl _ _ _) rfl ⟨rfl, H1.out⟩
 ·rw [if_neg (by simp)] at em
  cases ht : takeS [124, 124] G with
  | none =>
   have kt := fun w1 h1 => kt0 w1 h1 ht
   rw [ht] at em
   subst em
   rw [Option.getD_none] at eb
   subst eb
   clear ht kt0 kt1
   go_enter Tryz.func77, Tryz.ntmps77
   go_wp2_with (first
    | (go_at_call 73; (with_reducible refine k.mono ?_); rintro e w1 ⟨rfl, h1, m1⟩; have d0 := CEL.out w1 h1; have H1 := Lib.hid (And.intro h1 m1); clear h1 m1)
    | (go_at_call 103; (with_reducible refine (kt _ H1.out.1).mono ?_); rintro e w4 ⟨rfl, rfl⟩))
   exact bodyPost_ret (results_tmp rfl _ _ _) rfl ⟨rfl, H1.out⟩
  | some r =>
   have kt := fun w1 h1 => kt1 r w1 h1 ht
   rw [ht] at em
   subst em
   rw [Option.getD_some] at eb
   subst eb
   clear ht kt0 kt1
   go_enter Tryz.func77, Tryz.ntmps77
   go_wp2_with (first
    | (go_at_call 73; (with_reducible refine k.mono ?_); rintro e w1 ⟨rfl, h1, m1⟩; have d0 := CEL.out w1 h1; have H1 := Lib.hid (And.intro h1 m1); clear h1 m1)
    | (go_at_call 103; (with_reducible refine (kt _ H1.out.1).mono ?_); rintro e w4 ⟨rfl, h3, m3⟩))
   exact bodyPost_ret (results_tmp rfl _ _ _) rfl ⟨rfl, h3, H1.out.2.trans m3⟩
def AnsT (p : Nat) (sg : Value) (d : Nat) (w : World) : Rr (List UInt8) → Ending → World → Prop
 | .ok s r, e, w' => e = .returned (.string ⟨s.toArray⟩) ∧ Rs p r sg d w' ∧ Mvd p w w'
 | .bad x, e, w' => e = errS x ∧ Mvd p w w'
theorem name_any (p : Nat) (l : List UInt8) (sg : Value) (d : Nat) (w : World) (h : Rs p l sg d w) (hl : l.length ≤ 1048576) :
  Calls Tryz.prog 140 #[.pointer (some ⟨p, 0, none⟩)] w (AnsT p sg d w (nameR l)) := by
 unfold nameR
 by_cases hn : nameS l = []
 ·rw [if_pos hn]; exact name_no p l sg d w h hl hn
 ·rw [if_neg hn]; exact name_yes p l sg d w h hl hn
set_option maxHeartbeats 1000000 in
set_option maxRecDepth 20000 in
theorem single_any (p : Nat) (l : List UInt8) (sg : Value) (d : Nat) (w : World) (h : Rs p l sg d w) (hl : l.length ≤ 1048576) :
  Calls Tryz.prog 164 #[.pointer (some ⟨p, 0, none⟩)] w (AnsT p sg d w (singleS l)) := by
 have ku := (show Calls Tryz.prog 101 #[.pointer (some ⟨p, 0, none⟩), .string ⟨#[39]⟩] w fun e w' => e = .returned (.int .i64 ((runS [39] l).length : Int)) ∧ Below w.heap.size w w' from untilS_any p [39] l sg d w h (by decide) hl)
 have hle := (run_past_len [39] l)
 have kc := fun w1 (hb : Below w.heap.size w w1) => cutS_any p (runS [39] l).length l sg d w1 (h.below hb) (by omega) hl
 rw [run_take, past_drop] at kc
 have hp := h.lt
 have MV := Lib.hid (fun w1 (hb : Below w.heap.size w w1) => Mvd.of hb hp)
 have kt1 := fun r w1 (h1 : Rs p (pastS [39] l) sg d w1) (e : takeS [39] (pastS [39] l) = some r) => (show Calls Tryz.prog 103 #[.pointer (some ⟨p, 0, none⟩), .string ⟨#[39]⟩] w1 fun e w' => e = .returned (.bool true) ∧ Rs p r sg d w' ∧ Mvd p w1 w' from takeS_yes p [39] _ r sg d w1 h1 (by omega) e)
 have kt0 := fun w1 (h1 : Rs p (pastS [39] l) sg d w1) (e : takeS [39] (pastS [39] l) = none) => (show Calls Tryz.prog 103 #[.pointer (some ⟨p, 0, none⟩), .string ⟨#[39]⟩] w1 fun e w' => e = .returned (.bool false) ∧ w' = w1 from takeS_no p [39] _ sg d w1 h1 e)
 have KC := Lib.hid kc
 clear kc h
 have es : singleS l = (needS [39] (pastS [39] l)).bind fun _ r => .ok (runS [39] l) r := rfl
 have en : needS [39] (pastS [39] l) = match takeS [39] (pastS [39] l) with
  | some r => .ok () r
  | none => .bad 9 := rfl
 rw [es, en]
 clear es en
 obtain ⟨X, hX⟩ : ∃ X : ByteArray, X = ⟨(runS [39] l).toArray⟩ := ⟨_, rfl⟩
 rw [← hX] at KC
 have HX := Lib.hid hX
 clear hX hle
 generalize (runS [39] l).length = n at *
 cases ht : takeS [39] (pastS [39] l) with
 | none =>
  have kt := fun w1 h1 => kt0 w1 h1 ht
  have k2 := need_no
  show Calls _ _ _ _ fun e w' => e = errS 9 ∧ Mvd p w w'
  unfold errS at k2 ⊢
  clear ht kt0 kt1
  go_enter Tryz.func164, Tryz.ntmps164
  go_wp2_with (first
   | (go_at_call 101; (with_reducible refine ku.mono ?_); rintro e w1 ⟨rfl, hb⟩; have kc := KC.out w1 hb; have HM := Lib.hid (MV.out w1 hb); clear hb)
   | (go_at_call 162; (with_reducible refine kc.mono ?_); rintro e w2 ⟨rfl, h2, m2⟩; have H2 := Lib.hid (And.intro h2 m2); clear h2 m2)
   | (go_at_call 103; (with_reducible refine (kt _ H2.out.1).mono ?_); rintro e w4 ⟨rfl, rfl⟩)
   | (go_at_call 30; refine (k2 _).mono ?_; rintro e w5 ⟨rfl, rfl⟩))
  exact ⟨rfl, rfl, HM.out.trans H2.out.2⟩
 | some r =>
  have kt := fun w1 h1 => kt1 r w1 h1 ht
  show Calls _ _ _ _ fun e w' => e = .returned (.string ⟨(runS [39] l).toArray⟩) ∧ Rs p r sg d w' ∧ Mvd p w w'
  rw [← HX.out]
  clear ht kt0 kt1
  go_enter Tryz.func164, Tryz.ntmps164
  go_wp2_with (first
   | (go_at_call 101; (with_reducible refine ku.mono ?_); rintro e w1 ⟨rfl, hb⟩; have kc := KC.out w1 hb; have HM := Lib.hid (MV.out w1 hb); clear hb)
   | (go_at_call 162; (with_reducible refine kc.mono ?_); rintro e w2 ⟨rfl, h2, m2⟩; have H2 := Lib.hid (And.intro h2 m2); clear h2 m2)
   | (go_at_call 103; (with_reducible refine (kt _ H2.out.1).mono ?_); rintro e w4 ⟨rfl, h3, m3⟩)
   | (go_at_call 30; refine (need_yes _).mono ?_; rintro e w5 ⟨rfl, rfl⟩))
  exact bodyPost_ret (results_tmp rfl _ _ _) rfl ⟨rfl, h3, (HM.out.trans H2.out.2).trans m3⟩
end Go.Proofs.YtelfgobjnibooaaGreatDoor
namespace Go.Proofs.YtelfgobjnibooaaGreatDoor
open Go.RowKit Go.Lib
theorem recS_head (o : Nat) (c : UInt8) (r : List UInt8) : recS o (c :: r) = if shQuote.contains c then none
  else if c = 40 then (recS (o + 1) r).map fun p => (c :: p.1, p.2)
  else if c = 41 then match o with
   | 0 => some ([], c :: r)
   | o + 1 => (recS o r).map fun p => (c :: p.1, p.2)
  else (recS o r).map fun p => (c :: p.1, p.2) := by cases o <;> rfl
def RecI (l : List UInt8) (i o : Nat) : Prop := i ≤ l.length ∧ o ≤ i ∧ recS 0 l = (recS o (l.drop i)).map fun p => (l.take i ++ p.1, p.2)
theorem recI_start (l : List UInt8) : RecI l 0 0 := ⟨Nat.zero_le _, Nat.le_refl _, by
 rw [List.drop_zero, List.take_zero]
 cases recS 0 l <;> rfl⟩
theorem drop_at {l : List UInt8} {i : Nat} {c : UInt8} (h : l[i]? = some c) : l.drop i = c :: l.drop (i + 1) ∧ l.take (i + 1) = l.take i ++ [c] := by
 obtain ⟨hi, hc⟩ := List.getElem?_eq_some_iff.1 h
 refine ⟨by rw [List.drop_eq_getElem_cons hi, hc], ?_⟩
 rw [List.take_add_one, h]; rfl
theorem recI_next {l : List UInt8} (i o o' : Nat) (c : UInt8) (h : RecI l i o) (hc : l[i]? = some c) (ho : o' ≤ i + 1) (hr : recS o (c :: l.drop (i + 1)) = (recS o' (l.drop (i + 1))).map fun p => (c :: p.1, p.2)) : RecI l (i + 1) o' := by
 obtain ⟨h1, h2, h3⟩ := h
 obtain ⟨e1, e2⟩ := drop_at hc
 obtain ⟨hi, _⟩ := List.getElem?_eq_some_iff.1 hc
 refine ⟨hi, ho, ?_⟩
 rw [h3, e1, hr, e2]
 cases recS o' (l.drop (i + 1)) with
 | none => rfl
 | some p =>
  show some (l.take i ++ (c :: p.1), p.2) = some (l.take i ++ [c] ++ p.1, p.2)
  rw [List.append_assoc]; rfl
theorem recI_end {l : List UInt8} (i o : Nat) (h : RecI l i o) (hi : l.length ≤ i) : reckS l = .bad 9 := by
 obtain ⟨h1, h2, h3⟩ := h
 rw [List.drop_of_length_le hi] at h3
 unfold reckS
 rw [h3]
 cases o <;> rfl
theorem recI_bad {l : List UInt8} (i o : Nat) (c : UInt8) (h : RecI l i o) (hc : l[i]? = some c) (hq : shQuote.contains c = true) : reckS l = .bad 9 := by
 obtain ⟨h1, h2, h3⟩ := h
 rw [(drop_at hc).1, recS_head, if_pos hq] at h3
 unfold reckS
 rw [h3]; rfl
theorem recI_shut {l : List UInt8} (i : Nat) (h : RecI l i 0) (hc : l[i]? = some 41) : reckS l = (needS [41, 41] (l.drop i)).bind fun _ r' => .ok (l.take i) r' := by
 obtain ⟨h1, h2, h3⟩ := h
 have e : recS 0 (l.drop i) = some ([], l.drop i) := by
  rw [(drop_at hc).1, recS_head, if_neg (by decide), if_neg (by decide), if_pos rfl]
 rw [e] at h3
 unfold reckS
 rw [h3]
 show (needS [41, 41] (l.drop i)).bind _ = _
 rw [List.append_nil]
set_option maxHeartbeats 4000000 in
set_option maxRecDepth 20000 in
theorem reckoned_any (p : Nat) (l : List UInt8) (sg : Value) (d : Nat) (w : World) (h : Rs p l sg d w) (hl : l.length ≤ 1048576) :
  Calls Tryz.prog 176 #[.pointer (some ⟨p, 0, none⟩)] w (AnsT p sg d w (reckS l)) := by
 obtain ⟨c1, f1⟩ := h.cell
 have BY := Lib.hid (fun (j : Nat) (c : UInt8) (hc : l[j]? = some c) (hh : j < (⟨l.toArray⟩ : ByteArray).size) => byteS (S := ⟨l.toArray⟩) rfl hh hc)
 have HGET := Lib.hid (fun j (hj : j < l.length) => (⟨_, List.getElem?_eq_getElem hj⟩ : ∃ c, l[j]? = some c))
 have hsz := sizeS l
 have H := Lib.hid h
 have HNEXT := Lib.hid (@recI_next l)
 have HBAD := Lib.hid (@recI_bad l)
 have HEND := Lib.hid (@recI_end l)
 have HSHUT := Lib.hid (@recI_shut l)
 have HST := Lib.hid (recI_start l)
 have KC := Lib.hid (fun (i : Nat) (hi : i ≤ l.length) => cutS_any p i l sg d w h hi hl)
 have KT1 := Lib.hid (fun (i : Nat) (r : List UInt8) w1 (h1 : Rs p (l.drop i) sg d w1) (e : takeS [41, 41] (l.drop i) = some r) => (show Calls Tryz.prog 103 #[.pointer (some ⟨p, 0, none⟩), .string ⟨#[41, 41]⟩] w1 fun e w' => e = .returned (.bool true) ∧ Rs p r sg d w' ∧ Mvd p w1 w' from takeS_yes p [41, 41] _ r sg d w1 h1 (by rw [List.length_drop]; omega) e))
 have KT0 := Lib.hid (fun (i : Nat) w1 (h1 : Rs p (l.drop i) sg d w1) (e : takeS [41, 41] (l.drop i) = none) => (show Calls Tryz.prog 103 #[.pointer (some ⟨p, 0, none⟩), .string ⟨#[41, 41]⟩] w1 fun e w' => e = .returned (.bool false) ∧ w' = w1 from takeS_no p [41, 41] _ sg d w1 h1 e))
 obtain ⟨S, hS⟩ : ∃ S : ByteArray, S = ⟨l.toArray⟩ := ⟨_, rfl⟩
 rw [← hS] at c1 BY hsz
 obtain ⟨n, hn⟩ : ∃ n, n = l.length := ⟨_, rfl⟩
 have HN := Lib.hid hn
 rw [← hn] at hsz hl HGET KC
 clear h hS hn
 have HSZ := Lib.hid hsz
 obtain ⟨R, hR⟩ : ∃ R, R = reckS l := ⟨_, rfl⟩
 rw [← hR] at HBAD HEND HSHUT ⊢
 clear hR
 have AT : Hid (∀ i o, Hid (RecI l i o) → i < n → Hid (o ≤ i)) := fun i o h _ => h.out.2.1
 go_enter Tryz.func176, Tryz.ntmps176
 go_wp2_with fail
 go_loopg [3, 11] n (fun g vo vi wr => wr = w ∧ ∃ i o : Nat, vi = .int .i64 (i : Int) ∧ vo = .int .i64 (o : Int) ∧ i + g = n ∧ Hid (RecI l i o))
 case atStart => exact ⟨rfl, 0, 0, rfl, rfl, by omega, HST.out⟩
 case round =>
  obtain ⟨rfl, i, o, rfl, rfl, hig, hI⟩ := hrel
  by_cases hlt : i < n
  ·obtain ⟨c, hc⟩ := HGET.out i hlt
   have hiS : i < S.size := by omega
   have hb := BY.out i c hc hiS
   have hltI : (i : Int) < (S.size : Int) := by omega
   have hoi : o ≤ i := hI.out.2.1
   cases gk with
   | zero => omega
   | succ g =>
    obtain ⟨z, hz⟩ : ∃ z : Int, (c.toNat : Int) = z := ⟨_, rfl⟩
    have hzS : (S[i].toNat : Int) = z := by rw [hb]; exact hz
    have hz0 : 0 ≤ z ∧ z ≤ 255 := by have := c.toNat_lt; omega
    have HC := Lib.hid hc
    by_cases hq : shQuote.contains c = true
    ·have hRb := HBAD.out i o c hI.out hc hq
     subst hRb
     have hqq : c = 39 ∨ c = 34 ∨ c = 36 ∨ c = 92 ∨ c = 96 := by
      have := List.contains_iff_mem.1 hq
      unfold shQuote at this
      simpa using this
     show Code.wp _ _ _ _ _
     unfold AnsT errS
     rcases hqq with rfl | rfl | rfl | rfl | rfl
     all_goals
      first
       | (obtain rfl : z = 39 := hz.symm)
       | (obtain rfl : z = 34 := hz.symm)
       | (obtain rfl : z = 36 := hz.symm)
       | (obtain rfl : z = 92 := hz.symm)
       | (obtain rfl : z = 96 := hz.symm)
      clear hq hz hb hc hI
      go_wp2
      exact ⟨rfl, rfl, Mvd.refl _ _⟩
    ·have hq' : shQuote.contains c = false := by simpa using hq
     have hqn : c ≠ 39 ∧ c ≠ 34 ∧ c ≠ 36 ∧ c ≠ 92 ∧ c ≠ 96 := by
      unfold shQuote at hq'
      simpa using hq'
     have hne : ∀ k : UInt8, c ≠ k → (z == (k.toNat : Int)) = false := fun k hk => by
      rw [beq_eq_false_iff_ne, ← hz]
      intro e
      exact hk (UInt8.toNat_inj.1 (by omega))
     have n39 : (z == 39) = false := hne 39 hqn.1
     have n34 : (z == 34) = false := hne 34 hqn.2.1
     have n36 : (z == 36) = false := hne 36 hqn.2.2.1
     have n92 : (z == 92) = false := hne 92 hqn.2.2.2.1
     have n96 : (z == 96) = false := hne 96 hqn.2.2.2.2
     have hrh := recS_head o c (l.drop (i + 1))
     rw [if_neg hq] at hrh
     have hwi : IntKind.i64.wrap ((i : Int) + 1) = (i : Int) + 1 := wrap_small _ (by omega) (by omega)
     have hwo : IntKind.i64.wrap ((o : Int) + 1) = (o : Int) + 1 := wrap_small _ (by omega) (by omega)
     by_cases h40 : c = 40
     ·rw [if_pos h40] at hrh
      have HN2 := Lib.hid (HNEXT.out i o (o + 1) c hI.out hc (by omega) hrh)
      subst h40
      obtain rfl : z = 40 := hz.symm
      clear hq hq' hqn hne hrh hz hb hc hI hz0 HC
      go_wp2
      go_roundg g
      case measure => omega
      case rel => exact ⟨rfl, i + 1, o + 1, by go_num, by go_num, by omega, HN2.out⟩
     ·rw [if_neg h40] at hrh
      have n40 : (z == 40) = false := hne 40 h40
      by_cases h41 : c = 41
      ·rw [if_pos h41] at hrh
       subst h41
       obtain rfl : z = 41 := hz.symm
       cases o with
       | zero =>
        have hR2 := HSHUT.out i hI.out hc
        have kc := KC.out i (Nat.le_of_lt hlt)
        clear hq hq' hqn hne hrh hz hb hc hI hz0 HC
        have en : needS [41, 41] (l.drop i) = match takeS [41, 41] (l.drop i) with
         | some r => .ok () r
         | none => .bad 9 := rfl
        rw [en] at hR2
        obtain ⟨X, hX⟩ : ∃ X : ByteArray, X = ⟨(l.take i).toArray⟩ := ⟨_, rfl⟩
        rw [← hX] at kc
        have HX := Lib.hid hX
        clear hX en
        cases ht : takeS [41, 41] (l.drop i) with
        | none =>
         rw [ht] at hR2
         have hR3 : R = .bad 9 := hR2
         have kt := fun w1 h1 => KT0.out i w1 h1 ht
         have k2 := need_no
         subst hR3
         unfold AnsT
         unfold errS at k2 ⊢
         clear ht hR2
         go_wp2_with (first
          | (go_at_call 162; (with_reducible refine kc.mono ?_); rintro e w2 ⟨rfl, h2, m2⟩; have H2 := Lib.hid (And.intro h2 m2); clear h2 m2)
          | (go_at_call 103; (with_reducible refine (kt _ H2.out.1).mono ?_); rintro e w4 ⟨rfl, rfl⟩)
          | (go_at_call 30; refine (k2 _).mono ?_; rintro e w5 ⟨rfl, rfl⟩))
         exact ⟨rfl, rfl, H2.out.2⟩
        | some r =>
         rw [ht] at hR2
         have hR3 : R = .ok (l.take i) r := hR2
         have kt := fun w1 h1 => KT1.out i r w1 h1 ht
         subst hR3
         unfold AnsT
         clear ht hR2
         go_wp2_with (first
          | (go_at_call 162; (with_reducible refine kc.mono ?_); rintro e w2 ⟨rfl, h2, m2⟩; have H2 := Lib.hid (And.intro h2 m2); clear h2 m2)
          | (go_at_call 103; (with_reducible refine (kt _ H2.out.1).mono ?_); rintro e w4 ⟨rfl, h3, m3⟩)
          | (go_at_call 30; refine (need_yes _).mono ?_; rintro e w5 ⟨rfl, rfl⟩))
         exact bodyPost_ret (results_tmp rfl _ _ _) rfl ⟨by rw [← HX.out]; rfl, h3, H2.out.2.trans m3⟩
       | succ o =>
        have HN2 := Lib.hid (HNEXT.out i (o + 1) o 41 hI.out hc (by omega) hrh)
        have ho : ((o + 1 : Nat) : Int) = (o : Int) + 1 := by omega
        have ho0 : (((o : Int) + 1) == 0) = false := by rw [beq_eq_false_iff_ne]; omega
        have hw2 : IntKind.i64.wrap ((o : Int) + 1 - 1) = (o : Int) := by rw [show (o : Int) + 1 - 1 = (o : Int) by omega]; exact wrap_small _ (by omega) (by omega)
        clear hq hq' hqn hne hrh hz hb hc hI hz0 HC hwo
        rw [ho]
        clear ho
        go_wp2
        go_roundg g
        case measure => omega
        case rel => exact ⟨rfl, i + 1, o, by go_num, by go_num, by omega, HN2.out⟩
      ·rw [if_neg h41] at hrh
       have n41 : (z == 41) = false := hne 41 h41
       have HN2 := Lib.hid (HNEXT.out i o o c hI.out hc (by omega) hrh)
       clear hq hq' hqn hne hrh hz hb hc hI hz0 HC h40 h41
       go_wp2
       go_roundg g
       case measure => omega
       case rel => exact ⟨rfl, i + 1, o, by go_num, rfl, by omega, HN2.out⟩
  ·have hge : ¬ (i : Int) < (S.size : Int) := by omega
   have hRb := HEND.out i o hI.out (by rw [← HN.out]; omega)
   subst hRb
   unfold AnsT errS
   clear hlt hI
   go_wp2
   exact ⟨rfl, rfl, Mvd.refl _ _⟩
end Go.Proofs.YtelfgobjnibooaaGreatDoor
