/- Packed texts: SeLabel, SeLetter, SeLetP, SeLetB, SeLetT, SeLetC. What each of them proves stands above its theorems; the conditions stand in these. -/
import Derived.Test.YtkgpnlldlekcbaaGreatDoorX0
import Derived.Test.YtkgpnlldlekcbaaGreatDoorX21
import Derived.Test.YtkgpnlldlekcbaaGreatDoorX23
namespace Go.Proofs.YtkgpnlldlekcbaaGreatDoor
open Go.RowKit Go.Lib

/-- What label does. -/
def LabE (p : Nat) (l : List UInt8) (w : World) (e : Ending) (w' : World) : Prop := match labP l with
  | .ok y r => e = .returned (.string ⟨y.toArray⟩) ∧ Rd p r w' ∧ Moved p w w'
  | .bad x => e = errV x ∧ Below p w w'
theorem rest_tw : ∀ (l : List UInt8) (k : Nat), (l.take k).all restOk = true → k ≤ l.length → (k = l.length ∨ ∃ c, l[k]? = some c ∧ restOk c = false) → l.takeWhile restOk = l.take k ∧ l.dropWhile restOk = l.drop k
  | [], k, _, hk, _ => by
    have : k = 0 := by simpa using hk
    subst this; exact ⟨rfl, rfl⟩
  | d :: l, 0, _, _, h => by
    rcases h with h | ⟨c, hc, h⟩
    · simp at h
    · cases hc
      simp [List.takeWhile, List.dropWhile, h]
  | d :: l, k + 1, ha, hk, h => by
    simp only [List.take_succ_cons, List.all_cons, Bool.and_eq_true] at ha
    have := rest_tw l k ha.2 (by simpa using hk) (by
      rcases h with h | ⟨c, hc, h⟩
      · left; simpa using h
      · right; exact ⟨c, by simpa using hc, h⟩)
    simp [List.takeWhile, List.dropWhile, ha.1, this.1, this.2]
theorem lab_stop {l : List UInt8} {k : Nat} (h : namePre (l.take k) = true) (hk : k ≤ l.length) (he : k = l.length ∨ ∃ c, l[k]? = some c ∧ nameOk k c = false) : labP l = if k = 0 then .bad 9 else .ok (l.take k) (l.drop k) := by
  cases l with
  | nil =>
    have : k = 0 := by simpa using hk
    subst this; rfl
  | cons d l =>
    cases k with
    | zero =>
      rcases he with he | ⟨c, hc, he⟩
      · simp at he
      · cases hc
        have hd : isLet d = false := by
          unfold nameOk at he
          simpa using he
        unfold labP
        dsimp only
        rw [hd]
        rfl
    | succ k =>
      have hd : isLet d = true ∧ (l.take k).all restOk = true := by
        have : (isLet d && (l.take k).all restOk) = true := h
        simpa using this
      obtain ⟨h1, h2⟩ := rest_tw l k hd.2 (by simpa using hk) (by
        rcases he with he | ⟨c, hc, he⟩
        · left; simpa using he
        · right
          refine ⟨c, by simpa using hc, ?_⟩
          unfold nameOk at he
          unfold restOk
          simpa using he)
      unfold labP
      dsimp only
      rw [if_pos hd.1, h1, h2, if_neg (by simp)]
      rfl
def aheadB (k : Nat) : ByteArray := if k = 0 then ⟨#[]⟩ else ⟨#[95]⟩
theorem ahead_name (k : Nat) (c : UInt8) (T : ByteArray) (hT : T = ⟨#[c]⟩) : isNameB (aheadB k ++ T).data.toList = nameOk k c := by
  subst hT
  unfold aheadB nameOk
  by_cases h : k = 0
  · rw [if_pos h]
    subst h
    simp [isNameB, namePre]
  · rw [if_neg h]
    have : 0 < k := by omega
    have h95 : isLet 95 = true := by decide
    simp [isNameB, namePre, this, restOk, h95]
theorem extract_one (S : ByteArray) (k : Nat) (h : k < S.size) : S.extract k (k + 1) = ⟨#[S[k]]⟩ := by
  apply ByteArray.ext
  rw [ByteArray.data_extract]
  apply Array.ext'
  have h' : k < S.data.toList.length := by rw [Array.length_toList]; exact h
  simp only [Array.toList_extract, List.extract_eq_drop_take']
  have e : S.data.toList.drop k = S[k] :: S.data.toList.drop (k + 1) := by
    rw [List.drop_eq_getElem_cons h']; rfl
  rw [List.drop_take, e]
  simp

set_option maxHeartbeats 40000000 in
set_option maxRecDepth 20000 in
theorem label_any (p : Nat) (l : List UInt8) (w : World) (h : Rd p l w) (hl : l.length ≤ 70000000000) :
    Calls Tryz.prog 129 #[.pointer (some ⟨p, 0, none⟩)] w (LabE p l w) := by
  obtain ⟨S, hS⟩ : ∃ S : ByteArray, S = ⟨l.toArray⟩ := ⟨_, rfl⟩
  have hz : S.size = l.length := by rw [hS]; simp [ByteArray.size]
  have hget : ∀ (k : Nat) (h : k < S.size), l[k]? = some S[k] := fun k hk => by
    subst hS
    rw [List.getElem?_eq_getElem (by rw [← hz]; exact hk)]
    rfl
  have HG := Lib.hid hget
  have HS := Lib.hid hS
  have HR := Lib.hid h
  have HZ := Lib.hid hz
  clear hget h hS
  have hs : S.size ≤ 70000000000 := by omega
  clear hz
  go_enter Tryz.func129, Tryz.ntmps129
  go_wp2
  go_loopw [3, 4] (fun i a wr => ∃ k : Nat, k ≤ S.size ∧ i = .int .i64 k ∧ a = .string (aheadB k) ∧ Hid (namePre (l.take k) = true) ∧ Hid (Below w.heap.size w wr)) (fun i _ _ => S.size + 1 - (RowKit.intOf i).toNat)
  case atStart => exact ⟨0, Nat.zero_le _, rfl, rfl, rfl, Below.refl _ _⟩
  case round =>
    obtain ⟨k, hk, rfl, rfl, HI, HW⟩ := hrel
    have hr2 := HR.out.below HW.out
    obtain ⟨c1, f1⟩ := hr2.cell
    rw [← HS.out] at c1
    have HR2 := Lib.hid hr2
    clear hr2
    by_cases hlt : k < S.size
    · have HC := Lib.hid (HG.out k hlt)
      have he := extract_one S k hlt
      obtain ⟨c, hc⟩ : ∃ c, S[k] = c := ⟨_, rfl⟩
      rw [hc] at HC he
      have hn := ahead_name k c _ he
      have hA : (aheadB k).size ≤ 1 := by unfold aheadB; split <;> decide
      have kn := fun w => isName_any (aheadB k ++ S.extract k (k + 1)) w (by rw [ByteArray.size_append, he]; show (aheadB k).size + 1 ≤ _; omega)
      rw [hn] at kn
      have hX : (S.extract k (k + 1)).size = 1 := by rw [he]; rfl
      have HT := Lib.hid (take_snocL l k c HC.out)
      clear he hn
      generalize aheadB k = A at kn hA ⊢
      cases hq : nameOk k c with
      | true =>
        rw [hq] at kn
        have HQ := Lib.hid hq
        clear hq
        go_wp2_with (go_at_call 143; refine (kn _).mono ?_; rintro e w1 ⟨rfl, hb1⟩)
        go_round
        case rel =>
          refine ⟨k + 1, by omega, by go_num, by unfold aheadB; rw [if_neg (by omega)], ?_, HW.out.trans (hb1.mono HW.out.size)⟩
          show namePre (l.take (k + 1)) = true
          rw [HT.out, namePre_snoc, HI.out, List.length_take, Nat.min_eq_left (by have := HZ.out; omega), HQ.out]; rfl
        case measure => simp [RowKit.intOf]; omega
      | false =>
        rw [hq] at kn
        have HN := Lib.hid (lab_stop HI.out (by have := HZ.out; omega) (.inr ⟨c, HC.out, hq⟩))
        clear hq
        by_cases h0 : k = 0
        · subst h0
          have h3 : LabE p l w = fun e w' => e = errV 9 ∧ Below p w w' := by
            funext e w'; unfold LabE; rw [HN.out]; rfl
          rw [h3]
          clear h3
          unfold errV
          go_wp2_with (go_at_call 143; refine (kn _).mono ?_; rintro e w1 ⟨rfl, hb1⟩)
          refine ⟨rfl, ?_⟩
          show LabE p l w _ _
          unfold LabE
          rw [HN.out]
          exact ⟨rfl, (HW.out.trans (hb1.mono HW.out.size)).mono (Nat.le_of_lt HR.out.lt)⟩
        · have e0 : ((k : Int) == 0) = false := by rw [beq_eq_false_iff_ne]; omega
          have h3 : LabE p l w = fun e w' => e = .returned (.string ⟨(l.take k).toArray⟩) ∧ Rd p (l.drop k) w' ∧ Moved p w w' := by
            funext e w'; unfold LabE; rw [HN.out, if_neg h0]
          rw [h3]
          clear h3
          go_wp2_with (go_at_call 143; refine (kn _).mono ?_; rintro e w1 ⟨rfl, hb1⟩; have hr3 := HR2.out.below hb1; obtain ⟨c2, f2⟩ := hr3.cell; rw [← HS.out] at c2; have HR3 := Lib.hid hr3; clear hr3)
          refine bodyPost_ret (results_tmp rfl _ _ _) rfl ?_
          show LabE p l w _ _
          unfold LabE
          have h1 : S.extract 0 k = ⟨(l.take k).toArray⟩ := by rw [HS.out]; exact extract_to l k
          have h2 : S.extract k S.size = ⟨(l.drop k).toArray⟩ := by
            have := HZ.out
            rw [HS.out]
            exact extract_from l k _ (by show l.length ≤ l.toArray.size; rw [List.size_toArray]; exact Nat.le_refl _)
          rw [HN.out, if_neg h0, h1, h2]
          exact ⟨rfl, HR3.out.put _, (Moved.of HW.out HR.out.lt).trans ((Moved.of hb1 HR2.out.lt).trans (.set _ _ _ _))⟩
    · have hke : k = S.size := by omega
      have HN := Lib.hid (lab_stop HI.out (by have := HZ.out; omega) (.inl (by rw [hke]; exact HZ.out)))
      clear hke
      by_cases h0 : k = 0
      · subst h0
        have h3 : LabE p l w = fun e w' => e = errV 9 ∧ Below p w w' := by
          funext e w'; unfold LabE; rw [HN.out]; rfl
        rw [h3]
        clear h3
        unfold errV
        go_wp2
        refine ⟨rfl, ?_⟩
        show LabE p l w _ _
        unfold LabE
        rw [HN.out]
        exact ⟨rfl, HW.out.mono (Nat.le_of_lt HR.out.lt)⟩
      · have e0 : ((k : Int) == 0) = false := by rw [beq_eq_false_iff_ne]; omega
        have h3 : LabE p l w = fun e w' => e = .returned (.string ⟨(l.take k).toArray⟩) ∧ Rd p (l.drop k) w' ∧ Moved p w w' := by
          funext e w'; unfold LabE; rw [HN.out, if_neg h0]
        rw [h3]
        clear h3
        go_wp2
        refine bodyPost_ret (results_tmp rfl _ _ _) rfl ?_
        show LabE p l w _ _
        unfold LabE
        have h1 : S.extract 0 k = ⟨(l.take k).toArray⟩ := by rw [HS.out]; exact extract_to l k
        have h2 : S.extract k S.size = ⟨(l.drop k).toArray⟩ := by
          have := HZ.out
          rw [HS.out]
          exact extract_from l k _ (by show l.length ≤ l.toArray.size; rw [List.size_toArray]; exact Nat.le_refl _)
        rw [HN.out, if_neg h0, h1, h2]
        exact ⟨rfl, HR2.out.put _, (Moved.of HW.out HR.out.lt).trans (.set _ _ _ _)⟩
end Go.Proofs.YtkgpnlldlekcbaaGreatDoor
namespace Go.Proofs.YtkgpnlldlekcbaaGreatDoor
open Go.RowKit Go.Lib

/-- A command's slices: its expression, its replacement. -/
def ReS (B : Nat) (o : Option Tr) (v : Value) (w : World) : Prop := match o with
  | some t => IsRow B (t.row 0) v w
  | none => v = .slice none 0 0
def PutS (B : Nat) (ys : List (List UInt8)) (v : Value) (w : World) : Prop := w.ownsRow B 9 1 v ys.length (strC (ys.map mkB))
/-- Behind the letter. -/
theorem let_after {p q : Nat} {c : UInt8} {l : List UInt8} {S : ByteArray} {o : Value} {xs : List Value} {w : World} (hpq : p < q) (h : Rd p (c :: l) w) (hq : Cq q (o :: xs) w) (hS : S = ⟨(c :: l).toArray⟩) (n : Nat) (hn : n = l.length + 1) :
    let W := ((w.setCell ⟨q, 0, none⟩ (.int .u8 (c.toNat : Int))).setCell ⟨p, 0, none⟩ (.string (S.extract 1 n))).drew
    Rd p l W ∧ Cq q (.int .u8 (c.toNat : Int) :: xs) W ∧ Moved2 p q w W := by
  subst hS
  subst hn
  have he : (⟨(c :: l).toArray⟩ : ByteArray).extract 1 (l.length + 1) = ⟨l.toArray⟩ := extract_from (c :: l) 1 (l.length + 1) (by simp)
  rw [he]
  have h1 := h.moved2 (q := q) (by omega) 0 (.int .u8 (c.toNat : Int))
  have h2 := hq.put 0 (.int .u8 (c.toNat : Int))
  refine ⟨h1.put l, (Below.heap_setCell _ _ _ _ (show q ≠ p by omega)).trans h2, ?_⟩
  have h3 := (Moved2.set p q 0 (.int .u8 (c.toNat : Int)) w (Nat.le_of_lt hpq)).trans ((Moved.set p 0 (.string ⟨l.toArray⟩) _).two q)
  exact ⟨h3.low.drew, h3.high⟩
theorem owns_moved2 {w w' : World} {B n size p q : Nat} {e : TypeId} {v : Value} {xs : List Value} (h : w.ownsRow B e size v n xs) (hp : p < B) (hq : q < B) (hm : Moved2 p q w w') : w'.ownsRow B e size v n xs := owns_same h fun g hg => by
  have h1 := own_block_lt h hg
  rcases h.2 with ⟨hv, _⟩ | ⟨g', _, _, hv, hB, _⟩
  · rw [hv] at hg; cases hg
  · rw [hv] at hg; cases hg; exact hm.high _ (by show g' ≠ p; omega) (by show g' ≠ q; omega) h1
theorem Cq.moved2 {p q : Nat} {l : List Value} {w w' : World} (h : Cq q l w) (hpq : q ≠ p) (hm : Moved p w w') : Cq q l w' := h.moved hpq hm
theorem ne_byte {c d : UInt8} (h : c ≠ d) : ((c.toNat : Int) == (d.toNat : Int)) = false := ne_int h
end Go.Proofs.YtkgpnlldlekcbaaGreatDoor
namespace Go.Proofs.YtkgpnlldlekcbaaGreatDoor
open Go.RowKit Go.Lib
set_option maxHeartbeats 8000000 in
set_option maxRecDepth 20000 in
theorem let_plain (p q : Nat) (c : UInt8) (l : List UInt8) (x1 x2 x3 x4 x5 x6 x7 x8 x9 x12 : Value) (w : World) (hpq : p < q) (h : Rd p (c :: l) w) (hq : Cq q [.int .u8 0, x1, x2, x3, x4, x5, x6, x7, x8, x9, .bool false, .bool false, x12] w) (hl : l.length ≤ 1000000000) (h115 : c ≠ 115) (h98 : c ≠ 98) (h116 : c ≠ 116) (h58 : c ≠ 58) (k : ∀ w, Calls Tryz.prog 130 #[.int .u8 (c.toNat : Int)] w fun e w' => e = .returned (.bool true) ∧ w' = w) :
    Calls Tryz.prog 106 #[.pointer (some ⟨p, 0, none⟩), .pointer (some ⟨q, 0, none⟩)] w fun e w' => e = .returned (.tuple #[]) ∧ Rd p l w' ∧ Cq q [.int .u8 (c.toNat : Int), x1, x2, x3, x4, x5, x6, x7, x8, x9, .bool false, .bool false, x12] w' ∧ Moved2 p q w w' := by
  obtain ⟨c1, f1⟩ := h.cell
  obtain ⟨d1, e1⟩ := hq.cell 0 rfl
  obtain ⟨S, hS⟩ : ∃ S : ByteArray, S = ⟨(c :: l).toArray⟩ := ⟨_, rfl⟩
  have hAf := let_after hpq h hq hS
  rw [← hS] at c1
  have hE : S.toList.isEmpty = false := by rw [hS]; exact list_full c l
  have hz : S.size = l.length + 1 := by rw [hS]; simp [ByteArray.size]
  have hs : 0 < S.size := by omega
  have hb : S[0] = c := byte0 (r := l) (by rw [hS]) hs
  have hle : (1 : Int) ≤ (l.length : Int) + 1 := by omega
  have HAf := Lib.hid hAf
  clear hS hAf
  clear h hq
  have e115 : ((c.toNat : Int) == 115) = false := ne_byte (d := 115) h115
  have e98 : ((c.toNat : Int) == 98) = false := ne_byte (d := 98) h98
  have e116 : ((c.toNat : Int) == 116) = false := ne_byte (d := 116) h116
  have e58 : ((c.toNat : Int) == 58) = false := ne_byte (d := 58) h58
  go_enter Tryz.func106, Tryz.ntmps106
  go_wp2_with fail
  go_region_law (fail)
  all_goals
    have hA := HAf.out _ rfl
    generalize ((w.setCell ⟨q, 0, none⟩ (.int .u8 (c.toNat : Int))).setCell ⟨p, 0, none⟩ (.string (S.extract 1 (l.length + 1)))).drew = W at hA ⊢
    obtain ⟨hr, hc, hm⟩ := hA
    obtain ⟨g0, _⟩ := hc.cell 0 rfl
    have HM := Lib.hid hm
    clear hm
    go_wp2_with (first | (go_at_call 130; refine (k _).mono ?_; rintro e w1 ⟨rfl, rfl⟩))
    go_end0
    exact ⟨rfl, hr, hc, HM.out⟩

set_option maxHeartbeats 8000000 in
set_option maxRecDepth 20000 in
theorem let_odd (p q : Nat) (c : UInt8) (l : List UInt8) (x1 x2 x3 x4 x5 x6 x7 x8 x9 x12 : Value) (w : World) (hpq : p < q) (h : Rd p (c :: l) w) (hq : Cq q [.int .u8 0, x1, x2, x3, x4, x5, x6, x7, x8, x9, .bool false, .bool false, x12] w) (hl : l.length ≤ 1000000000) (h115 : c ≠ 115) (h98 : c ≠ 98) (h116 : c ≠ 116) (h58 : c ≠ 58) (k : ∀ w, Calls Tryz.prog 130 #[.int .u8 (c.toNat : Int)] w fun e w' => e = .returned (.bool false) ∧ w' = w) :
    Calls Tryz.prog 106 #[.pointer (some ⟨p, 0, none⟩), .pointer (some ⟨q, 0, none⟩)] w fun e w' => e = errV 9 ∧ Below p w w' := by
  unfold errV
  obtain ⟨c1, f1⟩ := h.cell
  obtain ⟨d1, e1⟩ := hq.cell 0 rfl
  obtain ⟨S, hS⟩ : ∃ S : ByteArray, S = ⟨(c :: l).toArray⟩ := ⟨_, rfl⟩
  have hAf := let_after hpq h hq hS
  rw [← hS] at c1
  have hE : S.toList.isEmpty = false := by rw [hS]; exact list_full c l
  have hz : S.size = l.length + 1 := by rw [hS]; simp [ByteArray.size]
  have hs : 0 < S.size := by omega
  have hb : S[0] = c := byte0 (r := l) (by rw [hS]) hs
  have hle : (1 : Int) ≤ (l.length : Int) + 1 := by omega
  have HAf := Lib.hid hAf
  clear hS hAf
  clear h hq
  have e115 : ((c.toNat : Int) == 115) = false := ne_byte (d := 115) h115
  have e98 : ((c.toNat : Int) == 98) = false := ne_byte (d := 98) h98
  have e116 : ((c.toNat : Int) == 116) = false := ne_byte (d := 116) h116
  have e58 : ((c.toNat : Int) == 58) = false := ne_byte (d := 58) h58
  go_enter Tryz.func106, Tryz.ntmps106
  go_wp2_with fail
  go_region_law (fail)
  all_goals
    have hA := HAf.out _ rfl
    generalize ((w.setCell ⟨q, 0, none⟩ (.int .u8 (c.toNat : Int))).setCell ⟨p, 0, none⟩ (.string (S.extract 1 (l.length + 1)))).drew = W at hA ⊢
    obtain ⟨hr, hc, hm⟩ := hA
    obtain ⟨g0, _⟩ := hc.cell 0 rfl
    have HM := Lib.hid hm
    clear hm
    go_wp2_with (first | (go_at_call 130; refine (k _).mono ?_; rintro e w1 ⟨rfl, rfl⟩))
    exact ⟨rfl, rfl, HM.out.low⟩
end Go.Proofs.YtkgpnlldlekcbaaGreatDoor
namespace Go.Proofs.YtkgpnlldlekcbaaGreatDoor
open Go.RowKit Go.Lib
set_option maxHeartbeats 8000000 in
set_option maxRecDepth 20000 in
theorem let_b_bare (p q : Nat) (c : UInt8) (l : List UInt8) (x1 x2 x3 x4 x5 x6 x7 x8 x9 x12 : Value) (w : World) (hpq : p < q) (h : Rd p (c :: l) w) (hq : Cq q [.int .u8 0, x1, x2, x3, x4, x5, x6, x7, x8, x9, .bool false, .bool false, x12] w) (hl : l.length ≤ 1000000000) (hc0 : c = 98) (he : endedB (blk l) = true) :
    Calls Tryz.prog 106 #[.pointer (some ⟨p, 0, none⟩), .pointer (some ⟨q, 0, none⟩)] w fun e w' => e = .returned (.tuple #[]) ∧ Rd p (blk l) w' ∧ Cq q [.int .u8 (c.toNat : Int), x1, x2, x3, x4, x5, x6, x7, x8, x9, .bool false, .bool false, x12] w' ∧ Moved2 p q w w' := by
  obtain ⟨c1, f1⟩ := h.cell
  obtain ⟨d1, e1⟩ := hq.cell 0 rfl
  obtain ⟨S, hS⟩ : ∃ S : ByteArray, S = ⟨(c :: l).toArray⟩ := ⟨_, rfl⟩
  have hAf := let_after hpq h hq hS
  rw [← hS] at c1
  have hE : S.toList.isEmpty = false := by rw [hS]; exact list_full c l
  have hz : S.size = l.length + 1 := by rw [hS]; simp [ByteArray.size]
  have hs : 0 < S.size := by omega
  have hb : S[0] = c := byte0 (r := l) (by rw [hS]) hs
  have hle : (1 : Int) ≤ (l.length : Int) + 1 := by omega
  have HAf := Lib.hid hAf
  clear hS hAf
  clear h hq
  have e115 : ((c.toNat : Int) == 115) = false := by rw [hc0]; rfl
  have e98 : ((c.toNat : Int) == 98) = true := by rw [hc0]; rfl
  have e116 : ((c.toNat : Int) == 116) = false := by rw [hc0]; rfl
  have e58 : ((c.toNat : Int) == 58) = false := by rw [hc0]; rfl
  clear hc0
  go_enter Tryz.func106, Tryz.ntmps106
  go_wp2_with fail
  go_region_law (fail)
  all_goals
    have hA := HAf.out _ rfl
    generalize ((w.setCell ⟨q, 0, none⟩ (.int .u8 (c.toNat : Int))).setCell ⟨p, 0, none⟩ (.string (S.extract 1 (l.length + 1)))).drew = W at hA ⊢
    obtain ⟨hr, hc, hm⟩ := hA
    obtain ⟨g0, _⟩ := hc.cell 0 rfl
    have HM := Lib.hid hm
    clear hm
    go_wp2_with (first | (go_at_call 105; refine (blanks_any p l _ hr).mono ?_; rintro e w1 ⟨rfl, r1, m1⟩; have hc1 := hc.moved (by omega) m1; obtain ⟨i0, _⟩ := hc1.cell 0 rfl; have HC1 := Lib.hid (And.intro r1 (And.intro hc1 (HM.out.trans (m1.two q)))); have hr1 := r1; clear hc1 m1 r1) | (go_at_call 107; refine (ended_any p (blk l) _ hr1).mono ?_; rintro e w2 ⟨rfl, rfl⟩))
    first | go_end0 | exact bodyPost_ret (results_none rfl _ _ _) rfl ⟨rfl, HC1.out.1, HC1.out.2.1, HC1.out.2.2⟩
    try exact ⟨rfl, HC1.out.1, HC1.out.2.1, HC1.out.2.2⟩

set_option maxHeartbeats 8000000 in
set_option maxRecDepth 20000 in
theorem let_b_lab (p q : Nat) (c : UInt8) (l : List UInt8) (x1 x2 x3 x4 x5 x6 x7 x8 x9 x12 : Value) (w : World) (hpq : p < q) (h : Rd p (c :: l) w) (hq : Cq q [.int .u8 0, x1, x2, x3, x4, x5, x6, x7, x8, x9, .bool false, .bool false, x12] w) (hl : l.length ≤ 1000000000) (hc0 : c = 98) (he : endedB (blk l) = false) (r : List UInt8) (Y : ByteArray) (k : ∀ w1, Rd p (blk l) w1 → Calls Tryz.prog 129 #[.pointer (some ⟨p, 0, none⟩)] w1 fun e w' => e = .returned (.string Y) ∧ Rd p r w' ∧ Moved p w1 w') :
    Calls Tryz.prog 106 #[.pointer (some ⟨p, 0, none⟩), .pointer (some ⟨q, 0, none⟩)] w fun e w' => e = .returned (.tuple #[]) ∧ Rd p r w' ∧ Cq q [.int .u8 (c.toNat : Int), x1, x2, x3, x4, x5, x6, x7, x8, x9, .bool false, .bool false, .string Y] w' ∧ Moved2 p q w w' := by
  obtain ⟨c1, f1⟩ := h.cell
  obtain ⟨d1, e1⟩ := hq.cell 0 rfl
  obtain ⟨S, hS⟩ : ∃ S : ByteArray, S = ⟨(c :: l).toArray⟩ := ⟨_, rfl⟩
  have hAf := let_after hpq h hq hS
  rw [← hS] at c1
  have hE : S.toList.isEmpty = false := by rw [hS]; exact list_full c l
  have hz : S.size = l.length + 1 := by rw [hS]; simp [ByteArray.size]
  have hs : 0 < S.size := by omega
  have hb : S[0] = c := byte0 (r := l) (by rw [hS]) hs
  have hle : (1 : Int) ≤ (l.length : Int) + 1 := by omega
  have HAf := Lib.hid hAf
  clear hS hAf
  clear h hq
  have e115 : ((c.toNat : Int) == 115) = false := by rw [hc0]; rfl
  have e98 : ((c.toNat : Int) == 98) = true := by rw [hc0]; rfl
  have e116 : ((c.toNat : Int) == 116) = false := by rw [hc0]; rfl
  have e58 : ((c.toNat : Int) == 58) = false := by rw [hc0]; rfl
  clear hc0
  go_enter Tryz.func106, Tryz.ntmps106
  go_wp2_with fail
  go_region_law (fail)
  all_goals
    have hA := HAf.out _ rfl
    generalize ((w.setCell ⟨q, 0, none⟩ (.int .u8 (c.toNat : Int))).setCell ⟨p, 0, none⟩ (.string (S.extract 1 (l.length + 1)))).drew = W at hA ⊢
    obtain ⟨hr, hc, hm⟩ := hA
    obtain ⟨g0, _⟩ := hc.cell 0 rfl
    have HM := Lib.hid hm
    clear hm
    go_wp2_with (first | (go_at_call 105; refine (blanks_any p l _ hr).mono ?_; rintro e w1 ⟨rfl, r1, m1⟩; have hc1 := hc.moved (by omega) m1; obtain ⟨i0, _⟩ := hc1.cell 0 rfl; have HC1 := Lib.hid (And.intro r1 (And.intro hc1 (HM.out.trans (m1.two q)))); have hr1 := r1; clear hc1 m1 r1) | (go_at_call 107; refine (ended_any p (blk l) _ hr1).mono ?_; rintro e w2 ⟨rfl, rfl⟩) | (go_at_call 129; refine (k _ hr1).mono ?_; rintro e w3 ⟨rfl, r3, m3⟩; have hc3 := HC1.out.2.1.moved (by omega) m3; obtain ⟨i12, j12⟩ := hc3.cell 12 rfl; have HC3 := Lib.hid (And.intro (r3.moved2 (q := q) (by omega) 12 (.string Y)) (And.intro (hc3.put 12 (.string Y)) (HC1.out.2.2.trans ((m3.two q).trans (.set p q 12 (.string Y) w3 (Nat.le_of_lt hpq)))))); clear hc3 r3 m3))
    go_end0
    exact ⟨rfl, HC3.out.1, HC3.out.2.1, HC3.out.2.2⟩

set_option maxHeartbeats 8000000 in
set_option maxRecDepth 20000 in
theorem let_b_bad (p q : Nat) (c : UInt8) (l : List UInt8) (x1 x2 x3 x4 x5 x6 x7 x8 x9 x12 : Value) (w : World) (hpq : p < q) (h : Rd p (c :: l) w) (hq : Cq q [.int .u8 0, x1, x2, x3, x4, x5, x6, x7, x8, x9, .bool false, .bool false, x12] w) (hl : l.length ≤ 1000000000) (hc0 : c = 98) (he : endedB (blk l) = false) (k : ∀ w1, Rd p (blk l) w1 → Calls Tryz.prog 129 #[.pointer (some ⟨p, 0, none⟩)] w1 fun e w' => e = errV 9 ∧ Below p w1 w') :
    Calls Tryz.prog 106 #[.pointer (some ⟨p, 0, none⟩), .pointer (some ⟨q, 0, none⟩)] w fun e w' => e = errV 9 ∧ Below p w w' := by
  unfold errV
  obtain ⟨c1, f1⟩ := h.cell
  obtain ⟨d1, e1⟩ := hq.cell 0 rfl
  obtain ⟨S, hS⟩ : ∃ S : ByteArray, S = ⟨(c :: l).toArray⟩ := ⟨_, rfl⟩
  have hAf := let_after hpq h hq hS
  rw [← hS] at c1
  have hE : S.toList.isEmpty = false := by rw [hS]; exact list_full c l
  have hz : S.size = l.length + 1 := by rw [hS]; simp [ByteArray.size]
  have hs : 0 < S.size := by omega
  have hb : S[0] = c := byte0 (r := l) (by rw [hS]) hs
  have hle : (1 : Int) ≤ (l.length : Int) + 1 := by omega
  have HAf := Lib.hid hAf
  clear hS hAf
  clear h hq
  have e115 : ((c.toNat : Int) == 115) = false := by rw [hc0]; rfl
  have e98 : ((c.toNat : Int) == 98) = true := by rw [hc0]; rfl
  have e116 : ((c.toNat : Int) == 116) = false := by rw [hc0]; rfl
  have e58 : ((c.toNat : Int) == 58) = false := by rw [hc0]; rfl
  clear hc0
  unfold errV at k
  go_enter Tryz.func106, Tryz.ntmps106
  go_wp2_with fail
  go_region_law (fail)
  all_goals
    have hA := HAf.out _ rfl
    generalize ((w.setCell ⟨q, 0, none⟩ (.int .u8 (c.toNat : Int))).setCell ⟨p, 0, none⟩ (.string (S.extract 1 (l.length + 1)))).drew = W at hA ⊢
    obtain ⟨hr, hc, hm⟩ := hA
    obtain ⟨g0, _⟩ := hc.cell 0 rfl
    have HM := Lib.hid hm
    clear hm
    go_wp2_with (first | (go_at_call 105; refine (blanks_any p l _ hr).mono ?_; rintro e w1 ⟨rfl, r1, m1⟩; have hc1 := hc.moved (by omega) m1; obtain ⟨i0, _⟩ := hc1.cell 0 rfl; have HC1 := Lib.hid (And.intro r1 (And.intro hc1 (HM.out.trans (m1.two q)))); have hr1 := r1; clear hc1 m1 r1) | (go_at_call 107; refine (ended_any p (blk l) _ hr1).mono ?_; rintro e w2 ⟨rfl, rfl⟩) | (go_at_call 129; refine (k _ hr1).mono ?_; rintro e w3 ⟨rfl, hb3⟩))
    exact ⟨rfl, rfl, HC1.out.2.2.low.trans hb3⟩
end Go.Proofs.YtkgpnlldlekcbaaGreatDoor
namespace Go.Proofs.YtkgpnlldlekcbaaGreatDoor
open Go.RowKit Go.Lib
set_option maxHeartbeats 8000000 in
set_option maxRecDepth 20000 in
theorem let_t_bare (p q : Nat) (c : UInt8) (l : List UInt8) (x1 x2 x3 x4 x5 x6 x7 x8 x9 x12 : Value) (w : World) (hpq : p < q) (h : Rd p (c :: l) w) (hq : Cq q [.int .u8 0, x1, x2, x3, x4, x5, x6, x7, x8, x9, .bool false, .bool false, x12] w) (hl : l.length ≤ 1000000000) (hc0 : c = 116) (he : endedB (blk l) = true) :
    Calls Tryz.prog 106 #[.pointer (some ⟨p, 0, none⟩), .pointer (some ⟨q, 0, none⟩)] w fun e w' => e = .returned (.tuple #[]) ∧ Rd p (blk l) w' ∧ Cq q [.int .u8 (c.toNat : Int), x1, x2, x3, x4, x5, x6, x7, x8, x9, .bool false, .bool false, x12] w' ∧ Moved2 p q w w' := by
  obtain ⟨c1, f1⟩ := h.cell
  obtain ⟨d1, e1⟩ := hq.cell 0 rfl
  obtain ⟨S, hS⟩ : ∃ S : ByteArray, S = ⟨(c :: l).toArray⟩ := ⟨_, rfl⟩
  have hAf := let_after hpq h hq hS
  rw [← hS] at c1
  have hE : S.toList.isEmpty = false := by rw [hS]; exact list_full c l
  have hz : S.size = l.length + 1 := by rw [hS]; simp [ByteArray.size]
  have hs : 0 < S.size := by omega
  have hb : S[0] = c := byte0 (r := l) (by rw [hS]) hs
  have hle : (1 : Int) ≤ (l.length : Int) + 1 := by omega
  have HAf := Lib.hid hAf
  clear hS hAf
  clear h hq
  have e115 : ((c.toNat : Int) == 115) = false := by rw [hc0]; rfl
  have e98 : ((c.toNat : Int) == 98) = false := by rw [hc0]; rfl
  have e116 : ((c.toNat : Int) == 116) = true := by rw [hc0]; rfl
  have e58 : ((c.toNat : Int) == 58) = false := by rw [hc0]; rfl
  clear hc0
  go_enter Tryz.func106, Tryz.ntmps106
  go_wp2_with fail
  go_region_law (fail)
  all_goals
    have hA := HAf.out _ rfl
    generalize ((w.setCell ⟨q, 0, none⟩ (.int .u8 (c.toNat : Int))).setCell ⟨p, 0, none⟩ (.string (S.extract 1 (l.length + 1)))).drew = W at hA ⊢
    obtain ⟨hr, hc, hm⟩ := hA
    obtain ⟨g0, _⟩ := hc.cell 0 rfl
    have HM := Lib.hid hm
    clear hm
    go_wp2_with (first | (go_at_call 105; refine (blanks_any p l _ hr).mono ?_; rintro e w1 ⟨rfl, r1, m1⟩; have hc1 := hc.moved (by omega) m1; obtain ⟨i0, _⟩ := hc1.cell 0 rfl; have HC1 := Lib.hid (And.intro r1 (And.intro hc1 (HM.out.trans (m1.two q)))); have hr1 := r1; clear hc1 m1 r1) | (go_at_call 107; refine (ended_any p (blk l) _ hr1).mono ?_; rintro e w2 ⟨rfl, rfl⟩))
    first | go_end0 | exact bodyPost_ret (results_none rfl _ _ _) rfl ⟨rfl, HC1.out.1, HC1.out.2.1, HC1.out.2.2⟩
    try exact ⟨rfl, HC1.out.1, HC1.out.2.1, HC1.out.2.2⟩

set_option maxHeartbeats 8000000 in
set_option maxRecDepth 20000 in
theorem let_t_lab (p q : Nat) (c : UInt8) (l : List UInt8) (x1 x2 x3 x4 x5 x6 x7 x8 x9 x12 : Value) (w : World) (hpq : p < q) (h : Rd p (c :: l) w) (hq : Cq q [.int .u8 0, x1, x2, x3, x4, x5, x6, x7, x8, x9, .bool false, .bool false, x12] w) (hl : l.length ≤ 1000000000) (hc0 : c = 116) (he : endedB (blk l) = false) (r : List UInt8) (Y : ByteArray) (k : ∀ w1, Rd p (blk l) w1 → Calls Tryz.prog 129 #[.pointer (some ⟨p, 0, none⟩)] w1 fun e w' => e = .returned (.string Y) ∧ Rd p r w' ∧ Moved p w1 w') :
    Calls Tryz.prog 106 #[.pointer (some ⟨p, 0, none⟩), .pointer (some ⟨q, 0, none⟩)] w fun e w' => e = .returned (.tuple #[]) ∧ Rd p r w' ∧ Cq q [.int .u8 (c.toNat : Int), x1, x2, x3, x4, x5, x6, x7, x8, x9, .bool false, .bool false, .string Y] w' ∧ Moved2 p q w w' := by
  obtain ⟨c1, f1⟩ := h.cell
  obtain ⟨d1, e1⟩ := hq.cell 0 rfl
  obtain ⟨S, hS⟩ : ∃ S : ByteArray, S = ⟨(c :: l).toArray⟩ := ⟨_, rfl⟩
  have hAf := let_after hpq h hq hS
  rw [← hS] at c1
  have hE : S.toList.isEmpty = false := by rw [hS]; exact list_full c l
  have hz : S.size = l.length + 1 := by rw [hS]; simp [ByteArray.size]
  have hs : 0 < S.size := by omega
  have hb : S[0] = c := byte0 (r := l) (by rw [hS]) hs
  have hle : (1 : Int) ≤ (l.length : Int) + 1 := by omega
  have HAf := Lib.hid hAf
  clear hS hAf
  clear h hq
  have e115 : ((c.toNat : Int) == 115) = false := by rw [hc0]; rfl
  have e98 : ((c.toNat : Int) == 98) = false := by rw [hc0]; rfl
  have e116 : ((c.toNat : Int) == 116) = true := by rw [hc0]; rfl
  have e58 : ((c.toNat : Int) == 58) = false := by rw [hc0]; rfl
  clear hc0
  go_enter Tryz.func106, Tryz.ntmps106
  go_wp2_with fail
  go_region_law (fail)
  all_goals
    have hA := HAf.out _ rfl
    generalize ((w.setCell ⟨q, 0, none⟩ (.int .u8 (c.toNat : Int))).setCell ⟨p, 0, none⟩ (.string (S.extract 1 (l.length + 1)))).drew = W at hA ⊢
    obtain ⟨hr, hc, hm⟩ := hA
    obtain ⟨g0, _⟩ := hc.cell 0 rfl
    have HM := Lib.hid hm
    clear hm
    go_wp2_with (first | (go_at_call 105; refine (blanks_any p l _ hr).mono ?_; rintro e w1 ⟨rfl, r1, m1⟩; have hc1 := hc.moved (by omega) m1; obtain ⟨i0, _⟩ := hc1.cell 0 rfl; have HC1 := Lib.hid (And.intro r1 (And.intro hc1 (HM.out.trans (m1.two q)))); have hr1 := r1; clear hc1 m1 r1) | (go_at_call 107; refine (ended_any p (blk l) _ hr1).mono ?_; rintro e w2 ⟨rfl, rfl⟩) | (go_at_call 129; refine (k _ hr1).mono ?_; rintro e w3 ⟨rfl, r3, m3⟩; have hc3 := HC1.out.2.1.moved (by omega) m3; obtain ⟨i12, j12⟩ := hc3.cell 12 rfl; have HC3 := Lib.hid (And.intro (r3.moved2 (q := q) (by omega) 12 (.string Y)) (And.intro (hc3.put 12 (.string Y)) (HC1.out.2.2.trans ((m3.two q).trans (.set p q 12 (.string Y) w3 (Nat.le_of_lt hpq)))))); clear hc3 r3 m3))
    go_end0
    exact ⟨rfl, HC3.out.1, HC3.out.2.1, HC3.out.2.2⟩

set_option maxHeartbeats 8000000 in
set_option maxRecDepth 20000 in
theorem let_t_bad (p q : Nat) (c : UInt8) (l : List UInt8) (x1 x2 x3 x4 x5 x6 x7 x8 x9 x12 : Value) (w : World) (hpq : p < q) (h : Rd p (c :: l) w) (hq : Cq q [.int .u8 0, x1, x2, x3, x4, x5, x6, x7, x8, x9, .bool false, .bool false, x12] w) (hl : l.length ≤ 1000000000) (hc0 : c = 116) (he : endedB (blk l) = false) (k : ∀ w1, Rd p (blk l) w1 → Calls Tryz.prog 129 #[.pointer (some ⟨p, 0, none⟩)] w1 fun e w' => e = errV 9 ∧ Below p w1 w') :
    Calls Tryz.prog 106 #[.pointer (some ⟨p, 0, none⟩), .pointer (some ⟨q, 0, none⟩)] w fun e w' => e = errV 9 ∧ Below p w w' := by
  unfold errV
  obtain ⟨c1, f1⟩ := h.cell
  obtain ⟨d1, e1⟩ := hq.cell 0 rfl
  obtain ⟨S, hS⟩ : ∃ S : ByteArray, S = ⟨(c :: l).toArray⟩ := ⟨_, rfl⟩
  have hAf := let_after hpq h hq hS
  rw [← hS] at c1
  have hE : S.toList.isEmpty = false := by rw [hS]; exact list_full c l
  have hz : S.size = l.length + 1 := by rw [hS]; simp [ByteArray.size]
  have hs : 0 < S.size := by omega
  have hb : S[0] = c := byte0 (r := l) (by rw [hS]) hs
  have hle : (1 : Int) ≤ (l.length : Int) + 1 := by omega
  have HAf := Lib.hid hAf
  clear hS hAf
  clear h hq
  have e115 : ((c.toNat : Int) == 115) = false := by rw [hc0]; rfl
  have e98 : ((c.toNat : Int) == 98) = false := by rw [hc0]; rfl
  have e116 : ((c.toNat : Int) == 116) = true := by rw [hc0]; rfl
  have e58 : ((c.toNat : Int) == 58) = false := by rw [hc0]; rfl
  clear hc0
  unfold errV at k
  go_enter Tryz.func106, Tryz.ntmps106
  go_wp2_with fail
  go_region_law (fail)
  all_goals
    have hA := HAf.out _ rfl
    generalize ((w.setCell ⟨q, 0, none⟩ (.int .u8 (c.toNat : Int))).setCell ⟨p, 0, none⟩ (.string (S.extract 1 (l.length + 1)))).drew = W at hA ⊢
    obtain ⟨hr, hc, hm⟩ := hA
    obtain ⟨g0, _⟩ := hc.cell 0 rfl
    have HM := Lib.hid hm
    clear hm
    go_wp2_with (first | (go_at_call 105; refine (blanks_any p l _ hr).mono ?_; rintro e w1 ⟨rfl, r1, m1⟩; have hc1 := hc.moved (by omega) m1; obtain ⟨i0, _⟩ := hc1.cell 0 rfl; have HC1 := Lib.hid (And.intro r1 (And.intro hc1 (HM.out.trans (m1.two q)))); have hr1 := r1; clear hc1 m1 r1) | (go_at_call 107; refine (ended_any p (blk l) _ hr1).mono ?_; rintro e w2 ⟨rfl, rfl⟩) | (go_at_call 129; refine (k _ hr1).mono ?_; rintro e w3 ⟨rfl, hb3⟩))
    exact ⟨rfl, rfl, HC1.out.2.2.low.trans hb3⟩
end Go.Proofs.YtkgpnlldlekcbaaGreatDoor
namespace Go.Proofs.YtkgpnlldlekcbaaGreatDoor
open Go.RowKit Go.Lib
set_option maxHeartbeats 8000000 in
set_option maxRecDepth 20000 in
theorem let_c_lab (p q : Nat) (c : UInt8) (l : List UInt8) (ka : Int) (ng : Bool) (x2 x3 x4 x5 x6 x8 x9 x12 : Value) (w : World) (hpq : p < q) (h : Rd p (c :: l) w) (hq : Cq q [.int .u8 0, .int .i64 ka, x2, x3, x4, x5, x6, .bool ng, x8, x9, .bool false, .bool false, x12] w) (hl : l.length ≤ 1000000000) (hc0 : c = 58) (hka : ka = 0) (hng : ng = false) (r : List UInt8) (Y : ByteArray) (k : ∀ w1, Rd p l w1 → Calls Tryz.prog 129 #[.pointer (some ⟨p, 0, none⟩)] w1 fun e w' => e = .returned (.string Y) ∧ Rd p r w' ∧ Moved p w1 w') :
    Calls Tryz.prog 106 #[.pointer (some ⟨p, 0, none⟩), .pointer (some ⟨q, 0, none⟩)] w fun e w' => e = .returned (.tuple #[]) ∧ Rd p r w' ∧ Cq q [.int .u8 (c.toNat : Int), .int .i64 ka, x2, x3, x4, x5, x6, .bool ng, x8, x9, .bool false, .bool false, .string Y] w' ∧ Moved2 p q w w' := by
  obtain ⟨c1, f1⟩ := h.cell
  obtain ⟨d1, e1⟩ := hq.cell 0 rfl
  obtain ⟨S, hS⟩ : ∃ S : ByteArray, S = ⟨(c :: l).toArray⟩ := ⟨_, rfl⟩
  have hAf := let_after hpq h hq hS
  rw [← hS] at c1
  have hE : S.toList.isEmpty = false := by rw [hS]; exact list_full c l
  have hz : S.size = l.length + 1 := by rw [hS]; simp [ByteArray.size]
  have hs : 0 < S.size := by omega
  have hb : S[0] = c := byte0 (r := l) (by rw [hS]) hs
  have hle : (1 : Int) ≤ (l.length : Int) + 1 := by omega
  have HAf := Lib.hid hAf
  clear hS hAf
  clear h hq
  have e115 : ((c.toNat : Int) == 115) = false := by rw [hc0]; rfl
  have e98 : ((c.toNat : Int) == 98) = false := by rw [hc0]; rfl
  have e116 : ((c.toNat : Int) == 116) = false := by rw [hc0]; rfl
  have e58 : ((c.toNat : Int) == 58) = true := by rw [hc0]; rfl
  clear hc0
  subst hka
  subst hng
  go_enter Tryz.func106, Tryz.ntmps106
  go_wp2_with fail
  go_region_law (fail)
  all_goals
    have hA := HAf.out _ rfl
    generalize ((w.setCell ⟨q, 0, none⟩ (.int .u8 (c.toNat : Int))).setCell ⟨p, 0, none⟩ (.string (S.extract 1 (l.length + 1)))).drew = W at hA ⊢
    obtain ⟨hr, hc, hm⟩ := hA
    obtain ⟨g0, _⟩ := hc.cell 0 rfl
    obtain ⟨g1, _⟩ := hc.cell 1 rfl
    obtain ⟨g7, _⟩ := hc.cell 7 rfl
    have HM := Lib.hid hm
    clear hm
    go_wp2_with (first | (go_at_call 129; refine (k _ hr).mono ?_; rintro e w3 ⟨rfl, r3, m3⟩; have hc3 := hc.moved (by omega) m3; obtain ⟨i12, j12⟩ := hc3.cell 12 rfl; have HC3 := Lib.hid (And.intro (r3.moved2 (q := q) (by omega) 12 (.string Y)) (And.intro (hc3.put 12 (.string Y)) (HM.out.trans ((m3.two q).trans (.set p q 12 (.string Y) w3 (Nat.le_of_lt hpq)))))); clear hc3 r3 m3))
    go_end0
    exact ⟨rfl, HC3.out.1, HC3.out.2.1, HC3.out.2.2⟩

set_option maxHeartbeats 8000000 in
set_option maxRecDepth 20000 in
theorem let_c_bad (p q : Nat) (c : UInt8) (l : List UInt8) (ka : Int) (ng : Bool) (x2 x3 x4 x5 x6 x8 x9 x12 : Value) (w : World) (hpq : p < q) (h : Rd p (c :: l) w) (hq : Cq q [.int .u8 0, .int .i64 ka, x2, x3, x4, x5, x6, .bool ng, x8, x9, .bool false, .bool false, x12] w) (hl : l.length ≤ 1000000000) (hc0 : c = 58) (hka : ka = 0) (hng : ng = false) (k : ∀ w1, Rd p l w1 → Calls Tryz.prog 129 #[.pointer (some ⟨p, 0, none⟩)] w1 fun e w' => e = errV 9 ∧ Below p w1 w') :
    Calls Tryz.prog 106 #[.pointer (some ⟨p, 0, none⟩), .pointer (some ⟨q, 0, none⟩)] w fun e w' => e = errV 9 ∧ Below p w w' := by
  unfold errV
  obtain ⟨c1, f1⟩ := h.cell
  obtain ⟨d1, e1⟩ := hq.cell 0 rfl
  obtain ⟨S, hS⟩ : ∃ S : ByteArray, S = ⟨(c :: l).toArray⟩ := ⟨_, rfl⟩
  have hAf := let_after hpq h hq hS
  rw [← hS] at c1
  have hE : S.toList.isEmpty = false := by rw [hS]; exact list_full c l
  have hz : S.size = l.length + 1 := by rw [hS]; simp [ByteArray.size]
  have hs : 0 < S.size := by omega
  have hb : S[0] = c := byte0 (r := l) (by rw [hS]) hs
  have hle : (1 : Int) ≤ (l.length : Int) + 1 := by omega
  have HAf := Lib.hid hAf
  clear hS hAf
  clear h hq
  have e115 : ((c.toNat : Int) == 115) = false := by rw [hc0]; rfl
  have e98 : ((c.toNat : Int) == 98) = false := by rw [hc0]; rfl
  have e116 : ((c.toNat : Int) == 116) = false := by rw [hc0]; rfl
  have e58 : ((c.toNat : Int) == 58) = true := by rw [hc0]; rfl
  clear hc0
  subst hka
  subst hng
  unfold errV at k
  go_enter Tryz.func106, Tryz.ntmps106
  go_wp2_with fail
  go_region_law (fail)
  all_goals
    have hA := HAf.out _ rfl
    generalize ((w.setCell ⟨q, 0, none⟩ (.int .u8 (c.toNat : Int))).setCell ⟨p, 0, none⟩ (.string (S.extract 1 (l.length + 1)))).drew = W at hA ⊢
    obtain ⟨hr, hc, hm⟩ := hA
    obtain ⟨g0, _⟩ := hc.cell 0 rfl
    obtain ⟨g1, _⟩ := hc.cell 1 rfl
    obtain ⟨g7, _⟩ := hc.cell 7 rfl
    have HM := Lib.hid hm
    clear hm
    go_wp2_with (first | (go_at_call 129; refine (k _ hr).mono ?_; rintro e w3 ⟨rfl, hb3⟩))
    exact ⟨rfl, rfl, HM.out.low.trans hb3⟩

set_option maxHeartbeats 8000000 in
set_option maxRecDepth 20000 in
theorem let_c_addr (p q : Nat) (c : UInt8) (l : List UInt8) (ka : Int) (ng : Bool) (x2 x3 x4 x5 x6 x8 x9 x12 : Value) (w : World) (hpq : p < q) (h : Rd p (c :: l) w) (hq : Cq q [.int .u8 0, .int .i64 ka, x2, x3, x4, x5, x6, .bool ng, x8, x9, .bool false, .bool false, x12] w) (hl : l.length ≤ 1000000000) (hc0 : c = 58) (hka : ka ≠ 0) :
    Calls Tryz.prog 106 #[.pointer (some ⟨p, 0, none⟩), .pointer (some ⟨q, 0, none⟩)] w fun e w' => e = errV 9 ∧ Below p w w' := by
  unfold errV
  obtain ⟨c1, f1⟩ := h.cell
  obtain ⟨d1, e1⟩ := hq.cell 0 rfl
  obtain ⟨S, hS⟩ : ∃ S : ByteArray, S = ⟨(c :: l).toArray⟩ := ⟨_, rfl⟩
  have hAf := let_after hpq h hq hS
  rw [← hS] at c1
  have hE : S.toList.isEmpty = false := by rw [hS]; exact list_full c l
  have hz : S.size = l.length + 1 := by rw [hS]; simp [ByteArray.size]
  have hs : 0 < S.size := by omega
  have hb : S[0] = c := byte0 (r := l) (by rw [hS]) hs
  have hle : (1 : Int) ≤ (l.length : Int) + 1 := by omega
  have HAf := Lib.hid hAf
  clear hS hAf
  clear h hq
  have e115 : ((c.toNat : Int) == 115) = false := by rw [hc0]; rfl
  have e98 : ((c.toNat : Int) == 98) = false := by rw [hc0]; rfl
  have e116 : ((c.toNat : Int) == 116) = false := by rw [hc0]; rfl
  have e58 : ((c.toNat : Int) == 58) = true := by rw [hc0]; rfl
  clear hc0
  have eka : (ka == 0) = false := by rw [beq_eq_false_iff_ne]; exact hka
  go_enter Tryz.func106, Tryz.ntmps106
  go_wp2_with fail
  go_region_law (fail)
  all_goals
    have hA := HAf.out _ rfl
    generalize ((w.setCell ⟨q, 0, none⟩ (.int .u8 (c.toNat : Int))).setCell ⟨p, 0, none⟩ (.string (S.extract 1 (l.length + 1)))).drew = W at hA ⊢
    obtain ⟨hr, hc, hm⟩ := hA
    obtain ⟨g0, _⟩ := hc.cell 0 rfl
    obtain ⟨g1, _⟩ := hc.cell 1 rfl
    obtain ⟨g7, _⟩ := hc.cell 7 rfl
    have HM := Lib.hid hm
    clear hm
    go_wp2_with fail
    exact ⟨rfl, rfl, HM.out.low⟩

set_option maxHeartbeats 8000000 in
set_option maxRecDepth 20000 in
theorem let_c_not (p q : Nat) (c : UInt8) (l : List UInt8) (ka : Int) (ng : Bool) (x2 x3 x4 x5 x6 x8 x9 x12 : Value) (w : World) (hpq : p < q) (h : Rd p (c :: l) w) (hq : Cq q [.int .u8 0, .int .i64 ka, x2, x3, x4, x5, x6, .bool ng, x8, x9, .bool false, .bool false, x12] w) (hl : l.length ≤ 1000000000) (hc0 : c = 58) (hka : ka = 0) (hng : ng = true) :
    Calls Tryz.prog 106 #[.pointer (some ⟨p, 0, none⟩), .pointer (some ⟨q, 0, none⟩)] w fun e w' => e = errV 9 ∧ Below p w w' := by
  unfold errV
  obtain ⟨c1, f1⟩ := h.cell
  obtain ⟨d1, e1⟩ := hq.cell 0 rfl
  obtain ⟨S, hS⟩ : ∃ S : ByteArray, S = ⟨(c :: l).toArray⟩ := ⟨_, rfl⟩
  have hAf := let_after hpq h hq hS
  rw [← hS] at c1
  have hE : S.toList.isEmpty = false := by rw [hS]; exact list_full c l
  have hz : S.size = l.length + 1 := by rw [hS]; simp [ByteArray.size]
  have hs : 0 < S.size := by omega
  have hb : S[0] = c := byte0 (r := l) (by rw [hS]) hs
  have hle : (1 : Int) ≤ (l.length : Int) + 1 := by omega
  have HAf := Lib.hid hAf
  clear hS hAf
  clear h hq
  have e115 : ((c.toNat : Int) == 115) = false := by rw [hc0]; rfl
  have e98 : ((c.toNat : Int) == 98) = false := by rw [hc0]; rfl
  have e116 : ((c.toNat : Int) == 116) = false := by rw [hc0]; rfl
  have e58 : ((c.toNat : Int) == 58) = true := by rw [hc0]; rfl
  clear hc0
  subst hka
  subst hng
  go_enter Tryz.func106, Tryz.ntmps106
  go_wp2_with fail
  go_region_law (fail)
  all_goals
    have hA := HAf.out _ rfl
    generalize ((w.setCell ⟨q, 0, none⟩ (.int .u8 (c.toNat : Int))).setCell ⟨p, 0, none⟩ (.string (S.extract 1 (l.length + 1)))).drew = W at hA ⊢
    obtain ⟨hr, hc, hm⟩ := hA
    obtain ⟨g0, _⟩ := hc.cell 0 rfl
    obtain ⟨g1, _⟩ := hc.cell 1 rfl
    obtain ⟨g7, _⟩ := hc.cell 7 rfl
    have HM := Lib.hid hm
    clear hm
    go_wp2_with fail
    exact ⟨rfl, rfl, HM.out.low⟩
end Go.Proofs.YtkgpnlldlekcbaaGreatDoor
