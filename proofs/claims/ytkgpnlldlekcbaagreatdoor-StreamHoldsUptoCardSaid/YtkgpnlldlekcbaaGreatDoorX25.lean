/- Packed texts: SeLetS, SeLetAny, SeCmd, SeCmdN. What each of them proves stands above its theorems; the conditions stand in these. -/
import Derived.Test.YtkgpnlldlekcbaaGreatDoorX24
namespace Go.Proofs.YtkgpnlldlekcbaaGreatDoor
open Go.RowKit Go.Lib

set_option maxHeartbeats 8000000 in
set_option maxRecDepth 20000 in
theorem let_s_no (p q : Nat) (c : UInt8) (l : List UInt8) (x1 x2 x3 x4 x5 x6 x7 x8 x9 x12 : Value) (w : World) (hpq : p < q) (h : Rd p (c :: l) w) (hq : Cq q [.int .u8 0, x1, x2, x3, x4, x5, x6, x7, x8, x9, .bool false, .bool false, x12] w) (hl : l.length ≤ 1000000000) (hc0 : c = 115) (km : ∀ w1, Rd p l w1 → Calls Tryz.prog 126 #[.pointer (some ⟨p, 0, none⟩), .int .u8 47] w1 fun e w' => e = errV 9 ∧ w' = w1) :
    Calls Tryz.prog 106 #[.pointer (some ⟨p, 0, none⟩), .pointer (some ⟨q, 0, none⟩)] w fun e w' => e = errV 9 ∧ Below p w w' := by
  unfold errV
  obtain ⟨c1, f1⟩ := h.cell
  obtain ⟨d1, e1⟩ := hq.cell 0 rfl
  obtain ⟨S, hS⟩ : ∃ S : ByteArray, S = ⟨(c :: l).toArray⟩ := ⟨_, rfl⟩
  have hAf := let_after hpq h hq hS
  rw [← hS] at c1
  have hE : S.toList.isEmpty = false := by rw [hS]; exact list_full c l
  have hz : S.size = l.length + 1 := by rw [hS]; simp [ByteArray.size]
  have hs : 0 < S.size := by omega
  have hb : S[0] = c := byte0 (r := l) (by rw [hS]) hs
  have hle : (1 : Int) ≤ (l.length : Int) + 1 := by omega
  have HAf := Lib.hid hAf
  clear hS hAf
  clear h hq
  have e115 : ((c.toNat : Int) == 115) = true := by rw [hc0]; rfl
  have e98 : ((c.toNat : Int) == 98) = false := by rw [hc0]; rfl
  have e116 : ((c.toNat : Int) == 116) = false := by rw [hc0]; rfl
  have e58 : ((c.toNat : Int) == 58) = false := by rw [hc0]; rfl
  clear hc0
  unfold errV at km
  go_enter Tryz.func106, Tryz.ntmps106
  go_wp2_with fail
  go_region_law (fail)
  all_goals
    have hA := HAf.out _ rfl
    generalize ((w.setCell ⟨q, 0, none⟩ (.int .u8 (c.toNat : Int))).setCell ⟨p, 0, none⟩ (.string (S.extract 1 (l.length + 1)))).drew = W at hA ⊢
    obtain ⟨hr, hc, hm⟩ := hA
    obtain ⟨g0, _⟩ := hc.cell 0 rfl
    have HM := Lib.hid hm
    clear hm
    go_wp2_with (first | (go_at_call 126; refine (km _ hr).mono ?_; rintro e w1 ⟨rfl, rfl⟩))
    exact ⟨rfl, rfl, HM.out.low⟩

set_option maxHeartbeats 8000000 in
set_option maxRecDepth 20000 in
theorem let_s_tbad (p q : Nat) (c : UInt8) (l : List UInt8) (x1 x2 x3 x4 x5 x6 x7 x8 x9 x12 : Value) (w : World) (hpq : p < q) (h : Rd p (c :: l) w) (hq : Cq q [.int .u8 0, x1, x2, x3, x4, x5, x6, x7, x8, x9, .bool false, .bool false, x12] w) (hl : l.length ≤ 1000000000) (hc0 : c = 115) (l1 : List UInt8) (km : ∀ w1, Rd p l w1 → Calls Tryz.prog 126 #[.pointer (some ⟨p, 0, none⟩), .int .u8 47] w1 fun e w' => e = .returned (.tuple #[]) ∧ Rd p l1 w' ∧ Moved p w1 w') (x : Int) (kt : ∀ w1, Rd p l1 w1 → Calls Tryz.prog 124 #[.pointer (some ⟨p, 0, none⟩)] w1 fun e w' => e = errV x ∧ Below p w1 w') :
    Calls Tryz.prog 106 #[.pointer (some ⟨p, 0, none⟩), .pointer (some ⟨q, 0, none⟩)] w fun e w' => e = errV x ∧ Below p w w' := by
  unfold errV
  obtain ⟨c1, f1⟩ := h.cell
  obtain ⟨d1, e1⟩ := hq.cell 0 rfl
  obtain ⟨S, hS⟩ : ∃ S : ByteArray, S = ⟨(c :: l).toArray⟩ := ⟨_, rfl⟩
  have hAf := let_after hpq h hq hS
  rw [← hS] at c1
  have hE : S.toList.isEmpty = false := by rw [hS]; exact list_full c l
  have hz : S.size = l.length + 1 := by rw [hS]; simp [ByteArray.size]
  have hs : 0 < S.size := by omega
  have hb : S[0] = c := byte0 (r := l) (by rw [hS]) hs
  have hle : (1 : Int) ≤ (l.length : Int) + 1 := by omega
  have HAf := Lib.hid hAf
  clear hS hAf
  clear h hq
  have e115 : ((c.toNat : Int) == 115) = true := by rw [hc0]; rfl
  have e98 : ((c.toNat : Int) == 98) = false := by rw [hc0]; rfl
  have e116 : ((c.toNat : Int) == 116) = false := by rw [hc0]; rfl
  have e58 : ((c.toNat : Int) == 58) = false := by rw [hc0]; rfl
  clear hc0
  unfold errV at kt
  go_enter Tryz.func106, Tryz.ntmps106
  go_wp2_with fail
  go_region_law (fail)
  all_goals
    have hA := HAf.out _ rfl
    generalize ((w.setCell ⟨q, 0, none⟩ (.int .u8 (c.toNat : Int))).setCell ⟨p, 0, none⟩ (.string (S.extract 1 (l.length + 1)))).drew = W at hA ⊢
    obtain ⟨hr, hc, hm⟩ := hA
    obtain ⟨g0, _⟩ := hc.cell 0 rfl
    have HM := Lib.hid hm
    clear hm
    go_wp2_with (first | (go_at_call 126; refine (km _ hr).mono ?_; rintro e w1 ⟨rfl, r1, m1⟩; have hc1 := hc.moved (by omega) m1; have HC1 := Lib.hid (And.intro hc1 (HM.out.trans (m1.two q))); have hr1 := r1; clear hc1 m1 r1) | (go_at_call 124; refine (kt _ hr1).mono ?_; rintro e w2 ⟨rfl, hb2⟩))
    exact ⟨rfl, rfl, HC1.out.2.low.trans hb2⟩

set_option maxHeartbeats 8000000 in
set_option maxRecDepth 20000 in
theorem let_s_pbad (p q : Nat) (c : UInt8) (l : List UInt8) (x1 x2 x3 x4 x5 x6 x7 x8 x9 x12 : Value) (w : World) (hpq : p < q) (h : Rd p (c :: l) w) (hq : Cq q [.int .u8 0, x1, x2, x3, x4, x5, x6, x7, x8, x9, .bool false, .bool false, x12] w) (hl : l.length ≤ 1000000000) (hc0 : c = 115) (l1 : List UInt8) (km : ∀ w1, Rd p l w1 → Calls Tryz.prog 126 #[.pointer (some ⟨p, 0, none⟩), .int .u8 47] w1 fun e w' => e = .returned (.tuple #[]) ∧ Rd p l1 w' ∧ Moved p w1 w') (ts : List Nd) (l2 : List UInt8) (kt : ∀ w1, Rd p l1 w1 → Calls Tryz.prog 124 #[.pointer (some ⟨p, 0, none⟩)] w1 fun e w' => ∃ v, e = .returned v ∧ IsRow w1.heap.size ts v w' ∧ Rd p l2 w' ∧ Moved p w1 w') (kp : ∀ w1, Rd p l2 w1 → Calls Tryz.prog 127 #[.pointer (some ⟨p, 0, none⟩)] w1 fun e w' => e = errV 9 ∧ Below p w1 w') :
    Calls Tryz.prog 106 #[.pointer (some ⟨p, 0, none⟩), .pointer (some ⟨q, 0, none⟩)] w fun e w' => e = errV 9 ∧ Below p w w' := by
  unfold errV
  obtain ⟨c1, f1⟩ := h.cell
  obtain ⟨d1, e1⟩ := hq.cell 0 rfl
  obtain ⟨S, hS⟩ : ∃ S : ByteArray, S = ⟨(c :: l).toArray⟩ := ⟨_, rfl⟩
  have hAf := let_after hpq h hq hS
  rw [← hS] at c1
  have hE : S.toList.isEmpty = false := by rw [hS]; exact list_full c l
  have hz : S.size = l.length + 1 := by rw [hS]; simp [ByteArray.size]
  have hs : 0 < S.size := by omega
  have hb : S[0] = c := byte0 (r := l) (by rw [hS]) hs
  have hle : (1 : Int) ≤ (l.length : Int) + 1 := by omega
  have HAf := Lib.hid hAf
  clear hS hAf
  clear h hq
  have e115 : ((c.toNat : Int) == 115) = true := by rw [hc0]; rfl
  have e98 : ((c.toNat : Int) == 98) = false := by rw [hc0]; rfl
  have e116 : ((c.toNat : Int) == 116) = false := by rw [hc0]; rfl
  have e58 : ((c.toNat : Int) == 58) = false := by rw [hc0]; rfl
  clear hc0
  unfold errV at kp
  go_enter Tryz.func106, Tryz.ntmps106
  go_wp2_with fail
  go_region_law (fail)
  all_goals
    have hA := HAf.out _ rfl
    generalize ((w.setCell ⟨q, 0, none⟩ (.int .u8 (c.toNat : Int))).setCell ⟨p, 0, none⟩ (.string (S.extract 1 (l.length + 1)))).drew = W at hA ⊢
    obtain ⟨hr, hc, hm⟩ := hA
    obtain ⟨g0, _⟩ := hc.cell 0 rfl
    have HM := Lib.hid hm
    clear hm
    go_wp2_with (first | (go_at_call 126; refine (km _ hr).mono ?_; rintro e w1 ⟨rfl, r1, m1⟩; have hc1 := hc.moved (by omega) m1; have HC1 := Lib.hid (And.intro hc1 (HM.out.trans (m1.two q))); have hr1 := r1; clear hc1 m1 r1) | (go_at_call 124; refine (kt _ hr1).mono ?_; rintro e w2 ⟨v, rfl, hrow, r2, m2⟩; obtain ⟨ao, cap, rfl⟩ := isRow_slice hrow; have hc2 := HC1.out.1.moved (by omega) m2; obtain ⟨i8, j8⟩ := hc2.cell 8 rfl; have hr2 := r2.moved2 (q := q) (by omega) 8 (.slice ao ts.length cap); have HC2 := Lib.hid (And.intro (hc2.put 8 (.slice ao ts.length cap)) (HC1.out.2.trans ((m2.two q).trans (.set p q 8 (.slice ao ts.length cap) w2 (Nat.le_of_lt hpq))))); have hqz : q < w1.heap.size := HC1.out.1.lt; have HR2 := Lib.hid (owns_moved2 (p := p) (q := q) hrow (by omega) hqz (.set p q 8 (.slice ao ts.length cap) w2 (Nat.le_of_lt hpq))); clear hc2 m2 r2 hrow) | (go_at_call 127; refine (kp _ hr2).mono ?_; rintro e w3 ⟨rfl, hb3⟩))
    exact ⟨rfl, rfl, HC2.out.2.low.trans hb3⟩

set_option maxHeartbeats 8000000 in
set_option maxRecDepth 20000 in
theorem let_s_ok (p q : Nat) (c : UInt8) (l : List UInt8) (x1 x2 x3 x4 x5 x6 x7 x8 x9 x12 : Value) (w : World) (hpq : p < q) (h : Rd p (c :: l) w) (hq : Cq q [.int .u8 0, x1, x2, x3, x4, x5, x6, x7, x8, x9, .bool false, .bool false, x12] w) (hl : l.length ≤ 1000000000) (hc0 : c = 115) (l1 : List UInt8) (km : ∀ w1, Rd p l w1 → Calls Tryz.prog 126 #[.pointer (some ⟨p, 0, none⟩), .int .u8 47] w1 fun e w' => e = .returned (.tuple #[]) ∧ Rd p l1 w' ∧ Moved p w1 w') (ts : List Nd) (l2 : List UInt8) (kt : ∀ w1, Rd p l1 w1 → Calls Tryz.prog 124 #[.pointer (some ⟨p, 0, none⟩)] w1 fun e w' => ∃ v, e = .returned v ∧ IsRow w1.heap.size ts v w' ∧ Rd p l2 w' ∧ Moved p w1 w') (n : Nat) (cs : List Value) (l3 l4 : List UInt8) (fa fb : Bool) (kp : ∀ w1, Rd p l2 w1 → Calls Tryz.prog 127 #[.pointer (some ⟨p, 0, none⟩)] w1 fun e w' => ∃ v, e = .returned v ∧ w'.ownsRow w1.heap.size 9 1 v n cs ∧ Rd p l3 w' ∧ Moved p w1 w') (kf : ∀ w1 y8 y9, Rd p l3 w1 → Cq q [.int .u8 (c.toNat : Int), x1, x2, x3, x4, x5, x6, x7, y8, y9, .bool false, .bool false, x12] w1 → Calls Tryz.prog 128 #[.pointer (some ⟨p, 0, none⟩), .pointer (some ⟨q, 0, none⟩)] w1 fun e w' => e = .returned (.tuple #[]) ∧ Rd p l4 w' ∧ Cq q [.int .u8 (c.toNat : Int), x1, x2, x3, x4, x5, x6, x7, y8, y9, .bool fa, .bool fb, x12] w' ∧ Moved2 p q w1 w') :
    Calls Tryz.prog 106 #[.pointer (some ⟨p, 0, none⟩), .pointer (some ⟨q, 0, none⟩)] w fun e w' => e = .returned (.tuple #[]) ∧ ∃ v u, Rd p l4 w' ∧ Cq q [.int .u8 (c.toNat : Int), x1, x2, x3, x4, x5, x6, x7, v, u, .bool fa, .bool fb, x12] w' ∧ IsRow w.heap.size ts v w' ∧ w'.ownsRow w.heap.size 9 1 u n cs ∧ Moved2 p q w w' := by
  obtain ⟨c1, f1⟩ := h.cell
  obtain ⟨d1, e1⟩ := hq.cell 0 rfl
  obtain ⟨S, hS⟩ : ∃ S : ByteArray, S = ⟨(c :: l).toArray⟩ := ⟨_, rfl⟩
  have hAf := let_after hpq h hq hS
  rw [← hS] at c1
  have hE : S.toList.isEmpty = false := by rw [hS]; exact list_full c l
  have hz : S.size = l.length + 1 := by rw [hS]; simp [ByteArray.size]
  have hs : 0 < S.size := by omega
  have hb : S[0] = c := byte0 (r := l) (by rw [hS]) hs
  have hle : (1 : Int) ≤ (l.length : Int) + 1 := by omega
  have HAf := Lib.hid hAf
  clear hS hAf
  clear h hq
  have e115 : ((c.toNat : Int) == 115) = true := by rw [hc0]; rfl
  have e98 : ((c.toNat : Int) == 98) = false := by rw [hc0]; rfl
  have e116 : ((c.toNat : Int) == 116) = false := by rw [hc0]; rfl
  have e58 : ((c.toNat : Int) == 58) = false := by rw [hc0]; rfl
  clear hc0
  go_enter Tryz.func106, Tryz.ntmps106
  go_wp2_with fail
  go_region_law (fail)
  all_goals
    have hA := HAf.out _ rfl
    generalize ((w.setCell ⟨q, 0, none⟩ (.int .u8 (c.toNat : Int))).setCell ⟨p, 0, none⟩ (.string (S.extract 1 (l.length + 1)))).drew = W at hA ⊢
    obtain ⟨hr, hc, hm⟩ := hA
    obtain ⟨g0, _⟩ := hc.cell 0 rfl
    have HM := Lib.hid hm
    clear hm
    go_wp2_with (first | (go_at_call 126; refine (km _ hr).mono ?_; rintro e w1 ⟨rfl, r1, m1⟩; have hc1 := hc.moved (by omega) m1; have HC1 := Lib.hid (And.intro hc1 (HM.out.trans (m1.two q))); have hr1 := r1; clear hc1 m1 r1) | (go_at_call 124; refine (kt _ hr1).mono ?_; rintro e w2 ⟨v, rfl, hrow, r2, m2⟩; obtain ⟨ao, cap, rfl⟩ := isRow_slice hrow; have hc2 := HC1.out.1.moved (by omega) m2; obtain ⟨i8, j8⟩ := hc2.cell 8 rfl; have hr2 := r2.moved2 (q := q) (by omega) 8 (.slice ao ts.length cap); have HC2 := Lib.hid (And.intro (hc2.put 8 (.slice ao ts.length cap)) (HC1.out.2.trans ((m2.two q).trans (.set p q 8 (.slice ao ts.length cap) w2 (Nat.le_of_lt hpq))))); have hqz : q < w1.heap.size := HC1.out.1.lt; have HR2 := Lib.hid (owns_moved2 (p := p) (q := q) hrow (by omega) hqz (.set p q 8 (.slice ao ts.length cap) w2 (Nat.le_of_lt hpq))); clear hc2 m2 r2 hrow) | (go_at_call 127; refine (kp _ hr2).mono ?_; rintro e w3 ⟨u, rfl, hrow, r3, m3⟩; obtain ⟨bo, cap2, rfl⟩ := own_zeroB hrow; have hc3 := HC2.out.1.moved (by omega) m3; obtain ⟨i9, j9⟩ := hc3.cell 9 rfl; have hr3 := r3.moved2 (q := q) (by omega) 9 (.slice bo n cap2); have hc4 := hc3.put 9 (.slice bo n cap2); have HC3 := Lib.hid (HC2.out.2.trans ((m3.two q).trans (.set p q 9 (.slice bo n cap2) w3 (Nat.le_of_lt hpq)))); have hqz3 := HC2.out.1.lt; have HR3 := Lib.hid (And.intro (owns_moved2 (p := p) (q := q) (owns_moved HR2.out (by omega) m3) (by omega) hqz (.set p q 9 (.slice bo n cap2) w3 (Nat.le_of_lt hpq))) (owns_moved2 (p := p) (q := q) hrow (by omega) hqz3 (.set p q 9 (.slice bo n cap2) w3 (Nat.le_of_lt hpq)))); clear hc3 m3 r3 hrow) | (go_at_call 128; refine (kf _ _ _ hr3 hc4).mono ?_; rintro e w5 ⟨rfl, r5, c5, m5⟩))
    go_end0
    have hz1 : w.heap.size ≤ w1.heap.size := HC1.out.2.low.size
    have hz2 := HC2.out.2.low.size
    exact ⟨rfl, _, _, r5, c5, owns_base (owns_moved2 HR3.out.1 (by omega) hqz m5) hz1, owns_base (owns_moved2 HR3.out.2 (by omega) hqz3 m5) hz2, HC3.out.trans m5⟩
end Go.Proofs.YtkgpnlldlekcbaaGreatDoor
namespace Go.Proofs.YtkgpnlldlekcbaaGreatDoor
open Go.RowKit Go.Lib

theorem isPlain_any (c : UInt8) (w : World) : Calls Tryz.prog 130 #[.int .u8 (c.toNat : Int)] w fun e w' => e = .returned (.bool (plainS.contains c)) ∧ w' = w := by
  have k : ∀ w, Calls Tryz.prog 102 #[.string ⟨#[112, 100, 113, 110, 104, 72, 103, 71, 120]⟩, .int .u8 (c.toNat : Int)] w fun e w' => e = .returned (.int .i64 (indexByte plainS c)) ∧ w' = w := fun w => by
    have := Tryz.strings_IndexByte ⟨plainS.toArray⟩ (c.toNat : Int) w
    rwa [u8_back] at this
  have hg := contains_index plainS c
  obtain ⟨i, hi⟩ : ∃ i, i = indexByte plainS c := ⟨_, rfl⟩
  rw [← hi] at k hg
  rw [← hg]
  clear hi hg
  go_enter Tryz.func130, Tryz.ntmps130
  go_wp2_with (go_at_call 102; refine (k _).mono ?_; rintro e w1 ⟨rfl, rfl⟩)
  exact bodyPost_ret (results_tmp rfl _ _ _) rfl ⟨rfl, rfl⟩
set_option maxHeartbeats 1000000 in
set_option maxRecDepth 20000 in
theorem let_nil (p q : Nat) (w : World) (h : Rd p [] w) :
    Calls Tryz.prog 106 #[.pointer (some ⟨p, 0, none⟩), .pointer (some ⟨q, 0, none⟩)] w fun e w' => e = errV 9 ∧ Below p w w' := by
  obtain ⟨c1, f1⟩ := h.cell
  have hE : (⟨([] : List UInt8).toArray⟩ : ByteArray).toList.isEmpty = true := list_empty
  generalize (⟨([] : List UInt8).toArray⟩ : ByteArray) = S at c1 hE
  clear h
  unfold errV
  go_enter Tryz.func106, Tryz.ntmps106
  go_wp2
  exact ⟨rfl, rfl, Below.refl _ _⟩
/-- What letter does. -/
def LetE (p q : Nat) (a b : Ad) (neg : Bool) (x2 x3 x4 x5 x6 : Value) (l : List UInt8) (w : World) (e : Ending) (w' : World) : Prop := match letP reR a b neg l with
  | .ok c r => e = .returned (.tuple #[]) ∧ ∃ v u, Rd p r w' ∧ Cq q [.int .u8 (c.op.toNat : Int), .int .i64 (a.k : Int), x2, x3, x4, x5, x6, .bool neg, v, u, .bool c.all, .bool c.prt, .string ⟨c.label.toArray⟩] w' ∧ ReS w.heap.size c.re v w' ∧ PutS w.heap.size c.put u w' ∧ Moved2 p q w w'
  | .bad x => e = errV x ∧ Below p w w'
theorem put_nil (B : Nat) (w : World) : PutS B [] (.slice none 0 0) w := World.ownsRow_nil _ _ _ _
set_option maxRecDepth 20000 in
theorem letter_any (p q : Nat) (a b : Ad) (neg : Bool) (x2 x3 x4 x5 x6 : Value) (l : List UInt8) (w : World) (hpq : p < q) (h : Rd p l w) (hl : l.length ≤ 1000000000)
    (hq : Cq q [.int .u8 0, .int .i64 (a.k : Int), x2, x3, x4, x5, x6, .bool neg, .slice none 0 0, .slice none 0 0, .bool false, .bool false, .string ⟨#[]⟩] w) :
    Calls Tryz.prog 106 #[.pointer (some ⟨p, 0, none⟩), .pointer (some ⟨q, 0, none⟩)] w (LetE p q a b neg x2 x3 x4 x5 x6 l w) := by
  unfold LetE
  cases l with
  | nil => exact let_nil p q w h
  | cons c l =>
    simp only [List.length_cons] at hl
    unfold letP
    dsimp only
    have hbl := blk_len l
    have kl := fun w1 (h1 : Rd p (blk l) w1) => label_any p (blk l) w1 h1 (by omega)
    have kl2 := fun w1 (h1 : Rd p l w1) => label_any p l w1 h1 (by omega)
    unfold LabE at kl kl2
    by_cases h115 : c = 115
    · rw [if_pos h115]
      cases l with
      | nil => exact let_s_no p q c [] _ _ _ _ _ _ _ _ _ _ w hpq h hq (by simp) h115 fun w1 h1 => must8_no p 47 [] w1 h1 (by simp)
      | cons d l1 =>
        simp only [List.length_cons] at hl
        dsimp only
        by_cases h47 : d = 47
        · subst h47
          rw [if_pos rfl]
          have km : ∀ w1, Rd p (47 :: l1) w1 → Calls Tryz.prog 126 #[.pointer (some ⟨p, 0, none⟩), .int .u8 47] w1 fun e w' => e = .returned (.tuple #[]) ∧ Rd p l1 w' ∧ Moved p w1 w' := fun w1 h1 => must8_yes p 47 l1 w1 h1 (by omega)
          have kt := fun w1 (h1 : Rd p l1 w1) => tree8_any p l1 w1 h1 (by omega)
          unfold TreeE at kt
          cases ht : treeP reR l1 with
          | bad x =>
            rw [ht] at kt
            exact let_s_tbad p q c (47 :: l1) _ _ _ _ _ _ _ _ _ _ w hpq h hq (by simp only [List.length_cons]; omega) h115 l1 km x kt
          | ok t l2 =>
            rw [ht] at kt
            have hl2 := treeP_len ht
            have kp := fun w1 (h1 : Rd p l2 w1) => put8_any p l2 w1 h1 (by omega)
            unfold PutE at kp
            dsimp only [Got.bind]
            cases hp : putP l2 with
            | bad x =>
              rw [hp] at kp
              have hx : x = 9 := by
                unfold putP at hp
                split at hp
                · cases hp; rfl
                · split at hp
                  · cases hp
                  · cases hp; rfl
              subst hx
              exact let_s_pbad p q c (47 :: l1) _ _ _ _ _ _ _ _ _ _ w hpq h hq (by simp only [List.length_cons]; omega) h115 l1 km (t.row 0) l2 kt kp
            | ok ys l3 =>
              rw [hp] at kp
              have hl3 := putP_len hp
              refine (let_s_ok p q c (47 :: l1) _ _ _ _ _ _ _ _ _ _ w hpq h hq (by simp only [List.length_cons]; omega) h115 l1 km (t.row 0) l2 kt ys.length _ l3 (flagP false false l3).2.2 (flagP false false l3).1 (flagP false false l3).2.1 kp
                fun w1 y8 y9 h1 h2 => flags_walk p q _ _ _ _ _ _ _ _ y8 y9 _ false false l3 w1 hpq h1 (by omega) h2).mono ?_
              rintro e w' ⟨rfl, v, u, g1, g2, g3, g4, g5⟩
              exact ⟨rfl, v, u, g1, g2, g3, g4, g5⟩
        · rw [if_neg h47]
          exact let_s_no p q c (d :: l1) _ _ _ _ _ _ _ _ _ _ w hpq h hq (by simp only [List.length_cons]; omega) h115 fun w1 h1 => must8_no p 47 (d :: l1) w1 h1 (by simpa using h47)
    · rw [if_neg h115]
      by_cases hbt : c = 98 ∨ c = 116
      · rw [if_pos hbt]
        cases he : endedB (blk l) with
        | true =>
          rw [if_pos rfl]
          rcases hbt with hb | hb
          · refine (let_b_bare p q c l _ _ _ _ _ _ _ _ _ _ w hpq h hq (by omega) hb he).mono ?_
            rintro e w' ⟨rfl, g1, g2, g3⟩
            exact ⟨rfl, _, _, g1, g2, rfl, put_nil _ _, g3⟩
          · refine (let_t_bare p q c l _ _ _ _ _ _ _ _ _ _ w hpq h hq (by omega) hb he).mono ?_
            rintro e w' ⟨rfl, g1, g2, g3⟩
            exact ⟨rfl, _, _, g1, g2, rfl, put_nil _ _, g3⟩
        | false =>
          rw [if_neg (by simp)]
          cases hlab : labP (blk l) with
          | bad x =>
            rw [hlab] at kl
            have hx : x = 9 := by
              unfold labP at hlab
              split at hlab
              · cases hlab; rfl
              · split at hlab
                · cases hlab
                · cases hlab; rfl
            subst hx
            rcases hbt with hb | hb
            · exact let_b_bad p q c l _ _ _ _ _ _ _ _ _ _ w hpq h hq (by omega) hb he kl
            · exact let_t_bad p q c l _ _ _ _ _ _ _ _ _ _ w hpq h hq (by omega) hb he kl
          | ok y r =>
            rw [hlab] at kl
            rcases hbt with hb | hb
            · refine (let_b_lab p q c l _ _ _ _ _ _ _ _ _ _ w hpq h hq (by omega) hb he r ⟨y.toArray⟩ kl).mono ?_
              rintro e w' ⟨rfl, g1, g2, g3⟩
              exact ⟨rfl, _, _, g1, g2, rfl, put_nil _ _, g3⟩
            · refine (let_t_lab p q c l _ _ _ _ _ _ _ _ _ _ w hpq h hq (by omega) hb he r ⟨y.toArray⟩ kl).mono ?_
              rintro e w' ⟨rfl, g1, g2, g3⟩
              exact ⟨rfl, _, _, g1, g2, rfl, put_nil _ _, g3⟩
      · rw [if_neg hbt]
        by_cases h58 : c = 58
        · rw [if_pos h58]
          by_cases hk : a.k = 0 ∧ neg = false
          · rw [if_pos hk]
            cases hlab : labP l with
            | bad x =>
              rw [hlab] at kl2
              have hx : x = 9 := by
                unfold labP at hlab
                split at hlab
                · cases hlab; rfl
                · split at hlab
                  · cases hlab
                  · cases hlab; rfl
              subst hx
              exact let_c_bad p q c l _ _ _ _ _ _ _ _ _ _ w hpq h hq (by omega) h58 (by omega) hk.2 kl2
            | ok y r =>
              rw [hlab] at kl2
              refine (let_c_lab p q c l _ _ _ _ _ _ _ _ _ _ w hpq h hq (by omega) h58 (by omega) hk.2 r ⟨y.toArray⟩ kl2).mono ?_
              rintro e w' ⟨rfl, g1, g2, g3⟩
              exact ⟨rfl, _, _, g1, g2, rfl, put_nil _ _, g3⟩
          · rw [if_neg hk]
            by_cases hk0 : a.k = 0
            · have hn : neg = true := by
                cases neg
                · exact absurd ⟨hk0, rfl⟩ hk
                · rfl
              exact let_c_not p q c l _ _ _ _ _ _ _ _ _ _ w hpq h hq (by omega) h58 (by omega) hn
            · exact let_c_addr p q c l _ _ _ _ _ _ _ _ _ _ w hpq h hq (by omega) h58 (by omega)
        · rw [if_neg h58]
          have kP := isPlain_any c
          cases hpl : plainS.contains c with
          | true =>
            rw [hpl] at kP
            rw [if_pos rfl]
            refine (let_plain p q c l _ _ _ _ _ _ _ _ _ _ w hpq h hq (by omega) h115 (fun e => hbt (.inl e)) (fun e => hbt (.inr e)) h58 kP).mono ?_
            rintro e w' ⟨rfl, g1, g2, g3⟩
            exact ⟨rfl, _, _, g1, g2, rfl, put_nil _ _, g3⟩
          | false =>
            rw [hpl] at kP
            rw [if_neg (by simp)]
            exact let_odd p q c l _ _ _ _ _ _ _ _ _ _ w hpq h hq (by omega) h115 (fun e => hbt (.inl e)) (fun e => hbt (.inr e)) h58 kP
end Go.Proofs.YtkgpnlldlekcbaaGreatDoor
namespace Go.Proofs.YtkgpnlldlekcbaaGreatDoor
open Go.RowKit Go.Lib

/-- A command's cells before anything is read. -/
def zeroC : List Value := [.int .u8 0, .int .i64 0, .int .i64 0, .slice none 0 0, .int .i64 0, .int .i64 0, .slice none 0 0, .bool false, .slice none 0 0, .slice none 0 0, .bool false, .bool false, .string ⟨#[]⟩]
/-- The two blocks, as they are made. -/
def W13 (w : World) : World := (w.alloc (.cells ⟨zeroC⟩ 41)).alloc (.cells ⟨zeroC⟩ 41)
theorem W13.below (w : World) : Below w.heap.size w (W13 w) := ((Below.refl _ w).alloc (Nat.le_refl _) _).alloc (by simp) _
theorem W13.size (w : World) : (W13 w).heap.size = w.heap.size + 2 := by simp [W13]
theorem W13.c0 (w : World) : Cq w.heap.size zeroC (W13 w) := (Below.heap_alloc _ _ _ (by simp)).trans (heap_alloc_new w _)
theorem W13.c1 (w : World) : Cq (w.heap.size + 1) zeroC (W13 w) := by
  have h := heap_alloc_new (w.alloc (.cells ⟨zeroC⟩ 41)) (.cells ⟨zeroC⟩ 41)
  have e : (w.alloc (.cells ⟨zeroC⟩ 41)).heap.size = w.heap.size + 1 := by simp
  rw [e] at h
  exact h
theorem Cq.put3 {q : Nat} {l : List Value} {w : World} (h : Cq q l w) (i j k : Nat) (a b c : Value) : Cq q (((l.set i a).set j b).set k c) (((w.setCell ⟨q, i, none⟩ a).setCell ⟨q, j, none⟩ b).setCell ⟨q, k, none⟩ c) := ((h.put i a).put j b).put k c
theorem Moved2.set3 (p q i j k : Nat) (a b c : Value) (w : World) (hpq : p ≤ q) : Moved2 p q w (((w.setCell ⟨q, i, none⟩ a).setCell ⟨q, j, none⟩ b).setCell ⟨q, k, none⟩ c) := ((Moved2.set p q i a w hpq).trans (.set p q j b _ hpq)).trans (.set p q k c _ hpq)
theorem Rd.put3 {p q : Nat} {l : List UInt8} {w : World} (h : Rd p l w) (hpq : p ≠ q) (i j k : Nat) (a b c : Value) : Rd p l (((w.setCell ⟨q, i, none⟩ a).setCell ⟨q, j, none⟩ b).setCell ⟨q, k, none⟩ c) := ((h.moved2 hpq i a).moved2 hpq j b).moved2 hpq k c
theorem ads_slice {B : Nat} {a : Ad} {v : Value} {w : World} (h : AdS B a v w) : ∃ ao n cap, v = .slice ao n cap := by
  cases a with
  | re t => obtain ⟨ao, cap, h⟩ := isRow_slice h; exact ⟨ao, _, cap, h⟩
  | none => exact ⟨_, _, _, h⟩
  | line n => exact ⟨_, _, _, h⟩
  | last => exact ⟨_, _, _, h⟩
theorem res_slice {B : Nat} {a : Option Tr} {v : Value} {w : World} (h : ReS B a v w) : ∃ ao n cap, v = .slice ao n cap := by
  cases a with
  | some t => obtain ⟨ao, cap, h⟩ := isRow_slice h; exact ⟨ao, _, cap, h⟩
  | none => exact ⟨_, _, _, h⟩
theorem AdS.moved2 {p q B : Nat} {a : Ad} {v : Value} {w w' : World} (h : AdS B a v w) (hp : p < B) (hq : q < B) (hm : Moved2 p q w w') : AdS B a v w' := by
  cases a with
  | re t => exact owns_moved2 h hp hq hm
  | none => exact h
  | line n => exact h
  | last => exact h
theorem ReS.moved2 {p q B : Nat} {a : Option Tr} {v : Value} {w w' : World} (h : ReS B a v w) (hp : p < B) (hq : q < B) (hm : Moved2 p q w w') : ReS B a v w' := by
  cases a with
  | some t => exact owns_moved2 h hp hq hm
  | none => exact h
theorem ReS.base {B B' : Nat} {a : Option Tr} {v : Value} {w : World} (h : ReS B a v w) (hB : B' ≤ B) : ReS B' a v w := by
  cases a with
  | some t => exact owns_base h hB
  | none => exact h
/-- Both addresses' slices. -/
def SS (B : Nat) (a : Ad) (va : Value) (b : Ad) (vb : Value) (w : World) : Prop := AdS B a va w ∧ AdS B b vb w
theorem SS.moved {p B : Nat} {a b : Ad} {va vb : Value} {w w' : World} (h : SS B a va b vb w) (hp : p < B) (hm : Moved p w w') : SS B a va b vb w' := ⟨h.1.moved hp hm, h.2.moved hp hm⟩
theorem SS.moved2 {p q B : Nat} {a b : Ad} {va vb : Value} {w w' : World} (h : SS B a va b vb w) (hp : p < B) (hq : q < B) (hm : Moved2 p q w w') : SS B a va b vb w' := ⟨h.1.moved2 hp hq hm, h.2.moved2 hp hq hm⟩
/-- A command's cells, and what lies behind its slices. -/
def CmS (B : Nat) (c : Cm) (xs : List Value) (w : World) : Prop := ∃ va vb v u, xs = [.int .u8 (c.op.toNat : Int), .int .i64 (c.a.k : Int), .int .i64 (c.a.n : Int), va, .int .i64 (c.b.k : Int), .int .i64 (c.b.n : Int), vb, .bool c.neg, v, u, .bool c.all, .bool c.prt, .string ⟨c.label.toArray⟩] ∧ AdS B c.a va w ∧ AdS B c.b vb w ∧ ReS B c.re v w ∧ PutS B c.put u w
theorem cells13 {q : Nat} {a b c d e f g h i j k l m : Value} {w : World} (H : Cq q [a, b, c, d, e, f, g, h, i, j, k, l, m] w) :
    w.cell? ⟨q, 0, none⟩ = some a ∧ w.cell? ⟨q, 1, none⟩ = some b ∧ w.cell? ⟨q, 2, none⟩ = some c ∧ w.cell? ⟨q, 3, none⟩ = some d ∧ w.cell? ⟨q, 4, none⟩ = some e ∧ w.cell? ⟨q, 5, none⟩ = some f ∧ w.cell? ⟨q, 6, none⟩ = some g ∧ w.cell? ⟨q, 7, none⟩ = some h ∧ w.cell? ⟨q, 8, none⟩ = some i ∧ w.cell? ⟨q, 9, none⟩ = some j ∧ w.cell? ⟨q, 10, none⟩ = some k ∧ w.cell? ⟨q, 11, none⟩ = some l ∧ w.cell? ⟨q, 12, none⟩ = some m :=
  ⟨(H.cell 0 rfl).1, (H.cell 1 rfl).1, (H.cell 2 rfl).1, (H.cell 3 rfl).1, (H.cell 4 rfl).1, (H.cell 5 rfl).1, (H.cell 6 rfl).1, (H.cell 7 rfl).1, (H.cell 8 rfl).1, (H.cell 9 rfl).1, (H.cell 10 rfl).1, (H.cell 11 rfl).1, (H.cell 12 rfl).1⟩
theorem frozen13 {q : Nat} {xs : List Value} {w : World} (H : Cq q xs w) :
    w.frozen? ⟨q, 0, none⟩ = false ∧ w.frozen? ⟨q, 1, none⟩ = false ∧ w.frozen? ⟨q, 2, none⟩ = false ∧ w.frozen? ⟨q, 3, none⟩ = false ∧ w.frozen? ⟨q, 4, none⟩ = false ∧ w.frozen? ⟨q, 5, none⟩ = false ∧ w.frozen? ⟨q, 6, none⟩ = false ∧ w.frozen? ⟨q, 7, none⟩ = false ∧ w.frozen? ⟨q, 8, none⟩ = false ∧ w.frozen? ⟨q, 9, none⟩ = false ∧ w.frozen? ⟨q, 10, none⟩ = false ∧ w.frozen? ⟨q, 11, none⟩ = false ∧ w.frozen? ⟨q, 12, none⟩ = false :=
  ⟨frozen_of_heap H _, frozen_of_heap H _, frozen_of_heap H _, frozen_of_heap H _, frozen_of_heap H _, frozen_of_heap H _, frozen_of_heap H _, frozen_of_heap H _, frozen_of_heap H _, frozen_of_heap H _, frozen_of_heap H _, frozen_of_heap H _, frozen_of_heap H _⟩
/-- Thirteen cells stored. -/
def put13 (w : World) (q : Nat) (a b c d e f g h i j k l m : Value) : World := ((((((((((((w.setCell ⟨q, 0, none⟩ a).setCell ⟨q, 1, none⟩ b).setCell ⟨q, 2, none⟩ c).setCell ⟨q, 3, none⟩ d).setCell ⟨q, 4, none⟩ e).setCell ⟨q, 5, none⟩ f).setCell ⟨q, 6, none⟩ g).setCell ⟨q, 7, none⟩ h).setCell ⟨q, 8, none⟩ i).setCell ⟨q, 9, none⟩ j).setCell ⟨q, 10, none⟩ k).setCell ⟨q, 11, none⟩ l).setCell ⟨q, 12, none⟩ m
theorem put13_cells {q : Nat} {w : World} {xs : List Value} (hx : xs.length = 13) (H : Cq q xs w) (a b c d e f g h i j k l m : Value) : Cq q [a, b, c, d, e, f, g, h, i, j, k, l, m] (put13 w q a b c d e f g h i j k l m) := by
  match xs, hx with
  | [_, _, _, _, _, _, _, _, _, _, _, _, _], _ => exact ((((((((((((H.put 0 a).put 1 b).put 2 c).put 3 d).put 4 e).put 5 f).put 6 g).put 7 h).put 8 i).put 9 j).put 10 k).put 11 l).put 12 m
theorem put13_other {q r : Nat} (hr : r ≠ q) (w : World) (a b c d e f g h i j k l m : Value) : (put13 w q a b c d e f g h i j k l m).heap[r]? = w.heap[r]? := by
  have hs : ∀ (w : World) (i : Nat) (v : Value), (w.setCell ⟨q, i, none⟩ v).heap[r]? = w.heap[r]? := fun w i v => Below.heap_setCell _ _ _ _ hr
  unfold put13
  simp only [hs]
theorem put13_below {B q : Nat} {x w : World} (hb : Below B x w) (hq : B ≤ q) (a b c d e f g h i j k l m : Value) : Below B x (put13 w q a b c d e f g h i j k l m) :=
  (((((((((((((hb.setCell (p := ⟨q, 0, none⟩) hq a).setCell (p := ⟨q, 1, none⟩) hq b).setCell (p := ⟨q, 2, none⟩) hq c).setCell (p := ⟨q, 3, none⟩) hq d).setCell (p := ⟨q, 4, none⟩) hq e).setCell (p := ⟨q, 5, none⟩) hq f).setCell (p := ⟨q, 6, none⟩) hq g).setCell (p := ⟨q, 7, none⟩) hq h).setCell (p := ⟨q, 8, none⟩) hq i).setCell (p := ⟨q, 9, none⟩) hq j).setCell (p := ⟨q, 10, none⟩) hq k).setCell (p := ⟨q, 11, none⟩) hq l).setCell (p := ⟨q, 12, none⟩) hq m)
theorem Tryz.infoCmd : (Tryz.prog.info? 41).map (·.size) = some 13 := by kernel_rfl
end Go.Proofs.YtkgpnlldlekcbaaGreatDoor
namespace Go.Proofs.YtkgpnlldlekcbaaGreatDoor
open Go.RowKit Go.Lib
set_option maxHeartbeats 8000000 in
set_option maxRecDepth 20000 in
theorem cmd_n_bad (p : Nat) (l : List UInt8) (w : World) (h : Rd p l w) (a : Ad) (KA NA : Int) (hKA : KA = (a.k : Int)) (hNA : NA = (a.n : Int)) (l1 : List UInt8) (ka : ∀ w1, Rd p l w1 → Calls Tryz.prog 103 #[.pointer (some ⟨p, 0, none⟩)] w1 fun e w' => ∃ v, e = .returned (.agg #[.int .i64 KA, .int .i64 NA, v]) ∧ AdS w1.heap.size a v w' ∧ Rd p l1 w' ∧ Moved p w1 w') (hk0 : KA = 0) (lp : List UInt8) (hlp : lp = l1) (neg : Bool) (l5 : List UInt8) (t33 : ∀ w1, Rd p (blk lp) w1 → Calls Tryz.prog 104 #[.pointer (some ⟨p, 0, none⟩), .int .u8 33] w1 fun e w' => e = .returned (.bool neg) ∧ Rd p l5 w' ∧ Moved p w1 w') (x : Int) (kl : ∀ (w1 : World) (y2 y3 : Value), Rd p (blk l5) w1 → Cq (w.heap.size + 1) [.int .u8 0, .int .i64 KA, y2, y3, .int .i64 0, .int .i64 0, .slice none 0 0, .bool neg, .slice none 0 0, .slice none 0 0, .bool false, .bool false, .string ⟨#[]⟩] w1 → Calls Tryz.prog 106 #[.pointer (some ⟨p, 0, none⟩), .pointer (some ⟨w.heap.size + 1, 0, none⟩)] w1 fun e w' => e = errV x ∧ Below p w1 w') :
    Calls Tryz.prog 80 #[.pointer (some ⟨p, 0, none⟩)] w fun e w' => e = errV x ∧ Below p w w' := by
  subst hlp
  subst hk0
  unfold errV at kl ⊢
  have hlt := h.lt
  have hr0 : Rd p l (W13 w) := h.below (W13.below w)
  have HB := Lib.hid ((W13.below w).mono (Nat.le_of_lt hlt))
  clear h
  have HW := Lib.hid (show W13 w = (w.alloc (.cells #[.int .u8 0, .int .i64 0, .int .i64 0, .slice none 0 0, .int .i64 0, .int .i64 0, .slice none 0 0, .bool false, .slice none 0 0, .slice none 0 0, .bool false, .bool false, .string ⟨#[]⟩] 41)).alloc (.cells #[.int .u8 0, .int .i64 0, .int .i64 0, .slice none 0 0, .int .i64 0, .int .i64 0, .slice none 0 0, .bool false, .slice none 0 0, .slice none 0 0, .bool false, .bool false, .string ⟨#[]⟩] 41) from rfl)
  have HK := Lib.hid (And.intro hKA hNA)
  clear hKA hNA
  go_enter Tryz.func80, Tryz.ntmps80
  go_wp2_with fail
  rw [← HW.out]
  go_wp2_with (first
      | (go_at_call 103; refine (ka _ hr0).mono ?_; rintro e w1 ⟨va, rfl, hs1, r1, m1⟩; obtain ⟨ao, N, cap, rfl⟩ := ads_slice hs1; have hc := (W13.c1 w).moved (by omega) m1; obtain ⟨c1, f1⟩ := hc.cell 1 rfl; obtain ⟨c2, f2⟩ := hc.cell 2 rfl; obtain ⟨c3, f3⟩ := hc.cell 3 rfl; have hc' := hc.put3 1 2 3 (.int .i64 0) (.int .i64 NA) (.slice ao N cap); obtain ⟨i1, _⟩ := hc'.cell 1 rfl; have M1 := (m1.two (w.heap.size + 1)).trans (Moved2.set3 p (w.heap.size + 1) 1 2 3 (.int .i64 0) (.int .i64 NA) (.slice ao N cap) w1 (by omega)); have hq1 : w.heap.size + 1 < (W13 w).heap.size := (by rw [W13.size]; omega); have hS1 := hs1.moved2 (by omega) hq1 (Moved2.set3 p (w.heap.size + 1) 1 2 3 (.int .i64 0) (.int .i64 NA) (.slice ao N cap) w1 (by omega)); have hr1 := r1.put3 (q := w.heap.size + 1) (by omega) 1 2 3 (.int .i64 0) (.int .i64 NA) (.slice ao N cap); have HC1 := Lib.hid hc'; have HM1 := Lib.hid M1; have HS1 := Lib.hid hS1; clear hc hc' M1 hS1 hs1 r1 m1 ka hr0)
      | (go_at_call 105; refine (blanks_any p lp _ hr1).mono ?_; rintro e w4 ⟨rfl, r4, m4⟩; have hc4 := HC1.out.moved (by omega) m4; have HC4 := Lib.hid hc4; have hzz := W13.size w; have HS4 := Lib.hid (SS.moved (show SS (W13 w).heap.size a (.slice ao N cap) .none (.slice none 0 0) _ from ⟨HS1.out, rfl⟩) (by omega) m4); have HM4 := Lib.hid (HM1.out.trans (m4.two _)); have hr4 := r4; clear hc4 m4 r4 hr1)
      | (go_at_call 104; refine (t33 _ hr4).mono ?_; rintro e w5 ⟨rfl, r5, m5⟩; have hc5 := HC4.out.moved (by omega) m5; obtain ⟨c7, f7⟩ := hc5.cell 7 rfl; have HC5 := Lib.hid (hc5.put 7 (.bool neg)); have HM5 := Lib.hid (HM4.out.trans ((m5.two _).trans (.set p (w.heap.size + 1) 7 (.bool neg) w5 (by omega)))); have HS5 := Lib.hid ((HS4.out.moved (by omega) m5).moved2 (by omega) (by omega) (.set p (w.heap.size + 1) 7 (.bool neg) w5 (by omega))); have hr5 := r5.moved2 (q := w.heap.size + 1) (by omega) 7 (.bool neg); clear hc5 m5 r5 t33 hr4)
      | (go_at_call 105; refine (blanks_any p l5 _ hr5).mono ?_; rintro e w6 ⟨rfl, r6, m6⟩; have hc6 := HC5.out.moved (by omega) m6; have HM6 := Lib.hid (HM5.out.trans (m6.two _)); have HS6 := Lib.hid (HS5.out.moved (by omega) m6); have hr6 := r6; clear m6 r6 hr5)
      | (go_at_call 106; refine (kl _ _ _ hr6 hc6).mono ?_; rintro e w7 ⟨rfl, hb7⟩))
  exact ⟨rfl, rfl, HB.out.trans (HM6.out.low.trans hb7)⟩

set_option maxHeartbeats 8000000 in
set_option maxRecDepth 20000 in
theorem cmd_n_end (p : Nat) (l : List UInt8) (w : World) (h : Rd p l w) (a : Ad) (KA NA : Int) (hKA : KA = (a.k : Int)) (hNA : NA = (a.n : Int)) (l1 : List UInt8) (ka : ∀ w1, Rd p l w1 → Calls Tryz.prog 103 #[.pointer (some ⟨p, 0, none⟩)] w1 fun e w' => ∃ v, e = .returned (.agg #[.int .i64 KA, .int .i64 NA, v]) ∧ AdS w1.heap.size a v w' ∧ Rd p l1 w' ∧ Moved p w1 w') (hk0 : KA = 0) (lp : List UInt8) (hlp : lp = l1) (neg : Bool) (l5 : List UInt8) (t33 : ∀ w1, Rd p (blk lp) w1 → Calls Tryz.prog 104 #[.pointer (some ⟨p, 0, none⟩), .int .u8 33] w1 fun e w' => e = .returned (.bool neg) ∧ Rd p l5 w' ∧ Moved p w1 w') (c : Cm) (lr : List UInt8) (kl : ∀ (w1 : World) (y2 y3 : Value), Rd p (blk l5) w1 → Cq (w.heap.size + 1) [.int .u8 0, .int .i64 KA, y2, y3, .int .i64 0, .int .i64 0, .slice none 0 0, .bool neg, .slice none 0 0, .slice none 0 0, .bool false, .bool false, .string ⟨#[]⟩] w1 → Calls Tryz.prog 106 #[.pointer (some ⟨p, 0, none⟩), .pointer (some ⟨w.heap.size + 1, 0, none⟩)] w1 fun e w' => e = .returned (.tuple #[]) ∧ ∃ v u, Rd p lr w' ∧ Cq (w.heap.size + 1) [.int .u8 (c.op.toNat : Int), .int .i64 KA, y2, y3, .int .i64 0, .int .i64 0, .slice none 0 0, .bool neg, v, u, .bool c.all, .bool c.prt, .string ⟨c.label.toArray⟩] w' ∧ ReS w1.heap.size c.re v w' ∧ PutS w1.heap.size c.put u w' ∧ Moved2 p (w.heap.size + 1) w1 w') (he : endedB (blk lr) = false) :
    Calls Tryz.prog 80 #[.pointer (some ⟨p, 0, none⟩)] w fun e w' => e = errV 9 ∧ Below p w w' := by
  subst hlp
  subst hk0
  unfold errV
  have hlt := h.lt
  have hr0 : Rd p l (W13 w) := h.below (W13.below w)
  have HB := Lib.hid ((W13.below w).mono (Nat.le_of_lt hlt))
  clear h
  have HW := Lib.hid (show W13 w = (w.alloc (.cells #[.int .u8 0, .int .i64 0, .int .i64 0, .slice none 0 0, .int .i64 0, .int .i64 0, .slice none 0 0, .bool false, .slice none 0 0, .slice none 0 0, .bool false, .bool false, .string ⟨#[]⟩] 41)).alloc (.cells #[.int .u8 0, .int .i64 0, .int .i64 0, .slice none 0 0, .int .i64 0, .int .i64 0, .slice none 0 0, .bool false, .slice none 0 0, .slice none 0 0, .bool false, .bool false, .string ⟨#[]⟩] 41) from rfl)
  have HK := Lib.hid (And.intro hKA hNA)
  clear hKA hNA
  go_enter Tryz.func80, Tryz.ntmps80
  go_wp2_with fail
  rw [← HW.out]
  go_wp2_with (first
      | (go_at_call 103; refine (ka _ hr0).mono ?_; rintro e w1 ⟨va, rfl, hs1, r1, m1⟩; obtain ⟨ao, N, cap, rfl⟩ := ads_slice hs1; have hc := (W13.c1 w).moved (by omega) m1; obtain ⟨c1, f1⟩ := hc.cell 1 rfl; obtain ⟨c2, f2⟩ := hc.cell 2 rfl; obtain ⟨c3, f3⟩ := hc.cell 3 rfl; have hc' := hc.put3 1 2 3 (.int .i64 0) (.int .i64 NA) (.slice ao N cap); obtain ⟨i1, _⟩ := hc'.cell 1 rfl; have M1 := (m1.two (w.heap.size + 1)).trans (Moved2.set3 p (w.heap.size + 1) 1 2 3 (.int .i64 0) (.int .i64 NA) (.slice ao N cap) w1 (by omega)); have hq1 : w.heap.size + 1 < (W13 w).heap.size := (by rw [W13.size]; omega); have hS1 := hs1.moved2 (by omega) hq1 (Moved2.set3 p (w.heap.size + 1) 1 2 3 (.int .i64 0) (.int .i64 NA) (.slice ao N cap) w1 (by omega)); have hr1 := r1.put3 (q := w.heap.size + 1) (by omega) 1 2 3 (.int .i64 0) (.int .i64 NA) (.slice ao N cap); have HC1 := Lib.hid hc'; have HM1 := Lib.hid M1; have HS1 := Lib.hid hS1; clear hc hc' M1 hS1 hs1 r1 m1 ka hr0)
      | (go_at_call 105; refine (blanks_any p lp _ hr1).mono ?_; rintro e w4 ⟨rfl, r4, m4⟩; have hc4 := HC1.out.moved (by omega) m4; have HC4 := Lib.hid hc4; have hzz := W13.size w; have HS4 := Lib.hid (SS.moved (show SS (W13 w).heap.size a (.slice ao N cap) .none (.slice none 0 0) _ from ⟨HS1.out, rfl⟩) (by omega) m4); have HM4 := Lib.hid (HM1.out.trans (m4.two _)); have hr4 := r4; clear hc4 m4 r4 hr1)
      | (go_at_call 104; refine (t33 _ hr4).mono ?_; rintro e w5 ⟨rfl, r5, m5⟩; have hc5 := HC4.out.moved (by omega) m5; obtain ⟨c7, f7⟩ := hc5.cell 7 rfl; have HC5 := Lib.hid (hc5.put 7 (.bool neg)); have HM5 := Lib.hid (HM4.out.trans ((m5.two _).trans (.set p (w.heap.size + 1) 7 (.bool neg) w5 (by omega)))); have HS5 := Lib.hid ((HS4.out.moved (by omega) m5).moved2 (by omega) (by omega) (.set p (w.heap.size + 1) 7 (.bool neg) w5 (by omega))); have hr5 := r5.moved2 (q := w.heap.size + 1) (by omega) 7 (.bool neg); clear hc5 m5 r5 t33 hr4)
      | (go_at_call 105; refine (blanks_any p l5 _ hr5).mono ?_; rintro e w6 ⟨rfl, r6, m6⟩; have hc6 := HC5.out.moved (by omega) m6; have HM6 := Lib.hid (HM5.out.trans (m6.two _)); have HS6 := Lib.hid (HS5.out.moved (by omega) m6); have hr6 := r6; clear m6 r6 hr5)
      | (go_at_call 106; refine (kl _ _ _ hr6 hc6).mono ?_; rintro e w7 ⟨rfl, v, u, r7, hc7, hre, hpu, m7⟩; obtain ⟨vo, vn, vc, rfl⟩ := res_slice hre; obtain ⟨uo, uc, rfl⟩ := own_zeroB hpu; have HC7 := Lib.hid hc7; have HM7 := Lib.hid (HM6.out.trans m7); have HL7 := Lib.hid (And.intro hre (And.intro hpu m7)); have hz6 : (W13 w).heap.size ≤ w6.heap.size := HM6.out.low.size; have HS7 := Lib.hid (HS6.out.moved2 (by omega) (by omega) m7); have hr7 := r7; clear hc7 hre hpu m7 r7 kl hr6 hc6)
      | (go_at_call 105; refine (blanks_any p lr _ hr7).mono ?_; rintro e w8 ⟨rfl, r8, m8⟩; have hc8 := HC7.out.moved (by omega) m8; have HM8 := Lib.hid (HM7.out.trans (m8.two _)); have hg8 : Cq w.heap.size zeroC w8 := (HM8.out.high _ (by omega) (by omega) (by rw [W13.size]; omega)).trans (W13.c0 w); obtain ⟨a0, a1, a2, a3, a4, a5, a6, a7, a8, a9, a10, a11, a12⟩ := cells13 hc8; obtain ⟨b0, b1, b2, b3, b4, b5, b6, b7, b8, b9, b10, b11, b12⟩ := cells13 hg8; obtain ⟨z0, z1, z2, z3, z4, z5, z6, z7, z8, z9, z10, z11, z12⟩ := frozen13 hg8; have HG8 := Lib.hid hg8; have HW8 := Lib.hid m8; have HS8 := Lib.hid (HS7.out.moved (by omega) m8); have hr8 := r8; clear hc8 m8 r8 hg8 hr7)
      | (go_at_call 107; refine (ended_any p (blk lr) _ hr8).mono ?_; rintro e w9 ⟨rfl, hw9⟩; rw [hw9]; clear hw9))
  exact ⟨rfl, rfl, HB.out.trans HM8.out.low⟩

set_option maxHeartbeats 8000000 in
set_option maxRecDepth 20000 in
theorem cmd_n_ok (p : Nat) (l : List UInt8) (w : World) (h : Rd p l w) (a : Ad) (KA NA : Int) (hKA : KA = (a.k : Int)) (hNA : NA = (a.n : Int)) (l1 : List UInt8) (ka : ∀ w1, Rd p l w1 → Calls Tryz.prog 103 #[.pointer (some ⟨p, 0, none⟩)] w1 fun e w' => ∃ v, e = .returned (.agg #[.int .i64 KA, .int .i64 NA, v]) ∧ AdS w1.heap.size a v w' ∧ Rd p l1 w' ∧ Moved p w1 w') (hk0 : KA = 0) (lp : List UInt8) (hlp : lp = l1) (neg : Bool) (l5 : List UInt8) (t33 : ∀ w1, Rd p (blk lp) w1 → Calls Tryz.prog 104 #[.pointer (some ⟨p, 0, none⟩), .int .u8 33] w1 fun e w' => e = .returned (.bool neg) ∧ Rd p l5 w' ∧ Moved p w1 w') (c : Cm) (lr : List UInt8) (kl : ∀ (w1 : World) (y2 y3 : Value), Rd p (blk l5) w1 → Cq (w.heap.size + 1) [.int .u8 0, .int .i64 KA, y2, y3, .int .i64 0, .int .i64 0, .slice none 0 0, .bool neg, .slice none 0 0, .slice none 0 0, .bool false, .bool false, .string ⟨#[]⟩] w1 → Calls Tryz.prog 106 #[.pointer (some ⟨p, 0, none⟩), .pointer (some ⟨w.heap.size + 1, 0, none⟩)] w1 fun e w' => e = .returned (.tuple #[]) ∧ ∃ v u, Rd p lr w' ∧ Cq (w.heap.size + 1) [.int .u8 (c.op.toNat : Int), .int .i64 KA, y2, y3, .int .i64 0, .int .i64 0, .slice none 0 0, .bool neg, v, u, .bool c.all, .bool c.prt, .string ⟨c.label.toArray⟩] w' ∧ ReS w1.heap.size c.re v w' ∧ PutS w1.heap.size c.put u w' ∧ Moved2 p (w.heap.size + 1) w1 w') (he : endedB (blk lr) = true) (hneg : c.neg = neg) (hca : c.a = a) (hcb : c.b = .none) :
    Calls Tryz.prog 80 #[.pointer (some ⟨p, 0, none⟩)] w fun e w' => ∃ xs, e = .returned (.agg ⟨xs⟩) ∧ CmS w.heap.size c xs w' ∧ Rd p (blk lr) w' ∧ Moved p w w' := by
  subst hlp
  subst hk0
  have hlt := h.lt
  have hr0 : Rd p l (W13 w) := h.below (W13.below w)
  have HB := Lib.hid ((W13.below w).mono (Nat.le_of_lt hlt))
  clear h
  have HW := Lib.hid (show W13 w = (w.alloc (.cells #[.int .u8 0, .int .i64 0, .int .i64 0, .slice none 0 0, .int .i64 0, .int .i64 0, .slice none 0 0, .bool false, .slice none 0 0, .slice none 0 0, .bool false, .bool false, .string ⟨#[]⟩] 41)).alloc (.cells #[.int .u8 0, .int .i64 0, .int .i64 0, .slice none 0 0, .int .i64 0, .int .i64 0, .slice none 0 0, .bool false, .slice none 0 0, .slice none 0 0, .bool false, .bool false, .string ⟨#[]⟩] 41) from rfl)
  have HK := Lib.hid (And.intro hKA hNA)
  clear hKA hNA
  go_enter Tryz.func80, Tryz.ntmps80
  go_wp2_with fail
  rw [← HW.out]
  go_wp2_with (first
      | (go_at_call 103; refine (ka _ hr0).mono ?_; rintro e w1 ⟨va, rfl, hs1, r1, m1⟩; obtain ⟨ao, N, cap, rfl⟩ := ads_slice hs1; have hc := (W13.c1 w).moved (by omega) m1; obtain ⟨c1, f1⟩ := hc.cell 1 rfl; obtain ⟨c2, f2⟩ := hc.cell 2 rfl; obtain ⟨c3, f3⟩ := hc.cell 3 rfl; have hc' := hc.put3 1 2 3 (.int .i64 0) (.int .i64 NA) (.slice ao N cap); obtain ⟨i1, _⟩ := hc'.cell 1 rfl; have M1 := (m1.two (w.heap.size + 1)).trans (Moved2.set3 p (w.heap.size + 1) 1 2 3 (.int .i64 0) (.int .i64 NA) (.slice ao N cap) w1 (by omega)); have hq1 : w.heap.size + 1 < (W13 w).heap.size := (by rw [W13.size]; omega); have hS1 := hs1.moved2 (by omega) hq1 (Moved2.set3 p (w.heap.size + 1) 1 2 3 (.int .i64 0) (.int .i64 NA) (.slice ao N cap) w1 (by omega)); have hr1 := r1.put3 (q := w.heap.size + 1) (by omega) 1 2 3 (.int .i64 0) (.int .i64 NA) (.slice ao N cap); have HC1 := Lib.hid hc'; have HM1 := Lib.hid M1; have HS1 := Lib.hid hS1; clear hc hc' M1 hS1 hs1 r1 m1 ka hr0)
      | (go_at_call 105; refine (blanks_any p lp _ hr1).mono ?_; rintro e w4 ⟨rfl, r4, m4⟩; have hc4 := HC1.out.moved (by omega) m4; have HC4 := Lib.hid hc4; have hzz := W13.size w; have HS4 := Lib.hid (SS.moved (show SS (W13 w).heap.size a (.slice ao N cap) .none (.slice none 0 0) _ from ⟨HS1.out, rfl⟩) (by omega) m4); have HM4 := Lib.hid (HM1.out.trans (m4.two _)); have hr4 := r4; clear hc4 m4 r4 hr1)
      | (go_at_call 104; refine (t33 _ hr4).mono ?_; rintro e w5 ⟨rfl, r5, m5⟩; have hc5 := HC4.out.moved (by omega) m5; obtain ⟨c7, f7⟩ := hc5.cell 7 rfl; have HC5 := Lib.hid (hc5.put 7 (.bool neg)); have HM5 := Lib.hid (HM4.out.trans ((m5.two _).trans (.set p (w.heap.size + 1) 7 (.bool neg) w5 (by omega)))); have HS5 := Lib.hid ((HS4.out.moved (by omega) m5).moved2 (by omega) (by omega) (.set p (w.heap.size + 1) 7 (.bool neg) w5 (by omega))); have hr5 := r5.moved2 (q := w.heap.size + 1) (by omega) 7 (.bool neg); clear hc5 m5 r5 t33 hr4)
      | (go_at_call 105; refine (blanks_any p l5 _ hr5).mono ?_; rintro e w6 ⟨rfl, r6, m6⟩; have hc6 := HC5.out.moved (by omega) m6; have HM6 := Lib.hid (HM5.out.trans (m6.two _)); have HS6 := Lib.hid (HS5.out.moved (by omega) m6); have hr6 := r6; clear m6 r6 hr5)
      | (go_at_call 106; refine (kl _ _ _ hr6 hc6).mono ?_; rintro e w7 ⟨rfl, v, u, r7, hc7, hre, hpu, m7⟩; obtain ⟨vo, vn, vc, rfl⟩ := res_slice hre; obtain ⟨uo, uc, rfl⟩ := own_zeroB hpu; have HC7 := Lib.hid hc7; have HM7 := Lib.hid (HM6.out.trans m7); have HL7 := Lib.hid (And.intro hre (And.intro hpu m7)); have hz6 : (W13 w).heap.size ≤ w6.heap.size := HM6.out.low.size; have HS7 := Lib.hid (HS6.out.moved2 (by omega) (by omega) m7); have hr7 := r7; clear hc7 hre hpu m7 r7 kl hr6 hc6)
      | (go_at_call 105; refine (blanks_any p lr _ hr7).mono ?_; rintro e w8 ⟨rfl, r8, m8⟩; have hc8 := HC7.out.moved (by omega) m8; have HM8 := Lib.hid (HM7.out.trans (m8.two _)); have hg8 : Cq w.heap.size zeroC w8 := (HM8.out.high _ (by omega) (by omega) (by rw [W13.size]; omega)).trans (W13.c0 w); obtain ⟨a0, a1, a2, a3, a4, a5, a6, a7, a8, a9, a10, a11, a12⟩ := cells13 hc8; obtain ⟨b0, b1, b2, b3, b4, b5, b6, b7, b8, b9, b10, b11, b12⟩ := cells13 hg8; obtain ⟨z0, z1, z2, z3, z4, z5, z6, z7, z8, z9, z10, z11, z12⟩ := frozen13 hg8; have HG8 := Lib.hid hg8; have HW8 := Lib.hid m8; have HS8 := Lib.hid (HS7.out.moved (by omega) m8); have hr8 := r8; clear hc8 m8 r8 hg8 hr7)
      | (go_at_call 107; refine (ended_any p (blk lr) _ hr8).mono ?_; rintro e w9 ⟨rfl, hw9⟩; rw [hw9]; clear hw9))
  have hc9 := put13_cells rfl HG8.out (.int .u8 (c.op.toNat : Int)) (.int .i64 0) (.int .i64 NA) (.slice ao N cap) (.int .i64 0) (.int .i64 0) (.slice none 0 0) (.bool neg) (.slice vo vn vc) (.slice uo c.put.length uc) (.bool c.all) (.bool c.prt) (.string ⟨c.label.toArray⟩)
  have ho9 := fun r (hr : r ≠ w.heap.size) => put13_other hr w8 (.int .u8 (c.op.toNat : Int)) (.int .i64 0) (.int .i64 NA) (.slice ao N cap) (.int .i64 0) (.int .i64 0) (.slice none 0 0) (.bool neg) (.slice vo vn vc) (.slice uo c.put.length uc) (.bool c.all) (.bool c.prt) (.string ⟨c.label.toArray⟩)
  have hb9 := put13_below (q := w.heap.size) (HB.out.trans HM8.out.low) (Nat.le_of_lt hlt) (.int .u8 (c.op.toNat : Int)) (.int .i64 0) (.int .i64 NA) (.slice ao N cap) (.int .i64 0) (.int .i64 0) (.slice none 0 0) (.bool neg) (.slice vo vn vc) (.slice uo c.put.length uc) (.bool c.all) (.bool c.prt) (.string ⟨c.label.toArray⟩)
  have hsz := W13.size w
  have hm : Moved2 p w.heap.size w8 (put13 w8 w.heap.size (.int .u8 (c.op.toNat : Int)) (.int .i64 0) (.int .i64 NA) (.slice ao N cap) (.int .i64 0) (.int .i64 0) (.slice none 0 0) (.bool neg) (.slice vo vn vc) (.slice uo c.put.length uc) (.bool c.all) (.bool c.prt) (.string ⟨c.label.toArray⟩)) := ⟨put13_below (Below.refl _ _) (Nat.le_of_lt hlt) (.int .u8 (c.op.toNat : Int)) (.int .i64 0) (.int .i64 NA) (.slice ao N cap) (.int .i64 0) (.int .i64 0) (.slice none 0 0) (.bool neg) (.slice vo vn vc) (.slice uo c.put.length uc) (.bool c.all) (.bool c.prt) (.string ⟨c.label.toArray⟩), fun r _ hr _ => ho9 r hr⟩
  have hq6 : w.heap.size + 1 < w6.heap.size := by omega
  obtain ⟨g1, g2⟩ := HS8.out.moved2 (by omega) (by omega) hm
  have g3 := ((HL7.out.1.base (B' := (W13 w).heap.size) hz6).moved2 (by omega) (by omega) (HW8.out.two (w.heap.size + 1))).moved2 (by omega) (by omega) hm
  have g4 := owns_moved2 (owns_moved2 (owns_base HL7.out.2.1 (B' := (W13 w).heap.size) hz6) (by omega) (by omega) (HW8.out.two (w.heap.size + 1))) (by omega) (by omega) hm
  obtain ⟨hKA, hNA⟩ := HK.out
  have hX : CmS w.heap.size c [.int .u8 (c.op.toNat : Int), .int .i64 0, .int .i64 NA, .slice ao N cap, .int .i64 0, .int .i64 0, .slice none 0 0, .bool neg, .slice vo vn vc, .slice uo c.put.length uc, .bool c.all, .bool c.prt, .string ⟨c.label.toArray⟩] (put13 w8 w.heap.size (.int .u8 (c.op.toNat : Int)) (.int .i64 0) (.int .i64 NA) (.slice ao N cap) (.int .i64 0) (.int .i64 0) (.slice none 0 0) (.bool neg) (.slice vo vn vc) (.slice uo c.put.length uc) (.bool c.all) (.bool c.prt) (.string ⟨c.label.toArray⟩)) :=
    ⟨.slice ao N cap, .slice none 0 0, .slice vo vn vc, .slice uo c.put.length uc, by rw [hneg, hca, hcb, ← hKA, ← hNA]; try rfl, by rw [hca]; exact g1.base (by omega), by rw [hcb]; exact g2.base (by omega), g3.base (by omega), owns_base g4 (by omega)⟩
  exact bodyPost_ret (v := .agg _) (results_cell_row (p := 2) (ty := 41) Tryz.results80 _ _ w.heap.size 41 _ (0, 0) _ rfl hc9 Tryz.underlying41 rfl Tryz.infoCmd) rfl
    ⟨_, rfl, hX, (ho9 p (by omega)).trans hr8, hb9, fun g hg hs => (ho9 g (by omega)).trans ((HM8.out.high g hg (by omega) (by omega)).trans ((W13.below w).block g hs))⟩
end Go.Proofs.YtkgpnlldlekcbaaGreatDoor
