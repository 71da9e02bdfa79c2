/- Packed texts: ShellWrapsWalk. What each of them proves stands above its theorems; the conditions stand in these. -/
import Derived.Test.YtabkmimpkoiajaaDoorA3
import Derived.Test.YtabkmimpkoiajaaDoorA19
import Derived.Test.YtabkmimpkoiajaaDoorA21
namespace Go.Proofs.YtabkmimpkoiajaaDoor
open Go.RowKit Go.Lib

theorem if3_text (l : List UInt8) : (⟨#[105, 102, 32]⟩ : ByteArray) ++ ⟨l.toArray⟩ ++ ⟨#[10, 116, 104, 101, 110, 32]⟩ ++ ⟨l.toArray⟩ ++ ⟨#[10, 101, 108, 115, 101, 32]⟩ ++ ⟨l.toArray⟩ ++ ⟨#[10, 102, 105]⟩ = ⟨(tIf3 l).toArray⟩ := by
  apply ByteArray.ext
  simp [tIf3]
theorem wh_text (l : List UInt8) : (⟨#[119, 104, 105, 108, 101, 32]⟩ : ByteArray) ++ ⟨l.toArray⟩ ++ ⟨#[10, 100, 111, 32]⟩ ++ ⟨l.toArray⟩ ++ ⟨#[10, 100, 111, 110, 101]⟩ = ⟨(tWh l).toArray⟩ := by
  apply ByteArray.ext
  simp [tWh]
theorem sub_text (l : List UInt8) : (⟨#[120, 61, 36, 40]⟩ : ByteArray) ++ ⟨l.toArray⟩ ++ ⟨#[10, 41]⟩ = ⟨(tSub l).toArray⟩ := by
  apply ByteArray.ext
  simp [tSub]
theorem if3_read {l : List UInt8} {A : List Co} (ha : readSh l = (A, 0)) (hA : A ≠ []) (hl : l.length ≤ 1500) : readSh (tIf3 l) = ([.mk 4 [] [] [] A A A], 0) ∨ readSh (tIf3 l) = ([], 7) := by
  have hz : (tIf3 l).length ≤ 1048576 := by simp [tIf3]; omega
  rcases wrap_if3 (k := 29) (read_ok ha).1 hA with h | h
  · exact .inl (ok_read h hz)
  · exact .inr (bad_read h hz)
theorem if3_none {l : List UInt8} (ha : readSh l = ([], 0)) (hl : l.length ≤ 1500) : readSh (tIf3 l) = ([], 9) := bad_read (wrap_if3_none (k := 29) (read_ok ha).1) (by simp [tIf3]; omega)
theorem wh_read {l : List UInt8} {A : List Co} (ha : readSh l = (A, 0)) (hA : A ≠ []) (hl : l.length ≤ 1500) : readSh (tWh l) = ([.mk 5 [] [] [] A A []], 0) ∨ readSh (tWh l) = ([], 7) := by
  have hz : (tWh l).length ≤ 1048576 := by simp [tWh]; omega
  rcases wrap_wh (k := 29) (read_ok ha).1 hA with h | h
  · exact .inl (ok_read h hz)
  · exact .inr (bad_read h hz)
theorem wh_none {l : List UInt8} (ha : readSh l = ([], 0)) (hl : l.length ≤ 1500) : readSh (tWh l) = ([], 9) := bad_read (wrap_wh_none (k := 29) (read_ok ha).1) (by simp [tWh]; omega)
theorem sub_read {l : List UInt8} {A : List Co} (hh : l.head? ≠ some 40) (ha : readSh l = (A, 0)) (hl : l.length ≤ 1500) : readSh (tSub l) = ([.mk 1 [[120]] [[⟨7, false, [], [], A⟩]] [] [] [] []], 0) ∨ readSh (tSub l) = ([], 7) := by
  have hz : (tSub l).length ≤ 1048576 := by simp [tSub]; omega
  rcases wrap_sub (k := 29) hh (read_ok ha).1 with h | h
  · exact .inl (ok_read h hz)
  · exact .inr (bad_read h hz)
/-- The four readings. -/
def KRd (S : ByteArray) (A B C D : List Co) (nA nB nC nD : Nat) (xe xf xg xh : Int) : Prop :=
  (∀ w, Calls Tryd.prog 14 #[.string S] w (RdN A nA xe w)) ∧
  (∀ w, Calls Tryd.prog 14 #[.string ((⟨#[105, 102, 32]⟩ : ByteArray) ++ S ++ ⟨#[10, 116, 104, 101, 110, 32]⟩ ++ S ++ ⟨#[10, 101, 108, 115, 101, 32]⟩ ++ S ++ ⟨#[10, 102, 105]⟩)] w (RdN B nB xf w)) ∧
  (∀ w, Calls Tryd.prog 14 #[.string ((⟨#[119, 104, 105, 108, 101, 32]⟩ : ByteArray) ++ S ++ ⟨#[10, 100, 111, 32]⟩ ++ S ++ ⟨#[10, 100, 111, 110, 101]⟩)] w (RdN C nC xg w)) ∧
  ∀ w, Calls Tryd.prog 14 #[.string ((⟨#[120, 61, 36, 40]⟩ : ByteArray) ++ S ++ ⟨#[10, 41]⟩)] w (RdN D nD xh w)
/-- No sum of these texts' lengths comes round. -/
def SumsW (S : ByteArray) : Prop :=
  (9223372036854775807 < (⟨#[105, 102, 32]⟩ : ByteArray).size + S.size) = False ∧ (9223372036854775807 < ((⟨#[105, 102, 32]⟩ : ByteArray) ++ S).size + (⟨#[10, 116, 104, 101, 110, 32]⟩ : ByteArray).size) = False ∧ (9223372036854775807 < ((⟨#[105, 102, 32]⟩ : ByteArray) ++ S ++ ⟨#[10, 116, 104, 101, 110, 32]⟩).size + S.size) = False ∧ (9223372036854775807 < ((⟨#[105, 102, 32]⟩ : ByteArray) ++ S ++ ⟨#[10, 116, 104, 101, 110, 32]⟩ ++ S).size + (⟨#[10, 101, 108, 115, 101, 32]⟩ : ByteArray).size) = False ∧ (9223372036854775807 < ((⟨#[105, 102, 32]⟩ : ByteArray) ++ S ++ ⟨#[10, 116, 104, 101, 110, 32]⟩ ++ S ++ ⟨#[10, 101, 108, 115, 101, 32]⟩).size + S.size) = False ∧ (9223372036854775807 < ((⟨#[105, 102, 32]⟩ : ByteArray) ++ S ++ ⟨#[10, 116, 104, 101, 110, 32]⟩ ++ S ++ ⟨#[10, 101, 108, 115, 101, 32]⟩ ++ S).size + (⟨#[10, 102, 105]⟩ : ByteArray).size) = False ∧
  (9223372036854775807 < (⟨#[119, 104, 105, 108, 101, 32]⟩ : ByteArray).size + S.size) = False ∧ (9223372036854775807 < ((⟨#[119, 104, 105, 108, 101, 32]⟩ : ByteArray) ++ S).size + (⟨#[10, 100, 111, 32]⟩ : ByteArray).size) = False ∧ (9223372036854775807 < ((⟨#[119, 104, 105, 108, 101, 32]⟩ : ByteArray) ++ S ++ ⟨#[10, 100, 111, 32]⟩).size + S.size) = False ∧ (9223372036854775807 < ((⟨#[119, 104, 105, 108, 101, 32]⟩ : ByteArray) ++ S ++ ⟨#[10, 100, 111, 32]⟩ ++ S).size + (⟨#[10, 100, 111, 110, 101]⟩ : ByteArray).size) = False ∧
  (9223372036854775807 < (⟨#[120, 61, 36, 40]⟩ : ByteArray).size + S.size) = False ∧ (9223372036854775807 < ((⟨#[120, 61, 36, 40]⟩ : ByteArray) ++ S).size + (⟨#[10, 41]⟩ : ByteArray).size) = False
theorem sums_w (S : ByteArray) (h : S.size ≤ 1500) : SumsW S := by
  have z1 : (⟨#[105, 102, 32]⟩ : ByteArray).size = 3 := rfl
  have z2 : (⟨#[10, 116, 104, 101, 110, 32]⟩ : ByteArray).size = 6 := rfl
  have z3 : (⟨#[10, 101, 108, 115, 101, 32]⟩ : ByteArray).size = 6 := rfl
  have z4 : (⟨#[10, 102, 105]⟩ : ByteArray).size = 3 := rfl
  have z5 : (⟨#[119, 104, 105, 108, 101, 32]⟩ : ByteArray).size = 6 := rfl
  have z6 : (⟨#[10, 100, 111, 32]⟩ : ByteArray).size = 4 := rfl
  have z7 : (⟨#[10, 100, 111, 110, 101]⟩ : ByteArray).size = 5 := rfl
  have z8 : (⟨#[120, 61, 36, 40]⟩ : ByteArray).size = 4 := rfl
  have z9 : (⟨#[10, 41]⟩ : ByteArray).size = 2 := rfl
  unfold SumsW
  simp only [eq_iff_iff, iff_false, ByteArray.size_append]
  refine ⟨?_, ?_, ?_, ?_, ?_, ?_, ?_, ?_, ?_, ?_, ?_, ?_⟩ <;> omega
/-- The same commands are the same. -/
theorem same_self (A : List Co) (m n : Nat) (hm : m ≤ 93) (hn : n ≤ 93) (u v : Value) (F G : Nat → Prop) (w : World) (h1 : (cosV m).q F w u A) (h2 : (cosV n).q G w v A) (hF : ∀ g, F g → g < w.heap.size) (hG : ∀ g, G g → g < w.heap.size) : Calls Tryd.prog 15 #[u, v] w fun e w' => e = .returned (.bool true) ∧ Below w.heap.size w w' := by
  have := same_all 93 u v A A F G w (cos_ups hm _ _ _ _ h1) (cos_ups hn _ _ _ _ h2) hF hG
  rwa [eqB_self] at this
set_option maxHeartbeats 4000000 in
set_option maxRecDepth 20000 in
theorem wraps_big (S : ByteArray) (hs : S.size ≤ 140737488351232) (h : 1500 < S.size) (w : World) : Calls Tryd.prog 5 #[.string S] w fun e w' => e = .returned (.bool true) ∧ Below w.heap.size w w' := by
  have kS := shownSh_any w
  have hd : decide ((1500 : Int) < (S.size : Int)) = true := by simpa using (by omega : (1500 : Int) < (S.size : Int))
  go_enter Tryd.func5, Tryd.ntmps5
  go_wp2_with (go_at_call 13; (with_reducible refine kS.mono ?_); rintro e w1 ⟨rfl, hb⟩)
  all_goals exact bodyPost_ret (results_tmp rfl _ _ _) rfl ⟨rfl, hb⟩
set_option maxHeartbeats 8000000 in
set_option maxRecDepth 20000 in
/-- The script can't be read. -/
theorem wraps_bad (S : ByteArray) (h : S.size ≤ 1500) (A B C D : List Co) (nA nB nC nD : Nat) (xe xf xg xh : Int) (hx : (xe == 0) = false) (KR : KRd S A B C D nA nB nC nD xe xf xg xh) (w : World) : Calls Tryd.prog 5 #[.string S] w fun e w' => e = .returned (.bool true) ∧ Below w.heap.size w w' := by
  have kS := shownSh_any w
  have hd : decide ((1500 : Int) < (S.size : Int)) = false := by simp; omega
  obtain ⟨s1, s2, s3, s4, s5, s6, s7, s8, s9, sa, sb, sc⟩ := sums_w S h
  obtain ⟨kA, kB, kC, kD⟩ := KR
  have hx2 : ¬ xe = 0 := by simpa using hx
  go_enter Tryd.func5, Tryd.ntmps5
  go_wp2_with (first
    | (go_at_call 13; (with_reducible refine kS.mono ?_); rintro e w1 ⟨rfl, hb⟩; have HB := Lib.hid hb; clear hb)
    | (go_at_call 14; first | ((with_reducible refine (kA _).mono ?_); rintro e w2 ⟨ao, ca, rfl, hq, hb⟩; have HB2 := Lib.hid (HB.out.trans (hb.mono HB.out.size)); clear hb hq kA) | ((with_reducible refine (kB _).mono ?_); rintro e w3 ⟨bo, cb, rfl, hq, hb⟩; have HB3 := Lib.hid (HB2.out.trans (hb.mono HB2.out.size)); clear hb hq kB) | ((with_reducible refine (kC _).mono ?_); rintro e w4 ⟨co, cc, rfl, hq, hb⟩; have HB4 := Lib.hid (HB3.out.trans (hb.mono HB3.out.size)); clear hb hq kC) | ((with_reducible refine (kD _).mono ?_); rintro e w5 ⟨dd, cd, rfl, hq, hb⟩; have HB5 := Lib.hid (HB4.out.trans (hb.mono HB4.out.size)); clear hb hq kD)))
  exact bodyPost_ret (results_tmp rfl _ _ _) rfl ⟨rfl, HB5.out⟩
set_option maxHeartbeats 8000000 in
set_option maxRecDepth 20000 in
/-- It begins with a bracket. -/
theorem wraps_paren (S : ByteArray) (h : S.size ≤ 1500) (A B C D : List Co) (nA nB nC nD : Nat) (xf xg xh : Int) (h0 : 0 < S.size) (hp : ((S[0]'h0).toNat : Int) = 40) (KR : KRd S A B C D nA nB nC nD 0 xf xg xh) (w : World) : Calls Tryd.prog 5 #[.string S] w fun e w' => e = .returned (.bool true) ∧ Below w.heap.size w w' := by
  have kS := shownSh_any w
  have hd : decide ((1500 : Int) < (S.size : Int)) = false := by simp; omega
  obtain ⟨s1, s2, s3, s4, s5, s6, s7, s8, s9, sa, sb, sc⟩ := sums_w S h
  obtain ⟨kA, kB, kC, kD⟩ := KR
  have hp1 : (((S[0]'h0).toNat : Int) == 40) = true := by rw [hp]; rfl
  have h0i : decide ((0 : Int) < (S.size : Int)) = true := decide_eq_true (by omega)
  clear hp
  go_enter Tryd.func5, Tryd.ntmps5
  go_wp2_with (first
    | (go_at_call 13; (with_reducible refine kS.mono ?_); rintro e w1 ⟨rfl, hb⟩; have HB := Lib.hid hb; clear hb)
    | (go_at_call 14; first | ((with_reducible refine (kA _).mono ?_); rintro e w2 ⟨ao, ca, rfl, hq, hb⟩; have HB2 := Lib.hid (HB.out.trans (hb.mono HB.out.size)); clear hb hq kA) | ((with_reducible refine (kB _).mono ?_); rintro e w3 ⟨bo, cb, rfl, hq, hb⟩; have HB3 := Lib.hid (HB2.out.trans (hb.mono HB2.out.size)); clear hb hq kB) | ((with_reducible refine (kC _).mono ?_); rintro e w4 ⟨co, cc, rfl, hq, hb⟩; have HB4 := Lib.hid (HB3.out.trans (hb.mono HB3.out.size)); clear hb hq kC) | ((with_reducible refine (kD _).mono ?_); rintro e w5 ⟨dd, cd, rfl, hq, hb⟩; have HB5 := Lib.hid (HB4.out.trans (hb.mono HB4.out.size)); clear hb hq kD)))
  exact bodyPost_ret (results_tmp rfl _ _ _) rfl ⟨rfl, HB5.out⟩
set_option maxHeartbeats 8000000 in
set_option maxRecDepth 20000 in
/-- It has no command; too deep in a word. -/
theorem wraps_none7 (S : ByteArray) (h : S.size ≤ 1500) (B C D : List Co) (nB nC nD : Nat) (hnp : (∃ h0 : 0 < S.size, (((S[0]'h0).toNat : Int) == 40) = false) ∨ S.size = 0) (KR : KRd S [] B C D 0 nB nC nD 0 9 9 7) (w : World) : Calls Tryd.prog 5 #[.string S] w fun e w' => e = .returned (.bool true) ∧ Below w.heap.size w w' := by
  have kS := shownSh_any w
  have hd : decide ((1500 : Int) < (S.size : Int)) = false := by simp; omega
  obtain ⟨s1, s2, s3, s4, s5, s6, s7, s8, s9, sa, sb, sc⟩ := sums_w S h
  obtain ⟨kA, kB, kC, kD⟩ := KR
  rcases hnp with ⟨h0, hp⟩ | h0
  · have h0i : decide ((0 : Int) < (S.size : Int)) = true := decide_eq_true (by omega)
    go_enter Tryd.func5, Tryd.ntmps5
    go_wp2_with (first
      | (go_at_call 13; (with_reducible refine kS.mono ?_); rintro e w1 ⟨rfl, hb⟩; have HB := Lib.hid hb; clear hb)
      | (go_at_call 14; first | ((with_reducible refine (kA _).mono ?_); rintro e w2 ⟨ao, ca, rfl, hq, hb⟩; have HB2 := Lib.hid (HB.out.trans (hb.mono HB.out.size)); clear hb hq kA) | ((with_reducible refine (kB _).mono ?_); rintro e w3 ⟨bo, cb, rfl, hq, hb⟩; have HB3 := Lib.hid (HB2.out.trans (hb.mono HB2.out.size)); clear hb hq kB) | ((with_reducible refine (kC _).mono ?_); rintro e w4 ⟨co, cc, rfl, hq, hb⟩; have HB4 := Lib.hid (HB3.out.trans (hb.mono HB3.out.size)); clear hb hq kC) | ((with_reducible refine (kD _).mono ?_); rintro e w5 ⟨dd, cd, rfl, hq, hb⟩; have HB5 := Lib.hid (HB4.out.trans (hb.mono HB4.out.size)); clear hb hq kD)))
    exact bodyPost_ret (results_tmp rfl _ _ _) rfl ⟨rfl, HB5.out⟩
  · have h0i : decide ((0 : Int) < (S.size : Int)) = false := decide_eq_false (by omega)
    go_enter Tryd.func5, Tryd.ntmps5
    go_wp2_with (first
      | (go_at_call 13; (with_reducible refine kS.mono ?_); rintro e w1 ⟨rfl, hb⟩; have HB := Lib.hid hb; clear hb)
      | (go_at_call 14; first | ((with_reducible refine (kA _).mono ?_); rintro e w2 ⟨ao, ca, rfl, hq, hb⟩; have HB2 := Lib.hid (HB.out.trans (hb.mono HB.out.size)); clear hb hq kA) | ((with_reducible refine (kB _).mono ?_); rintro e w3 ⟨bo, cb, rfl, hq, hb⟩; have HB3 := Lib.hid (HB2.out.trans (hb.mono HB2.out.size)); clear hb hq kB) | ((with_reducible refine (kC _).mono ?_); rintro e w4 ⟨co, cc, rfl, hq, hb⟩; have HB4 := Lib.hid (HB3.out.trans (hb.mono HB3.out.size)); clear hb hq kC) | ((with_reducible refine (kD _).mono ?_); rintro e w5 ⟨dd, cd, rfl, hq, hb⟩; have HB5 := Lib.hid (HB4.out.trans (hb.mono HB4.out.size)); clear hb hq kD)))
    exact bodyPost_ret (results_tmp rfl _ _ _) rfl ⟨rfl, HB5.out⟩
set_option maxHeartbeats 8000000 in
set_option maxRecDepth 20000 in
/-- It has no command. -/
theorem wraps_none0 (S : ByteArray) (h : S.size ≤ 1500) (A B C : List Co) (nB nC : Nat) (_hA : A = []) (hnp : (∃ h0 : 0 < S.size, (((S[0]'h0).toNat : Int) == 40) = false) ∨ S.size = 0) (KR : KRd S A B C [.mk 1 [[120]] [[⟨7, false, [], [], A⟩]] [] [] [] []] 0 nB nC 1 0 9 9 0) (w : World) : Calls Tryd.prog 5 #[.string S] w fun e w' => e = .returned (.bool true) ∧ Below w.heap.size w w' := by
  have kS := shownSh_any w
  have hd : decide ((1500 : Int) < (S.size : Int)) = false := by simp; omega
  obtain ⟨s1, s2, s3, s4, s5, s6, s7, s8, s9, sa, sb, sc⟩ := sums_w S h
  obtain ⟨kA, kB, kC, kD⟩ := KR
  rcases hnp with ⟨h0, hp⟩ | h0
  · have h0i : decide ((0 : Int) < (S.size : Int)) = true := decide_eq_true (by omega)
    go_enter Tryd.func5, Tryd.ntmps5
    go_wp2_with (first
      | (go_at_call 13; (with_reducible refine kS.mono ?_); rintro e w1 ⟨rfl, hb⟩; have HB := Lib.hid hb; clear hb)
      | (go_at_call 14; first | ((with_reducible refine (kA _).mono ?_); rintro e w2 ⟨ao, ca, rfl, hq, hb⟩; have HB2 := Lib.hid (HB.out.trans (hb.mono HB.out.size)); have QA2 := Lib.hid hq; clear hb hq kA) | ((with_reducible refine (kB _).mono ?_); rintro e w3 ⟨bo, cb, rfl, hq, hb⟩; have HB3 := Lib.hid (HB2.out.trans (hb.mono HB2.out.size)); have HZ3 := Lib.hid hb.size; have QA3 := Lib.hid (val_below QA2.out (fun g hg => hg.2) hb); clear hb hq kB) | ((with_reducible refine (kC _).mono ?_); rintro e w4 ⟨co, cc, rfl, hq, hb⟩; have HB4 := Lib.hid (HB3.out.trans (hb.mono HB3.out.size)); have HZ4 := Lib.hid hb.size; have QA4 := Lib.hid (val_below QA3.out (fun g hg => Nat.lt_of_lt_of_le hg.2 HZ3.out) hb); clear hb hq kC) | ((with_reducible refine (kD _).mono ?_); rintro e w5 ⟨dd, cd, rfl, hq, hb⟩; have HB5 := Lib.hid (HB4.out.trans (hb.mono HB4.out.size)); have HZ5 := Lib.hid hb.size; have QA5 := Lib.hid (val_below QA4.out (fun g hg => Nat.lt_of_lt_of_le hg.2 (Nat.le_trans HZ3.out HZ4.out)) hb); have GA5 := Lib.hid (fun g (hg : NewF w1.heap.size w2.heap.size g) => Nat.lt_of_lt_of_le hg.2 (Nat.le_trans (Nat.le_trans HZ3.out HZ4.out) HZ5.out)); have QD5 := Lib.hid hq; obtain ⟨g1, p1, an, nn, cn, av, nv, cv, aw, nw, cw, aa, na, ca1, ab, nb, cb1, ac, nc, cc1, e1, hp1, hg1, ⟨a0, a1, a2, a3, a4, a5, a6⟩, -, ⟨z2, y2⟩, -, -, -, -, -, q2, -, -, -, -⟩ := cmd_at hq (i := 0) rfl; injection e1 with e1 e1b e1c; subst e1; clear e1b e1c; obtain rfl : nv = 1 := z2; obtain ⟨g2, p2, bo2, m2, c2, e2, hp2, hg2, b0, z4, y4, q4⟩ := wd_at q2 (i := 0) rfl; injection e2 with e2 e2b e2c; subst e2; clear e2b e2c; obtain rfl : m2 = 1 := z4; obtain ⟨g5, p5, lo, m5, c5, e5, hp5, hg5, ⟨d0, d1, d2, d3, d4⟩, z5, y5, q5⟩ := pt_at q4 (i := 0) rfl; injection e5 with e5 e5b e5c; subst e5; clear e5b e5c; have KD1 := same_self A 92 93 (by omega) (by omega) _ _ _ _ w5 q5 QA5.out (fun g hg => hg.2) GA5.out; clear a0 a1 a3 a4 a5 a6 d0 d1 d2 d3 q2 q4 q5 z5 y5 y4 y2; clear hb hq kD))
      | (go_at_call 15; (with_reducible refine KD1.mono ?_); rintro e w6 ⟨rfl, hb⟩; have M6 := Lib.hid hb; clear hb))
    exact bodyPost_ret (results_tmp rfl _ _ _) rfl ⟨rfl, HB5.out.trans (M6.out.mono HB5.out.size)⟩
  · have h0i : decide ((0 : Int) < (S.size : Int)) = false := decide_eq_false (by omega)
    go_enter Tryd.func5, Tryd.ntmps5
    go_wp2_with (first
      | (go_at_call 13; (with_reducible refine kS.mono ?_); rintro e w1 ⟨rfl, hb⟩; have HB := Lib.hid hb; clear hb)
      | (go_at_call 14; first | ((with_reducible refine (kA _).mono ?_); rintro e w2 ⟨ao, ca, rfl, hq, hb⟩; have HB2 := Lib.hid (HB.out.trans (hb.mono HB.out.size)); have QA2 := Lib.hid hq; clear hb hq kA) | ((with_reducible refine (kB _).mono ?_); rintro e w3 ⟨bo, cb, rfl, hq, hb⟩; have HB3 := Lib.hid (HB2.out.trans (hb.mono HB2.out.size)); have HZ3 := Lib.hid hb.size; have QA3 := Lib.hid (val_below QA2.out (fun g hg => hg.2) hb); clear hb hq kB) | ((with_reducible refine (kC _).mono ?_); rintro e w4 ⟨co, cc, rfl, hq, hb⟩; have HB4 := Lib.hid (HB3.out.trans (hb.mono HB3.out.size)); have HZ4 := Lib.hid hb.size; have QA4 := Lib.hid (val_below QA3.out (fun g hg => Nat.lt_of_lt_of_le hg.2 HZ3.out) hb); clear hb hq kC) | ((with_reducible refine (kD _).mono ?_); rintro e w5 ⟨dd, cd, rfl, hq, hb⟩; have HB5 := Lib.hid (HB4.out.trans (hb.mono HB4.out.size)); have HZ5 := Lib.hid hb.size; have QA5 := Lib.hid (val_below QA4.out (fun g hg => Nat.lt_of_lt_of_le hg.2 (Nat.le_trans HZ3.out HZ4.out)) hb); have GA5 := Lib.hid (fun g (hg : NewF w1.heap.size w2.heap.size g) => Nat.lt_of_lt_of_le hg.2 (Nat.le_trans (Nat.le_trans HZ3.out HZ4.out) HZ5.out)); have QD5 := Lib.hid hq; obtain ⟨g1, p1, an, nn, cn, av, nv, cv, aw, nw, cw, aa, na, ca1, ab, nb, cb1, ac, nc, cc1, e1, hp1, hg1, ⟨a0, a1, a2, a3, a4, a5, a6⟩, -, ⟨z2, y2⟩, -, -, -, -, -, q2, -, -, -, -⟩ := cmd_at hq (i := 0) rfl; injection e1 with e1 e1b e1c; subst e1; clear e1b e1c; obtain rfl : nv = 1 := z2; obtain ⟨g2, p2, bo2, m2, c2, e2, hp2, hg2, b0, z4, y4, q4⟩ := wd_at q2 (i := 0) rfl; injection e2 with e2 e2b e2c; subst e2; clear e2b e2c; obtain rfl : m2 = 1 := z4; obtain ⟨g5, p5, lo, m5, c5, e5, hp5, hg5, ⟨d0, d1, d2, d3, d4⟩, z5, y5, q5⟩ := pt_at q4 (i := 0) rfl; injection e5 with e5 e5b e5c; subst e5; clear e5b e5c; have KD1 := same_self A 92 93 (by omega) (by omega) _ _ _ _ w5 q5 QA5.out (fun g hg => hg.2) GA5.out; clear a0 a1 a3 a4 a5 a6 d0 d1 d2 d3 q2 q4 q5 z5 y5 y4 y2; clear hb hq kD))
      | (go_at_call 15; (with_reducible refine KD1.mono ?_); rintro e w6 ⟨rfl, hb⟩; have M6 := Lib.hid hb; clear hb))
    exact bodyPost_ret (results_tmp rfl _ _ _) rfl ⟨rfl, HB5.out.trans (M6.out.mono HB5.out.size)⟩
set_option maxHeartbeats 8000000 in
set_option maxRecDepth 20000 in
/-- Too deep in a word. -/
theorem wraps_g7 (S : ByteArray) (h : S.size ≤ 1500) (A B C D : List Co) (nA nB nC nD : Nat) (xf xg : Int) (hn0 : ((nA : Int) == 0) = false) (hfg : xf = 7 ∨ xf = 0 ∧ (xg = 7 ∨ xg = 0)) (hnp : (∃ h0 : 0 < S.size, (((S[0]'h0).toNat : Int) == 40) = false) ∨ S.size = 0) (KR : KRd S A B C D nA nB nC nD 0 xf xg 7) (w : World) : Calls Tryd.prog 5 #[.string S] w fun e w' => e = .returned (.bool true) ∧ Below w.heap.size w w' := by
  have kS := shownSh_any w
  have hd : decide ((1500 : Int) < (S.size : Int)) = false := by simp; omega
  obtain ⟨s1, s2, s3, s4, s5, s6, s7, s8, s9, sa, sb, sc⟩ := sums_w S h
  obtain ⟨kA, kB, kC, kD⟩ := KR
  rcases hfg with rfl | ⟨rfl, rfl | rfl⟩
  all_goals
    rcases hnp with ⟨h0, hp⟩ | h0
    · have h0i : decide ((0 : Int) < (S.size : Int)) = true := decide_eq_true (by omega)
      go_enter Tryd.func5, Tryd.ntmps5
      go_wp2_with (first
        | (go_at_call 13; (with_reducible refine kS.mono ?_); rintro e w1 ⟨rfl, hb⟩; have HB := Lib.hid hb; clear hb)
        | (go_at_call 14; first | ((with_reducible refine (kA _).mono ?_); rintro e w2 ⟨ao, ca, rfl, hq, hb⟩; have HB2 := Lib.hid (HB.out.trans (hb.mono HB.out.size)); clear hb hq kA) | ((with_reducible refine (kB _).mono ?_); rintro e w3 ⟨bo, cb, rfl, hq, hb⟩; have HB3 := Lib.hid (HB2.out.trans (hb.mono HB2.out.size)); clear hb hq kB) | ((with_reducible refine (kC _).mono ?_); rintro e w4 ⟨co, cc, rfl, hq, hb⟩; have HB4 := Lib.hid (HB3.out.trans (hb.mono HB3.out.size)); clear hb hq kC) | ((with_reducible refine (kD _).mono ?_); rintro e w5 ⟨dd, cd, rfl, hq, hb⟩; have HB5 := Lib.hid (HB4.out.trans (hb.mono HB4.out.size)); clear hb hq kD)))
      exact bodyPost_ret (results_tmp rfl _ _ _) rfl ⟨rfl, HB5.out⟩
    · have h0i : decide ((0 : Int) < (S.size : Int)) = false := decide_eq_false (by omega)
      go_enter Tryd.func5, Tryd.ntmps5
      go_wp2_with (first
        | (go_at_call 13; (with_reducible refine kS.mono ?_); rintro e w1 ⟨rfl, hb⟩; have HB := Lib.hid hb; clear hb)
        | (go_at_call 14; first | ((with_reducible refine (kA _).mono ?_); rintro e w2 ⟨ao, ca, rfl, hq, hb⟩; have HB2 := Lib.hid (HB.out.trans (hb.mono HB.out.size)); clear hb hq kA) | ((with_reducible refine (kB _).mono ?_); rintro e w3 ⟨bo, cb, rfl, hq, hb⟩; have HB3 := Lib.hid (HB2.out.trans (hb.mono HB2.out.size)); clear hb hq kB) | ((with_reducible refine (kC _).mono ?_); rintro e w4 ⟨co, cc, rfl, hq, hb⟩; have HB4 := Lib.hid (HB3.out.trans (hb.mono HB3.out.size)); clear hb hq kC) | ((with_reducible refine (kD _).mono ?_); rintro e w5 ⟨dd, cd, rfl, hq, hb⟩; have HB5 := Lib.hid (HB4.out.trans (hb.mono HB4.out.size)); clear hb hq kD)))
      exact bodyPost_ret (results_tmp rfl _ _ _) rfl ⟨rfl, HB5.out⟩
set_option maxHeartbeats 8000000 in
set_option maxRecDepth 20000 in
/-- Too deep in an if, or a while. -/
theorem wraps_f7 (S : ByteArray) (h : S.size ≤ 1500) (A B C : List Co) (nA nB nC : Nat) (xf xg : Int) (hn0 : ((nA : Int) == 0) = false) (hfg : xf = 7 ∨ xf = 0 ∧ xg = 7) (hnp : (∃ h0 : 0 < S.size, (((S[0]'h0).toNat : Int) == 40) = false) ∨ S.size = 0) (KR : KRd S A B C [.mk 1 [[120]] [[⟨7, false, [], [], A⟩]] [] [] [] []] nA nB nC 1 0 xf xg 0) (w : World) : Calls Tryd.prog 5 #[.string S] w fun e w' => e = .returned (.bool true) ∧ Below w.heap.size w w' := by
  have kS := shownSh_any w
  have hd : decide ((1500 : Int) < (S.size : Int)) = false := by simp; omega
  obtain ⟨s1, s2, s3, s4, s5, s6, s7, s8, s9, sa, sb, sc⟩ := sums_w S h
  obtain ⟨kA, kB, kC, kD⟩ := KR
  rcases hfg with rfl | ⟨rfl, rfl⟩
  all_goals
    rcases hnp with ⟨h0, hp⟩ | h0
    · have h0i : decide ((0 : Int) < (S.size : Int)) = true := decide_eq_true (by omega)
      go_enter Tryd.func5, Tryd.ntmps5
      go_wp2_with (first
        | (go_at_call 13; (with_reducible refine kS.mono ?_); rintro e w1 ⟨rfl, hb⟩; have HB := Lib.hid hb; clear hb)
        | (go_at_call 14; first | ((with_reducible refine (kA _).mono ?_); rintro e w2 ⟨ao, ca, rfl, hq, hb⟩; have HB2 := Lib.hid (HB.out.trans (hb.mono HB.out.size)); have QA2 := Lib.hid hq; clear hb hq kA) | ((with_reducible refine (kB _).mono ?_); rintro e w3 ⟨bo, cb, rfl, hq, hb⟩; have HB3 := Lib.hid (HB2.out.trans (hb.mono HB2.out.size)); have HZ3 := Lib.hid hb.size; have QA3 := Lib.hid (val_below QA2.out (fun g hg => hg.2) hb); clear hb hq kB) | ((with_reducible refine (kC _).mono ?_); rintro e w4 ⟨co, cc, rfl, hq, hb⟩; have HB4 := Lib.hid (HB3.out.trans (hb.mono HB3.out.size)); have HZ4 := Lib.hid hb.size; have QA4 := Lib.hid (val_below QA3.out (fun g hg => Nat.lt_of_lt_of_le hg.2 HZ3.out) hb); clear hb hq kC) | ((with_reducible refine (kD _).mono ?_); rintro e w5 ⟨dd, cd, rfl, hq, hb⟩; have HB5 := Lib.hid (HB4.out.trans (hb.mono HB4.out.size)); have HZ5 := Lib.hid hb.size; have QA5 := Lib.hid (val_below QA4.out (fun g hg => Nat.lt_of_lt_of_le hg.2 (Nat.le_trans HZ3.out HZ4.out)) hb); have GA5 := Lib.hid (fun g (hg : NewF w1.heap.size w2.heap.size g) => Nat.lt_of_lt_of_le hg.2 (Nat.le_trans (Nat.le_trans HZ3.out HZ4.out) HZ5.out)); have QD5 := Lib.hid hq; obtain ⟨g1, p1, an, nn, cn, av, nv, cv, aw, nw, cw, aa, na, ca1, ab, nb, cb1, ac, nc, cc1, e1, hp1, hg1, ⟨a0, a1, a2, a3, a4, a5, a6⟩, -, ⟨z2, y2⟩, -, -, -, -, -, q2, -, -, -, -⟩ := cmd_at hq (i := 0) rfl; injection e1 with e1 e1b e1c; subst e1; clear e1b e1c; obtain rfl : nv = 1 := z2; obtain ⟨g2, p2, bo2, m2, c2, e2, hp2, hg2, b0, z4, y4, q4⟩ := wd_at q2 (i := 0) rfl; injection e2 with e2 e2b e2c; subst e2; clear e2b e2c; obtain rfl : m2 = 1 := z4; obtain ⟨g5, p5, lo, m5, c5, e5, hp5, hg5, ⟨d0, d1, d2, d3, d4⟩, z5, y5, q5⟩ := pt_at q4 (i := 0) rfl; injection e5 with e5 e5b e5c; subst e5; clear e5b e5c; have KD1 := same_self A 92 93 (by omega) (by omega) _ _ _ _ w5 q5 QA5.out (fun g hg => hg.2) GA5.out; clear a0 a1 a3 a4 a5 a6 d0 d1 d2 d3 q2 q4 q5 z5 y5 y4 y2; clear hb hq kD))
        | (go_at_call 15; (with_reducible refine KD1.mono ?_); rintro e w6 ⟨rfl, hb⟩; have M6 := Lib.hid hb; clear hb))
      exact bodyPost_ret (results_tmp rfl _ _ _) rfl ⟨rfl, HB5.out.trans (M6.out.mono HB5.out.size)⟩
    · have h0i : decide ((0 : Int) < (S.size : Int)) = false := decide_eq_false (by omega)
      go_enter Tryd.func5, Tryd.ntmps5
      go_wp2_with (first
        | (go_at_call 13; (with_reducible refine kS.mono ?_); rintro e w1 ⟨rfl, hb⟩; have HB := Lib.hid hb; clear hb)
        | (go_at_call 14; first | ((with_reducible refine (kA _).mono ?_); rintro e w2 ⟨ao, ca, rfl, hq, hb⟩; have HB2 := Lib.hid (HB.out.trans (hb.mono HB.out.size)); have QA2 := Lib.hid hq; clear hb hq kA) | ((with_reducible refine (kB _).mono ?_); rintro e w3 ⟨bo, cb, rfl, hq, hb⟩; have HB3 := Lib.hid (HB2.out.trans (hb.mono HB2.out.size)); have HZ3 := Lib.hid hb.size; have QA3 := Lib.hid (val_below QA2.out (fun g hg => hg.2) hb); clear hb hq kB) | ((with_reducible refine (kC _).mono ?_); rintro e w4 ⟨co, cc, rfl, hq, hb⟩; have HB4 := Lib.hid (HB3.out.trans (hb.mono HB3.out.size)); have HZ4 := Lib.hid hb.size; have QA4 := Lib.hid (val_below QA3.out (fun g hg => Nat.lt_of_lt_of_le hg.2 HZ3.out) hb); clear hb hq kC) | ((with_reducible refine (kD _).mono ?_); rintro e w5 ⟨dd, cd, rfl, hq, hb⟩; have HB5 := Lib.hid (HB4.out.trans (hb.mono HB4.out.size)); have HZ5 := Lib.hid hb.size; have QA5 := Lib.hid (val_below QA4.out (fun g hg => Nat.lt_of_lt_of_le hg.2 (Nat.le_trans HZ3.out HZ4.out)) hb); have GA5 := Lib.hid (fun g (hg : NewF w1.heap.size w2.heap.size g) => Nat.lt_of_lt_of_le hg.2 (Nat.le_trans (Nat.le_trans HZ3.out HZ4.out) HZ5.out)); have QD5 := Lib.hid hq; obtain ⟨g1, p1, an, nn, cn, av, nv, cv, aw, nw, cw, aa, na, ca1, ab, nb, cb1, ac, nc, cc1, e1, hp1, hg1, ⟨a0, a1, a2, a3, a4, a5, a6⟩, -, ⟨z2, y2⟩, -, -, -, -, -, q2, -, -, -, -⟩ := cmd_at hq (i := 0) rfl; injection e1 with e1 e1b e1c; subst e1; clear e1b e1c; obtain rfl : nv = 1 := z2; obtain ⟨g2, p2, bo2, m2, c2, e2, hp2, hg2, b0, z4, y4, q4⟩ := wd_at q2 (i := 0) rfl; injection e2 with e2 e2b e2c; subst e2; clear e2b e2c; obtain rfl : m2 = 1 := z4; obtain ⟨g5, p5, lo, m5, c5, e5, hp5, hg5, ⟨d0, d1, d2, d3, d4⟩, z5, y5, q5⟩ := pt_at q4 (i := 0) rfl; injection e5 with e5 e5b e5c; subst e5; clear e5b e5c; have KD1 := same_self A 92 93 (by omega) (by omega) _ _ _ _ w5 q5 QA5.out (fun g hg => hg.2) GA5.out; clear a0 a1 a3 a4 a5 a6 d0 d1 d2 d3 q2 q4 q5 z5 y5 y4 y2; clear hb hq kD))
        | (go_at_call 15; (with_reducible refine KD1.mono ?_); rintro e w6 ⟨rfl, hb⟩; have M6 := Lib.hid hb; clear hb))
      exact bodyPost_ret (results_tmp rfl _ _ _) rfl ⟨rfl, HB5.out.trans (M6.out.mono HB5.out.size)⟩
set_option maxHeartbeats 8000000 in
set_option maxRecDepth 20000 in
/-- All can be read. -/
theorem wraps_all (S : ByteArray) (h : S.size ≤ 1500) (A : List Co) (nA : Nat) (hn0 : ((nA : Int) == 0) = false) (hnp : (∃ h0 : 0 < S.size, (((S[0]'h0).toNat : Int) == 40) = false) ∨ S.size = 0) (KR : KRd S A [.mk 4 [] [] [] A A A] [.mk 5 [] [] [] A A []] [.mk 1 [[120]] [[⟨7, false, [], [], A⟩]] [] [] [] []] nA 1 1 1 0 0 0 0) (w : World) : Calls Tryd.prog 5 #[.string S] w fun e w' => e = .returned (.bool true) ∧ Below w.heap.size w w' := by
  have kS := shownSh_any w
  have hd : decide ((1500 : Int) < (S.size : Int)) = false := by simp; omega
  obtain ⟨s1, s2, s3, s4, s5, s6, s7, s8, s9, sa, sb, sc⟩ := sums_w S h
  obtain ⟨kA, kB, kC, kD⟩ := KR
  rcases hnp with ⟨h0, hp⟩ | h0
  · have h0i : decide ((0 : Int) < (S.size : Int)) = true := decide_eq_true (by omega)
    go_enter Tryd.func5, Tryd.ntmps5
    go_wp2_with (first
      | (go_at_call 13; (with_reducible refine kS.mono ?_); rintro e w1 ⟨rfl, hb⟩; have HB := Lib.hid hb; clear hb)
      | (go_at_call 14; first | ((with_reducible refine (kA _).mono ?_); rintro e w2 ⟨ao, ca, rfl, hq, hb⟩; have HB2 := Lib.hid (HB.out.trans (hb.mono HB.out.size)); have QA2 := Lib.hid hq; clear hb hq kA) | ((with_reducible refine (kB _).mono ?_); rintro e w3 ⟨bo, cb, rfl, hq, hb⟩; have HB3 := Lib.hid (HB2.out.trans (hb.mono HB2.out.size)); have HZ3 := Lib.hid hb.size; have QA3 := Lib.hid (val_below QA2.out (fun g hg => hg.2) hb); have QB3 := Lib.hid hq; clear hb hq kB) | ((with_reducible refine (kC _).mono ?_); rintro e w4 ⟨co, cc, rfl, hq, hb⟩; have HB4 := Lib.hid (HB3.out.trans (hb.mono HB3.out.size)); have HZ4 := Lib.hid hb.size; have QA4 := Lib.hid (val_below QA3.out (fun g hg => Nat.lt_of_lt_of_le hg.2 HZ3.out) hb); have QB4 := Lib.hid (val_below QB3.out (fun g hg => hg.2) hb); have QC4 := Lib.hid hq; clear hb hq kC) | ((with_reducible refine (kD _).mono ?_); rintro e w5 ⟨dd, cd, rfl, hq, hb⟩; have HB5 := Lib.hid (HB4.out.trans (hb.mono HB4.out.size)); have HZ5 := Lib.hid hb.size; have QA5 := Lib.hid (val_below QA4.out (fun g hg => Nat.lt_of_lt_of_le hg.2 (Nat.le_trans HZ3.out HZ4.out)) hb); have GA5 := Lib.hid (fun g (hg : NewF w1.heap.size w2.heap.size g) => Nat.lt_of_lt_of_le hg.2 (Nat.le_trans (Nat.le_trans HZ3.out HZ4.out) HZ5.out)); have QB5 := Lib.hid (val_below QB4.out (fun g hg => Nat.lt_of_lt_of_le hg.2 HZ4.out) hb); have GB5 := Lib.hid (fun g (hg : NewF w2.heap.size w3.heap.size g) => Nat.lt_of_lt_of_le hg.2 (Nat.le_trans HZ4.out HZ5.out)); have QC5 := Lib.hid (val_below QC4.out (fun g hg => hg.2) hb); have GC5 := Lib.hid (fun g (hg : NewF w3.heap.size w4.heap.size g) => Nat.lt_of_lt_of_le hg.2 HZ5.out); have QD5 := Lib.hid hq; obtain ⟨g1, p1, an, nn, cn, av, nv, cv, aw, nw, cw, aa, na, ca1, ab, nb, cb1, ac, nc, cc1, e1, hp1, hg1, ⟨a0, a1, a2, a3, a4, a5, a6⟩, -, ⟨z2, y2⟩, -, -, -, -, -, q2, -, -, -, -⟩ := cmd_at hq (i := 0) rfl; injection e1 with e1 e1b e1c; subst e1; clear e1b e1c; obtain rfl : nv = 1 := z2; obtain ⟨g2, p2, bo2, m2, c2, e2, hp2, hg2, b0, z4, y4, q4⟩ := wd_at q2 (i := 0) rfl; injection e2 with e2 e2b e2c; subst e2; clear e2b e2c; obtain rfl : m2 = 1 := z4; obtain ⟨g5, p5, lo, m5, c5, e5, hp5, hg5, ⟨d0, d1, d2, d3, d4⟩, z5, y5, q5⟩ := pt_at q4 (i := 0) rfl; injection e5 with e5 e5b e5c; subst e5; clear e5b e5c; have KD1 := same_self A 92 93 (by omega) (by omega) _ _ _ _ w5 q5 QA5.out (fun g hg => hg.2) GA5.out; clear a0 a1 a3 a4 a5 a6 d0 d1 d2 d3 q2 q4 q5 z5 y5 y4 y2; obtain ⟨h1, hp, hn_, hnn, hcn, hv_, hnv, hcv, hw_, hnw, hcw, ha_, hna, hca, hb_, hnb, hcb, hc_, hnc, hcc, e6, hp6, hh1, ⟨-, -, -, -, i4, i5, i6⟩, -, -, -, -, -, -, -, -, -, r4, r5, r6⟩ := cmd_at QB5.out (i := 0) rfl; injection e6 with e6 e6b e6c; subst e6; clear e6b e6c; have CB6 := Lib.hid (fun w6 (hb6 : Below w5.heap.size w5 w6) => below_cellS hb6 hh1 i6); have SA1 := Lib.hid (fun w6 (hb6 : Below w5.heap.size w5 w6) => same_self A 92 93 (by omega) (by omega) _ _ _ _ w6 (val_below r4 GB5.out hb6) (val_below QA5.out GA5.out hb6) (fun g hg => Nat.lt_of_lt_of_le (GB5.out g hg) hb6.size) (fun g hg => Nat.lt_of_lt_of_le (GA5.out g hg) hb6.size)); have CB4 := Lib.hid (fun w6 (hb6 : Below w5.heap.size w5 w6) => below_cellS hb6 hh1 i4); have SA2 := Lib.hid (fun w6 (hb6 : Below w5.heap.size w5 w6) => same_self A 92 93 (by omega) (by omega) _ _ _ _ w6 (val_below r6 GB5.out hb6) (val_below QA5.out GA5.out hb6) (fun g hg => Nat.lt_of_lt_of_le (GB5.out g hg) hb6.size) (fun g hg => Nat.lt_of_lt_of_le (GA5.out g hg) hb6.size)); clear i4 i5 i6 r4 r5 r6; obtain ⟨j1, jp, jn_, jnn, jcn, jv_, jnv, jcv, jw_, jnw, jcw, ja_, jna, jca, jb_, jnb, jcb, jc_, jnc, jcc, e8, hp8, hj1, ⟨-, -, -, -, -, k5, -⟩, -, -, -, -, -, -, -, -, -, -, t5, -⟩ := cmd_at QC5.out (i := 0) rfl; injection e8 with e8 e8b e8c; subst e8; clear e8b e8c; have CC5 := Lib.hid (fun w6 (hb6 : Below w5.heap.size w5 w6) => below_cellS hb6 hj1 k5); have SB1 := Lib.hid (fun w6 (hb6 : Below w5.heap.size w5 w6) => same_self A 92 93 (by omega) (by omega) _ _ _ _ w6 (val_below t5 GC5.out hb6) (val_below QA5.out GA5.out hb6) (fun g hg => Nat.lt_of_lt_of_le (GC5.out g hg) hb6.size) (fun g hg => Nat.lt_of_lt_of_le (GA5.out g hg) hb6.size)); clear k5 t5; clear hb hq kD))
      | (go_at_call 15; first | ((with_reducible refine (SB1.out _ M8.out).mono ?_); rintro e w9 ⟨rfl, hb⟩; have M9 := Lib.hid (M8.out.trans (hb.mono M8.out.size)); clear hb) | ((with_reducible refine (SA2.out _ M7.out).mono ?_); rintro e w8 ⟨rfl, hb⟩; have M8 := Lib.hid (M7.out.trans (hb.mono M7.out.size)); have f5 := CC5.out _ M8.out; clear hb) | ((with_reducible refine (SA1.out _ M6.out).mono ?_); rintro e w7 ⟨rfl, hb⟩; have M7 := Lib.hid (M6.out.trans (hb.mono M6.out.size)); have f6 := CB6.out _ M7.out; clear hb) | ((with_reducible refine KD1.mono ?_); rintro e w6 ⟨rfl, hb⟩; have M6 := Lib.hid hb; have f4 := CB4.out _ M6.out; clear hb)))
    exact bodyPost_ret (results_tmp rfl _ _ _) rfl ⟨rfl, HB5.out.trans (M9.out.mono HB5.out.size)⟩
  · have h0i : decide ((0 : Int) < (S.size : Int)) = false := decide_eq_false (by omega)
    go_enter Tryd.func5, Tryd.ntmps5
    go_wp2_with (first
      | (go_at_call 13; (with_reducible refine kS.mono ?_); rintro e w1 ⟨rfl, hb⟩; have HB := Lib.hid hb; clear hb)
      | (go_at_call 14; first | ((with_reducible refine (kA _).mono ?_); rintro e w2 ⟨ao, ca, rfl, hq, hb⟩; have HB2 := Lib.hid (HB.out.trans (hb.mono HB.out.size)); have QA2 := Lib.hid hq; clear hb hq kA) | ((with_reducible refine (kB _).mono ?_); rintro e w3 ⟨bo, cb, rfl, hq, hb⟩; have HB3 := Lib.hid (HB2.out.trans (hb.mono HB2.out.size)); have HZ3 := Lib.hid hb.size; have QA3 := Lib.hid (val_below QA2.out (fun g hg => hg.2) hb); have QB3 := Lib.hid hq; clear hb hq kB) | ((with_reducible refine (kC _).mono ?_); rintro e w4 ⟨co, cc, rfl, hq, hb⟩; have HB4 := Lib.hid (HB3.out.trans (hb.mono HB3.out.size)); have HZ4 := Lib.hid hb.size; have QA4 := Lib.hid (val_below QA3.out (fun g hg => Nat.lt_of_lt_of_le hg.2 HZ3.out) hb); have QB4 := Lib.hid (val_below QB3.out (fun g hg => hg.2) hb); have QC4 := Lib.hid hq; clear hb hq kC) | ((with_reducible refine (kD _).mono ?_); rintro e w5 ⟨dd, cd, rfl, hq, hb⟩; have HB5 := Lib.hid (HB4.out.trans (hb.mono HB4.out.size)); have HZ5 := Lib.hid hb.size; have QA5 := Lib.hid (val_below QA4.out (fun g hg => Nat.lt_of_lt_of_le hg.2 (Nat.le_trans HZ3.out HZ4.out)) hb); have GA5 := Lib.hid (fun g (hg : NewF w1.heap.size w2.heap.size g) => Nat.lt_of_lt_of_le hg.2 (Nat.le_trans (Nat.le_trans HZ3.out HZ4.out) HZ5.out)); have QB5 := Lib.hid (val_below QB4.out (fun g hg => Nat.lt_of_lt_of_le hg.2 HZ4.out) hb); have GB5 := Lib.hid (fun g (hg : NewF w2.heap.size w3.heap.size g) => Nat.lt_of_lt_of_le hg.2 (Nat.le_trans HZ4.out HZ5.out)); have QC5 := Lib.hid (val_below QC4.out (fun g hg => hg.2) hb); have GC5 := Lib.hid (fun g (hg : NewF w3.heap.size w4.heap.size g) => Nat.lt_of_lt_of_le hg.2 HZ5.out); have QD5 := Lib.hid hq; obtain ⟨g1, p1, an, nn, cn, av, nv, cv, aw, nw, cw, aa, na, ca1, ab, nb, cb1, ac, nc, cc1, e1, hp1, hg1, ⟨a0, a1, a2, a3, a4, a5, a6⟩, -, ⟨z2, y2⟩, -, -, -, -, -, q2, -, -, -, -⟩ := cmd_at hq (i := 0) rfl; injection e1 with e1 e1b e1c; subst e1; clear e1b e1c; obtain rfl : nv = 1 := z2; obtain ⟨g2, p2, bo2, m2, c2, e2, hp2, hg2, b0, z4, y4, q4⟩ := wd_at q2 (i := 0) rfl; injection e2 with e2 e2b e2c; subst e2; clear e2b e2c; obtain rfl : m2 = 1 := z4; obtain ⟨g5, p5, lo, m5, c5, e5, hp5, hg5, ⟨d0, d1, d2, d3, d4⟩, z5, y5, q5⟩ := pt_at q4 (i := 0) rfl; injection e5 with e5 e5b e5c; subst e5; clear e5b e5c; have KD1 := same_self A 92 93 (by omega) (by omega) _ _ _ _ w5 q5 QA5.out (fun g hg => hg.2) GA5.out; clear a0 a1 a3 a4 a5 a6 d0 d1 d2 d3 q2 q4 q5 z5 y5 y4 y2; obtain ⟨h1, hp, hn_, hnn, hcn, hv_, hnv, hcv, hw_, hnw, hcw, ha_, hna, hca, hb_, hnb, hcb, hc_, hnc, hcc, e6, hp6, hh1, ⟨-, -, -, -, i4, i5, i6⟩, -, -, -, -, -, -, -, -, -, r4, r5, r6⟩ := cmd_at QB5.out (i := 0) rfl; injection e6 with e6 e6b e6c; subst e6; clear e6b e6c; have CB6 := Lib.hid (fun w6 (hb6 : Below w5.heap.size w5 w6) => below_cellS hb6 hh1 i6); have SA1 := Lib.hid (fun w6 (hb6 : Below w5.heap.size w5 w6) => same_self A 92 93 (by omega) (by omega) _ _ _ _ w6 (val_below r4 GB5.out hb6) (val_below QA5.out GA5.out hb6) (fun g hg => Nat.lt_of_lt_of_le (GB5.out g hg) hb6.size) (fun g hg => Nat.lt_of_lt_of_le (GA5.out g hg) hb6.size)); have CB4 := Lib.hid (fun w6 (hb6 : Below w5.heap.size w5 w6) => below_cellS hb6 hh1 i4); have SA2 := Lib.hid (fun w6 (hb6 : Below w5.heap.size w5 w6) => same_self A 92 93 (by omega) (by omega) _ _ _ _ w6 (val_below r6 GB5.out hb6) (val_below QA5.out GA5.out hb6) (fun g hg => Nat.lt_of_lt_of_le (GB5.out g hg) hb6.size) (fun g hg => Nat.lt_of_lt_of_le (GA5.out g hg) hb6.size)); clear i4 i5 i6 r4 r5 r6; obtain ⟨j1, jp, jn_, jnn, jcn, jv_, jnv, jcv, jw_, jnw, jcw, ja_, jna, jca, jb_, jnb, jcb, jc_, jnc, jcc, e8, hp8, hj1, ⟨-, -, -, -, -, k5, -⟩, -, -, -, -, -, -, -, -, -, -, t5, -⟩ := cmd_at QC5.out (i := 0) rfl; injection e8 with e8 e8b e8c; subst e8; clear e8b e8c; have CC5 := Lib.hid (fun w6 (hb6 : Below w5.heap.size w5 w6) => below_cellS hb6 hj1 k5); have SB1 := Lib.hid (fun w6 (hb6 : Below w5.heap.size w5 w6) => same_self A 92 93 (by omega) (by omega) _ _ _ _ w6 (val_below t5 GC5.out hb6) (val_below QA5.out GA5.out hb6) (fun g hg => Nat.lt_of_lt_of_le (GC5.out g hg) hb6.size) (fun g hg => Nat.lt_of_lt_of_le (GA5.out g hg) hb6.size)); clear k5 t5; clear hb hq kD))
      | (go_at_call 15; first | ((with_reducible refine (SB1.out _ M8.out).mono ?_); rintro e w9 ⟨rfl, hb⟩; have M9 := Lib.hid (M8.out.trans (hb.mono M8.out.size)); clear hb) | ((with_reducible refine (SA2.out _ M7.out).mono ?_); rintro e w8 ⟨rfl, hb⟩; have M8 := Lib.hid (M7.out.trans (hb.mono M7.out.size)); have f5 := CC5.out _ M8.out; clear hb) | ((with_reducible refine (SA1.out _ M6.out).mono ?_); rintro e w7 ⟨rfl, hb⟩; have M7 := Lib.hid (M6.out.trans (hb.mono M6.out.size)); have f6 := CB6.out _ M7.out; clear hb) | ((with_reducible refine KD1.mono ?_); rintro e w6 ⟨rfl, hb⟩; have M6 := Lib.hid hb; have f4 := CB4.out _ M6.out; clear hb)))
    exact bodyPost_ret (results_tmp rfl _ _ _) rfl ⟨rfl, HB5.out.trans (M9.out.mono HB5.out.size)⟩
/-- The law. -/
theorem shellWraps_walk (S : ByteArray) (hs : S.size ≤ 140737488351232) (w : World) : Calls Tryd.prog 5 #[.string S] w fun e w' => e = .returned (.bool true) ∧ Below w.heap.size w w' := by
  by_cases hbig : 1500 < S.size
  · exact wraps_big S hs hbig w
  · obtain ⟨l, hl, hz⟩ : ∃ l : List UInt8, S = ⟨l.toArray⟩ ∧ S.size = l.length := ⟨S.data.toList, by cases S; rfl, by rw [Array.length_toList]; rfl⟩
    have hS : S.size ≤ 1500 := by omega
    have RD : ∀ {A B C D : List Co} {xe xf xg xh : Int}, readSh l = (A, xe) → readSh (tIf3 l) = (B, xf) → readSh (tWh l) = (C, xg) → readSh (tSub l) = (D, xh) → KRd S A B C D A.length B.length C.length D.length xe xf xg xh := by
      intro A B C D xe xf xg xh h1 h2 h3 h4
      refine ⟨fun w => ?_, fun w => ?_, fun w => ?_, fun w => ?_⟩
      · rw [hl]; exact (shRead_is _ _ _ h1 (by omega) w).mono fun _ _ h => h.n rfl
      · rw [hl, if3_text]; exact (shRead_is _ _ _ h2 (by simp [tIf3]; omega) w).mono fun _ _ h => h.n rfl
      · rw [hl, wh_text]; exact (shRead_is _ _ _ h3 (by simp [tWh]; omega) w).mono fun _ _ h => h.n rfl
      · rw [hl, sub_text]; exact (shRead_is _ _ _ h4 (by simp [tSub]; omega) w).mono fun _ _ h => h.n rfl
    obtain ⟨A, xe, hA⟩ : ∃ A x, readSh l = (A, x) := ⟨_, _, rfl⟩
    obtain ⟨B, xf, hB⟩ : ∃ A x, readSh (tIf3 l) = (A, x) := ⟨_, _, rfl⟩
    obtain ⟨C, xg, hC⟩ : ∃ A x, readSh (tWh l) = (A, x) := ⟨_, _, rfl⟩
    obtain ⟨D, xh, hD⟩ : ∃ A x, readSh (tSub l) = (A, x) := ⟨_, _, rfl⟩
    have KR := RD hA hB hC hD
    by_cases hx : xe = 0
    · subst hx
      by_cases hp : ∃ h0 : 0 < S.size, ((S[0]'h0).toNat : Int) = 40
      · obtain ⟨h0, hp⟩ := hp
        exact wraps_paren S hS A B C D _ _ _ _ xf xg xh h0 hp KR w
      · have hnp : (∃ h0 : 0 < S.size, (((S[0]'h0).toNat : Int) == 40) = false) ∨ S.size = 0 := by
          by_cases h0 : 0 < S.size
          · exact .inl ⟨h0, by rw [beq_eq_false_iff_ne]; exact fun e => hp ⟨h0, e⟩⟩
          · exact .inr (by omega)
        have hh : l.head? ≠ some 40 := by
          intro e
          cases l with
          | nil => cases e
          | cons a r =>
            have ea : a = 40 := by simpa using e
            have h0 : 0 < S.size := by rw [hz]; simp
            refine hp ⟨h0, ?_⟩
            have := byteS (l := a :: r) hl h0 (c := a) rfl
            rw [this, ea]; rfl
        by_cases hA0 : A = []
        · subst hA0
          have h1 := if3_none hA (by omega)
          have h2 := wh_none hA (by omega)
          rw [hB] at h1
          rw [hC] at h2
          obtain ⟨rfl, rfl⟩ := Prod.mk.inj h1
          obtain ⟨rfl, rfl⟩ := Prod.mk.inj h2
          rcases sub_read hh hA (by omega) with h3 | h3
          · rw [hD] at h3
            obtain ⟨rfl, rfl⟩ := Prod.mk.inj h3
            exact wraps_none0 S hS [] [] [] _ _ rfl hnp KR w
          · rw [hD] at h3
            obtain ⟨rfl, rfl⟩ := Prod.mk.inj h3
            exact wraps_none7 S hS _ _ _ _ _ _ hnp KR w
        · have hn0 : ((A.length : Int) == 0) = false := by
            rw [beq_eq_false_iff_ne]
            cases A with
            | nil => exact absurd rfl hA0
            | cons a r => simp; omega
          rcases if3_read hA hA0 (by omega) with h1 | h1 <;> rcases wh_read hA hA0 (by omega) with h2 | h2 <;> rcases sub_read hh hA (by omega) with h3 | h3
          all_goals
            rw [hB] at h1
            rw [hC] at h2
            rw [hD] at h3
            obtain ⟨rfl, rfl⟩ := Prod.mk.inj h1
            obtain ⟨rfl, rfl⟩ := Prod.mk.inj h2
            obtain ⟨rfl, rfl⟩ := Prod.mk.inj h3
            first
              | exact wraps_all S hS A _ hn0 hnp KR w
              | exact wraps_f7 S hS A _ _ _ _ _ _ _ hn0 (.inl rfl) hnp KR w
              | exact wraps_f7 S hS A _ _ _ _ _ _ _ hn0 (.inr ⟨rfl, rfl⟩) hnp KR w
              | exact wraps_g7 S hS A _ _ _ _ _ _ _ _ _ hn0 (.inl rfl) hnp KR w
              | exact wraps_g7 S hS A _ _ _ _ _ _ _ _ _ hn0 (.inr ⟨rfl, .inl rfl⟩) hnp KR w
              | exact wraps_g7 S hS A _ _ _ _ _ _ _ _ _ hn0 (.inr ⟨rfl, .inr rfl⟩) hnp KR w
    · exact wraps_bad S hS A B C D _ _ _ _ xe xf xg xh (by simpa using hx) KR w
end Go.Proofs.YtabkmimpkoiajaaDoor
