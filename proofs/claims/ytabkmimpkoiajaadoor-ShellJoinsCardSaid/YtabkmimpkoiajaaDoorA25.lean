/- Packed texts: ShellJoinsWalk. What each of them proves stands above its theorems; the conditions stand in these. -/
import Derived.Test.YtabkmimpkoiajaaDoorA2
import Derived.Test.YtabkmimpkoiajaaDoorA3
import Derived.Test.YtabkmimpkoiajaaDoorA19
import Derived.Test.YtabkmimpkoiajaaDoorA20
import Derived.Test.YtabkmimpkoiajaaDoorA21
import Derived.Test.YtabkmimpkoiajaaDoorA24
namespace Go.Proofs.YtabkmimpkoiajaaDoor
open Go.RowKit Go.Lib

theorem two_text (l m : List UInt8) : (⟨l.toArray⟩ : ByteArray) ++ ⟨#[10]⟩ ++ ⟨m.toArray⟩ = ⟨(l ++ 10 :: m).toArray⟩ := by
  apply ByteArray.ext
  simp
theorem two_read {l m : List UInt8} {A B : List Co} (ha : readSh l = (A, 0)) (hb : readSh m = (B, 0)) (hl : l.length + m.length ≤ 2000) : readSh (l ++ 10 :: m) = (A ++ B, 0) := ok_read (lst_two (read_ok ha).1 (read_ok hb).1) (by simp; omega)
set_option maxHeartbeats 4000000 in
set_option maxRecDepth 20000 in
theorem joins_big (S T : ByteArray) (w : World) (hs : S.size ≤ 140737488351232) (ht : T.size ≤ 140737488351232) (h : 2000 < S.size + T.size) :
    Calls Tryd.prog 3 #[.string S, .string T] w fun e w' => e = .returned (.bool true) ∧ Below w.heap.size w w' := by
  have kS := shownSh_any w
  have hd : decide ((2000 : Int) < (S.size : Int) + (T.size : Int)) = true := by simpa using (by omega : (2000 : Int) < (S.size : Int) + (T.size : Int))
  go_enter Tryd.func3, Tryd.ntmps3
  go_wp2_with (go_at_call 13; (with_reducible refine kS.mono ?_); rintro e w1 ⟨rfl, hb⟩)
  all_goals exact bodyPost_ret (results_tmp rfl _ _ _) rfl ⟨rfl, hb⟩
set_option maxHeartbeats 4000000 in
set_option maxRecDepth 20000 in
/-- One of both can't be read. -/
theorem joins_bad (S T : ByteArray) (A B : List Co) (xa xb : Int) (w : World) (h : S.size + T.size ≤ 2000) (hx : xa ≠ 0 ∨ xb ≠ 0)
    (kA : ∀ w, Calls Tryd.prog 14 #[.string S] w (RdA A xa w)) (kB : ∀ w, Calls Tryd.prog 14 #[.string T] w (RdA B xb w)) :
    Calls Tryd.prog 3 #[.string S, .string T] w fun e w' => e = .returned (.bool true) ∧ Below w.heap.size w w' := by
  have kS := shownSh_any w
  have hd : decide ((2000 : Int) < (S.size : Int) + (T.size : Int)) = false := by simp; omega
  by_cases h0 : xa = 0
  · subst h0
    have h2 : (xb == 0) = false := by
      rcases hx with h1 | h1
      · exact absurd rfl h1
      · simpa using h1
    clear hx
    go_enter Tryd.func3, Tryd.ntmps3
    go_wp2_with (first
      | (go_at_call 13; (with_reducible refine kS.mono ?_); rintro e w1 ⟨rfl, hb⟩; have HB := Lib.hid hb; clear hb)
      | (go_at_call 14; first
        | ((with_reducible refine (kA _).mono ?_); rintro e w2 ⟨ao, cap, rfl, hq, hb⟩; have HB2 := Lib.hid (HB.out.trans (hb.mono HB.out.size)); clear hb hq kA)
        | ((with_reducible refine (kB _).mono ?_); rintro e w3 ⟨ao2, cap2, rfl, hq, hb⟩; have HB3 := Lib.hid (HB2.out.trans (hb.mono HB2.out.size)); clear hb hq kB)))
    exact bodyPost_ret (results_tmp rfl _ _ _) rfl ⟨rfl, HB3.out⟩
  · have h2 : (xa == 0) = false := by simpa using h0
    clear hx h0
    go_enter Tryd.func3, Tryd.ntmps3
    go_wp2_with (first
      | (go_at_call 13; (with_reducible refine kS.mono ?_); rintro e w1 ⟨rfl, hb⟩; have HB := Lib.hid hb; clear hb)
      | (go_at_call 14; first
        | ((with_reducible refine (kA _).mono ?_); rintro e w2 ⟨ao, cap, rfl, hq, hb⟩; have HB2 := Lib.hid (HB.out.trans (hb.mono HB.out.size)); clear hb hq kA)
        | ((with_reducible refine (kB _).mono ?_); rintro e w3 ⟨ao2, cap2, rfl, hq, hb⟩; have HB3 := Lib.hid (HB2.out.trans (hb.mono HB2.out.size)); clear hb hq kB)))
    exact bodyPost_ret (results_tmp rfl _ _ _) rfl ⟨rfl, HB3.out⟩
set_option maxHeartbeats 8000000 in
set_option maxRecDepth 20000 in
theorem joins_good (S T : ByteArray) (A B : List Co) (nA nB nC : Nat) (hnA : nA = A.length) (hnB : nB = B.length) (hnC : nC = (A ++ B).length) (w : World) (h : S.size + T.size ≤ 2000) (hcA : meaCs A ≤ 64000000) (hcB : meaCs B ≤ 64000000)
    (kA : ∀ w, Calls Tryd.prog 14 #[.string S] w (RdN A nA 0 w)) (kB : ∀ w, Calls Tryd.prog 14 #[.string T] w (RdN B nB 0 w)) (kC : ∀ w, Calls Tryd.prog 14 #[.string (S ++ ⟨#[10]⟩ ++ T)] w (RdN (A ++ B) nC 0 w)) :
    Calls Tryd.prog 3 #[.string S, .string T] w fun e w' => e = .returned (.bool true) ∧ Below w.heap.size w w' := by
  have kS := shownSh_any w
  have hd : decide ((2000 : Int) < (S.size : Int) + (T.size : Int)) = false := by simp; omega
  have s1 : (9223372036854775807 < S.size + (⟨#[10]⟩ : ByteArray).size) = False := by
    have : (⟨#[10]⟩ : ByteArray).size = 1 := rfl
    simp only [eq_iff_iff, iff_false]; omega
  have s2 : (9223372036854775807 < (S ++ (⟨#[10]⟩ : ByteArray)).size + T.size) = False := by
    have : (⟨#[10]⟩ : ByteArray).size = 1 := rfl
    simp only [eq_iff_iff, iff_false, ByteArray.size_append]; omega
  have hlA := cntCs_len A
  have hlB := cntCs_len B
  have hmA := cnt_meaCs A
  have hmB := cnt_meaCs B
  obtain ⟨i0, hi, hz0, hz1, hz2⟩ := info_parts Tryd.infoCmdZ7
  have HI := Lib.hid (And.intro hi (And.intro hz0 (And.intro hz1 hz2)))
  have hcnt := cntCs_app A B
  have HC := Lib.hid (And.intro hcnt (And.intro hmA (And.intro hmB (And.intro hlA (And.intro hlB (And.intro hcA hcB))))))
  have HNN := Lib.hid (And.intro hnA (And.intro hnB hnC))
  clear hnA hnB hnC hcA hcB hlA hlB hmA hmB hi hz0 hz1 hz2 hcnt
  go_enter Tryd.func3, Tryd.ntmps3
  go_upto_region 9 with (first
    | (go_at_call 13; (with_reducible refine kS.mono ?_); rintro e w1 ⟨rfl, hb⟩; have HB := Lib.hid hb; clear hb)
    | (go_at_call 14; first
      | ((with_reducible refine (kA _).mono ?_); rintro e w2 ⟨ao, ca, rfl, hqa, hb⟩; have HB2 := Lib.hid (HB.out.trans (hb.mono HB.out.size)); have QA := Lib.hid hqa; clear hb hqa kA)
      | ((with_reducible refine (kB _).mono ?_); rintro e w3 ⟨bo, cb, rfl, hqb, hb⟩; have HB3 := Lib.hid (HB2.out.trans (hb.mono HB2.out.size)); have QA3 := Lib.hid (val_below QA.out (fun g hg => hg.2) hb); have HS3 := Lib.hid hb.size; have QB := Lib.hid hqb; clear hb hqb kB)
      | ((with_reducible refine (kC _).mono ?_); rintro e w4 ⟨co, cc, rfl, hqc, hb⟩; have HB4 := Lib.hid (HB3.out.trans (hb.mono HB3.out.size)); have QA4 := Lib.hid (val_below QA3.out (fun g hg => Nat.lt_of_lt_of_le hg.2 HS3.out) hb); have QB4 := Lib.hid (val_below QB.out (fun g hg => hg.2) hb); have HS4 := Lib.hid hb.size; have QC := Lib.hid hqc; clear hb hqc kC)))
  have GA := Lib.hid (fun g (hg : NewF w1.heap.size w2.heap.size g) => (show g < w4.heap.size from by have := hg.2; have := HS3.out; have := HS4.out; omega))
  have GB := Lib.hid (fun g (hg : NewF w2.heap.size w3.heap.size g) => (show g < w4.heap.size from by have := hg.2; have := HS4.out; omega))
  have RA := Lib.hid (fun w6 (hb : Below w4.heap.size w4 w6) => (show RowM (cmdE (cosV 92)) 33 _ w6 _ A from val_below QA4.out GA.out hb))
  have RB := Lib.hid (fun w6 (hb : Below w4.heap.size w4 w6) => (show RowM (cmdE (cosV 92)) 33 _ w6 _ B from val_below QB4.out GB.out hb))
  have RC := Lib.hid (fun w6 (hb : Below w4.heap.size w4 w6) => val_below QC.out (fun g hg => hg.2) hb)
  have KSM := Lib.hid (fun w7 v7 (hb : Below w4.heap.size w4 w7) (h7 : AppR (cmdE (cosV 92)) 33 w4.heap.size (fun g => (NoneF g ∨ NewF w1.heap.size w2.heap.size g) ∨ NewF w2.heap.size w3.heap.size g) w7 v7 (A ++ B)) => same_all 93 _ v7 (A ++ B) (A ++ B) _ (fun g => g < w7.heap.size) w7 (RC.out w7 hb) (h7.row hb.size) (fun g hg => Nat.lt_of_lt_of_le hg.2 hb.size) (fun g hg => hg))
  rw [eqB_self] at KSM
  have KNC := Lib.hid (fun w7 (hb : Below w4.heap.size w4 w7) => count_any 93 _ (A ++ B) _ w7 (RC.out w7 hb) (fun g hg => Nat.lt_of_lt_of_le hg.2 hb.size) (by have := HC.out; omega))
  have KNA := Lib.hid (fun w7 (hb : Below w4.heap.size w4 w7) => count_any 93 _ A _ w7 (RA.out w7 hb) (fun g hg => Nat.lt_of_lt_of_le (GA.out g hg) hb.size) (by have := HC.out; omega))
  have KNB := Lib.hid (fun w7 (hb : Below w4.heap.size w4 w7) => count_any 93 _ B _ w7 (RB.out w7 hb) (fun g hg => Nat.lt_of_lt_of_le (GB.out g hg) hb.size) (by have := HC.out; omega))
  obtain ⟨cA, hcA⟩ : ∃ z, z = cntCs A := ⟨_, rfl⟩
  obtain ⟨cB, hcB⟩ : ∃ z, z = cntCs B := ⟨_, rfl⟩
  obtain ⟨cC, hcC⟩ : ∃ z, z = cntCs (A ++ B) := ⟨_, rfl⟩
  have hcc := HC.out
  rw [← hcA, ← hcB, ← hcC, ← HNN.out.1, ← HNN.out.2.1] at hcc
  rw [← hcC] at KNC
  rw [← hcA] at KNA
  rw [← hcB] at KNB
  have hnA := HNN.out.1
  have hnB := HNN.out.2.1
  have hw1 : IntKind.i64.wrap ((cA : Int) + (cB : Int)) = (cC : Int) := by rw [IntWalk.i64_in _ (by omega)]; omega
  have HL := Lib.hid (And.intro hnA (And.intro hnB (show nA + nB ≤ 128000000 by omega)))
  clear hcA hcB hcC hnA hnB hcc QA QA3 QB QA4 QB4 QC
  have M5 := Lib.hid ((Below.refl w4.heap.size w4).alloc (Nat.le_refl _) (.cells #[] 33))
  go_wp2_with (first
    | (at_builtin; refine wpList_append_rowG (cmd_one 92) _ (by rfl) (.tmp 54) (.tmp 55) 23 rfl Tryd.underlying23 HI.out.1 HI.out.2.1 HI.out.2.2.1 HI.out.2.2.2 rfl (by decide) rfl rfl A6.out (RB.out _ M6.out) GB.out M6.out.size (by have := HL.out; unfold maxLen; omega) (by have := HL.out; omega) ?_; intro v7 w7 h7 hb7; have h7 : AppR (cmdE (cosV 92)) 33 w4.heap.size _ w7 v7 (A ++ B) := h7; obtain ⟨ao7, cp7, e7, _⟩ := (h7.row (by have := hb7.size; have := M6.out.size; omega)).shape; rw [← HNN.out.2.2] at e7; subst e7; have A7 := Lib.hid h7; have M7 := Lib.hid (M6.out.trans hb7); clear h7 hb7)
    | (at_builtin; refine wpList_append_rowG (cmd_one 92) _ (by rfl) (.tmp 52) (.tmp 53) 23 rfl Tryd.underlying23 HI.out.1 HI.out.2.1 HI.out.2.2.1 HI.out.2.2.2 rfl (by decide) rfl rfl (AppR.begin (cmdE (cosV 92)) 33 w4) (RA.out _ M5.out) GA.out M5.out.size (by have := HL.out; simp only [List.length_nil]; unfold maxLen; omega) (by have := HL.out; simp only [List.length_nil]; omega) ?_; intro v6 w6 h6 hb6; have h6 : AppR (cmdE (cosV 92)) 33 w4.heap.size _ w6 v6 A := h6; obtain ⟨ao6, cp6, e6, _⟩ := (h6.row (by have := hb6.size; have := M5.out.size; omega)).shape; rw [← HNN.out.1] at e6; subst e6; have A6 := Lib.hid h6; have M6 := Lib.hid (M5.out.trans hb6); clear h6 hb6)
    | (go_at_call 15; (refine (KSM.out _ _ M7.out A7.out).mono ?_); rintro e w8 ⟨rfl, hb⟩; have M8 := Lib.hid (M7.out.trans (hb.mono M7.out.size)); clear hb)
    | (go_at_call 16; first | ((with_reducible refine (KNB.out _ M10.out).mono ?_); rintro e w11 ⟨rfl, hb⟩; have M11 := Lib.hid (M10.out.trans (hb.mono M10.out.size)); clear hb) | ((with_reducible refine (KNA.out _ M9.out).mono ?_); rintro e w10 ⟨rfl, hb⟩; have M10 := Lib.hid (M9.out.trans (hb.mono M9.out.size)); clear hb) | ((with_reducible refine (KNC.out _ M8.out).mono ?_); rintro e w9 ⟨rfl, hb⟩; have M9 := Lib.hid (M8.out.trans (hb.mono M8.out.size)); clear hb)))
  exact bodyPost_ret (results_tmp rfl _ _ _) rfl ⟨rfl, HB4.out.trans (M11.out.mono HB4.out.size)⟩
theorem bytes_list (S : ByteArray) : ∃ l : List UInt8, S = ⟨l.toArray⟩ ∧ S.size = l.length := ⟨S.data.toList, by cases S; rfl, by rw [Array.length_toList]; rfl⟩
/-- The law. -/
theorem shellJoins_walk (S : ByteArray) (hs : S.size ≤ 140737488351232) (T : ByteArray) (ht : T.size ≤ 140737488351232) (w : World) : Calls Tryd.prog 3 #[.string S, .string T] w fun e w' => e = .returned (.bool true) ∧ Below w.heap.size w w' := by
  by_cases hbig : 2000 < S.size + T.size
  · exact joins_big S T w hs ht hbig
  · obtain ⟨l, hl, hz⟩ := bytes_list S
    obtain ⟨m, hm, hy⟩ := bytes_list T
    obtain ⟨A, xa, hA⟩ : ∃ A x, readSh l = (A, x) := ⟨_, _, rfl⟩
    obtain ⟨B, xb, hB⟩ : ∃ B x, readSh m = (B, x) := ⟨_, _, rfl⟩
    have kA : ∀ w, Calls Tryd.prog 14 #[.string S] w (RdA A xa w) := fun w => by rw [hl]; exact shRead_is l A xa hA (by omega) w
    have kB : ∀ w, Calls Tryd.prog 14 #[.string T] w (RdA B xb w) := fun w => by rw [hm]; exact shRead_is m B xb hB (by omega) w
    by_cases hx : xa ≠ 0 ∨ xb ≠ 0
    · exact joins_bad S T A B xa xb w (by omega) hx kA kB
    · obtain rfl : xa = 0 := Classical.byContradiction fun e => hx (.inl e)
      obtain rfl : xb = 0 := Classical.byContradiction fun e => hx (.inr e)
      have hC := two_read hA hB (by omega)
      have kC : ∀ w, Calls Tryd.prog 14 #[.string (S ++ ⟨#[10]⟩ ++ T)] w (RdA (A ++ B) 0 w) := fun w => by rw [hl, hm, two_text]; exact shRead_is _ _ 0 hC (by simp; omega) w
      have wA := (read_wt hA).1
      have wB := (read_wt hB).1
      exact joins_good S T A B _ _ _ rfl rfl rfl w (by omega) (by omega) (by omega) (fun w => (kA w).mono fun _ _ h => h.n rfl) (fun w => (kB w).mono fun _ _ h => h.n rfl) (fun w => (kC w).mono fun _ _ h => h.n rfl)
end Go.Proofs.YtabkmimpkoiajaaDoor
