/- Packed texts: ShellRemarksWalk. What each of them proves stands above its theorems; the conditions stand in these. -/
import Derived.Test.YtabkmimpkoiajaaDoorA3
import Derived.Test.YtabkmimpkoiajaaDoorA19
import Derived.Test.YtabkmimpkoiajaaDoorA21
namespace Go.Proofs.YtabkmimpkoiajaaDoor
open Go.RowKit Go.Lib

theorem remark_text1 (l rm : List UInt8) : (⟨#[35]⟩ : ByteArray) ++ ⟨rm.toArray⟩ ++ ⟨#[10]⟩ ++ ⟨l.toArray⟩ = ⟨(35 :: (rm ++ 10 :: l)).toArray⟩ := by
  apply ByteArray.ext
  simp
theorem remark_text2 (l rm : List UInt8) : (⟨l.toArray⟩ : ByteArray) ++ ⟨#[10, 32, 35]⟩ ++ ⟨rm.toArray⟩ = ⟨(l ++ 10 :: 32 :: 35 :: rm).toArray⟩ := by
  apply ByteArray.ext
  simp
theorem remark_read1 {l rm : List UInt8} {A : List Co} (h : (10 : UInt8) ∉ rm) (ha : readSh l = (A, 0)) (hl : l.length + rm.length ≤ 2000) : readSh (35 :: (rm ++ 10 :: l)) = (A, 0) := ok_read ((lst_remark 30 h).trans (read_ok ha).1) (by simp; omega)
theorem remark_read2 {l rm : List UInt8} {A : List Co} (h : (10 : UInt8) ∉ rm) (ha : readSh l = (A, 0)) (hl : l.length + rm.length ≤ 2000) : readSh (l ++ 10 :: 32 :: 35 :: rm) = (A, 0) := ok_read (lst_behind (read_ok ha).1 (skip_remark h)) (by simp; omega)
theorem not_in_bytes {S : ByteArray} {l : List UInt8} (hl : S = ⟨l.toArray⟩) {c : UInt8} (h : ∀ q (h : q < S.size), S[q] ≠ c) : c ∉ l := fun hm => by
  obtain ⟨q, hq⟩ := List.mem_iff_getElem?.1 hm
  have hql : q < l.length := (List.getElem?_eq_some_iff.1 hq).1
  have hz : S.size = l.length := by rw [hl]; exact sizeS l
  refine h q (by omega) ?_
  have := Lib.data_getElem? S q (by omega)
  rw [show S.data.toList = l by rw [hl], hq] at this
  exact (Option.some.inj this).symm
set_option maxHeartbeats 8000000 in
set_option maxRecDepth 20000 in
theorem shellRemarks_walk (S : ByteArray) (hs : S.size ≤ 140737488351232) (T : ByteArray) (ht : T.size ≤ 140737488351232) (w : World) : Calls Tryd.prog 7 #[.string S, .string T] w fun e w' => e = .returned (.bool true) ∧ Below w.heap.size w w' := by
  have kS := shownSh_any w
  by_cases hbig : 1500 < S.size
  · have hd : decide ((1500 : Int) < (S.size : Int)) = true := by simpa using (by omega : (1500 : Int) < (S.size : Int))
    go_enter Tryd.func7, Tryd.ntmps7
    go_wp2_with (go_at_call 13; (with_reducible refine kS.mono ?_); rintro e w1 ⟨rfl, hb⟩)
    all_goals exact bodyPost_ret (results_tmp rfl _ _ _) rfl ⟨rfl, hb⟩
  · have hd : decide ((1500 : Int) < (S.size : Int)) = false := by simp; omega
    by_cases hbig2 : 100 < T.size
    · have hd2 : decide ((100 : Int) < (T.size : Int)) = true := by simpa using (by omega : (100 : Int) < (T.size : Int))
      go_enter Tryd.func7, Tryd.ntmps7
      go_wp2_with (go_at_call 13; (with_reducible refine kS.mono ?_); rintro e w1 ⟨rfl, hb⟩)
      all_goals exact bodyPost_ret (results_tmp rfl _ _ _) rfl ⟨rfl, hb⟩
    · have hd2 : decide ((100 : Int) < (T.size : Int)) = false := by simp; omega
      obtain ⟨l, hl, hz⟩ : ∃ l : List UInt8, S = ⟨l.toArray⟩ ∧ S.size = l.length := ⟨S.data.toList, by cases S; rfl, by rw [Array.length_toList]; rfl⟩
      obtain ⟨rm, hrm, hy⟩ : ∃ l : List UInt8, T = ⟨l.toArray⟩ ∧ T.size = l.length := ⟨T.data.toList, by cases T; rfl, by rw [Array.length_toList]; rfl⟩
      obtain ⟨A, xa, hA⟩ : ∃ A x, readSh l = (A, x) := ⟨_, _, rfl⟩
      obtain ⟨B, xb, hB⟩ : ∃ B x, readSh (35 :: (rm ++ 10 :: l)) = (B, x) := ⟨_, _, rfl⟩
      obtain ⟨C, xc, hC⟩ : ∃ C x, readSh (l ++ 10 :: 32 :: 35 :: rm) = (C, x) := ⟨_, _, rfl⟩
      have HSAME := Lib.hid (fun (h10 : (10 : UInt8) ∉ rm) (h0 : xa = 0) => (show (B = A ∧ xb = 0) ∧ (C = A ∧ xc = 0) from by
        subst h0
        have e1 := remark_read1 h10 hA (by omega)
        have e2 := remark_read2 h10 hA (by omega)
        rw [hB] at e1
        rw [hC] at e2
        exact ⟨Prod.mk.inj e1, Prod.mk.inj e2⟩))
      have kA := Lib.hid (fun w => (shRead_is l A xa hA (by omega) w).mono fun _ _ h => h.n rfl)
      have kB := Lib.hid (fun w => (shRead_is _ B xb hB (by simp; omega) w).mono fun _ _ h => h.n rfl)
      have kC := Lib.hid (fun w => (shRead_is _ C xc hC (by simp; omega) w).mono fun _ _ h => h.n rfl)
      rw [← hl] at kA
      rw [← remark_text1, ← hl, ← hrm] at kB
      rw [← remark_text2, ← hl, ← hrm] at kC
      obtain ⟨nA, hnA⟩ : ∃ n, n = A.length := ⟨_, rfl⟩
      obtain ⟨nB, hnB⟩ : ∃ n, n = B.length := ⟨_, rfl⟩
      obtain ⟨nC, hnC⟩ : ∃ n, n = C.length := ⟨_, rfl⟩
      rw [← hnA] at kA
      rw [← hnB] at kB
      rw [← hnC] at kC
      have HRM := Lib.hid hrm
      clear hl hz hrm hy hA hB hC hnA hnB hnC
      have z1 : (⟨#[35]⟩ : ByteArray).size = 1 := rfl
      have z2 : (⟨#[10]⟩ : ByteArray).size = 1 := rfl
      have z3 : (⟨#[10, 32, 35]⟩ : ByteArray).size = 3 := rfl
      have s1 : (9223372036854775807 < (⟨#[35]⟩ : ByteArray).size + T.size) = False := by simp only [eq_iff_iff, iff_false]; omega
      have s2 : (9223372036854775807 < ((⟨#[35]⟩ : ByteArray) ++ T).size + (⟨#[10]⟩ : ByteArray).size) = False := by simp only [eq_iff_iff, iff_false, ByteArray.size_append]; omega
      have s3 : (9223372036854775807 < ((⟨#[35]⟩ : ByteArray) ++ T ++ ⟨#[10]⟩).size + S.size) = False := by simp only [eq_iff_iff, iff_false, ByteArray.size_append]; omega
      have s4 : (9223372036854775807 < S.size + (⟨#[10, 32, 35]⟩ : ByteArray).size) = False := by simp only [eq_iff_iff, iff_false]; omega
      have s5 : (9223372036854775807 < (S ++ (⟨#[10, 32, 35]⟩ : ByteArray)).size + T.size) = False := by simp only [eq_iff_iff, iff_false, ByteArray.size_append]; omega
      clear z1 z2 z3
      go_enter Tryd.func7, Tryd.ntmps7
      go_wp2_with (go_at_call 13; (with_reducible refine kS.mono ?_); rintro e w1 ⟨rfl, hb⟩; have HB := Lib.hid hb; clear hb)
      go_loopg [6] (T.size + 1) (fun k i wr => ∃ (j : Nat), i = .int .i64 j ∧ j ≤ T.size ∧ Hid (k = T.size + 1 - j) ∧ Hid (∀ q (h : q < T.size), q < j → T[q] ≠ 10) ∧ wr = w1)
      case atStart => exact ⟨0, rfl, by omega, rfl, fun q _ hq => by omega, rfl⟩
      case round =>
        obtain ⟨j, rfl, hj, HK, HS, rfl⟩ := hrel
        by_cases hlt : j < T.size
        · by_cases h39 : T[j] = 10
          · have hb : (((T[j]'hlt).toNat : Int) == 10) = true := by rw [h39]; rfl
            go_wp2
            exact bodyPost_ret (results_tmp rfl _ _ _) rfl ⟨rfl, HB.out⟩
          · have hb : (((T[j]'hlt).toNat : Int) == 10) = false := by
              rw [beq_eq_false_iff_ne]
              intro e
              exact h39 (UInt8.toNat_inj.1 (by rw [show (10 : UInt8).toNat = 10 from rfl]; omega))
            have hI : IntKind.i64.wrap ((j : Int) + 1) = ((j + 1 : Nat) : Int) := by rw [IntWalk.i64_in _ (by omega)]; omega
            have H39 := Lib.hid h39
            clear h39
            go_wp2
            go_roundg (T.size - j)
            case measure => have := HK.out; omega
            case rel => exact ⟨j + 1, by go_num, by omega, by show _ = _; omega, fun q h hq => by
              by_cases hqj : q = j
              · subst hqj; exact H39.out
              · exact HS.out q h (by omega), rfl⟩
        · have hdl : decide ((j : Int) < (T.size : Int)) = false := by simp; omega
          have h10 : Hid ((10 : UInt8) ∉ rm) := not_in_bytes HRM.out fun q h => HS.out q h (by omega)
          by_cases hxa : xa = 0
          · obtain ⟨⟨rfl, rfl⟩, ⟨rfl, rfl⟩⟩ := HSAME.out h10.out hxa
            subst hxa
            have KSM := Lib.hid (fun (u v : Value) (F G : Nat → Prop) (w : World) (h1 : (cosV 93).q F w u C) (h2 : (cosV 93).q G w v C) (hF : ∀ g, F g → g < w.heap.size) (hG : ∀ g, G g → g < w.heap.size) => same_all 93 u v C C F G w h1 h2 hF hG)
            rw [eqB_self] at KSM
            go_wp2_with (first
              | (go_at_call 14; first
                | ((with_reducible refine (kA.out _).mono ?_); rintro e w2 ⟨ao, ca, rfl, hq, hb⟩; have HB2 := Lib.hid (HB.out.trans (hb.mono HB.out.size)); have QA := Lib.hid hq; clear hb hq kA)
                | ((with_reducible refine (kB.out _).mono ?_); rintro e w3 ⟨bo, cb, rfl, hq, hb⟩; have HB3 := Lib.hid (HB2.out.trans (hb.mono HB2.out.size)); have QA3 := Lib.hid (val_below QA.out (fun g hg => hg.2) hb); have HS3 := Lib.hid hb.size; have QB := Lib.hid hq; clear hb hq kB)
                | ((with_reducible refine (kC.out _).mono ?_); rintro e w4 ⟨co, cc, rfl, hq, hb⟩; have HB4 := Lib.hid (HB3.out.trans (hb.mono HB3.out.size)); have QA4 := Lib.hid (val_below QA3.out (fun g hg => Nat.lt_of_lt_of_le hg.2 HS3.out) hb); have QB4 := Lib.hid (val_below QB.out (fun g hg => hg.2) hb); have HS4 := Lib.hid hb.size; have QC := Lib.hid hq; clear hb hq kC
                   have KS1 := KSM.out _ _ _ _ _ QB4.out QA4.out (fun g hg => Nat.lt_of_lt_of_le hg.2 HS4.out) (fun g hg => Nat.lt_of_lt_of_le hg.2 (Nat.le_trans HS3.out HS4.out))
                   have KS2 := Lib.hid (fun w5 (hb : Below w4.heap.size w4 w5) => KSM.out _ _ _ _ w5 (val_below QC.out (fun g hg => hg.2) hb) (val_below QA4.out (fun g hg => Nat.lt_of_lt_of_le hg.2 (Nat.le_trans HS3.out HS4.out)) hb) (fun g hg => Nat.lt_of_lt_of_le hg.2 hb.size) (fun g hg => Nat.lt_of_lt_of_le hg.2 (Nat.le_trans (Nat.le_trans HS3.out HS4.out) hb.size)))))
              | (go_at_call 15; first
                | ((with_reducible refine (KS2.out _ M5.out).mono ?_); rintro e w6 ⟨rfl, hb⟩; have M6 := Lib.hid (M5.out.trans (hb.mono M5.out.size)); clear hb)
                | ((with_reducible refine KS1.mono ?_); rintro e w5 ⟨rfl, hb⟩; have M5 := Lib.hid hb; clear hb)))
            exact bodyPost_ret (results_tmp rfl _ _ _) rfl ⟨rfl, HB4.out.trans (M6.out.mono HB4.out.size)⟩
          · have hx : (xa == 0) = false := by simpa using hxa
            clear hxa
            go_wp2_with (go_at_call 14; first
              | ((with_reducible refine (kA.out _).mono ?_); rintro e w2 ⟨ao, ca, rfl, hq, hb⟩; have HB2 := Lib.hid (HB.out.trans (hb.mono HB.out.size)); clear hb hq kA)
              | ((with_reducible refine (kB.out _).mono ?_); rintro e w3 ⟨bo, cb, rfl, hq, hb⟩; have HB3 := Lib.hid (HB2.out.trans (hb.mono HB2.out.size)); clear hb hq kB)
              | ((with_reducible refine (kC.out _).mono ?_); rintro e w4 ⟨co, cc, rfl, hq, hb⟩; have HB4 := Lib.hid (HB3.out.trans (hb.mono HB3.out.size)); clear hb hq kC))
            exact bodyPost_ret (results_tmp rfl _ _ _) rfl ⟨rfl, HB4.out⟩
end Go.Proofs.YtabkmimpkoiajaaDoor
