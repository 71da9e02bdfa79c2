/- Packed texts: ShellQuotesWalk. What each of them proves stands above its theorems; the conditions stand in these. -/
import Derived.Deep.LoopGhost
import Derived.Test.YtabkmimpkoiajaaDoorA3
import Derived.Test.YtabkmimpkoiajaaDoorA19
namespace Go.Proofs.YtabkmimpkoiajaaDoor
open Go.RowKit Go.Lib

theorem quotes_text (l : List UInt8) : (⟨#[120, 61, 39]⟩ : ByteArray) ++ ⟨l.toArray⟩ ++ ⟨#[39, 32, 101, 99, 104, 111, 32, 39]⟩ ++ ⟨l.toArray⟩ ++ ⟨#[39]⟩ = ⟨(tQ l).toArray⟩ := by
  apply ByteArray.ext
  simp [tQ]
theorem quotes_read (l : List UInt8) (h : (39 : UInt8) ∉ l) (hl : l.length ≤ 1000) : readSh (tQ l) = ([.mk 1 [[120]] [[litP true l]] [[litP false [101, 99, 104, 111]], [litP true l]] [] [] []], 0) := by
  unfold readSh
  rw [if_neg (by simp [tQ]; omega), read_quotes 30 h]
  rfl
set_option maxHeartbeats 8000000 in
set_option maxRecDepth 20000 in
theorem shellQuotes_walk (S : ByteArray) (hs : S.size ≤ 140737488351232) (T : ByteArray) (ht : T.size ≤ 140737488351232) (w : World) : Calls Tryd.prog 4 #[.string S, .string T] w fun e w' => e = .returned (.bool true) ∧ Below w.heap.size w w' := by
  have kS := shownSh_any w
  by_cases hbig : 1000 < S.size
  · have hd : decide ((1000 : Int) < (S.size : Int)) = true := by simpa using (by omega : (1000 : Int) < (S.size : Int))
    go_enter Tryd.func4, Tryd.ntmps4
    go_wp2_with (go_at_call 13; (with_reducible refine kS.mono ?_); rintro e w1 ⟨rfl, hb⟩)
    all_goals exact bodyPost_ret (results_tmp rfl _ _ _) rfl ⟨rfl, hb⟩
  · have hd : decide ((1000 : Int) < (S.size : Int)) = false := by simp; omega
    by_cases hbig2 : 100 < T.size
    · have hd2 : decide ((100 : Int) < (T.size : Int)) = true := by simpa using (by omega : (100 : Int) < (T.size : Int))
      go_enter Tryd.func4, Tryd.ntmps4
      go_wp2_with (go_at_call 13; (with_reducible refine kS.mono ?_); rintro e w1 ⟨rfl, hb⟩)
      all_goals exact bodyPost_ret (results_tmp rfl _ _ _) rfl ⟨rfl, hb⟩
    · have hd2 : decide ((100 : Int) < (T.size : Int)) = false := by simp; omega
      obtain ⟨l, hl⟩ : ∃ l : List UInt8, S = ⟨l.toArray⟩ := ⟨S.data.toList, by cases S; rfl⟩
      have hz : S.size = l.length := by rw [hl]; exact sizeS l
      have KR := Lib.hid (fun (h39 : (39 : UInt8) ∉ l) w => shRead_is _ _ 0 (quotes_read l h39 (by omega)) (by simp [tQ]; omega) w)
      rw [← quotes_text l, ← hl] at KR
      have HL := Lib.hid hl
      clear hl hz
      have s1 : (9223372036854775807 < (⟨#[120, 61, 39]⟩ : ByteArray).size + S.size) = False := by
        have : (⟨#[120, 61, 39]⟩ : ByteArray).size = 3 := rfl
        simp only [eq_iff_iff, iff_false]; omega
      have s2 : (9223372036854775807 < ((⟨#[120, 61, 39]⟩ : ByteArray) ++ S).size + (⟨#[39, 32, 101, 99, 104, 111, 32, 39]⟩ : ByteArray).size) = False := by
        have : (⟨#[120, 61, 39]⟩ : ByteArray).size = 3 := rfl
        have : (⟨#[39, 32, 101, 99, 104, 111, 32, 39]⟩ : ByteArray).size = 8 := rfl
        simp only [eq_iff_iff, iff_false, ByteArray.size_append]; omega
      have s3 : (9223372036854775807 < ((⟨#[120, 61, 39]⟩ : ByteArray) ++ S ++ ⟨#[39, 32, 101, 99, 104, 111, 32, 39]⟩).size + S.size) = False := by
        have : (⟨#[120, 61, 39]⟩ : ByteArray).size = 3 := rfl
        have : (⟨#[39, 32, 101, 99, 104, 111, 32, 39]⟩ : ByteArray).size = 8 := rfl
        simp only [eq_iff_iff, iff_false, ByteArray.size_append]; omega
      have s4 : (9223372036854775807 < ((⟨#[120, 61, 39]⟩ : ByteArray) ++ S ++ ⟨#[39, 32, 101, 99, 104, 111, 32, 39]⟩ ++ S).size + (⟨#[39]⟩ : ByteArray).size) = False := by
        have : (⟨#[120, 61, 39]⟩ : ByteArray).size = 3 := rfl
        have : (⟨#[39]⟩ : ByteArray).size = 1 := rfl
        have : (⟨#[39, 32, 101, 99, 104, 111, 32, 39]⟩ : ByteArray).size = 8 := rfl
        simp only [eq_iff_iff, iff_false, ByteArray.size_append]; omega
      go_enter Tryd.func4, Tryd.ntmps4
      go_wp2_with (go_at_call 13; (with_reducible refine kS.mono ?_); rintro e w1 ⟨rfl, hb⟩; have HB := Lib.hid hb; clear hb)
      go_loopg [6] (S.size + 1) (fun k i wr => ∃ (j : Nat), i = .int .i64 j ∧ j ≤ S.size ∧ Hid (k = S.size + 1 - j) ∧ Hid (∀ q (h : q < S.size), q < j → S[q] ≠ 39) ∧ wr = w1)
      case atStart => exact ⟨0, rfl, by omega, rfl, fun q _ hq => by omega, rfl⟩
      case round =>
        obtain ⟨j, rfl, hj, HK, HS, rfl⟩ := hrel
        by_cases hlt : j < S.size
        · by_cases h39 : S[j] = 39
          · have hb : (((S[j]'hlt).toNat : Int) == 39) = true := by rw [h39]; rfl
            go_wp2
            exact bodyPost_ret (results_tmp rfl _ _ _) rfl ⟨rfl, HB.out⟩
          · have hb : (((S[j]'hlt).toNat : Int) == 39) = false := by
              rw [beq_eq_false_iff_ne]
              intro e
              exact h39 (UInt8.toNat_inj.1 (by rw [show (39 : UInt8).toNat = 39 from rfl]; omega))
            have hI : IntKind.i64.wrap ((j : Int) + 1) = ((j + 1 : Nat) : Int) := by rw [IntWalk.i64_in _ (by omega)]; omega
            have H39 := Lib.hid h39
            clear h39
            go_wp2
            go_roundg (S.size - j)
            case measure => have := HK.out; omega
            case rel => exact ⟨j + 1, by go_num, by omega, by show _ = _; omega, fun q h hq => by
              by_cases hqj : q = j
              · subst hqj; exact H39.out
              · exact HS.out q h (by omega), rfl⟩
        · have hdl : decide ((j : Int) < (S.size : Int)) = false := by simp; omega
          have h39 : (39 : UInt8) ∉ l := fun hm => by
            obtain ⟨q, hq⟩ := List.mem_iff_getElem?.1 hm
            have hql : q < l.length := (List.getElem?_eq_some_iff.1 hq).1
            have hz : S.size = l.length := by rw [HL.out]; exact sizeS l
            refine HS.out q (by omega) (by omega) ?_
            have := Lib.data_getElem? S q (by omega)
            rw [show S.data.toList = l by rw [HL.out], hq] at this
            exact (Option.some.inj this).symm
          have kr := KR.out h39
          clear h39
          go_wp2_with (go_at_call 14; (with_reducible refine (kr _).mono ?_); rintro e w2 ⟨ao, cap, rfl, hq, hb⟩; obtain ⟨g1, p1, an, nn, cn, av, nv, cv, aw, nw, cw, aa, na, ca, ab, nb, cb, ac, nc, cc, e1, hp1, hg1, ⟨a0, a1, a2, a3, a4, a5, a6⟩, -, ⟨z2, y2⟩, ⟨z3, y3⟩, -, -, -, -, q2, q3, -, -, -⟩ := cmd_at hq (i := 0) rfl; injection e1 with e1 e1b e1c; subst e1; clear e1b e1c; obtain rfl : nv = 1 := z2; obtain rfl : nw = 2 := z3
                       obtain ⟨g2, p2, bo, m2, c2, e2, hp2, hg2, b0, z4, y4, q4⟩ := wd_at q2 (i := 0) rfl; injection e2 with e2 e2b e2c; subst e2; clear e2b e2c; obtain rfl : m2 = 1 := z4
                       obtain ⟨g3, p3, bo3, m3, c3, e3, hp3, hg3, b3, z6, y6, q6⟩ := wd_at q3 (i := 1) rfl; injection e3 with e3 e3b e3c; subst e3; clear e3b e3c; obtain rfl : m3 = 1 := z6
                       obtain ⟨g5, p5, lo, m5, c5, e5, hp5, hg5, ⟨d0, d1, d2, d3, d4⟩, z5, y5, q5⟩ := pt_at q4 (i := 0) rfl; injection e5 with e5 e5b e5c; subst e5; clear e5b e5c
                       obtain ⟨g7, p7, lo7, m7, c7, e7, hp7, hg7, ⟨f0, f1, f2, f3, f4⟩, z7, y7, q7⟩ := pt_at q6 (i := 0) rfl; injection e7 with e7 e7b e7c; subst e7; clear e7b e7c
                       have D1 : w2.cell? ⟨g5, 0 * 5 + 1, none⟩ = some (.bool true) := d1
                       have D2 : w2.cell? ⟨g5, 0 * 5 + 2, none⟩ = some (.string S) := by rw [HL.out]; exact d2
                       have F0 : w2.cell? ⟨g7, 0 * 5, none⟩ = some (.int .i64 1) := f0
                       have F2 : w2.cell? ⟨g7, 0 * 5 + 2, none⟩ = some (.string S) := by rw [HL.out]; exact f2
                       have HB2 := Lib.hid (HB.out.trans (hb.mono HB.out.size)); clear hb hq q2 q3 q4 q5 q6 q7 a0 a1 a4 a5 a6 d0 d1 d2 d3 d4 f0 f1 f2 f3 f4)
          exact bodyPost_ret (results_tmp rfl _ _ _) rfl ⟨rfl, HB2.out⟩
end Go.Proofs.YtabkmimpkoiajaaDoor
