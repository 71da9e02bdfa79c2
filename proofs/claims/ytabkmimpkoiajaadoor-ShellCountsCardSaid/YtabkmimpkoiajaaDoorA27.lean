/- Packed texts: ShellCountsWalk. What each of them proves stands above its theorems; the conditions stand in these. -/
import Derived.Test.YtabkmimpkoiajaaDoorA3
import Derived.Test.YtabkmimpkoiajaaDoorA19
import Derived.Test.YtabkmimpkoiajaaDoorA20
namespace Go.Proofs.YtabkmimpkoiajaaDoor
open Go.RowKit Go.Lib

def colC : Co := .mk 1 [] [] [[litP false [58]]] [] [] []
theorem col_read : lstS 30 [58, 10, 58] = .ok [colC, colC] [] := by rfl
theorem cols_read {l : List UInt8} {A : List Co} (ha : readSh l = (A, 0)) (hl : l.length ≤ 1500) : readSh (l ++ 10 :: [58, 10, 58]) = (A ++ [colC, colC], 0) := ok_read (lst_two (read_ok ha).1 col_read) (by simp; omega)
theorem cols_cnt (A : List Co) : cntCs (A ++ [colC, colC]) = cntCs A + 2 := by
  rw [cntCs_app]
  rfl
theorem if2_cnt (A : List Co) : cntCs [.mk 4 [] [] [] A A []] = 2 * cntCs A + 1 := by
  simp only [cntCs, cntC, cntWs]
  omega
theorem cols_text (l : List UInt8) : (⟨l.toArray⟩ : ByteArray) ++ ⟨#[10, 58, 10, 58]⟩ = ⟨(l ++ 10 :: [58, 10, 58]).toArray⟩ := by
  apply ByteArray.ext
  simp
theorem if2_text (l : List UInt8) : (⟨#[105, 102, 32]⟩ : ByteArray) ++ ⟨l.toArray⟩ ++ ⟨#[10, 116, 104, 101, 110, 32]⟩ ++ ⟨l.toArray⟩ ++ ⟨#[10, 102, 105]⟩ = ⟨(tIf2 l).toArray⟩ := by
  apply ByteArray.ext
  simp [tIf2]
theorem if2_read {l : List UInt8} {A : List Co} (ha : readSh l = (A, 0)) (hA : A ≠ []) (hl : l.length ≤ 1500) : readSh (tIf2 l) = ([.mk 4 [] [] [] A A []], 0) ∨ readSh (tIf2 l) = ([], 7) := by
  have hz : (tIf2 l).length ≤ 1048576 := by simp [tIf2]; omega
  rcases wrap_if2 (k := 29) (read_ok ha).1 hA with h | h
  · exact .inl (ok_read h hz)
  · exact .inr (bad_read h hz)
set_option maxHeartbeats 4000000 in
set_option maxRecDepth 20000 in
theorem counts_big (S : ByteArray) (hs : S.size ≤ 140737488351232) (h : 1500 < S.size) (w : World) : Calls Tryd.prog 6 #[.string S] w fun e w' => e = .returned (.bool true) ∧ Below w.heap.size w w' := by
  have kS := shownSh_any w
  have hd : decide ((1500 : Int) < (S.size : Int)) = true := by simpa using (by omega : (1500 : Int) < (S.size : Int))
  go_enter Tryd.func6, Tryd.ntmps6
  go_wp2_with (go_at_call 13; (with_reducible refine kS.mono ?_); rintro e w1 ⟨rfl, hb⟩)
  all_goals exact bodyPost_ret (results_tmp rfl _ _ _) rfl ⟨rfl, hb⟩
set_option maxHeartbeats 4000000 in
set_option maxRecDepth 20000 in
theorem counts_bad (S : ByteArray) (h : S.size ≤ 1500) (A : List Co) (nA : Nat) (xa : Int) (hx : (xa == 0) = false) (kA : ∀ w, Calls Tryd.prog 14 #[.string S] w (RdN A nA xa w)) (w : World) : Calls Tryd.prog 6 #[.string S] w fun e w' => e = .returned (.bool true) ∧ Below w.heap.size w w' := by
  have kS := shownSh_any w
  have hd : decide ((1500 : Int) < (S.size : Int)) = false := by simp; omega
  go_enter Tryd.func6, Tryd.ntmps6
  go_wp2_with (first
    | (go_at_call 13; (with_reducible refine kS.mono ?_); rintro e w1 ⟨rfl, hb⟩; have HB := Lib.hid hb; clear hb)
    | (go_at_call 14; (with_reducible refine (kA _).mono ?_); rintro e w2 ⟨ao, ca, rfl, hq, hb⟩; have HB2 := Lib.hid (HB.out.trans (hb.mono HB.out.size)); clear hb hq))
  exact bodyPost_ret (results_tmp rfl _ _ _) rfl ⟨rfl, HB2.out⟩
set_option maxHeartbeats 4000000 in
set_option maxRecDepth 20000 in
theorem counts_none (S : ByteArray) (h : S.size ≤ 1500) (kA : ∀ w, Calls Tryd.prog 14 #[.string S] w (RdN [] 0 0 w)) (w : World) : Calls Tryd.prog 6 #[.string S] w fun e w' => e = .returned (.bool true) ∧ Below w.heap.size w w' := by
  have kS := shownSh_any w
  have hd : decide ((1500 : Int) < (S.size : Int)) = false := by simp; omega
  go_enter Tryd.func6, Tryd.ntmps6
  go_wp2_with (first
    | (go_at_call 13; (with_reducible refine kS.mono ?_); rintro e w1 ⟨rfl, hb⟩; have HB := Lib.hid hb; clear hb)
    | (go_at_call 14; (with_reducible refine (kA _).mono ?_); rintro e w2 ⟨ao, ca, rfl, hq, hb⟩; have HB2 := Lib.hid (HB.out.trans (hb.mono HB.out.size)); clear hb hq))
  exact bodyPost_ret (results_tmp rfl _ _ _) rfl ⟨rfl, HB2.out⟩
set_option maxHeartbeats 8000000 in
set_option maxRecDepth 20000 in
theorem counts_good (S : ByteArray) (h : S.size ≤ 1500) (A B C : List Co) (nA nB nC cA cB cC : Nat) (xc : Int) (hnA : nA = A.length) (hn0 : nA ≠ 0) (hcA : cA = cntCs A) (hcB : cB = cntCs B) (hcC : cC = cntCs C) (hAB : cB = cA + 2) (hxc : xc = 7 ∨ xc = 0 ∧ cC = 2 * cA + 1) (hsm : cA ≤ 100000)
    (kA : ∀ w, Calls Tryd.prog 14 #[.string S] w (RdN A nA 0 w)) (kB : ∀ w, Calls Tryd.prog 14 #[.string (S ++ ⟨#[10, 58, 10, 58]⟩)] w (RdN B nB 0 w)) (kC : ∀ w, Calls Tryd.prog 14 #[.string ((⟨#[105, 102, 32]⟩ : ByteArray) ++ S ++ ⟨#[10, 116, 104, 101, 110, 32]⟩ ++ S ++ ⟨#[10, 102, 105]⟩)] w (RdN C nC xc w)) (w : World) : Calls Tryd.prog 6 #[.string S] w fun e w' => e = .returned (.bool true) ∧ Below w.heap.size w w' := by
  have kS := shownSh_any w
  have hd : decide ((1500 : Int) < (S.size : Int)) = false := by simp; omega
  have hlA := cntCs_len A
  rw [← hnA, ← hcA] at hlA
  have hge : decide ((nA : Int) ≤ (cA : Int)) = true := by simp; omega
  have hz0 : ((nA : Int) == 0) = false := by rw [beq_eq_false_iff_ne]; omega
  have z1 : (⟨#[105, 102, 32]⟩ : ByteArray).size = 3 := rfl
  have z2 : (⟨#[10, 116, 104, 101, 110, 32]⟩ : ByteArray).size = 6 := rfl
  have z3 : (⟨#[10, 102, 105]⟩ : ByteArray).size = 3 := rfl
  have z4 : (⟨#[10, 58, 10, 58]⟩ : ByteArray).size = 4 := rfl
  have s1 : (9223372036854775807 < S.size + (⟨#[10, 58, 10, 58]⟩ : ByteArray).size) = False := by simp only [eq_iff_iff, iff_false]; omega
  have s2 : (9223372036854775807 < (⟨#[105, 102, 32]⟩ : ByteArray).size + S.size) = False := by simp only [eq_iff_iff, iff_false]; omega
  have s3 : (9223372036854775807 < ((⟨#[105, 102, 32]⟩ : ByteArray) ++ S).size + (⟨#[10, 116, 104, 101, 110, 32]⟩ : ByteArray).size) = False := by simp only [eq_iff_iff, iff_false, ByteArray.size_append]; omega
  have s4 : (9223372036854775807 < ((⟨#[105, 102, 32]⟩ : ByteArray) ++ S ++ ⟨#[10, 116, 104, 101, 110, 32]⟩).size + S.size) = False := by simp only [eq_iff_iff, iff_false, ByteArray.size_append]; omega
  have s5 : (9223372036854775807 < ((⟨#[105, 102, 32]⟩ : ByteArray) ++ S ++ ⟨#[10, 116, 104, 101, 110, 32]⟩ ++ S).size + (⟨#[10, 102, 105]⟩ : ByteArray).size) = False := by simp only [eq_iff_iff, iff_false, ByteArray.size_append]; omega
  have KN := Lib.hid (fun (v : Value) (cs : List Co) (F : Nat → Prop) (w : World) (n : Nat) (h : (cosV 93).q F w v cs) (hF : ∀ g, F g → g < w.heap.size) (hn : n = cntCs cs) (hc : n ≤ 1099511627776) => (show Calls Tryd.prog 16 #[v] w fun e w' => e = .returned (.int .i64 (n : Nat)) ∧ Below w.heap.size w w' from by rw [hn]; exact count_any 93 v cs F w h hF (by omega)))
  have HH := Lib.hid (And.intro hcA (And.intro hcB hcC))
  have HS := Lib.hid hsm
  have w1 : IntKind.i64.wrap ((cA : Int) + 2) = (cB : Int) := by rw [IntWalk.i64_in _ (by omega)]; omega
  clear z1 z2 z3 z4 hnA hcA hcB hcC hge
  rcases hxc with rfl | ⟨rfl, hxc⟩
  · have HAB := Lib.hid hAB
    clear hAB hsm
    go_enter Tryd.func6, Tryd.ntmps6
    go_wp2_with (first
      | (go_at_call 13; (with_reducible refine kS.mono ?_); rintro e w1 ⟨rfl, hb⟩; have HB := Lib.hid hb; clear hb)
      | (go_at_call 16; first
        | ((with_reducible refine KB5.mono ?_); rintro e w6 ⟨rfl, hb⟩; have HB6 := Lib.hid (HB5.out.trans (hb.mono HB5.out.size)); clear hb)
        | ((with_reducible refine KA3.mono ?_); rintro e w3 ⟨rfl, hb⟩; have HB3 := Lib.hid (HB2.out.trans (hb.mono HB2.out.size)); clear hb))
      | (go_at_call 14; first
        | ((with_reducible refine (kA _).mono ?_); rintro e w2 ⟨ao, ca, rfl, hq, hb⟩; have HB2 := Lib.hid (HB.out.trans (hb.mono HB.out.size)); have KA3 := KN.out _ A _ _ cA hq (fun g hg => hg.2) HH.out.1 (by have := HS.out; omega); clear hb hq kA)
        | ((with_reducible refine (kB _).mono ?_); rintro e w4 ⟨bo, cb, rfl, hq, hb⟩; have HB4 := Lib.hid (HB3.out.trans (hb.mono HB3.out.size)); have QB := Lib.hid hq; clear hb hq kB)
        | ((with_reducible refine (kC _).mono ?_); rintro e w5 ⟨co, cc, rfl, hq, hb⟩; have HB5 := Lib.hid (HB4.out.trans (hb.mono HB4.out.size)); have KB5 := KN.out _ B _ _ cB (val_below QB.out (fun g hg => hg.2) hb) (fun g hg => Nat.lt_of_lt_of_le hg.2 hb.size) HH.out.2.1 (by have := HS.out; have := HAB.out; omega); clear hb hq kC)))
    exact bodyPost_ret (results_tmp rfl _ _ _) rfl ⟨rfl, HB6.out⟩
  · have HAB := Lib.hid (And.intro hAB hxc)
    have w2 : IntKind.i64.wrap (2 * (cA : Int)) = 2 * (cA : Int) := IntWalk.i64_in _ (by omega)
    have w3 : IntKind.i64.wrap (2 * (cA : Int) + 1) = (cC : Int) := by rw [IntWalk.i64_in _ (by omega)]; omega
    clear hAB hsm hxc
    go_enter Tryd.func6, Tryd.ntmps6
    go_wp2_with (first
      | (go_at_call 13; (with_reducible refine kS.mono ?_); rintro e w1 ⟨rfl, hb⟩; have HB := Lib.hid hb; clear hb)
      | (go_at_call 16; first
        | ((with_reducible refine (KC6.out _ HB6D.out).mono ?_); rintro e w7 ⟨rfl, hb⟩; have HB7 := Lib.hid (HB6.out.trans (hb.mono HB6.out.size)); clear hb)
        | ((with_reducible refine KB5.mono ?_); rintro e w6 ⟨rfl, hb⟩; have HB6 := Lib.hid (HB5.out.trans (hb.mono HB5.out.size)); have HB6D := Lib.hid hb; clear hb KB5)
        | ((with_reducible refine KA3.mono ?_); rintro e w3 ⟨rfl, hb⟩; have HB3 := Lib.hid (HB2.out.trans (hb.mono HB2.out.size)); clear hb KA3))
      | (go_at_call 14; first
        | ((with_reducible refine (kA _).mono ?_); rintro e w2 ⟨ao, ca, rfl, hq, hb⟩; have HB2 := Lib.hid (HB.out.trans (hb.mono HB.out.size)); have KA3 := KN.out _ A _ _ cA hq (fun g hg => hg.2) HH.out.1 (by have := HS.out; omega); clear hb hq kA)
        | ((with_reducible refine (kB _).mono ?_); rintro e w4 ⟨bo, cb, rfl, hq, hb⟩; have HB4 := Lib.hid (HB3.out.trans (hb.mono HB3.out.size)); have QB := Lib.hid hq; clear hb hq kB)
        | ((with_reducible refine (kC _).mono ?_); rintro e w5 ⟨co, cc, rfl, hq, hb⟩; have HB5 := Lib.hid (HB4.out.trans (hb.mono HB4.out.size)); have KB5 := KN.out _ B _ _ cB (val_below QB.out (fun g hg => hg.2) hb) (fun g hg => Nat.lt_of_lt_of_le hg.2 hb.size) HH.out.2.1 (by have := HS.out; have := HAB.out; omega)
           have KC6 := Lib.hid (fun w6 (hb6 : Below w5.heap.size w5 w6) => KN.out _ C _ w6 cC (val_below hq (fun g hg => hg.2) hb6) (fun g hg => Nat.lt_of_lt_of_le hg.2 hb6.size) HH.out.2.2 (by have := HS.out; have := HAB.out; omega)); clear hb hq kC)))
    exact bodyPost_ret (results_tmp rfl _ _ _) rfl ⟨rfl, HB7.out⟩
/-- The law. -/
theorem shellCounts_walk (S : ByteArray) (hs : S.size ≤ 140737488351232) (w : World) : Calls Tryd.prog 6 #[.string S] w fun e w' => e = .returned (.bool true) ∧ Below w.heap.size w w' := by
  by_cases hbig : 1500 < S.size
  · exact counts_big S hs hbig w
  · obtain ⟨l, hl, hz⟩ : ∃ l : List UInt8, S = ⟨l.toArray⟩ ∧ S.size = l.length := ⟨S.data.toList, by cases S; rfl, by rw [Array.length_toList]; rfl⟩
    obtain ⟨A, xa, hA⟩ : ∃ A x, readSh l = (A, x) := ⟨_, _, rfl⟩
    have kA : ∀ w, Calls Tryd.prog 14 #[.string S] w (RdN A A.length xa w) := fun w => by rw [hl]; exact (shRead_is l A xa hA (by omega) w).mono fun _ _ h => h.n rfl
    by_cases hx : xa = 0
    · subst hx
      cases hA0 : A with
      | nil => rw [hA0] at kA; exact counts_none S (by omega) kA w
      | cons c r =>
        have hne : A ≠ [] := by rw [hA0]; simp
        have hB := cols_read hA (by omega)
        obtain ⟨C, xc, hC⟩ : ∃ C x, readSh (tIf2 l) = (C, x) := ⟨_, _, rfl⟩
        have hxc : xc = 7 ∨ xc = 0 ∧ cntCs C = 2 * cntCs A + 1 := by
          rcases if2_read hA hne (by omega) with h | h
          · rw [hC] at h
            obtain ⟨rfl, rfl⟩ := Prod.mk.inj h
            exact .inr ⟨rfl, if2_cnt A⟩
          · rw [hC] at h
            exact .inl (Prod.mk.inj h).2
        have kB : ∀ w, Calls Tryd.prog 14 #[.string (S ++ ⟨#[10, 58, 10, 58]⟩)] w (RdN (A ++ [colC, colC]) _ 0 w) := fun w => by rw [hl, cols_text]; exact (shRead_is _ _ 0 hB (by simp; omega) w).mono fun _ _ h => h.n rfl
        have kC : ∀ w, Calls Tryd.prog 14 #[.string ((⟨#[105, 102, 32]⟩ : ByteArray) ++ S ++ ⟨#[10, 116, 104, 101, 110, 32]⟩ ++ S ++ ⟨#[10, 102, 105]⟩)] w (RdN C _ xc w) := fun w => by rw [hl, if2_text]; exact (shRead_is _ _ xc hC (by simp [tIf2]; omega) w).mono fun _ _ h => h.n rfl
        have hw := (read_wt hA).2
        exact counts_good S (by omega) A _ C _ _ _ _ _ _ xc rfl (by rw [hA0]; simp) rfl rfl rfl (cols_cnt A) hxc (by omega) kA kB kC w
    · exact counts_bad S (by omega) A _ xa (by simpa using hx) kA w
end Go.Proofs.YtabkmimpkoiajaaDoor
