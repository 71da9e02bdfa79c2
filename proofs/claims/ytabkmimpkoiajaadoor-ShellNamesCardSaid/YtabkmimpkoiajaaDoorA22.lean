/- Packed texts: ShellNamesWalk. What each of them proves stands above its theorems; the conditions stand in these. -/
import Derived.Test.YtabkmimpkoiajaaDoorA3
import Derived.Test.YtabkmimpkoiajaaDoorA19
namespace Go.Proofs.YtabkmimpkoiajaaDoor
open Go.RowKit Go.Lib

theorem rest_of (c : UInt8) : restOk c = ((decide ((97 : Int) ≤ (c.toNat : Int)) && decide ((c.toNat : Int) ≤ 122)) || (decide ((65 : Int) ≤ (c.toNat : Int)) && decide ((c.toNat : Int) ≤ 90)) || decide ((c.toNat : Int) = 95) || (decide ((48 : Int) ≤ (c.toNat : Int)) && decide ((c.toNat : Int) ≤ 57))) := by
  have : ∀ n, n < 256 → restOk (UInt8.ofNat n) = ((decide ((97 : Int) ≤ (n : Int)) && decide ((n : Int) ≤ 122)) || (decide ((65 : Int) ≤ (n : Int)) && decide ((n : Int) ≤ 90)) || decide ((n : Int) = 95) || (decide ((48 : Int) ≤ (n : Int)) && decide ((n : Int) ≤ 57))) := by decide +kernel
  have e : UInt8.ofNat c.toNat = c := by simp
  have h := this c.toNat (by have := c.toNat_lt; omega)
  rwa [e] at h
set_option maxHeartbeats 8000000 in
set_option maxRecDepth 20000 in
/-- Neither a letter nor a figure. -/
theorem names_not (C : ByteArray) (hC : C.size = 1) (x : Int) (hx0 : 0 ≤ x) (hx1 : x ≤ 255) (hn : x < 48 ∨ 57 < x ∧ x < 65 ∨ 90 < x ∧ x < 95 ∨ 95 < x ∧ x < 97 ∨ 122 < x) (A B : List Co) (xa xb : Int) (w : World) (kc : ∀ w : World, (convert 40 9 (.slice (some ⟨w.heap.size, 0, none⟩) 1 1)).run Tryd.prog (w.alloc (.cells #[.int .u8 x] 5)) = .ok (.string C) (w.alloc (.cells #[.int .u8 x] 5)))
    (kA : ∀ w, Calls Tryd.prog 14 #[.string ((⟨#[120]⟩ : ByteArray) ++ C ++ ⟨#[61, 49, 32, 121]⟩)] w (RdA A xa w)) (kB : ∀ w, Calls Tryd.prog 14 #[.string ((⟨#[121, 32, 120]⟩ : ByteArray) ++ C ++ ⟨#[61, 49]⟩)] w (RdA B xb w)) :
    Calls Tryd.prog 8 #[.int .u8 x] w fun e w' => e = .returned (.bool true) ∧ Below w.heap.size w w' := by
  have kS := shownSh_any w
  have s1 : (9223372036854775807 < (⟨#[120]⟩ : ByteArray).size + C.size) = False := by simp only [eq_iff_iff, iff_false]; rw [hC]; decide
  have s2 : (9223372036854775807 < ((⟨#[120]⟩ : ByteArray) ++ C).size + (⟨#[61, 49, 32, 121]⟩ : ByteArray).size) = False := by simp only [eq_iff_iff, iff_false]; rw [ByteArray.size_append, hC]; decide
  have s3 : (9223372036854775807 < (⟨#[121, 32, 120]⟩ : ByteArray).size + C.size) = False := by simp only [eq_iff_iff, iff_false]; rw [hC]; decide
  have s4 : (9223372036854775807 < ((⟨#[121, 32, 120]⟩ : ByteArray) ++ C).size + (⟨#[61, 49]⟩ : ByteArray).size) = False := by simp only [eq_iff_iff, iff_false]; rw [ByteArray.size_append, hC]; decide
  rcases hn with h | h | h | h | h
  all_goals
    first | have t0 : decide ((97 : Int) ≤ x) = true := decide_eq_true (by omega) | have t0 : decide ((97 : Int) ≤ x) = false := decide_eq_false (by omega)
    first | have t1 : decide (x ≤ 122) = true := decide_eq_true (by omega) | have t1 : decide (x ≤ 122) = false := decide_eq_false (by omega)
    first | have t2 : decide ((65 : Int) ≤ x) = true := decide_eq_true (by omega) | have t2 : decide ((65 : Int) ≤ x) = false := decide_eq_false (by omega)
    first | have t3 : decide (x ≤ 90) = true := decide_eq_true (by omega) | have t3 : decide (x ≤ 90) = false := decide_eq_false (by omega)
    first | have t4 : decide ((48 : Int) ≤ x) = true := decide_eq_true (by omega) | have t4 : decide ((48 : Int) ≤ x) = false := decide_eq_false (by omega)
    first | have t5 : decide (x ≤ 57) = true := decide_eq_true (by omega) | have t5 : decide (x ≤ 57) = false := decide_eq_false (by omega)
    first | have t6 : (x == 95) = true := by (rw [beq_iff_eq]; omega) | have t6 : (x == 95) = false := by (rw [beq_eq_false_iff_ne]; omega)
    go_enter Tryd.func8, Tryd.ntmps8
    go_wp2_with (first
      | (go_at_call 13; (with_reducible refine kS.mono ?_); rintro e w1 ⟨rfl, hb⟩; have HB := Lib.hid hb; clear hb)
      | (go_at_call 14; first
        | ((with_reducible refine (kA _).mono ?_); rintro e w2 ⟨ao, cap, rfl, hq, hb⟩; have HB2 := Lib.hid ((HB.out.alloc HB.out.size _).trans (hb.mono (HB.out.alloc HB.out.size _).size)); clear hb hq)
        | ((with_reducible refine (kB _).mono ?_); rintro e w3 ⟨ao2, cap2, rfl, hq, hb⟩; have HB3 := Lib.hid (HB2.out.trans (hb.mono HB2.out.size)); clear hb hq)))
    exact bodyPost_ret (results_tmp rfl _ _ _) rfl ⟨rfl, HB3.out⟩
set_option maxHeartbeats 8000000 in
set_option maxRecDepth 20000 in
/-- A letter or a figure. -/
theorem names_is (C : ByteArray) (hC : C.size = 1) (x : Int) (hx0 : 0 ≤ x) (hx1 : x ≤ 255) (hn : 48 ≤ x ∧ x ≤ 57 ∨ 65 ≤ x ∧ x ≤ 90 ∨ 95 ≤ x ∧ x < 96 ∨ 97 ≤ x ∧ x ≤ 122) (c : UInt8) (eN : (⟨#[120]⟩ : ByteArray) ++ C = ⟨([120, c] : List UInt8).toArray⟩) (w : World) (kc : ∀ w : World, (convert 40 9 (.slice (some ⟨w.heap.size, 0, none⟩) 1 1)).run Tryd.prog (w.alloc (.cells #[.int .u8 x] 5)) = .ok (.string C) (w.alloc (.cells #[.int .u8 x] 5)))
    (kA : ∀ w, Calls Tryd.prog 14 #[.string ((⟨#[120]⟩ : ByteArray) ++ C ++ ⟨#[61, 49, 32, 121]⟩)] w (RdA [.mk 1 [[120, c]] [[litP false [49]]] [[litP false [121]]] [] [] []] 0 w)) (kB : ∀ w, Calls Tryd.prog 14 #[.string ((⟨#[121, 32, 120]⟩ : ByteArray) ++ C ++ ⟨#[61, 49]⟩)] w (RdA [.mk 1 [] [] [[litP false [121]], [litP false [120, c, 61, 49]]] [] [] []] 0 w)) :
    Calls Tryd.prog 8 #[.int .u8 x] w fun e w' => e = .returned (.bool true) ∧ Below w.heap.size w w' := by
  have kS := shownSh_any w
  have hEq : ((⟨#[120]⟩ : ByteArray) ++ C).toList = [120, c] := by rw [eN, toList_data]
  clear eN
  have s1 : (9223372036854775807 < (⟨#[120]⟩ : ByteArray).size + C.size) = False := by simp only [eq_iff_iff, iff_false]; rw [hC]; decide
  have s2 : (9223372036854775807 < ((⟨#[120]⟩ : ByteArray) ++ C).size + (⟨#[61, 49, 32, 121]⟩ : ByteArray).size) = False := by simp only [eq_iff_iff, iff_false]; rw [ByteArray.size_append, hC]; decide
  have s3 : (9223372036854775807 < (⟨#[121, 32, 120]⟩ : ByteArray).size + C.size) = False := by simp only [eq_iff_iff, iff_false]; rw [hC]; decide
  have s4 : (9223372036854775807 < ((⟨#[121, 32, 120]⟩ : ByteArray) ++ C).size + (⟨#[61, 49]⟩ : ByteArray).size) = False := by simp only [eq_iff_iff, iff_false]; rw [ByteArray.size_append, hC]; decide
  rcases hn with h | h | h | h
  all_goals
    first | have t0 : decide ((97 : Int) ≤ x) = true := decide_eq_true (by omega) | have t0 : decide ((97 : Int) ≤ x) = false := decide_eq_false (by omega)
    first | have t1 : decide (x ≤ 122) = true := decide_eq_true (by omega) | have t1 : decide (x ≤ 122) = false := decide_eq_false (by omega)
    first | have t2 : decide ((65 : Int) ≤ x) = true := decide_eq_true (by omega) | have t2 : decide ((65 : Int) ≤ x) = false := decide_eq_false (by omega)
    first | have t3 : decide (x ≤ 90) = true := decide_eq_true (by omega) | have t3 : decide (x ≤ 90) = false := decide_eq_false (by omega)
    first | have t4 : decide ((48 : Int) ≤ x) = true := decide_eq_true (by omega) | have t4 : decide ((48 : Int) ≤ x) = false := decide_eq_false (by omega)
    first | have t5 : decide (x ≤ 57) = true := decide_eq_true (by omega) | have t5 : decide (x ≤ 57) = false := decide_eq_false (by omega)
    first | have t6 : (x == 95) = true := by (rw [beq_iff_eq]; omega) | have t6 : (x == 95) = false := by (rw [beq_eq_false_iff_ne]; omega)
    go_enter Tryd.func8, Tryd.ntmps8
    go_wp2_with (first
      | (go_at_call 13; (with_reducible refine kS.mono ?_); rintro e w1 ⟨rfl, hb⟩; have HB := Lib.hid hb; clear hb)
      | (go_at_call 14; first
        | ((with_reducible refine (kA _).mono ?_); rintro e w2 ⟨ao, cap, rfl, hq, hb⟩; obtain ⟨g1, p1, an, nn, cn, av, nv, cv, aw, nw, cw, aa, na, ca, ab, nb, cb, ac, nc, cc, e1, hp1, hg1, ⟨a0, a1, a2, a3, a4, a5, a6⟩, ⟨z1, y1⟩, -, ⟨z3, y3⟩, -, -, -, q1, -, q3, -, -, -⟩ := cmd_at hq (i := 0) rfl; injection e1 with e1 e1b e1c; subst e1; clear e1b e1c; obtain rfl : nn = 1 := z1; obtain rfl : nw = 1 := z3; obtain ⟨g2, p2, e2, hp2, hg2, b0⟩ := nm_at q1 (i := 0) rfl; injection e2 with e2 e2b e2c; subst e2; clear e2b e2c; have CA := Lib.hid (fun w3 (hb3 : Below w2.heap.size w2 w3) => And.intro (below_cellS hb3 hg1 a1) (And.intro (below_cellS hb3 hg1 a3) (below_cellS hb3 hg2 b0))); clear q1 q3 a0 a1 a2 a3 a4 a5 a6 b0; have HB2 := Lib.hid ((HB.out.alloc HB.out.size _).trans (hb.mono (HB.out.alloc HB.out.size _).size)); clear hb hq)
        | ((with_reducible refine (kB _).mono ?_); rintro e w3 ⟨ao2, cap2, rfl, hq, hb⟩; obtain ⟨f1, f2, f3⟩ := CA.out _ hb; obtain ⟨g3, p3, bn, mn, dn, bv, mv, dv, bw, mw, dw, ba, ma, da, bb, mb, db, bc, mc, dc, e3, hp3, hg3, ⟨d0, d1, d2, d3, d4, d5, d6⟩, ⟨z5, y5⟩, -, ⟨z7, y7⟩, -, -, -, -, -, -, -, -, -⟩ := cmd_at hq (i := 0) rfl; injection e3 with e3 e3b e3c; subst e3; clear e3b e3c; obtain rfl : mn = 0 := z5; obtain rfl : mw = 2 := z7; have HB3 := Lib.hid (HB2.out.trans (hb.mono HB2.out.size)); clear hb hq)))
    exact bodyPost_ret (results_tmp rfl _ _ _) rfl ⟨rfl, HB3.out⟩
/-- The law. -/
theorem shellNames_walk (c : UInt8) (w : World) : Calls Tryd.prog 8 #[.int .u8 (c.toNat : Int)] w fun e w' => e = .returned (.bool true) ∧ Below w.heap.size w w' := by
  have hr := rest_of c
  obtain ⟨C, hC⟩ : ∃ C : ByteArray, C = ⟨#[c]⟩ := ⟨_, rfl⟩
  have hCz : C.size = 1 := by rw [hC]; rfl
  have eA : (⟨#[120]⟩ : ByteArray) ++ C ++ ⟨#[61, 49, 32, 121]⟩ = ⟨([120, c, 61, 49, 32, 121] : List UInt8).toArray⟩ := by rw [hC]; apply ByteArray.ext; simp
  have eB : (⟨#[121, 32, 120]⟩ : ByteArray) ++ C ++ ⟨#[61, 49]⟩ = ⟨([121, 32, 120, c, 61, 49] : List UInt8).toArray⟩ := by rw [hC]; apply ByteArray.ext; simp
  have eN : (⟨#[120]⟩ : ByteArray) ++ C = ⟨([120, c] : List UInt8).toArray⟩ := by rw [hC]; apply ByteArray.ext; simp
  have kc := fun w => conv_new1 (P := Tryd.prog) 40 9 5 Tryd.underlying40 Tryd.underlying5 Tryd.underlying9 w (c.toNat : Int) c rfl
  rw [show (⟨[c].toArray⟩ : ByteArray) = C from hC.symm] at kc
  have h255 := c.toNat_lt
  cases hc : restOk c with
  | false =>
    rw [hc] at hr
    have hr := hr.symm
    simp only [Bool.or_eq_false_iff, Bool.and_eq_false_iff, decide_eq_false_iff_not] at hr
    obtain ⟨A, xa, hA⟩ : ∃ A x, readSh [120, c, 61, 49, 32, 121] = (A, x) := ⟨_, _, rfl⟩
    obtain ⟨B, xb, hB⟩ : ∃ B x, readSh [121, 32, 120, c, 61, 49] = (B, x) := ⟨_, _, rfl⟩
    exact names_not C hCz _ (by omega) (by omega) (by omega) A B xa xb w kc (fun w => by rw [eA]; exact shRead_is _ A xa hA (by simp) w) (fun w => by rw [eB]; exact shRead_is _ B xb hB (by simp) w)
  | true =>
    obtain ⟨hA, hB⟩ := read_name c hc
    rw [hc] at hr
    have hr := hr.symm
    simp only [Bool.or_eq_true, Bool.and_eq_true, decide_eq_true_eq] at hr
    exact names_is C hCz _ (by omega) (by omega) (by omega) c eN w kc (fun w => by rw [eA]; exact shRead_is _ _ 0 hA (by simp) w) (fun w => by rw [eB]; exact shRead_is _ _ 0 hB (by simp) w)
end Go.Proofs.YtabkmimpkoiajaaDoor
