/- Packed texts: ShellSameWalk. What each of them proves stands above its theorems; the conditions stand in these. -/
import Derived.Test.YtelfgobjnibooaaGreatDoorA2
import Derived.Test.YtelfgobjnibooaaGreatDoorA19
import Derived.Test.YtelfgobjnibooaaGreatDoorA21
import Derived.Test.YtelfgobjnibooaaGreatDoorA22
import Derived.Test.YtelfgobjnibooaaGreatDoorA37
namespace Go.Proofs.YtelfgobjnibooaaGreatDoor
open Go.RowKit Go.Lib
theorem rdF_n {S : ByteArray} {A : List Co} {xa : Int} {nA : Nat} (h : readSh S.data.toList = (A, xa)) (hn : nA = A.length) (w : World) : Calls Tryz.prog 6 #[.string S] w (RdN A nA xa w) := by
 refine (refRead11_any S w).mono fun e w' hk => ?_
 unfold RdF at hk
 rw [h] at hk
 obtain ⟨al, cl, h1, h2, h3⟩ := hk
 exact ⟨al, cl, by rw [hn]; exact h1, by rw [hn]; exact h2, h3⟩
set_option maxHeartbeats 4000000 in
set_option maxRecDepth 20000 in
theorem same_big (S T : ByteArray) (hs : S.size ≤ 140737488351232) (ht : T.size ≤ 140737488351232) (h : 2000 < S.size + T.size) (w : World) : Calls Tryz.prog 3 #[.string S, .string T] w fun e w' => e = .returned (.bool true) ∧ Below w.heap.size w w' := by
 have kS := shownSh_any w
 have hI : IntKind.i64.wrap ((S.size : Int) + (T.size : Int)) = (S.size : Int) + (T.size : Int) := IntWalk.i64_in _ (by omega)
 have hd : decide ((2000 : Int) < (S.size : Int) + (T.size : Int)) = true := decide_eq_true (by omega)
 go_enter Tryz.func3, Tryz.ntmps3
 go_wp2_with (go_at_call 5; (with_reducible refine kS.mono ?_); rintro e w1 ⟨rfl, hb⟩; have HB := Lib.hid hb; clear hb)
 exact bodyPost_ret (results_tmp rfl _ _ _) rfl ⟨rfl, HB.out⟩
set_option maxHeartbeats 4000000 in
set_option maxRecDepth 20000 in
theorem same_bad (S T : ByteArray) (hs : S.size + T.size ≤ 2000) (A B : List Co) (nA nB : Nat) (xa xb : Int) (hx : xa ≠ 0 ∨ xa = 0 ∧ xb ≠ 0) (kA : ∀ w, Calls Tryz.prog 6 #[.string S] w (RdN A nA xa w)) (kB : ∀ w, Calls Tryz.prog 6 #[.string T] w (RdN B nB xb w)) (w : World) :
  Calls Tryz.prog 3 #[.string S, .string T] w fun e w' => e = .returned (.bool true) ∧ Below w.heap.size w w' := by
 have kS := shownSh_any w
 have hI : IntKind.i64.wrap ((S.size : Int) + (T.size : Int)) = (S.size : Int) + (T.size : Int) := IntWalk.i64_in _ (by omega)
 have hd : decide ((2000 : Int) < (S.size : Int) + (T.size : Int)) = false := decide_eq_false (by omega)
 rcases hx with hx | ⟨rfl, hx⟩
 ·have hx1 : (xa != 0) = true := by simp [hx]
  clear hs hx
  go_enter Tryz.func3, Tryz.ntmps3
  go_wp2_with (first
   | (go_at_call 5; (with_reducible refine kS.mono ?_); rintro e w1 ⟨rfl, hb⟩; have HB := Lib.hid hb; clear hb kS)
   | (go_at_call 6; first
    | ((with_reducible refine (kA _).mono ?_); rintro e w2 ⟨ao, ca, rfl, hq, hb⟩; have HB2 := Lib.hid (HB.out.trans (hb.mono HB.out.size)); clear hb hq kA)
    | ((with_reducible refine (kB _).mono ?_); rintro e w3 ⟨bo, cb, rfl, hq, hb⟩; have HB3 := Lib.hid (HB2.out.trans (hb.mono HB2.out.size)); clear hb hq kB)))
  exact bodyPost_ret (results_tmp rfl _ _ _) rfl ⟨rfl, HB3.out⟩
 ·have hx1 : (xb != 0) = true := by simp [hx]
  clear hs hx
  go_enter Tryz.func3, Tryz.ntmps3
  go_wp2_with (first
   | (go_at_call 5; (with_reducible refine kS.mono ?_); rintro e w1 ⟨rfl, hb⟩; have HB := Lib.hid hb; clear hb kS)
   | (go_at_call 6; first
    | ((with_reducible refine (kA _).mono ?_); rintro e w2 ⟨ao, ca, rfl, hq, hb⟩; have HB2 := Lib.hid (HB.out.trans (hb.mono HB.out.size)); clear hb hq kA)
    | ((with_reducible refine (kB _).mono ?_); rintro e w3 ⟨bo, cb, rfl, hq, hb⟩; have HB3 := Lib.hid (HB2.out.trans (hb.mono HB2.out.size)); clear hb hq kB)))
  exact bodyPost_ret (results_tmp rfl _ _ _) rfl ⟨rfl, HB3.out⟩
set_option maxHeartbeats 8000000 in
set_option maxRecDepth 20000 in
theorem same_good (S T : ByteArray) (hs : S.size + T.size ≤ 2000) (A B : List Co) (nA nB c : Nat) (p : Bool) (hp : p = eqB A B) (hc : c = cntCs A) (hcm : c ≤ 1099511627776) (kA : ∀ w, Calls Tryz.prog 6 #[.string S] w (RdN A nA 0 w)) (kB : ∀ w, Calls Tryz.prog 6 #[.string T] w (RdN B nB 0 w)) (w : World) :
  Calls Tryz.prog 3 #[.string S, .string T] w fun e w' => e = .returned (.bool true) ∧ Below w.heap.size w w' := by
 have kS := shownSh_any w
 have hI : IntKind.i64.wrap ((S.size : Int) + (T.size : Int)) = (S.size : Int) + (T.size : Int) := IntWalk.i64_in _ (by omega)
 have hd : decide ((2000 : Int) < (S.size : Int) + (T.size : Int)) = false := decide_eq_false (by omega)
 have hpp : (p == p) = true := by simp
 have hcc : ((c : Int) == (c : Int)) = true := by simp
 have KS := Lib.hid (fun (u v : Value) (F G : Nat → Prop) (z z' : World) (h1 : (cosV 93).q F z u A) (h2 : (cosV 93).q G z v B) (hF : ∀ g, F g → g < z.heap.size) (hG : ∀ g, G g → g < z.heap.size) (hb : Below z.heap.size z z') => (show Calls Tryz.prog 7 #[u, v] z' fun e w' => e = .returned (.bool p) ∧ Below z'.heap.size z' w' from by rw [hp]; exact samF_any 93 u v A B F G z' (val_below h1 hF hb) (val_below h2 hG hb) (fun g hg => Nat.lt_of_lt_of_le (hF g hg) hb.size) (fun g hg => Nat.lt_of_lt_of_le (hG g hg) hb.size)))
 have KR := Lib.hid (fun (u v : Value) (F G : Nat → Prop) (z z' : World) (h1 : (cosV 93).q F z u A) (h2 : (cosV 93).q G z v B) (hF : ∀ g, F g → g < z.heap.size) (hG : ∀ g, G g → g < z.heap.size) (hb : Below z.heap.size z z') => (show Calls Tryz.prog 8 #[u, v] z' fun e w' => e = .returned (.bool p) ∧ Below z'.heap.size z' w' from by rw [hp]; exact same_all 93 u v A B F G z' (val_below h1 hF hb) (val_below h2 hG hb) (fun g hg => Nat.lt_of_lt_of_le (hF g hg) hb.size) (fun g hg => Nat.lt_of_lt_of_le (hG g hg) hb.size)))
 have KT := Lib.hid (fun (u : Value) (F : Nat → Prop) (z z' : World) (h1 : (cosV 93).q F z u A) (hF : ∀ g, F g → g < z.heap.size) (hb : Below z.heap.size z z') => (show Calls Tryz.prog 7 #[u, u] z' fun e w' => e = .returned (.bool true) ∧ Below z'.heap.size z' w' from by
  have := samF_any 93 u u A A F F z' (val_below h1 hF hb) (val_below h1 hF hb) (fun g hg => Nat.lt_of_lt_of_le (hF g hg) hb.size) (fun g hg => Nat.lt_of_lt_of_le (hF g hg) hb.size)
  rw [eqB_self] at this
  exact this))
 have KN := Lib.hid (fun (u : Value) (F : Nat → Prop) (z z' : World) (h1 : (cosV 93).q F z u A) (hF : ∀ g, F g → g < z.heap.size) (hb : Below z.heap.size z z') => (show Calls Tryz.prog 9 #[u] z' fun e w' => e = .returned (.int .i64 (c : Nat)) ∧ Below z'.heap.size z' w' from by rw [hc]; exact count_any 93 u A F z' (val_below h1 hF hb) (fun g hg => Nat.lt_of_lt_of_le (hF g hg) hb.size) (by omega)))
 have KM := Lib.hid (fun (u : Value) (F : Nat → Prop) (z z' : World) (h1 : (cosV 93).q F z u A) (hF : ∀ g, F g → g < z.heap.size) (hb : Below z.heap.size z z') => (show Calls Tryz.prog 10 #[u] z' fun e w' => e = .returned (.int .i64 (c : Nat)) ∧ Below z'.heap.size z' w' from by rw [hc]; exact countR_any 93 u A F z' (val_below h1 hF hb) (fun g hg => Nat.lt_of_lt_of_le (hF g hg) hb.size) (by omega)))
 clear hs hp hc hcm
 go_enter Tryz.func3, Tryz.ntmps3
 go_wp2_with (first
  | (go_at_call 5; (with_reducible refine kS.mono ?_); rintro e w1 ⟨rfl, hb⟩; have HB := Lib.hid hb; clear hb kS)
  | (go_at_call 6; first
   | ((with_reducible refine (kA _).mono ?_); rintro e w2 ⟨ao, ca, rfl, hq, hb⟩; have HB2 := Lib.hid (HB.out.trans (hb.mono HB.out.size)); have Q2 := Lib.hid hq; clear hb hq kA)
   | ((with_reducible refine (kB _).mono ?_); rintro e w3 ⟨bo, cb, rfl, hq, hb⟩; have HB3 := Lib.hid (HB2.out.trans (hb.mono HB2.out.size)); have QA := Lib.hid (And.intro (val_below Q2.out (fun g hg => hg.2) hb) (fun g (hg : NewF w1.heap.size w2.heap.size g) => Nat.lt_of_lt_of_le hg.2 hb.size)); have QB := Lib.hid (And.intro hq (fun g (hg : NewF w2.heap.size w3.heap.size g) => hg.2)); have k4 := KS.out _ _ _ _ w3 w3 QA.out.1 QB.out.1 QA.out.2 QB.out.2 (Below.refl _ _); clear hb hq kB))
  | (go_at_call 7; first
   | ((with_reducible refine k4.mono ?_); rintro e w4 ⟨rfl, hb⟩; have H4 := Lib.hid hb; have k5 := KR.out _ _ _ _ w3 w4 QA.out.1 QB.out.1 QA.out.2 QB.out.2 hb; clear hb k4)
   | ((with_reducible refine k6.mono ?_); rintro e w6 ⟨rfl, hb⟩; have H6 := Lib.hid (H5.out.trans (hb.mono H5.out.size)); have k7 := KN.out _ _ w3 w6 QA.out.1 QA.out.2 H6.out; clear hb k6))
  | (go_at_call 8; (with_reducible refine k5.mono ?_); rintro e w5 ⟨rfl, hb⟩; have H5 := Lib.hid (H4.out.trans (hb.mono H4.out.size)); have k6 := KT.out _ _ w3 w5 QA.out.1 QA.out.2 H5.out; clear hb k5)
  | (go_at_call 9; (with_reducible refine k7.mono ?_); rintro e w7 ⟨rfl, hb⟩; have H7 := Lib.hid (H6.out.trans (hb.mono H6.out.size)); have k8 := KM.out _ _ w3 w7 QA.out.1 QA.out.2 H7.out; clear hb k7)
  | (go_at_call 10; (with_reducible refine k8.mono ?_); rintro e w8 ⟨rfl, hb⟩; have H8 := Lib.hid (H7.out.trans (hb.mono H7.out.size)); clear hb k8))
 exact bodyPost_ret (results_tmp rfl _ _ _) rfl ⟨rfl, HB3.out.trans (H8.out.mono HB3.out.size)⟩
theorem shellSame_walk (S : ByteArray) (hs : S.size ≤ 140737488351232) (T : ByteArray) (ht : T.size ≤ 140737488351232) (w : World) : Calls Tryz.prog 3 #[.string S, .string T] w fun e w' => e = .returned (.bool true) ∧ Below w.heap.size w w' := by
 by_cases hbig : 2000 < S.size + T.size
 ·exact same_big S T hs ht hbig w
 ·obtain ⟨A, xa, hA⟩ : ∃ A x, readSh S.data.toList = (A, x) := ⟨_, _, rfl⟩
  obtain ⟨B, xb, hB⟩ : ∃ B x, readSh T.data.toList = (B, x) := ⟨_, _, rfl⟩
  have kA := rdF_n hA rfl
  have kB := rdF_n hB rfl
  by_cases hx : xa = 0
  ·subst hx
   by_cases hy : xb = 0
   ·subst hy
    have hw := (read_wt hA).2
    have hl : S.data.toList.length = S.size := by rw [Array.length_toList]; rfl
    exact same_good S T (by omega) A B _ _ _ _ rfl rfl (by omega) kA kB w
   ·exact same_bad S T (by omega) A B _ _ 0 xb (.inr ⟨rfl, hy⟩) kA kB w
  ·exact same_bad S T (by omega) A B _ _ xa xb (.inl hx) kA kB w
end Go.Proofs.YtelfgobjnibooaaGreatDoor
