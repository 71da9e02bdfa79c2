/- A class's text in a regular expression, a leaf's, a sign: package regex's told, leaf, sign. No condition. -/
import Derived.Test.YtgokkdalfkinnaaReRight
namespace Go.Proofs.Ytgokkdalfkinnaa
open Go.RowKit Go.Lib

set_option maxHeartbeats 2000000 in
set_option maxRecDepth 20000 in
theorem told_walk (a b c d p q r s cnt : Int) (T R : ByteArray) (x1 x2 x3 : Bool) (w : World) (hz : 2 ≤ T.size) (hz2 : T.size ≤ 140737488355328)
    (h1 : (a == p && (b == q && (c == r && d == s))) = x1) (h2 : (a == 0 && (b == 0 && (c == 0 && d == 0))) = x2) (h3 : (cnt == 1) = x3) (hR : T.extract 1 (T.size - 1) = R)
    (k1 : ∀ w, Calls Try.prog 71 #[.agg #[.int .u64 a, .int .u64 b, .int .u64 c, .int .u64 d]] w fun e w' => e = .returned (.string T) ∧ Below w.heap.size w w')
    (k2 : ∀ w, Calls Try.prog 72 #[] w fun e w' => e = .returned (.agg #[.int .u64 p, .int .u64 q, .int .u64 r, .int .u64 s]) ∧ Below w.heap.size w w')
    (k3 : ∀ w, Calls Try.prog 73 #[.agg #[.int .u64 a, .int .u64 b, .int .u64 c, .int .u64 d]] w fun e w' => e = .returned (.int .i64 cnt) ∧ Below w.heap.size w w') :
    Calls Try.prog 59 #[.agg #[.int .u64 a, .int .u64 b, .int .u64 c, .int .u64 d]] w fun e w' => e = .returned (.string (if x1 = true then ⟨#[46]⟩ else if x2 = true then ⟨#[91, 94, 92, 120, 48, 48, 45, 92, 120, 102, 102, 93]⟩ else if x3 = true then R else T)) ∧ Below w.heap.size w w' := by
  have e1 := run_eql_cls a b c d p q r s
  have e2 := run_eql_cls a b c d 0 0 0 0
  rw [h1] at e1
  rw [h2] at e2
  clear h1 h2
  obtain ⟨X, hX⟩ : ∃ X : ByteArray, X = (if x1 = true then ⟨#[46]⟩ else if x2 = true then ⟨#[91, 94, 92, 120, 48, 48, 45, 92, 120, 102, 102, 93]⟩ else if x3 = true then R else T) := ⟨_, rfl⟩
  rw [← hX]
  have HX := Lib.hid hX
  clear hX
  have hI : IntKind.i64.wrap ((T.size : Int) - 1) = ((T.size - 1 : Nat) : Int) := by rw [IntWalk.i64_in _ (by omega)]; omega
  obtain ⟨u, hu⟩ : ∃ u, u = T.size - 1 := ⟨_, rfl⟩
  have hu1 : 1 ≤ u := by omega
  have hu2 : u ≤ T.size := by omega
  rw [← hu] at hI hR
  clear hu
  cases x1 <;> cases x2 <;> cases x3
  all_goals
    go_enter Try.func59, Try.ntmps59
    go_wp2_with (first
      | (go_at_call 71; refine (k1 _).mono ?_; rintro en w1 ⟨rfl, hb1⟩; clear k1
         have hg := four_stays rfl hb1
         have HB1 := Lib.hid (((Below.refl _ w).alloc (Nat.le_refl _) (.cells #[.int .u64 a, .int .u64 b, .int .u64 c, .int .u64 d] 43)).trans (hb1.mono (by simp)))
         have HG := Lib.hid hg
         have hgw := block_lt hg
         clear hg hb1)
      | (go_at_call 73; refine (k3 _).mono ?_; rintro en w3 ⟨rfl, hb3⟩; clear k3; have HB3 := Lib.hid hb3; clear hb3)
      | fail)
    have SB : ∀ W', Below w1.heap.size w1 W' → (W'.cell? ⟨w.heap.size, 0, none⟩ = some (.int .u64 a) ∧ W'.cell? ⟨w.heap.size, 1, none⟩ = some (.int .u64 b) ∧ W'.cell? ⟨w.heap.size, 2, none⟩ = some (.int .u64 c) ∧ W'.cell? ⟨w.heap.size, 3, none⟩ = some (.int .u64 d)) := fun W' hb => (res_four ((hb.block _ hgw).trans HG.out)).1
    have SBH := Lib.hid SB
    clear SB
    go_region_held3 (fun W' => (W'.cell? ⟨w.heap.size, 0, none⟩ = some (.int .u64 a) ∧ W'.cell? ⟨w.heap.size, 1, none⟩ = some (.int .u64 b) ∧ W'.cell? ⟨w.heap.size, 2, none⟩ = some (.int .u64 c) ∧ W'.cell? ⟨w.heap.size, 3, none⟩ = some (.int .u64 d)))
      (first
        | with_reducible exact SBH.out _ (Below.refl _ w1).drew
        | with_reducible exact SBH.out _ hd2
        | (trace_state; fail))
      (first
        | (go_at_call 72; refine (k2 _).mono ?_; rintro en w2 ⟨rfl, hb2⟩; have hd2 : Below w1.heap.size w1 w2 := ((Below.refl _ w1).drew).trans hb2))
    all_goals
      obtain ⟨y0, y1, y2, y3⟩ := SBH.out _ hd2
      have HB2 := Lib.hid (HB1.out.trans (hd2.mono HB1.out.size))
      go_wp2_with (first
        | (go_at_call 73; refine (k3 _).mono ?_; rintro en w3 ⟨rfl, hb3⟩; clear k3; have HB3 := Lib.hid hb3; clear hb3)
        | fail)
      first
        | exact bodyPost_ret (results_tmp rfl _ _ _) rfl ⟨by rw [HX.out]; rfl, HB2.out⟩
        | exact bodyPost_ret (results_tmp rfl _ _ _) rfl ⟨by rw [HX.out]; rfl, HB2.out.trans (HB3.out.mono HB2.out.size)⟩

theorem nat_beq (x y : BitVec 64) : ((x.toNat : Int) == (y.toNat : Int)) = decide (x = y) := by
  rw [Bool.eq_iff_iff, beq_iff_eq, decide_eq_true_eq]
  constructor
  · intro h; apply BitVec.eq_of_toNat_eq; omega
  · intro h; rw [h]
theorem k4_beq (k l : K4) : ((k.a.toNat : Int) == (l.a.toNat : Int) && ((k.b.toNat : Int) == (l.b.toNat : Int) && ((k.c.toNat : Int) == (l.c.toNat : Int) && (k.d.toNat : Int) == (l.d.toNat : Int)))) = decide (k = l) := by
  rw [nat_beq, nat_beq, nat_beq, nat_beq, Bool.eq_iff_iff]
  obtain ⟨a, b, c, d⟩ := k
  obtain ⟨p, q, r, s⟩ := l
  simp
theorem text_len (k : Cl) : 2 ≤ (textL k).length ∧ (textL k).length ≤ 2306 := by
  have h1 := flat_le (runsL k)
  have h2 := runs_length k (uptoL k 256)
  have h3 := upto_length k 256
  have h4 : (runsL k).length = (runsP k (uptoL k 256)).2.length := rfl
  have h5 : (textL k).length = ((runsL k).flatMap runT).length + 2 := by unfold textL; rw [List.length_cons, List.length_append]; rfl
  omega
theorem text_mid (l : List UInt8) (h : 2 ≤ l.length) : (⟨l.toArray⟩ : ByteArray).extract 1 ((⟨l.toArray⟩ : ByteArray).size - 1) = ⟨((l.drop 1).dropLast).toArray⟩ := by
  have hz : (⟨l.toArray⟩ : ByteArray).size = l.length := by simp [ByteArray.size]
  rw [hz]
  apply ByteArray.ext
  rw [ByteArray.data_extract]
  apply Array.ext'
  simp only [List.extract_toArray, List.extract_eq_drop_take', List.toList_toArray]
  rw [List.dropLast_eq_take, List.length_drop, List.drop_take]
theorem toldRe_any (k : K4) (w : World) : Calls Try.prog 59 #[.agg #[wd k.a, wd k.b, wd k.c, wd k.d]] w fun e w' => e = .returned (.string ⟨(toldK k).toArray⟩) ∧ Below w.heap.size w w' := by
  have hz : (⟨(textL k.cl).toArray⟩ : ByteArray).size = (textL k.cl).length := by simp [ByteArray.size]
  have hl := text_len k.cl
  refine (told_walk (k.a.toNat : Int) (k.b.toNat : Int) (k.c.toNat : Int) (k.d.toNat : Int) (kPoint.a.toNat : Int) (kPoint.b.toNat : Int) (kPoint.c.toNat : Int) (kPoint.d.toNat : Int) (cntK k.cl : Int) ⟨(textL k.cl).toArray⟩ ⟨(((textL k.cl).drop 1).dropLast).toArray⟩ (decide (k = kPoint)) (decide (k = k0)) (decide (cntK k.cl = 1)) w (by omega) (by omega) (k4_beq k kPoint) (k4_beq k k0) ?_ (text_mid _ hl.1) (fun w => text_any k.cl w) (fun w => point_any w) (fun w => count_any k.cl w)).mono fun e w' h => ⟨h.1.trans ?_, h.2⟩
  · rw [Bool.eq_iff_iff, beq_iff_eq, decide_eq_true_eq]; omega
  · congr 2
    unfold toldK
    by_cases h1 : k = kPoint
    · rw [if_pos (by simpa using h1), if_pos h1]
    · rw [if_neg (by simpa using h1), if_neg h1]
      by_cases h2 : k = k0
      · rw [if_pos (by simpa using h2), if_pos h2]
      · rw [if_neg (by simpa using h2), if_neg h2]
        by_cases h3 : cntK k.cl = 1
        · rw [if_pos (by simpa using h3), if_pos h3]
        · rw [if_neg (by simpa using h3), if_neg h3]
theorem told_len (k : K4) : (toldK k).length ≤ 2306 := by
  have hl := text_len k.cl
  unfold toldK
  split
  · simp
  · split
    · simp
    · split
      · rw [List.length_dropLast, List.length_drop]
        omega
      · omega

def leafT (n : Nd) : List UInt8 := if n.k = 7 then [94] else if n.k = 8 then [36] else if n.k = 1 then toldK n.s else [40, 41]
set_option maxHeartbeats 1000000 in
set_option maxRecDepth 20000 in
theorem leaf_text (n : Nd) (w : World) : Calls Try.prog 44 #[n.val] w fun e w' => e = .returned (.string ⟨(leafT n).toArray⟩) ∧ Below w.heap.size w w' := by
  have kt := fun w => toldRe_any n.s w
  obtain ⟨k, s, x, y⟩ := n
  obtain ⟨X, hX⟩ : ∃ X : ByteArray, X = ⟨(leafT ⟨k, s, x, y⟩).toArray⟩ := ⟨_, rfl⟩
  rw [← hX]
  have HX := Lib.hid hX
  clear hX
  obtain ⟨T, hT⟩ : ∃ T : ByteArray, T = ⟨(toldK s).toArray⟩ := ⟨_, rfl⟩
  rw [← hT] at kt
  have HT := Lib.hid hT
  clear hT
  unfold Nd.val wd
  unfold wd at kt
  rcases kinds_cases k with rfl | rfl | rfl | rfl | rfl | rfl | rfl | rfl | rfl | ⟨h0, h1, h2, h3, h4, h5, h6, h7, h8, hk⟩
  all_goals
    go_enter Try.func44, Try.ntmps44
    go_wp2_with (first | (go_at_call 59; refine (kt _).mono ?_; rintro e w1 ⟨rfl, hb1⟩) | fail)
    first
      | exact bodyPost_ret (results_tmp rfl _ _ _) rfl ⟨by rw [HX.out]; rfl, (Below.refl _ w).alloc (Nat.le_refl _) _⟩
      | exact bodyPost_ret (results_tmp rfl _ _ _) rfl ⟨by rw [HX.out, HT.out]; rfl, ((Below.refl _ w).alloc (Nat.le_refl _) _).trans (hb1.mono (by simp))⟩
      | exact bodyPost_ret (results_tmp rfl _ _ _) rfl ⟨by rw [HX.out]; unfold leafT; dsimp only; rw [if_neg (beq_eq_false_iff_ne.1 h7), if_neg (beq_eq_false_iff_ne.1 h8), if_neg (beq_eq_false_iff_ne.1 h1)]; rfl, (Below.refl _ w).alloc (Nat.le_refl _) _⟩
theorem sign_text (j : Nat) (hj : j = 4 ∨ j = 5 ∨ j = 6) (w : World) : Calls Try.prog 43 #[.int .i64 (j : Int)] w fun e w' => e = .returned (.string ⟨#[signL j]⟩) ∧ w' = w := by
  rcases hj with rfl | rfl | rfl
  all_goals
    go_enter Try.func43, Try.ntmps43
    go_wp2
    exact bodyPost_ret (results_tmp rfl _ _ _) rfl ⟨rfl, rfl⟩
end Go.Proofs.Ytgokkdalfkinnaa
