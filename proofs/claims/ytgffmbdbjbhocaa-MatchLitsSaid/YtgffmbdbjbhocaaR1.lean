/- Packed texts: ReRefJoinC, ReLit, ClsRefHas, ClsRefWith, ReRefOne, SuMem, SuPut, SuLit, MaMath. What each of them proves stands above its theorems; the conditions stand in these. -/
import Derived.BigQuiet
import Derived.Lib.Hide
import Derived.StillTailTactics
import Derived.Test.YtgffmbdbjbhocaaShelf
import Derived.Test.YtgffmbdbjbhocaaR0
namespace Go.Proofs.Ytgffmbdbjbhocaa
open Go.RowKit Go.Lib

set_option maxHeartbeats 2000000 in
set_option maxRecDepth 20000 in
theorem joinC_walk (N M cap cap2 b o b2 o2 : Nat) (xs ys : List Nd) (w : World) (hN : N = xs.length) (hM : M = ys.length) (h : N + M < 2000)
    (hL : Lies (.slice (some ⟨b, o, none⟩) N cap) xs w) (hL2 : Lies (.slice (some ⟨b2, o2, none⟩) M cap2) ys w) (hs : Small ys) :
    Calls Try.prog 23 #[.slice (some ⟨b, o, none⟩) N cap, .slice (some ⟨b2, o2, none⟩) M cap2, .int .i64 2] w fun e w' =>
      (∃ v, e = .returned (.tuple #[v, .int .i64 0]) ∧ IsRow w.heap.size ((xs ++ ys.map (movedN N)) ++ [⟨2, k0, (N : Int) - 1, (N : Int) + M - 1⟩]) v w') ∧ Below w.heap.size w w' := by
  have hI : IntKind.i64.wrap ((N : Int) + (M : Int)) = (N : Int) + M := IntWalk.i64_in _ (by omega)
  have hI1 : IntKind.i64.wrap ((N : Int) - 1) = (N : Int) - 1 := IntWalk.i64_in _ (by omega)
  have hI2 : IntKind.i64.wrap ((N : Int) + (M : Int) - 1) = (N : Int) + M - 1 := IntWalk.i64_in _ (by omega)
  have h1 : decide ((2000 : Int) ≤ (N : Int) + (M : Int)) = false := by simp; omega
  obtain ⟨i0, hi, hz0, hz1, hz2⟩ := info_parts Try.infoRe
  obtain ⟨cs, hcs⟩ : ∃ cs, cs = ndC xs := ⟨_, rfl⟩
  have hcl : cs.length = N * 7 := by rw [hcs, ndC_length]; omega
  have HC := Lib.hid (show ∀ j u, cs[j]? = some u → w.cell? ((⟨b, o, none⟩ : Addr).add j) = some u by rw [hcs]; exact lies_cells hL)
  have HC1 := Lib.hid (show ∀ u ∈ cs, u.oneCell' = true by rw [hcs]; exact ndC_one xs)
  have HL2 := Lib.hid hL2
  have HN := Lib.hid (And.intro hN (And.intro hM hcs))
  have HS := Lib.hid hs
  clear hL hL2 hN hM hcs hs
  go_enter Try.func23, Try.ntmps23
  go_wp2_with (first
    | (at_builtin; refine wpList_append_own _ rfl (.tmp 26) (.tmp 27) 22 rfl w.heap.size 56 i0 _ 7 56 Try.underlying22 hi hz0 hz1 hz2 rfl (by decide) _ 0 [] rfl (owns_empty w _ (Nat.le_refl _)) ⟨b, o, none⟩ N cap cs rfl hcl (fun j u hj => World.cell?_alloc_some w _ _ (by rw [HC.out j u hj]; rfl) |>.trans (HC.out j u hj)) HC1.out (by unfold maxLen; omega) (by omega) (by simp) ?_; intro v1 w1 hown1 hgrow1 _)
    | fail)
  have hb1 : Below w.heap.size w w1 := ((Below.refl _ w).alloc (Nat.le_refl _) _).grown hgrow1 (by simp) (fun q hq => own_base (owns_empty w _ (Nat.le_refl _)) hq)
  rw [Nat.zero_add, List.nil_append] at hown1
  have H1 := Lib.hid (And.intro hown1 hb1)
  clear hown1 hb1 hgrow1
  obtain ⟨kf, hkf⟩ : ∃ f : Int → Int, f = kidsN := ⟨_, rfl⟩
  have kk := fun k w => many_any k w
  rw [← hkf] at kk
  have HF := Lib.hid hkf
  clear hkf
  go_loopg [9, 10] (M + 1) (fun k out i wr => ∃ (j : Nat) (zs : List Nd), i = .int .i64 j ∧ j ≤ M ∧ Hid (k = M + 1 - j) ∧ Hid (wr.ownsRow w.heap.size 56 7 out (N + j) (ndC zs)) ∧ Hid (zs = xs ++ (ys.take j).map (movedN N)) ∧ Hid (Below w.heap.size w wr))
  case atStart => exact ⟨0, xs, rfl, Nat.zero_le _, rfl, by show World.ownsRow _ _ _ _ _ _ _; rw [← HN.out.2.2]; exact H1.out.1, by simp [Hid], H1.out.2⟩
  case round =>
    obtain ⟨j, zs, rfl, hj, HK, HZ, HE, HB⟩ := hrel
    by_cases hlt : j < M
    · obtain ⟨n, hn⟩ : ∃ n, ys[j]? = some n := ⟨ys[j]'(by have := HN.out.2.1; omega), List.getElem?_eq_getElem _⟩
      obtain ⟨b', o', e', hb, ha⟩ := HL2.out.at hn
      cases e'
      obtain ⟨a0, a1, a2, a3, a4, a5, a6⟩ := ha.below HB.out hb
      obtain ⟨q0, q1, q2, q3⟩ := HS.out n (List.mem_of_getElem? hn)
      have hI : IntKind.i64.wrap ((j : Int) + 1) = ((j + 1 : Nat) : Int) := by rw [IntWalk.i64_in _ (by omega)]; omega
      have hx : IntKind.i64.wrap (n.x + (N : Int)) = n.x + N := IntWalk.i64_in _ (by omega)
      have hy : IntKind.i64.wrap (n.y + (N : Int)) = n.y + N := IntWalk.i64_in _ (by omega)
      have HM := Lib.hid (And.intro hn (show movedN N n = ⟨n.k, n.s, if 0 < kf n.k then n.x + N else n.x, if 1 < kf n.k then n.y + N else n.y⟩ by rw [HF.out]; rfl))
      clear hn ha hb q0 q1 q2 q3
      obtain ⟨k, ⟨p, q, r, s⟩, x, y⟩ := n
      unfold wd at a1 a2 a3 a4
      dsimp only at a0 a1 a2 a3 a4 a5 a6 hx hy HM
      have kk := fun w => kk k w
      obtain ⟨m, hm⟩ : ∃ m, m = kf k := ⟨_, rfl⟩
      rw [← hm] at kk HM
      clear hm
      have h63 : N + j + 1 ≤ 2000 := by omega
      by_cases m0 : 0 < m
      · have c0 : decide (0 < m) = true := decide_eq_true m0
        have m0 : m > 0 := m0
        by_cases m1 : 1 < m
        · have c1 : decide (1 < m) = true := decide_eq_true m1
          go_wp2_with (first
        | (go_at_call 63; refine (kk _).mono ?_; rintro e w2 ⟨rfl, rfl⟩)
            | (at_builtin; refine wpList_append_own _ rfl (.tmp 60) (.tmp 62) 22 rfl w.heap.size 56 i0 _ 7 56 Try.underlying22 hi hz0 hz1 hz2 rfl (by decide) _ (N + j) (ndC zs) rfl (owns_below HZ.out (((Below.refl _ wr).alloc (Nat.le_refl _) _).alloc (by simp) _)) ⟨wr.heap.size + 1, 0, none⟩ 1 1 [.int .i64 k, .int .u64 (p.toNat : Int), .int .u64 (q.toNat : Int), .int .u64 (r.toNat : Int), .int .u64 (s.toNat : Int), .int .i64 (x + N), .int .i64 (y + N)] rfl rfl (cells_seven_at _ _ (by simp) _ _ _ _ _ _ _ _) (by simp [Value.oneCell']) (by unfold maxLen; omega) (by omega) (by have := HB.out.size; simp; omega) ?_; intro v5 w5 hown5 hgrow5 _
               have hb5 : Below w.heap.size w w5 := below_put HB.out HZ.out HB.out.size (((Below.refl _ wr).alloc (Nat.le_refl _) _).alloc (by simp) _) hgrow5
               have H5 := Lib.hid (And.intro hown5 hb5)
               clear hown5 hgrow5 hb5)
            | fail)
          go_roundg (M - j)
          case rel => exact ⟨j + 1, zs ++ [movedN N ⟨k, ⟨p, q, r, s⟩, x, y⟩], by go_num, by omega, by show _ = _; omega, (by
              show World.ownsRow _ _ _ _ _ _ _
              have h := H5.out.1
              rw [HM.out.2, if_pos (show 0 < m by omega), if_pos (show 1 < m by omega), ndC_append]
              exact h), (by show _ = _; rw [HE.out, List.append_assoc, ← take_map_snoc _ _ _ _ HM.out.1]), H5.out.2⟩
          case measure => have := HK.out; omega
        · have c1 : decide (1 < m) = false := decide_eq_false m1
          go_wp2_with (first
        | (go_at_call 63; refine (kk _).mono ?_; rintro e w2 ⟨rfl, rfl⟩)
            | (at_builtin; refine wpList_append_own _ rfl (.tmp 60) (.tmp 62) 22 rfl w.heap.size 56 i0 _ 7 56 Try.underlying22 hi hz0 hz1 hz2 rfl (by decide) _ (N + j) (ndC zs) rfl (owns_below HZ.out (((Below.refl _ wr).alloc (Nat.le_refl _) _).alloc (by simp) _)) ⟨wr.heap.size + 1, 0, none⟩ 1 1 [.int .i64 k, .int .u64 (p.toNat : Int), .int .u64 (q.toNat : Int), .int .u64 (r.toNat : Int), .int .u64 (s.toNat : Int), .int .i64 (x + N), .int .i64 y] rfl rfl (cells_seven_at _ _ (by simp) _ _ _ _ _ _ _ _) (by simp [Value.oneCell']) (by unfold maxLen; omega) (by omega) (by have := HB.out.size; simp; omega) ?_; intro v5 w5 hown5 hgrow5 _
               have hb5 : Below w.heap.size w w5 := below_put HB.out HZ.out HB.out.size (((Below.refl _ wr).alloc (Nat.le_refl _) _).alloc (by simp) _) hgrow5
               have H5 := Lib.hid (And.intro hown5 hb5)
               clear hown5 hgrow5 hb5)
            | fail)
          go_roundg (M - j)
          case rel => exact ⟨j + 1, zs ++ [movedN N ⟨k, ⟨p, q, r, s⟩, x, y⟩], by go_num, by omega, by show _ = _; omega, (by
              show World.ownsRow _ _ _ _ _ _ _
              have h := H5.out.1
              rw [HM.out.2, if_pos (show 0 < m by omega), if_neg (show ¬ 1 < m by omega), ndC_append]
              exact h), (by show _ = _; rw [HE.out, List.append_assoc, ← take_map_snoc _ _ _ _ HM.out.1]), H5.out.2⟩
          case measure => have := HK.out; omega
      · have m1 : ¬ 1 < m := by omega
        have c0 : decide (0 < m) = false := decide_eq_false m0
        have c1 : decide (1 < m) = false := decide_eq_false m1
        go_wp2_with (first
          | (go_at_call 63; refine (kk _).mono ?_; rintro e w2 ⟨rfl, rfl⟩)
          | (at_builtin; refine wpList_append_own _ rfl (.tmp 60) (.tmp 62) 22 rfl w.heap.size 56 i0 _ 7 56 Try.underlying22 hi hz0 hz1 hz2 rfl (by decide) _ (N + j) (ndC zs) rfl (owns_below HZ.out (((Below.refl _ wr).alloc (Nat.le_refl _) _).alloc (by simp) _)) ⟨wr.heap.size + 1, 0, none⟩ 1 1 [.int .i64 k, .int .u64 (p.toNat : Int), .int .u64 (q.toNat : Int), .int .u64 (r.toNat : Int), .int .u64 (s.toNat : Int), .int .i64 x, .int .i64 y] rfl rfl (cells_seven_at _ _ (by simp) _ _ _ _ _ _ _ _) (by simp [Value.oneCell']) (by unfold maxLen; omega) (by omega) (by have := HB.out.size; simp; omega) ?_; intro v5 w5 hown5 hgrow5 _
             have hb5 : Below w.heap.size w w5 := below_put HB.out HZ.out HB.out.size (((Below.refl _ wr).alloc (Nat.le_refl _) _).alloc (by simp) _) hgrow5
             have H5 := Lib.hid (And.intro hown5 hb5)
             clear hown5 hgrow5 hb5)
          | fail)
        go_roundg (M - j)
        case rel => exact ⟨j + 1, zs ++ [movedN N ⟨k, ⟨p, q, r, s⟩, x, y⟩], by go_num, by omega, by show _ = _; omega, (by
            show World.ownsRow _ _ _ _ _ _ _
            have h := H5.out.1
            rw [HM.out.2, if_neg (show ¬ 0 < m by omega), if_neg (show ¬ 1 < m by omega), ndC_append]
            exact h), (by show _ = _; rw [HE.out, List.append_assoc, ← take_map_snoc _ _ _ _ HM.out.1]), H5.out.2⟩
        case measure => have := HK.out; omega
    · have hd : decide ((j : Int) < (M : Int)) = false := by simp; omega
      have hjM : j = M := by omega
      subst hjM
      go_wp2_with (first
        | (at_builtin; refine wpList_append_own _ rfl (.tmp 64) (.tmp 75) 22 rfl w.heap.size 56 i0 _ 7 56 Try.underlying22 hi hz0 hz1 hz2 rfl (by decide) _ (N + j) (ndC zs) rfl (owns_below HZ.out ((Below.refl _ wr).alloc (Nat.le_refl _) _)) ⟨wr.heap.size, 0, none⟩ 1 1 [.int .i64 2, .int .u64 0, .int .u64 0, .int .u64 0, .int .u64 0, .int .i64 ((N : Int) - 1), .int .i64 ((N : Int) + j - 1)] rfl rfl (cells_seven_at _ _ rfl _ _ _ _ _ _ _ _) (by simp [Value.oneCell']) (by unfold maxLen; omega) (by omega) (by have := HB.out.size; simp; omega) ?_; intro v5 w5 hown5 hgrow5 _
           have hb5 : Below w.heap.size w w5 := below_put HB.out HZ.out HB.out.size ((Below.refl _ wr).alloc (Nat.le_refl _) _) hgrow5
           have H5 := Lib.hid (And.intro hown5 hb5)
           clear hown5 hgrow5 hb5)
        | fail)
      refine bodyPost_ret (results_tmp2 rfl _ _ _) rfl ⟨⟨v5, rfl, ?_⟩, H5.out.2⟩
      unfold IsRow
      have h := H5.out.1
      have ez : xs ++ ys.map (movedN N) = zs := by rw [HE.out, List.take_of_length_le (by rw [← HN.out.2.1]; omega)]
      rw [ez, ndC_append, List.length_append, HE.out, List.length_append, List.length_map, List.length_take, ← HN.out.1, ← HN.out.2.1, Nat.min_self, ← HE.out]
      exact h
/-- The document's Join of two trees' rows, of the kind 2. -/
theorem refJoinC_trees (u v : Value) (S T : Tr) (w : World) (hT : T.ok) (hn : S.size + T.size < 2000) (hL : Lies u (S.row 0) w) (hL2 : Lies v (T.row 0) w) :
    Calls Try.prog 23 #[u, v, .int .i64 2] w fun e w' => (∃ r, e = .returned (.tuple #[r, .int .i64 0]) ∧ Lies r ((Tr.two 2 S T).row 0) w') ∧ Below w.heap.size w w' := by
  have hp := S.size_pos
  have hp2 := T.size_pos
  have hs := S.row_length 0
  have ht := T.row_length 0
  have H1 := hL
  have H2 := hL2
  obtain ⟨ao, cap, rfl, _⟩ := hL
  obtain ⟨bo, cap2, rfl, _⟩ := hL2
  obtain ⟨b, o, rfl, _⟩ := H1.at (j := 0) (List.getElem?_eq_getElem (by omega))
  obtain ⟨b2, o2, rfl, _⟩ := H2.at (j := 0) (List.getElem?_eq_getElem (by omega))
  refine (joinC_walk _ _ cap cap2 b o b2 o2 (S.row 0) (T.row 0) w rfl rfl (by omega) H1 H2 (row_small T 0 (by omega))).mono ?_
  rintro e w' ⟨⟨r, rfl, hr⟩, hb⟩
  refine ⟨⟨r, rfl, ?_⟩, hb⟩
  rw [hs, ht] at hr
  rw [two_row 2 S T hT]
  exact hr.lies (by rw [List.length_append, List.length_append, List.length_map, hs, ht]; simp; omega)
end Go.Proofs.Ytgffmbdbjbhocaa
namespace Go.Proofs.Ytgffmbdbjbhocaa
open Go.RowKit Go.Lib

/-- The tree of a text's first bytes (of one at least). -/
def litF (l : List UInt8) : Nat → Tr
  | 0 => .set (k4 (oneK (l.getD 0 0).toNat))
  | j + 1 => .two 2 (litF l j) (.set (k4 (oneK (l.getD (j + 1) 0).toNat)))
def litT (l : List UInt8) : Tr := if l.length = 0 then .leaf 0 else litF l (l.length - 1)
theorem litF_size (l : List UInt8) : ∀ j, (litF l j).size = 2 * j + 1
  | 0 => rfl
  | j + 1 => by
    show (litF l j).size + 1 + 1 = _
    rw [litF_size l j]
    omega
theorem litF_ok (l : List UInt8) : ∀ j, (litF l j).ok
  | 0 => trivial
  | j + 1 => ⟨.inl rfl, litF_ok l j, trivial⟩
theorem litT_ok (l : List UInt8) : (litT l).ok := by
  unfold litT
  by_cases h : l.length = 0
  · rw [if_pos h]; exact .inl rfl
  · rw [if_neg h]; exact litF_ok l _
theorem litT_size (l : List UInt8) (h : l.length ≤ 1000) : (litT l).size ≤ 2000 := by
  unfold litT
  by_cases h : l.length = 0
  · rw [if_pos h]; show 1 ≤ 2000; omega
  · rw [if_neg h, litF_size]; omega
end Go.Proofs.Ytgffmbdbjbhocaa
namespace Go.Proofs.Ytgffmbdbjbhocaa
open Go.RowKit Go.Lib

theorem word_bit (y : BitVec 64) (n : Nat) : ((IntKind.u64.wrap ((y.toNat : Int) / ((2 ^ n : Nat) : Int))).tmod 2 == 1) = y.getLsbD n := by
  have h1 : ((y.toNat : Int) / ((2 ^ n : Nat) : Int)) = ((y.toNat / 2 ^ n : Nat) : Int) := by rw [Int.natCast_ediv]
  have h2 : y.toNat / 2 ^ n < 18446744073709551616 := Nat.lt_of_le_of_lt (Nat.div_le_self _ _) y.isLt
  have h3 : y.getLsbD n = decide (y.toNat / 2 ^ n % 2 = 1) := by rw [← BitVec.testBit_toNat, Nat.testBit_eq_decide_div_mod_eq]
  rw [h1, h3]
  generalize y.toNat / 2 ^ n = d at h2
  rw [IntKind.wrap_u64, Int.emod_eq_of_lt (by omega) (by omega), Int.tmod_eq_emod_of_nonneg (by omega), Bool.eq_iff_iff]
  simp only [beq_iff_eq, decide_eq_true_eq]
  omega
theorem bit_wrap (x : Int) (hx0 : 0 ≤ x) : IntKind.u64.wrap (2 ^ (x % 64).toNat) = ((2 ^ (x.toNat % 64) : Nat) : Int) := by
  have h : (x % 64).toNat = x.toNat % 64 := by omega
  have h2 : 2 ^ (x.toNat % 64) ≤ 2 ^ 63 := Nat.pow_le_pow_right (by omega) (by omega)
  have h3 : (2 : Nat) ^ 63 < 18446744073709551616 := by decide
  rw [h, IntKind.wrap_u64, show ((2 : Int) ^ (x.toNat % 64)) = ((2 ^ (x.toNat % 64) : Nat) : Int) by simp]
  generalize 2 ^ (x.toNat % 64) = p at h2
  exact Int.emod_eq_of_lt (by omega) (by omega)

set_option maxHeartbeats 800000 in
set_option maxRecDepth 20000 in
theorem refHas_any (k : Cl) (x : Int) (w : World) (hx0 : 0 ≤ x) (hx1 : x ≤ 255) :
    Calls Try.prog 78 #[clsV k, .int .u8 x] w fun e w' => e = .returned (.bool (has k x.toNat)) ∧ Below w.heap.size w w' := by
  obtain ⟨q, hq⟩ : ∃ q, q = x / 64 := ⟨_, rfl⟩
  have hq4 : q = 0 ∨ q = 1 ∨ q = 2 ∨ q = 3 := by omega
  obtain ⟨r, hr⟩ : ∃ r : Bool, r = has k x.toNat := ⟨_, rfl⟩
  have HR := Lib.hid hr
  rw [← hr]
  obtain ⟨P, hP⟩ : ∃ P, P = IntKind.u64.wrap (2 ^ (x % 64).toNat) := ⟨_, rfl⟩
  have HP := Lib.hid (hP.trans (bit_wrap x hx0))
  have hP0 : ¬ P = 0 := by
    have := Nat.two_pow_pos (x.toNat % 64)
    have h := HP.out
    omega
  have hP' := hP.symm
  clear hP
  unfold clsV clsA wd
  rcases hq4 with h | h | h | h
  all_goals
    rw [h] at hq
    have hq' := hq.symm
    have hn : x.toNat / 64 = q.toNat := by omega
    rw [h] at hn
    have HN := Lib.hid hn
    clear hq hn hr
    go_enter Try.func78, Try.ntmps78
    go_wp2
    go_ret
    refine ⟨?_, (Below.refl _ w).alloc (Nat.le_refl _) _⟩
    rw [HR.out]
    show Ending.returned (.bool _) = Ending.returned (.bool _)
    rw [HP.out, word_bit]
    unfold has
    rw [HN.out]
    rfl
end Go.Proofs.Ytgffmbdbjbhocaa
namespace Go.Proofs.Ytgffmbdbjbhocaa
open Go.RowKit Go.Lib

/-- A class with a byte. -/
def addK (k : Cl) (x : Nat) : Cl := fun i => if i = x / 64 then k i ||| BitVec.twoPow 64 (x % 64) else k i
theorem has_add (k : Cl) (x d : Nat) : has (addK k x) d = (has k d || decide (d = x)) := by
  unfold has addK
  split
  · rename_i h
    rw [BitVec.getLsbD_or, BitVec.getLsbD_twoPow]
    congr 1
    rw [Bool.eq_iff_iff]
    simp only [Bool.and_eq_true, decide_eq_true_eq]
    omega
  · rename_i h
    rw [show decide (d = x) = false by rw [decide_eq_false_iff_not]; intro e; exact h (by rw [e]), Bool.or_false]
theorem add_word (y : BitVec 64) (n : Nat) (hn : n < 64) (h : y.getLsbD n = false) : IntKind.u64.wrap ((y.toNat : Int) + ((2 ^ n : Nat) : Int)) = ((y ||| BitVec.twoPow 64 n).toNat : Int) := by
  have h1 : y &&& BitVec.twoPow 64 n = 0#64 := by rw [BitVec.and_twoPow, h]; rfl
  have h2 : 2 ^ n < 2 ^ 64 := Nat.pow_lt_pow_right (by omega) hn
  have h3 : (2 : Nat) ^ 64 = 18446744073709551616 := by decide
  rw [← BitVec.add_eq_or_of_and_eq_zero _ _ h1, BitVec.toNat_add, BitVec.toNat_twoPow, IntKind.wrap_u64, Nat.mod_eq_of_lt h2]
  generalize 2 ^ n = p at h2
  rw [h3]
  omega
theorem add_on (k : Cl) (x i : Nat) (hi : i = x / 64) (h : has k x = false) : IntKind.u64.wrap (((k i).toNat : Int) + ((2 ^ (x % 64) : Nat) : Int)) = ((addK k x i).toNat : Int) := by
  unfold has at h
  rw [← hi] at h
  rw [add_word _ _ (Nat.mod_lt _ (by omega)) h]
  unfold addK
  rw [if_pos hi]
theorem add_at (k : Cl) (x i : Nat) (hi : ¬ i = x / 64) : ((k i).toNat : Int) = ((addK k x i).toNat : Int) := by
  unfold addK
  rw [if_neg hi]
theorem add_same (k : Cl) (x : Nat) (h : has k x = true) : clsV (addK k x) = clsV k := clsV_ext fun d _ => by
  rw [has_add]
  by_cases hd : d = x
  · subst hd
    rw [h]
    rfl
  · rw [decide_eq_false hd, Bool.or_false]

theorem two_boxes {w w1 : World} {A B : Array Value} {t u : TypeId} (h : Below ((w.alloc (.cells A t)).alloc (.cells B u)).heap.size ((w.alloc (.cells A t)).alloc (.cells B u)) w1) :
    w1.heap[w.heap.size]? = some (.cells A t (0, 0)) ∧ w1.heap[w.heap.size + 1]? = some (.cells B u (0, 0)) ∧ Below w.heap.size w w1 := by
  refine ⟨(h.block _ (by simp; omega)).trans ((Below.heap_alloc (w.alloc (.cells A t)) _ (w.heap.size) (by simp)).trans (heap_alloc_new w _)), (h.block _ (by simp)).trans ?_, (((Below.refl _ w).alloc (Nat.le_refl _) _).alloc (by simp) _).trans (h.mono (by simp; omega))⟩
  have := heap_alloc_new (w.alloc (.cells A t)) (.cells B u)
  rwa [World.size_alloc] at this

set_option maxHeartbeats 2000000 in
set_option maxRecDepth 20000 in
theorem with_any (k : Cl) (x : Int) (w : World) (hx0 : 0 ≤ x) (hx1 : x ≤ 255) :
    Calls Try.prog 79 #[clsV k, .int .u8 x] w fun e w' => e = .returned (clsV (addK k x.toNat)) ∧ Below w.heap.size w w' := by
  have k1 : ∀ Z, Calls Try.prog 78 #[.agg #[.int .u64 ((k 0).toNat : Int), .int .u64 ((k 1).toNat : Int), .int .u64 ((k 2).toNat : Int), .int .u64 ((k 3).toNat : Int)], .int .u8 x] Z fun e w' => e = .returned (.bool (has k x.toNat)) ∧ Below Z.heap.size Z w' := fun Z => refHas_any k x Z hx0 hx1
  cases hr : has k x.toNat
  · rw [hr] at k1
    obtain ⟨q, hq⟩ : ∃ q, q = x / 64 := ⟨_, rfl⟩
    have hq4 : q = 0 ∨ q = 1 ∨ q = 2 ∨ q = 3 := by omega
    obtain ⟨P, hP⟩ : ∃ P, P = IntKind.u64.wrap (2 ^ (x % 64).toNat) := ⟨_, rfl⟩
    have HP := Lib.hid (hP.trans (bit_wrap x hx0))
    have hP' := hP.symm
    have HR := Lib.hid hr
    obtain ⟨E, hE⟩ : ∃ E : Ending, E = .returned (clsV (addK k x.toNat)) := ⟨_, rfl⟩
    have HE := Lib.hid hE
    rw [← hE]
    unfold clsV clsA wd
    clear hP hr hE
    rcases hq4 with h | h | h | h
    all_goals
      rw [h] at hq
      have hq' := hq.symm
      have hn : x.toNat / 64 = q.toNat := by omega
      rw [h] at hn
      have HN := Lib.hid hn
      clear hq hn
      go_enter Try.func79, Try.ntmps79
      go_wp2_with (first
        | (go_at_call 78; refine (k1 _).mono ?_; rintro en w1 ⟨rfl, hb1⟩; clear k1
           obtain ⟨hg0, hg1, hb1⟩ := two_boxes hb1
           obtain ⟨⟨c0, c1, c2, c3⟩, f0, f1, f2, f3⟩ := res_four hg0
           obtain ⟨⟨d0, d1, d2, d3⟩, e0, e1, e2, e3⟩ := res_four hg1
           have HG := Lib.hid hg0
           have HG1 := Lib.hid hg1
           have H1 := Lib.hid hb1
           clear hg0 hg1 hb1))
      refine bodyPost_ret (v := .agg _) (results_cell_row (p := 4) (ty := 54) Try.results79 _ _ (w.heap.size + 1) 54 _ (0, 0) _ rfl
        (set_four _ _ _ _ ((Below.heap_setCell w1 _ _ _ (by simp)).trans HG1.out)) Try.underlying54 rfl Try.infoCls) rfl ⟨?_, below_four (H1.out.setCell (Nat.le_refl _) _) (by omega) _ _ _ _⟩
      rw [HE.out, HP.out]
      refine ret_four ?_ ?_ ?_ ?_
      all_goals first | exact add_on k _ _ (by rw [HN.out]; rfl) HR.out | exact add_at k _ _ (by rw [HN.out]; decide)
  · rw [hr] at k1
    obtain ⟨E, hE⟩ : ∃ E : Ending, E = .returned (clsV (addK k x.toNat)) := ⟨_, rfl⟩
    have HE := Lib.hid (hE.trans (by rw [add_same k _ hr]))
    rw [← hE]
    unfold clsV clsA wd
    clear hE
    go_enter Try.func79, Try.ntmps79
    go_wp2_with (first
      | (go_at_call 78; refine (k1 _).mono ?_; rintro en w1 ⟨rfl, hb1⟩; clear k1
         obtain ⟨hg0, hg1, hb1⟩ := two_boxes hb1
         obtain ⟨⟨c0, c1, c2, c3⟩, f0, f1, f2, f3⟩ := res_four hg0
         obtain ⟨⟨d0, d1, d2, d3⟩, e0, e1, e2, e3⟩ := res_four hg1
         have HG := Lib.hid hg0
         have HG1 := Lib.hid hg1
         have H1 := Lib.hid hb1
         clear hg0 hg1 hb1))
    refine bodyPost_ret (v := .agg _) (results_cell_row (p := 4) (ty := 54) Try.results79 _ _ (w.heap.size + 1) 54 _ (0, 0) _ rfl
      (set_four _ _ _ _ HG1.out) Try.underlying54 rfl Try.infoCls) rfl ⟨?_, below_four H1.out (by omega) _ _ _ _⟩
    rw [HE.out]
    rfl
end Go.Proofs.Ytgffmbdbjbhocaa
namespace Go.Proofs.Ytgffmbdbjbhocaa
open Go.RowKit Go.Lib

theorem four_staysR {w w1 w2 : World} {p q r s : Value} {t : TypeId} (hw : w1 = w.alloc (.cells #[p, q, r, s] t)) (hb : Below w1.heap.size w1 w2) : w2.heap[w.heap.size]? = some (.cells #[p, q, r, s] t (0, 0)) := by
  subst hw
  exact (hb.block _ (by simp)).trans (heap_alloc_new w _)
theorem has_zeroK (d : Nat) : has zeroK d = false := by simp [has, zeroK]
set_option maxHeartbeats 1000000 in
set_option maxRecDepth 20000 in
theorem refOne_any (x : Int) (w : World) (hx0 : 0 ≤ x) (hx1 : x ≤ 255) :
    Calls Try.prog 60 #[.int .u8 x] w fun e w' => e = .returned (clsV (oneK x.toNat)) ∧ Below w.heap.size w w' := by
  have k0 := fun w => with_any zeroK x w hx0 hx1
  have e1 : clsV (addK zeroK x.toNat) = clsV (oneK x.toNat) := clsV_ext fun d hd => by
    rw [has_add, has_one, has_zeroK, Bool.false_or]
  rw [e1] at k0
  have k : ∀ w, Calls Try.prog 79 #[.agg #[.int .u64 0, .int .u64 0, .int .u64 0, .int .u64 0], .int .u8 x] w fun e w' => e = .returned (four ((oneK x.toNat 0).toNat : Int) ((oneK x.toNat 1).toNat : Int) ((oneK x.toNat 2).toNat : Int) ((oneK x.toNat 3).toNat : Int)) ∧ Below w.heap.size w w' := k0
  clear k0 e1
  rw [four_cls]
  obtain ⟨a, ha⟩ : ∃ a, a = ((oneK x.toNat 0).toNat : Int) := ⟨_, rfl⟩
  obtain ⟨b, hb⟩ : ∃ a, a = ((oneK x.toNat 1).toNat : Int) := ⟨_, rfl⟩
  obtain ⟨c, hc⟩ : ∃ a, a = ((oneK x.toNat 2).toNat : Int) := ⟨_, rfl⟩
  obtain ⟨d, hd⟩ : ∃ a, a = ((oneK x.toNat 3).toNat : Int) := ⟨_, rfl⟩
  rw [← ha, ← hb, ← hc, ← hd] at k ⊢
  clear ha hb hc hd
  unfold four at k ⊢
  go_enter Try.func60, Try.ntmps60
  go_wp2_with (first
    | (go_at_call 79; refine (k _).mono ?_; rintro en w1 ⟨rfl, hb1⟩; clear k
       have hg0 := four_staysR rfl hb1
       obtain ⟨⟨c0, c1, c2, c3⟩, f0, f1, f2, f3⟩ := res_four hg0
       have HG := Lib.hid hg0
       have H1 := Lib.hid hb1
       clear hg0 hb1))
  have hh := set_four (.int .u64 a) (.int .u64 b) (.int .u64 c) (.int .u64 d) HG.out
  have hB := below_four (((Below.refl _ w).alloc (Nat.le_refl _) _).trans (H1.out.mono (by simp))) (Nat.le_refl _) (.int .u64 a) (.int .u64 b) (.int .u64 c) (.int .u64 d)
  exact bodyPost_ret (v := .agg _) (results_cell_row (p := 2) (ty := 54) Try.results60 _ _ w.heap.size 54 _ (0, 0) _ rfl hh Try.underlying54 rfl Try.infoCls) rfl ⟨rfl, hB⟩

end Go.Proofs.Ytgffmbdbjbhocaa
namespace Go.Proofs.Ytgffmbdbjbhocaa
open Go.RowKit Go.Lib

/-- A row of texts that can be read. -/
def Strs (v : Value) (xs : List ByteArray) (w : World) : Prop :=
  ∃ ao cap, v = .slice ao xs.length cap ∧ xs.length ≤ cap ∧ xs.length ≤ 140737488355328 ∧ ∀ j x, xs[j]? = some x → ∃ b o, ao = some ⟨b, o, none⟩ ∧ b < w.heap.size ∧ w.cell? ⟨b, o + j, none⟩ = some (.string x)
theorem Strs.below {v : Value} {xs : List ByteArray} {w w' : World} (h : Strs v xs w) (hb : Below w.heap.size w w') : Strs v xs w' := by
  obtain ⟨ao, cap, h1, hc, hl, h2⟩ := h
  refine ⟨ao, cap, h1, hc, hl, fun j x hj => ?_⟩
  obtain ⟨b, o, h3, h4, h5⟩ := h2 j x hj
  refine ⟨b, o, h3, Nat.lt_of_lt_of_le h4 hb.size, ?_⟩
  rw [← h5]
  unfold World.cell?
  rw [hb.block b h4]
theorem Strs.len {ao : Option Addr} {N cap : Nat} {xs : List ByteArray} {w : World} (h : Strs (.slice ao N cap) xs w) : N = xs.length ∧ N ≤ cap ∧ N ≤ 140737488355328 := by
  obtain ⟨_, _, h1, h2, h3, _⟩ := h
  cases h1
  exact ⟨rfl, h2, h3⟩
theorem Strs.at {ao : Option Addr} {N cap : Nat} {xs : List ByteArray} {w : World} (h : Strs (.slice ao N cap) xs w) {j : Nat} {x : ByteArray} (hj : xs[j]? = some x) : ∃ b o, ao = some ⟨b, o, none⟩ ∧ b < w.heap.size ∧ w.cell? ⟨b, o + j, none⟩ = some (.string x) := by
  obtain ⟨_, _, h1, _, _, h2⟩ := h
  cases h1
  exact h2 j x hj
theorem Strs.nil (w : World) : Strs (.slice none 0 0) [] w := ⟨none, 0, rfl, Nat.le_refl _, Nat.zero_le _, fun j x h => by simp at h⟩
/-- The bytes of a row of texts, with something between. -/
def joinB (xs : List ByteArray) (sep : ByteArray) : ByteArray := ⟨(Lib.join (xs.map (·.data.toList)) sep.data.toList).toArray⟩
theorem joinB_size (xs : List ByteArray) (sep : ByteArray) : (joinB xs sep).size = (Lib.join (xs.map (·.data.toList)) sep.data.toList).length := List.size_toArray
theorem joinS_any (v : Value) (xs : List ByteArray) (sep : ByteArray) (w : World) (h : Strs v xs w) (hl : (joinB xs sep).size ≤ 140737488355328) :
    Calls Try.prog 114 #[v, .string sep] w fun e w' => e = .returned (.string (joinB xs sep)) ∧ Below w.heap.size w w' := by
  rw [joinB_size] at hl
  obtain ⟨ao, cap, rfl, hc, hn, h2⟩ := h
  cases hx : xs with
  | nil =>
    refine (Try.strings_Join_none ao cap sep w).mono ?_
    rintro e w' ⟨rfl, rfl⟩
    exact ⟨rfl, Below.refl _ _⟩
  | cons x r =>
    rw [← hx]
    obtain ⟨b, o, rfl, hb, _⟩ := h2 0 x (by rw [hx]; rfl)
    refine Try.strings_Join b o cap xs sep w (fun j y hj => ?_) hb hn hc hl
    obtain ⟨_, _, h3, _, h4⟩ := h2 j y hj
    cases h3
    exact h4
set_option maxHeartbeats 1000000 in
set_option maxRecDepth 20000 in
theorem layS_any (v : Value) (xs : List ByteArray) (sep : ByteArray) (w : World) (h : Strs v xs w) (hl : (joinB xs sep).size ≤ 140737488355328) :
    Calls Try.prog 83 #[.string sep, v] w fun e w' => e = .returned (.string (joinB xs sep)) ∧ Below w.heap.size w w' := by
  have k := joinS_any v xs sep w h hl
  obtain ⟨ao, cap, rfl, _⟩ := h
  generalize joinB xs sep = r at k
  generalize xs.length = N at k
  clear hl
  go_enter Try.func83, Try.ntmps83
  go_wp2_with (first
    | (go_at_call 114; refine k.mono ?_; rintro e w1 ⟨rfl, hb1⟩)
    | fail)
  exact bodyPost_ret (results_tmp rfl _ _ _) rfl ⟨rfl, hb1⟩
set_option maxHeartbeats 1000000 in
set_option maxRecDepth 20000 in
theorem putS_any (v : Value) (xs : List ByteArray) (what : ByteArray) (w : World) (h : Strs v xs w) (hl : (joinB xs what).size ≤ 140737488355328) :
    Calls Try.prog 44 #[v, .string what] w fun e w' => e = .returned (.string (joinB xs what)) ∧ Below w.heap.size w w' := by
  have k := layS_any v xs what w h hl
  obtain ⟨ao, cap, rfl, _⟩ := h
  generalize joinB xs what = r at k
  generalize xs.length = N at k
  clear hl
  go_enter Try.func44, Try.ntmps44
  go_wp2_with (first
    | (go_at_call 83; refine k.mono ?_; rintro e w1 ⟨rfl, hb1⟩)
    | fail)
  exact bodyPost_ret (results_tmp rfl _ _ _) rfl ⟨rfl, hb1⟩
end Go.Proofs.Ytgffmbdbjbhocaa
namespace Go.Proofs.Ytgffmbdbjbhocaa
open Go.RowKit Go.Lib

theorem ba_ext {a b : ByteArray} (h : a.data.toList = b.data.toList) : a = b := by
  cases a; cases b
  simp at h
  subst h
  rfl
theorem joinB_list (xs : List ByteArray) (sep : ByteArray) : (joinB xs sep).data.toList = Lib.join (xs.map (·.data.toList)) sep.data.toList := by simp [joinB]
theorem ba_eq (x y : ByteArray) : (x.toList == y.toList) = true ↔ x = y := by
  rw [beq_iff_eq, ByteArray.toList_eq, ByteArray.toList_eq]
  constructor
  · exact ba_ext
  · intro h; rw [h]
end Go.Proofs.Ytgffmbdbjbhocaa
namespace Go.Proofs.Ytgffmbdbjbhocaa
open Go.RowKit Go.Lib

theorem lies_newS (k : Int) (K : K4) (w : World) : Lies (.slice (some ⟨w.heap.size, 0, none⟩) 1 1) [⟨k, K, 0, 0⟩] (w.alloc (.cells #[.int .i64 k, .int .u64 (K.a.toNat : Int), .int .u64 (K.b.toNat : Int), .int .u64 (K.c.toNat : Int), .int .u64 (K.d.toNat : Int), .int .i64 0, .int .i64 0] 56)) := by
  refine ⟨_, _, rfl, by simp, fun j n hj => ⟨w.heap.size, 0, rfl, by simp, ?_⟩⟩
  have hj0 : j = 0 ∧ n = ⟨k, K, 0, 0⟩ := by
    cases j with
    | zero => exact ⟨rfl, by simpa using hj.symm⟩
    | succ j => simp at hj
  obtain ⟨rfl, rfl⟩ := hj0
  exact node_cells (heap_alloc_new w _)
set_option maxHeartbeats 4000000 in
set_option maxRecDepth 100000 in
theorem refLit_walk (s : ByteArray) (w : World) (h0 : 0 < s.size) (hs : s.size ≤ 900) :
    Calls Try.prog 19 #[.string s] w fun e w' => (∃ v, e = .returned (.tuple #[v, .int .i64 0]) ∧ Lies v ((litF s.data.toList (s.size - 1)).row 0) w') ∧ Below w.heap.size w w' := by
  have hlen : s.data.toList.length = s.size := Array.length_toList
  have HL := Lib.hid hlen
  have hd0 : decide ((1000 : Int) < (s.size : Int)) = false := decide_eq_false (by omega)
  clear hlen
  go_enter Try.func19, Try.ntmps19
  go_wp2
  go_loopg [4, 5] (s.size + 1) (fun g v4 v5 wr => ∃ k : Nat, v5 = .int .i64 k ∧ k ≤ s.size ∧ Hid (g = s.size + 1 - k) ∧ Hid (0 < k → Lies v4 ((litF s.data.toList (k - 1)).row 0) wr) ∧ Hid (Below w.heap.size w wr))
  case atStart => exact ⟨0, rfl, by omega, rfl, fun h => absurd h (Nat.lt_irrefl _), (Below.refl _ w).alloc (Nat.le_refl _) _⟩
  case round =>
    obtain ⟨k, rfl, hk, HK, HS, HB⟩ := hrel
    by_cases hlt : k < s.size
    · have hltI : (k : Int) < (s.size : Int) := by omega
      obtain ⟨c, hc⟩ : ∃ c, s[k] = c := ⟨_, rfl⟩
      have hcl := c.toNat_lt
      have hg : s.data.toList.getD k 0 = c := by
        rw [List.getD_eq_getElem?_getD, List.getElem?_eq_getElem (by rw [HL.out]; exact hlt), ← hc]
        rfl
      have kO := fun w => refOne_any (c.toNat : Int) w (by omega) (by omega)
      obtain ⟨K, hK⟩ : ∃ K, K = k4 (oneK c.toNat) := ⟨_, rfl⟩
      have hO : clsV (oneK (c.toNat : Int).toNat) = .agg #[.int .u64 (K.a.toNat : Int), .int .u64 (K.b.toNat : Int), .int .u64 (K.c.toNat : Int), .int .u64 (K.d.toNat : Int)] := by rw [hK, Int.toNat_natCast]; rfl
      rw [hO] at kO
      have hI : IntKind.i64.wrap ((k : Int) + 1) = ((k + 1 : Nat) : Int) := by rw [IntWalk.i64_in _ (by omega)]; omega
      have HG := Lib.hid (And.intro hg hK)
      clear hO hg hK hcl
      by_cases hk0 : k = 0
      · subst hk0
        go_wp2_with (first
          | (go_at_call 60; refine (kO _).mono ?_; rintro e w1 ⟨rfl, hb1⟩; have H1 := Lib.hid (HB.out.trans (hb1.mono HB.out.size)); clear hb1 kO)
          | fail)
        go_roundg (s.size - 0)
        case rel =>
          refine ⟨1, by go_num, by omega, by show _ = _; omega, fun _ => ?_, H1.out.alloc H1.out.size _⟩
          have e : (litF s.data.toList (1 - 1)).row 0 = [⟨1, K, 0, 0⟩] := by
            show [(⟨1, k4 (oneK (s.data.toList.getD 0 0).toNat), 0, 0⟩ : Nd)] = _
            rw [HG.out.1, HG.out.2]
          rw [e]
          exact lies_newS 1 K w1
        case measure => have := HK.out; omega
      · have hk1 : ((k : Int) == 0) = false := by rw [beq_eq_false_iff_ne]; omega
        have kJ := fun (v : Value) (w : World) (hL2 : Lies v ((Tr.set K).row 0) w) (hL : Lies u4 ((litF s.data.toList (k - 1)).row 0) w) => refJoinC_trees u4 v (litF s.data.toList (k - 1)) (.set K) w trivial (by rw [litF_size]; show _ + 1 < 2000; omega) hL hL2
        have e : Tr.two 2 (litF s.data.toList (k - 1)) (.set K) = litF s.data.toList k := by
          obtain ⟨j, rfl⟩ : ∃ j, k = j + 1 := ⟨k - 1, by omega⟩
          show _ = Tr.two 2 (litF s.data.toList j) (.set (k4 (oneK (s.data.toList.getD (j + 1) 0).toNat)))
          rw [HG.out.1, HG.out.2]
          rfl
        rw [e] at kJ
        clear e
        have hS := HS.out (by omega)
        have HS2 := Lib.hid hS
        clear hS
        go_wp2_with (first
          | (go_at_call 60; refine (kO _).mono ?_; rintro e w1 ⟨rfl, hb1⟩; have H1 := Lib.hid (And.intro hb1 (HB.out.trans (hb1.mono HB.out.size))); clear hb1 kO)
          | (go_at_call 23; refine (kJ _ _ (lies_newS 1 K w1) ((HS2.out.below H1.out.1).below ((Below.refl _ w1).alloc (Nat.le_refl _) _))).mono ?_; rintro e w2 ⟨⟨r, rfl, hr⟩, hb2⟩
             have H2 := Lib.hid (And.intro hr ((H1.out.2.alloc H1.out.2.size _).trans (hb2.mono (by have := H1.out.2.size; simp; omega))))
             clear hr hb2 kJ)
          | fail)
        go_roundg (s.size - k)
        case rel => exact ⟨k + 1, by go_num, by omega, by show _ = _; omega, fun _ => H2.out.1, H2.out.2⟩
        case measure => have := HK.out; omega
    · obtain rfl : k = s.size := by omega
      have hdec : decide ((s.size : Int) < (s.size : Int)) = false := by simp
      go_wp2
      refine bodyPost_ret (results_tmp2 rfl _ _ _) rfl ⟨⟨_, rfl, HS.out h0⟩, HB.out⟩
end Go.Proofs.Ytgffmbdbjbhocaa
namespace Go.Proofs.Ytgffmbdbjbhocaa

/-- Any number of steps. -/
inductive Many (R : Nat → Nat → Prop) : Nat → Nat → Prop
  | refl (a : Nat) : Many R a a
  | tail {a b c : Nat} : Many R a b → R b c → Many R a c
theorem Many.trans {R : Nat → Nat → Prop} {a b c : Nat} (h : Many R a b) (k : Many R b c) : Many R a c := by
  induction k with
  | refl => exact h
  | tail _ h2 ih => exact ih.tail h2
theorem Many.one {R : Nat → Nat → Prop} {a b : Nat} (h : R a b) : Many R a b := (Many.refl a).tail h
theorem Many.head {R : Nat → Nat → Prop} {a b c : Nat} (h : R a b) (k : Many R b c) : Many R a c := (Many.one h).trans k
theorem Many.flip {R : Nat → Nat → Prop} {a b : Nat} (h : Many R a b) : Many (fun x y => R y x) b a := by
  induction h with
  | refl => exact .refl _
  | tail _ h2 ih => exact Many.head h2 ih
theorem Many.head_cases {R : Nat → Nat → Prop} {a b : Nat} (h : Many R a b) : a = b ∨ ∃ c, R a c ∧ Many R c b := by
  induction h with
  | refl => exact .inl rfl
  | tail h1 h2 ih =>
    rcases ih with rfl | ⟨c, hc, hm⟩
    · exact .inr ⟨_, h2, .refl _⟩
    · exact .inr ⟨c, hc, hm.tail h2⟩
/-- Is a byte of the set here? -/
def inSet (s : List UInt8) (k : K4) (p : Nat) : Bool := match s[p]? with
  | some c => has k.cl c.toNat
  | none => false
theorem inSet_lt {s : List UInt8} {k : K4} {p : Nat} (h : inSet s k p = true) : p < s.length := by
  by_cases hl : p < s.length
  · exact hl
  · unfold inSet at h
    rw [List.getElem?_eq_none (by omega)] at h
    cases h
/-- A tree stands from a place to another one. -/
def St (s : List UInt8) : Tr → Nat → Nat → Prop
  | .leaf j, a, b => a = b ∧ (j = 7 → a = 0) ∧ (j = 8 → a = s.length)
  | .set k, a, b => b = a + 1 ∧ inSet s k a = true
  | .rep j x, a, b => if j = 6 then a = b ∨ St s x a b else if j = 4 then Many (St s x) a b else ∃ c, St s x a c ∧ Many (St s x) c b
  | .two j x y, a, b => if j = 2 then ∃ c, St s x a c ∧ St s y c b else St s x a b ∨ St s y a b
theorem many_le {R : Nat → Nat → Prop} (hR : ∀ a b, R a b → a ≤ b) {a b : Nat} (h : Many R a b) : a ≤ b := by
  induction h with
  | refl => exact Nat.le_refl _
  | tail _ h2 ih => exact Nat.le_trans ih (hR _ _ h2)
theorem St.le (s : List UInt8) : ∀ (t : Tr) (a b : Nat), St s t a b → a ≤ b
  | .leaf j, a, b, h => Nat.le_of_eq h.1
  | .set k, a, b, h => by have := h.1; omega
  | .rep j x, a, b, h => by
    unfold St at h
    split at h
    · rcases h with h | h
      · omega
      · exact St.le s x a b h
    · split at h
      · exact many_le (St.le s x) h
      · obtain ⟨c, h1, h2⟩ := h
        exact Nat.le_trans (St.le s x a c h1) (many_le (St.le s x) h2)
  | .two j x y, a, b, h => by
    unfold St at h
    split at h
    · obtain ⟨c, h1, h2⟩ := h
      exact Nat.le_trans (St.le s x a c h1) (St.le s y c b h2)
    · rcases h with h | h
      · exact St.le s x a b h
      · exact St.le s y a b h
/-- The same, or from its end to its beginning. -/
def SD (bk : Bool) (s : List UInt8) (t : Tr) (a b : Nat) : Prop := if bk = true then St s t b a else St s t a b
/-- A step over a node without kids. -/
def stepD (bk : Bool) (s : List UInt8) (n : Nd) (p : Nat) : Option Nat :=
  if n.k = 0 then some p
  else if n.k = 7 then if p = 0 then some p else none
  else if n.k = 8 then if p = s.length then some p else none
  else if bk = true then
    if 0 < p ∧ inSet s n.s (p - 1) = true then some (p - 1) else none
  else if inSet s n.s p = true then some (p + 1) else none
/-- What follows when a node is entered. -/
def enterD (bk : Bool) (s : List UInt8) (n : Nd) (r p : Nat) : List (Nat × Nat) :=
  if n.k = 2 then [(2 * (if bk = true then n.y else n.x).toNat, p)]
  else if n.k = 3 then [(2 * n.x.toNat, p), (2 * n.y.toNat, p)]
  else if n.k = 4 ∨ n.k = 6 then [(2 * r + 1, p), (2 * n.x.toNat, p)]
  else if n.k = 5 then [(2 * n.x.toNat, p)]
  else match stepD bk s n p with
    | some q => [(2 * r + 1, q)]
    | none => []
/-- What follows when a node is left that is another one's kid. -/
def leaveD (bk : Bool) (n : Nd) (u r p : Nat) : List (Nat × Nat) :=
  if n.k = 2 ∧ (r : Int) = (if bk = true then n.y else n.x) then [(2 * (if bk = true then n.x else n.y).toNat, p)]
  else if n.k = 4 ∨ n.k = 5 then [(2 * r, p), (2 * u + 1, p)]
  else [(2 * u + 1, p)]
/-- What follows a spot: a gate (twice a node's place, and one if it is left), and a place. -/
def nextD (bk : Bool) (s : List UInt8) (ts : List Nd) (up : Nat → Nat) (g p : Nat) : List (Nat × Nat) :=
  if g % 2 = 0 then match ts[g / 2]? with
    | some n => enterD bk s n (g / 2) p
    | none => []
  else if g / 2 + 1 = ts.length then []
  else match ts[up (g / 2)]? with
    | some n => leaveD bk n (up (g / 2)) (g / 2) p
    | none => []
def Closed (bk : Bool) (s : List UInt8) (ts : List Nd) (up : Nat → Nat) (X : Nat → Nat → Prop) : Prop := ∀ g p, X g p → ∀ q ∈ nextD bk s ts up g p, X q.1 q.2
/-- Whose kid each node is. -/
def UpOk (up : Nat → Nat) : Tr → Nat → Prop
  | .leaf _, _ => True
  | .set _, _ => True
  | .rep _ x, n => up (n + x.size - 1) = n + x.size ∧ UpOk up x n
  | .two _ x y, n => up (n + x.size - 1) = n + x.size + y.size ∧ up (n + x.size + y.size - 1) = n + x.size + y.size ∧ UpOk up x n ∧ UpOk up y (n + x.size)
/-- A tree that stands in the row, not the whole one, or that. -/
structure Occ (ts : List Nd) (up : Nat → Nat) (t : Tr) (n : Nat) : Prop where
  sub : Sub ts t n
  ok : t.ok
  up : UpOk up t n
  le : n + t.size ≤ ts.length
theorem Occ.rep {ts : List Nd} {up : Nat → Nat} {j : Nat} {x : Tr} {n : Nat} (h : Occ ts up (.rep j x) n) : Occ ts up x n ∧ n + x.size + 1 ≤ ts.length :=
  ⟨⟨h.sub.rep, h.ok.2, h.up.2, by have := h.le; have e : (Tr.rep j x).size = x.size + 1 := rfl; omega⟩, by have := h.le; have e : (Tr.rep j x).size = x.size + 1 := rfl; omega⟩
theorem Occ.fst {ts : List Nd} {up : Nat → Nat} {j : Nat} {x y : Tr} {n : Nat} (h : Occ ts up (.two j x y) n) : Occ ts up x n ∧ n + x.size + y.size + 1 ≤ ts.length :=
  ⟨⟨h.sub.fst, h.ok.2.1, h.up.2.2.1, by have := h.le; have e : (Tr.two j x y).size = x.size + y.size + 1 := rfl; omega⟩, by have := h.le; have e : (Tr.two j x y).size = x.size + y.size + 1 := rfl; omega⟩
theorem Occ.snd {ts : List Nd} {up : Nat → Nat} {j : Nat} {x y : Tr} {n : Nat} (h : Occ ts up (.two j x y) n) : Occ ts up y (n + x.size) ∧ n + x.size + y.size + 1 ≤ ts.length :=
  ⟨⟨h.sub.snd, h.ok.2.2, h.up.2.2.2, by have := h.le; have e : (Tr.two j x y).size = x.size + y.size + 1 := rfl; omega⟩, by have := h.le; have e : (Tr.two j x y).size = x.size + y.size + 1 := rfl; omega⟩
theorem Occ.next_in {bk : Bool} {s : List UInt8} {ts : List Nd} {up : Nat → Nat} {t : Tr} {n r : Nat} (h : Occ ts up t n) (hr : r + 1 = n + t.size) (p : Nat) : nextD bk s ts up (2 * r) p = enterD bk s (t.node n) r p := by
  unfold nextD
  rw [if_pos (by omega), show 2 * r / 2 = r by omega, h.sub.root hr]
theorem next_out {bk : Bool} {s : List UInt8} {ts : List Nd} {up : Nat → Nat} {u : Tr} {m r v : Nat} (h : Occ ts up u m) (hr : up r = v) (hv : v + 1 = m + u.size) (hlt : r < v) (p : Nat) : nextD bk s ts up (2 * r + 1) p = leaveD bk (u.node m) v r p := by
  have hl := h.le
  unfold nextD
  rw [if_neg (by omega), show (2 * r + 1) / 2 = r by omega, if_neg (by omega), hr, h.sub.root hv]

/-- The spots at which a tree is entered. -/
inductive Ent (bk : Bool) (s : List UInt8) (T : Tr) (Src : Nat → Prop) : Tr → Nat → Nat → Prop
  | root {a} : Src a → Ent bk s T Src T 0 a
  | rep {j x n a c} : Ent bk s T Src (.rep j x) n a → (c = a ∨ (j ≠ 6 ∧ Many (SD bk s x) a c)) → Ent bk s T Src x n c
  | alt1 {j x y n a} : j ≠ 2 → Ent bk s T Src (.two j x y) n a → Ent bk s T Src x n a
  | alt2 {j x y n a} : j ≠ 2 → Ent bk s T Src (.two j x y) n a → Ent bk s T Src y (n + x.size) a
  | cat1 {x y n a} : bk = false → Ent bk s T Src (.two 2 x y) n a → Ent bk s T Src x n a
  | cat2 {x y n a c} : bk = false → Ent bk s T Src (.two 2 x y) n a → SD bk s x a c → Ent bk s T Src y (n + x.size) c
  | tac1 {x y n a} : bk = true → Ent bk s T Src (.two 2 x y) n a → Ent bk s T Src y (n + x.size) a
  | tac2 {x y n a c} : bk = true → Ent bk s T Src (.two 2 x y) n a → SD bk s y a c → Ent bk s T Src x n c
theorem Ent.occ {bk : Bool} {s : List UInt8} {ts : List Nd} {up : Nat → Nat} {T : Tr} {Src : Nat → Prop} (h0 : Occ ts up T 0) {t : Tr} {n a : Nat} (h : Ent bk s T Src t n a) : Occ ts up t n := by
  induction h with
  | root _ => exact h0
  | rep _ _ ih => exact ih.rep.1
  | alt1 _ _ ih => exact ih.fst.1
  | alt2 _ _ ih => exact ih.snd.1
  | cat1 _ _ ih => exact ih.fst.1
  | cat2 _ _ _ ih => exact ih.snd.1
  | tac1 _ _ ih => exact ih.snd.1
  | tac2 _ _ _ ih => exact ih.fst.1
theorem SD.leaf {bk : Bool} {s : List UInt8} {j a b : Nat} : SD bk s (.leaf j) a b ↔ a = b ∧ (j = 7 → a = 0) ∧ (j = 8 → a = s.length) := by
  unfold SD St
  cases bk
  · simp
  · simp
    constructor
    · rintro ⟨rfl, h1, h2⟩; exact ⟨rfl, h1, h2⟩
    · rintro ⟨rfl, h1, h2⟩; exact ⟨rfl, h1, h2⟩
theorem many_sd {bk : Bool} {s : List UInt8} {x : Tr} {a b : Nat} : Many (SD bk s x) a b ↔ (if bk = true then Many (St s x) b a else Many (St s x) a b) := by
  cases bk
  · exact Iff.rfl
  · constructor
    · intro h; exact h.flip
    · intro h; exact Many.flip (R := St s x) h
theorem SD.rep {bk : Bool} {s : List UInt8} {j : Nat} {x : Tr} {a b : Nat} : SD bk s (.rep j x) a b ↔ (if j = 6 then a = b ∨ SD bk s x a b else if j = 4 then Many (SD bk s x) a b else ∃ c, SD bk s x a c ∧ Many (SD bk s x) c b) := by
  by_cases h6 : j = 6
  · subst h6
    cases bk <;> simp [SD, St, eq_comm]
  · by_cases h4 : j = 4
    · subst h4
      simp only [many_sd]
      cases bk <;> simp [SD, St]
    · rw [if_neg h6, if_neg h4]
      simp only [many_sd]
      cases bk
      · simp [SD, St, h6, h4]
      · simp [SD, St, h6, h4]
        constructor
        · rintro ⟨c, h1, h2⟩
          cases h2 with
          | refl => exact ⟨_, h1, .refl _⟩
          | tail h3 h4 => exact ⟨_, h4, Many.head h1 h3⟩
        · rintro ⟨c, h1, h2⟩
          rcases Many.head_cases h2 with rfl | ⟨d, h3, h4⟩
          · exact ⟨_, h1, .refl _⟩
          · exact ⟨_, h3, h4.tail h1⟩
theorem SD.alt {bk : Bool} {s : List UInt8} {j : Nat} {x y : Tr} {a b : Nat} (h : j ≠ 2) : SD bk s (.two j x y) a b ↔ SD bk s x a b ∨ SD bk s y a b := by
  cases bk <;> simp [SD, St, h]
theorem SD.cat {s : List UInt8} {x y : Tr} {a b : Nat} : SD false s (.two 2 x y) a b ↔ ∃ c, SD false s x a c ∧ SD false s y c b := by
  simp [SD, St]
theorem SD.tac {s : List UInt8} {x y : Tr} {a b : Nat} : SD true s (.two 2 x y) a b ↔ ∃ c, SD true s y a c ∧ SD true s x c b := by
  simp [SD, St]
  constructor
  · rintro ⟨c, h1, h2⟩; exact ⟨c, h2, h1⟩
  · rintro ⟨c, h1, h2⟩; exact ⟨c, h2, h1⟩
theorem step_leaf {bk : Bool} {s : List UInt8} {t : Tr} {n p q : Nat} (hl : (∃ j, t = .leaf j) ∨ ∃ k, t = .set k) (hok : t.ok) : stepD bk s (t.node n) p = some q ↔ SD bk s t p q := by
  rcases hl with ⟨j, rfl⟩ | ⟨k, rfl⟩
  · rw [SD.leaf]
    have hok : j = 0 ∨ j = 7 ∨ j = 8 := hok
    rcases hok with rfl | rfl | rfl
    · simp [stepD, Tr.node]
    · simp [stepD, Tr.node]; constructor
      · rintro ⟨rfl, rfl⟩; exact ⟨rfl, rfl⟩
      · rintro ⟨rfl, rfl⟩; exact ⟨rfl, rfl⟩
    · simp [stepD, Tr.node]; constructor
      · rintro ⟨rfl, rfl⟩; exact ⟨rfl, rfl⟩
      · rintro ⟨rfl, rfl⟩; exact ⟨rfl, rfl⟩
  · have e : ∀ b, stepD b s ((Tr.set k).node n) p = (if b = true then if 0 < p ∧ inSet s k (p - 1) = true then some (p - 1) else none else if inSet s k p = true then some (p + 1) else none) := fun b => rfl
    rw [e]
    cases bk
    · simp only [SD, St, Bool.false_eq_true, if_false]
      by_cases h : inSet s k p = true
      · rw [if_pos h]; simp [h, eq_comm]
      · rw [if_neg h]; simp [h]
    · simp only [SD, St, if_true]
      by_cases h : 0 < p ∧ inSet s k (p - 1) = true
      · rw [if_pos h]
        obtain ⟨h0, h⟩ := h
        simp only [Option.some.injEq]
        constructor
        · rintro rfl; exact ⟨by omega, h⟩
        · rintro ⟨h1, _⟩; omega
      · rw [if_neg h]
        constructor
        · intro h; cases h
        · rintro ⟨h1, h2⟩
          exact absurd ⟨by omega, by rw [show p - 1 = q by omega]; exact h2⟩ h
theorem enter_leaf {bk : Bool} {s : List UInt8} {t : Tr} {n r p : Nat} (hl : (∃ j, t = .leaf j) ∨ ∃ k, t = .set k) (hok : t.ok) : enterD bk s (t.node n) r p = match stepD bk s (t.node n) p with | some q => [(2 * r + 1, q)] | none => [] := by
  have hk : (t.node n).k = 0 ∨ (t.node n).k = 1 ∨ (t.node n).k = 7 ∨ (t.node n).k = 8 := by
    rcases hl with ⟨j, rfl⟩ | ⟨k, rfl⟩
    · have hok : j = 0 ∨ j = 7 ∨ j = 8 := hok
      rcases hok with rfl | rfl | rfl <;> simp [Tr.node]
    · exact .inr (.inl rfl)
  unfold enterD
  rw [if_neg (by omega), if_neg (by omega), if_neg (by omega), if_neg (by omega)]
/-- Each set that holds what follows, and a tree's entry, holds the leaving to which it stands. -/
theorem closed_does {bk : Bool} {s : List UInt8} {ts : List Nd} {up : Nat → Nat} {X : Nat → Nat → Prop} (hX : Closed bk s ts up X) : ∀ (t : Tr) (n r : Nat), Occ ts up t n → r + 1 = n + t.size → ∀ a b, X (2 * r) a → SD bk s t a b → X (2 * r + 1) b := by
  intro t
  induction t with
  | leaf j =>
    intro n r ho hr a b ha h
    have h := (step_leaf (n := n) (.inl ⟨j, rfl⟩) ho.ok).2 h
    refine hX _ _ ha (2 * r + 1, b) ?_
    rw [ho.next_in hr, enter_leaf (.inl ⟨j, rfl⟩) ho.ok, h]
    simp
  | set k =>
    intro n r ho hr a b ha h
    have h := (step_leaf (n := n) (.inr ⟨k, rfl⟩) ho.ok).2 h
    refine hX _ _ ha (2 * r + 1, b) ?_
    rw [ho.next_in hr, enter_leaf (.inr ⟨k, rfl⟩) ho.ok, h]
    simp
  | rep j x ih =>
    intro n r ho hr a b ha h
    have ez : (Tr.rep j x).size = x.size + 1 := rfl
    have hp := x.size_pos
    obtain ⟨hox, hle⟩ := ho.rep
    have hj : j = 4 ∨ j = 5 ∨ j = 6 := ho.ok.1
    obtain ⟨v, hv⟩ : ∃ v, v + 1 = n + x.size := ⟨n + x.size - 1, by omega⟩
    have hkid : ((Tr.rep j x).node n).x.toNat = v := by show ((n : Int) + x.size - 1).toNat = v; omega
    have hnode : ((Tr.rep j x).node n).k = (j : Int) := rfl
    have hupv : up v = r := by have := ho.up.1; rw [show n + x.size - 1 = v by omega] at this; omega
    have hin := ho.next_in (bk := bk) (s := s) hr a
    have hxa : X (2 * v) a := by
      refine hX _ _ ha (2 * v, a) ?_
      rw [hin]
      unfold enterD
      rw [hnode, hkid]
      rcases hj with rfl | rfl | rfl <;> simp
    have hout : ∀ c, nextD bk s ts up (2 * v + 1) c = leaveD bk ((Tr.rep j x).node n) r v c := fun c => next_out ho hupv hr (by omega) c
    have hup : ∀ c, X (2 * v + 1) c → X (2 * r + 1) c := fun c hc => by
      refine hX _ _ hc (2 * r + 1, c) ?_
      rw [hout]
      unfold leaveD
      rw [hnode]
      rcases hj with rfl | rfl | rfl <;> simp
    have hmore : j ≠ 6 → ∀ c, X (2 * v + 1) c → X (2 * v) c := fun h6 c hc => by
      refine hX _ _ hc (2 * v, c) ?_
      rw [hout]
      unfold leaveD
      rw [hnode]
      rcases hj with rfl | rfl | rfl
      · simp
      · simp
      · exact absurd rfl h6
    have hown : j ≠ 5 → X (2 * r + 1) a := fun h5 => by
      refine hX _ _ ha (2 * r + 1, a) ?_
      rw [hin]
      unfold enterD
      rw [hnode]
      rcases hj with rfl | rfl | rfl
      · simp
      · exact absurd rfl h5
      · simp
    have hmany : j ≠ 6 → ∀ c d, X (2 * v) c → Many (SD bk s x) c d → X (2 * v) d := fun h6 c d hc hm => by
      induction hm with
      | refl => exact hc
      | tail _ h2 ih2 => exact hmore h6 _ (ih n v hox hv _ _ ih2 h2)
    rw [SD.rep] at h
    rcases hj with rfl | rfl | rfl
    · rw [if_neg (by omega), if_pos rfl] at h
      cases h with
      | refl => exact hown (by omega)
      | tail h1 h2 => exact hup _ (ih n v hox hv _ _ (hmany (by omega) _ _ hxa h1) h2)
    · rw [if_neg (by omega), if_neg (by omega)] at h
      obtain ⟨c, h1, h2⟩ := h
      have hc := ih n v hox hv _ _ hxa h1
      cases h2 with
      | refl => exact hup _ hc
      | tail h3 h4 => exact hup _ (ih n v hox hv _ _ (hmany (by omega) _ _ (hmore (by omega) _ hc) h3) h4)
    · rw [if_pos rfl] at h
      rcases h with rfl | h
      · exact hown (by omega)
      · exact hup _ (ih n v hox hv _ _ hxa h)
  | two j x y ihx ihy =>
    intro n r ho hr a b ha h
    have ez : (Tr.two j x y).size = x.size + y.size + 1 := rfl
    have hp := x.size_pos
    have hq := y.size_pos
    obtain ⟨hox, hle⟩ := ho.fst
    obtain ⟨hoy, _⟩ := ho.snd
    have hj : j = 2 ∨ j = 3 := ho.ok.1
    obtain ⟨v, hv⟩ : ∃ v, v + 1 = n + x.size := ⟨n + x.size - 1, by omega⟩
    obtain ⟨u, hu⟩ : ∃ u, u + 1 = n + x.size + y.size := ⟨n + x.size + y.size - 1, by omega⟩
    have hkx : ((Tr.two j x y).node n).x = (v : Int) := by show (n : Int) + x.size - 1 = v; omega
    have hky : ((Tr.two j x y).node n).y = (u : Int) := by show (n : Int) + x.size + y.size - 1 = u; omega
    have hnode : ((Tr.two j x y).node n).k = (j : Int) := rfl
    have hupv : up v = r := by have := ho.up.1; rw [show n + x.size - 1 = v by omega] at this; omega
    have hupu : up u = r := by have := ho.up.2.1; rw [show n + x.size + y.size - 1 = u by omega] at this; omega
    have hin := ho.next_in (bk := bk) (s := s) hr a
    have houtv : ∀ c, nextD bk s ts up (2 * v + 1) c = leaveD bk ((Tr.two j x y).node n) r v c := fun c => next_out ho hupv hr (by omega) c
    have houtu : ∀ c, nextD bk s ts up (2 * u + 1) c = leaveD bk ((Tr.two j x y).node n) r u c := fun c => next_out ho hupu hr (by omega) c
    rcases hj with rfl | rfl
    · cases bk with
      | false =>
        obtain ⟨c, h1, h2⟩ := SD.cat.1 h
        have hxa : X (2 * v) a := by
          refine hX _ _ ha (2 * v, a) ?_
          rw [hin]; unfold enterD; rw [hnode, hkx]; simp
        have hc := ihx n v hox hv _ _ hxa h1
        have hyc : X (2 * u) c := by
          refine hX _ _ hc (2 * u, c) ?_
          rw [houtv]; unfold leaveD; rw [hnode, hkx, hky]; simp
        have hb := ihy (n + x.size) u hoy hu _ _ hyc h2
        refine hX _ _ hb (2 * r + 1, b) ?_
        rw [houtu]; unfold leaveD; rw [hnode, hkx, hky]
        rw [if_neg (by simp; omega)]; simp
      | true =>
        obtain ⟨c, h1, h2⟩ := SD.tac.1 h
        have hya : X (2 * u) a := by
          refine hX _ _ ha (2 * u, a) ?_
          rw [hin]; unfold enterD; rw [hnode, hky]; simp
        have hc := ihy (n + x.size) u hoy hu _ _ hya h1
        have hxc : X (2 * v) c := by
          refine hX _ _ hc (2 * v, c) ?_
          rw [houtu]; unfold leaveD; rw [hnode, hkx, hky]; simp
        have hb := ihx n v hox hv _ _ hxc h2
        refine hX _ _ hb (2 * r + 1, b) ?_
        rw [houtv]; unfold leaveD; rw [hnode, hkx, hky]
        rw [if_neg (by simp; omega)]; simp
    · have hxa : X (2 * v) a := by
        refine hX _ _ ha (2 * v, a) ?_
        rw [hin]; unfold enterD; rw [hnode, hkx, hky]; simp
      have hya : X (2 * u) a := by
        refine hX _ _ ha (2 * u, a) ?_
        rw [hin]; unfold enterD; rw [hnode, hkx, hky]; simp
      rcases (SD.alt (by omega)).1 h with h | h
      · have hb := ihx n v hox hv _ _ hxa h
        refine hX _ _ hb (2 * r + 1, b) ?_
        rw [houtv]; unfold leaveD; rw [hnode]; simp
      · have hb := ihy (n + x.size) u hoy hu _ _ hya h
        refine hX _ _ hb (2 * r + 1, b) ?_
        rw [houtu]; unfold leaveD; rw [hnode]; simp
/-- The spots that are come to, and no other ones. -/
def Come (bk : Bool) (s : List UInt8) (T : Tr) (Src : Nat → Prop) (g p : Nat) : Prop :=
  (∃ t n r, g = 2 * r ∧ r + 1 = n + t.size ∧ Ent bk s T Src t n p) ∨ ∃ t n r a, g = 2 * r + 1 ∧ r + 1 = n + t.size ∧ Ent bk s T Src t n a ∧ SD bk s t a p
theorem come_closed {bk : Bool} {s : List UInt8} {ts : List Nd} {up : Nat → Nat} {T : Tr} (Src : Nat → Prop) (h0 : Occ ts up T 0) (hlen : T.size = ts.length) : Closed bk s ts up (Come bk s T Src) := by
  intro g p h
  rcases h with ⟨t, n, r, rfl, hr, he⟩ | ⟨t, n, r, a, rfl, hr, he, hs⟩
  · have ho := he.occ h0
    rw [ho.next_in hr]
    cases t with
    | leaf j =>
      rw [enter_leaf (.inl ⟨j, rfl⟩) ho.ok]
      cases hq : stepD bk s ((Tr.leaf j).node n) p with
      | none => intro q hq2; simp at hq2
      | some q0 =>
        intro q hq2
        obtain rfl : q = (2 * r + 1, q0) := by simpa using hq2
        exact .inr ⟨_, n, r, p, rfl, hr, he, (step_leaf (.inl ⟨j, rfl⟩) ho.ok).1 hq⟩
    | set k =>
      rw [enter_leaf (.inr ⟨k, rfl⟩) ho.ok]
      cases hq : stepD bk s ((Tr.set k).node n) p with
      | none => intro q hq2; simp at hq2
      | some q0 =>
        intro q hq2
        obtain rfl : q = (2 * r + 1, q0) := by simpa using hq2
        exact .inr ⟨_, n, r, p, rfl, hr, he, (step_leaf (.inr ⟨k, rfl⟩) ho.ok).1 hq⟩
    | rep j x =>
      have hp := x.size_pos
      have ez : (Tr.rep j x).size = x.size + 1 := rfl
      have hj : j = 4 ∨ j = 5 ∨ j = 6 := ho.ok.1
      obtain ⟨v, hv⟩ : ∃ v, v + 1 = n + x.size := ⟨n + x.size - 1, by omega⟩
      have hkid : ((Tr.rep j x).node n).x.toNat = v := by show ((n : Int) + x.size - 1).toNat = v; omega
      have hnode : ((Tr.rep j x).node n).k = (j : Int) := rfl
      have hkidIn : Come bk s T Src (2 * v) p := .inl ⟨x, n, v, rfl, hv, .rep he (.inl rfl)⟩
      have hown : j ≠ 5 → Come bk s T Src (2 * r + 1) p := fun h5 => .inr ⟨_, n, r, p, rfl, hr, he, by
        rw [SD.rep]
        rcases hj with rfl | rfl | rfl
        · rw [if_neg (by omega), if_pos rfl]; exact .refl _
        · exact absurd rfl h5
        · rw [if_pos rfl]; exact .inl rfl⟩
      unfold enterD
      rw [hnode, hkid]
      rcases hj with rfl | rfl | rfl
      · intro q hq
        have hq : q = (2 * r + 1, p) ∨ q = (2 * v, p) := by simpa using hq
        rcases hq with rfl | rfl
        · exact hown (by omega)
        · exact hkidIn
      · intro q hq
        have hq : q = (2 * v, p) := by simpa using hq
        subst hq
        exact hkidIn
      · intro q hq
        have hq : q = (2 * r + 1, p) ∨ q = (2 * v, p) := by simpa using hq
        rcases hq with rfl | rfl
        · exact hown (by omega)
        · exact hkidIn
    | two j x y =>
      have hp := x.size_pos
      have hq := y.size_pos
      have ez : (Tr.two j x y).size = x.size + y.size + 1 := rfl
      have hj : j = 2 ∨ j = 3 := ho.ok.1
      obtain ⟨v, hv⟩ : ∃ v, v + 1 = n + x.size := ⟨n + x.size - 1, by omega⟩
      obtain ⟨u, hu⟩ : ∃ u, u + 1 = n + x.size + y.size := ⟨n + x.size + y.size - 1, by omega⟩
      have hkx : ((Tr.two j x y).node n).x = (v : Int) := by show (n : Int) + x.size - 1 = v; omega
      have hky : ((Tr.two j x y).node n).y = (u : Int) := by show (n : Int) + x.size + y.size - 1 = u; omega
      have hnode : ((Tr.two j x y).node n).k = (j : Int) := rfl
      unfold enterD
      rw [hnode, hkx, hky]
      rcases hj with rfl | rfl
      · cases bk with
        | false =>
          intro q hq
          have hq : q = (2 * v, p) := by simpa using hq
          subst hq
          exact .inl ⟨x, n, v, rfl, hv, .cat1 rfl he⟩
        | true =>
          intro q hq
          have hq : q = (2 * u, p) := by simpa using hq
          subst hq
          exact .inl ⟨y, n + x.size, u, rfl, hu, .tac1 rfl he⟩
      · intro q hq
        have hq : q = (2 * v, p) ∨ q = (2 * u, p) := by simpa using hq
        rcases hq with rfl | rfl
        · exact .inl ⟨x, n, v, rfl, hv, .alt1 (by omega) he⟩
        · exact .inl ⟨y, n + x.size, u, rfl, hu, .alt2 (by omega) he⟩
  · cases he with
    | root ha =>
      have : nextD bk s ts up (2 * r + 1) p = [] := by
        unfold nextD
        rw [if_neg (by omega), if_pos (by omega)]
      rw [this]
      intro q hq
      simp at hq
    | rep he2 hc =>
      rename_i j a0
      have ho := he2.occ h0
      have hp := t.size_pos
      have hj : j = 4 ∨ j = 5 ∨ j = 6 := ho.ok.1
      have ez : (Tr.rep j t).size = t.size + 1 := rfl
      have hup : up r = r + 1 := by have := ho.up.1; rw [show n + t.size - 1 = r by omega] at this; omega
      have hnode : ((Tr.rep j t).node n).k = (j : Int) := rfl
      rw [next_out ho hup (by omega) (by omega)]
      have hout : Come bk s T Src (2 * (r + 1) + 1) p := by
        refine .inr ⟨_, n, r + 1, a0, rfl, by omega, he2, ?_⟩
        rw [SD.rep]
        rcases hj with rfl | rfl | rfl
        · rw [if_neg (by omega), if_pos rfl]
          rcases hc with rfl | ⟨_, hm⟩
          · exact .one hs
          · exact hm.tail hs
        · rw [if_neg (by omega), if_neg (by omega)]
          rcases hc with rfl | ⟨_, hm⟩
          · exact ⟨_, hs, .refl _⟩
          · rcases hm.head_cases with rfl | ⟨d, h1, h2⟩
            · exact ⟨_, hs, .refl _⟩
            · exact ⟨d, h1, h2.tail hs⟩
        · rw [if_pos rfl]
          rcases hc with rfl | ⟨h6, _⟩
          · exact .inr hs
          · exact absurd rfl h6
      have hin : j ≠ 6 → Come bk s T Src (2 * r) p := fun h6 => by
        refine .inl ⟨t, n, r, rfl, hr, .rep he2 (.inr ⟨h6, ?_⟩)⟩
        rcases hc with rfl | ⟨_, hm⟩
        · exact .one hs
        · exact hm.tail hs
      unfold leaveD
      rw [hnode]
      rcases hj with rfl | rfl | rfl
      · intro q hq
        have hq : q = (2 * r, p) ∨ q = (2 * (r + 1) + 1, p) := by simpa using hq
        rcases hq with rfl | rfl
        · exact hin (by omega)
        · exact hout
      · intro q hq
        have hq : q = (2 * r, p) ∨ q = (2 * (r + 1) + 1, p) := by simpa using hq
        rcases hq with rfl | rfl
        · exact hin (by omega)
        · exact hout
      · intro q hq
        have hq : q = (2 * (r + 1) + 1, p) := by simpa using hq
        subst hq
        exact hout
    | alt1 hj2 he2 =>
      rename_i j y
      have ho := he2.occ h0
      have hp := t.size_pos
      have hq := y.size_pos
      have hj : j = 3 := by rcases ho.ok.1 with h | h; exact absurd h hj2; exact h
      subst hj
      have ez : (Tr.two 3 t y).size = t.size + y.size + 1 := rfl
      have hup : up r = n + t.size + y.size := by have := ho.up.1; rw [show n + t.size - 1 = r by omega] at this; exact this
      have hnode : ((Tr.two 3 t y).node n).k = 3 := rfl
      rw [next_out ho hup (by omega) (by omega)]
      unfold leaveD
      rw [hnode]
      intro q hq
      have hq : q = (2 * (n + t.size + y.size) + 1, p) := by simpa using hq
      subst hq
      exact .inr ⟨_, n, _, a, rfl, by omega, he2, (SD.alt (by omega)).2 (.inl hs)⟩
    | alt2 hj2 he2 =>
      rename_i j x n
      have ho := he2.occ h0
      have hp := x.size_pos
      have hq := t.size_pos
      have hj : j = 3 := by rcases ho.ok.1 with h | h; exact absurd h hj2; exact h
      subst hj
      have ez : (Tr.two 3 x t).size = x.size + t.size + 1 := rfl
      have hup : up r = n + x.size + t.size := by have := ho.up.2.1; rw [show n + x.size + t.size - 1 = r by omega] at this; exact this
      have hnode : ((Tr.two 3 x t).node n).k = 3 := rfl
      rw [next_out ho hup (by omega) (by omega)]
      unfold leaveD
      rw [hnode]
      intro q hq
      have hq : q = (2 * (n + x.size + t.size) + 1, p) := by simpa using hq
      subst hq
      exact .inr ⟨_, n, _, a, rfl, by omega, he2, (SD.alt (by omega)).2 (.inr hs)⟩
    | cat1 hb he2 =>
      rename_i y
      subst hb
      have ho := he2.occ h0
      have hp := t.size_pos
      have hq := y.size_pos
      have ez : (Tr.two 2 t y).size = t.size + y.size + 1 := rfl
      have hup : up r = n + t.size + y.size := by have := ho.up.1; rw [show n + t.size - 1 = r by omega] at this; exact this
      have hnode : ((Tr.two 2 t y).node n).k = 2 := rfl
      have hkx : ((Tr.two 2 t y).node n).x = (r : Int) := by show (n : Int) + t.size - 1 = r; omega
      obtain ⟨u, hu⟩ : ∃ u, u + 1 = n + t.size + y.size := ⟨n + t.size + y.size - 1, by omega⟩
      have hky : ((Tr.two 2 t y).node n).y = (u : Int) := by show (n : Int) + t.size + y.size - 1 = u; omega
      rw [next_out ho hup (by omega) (by omega)]
      unfold leaveD
      rw [hnode, hkx, hky]
      intro q hq
      have hq : q = (2 * u, p) := by simpa using hq
      subst hq
      exact .inl ⟨y, n + t.size, u, rfl, by omega, .cat2 rfl he2 hs⟩
    | cat2 hb he2 hs2 =>
      rename_i x n a0
      subst hb
      have ho := he2.occ h0
      have hp := x.size_pos
      have hq := t.size_pos
      have ez : (Tr.two 2 x t).size = x.size + t.size + 1 := rfl
      have hup : up r = n + x.size + t.size := by have := ho.up.2.1; rw [show n + x.size + t.size - 1 = r by omega] at this; exact this
      have hnode : ((Tr.two 2 x t).node n).k = 2 := rfl
      have hkx : ¬ (r : Int) = ((Tr.two 2 x t).node n).x := by show ¬ (r : Int) = (n : Int) + x.size - 1; omega
      rw [next_out ho hup (by omega) (by omega)]
      unfold leaveD
      rw [hnode]
      intro q hq
      rw [if_neg (by simp; exact hkx)] at hq
      have hq : q = (2 * (n + x.size + t.size) + 1, p) := by simpa using hq
      subst hq
      exact .inr ⟨_, n, _, a0, rfl, by omega, he2, SD.cat.2 ⟨_, hs2, hs⟩⟩
    | tac1 hb he2 =>
      rename_i x n
      subst hb
      have ho := he2.occ h0
      have hp := x.size_pos
      have hq := t.size_pos
      have ez : (Tr.two 2 x t).size = x.size + t.size + 1 := rfl
      have hup : up r = n + x.size + t.size := by have := ho.up.2.1; rw [show n + x.size + t.size - 1 = r by omega] at this; exact this
      have hnode : ((Tr.two 2 x t).node n).k = 2 := rfl
      have hky : ((Tr.two 2 x t).node n).y = (r : Int) := by show (n : Int) + x.size + t.size - 1 = r; omega
      obtain ⟨v, hv⟩ : ∃ v, v + 1 = n + x.size := ⟨n + x.size - 1, by omega⟩
      have hkx : ((Tr.two 2 x t).node n).x = (v : Int) := by show (n : Int) + x.size - 1 = v; omega
      rw [next_out ho hup (by omega) (by omega)]
      unfold leaveD
      rw [hnode, hkx, hky]
      intro q hq
      have hq : q = (2 * v, p) := by simpa using hq
      subst hq
      exact .inl ⟨x, n, v, rfl, by omega, .tac2 rfl he2 hs⟩
    | tac2 hb he2 hs2 =>
      rename_i y a0
      subst hb
      have ho := he2.occ h0
      have hp := t.size_pos
      have hq := y.size_pos
      have ez : (Tr.two 2 t y).size = t.size + y.size + 1 := rfl
      have hup : up r = n + t.size + y.size := by have := ho.up.1; rw [show n + t.size - 1 = r by omega] at this; exact this
      have hnode : ((Tr.two 2 t y).node n).k = 2 := rfl
      have hky : ¬ (r : Int) = ((Tr.two 2 t y).node n).y := by show ¬ (r : Int) = (n : Int) + t.size + y.size - 1; omega
      rw [next_out ho hup (by omega) (by omega)]
      unfold leaveD
      rw [hnode]
      intro q hq
      rw [if_neg (by simp; exact hky)] at hq
      have hq : q = (2 * (n + t.size + y.size) + 1, p) := by simpa using hq
      subst hq
      exact .inr ⟨_, n, _, a0, rfl, by omega, he2, SD.tac.2 ⟨_, hs2, hs⟩⟩
theorem ent_root {bk : Bool} {s : List UInt8} {T : Tr} {Src : Nat → Prop} {t : Tr} {n a : Nat} (h : Ent bk s T Src t n a) : (t = T ∧ n = 0 ∧ Src a) ∨ n + t.size < T.size := by
  have step : ∀ {P t : Tr} {m n : Nat}, (P = T ∧ m = 0 ∧ True) ∨ m + P.size < T.size → n + t.size < m + P.size → n + t.size < T.size := fun {P t m n} h hlt => by
    rcases h with ⟨rfl, rfl, _⟩ | h <;> omega
  have weak : ∀ {P : Tr} {m a : Nat}, (P = T ∧ m = 0 ∧ Src a) ∨ m + P.size < T.size → (P = T ∧ m = 0 ∧ True) ∨ m + P.size < T.size := fun h => h.imp (fun h => ⟨h.1, h.2.1, trivial⟩) id
  induction h with
  | root ha => exact .inl ⟨rfl, rfl, ha⟩
  | rep _ _ ih => exact .inr (step (weak ih) (by show _ < _ + (_ + 1); omega))
  | @alt1 j x y n a _ _ ih => have := y.size_pos; exact .inr (step (weak ih) (by show _ < _ + (_ + _ + 1); omega))
  | @alt2 j x y n a _ _ ih => have := x.size_pos; exact .inr (step (weak ih) (by show _ < _ + (_ + _ + 1); omega))
  | @cat1 x y n a _ _ ih => have := y.size_pos; exact .inr (step (weak ih) (by show _ < _ + (_ + _ + 1); omega))
  | @cat2 x y n a c _ _ _ ih => have := x.size_pos; exact .inr (step (weak ih) (by show _ < _ + (_ + _ + 1); omega))
  | @tac1 x y n a _ _ ih => have := x.size_pos; exact .inr (step (weak ih) (by show _ < _ + (_ + _ + 1); omega))
  | @tac2 x y n a c _ _ _ ih => have := y.size_pos; exact .inr (step (weak ih) (by show _ < _ + (_ + _ + 1); omega))
/-- What is marked when nothing new comes: just the places to which the tree stands. -/
theorem marked_is {bk : Bool} {s : List UInt8} {ts : List Nd} {up : Nat → Nat} {T : Tr} {Src : Nat → Prop} {M : Nat → Nat → Prop} {last : Nat} (h0 : Occ ts up T 0) (hlen : T.size = ts.length) (hl : last + 1 = ts.length)
    (hM : Closed bk s ts up M) (hsrc : ∀ a, Src a → M (2 * last) a) (hmin : ∀ X : Nat → Nat → Prop, Closed bk s ts up X → (∀ a, Src a → X (2 * last) a) → ∀ g p, M g p → X g p) (b : Nat) :
    M (2 * last + 1) b ↔ ∃ a, Src a ∧ SD bk s T a b := by
  constructor
  · intro h
    have := hmin _ (come_closed Src h0 hlen) (fun a ha => .inl ⟨T, 0, last, rfl, by omega, .root ha⟩) _ _ h
    rcases this with ⟨t, n, r, h1, _⟩ | ⟨t, n, r, a, h1, hr, he, hs⟩
    · omega
    · rcases ent_root he with ⟨rfl, rfl, ha⟩ | hlt
      · exact ⟨a, ha, hs⟩
      · omega
  · rintro ⟨a, ha, hs⟩
    exact closed_does hM T 0 last h0 (by omega) a b (hsrc a ha) hs
end Go.Proofs.Ytgffmbdbjbhocaa
