/- Package regex's Join of two trees. Conditions: the rows can be read, and are trees'; together they have less than 2000 nodes. -/
import Derived.Test.YtgokkdalfkinnaaReJoin
import Derived.Test.YtgokkdalfkinnaaReTwoAppend
import Derived.Test.YtgokkdalfkinnaaReRefRightAny
namespace Go.Proofs.Ytgokkdalfkinnaa
open Go.RowKit Go.Lib

theorem row_kids : ∀ (t : Tr), t.ok → ∀ n, ∀ q ∈ t.row n, 0 ≤ kidsN q.k
  | .leaf j, h, n => fun q hq => by
    have hj : j = 0 ∨ j = 7 ∨ j = 8 := h
    have : q = ⟨j, k0, 0, 0⟩ := List.mem_singleton.1 hq
    subst this
    rcases hj with rfl | rfl | rfl <;> decide
  | .set k, _, n => fun q hq => by
    have : q = ⟨1, k, 0, 0⟩ := List.mem_singleton.1 hq
    subst this
    show 0 ≤ kidsN 1
    decide
  | .rep j a, h, n => fun q hq => by
    obtain ⟨hj, ha⟩ := h
    rcases List.mem_append.1 (show q ∈ a.row n ++ [_] from hq) with hq | hq
    · exact row_kids a ha n q hq
    · rw [List.mem_singleton.1 hq]
      show 0 ≤ kidsN (j : Int)
      rcases hj with rfl | rfl | rfl <;> decide
  | .two j a b, h, n => fun q hq => by
    obtain ⟨hj, ha, hb⟩ := h
    rcases List.mem_append.1 (show q ∈ a.row n ++ (b.row (n + a.size) ++ [_]) from hq) with hq | hq
    · exact row_kids a ha n q hq
    · rcases List.mem_append.1 hq with hq | hq
      · exact row_kids b hb (n + a.size) q hq
      · rw [List.mem_singleton.1 hq]
        show 0 ≤ kidsN (j : Int)
        rcases hj with rfl | rfl <;> decide


set_option maxHeartbeats 4000000 in
set_option maxRecDepth 20000 in
theorem join2_walk (j0 : Int) (hj2 : (j0 != 2) = false) (N M cap cap2 b o b2 o2 : Nat) (xs ys : List Nd) (w : World) (hN : N = xs.length) (hM : M = ys.length) (h : N + M < 2000) (hN1 : 1 ≤ N)
    (hL : Lies (.slice (some ⟨b, o, none⟩) N cap) xs w) (hL2 : Lies (.slice (some ⟨b2, o2, none⟩) M cap2) ys w) (hs : Small ys) (hkn : ∀ q ∈ ys, 0 ≤ kidsN q.k)
    (r1 : ∀ w, Lies (.slice (some ⟨b, o, none⟩) N cap) xs w → Calls Try.prog 16 #[.slice (some ⟨b, o, none⟩) N cap] w fun e w' => e = .returned (.bool true) ∧ Below w.heap.size w w')
    (r2 : ∀ w, Lies (.slice (some ⟨b2, o2, none⟩) M cap2) ys w → Calls Try.prog 16 #[.slice (some ⟨b2, o2, none⟩) M cap2] w fun e w' => e = .returned (.bool true) ∧ Below w.heap.size w w') :
    Calls Try.prog 17 #[.slice (some ⟨b, o, none⟩) N cap, .slice (some ⟨b2, o2, none⟩) M cap2, .int .i64 j0] w fun e w' =>
      (∃ v, e = .returned (.tuple #[v, .int .i64 0]) ∧ IsRow w.heap.size ((xs ++ ys.map (movedN N)) ++ [⟨j0, k0, (N : Int) - 1, (N : Int) + M - 1⟩]) v w') ∧ Below w.heap.size w w' := by
  have hI : IntKind.i64.wrap ((N : Int) + (M : Int)) = (N : Int) + M := IntWalk.i64_in _ (by omega)
  have hI1 : IntKind.i64.wrap ((N : Int) - 1) = (N : Int) - 1 := IntWalk.i64_in _ (by omega)
  have h1 : decide ((2000 : Int) ≤ (N : Int) + (M : Int)) = false := by simp; omega
  obtain ⟨i0, hi, hz0, hz1, hz2⟩ := info_parts Try.infoRe
  obtain ⟨cs, hcs⟩ : ∃ cs, cs = ndC xs := ⟨_, rfl⟩
  have hcl : cs.length = N * 7 := by rw [hcs, ndC_length]; omega
  have hC1 : ∀ u ∈ cs, u.oneCell' = true := by rw [hcs]; exact ndC_one xs
  have hCC : ∀ W, Lies (.slice (some ⟨b, o, none⟩) N cap) xs W → ∀ j u, cs[j]? = some u → W.cell? ((⟨b, o, none⟩ : Addr).add j) = some u := fun W hW => by rw [hcs]; exact lies_cells hW
  have HCC := Lib.hid hCC
  have HC1 := Lib.hid hC1
  have HL := Lib.hid hL
  have HL2 := Lib.hid hL2
  have HN := Lib.hid (And.intro hN (And.intro hM hcs))
  have HS := Lib.hid (And.intro hs hkn)
  clear hL hL2 hN hM hcs hs hkn hCC hC1
  go_enter Try.func17, Try.ntmps17
  go_wp2_with (first
    | (go_at_call 16; first
        | (with_reducible refine (r1 _ HL.out).mono ?_; rintro e w1 ⟨rfl, hb1⟩; have HB1 := Lib.hid hb1; have HLA := Lib.hid (HL.out.below hb1); have HLB := Lib.hid (HL2.out.below hb1); clear hb1 r1)
        | (with_reducible refine (r2 _ HLB.out).mono ?_; rintro e w2 ⟨rfl, hb2⟩; have HB2 := Lib.hid (HB1.out.trans (hb2.mono HB1.out.size)); have HLA2 := Lib.hid (HLA.out.below hb2); have HLB2 := Lib.hid (HLB.out.below hb2); clear hb2 r2))
    | (at_builtin; refine wpList_append_two _ rfl (.tmp 34) (.tmp 35) 49 23 rfl w.heap.size 46 46 i0 _ 7 56 Try.underlying49 Try.underlying23 hi hz0 hz1 hz2 rfl (by decide) _ 0 [] rfl (owns_empty w2 _ HB2.out.size) ⟨b, o, none⟩ N cap cs rfl hcl (fun j u hj => World.cell?_alloc_some w2 _ _ (by rw [HCC.out _ HLA2.out j u hj]; rfl) |>.trans (HCC.out _ HLA2.out j u hj)) HC1.out (by unfold maxLen; omega) (by omega) (by have := HB2.out.size; simp; omega) ?_; intro v1 w3 hown3 hgrow3 _
       have hb3 : Below w.heap.size w w3 := (HB2.out.alloc HB2.out.size _).grown hgrow3 (by have := HB2.out.size; simp; omega) (fun q hq => own_base (owns_empty w2 _ HB2.out.size) hq)
       rw [Nat.zero_add, List.nil_append] at hown3
       obtain ⟨g1, cap1, rfl⟩ := owned_slice hown3 hN1
       have H3 := Lib.hid (And.intro hown3 hb3)
       clear hown3 hgrow3 hb3)
    | fail)
  have hO : Own w.heap.size w3.heap.size 49 [] xs (w3.alloc (.cells #[.slice (some ⟨g1, 0, none⟩) N cap1] 49)) :=
    ⟨H3.out.2.size, by rw [World.size_alloc]; have := H3.out.2.size; omega, by rw [← HN.out.1]; omega, by decide, _, heap_alloc_new w3 _, by rw [← HN.out.1, ← HN.out.2.2]; exact owns_below H3.out.1 ((Below.refl _ w3).alloc (Nat.le_refl _) _), fun e => by have := own_block_lt H3.out.1 (g := g1) rfl; have e2 : g1 = w3.heap.size := Option.some.inj e; omega⟩
  have hB0 : Below w.heap.size w (w3.alloc (.cells #[.slice (some ⟨g1, 0, none⟩) N cap1] 49)) := H3.out.2.alloc H3.out.2.size _
  have hHL : Lies (.slice (some ⟨b2, o2, none⟩) M cap2) ys w := HL2.out
  obtain ⟨W0, hW0⟩ : ∃ W0, W0 = w3.alloc (.cells #[.slice (some ⟨g1, 0, none⟩) N cap1] 49) := ⟨_, rfl⟩
  rw [← hW0] at hO hB0 ⊢
  obtain ⟨G, hG⟩ : ∃ G, G = w3.heap.size := ⟨_, rfl⟩
  rw [← hG] at hO ⊢
  have HO0 := Lib.hid (And.intro hO hB0)
  clear hW0 hG hO hB0 hHL HB1 HLA HLB HB2 HLA2 HLB2 H3 HL HCC HC1 hcl
  go_loopg [39] (M + 1) (fun k i wr => ∃ (j : Nat) (zs : List Nd), i = .int .i64 j ∧ j ≤ M ∧ Hid (k = M + 1 - j) ∧ Hid (Own w.heap.size G 49 [] zs wr) ∧ Hid (zs = xs ++ (ys.take j).map (movedN N)) ∧ Hid (Below w.heap.size w wr))
  case atStart => exact ⟨0, xs, rfl, Nat.zero_le _, rfl, HO0.out.1, by simp [Hid], HO0.out.2⟩
  case round =>
    obtain ⟨j, zs, rfl, hj, HK, HO, HE, HB⟩ := hrel
    have hzl : zs.length = N + j := by rw [HE.out, List.length_append, List.length_map, List.length_take, ← HN.out.1, ← HN.out.2.1, Nat.min_eq_left hj]
    by_cases hlt : j < M
    · obtain ⟨n, hn⟩ : ∃ n, ys[j]? = some n := ⟨ys[j]'(by have := HN.out.2.1; omega), List.getElem?_eq_getElem _⟩
      obtain ⟨b', o', e', hb, ha⟩ := HL2.out.at hn
      cases e'
      obtain ⟨a0, a1, a2, a3, a4, a5, a6⟩ := ha.below HB.out hb
      obtain ⟨q0, q1, q2, q3⟩ := HS.out.1 n (List.mem_of_getElem? hn)
      have hk0 := HS.out.2 n (List.mem_of_getElem? hn)
      have hJ : IntKind.i64.wrap ((j : Int) + 1) = ((j + 1 : Nat) : Int) := by rw [IntWalk.i64_in _ (by omega)]; omega
      obtain ⟨k, ⟨p, q, r, s⟩, x, y⟩ := n
      dsimp only at q0 q1 q2 q3 hk0
      have hm : kidsN k = 0 ∨ kidsN k = 1 ∨ kidsN k = 2 := by
        rcases kidsN_cases k with h | ⟨h, _⟩ | ⟨h, _⟩ | ⟨h, _⟩ <;> omega
      obtain ⟨x', hx'⟩ : ∃ x', x' = (if 0 < kidsN k then x + N else x) := ⟨_, rfl⟩
      obtain ⟨y', hy'⟩ : ∃ y', y' = (if 1 < kidsN k then y + N else y) := ⟨_, rfl⟩
      have km := fun w => moved_walk k (p.toNat : Int) (q.toNat : Int) (r.toNat : Int) (s.toNat : Int) x y N (kidsN k) x' y' w (Lib.hid ⟨hx', hy'⟩) hm (IntWalk.i64_in _ (by omega)) (IntWalk.i64_in _ (by omega)) (fun w => kids_any k w)
      have hmv : movedN N ⟨k, ⟨p, q, r, s⟩, x, y⟩ = ⟨k, ⟨p, q, r, s⟩, x', y'⟩ := by rw [hx', hy']; rfl
      unfold wd at a1 a2 a3 a4
      dsimp only at a0 a1 a2 a3 a4 a5 a6
      have HM := Lib.hid (And.intro hn hmv)
      clear hn ha hb q0 q1 q2 q3 hk0 hm hx' hy' hmv
      obtain ⟨hBG, hBs, _, hT, v, hgH, hown, hvo⟩ := HO.out
      rw [hzl] at hown
      obtain ⟨vg, vcap, rfl⟩ := owned_slice hown (by omega)
      have hGlt := block_lt hgH
      have HGH := Lib.hid hgH
      have HOWN := Lib.hid hown
      have HVO := Lib.hid hvo
      have HBG := Lib.hid (And.intro hBG hBs)
      clear hgH hown hvo hBG hBs
      go_wp2_with fail
      have hd0 := heap_alloc_new wr (.cells #[.int .i64 k, .int .u64 (p.toNat : Int), .int .u64 (q.toNat : Int), .int .u64 (r.toNat : Int), .int .u64 (s.toNat : Int), .int .i64 x, .int .i64 y] 46)
      obtain ⟨W, hW⟩ : ∃ W, W = wr.alloc (.cells #[.int .i64 k, .int .u64 (p.toNat : Int), .int .u64 (q.toNat : Int), .int .u64 (r.toNat : Int), .int .u64 (s.toNat : Int), .int .i64 x, .int .i64 y] 46) := ⟨_, rfl⟩
      have hWb : Below wr.heap.size wr W := by rw [hW]; exact (Below.refl _ wr).alloc (Nat.le_refl _) _
      have hWz : W.heap.size = wr.heap.size + 1 := by rw [hW]; simp
      rw [← hW] at hd0 ⊢
      have hgW := (hWb.block G hGlt).trans HGH.out
      obtain ⟨H, hH⟩ : ∃ H, H = wr.heap.size := ⟨_, rfl⟩
      rw [← hH] at hd0 hWz ⊢
      obtain ⟨d0, d1, d2, d3, d4, d5, d6⟩ := node_cells hd0
      have c0 : W.cell? ⟨G, 0, none⟩ = some (.slice (some ⟨vg, 0, none⟩) (N + j) vcap) := by rw [cell_of_heap hgW]; rfl
      have hownW := owns_below HOWN.out hWb
      have HW := Lib.hid (And.intro hgW (And.intro hd0 (And.intro hownW (And.intro hWb (And.intro hGlt hH)))))
      have hGW : G < W.heap.size := by omega
      have hHW : H < W.heap.size := by omega
      have hBW : w.heap.size ≤ W.heap.size := by have := HBG.out.2; omega
      clear hW hd0 hgW hownW hWb hH hGlt a0 a1 a2 a3 a4 a5 a6
      go_region_law
        (first
          | (go_simp; go_at_call 36; refine (km _).mono ?_; rintro e w5 ⟨rfl, hb5⟩
             have hb5' : Below W.heap.size W w5 := by first | exact hb5 | exact (Below.refl _ W).drew.trans hb5
             have g5 := (hb5'.block G hGW).trans HW.out.1
             have own5 := owns_below HW.out.2.2.1 hb5'
             have hz5 := hb5'.size
             have e0 : w5.cell? ⟨G, 0, none⟩ = some (.slice (some ⟨vg, 0, none⟩) (N + j) vcap) := by rw [cell_of_heap g5]; rfl
             have ca5 : (w5.alloc (.cells #[.int .i64 k, .int .u64 (p.toNat : Int), .int .u64 (q.toNat : Int), .int .u64 (r.toNat : Int), .int .u64 (s.toNat : Int), .int .i64 x', .int .i64 y'] 46)).cell? ⟨G, 0, none⟩ = some (.slice (some ⟨vg, 0, none⟩) (N + j) vcap) := (World.cell?_alloc_some w5 _ _ (by rw [e0]; rfl)).trans e0
             have H5 := Lib.hid (And.intro hb5' (And.intro g5 own5))
             clear hb5 hb5' g5 own5)
          | (refine step_append_own rfl (.tmp 43) (.tmp 48) 49 rfl w.heap.size 46 i0 _ 7 56 Try.underlying49 hi hz0 hz1 hz2 rfl (by decide) _ (N + j) (ndC zs) (by simp [Act.eval]) (H5.out.2.2.alloc _) ⟨w5.heap.size, 0, none⟩ 1 1 [.int .i64 k, .int .u64 (p.toNat : Int), .int .u64 (q.toNat : Int), .int .u64 (r.toNat : Int), .int .u64 (s.toNat : Int), .int .i64 x', .int .i64 y'] (by simp [Act.eval]) rfl (cells_seven _ _ _ _ _ _ _ _ _) (by simp [Value.oneCell']) (by unfold maxLen; omega) (by omega) (by simp; omega) ?_; intro v2 w6 hown6 hgrow6
             have hp6 : w6.heap[G]? = some (.cells #[.slice (some ⟨vg, 0, none⟩) (N + j) vcap] 49 (0, 0)) := (hgrow6.block G (by simp; omega) (fun e => HVO.out e.symm)).trans ((Below.heap_alloc _ _ _ (by omega)).trans H5.out.2.1)
             have cp6 : w6.cell? ⟨G, 0, none⟩ = some (.slice (some ⟨vg, 0, none⟩) (N + j) vcap) := by rw [cell_of_heap hp6]; rfl
             have fp6 : w6.frozen? ⟨G, 0, none⟩ = false := frozen_of_heap hp6 0
             have hb6 : Below w.heap.size w w6 := (((HB.out.trans (HW.out.2.2.2.1.mono HBG.out.2)).trans (H5.out.1.mono hBW)).alloc (by omega) _).grown hgrow6 (by simp; omega) (fun r hr => own_base HOWN.out hr)
             obtain ⟨g6, cap6, rfl⟩ := owned_slice hown6 (by omega)))
      all_goals
        go_wp2
        go_roundg (M - j)
        case rel =>
          have hbb := hb6.setCell (p := ⟨G, 0, none⟩) HBG.out.1 (.slice (some ⟨g6, 0, none⟩) (N + j + 1) cap6)
          refine ⟨j + 1, zs ++ [movedN N ⟨k, ⟨p, q, r, s⟩, x, y⟩], by go_num, by omega, by show _ = _; omega, ?_, (by show _ = _; rw [HE.out, List.append_assoc, ← take_map_snoc _ _ _ _ HM.out.1]), hbb⟩
          refine ⟨HBG.out.1, hbb.size, by rw [List.length_append, hzl]; show N + j + 1 ≤ 2000; omega, hT, ?_⟩
          rw [HM.out.2, ndC_append, List.length_append, hzl]
          exact tree_put (more := []) hT hp6 hown6
        case measure => have := HK.out; omega
    · have hd : decide ((j : Int) < (M : Int)) = false := by simp; omega
      have hjM : j = M := by omega
      subst hjM
      have kp := fun w' (h : Own w.heap.size G 49 [] zs w') => pair_ok w.heap.size G 49 [] zs j0 ((N : Int) - 1) w' h (by omega)
      go_wp2_with (first
        | (go_at_call 34; refine (kp _ HO.out).mono ?_; rintro e w7 ⟨rfl, ho7, hb7⟩; obtain ⟨v7, f7, hrow7⟩ := ho7.first; have H7 := Lib.hid (And.intro hrow7 hb7); clear ho7 hrow7 hb7)
        | fail)
      refine bodyPost_ret (results_tmp2 rfl _ _ _) rfl ⟨⟨v7, rfl, ?_⟩, HB.out.trans H7.out.2⟩
      have ez : xs ++ ys.map (movedN N) = zs := by rw [HE.out, List.take_of_length_le (by rw [← HN.out.2.1]; omega)]
      have h7 := H7.out.1
      rw [hzl] at h7
      rw [ez]
      have e9 : ((N + j : Nat) : Int) - 1 = (N : Int) + j - 1 := by omega
      rwa [e9] at h7

set_option maxHeartbeats 4000000 in
set_option maxRecDepth 20000 in
theorem join3_walk (j0 : Int) (hj2 : (j0 != 2) = true) (hj3 : (j0 != 3) = false) (N M cap cap2 b o b2 o2 : Nat) (xs ys : List Nd) (w : World) (hN : N = xs.length) (hM : M = ys.length) (h : N + M < 2000) (hN1 : 1 ≤ N)
    (hL : Lies (.slice (some ⟨b, o, none⟩) N cap) xs w) (hL2 : Lies (.slice (some ⟨b2, o2, none⟩) M cap2) ys w) (hs : Small ys) (hkn : ∀ q ∈ ys, 0 ≤ kidsN q.k)
    (r1 : ∀ w, Lies (.slice (some ⟨b, o, none⟩) N cap) xs w → Calls Try.prog 16 #[.slice (some ⟨b, o, none⟩) N cap] w fun e w' => e = .returned (.bool true) ∧ Below w.heap.size w w')
    (r2 : ∀ w, Lies (.slice (some ⟨b2, o2, none⟩) M cap2) ys w → Calls Try.prog 16 #[.slice (some ⟨b2, o2, none⟩) M cap2] w fun e w' => e = .returned (.bool true) ∧ Below w.heap.size w w') :
    Calls Try.prog 17 #[.slice (some ⟨b, o, none⟩) N cap, .slice (some ⟨b2, o2, none⟩) M cap2, .int .i64 j0] w fun e w' =>
      (∃ v, e = .returned (.tuple #[v, .int .i64 0]) ∧ IsRow w.heap.size ((xs ++ ys.map (movedN N)) ++ [⟨j0, k0, (N : Int) - 1, (N : Int) + M - 1⟩]) v w') ∧ Below w.heap.size w w' := by
  have hI : IntKind.i64.wrap ((N : Int) + (M : Int)) = (N : Int) + M := IntWalk.i64_in _ (by omega)
  have hI1 : IntKind.i64.wrap ((N : Int) - 1) = (N : Int) - 1 := IntWalk.i64_in _ (by omega)
  have h1 : decide ((2000 : Int) ≤ (N : Int) + (M : Int)) = false := by simp; omega
  obtain ⟨i0, hi, hz0, hz1, hz2⟩ := info_parts Try.infoRe
  obtain ⟨cs, hcs⟩ : ∃ cs, cs = ndC xs := ⟨_, rfl⟩
  have hcl : cs.length = N * 7 := by rw [hcs, ndC_length]; omega
  have hC1 : ∀ u ∈ cs, u.oneCell' = true := by rw [hcs]; exact ndC_one xs
  have hCC : ∀ W, Lies (.slice (some ⟨b, o, none⟩) N cap) xs W → ∀ j u, cs[j]? = some u → W.cell? ((⟨b, o, none⟩ : Addr).add j) = some u := fun W hW => by rw [hcs]; exact lies_cells hW
  have HCC := Lib.hid hCC
  have HC1 := Lib.hid hC1
  have HL := Lib.hid hL
  have HL2 := Lib.hid hL2
  have HN := Lib.hid (And.intro hN (And.intro hM hcs))
  have HS := Lib.hid (And.intro hs hkn)
  clear hL hL2 hN hM hcs hs hkn hCC hC1
  go_enter Try.func17, Try.ntmps17
  go_wp2_with (first
    | (go_at_call 16; first
        | (with_reducible refine (r1 _ HL.out).mono ?_; rintro e w1 ⟨rfl, hb1⟩; have HB1 := Lib.hid hb1; have HLA := Lib.hid (HL.out.below hb1); have HLB := Lib.hid (HL2.out.below hb1); clear hb1 r1)
        | (with_reducible refine (r2 _ HLB.out).mono ?_; rintro e w2 ⟨rfl, hb2⟩; have HB2 := Lib.hid (HB1.out.trans (hb2.mono HB1.out.size)); have HLA2 := Lib.hid (HLA.out.below hb2); have HLB2 := Lib.hid (HLB.out.below hb2); clear hb2 r2))
    | (at_builtin; refine wpList_append_two _ rfl (.tmp 34) (.tmp 35) 49 23 rfl w.heap.size 46 46 i0 _ 7 56 Try.underlying49 Try.underlying23 hi hz0 hz1 hz2 rfl (by decide) _ 0 [] rfl (owns_empty w2 _ HB2.out.size) ⟨b, o, none⟩ N cap cs rfl hcl (fun j u hj => World.cell?_alloc_some w2 _ _ (by rw [HCC.out _ HLA2.out j u hj]; rfl) |>.trans (HCC.out _ HLA2.out j u hj)) HC1.out (by unfold maxLen; omega) (by omega) (by have := HB2.out.size; simp; omega) ?_; intro v1 w3 hown3 hgrow3 _
       have hb3 : Below w.heap.size w w3 := (HB2.out.alloc HB2.out.size _).grown hgrow3 (by have := HB2.out.size; simp; omega) (fun q hq => own_base (owns_empty w2 _ HB2.out.size) hq)
       rw [Nat.zero_add, List.nil_append] at hown3
       obtain ⟨g1, cap1, rfl⟩ := owned_slice hown3 hN1
       have H3 := Lib.hid (And.intro hown3 hb3)
       clear hown3 hgrow3 hb3)
    | fail)
  have hO : Own w.heap.size w3.heap.size 49 [] xs (w3.alloc (.cells #[.slice (some ⟨g1, 0, none⟩) N cap1] 49)) :=
    ⟨H3.out.2.size, by rw [World.size_alloc]; have := H3.out.2.size; omega, by rw [← HN.out.1]; omega, by decide, _, heap_alloc_new w3 _, by rw [← HN.out.1, ← HN.out.2.2]; exact owns_below H3.out.1 ((Below.refl _ w3).alloc (Nat.le_refl _) _), fun e => by have := own_block_lt H3.out.1 (g := g1) rfl; have e2 : g1 = w3.heap.size := Option.some.inj e; omega⟩
  have hB0 : Below w.heap.size w (w3.alloc (.cells #[.slice (some ⟨g1, 0, none⟩) N cap1] 49)) := H3.out.2.alloc H3.out.2.size _
  have hHL : Lies (.slice (some ⟨b2, o2, none⟩) M cap2) ys w := HL2.out
  obtain ⟨W0, hW0⟩ : ∃ W0, W0 = w3.alloc (.cells #[.slice (some ⟨g1, 0, none⟩) N cap1] 49) := ⟨_, rfl⟩
  rw [← hW0] at hO hB0 ⊢
  obtain ⟨G, hG⟩ : ∃ G, G = w3.heap.size := ⟨_, rfl⟩
  rw [← hG] at hO ⊢
  have HO0 := Lib.hid (And.intro hO hB0)
  clear hW0 hG hO hB0 hHL HB1 HLA HLB HB2 HLA2 HLB2 H3 HL HCC HC1 hcl
  go_loopg [39] (M + 1) (fun k i wr => ∃ (j : Nat) (zs : List Nd), i = .int .i64 j ∧ j ≤ M ∧ Hid (k = M + 1 - j) ∧ Hid (Own w.heap.size G 49 [] zs wr) ∧ Hid (zs = xs ++ (ys.take j).map (movedN N)) ∧ Hid (Below w.heap.size w wr))
  case atStart => exact ⟨0, xs, rfl, Nat.zero_le _, rfl, HO0.out.1, by simp [Hid], HO0.out.2⟩
  case round =>
    obtain ⟨j, zs, rfl, hj, HK, HO, HE, HB⟩ := hrel
    have hzl : zs.length = N + j := by rw [HE.out, List.length_append, List.length_map, List.length_take, ← HN.out.1, ← HN.out.2.1, Nat.min_eq_left hj]
    by_cases hlt : j < M
    · obtain ⟨n, hn⟩ : ∃ n, ys[j]? = some n := ⟨ys[j]'(by have := HN.out.2.1; omega), List.getElem?_eq_getElem _⟩
      obtain ⟨b', o', e', hb, ha⟩ := HL2.out.at hn
      cases e'
      obtain ⟨a0, a1, a2, a3, a4, a5, a6⟩ := ha.below HB.out hb
      obtain ⟨q0, q1, q2, q3⟩ := HS.out.1 n (List.mem_of_getElem? hn)
      have hk0 := HS.out.2 n (List.mem_of_getElem? hn)
      have hJ : IntKind.i64.wrap ((j : Int) + 1) = ((j + 1 : Nat) : Int) := by rw [IntWalk.i64_in _ (by omega)]; omega
      obtain ⟨k, ⟨p, q, r, s⟩, x, y⟩ := n
      dsimp only at q0 q1 q2 q3 hk0
      have hm : kidsN k = 0 ∨ kidsN k = 1 ∨ kidsN k = 2 := by
        rcases kidsN_cases k with h | ⟨h, _⟩ | ⟨h, _⟩ | ⟨h, _⟩ <;> omega
      obtain ⟨x', hx'⟩ : ∃ x', x' = (if 0 < kidsN k then x + N else x) := ⟨_, rfl⟩
      obtain ⟨y', hy'⟩ : ∃ y', y' = (if 1 < kidsN k then y + N else y) := ⟨_, rfl⟩
      have km := fun w => moved_walk k (p.toNat : Int) (q.toNat : Int) (r.toNat : Int) (s.toNat : Int) x y N (kidsN k) x' y' w (Lib.hid ⟨hx', hy'⟩) hm (IntWalk.i64_in _ (by omega)) (IntWalk.i64_in _ (by omega)) (fun w => kids_any k w)
      have hmv : movedN N ⟨k, ⟨p, q, r, s⟩, x, y⟩ = ⟨k, ⟨p, q, r, s⟩, x', y'⟩ := by rw [hx', hy']; rfl
      unfold wd at a1 a2 a3 a4
      dsimp only at a0 a1 a2 a3 a4 a5 a6
      have HM := Lib.hid (And.intro hn hmv)
      clear hn ha hb q0 q1 q2 q3 hk0 hm hx' hy' hmv
      obtain ⟨hBG, hBs, _, hT, v, hgH, hown, hvo⟩ := HO.out
      rw [hzl] at hown
      obtain ⟨vg, vcap, rfl⟩ := owned_slice hown (by omega)
      have hGlt := block_lt hgH
      have HGH := Lib.hid hgH
      have HOWN := Lib.hid hown
      have HVO := Lib.hid hvo
      have HBG := Lib.hid (And.intro hBG hBs)
      clear hgH hown hvo hBG hBs
      go_wp2_with fail
      have hd0 := heap_alloc_new wr (.cells #[.int .i64 k, .int .u64 (p.toNat : Int), .int .u64 (q.toNat : Int), .int .u64 (r.toNat : Int), .int .u64 (s.toNat : Int), .int .i64 x, .int .i64 y] 46)
      obtain ⟨W, hW⟩ : ∃ W, W = wr.alloc (.cells #[.int .i64 k, .int .u64 (p.toNat : Int), .int .u64 (q.toNat : Int), .int .u64 (r.toNat : Int), .int .u64 (s.toNat : Int), .int .i64 x, .int .i64 y] 46) := ⟨_, rfl⟩
      have hWb : Below wr.heap.size wr W := by rw [hW]; exact (Below.refl _ wr).alloc (Nat.le_refl _) _
      have hWz : W.heap.size = wr.heap.size + 1 := by rw [hW]; simp
      rw [← hW] at hd0 ⊢
      have hgW := (hWb.block G hGlt).trans HGH.out
      obtain ⟨H, hH⟩ : ∃ H, H = wr.heap.size := ⟨_, rfl⟩
      rw [← hH] at hd0 hWz ⊢
      obtain ⟨d0, d1, d2, d3, d4, d5, d6⟩ := node_cells hd0
      have c0 : W.cell? ⟨G, 0, none⟩ = some (.slice (some ⟨vg, 0, none⟩) (N + j) vcap) := by rw [cell_of_heap hgW]; rfl
      have hownW := owns_below HOWN.out hWb
      have HW := Lib.hid (And.intro hgW (And.intro hd0 (And.intro hownW (And.intro hWb (And.intro hGlt hH)))))
      have hGW : G < W.heap.size := by omega
      have hHW : H < W.heap.size := by omega
      have hBW : w.heap.size ≤ W.heap.size := by have := HBG.out.2; omega
      clear hW hd0 hgW hownW hWb hH hGlt a0 a1 a2 a3 a4 a5 a6
      go_region_law
        (first
          | (go_simp; go_at_call 36; refine (km _).mono ?_; rintro e w5 ⟨rfl, hb5⟩
             have hb5' : Below W.heap.size W w5 := by first | exact hb5 | exact (Below.refl _ W).drew.trans hb5
             have g5 := (hb5'.block G hGW).trans HW.out.1
             have own5 := owns_below HW.out.2.2.1 hb5'
             have hz5 := hb5'.size
             have e0 : w5.cell? ⟨G, 0, none⟩ = some (.slice (some ⟨vg, 0, none⟩) (N + j) vcap) := by rw [cell_of_heap g5]; rfl
             have ca5 : (w5.alloc (.cells #[.int .i64 k, .int .u64 (p.toNat : Int), .int .u64 (q.toNat : Int), .int .u64 (r.toNat : Int), .int .u64 (s.toNat : Int), .int .i64 x', .int .i64 y'] 46)).cell? ⟨G, 0, none⟩ = some (.slice (some ⟨vg, 0, none⟩) (N + j) vcap) := (World.cell?_alloc_some w5 _ _ (by rw [e0]; rfl)).trans e0
             have H5 := Lib.hid (And.intro hb5' (And.intro g5 own5))
             clear hb5 hb5' g5 own5)
          | (refine step_append_own rfl (.tmp 43) (.tmp 48) 49 rfl w.heap.size 46 i0 _ 7 56 Try.underlying49 hi hz0 hz1 hz2 rfl (by decide) _ (N + j) (ndC zs) (by simp [Act.eval]) (H5.out.2.2.alloc _) ⟨w5.heap.size, 0, none⟩ 1 1 [.int .i64 k, .int .u64 (p.toNat : Int), .int .u64 (q.toNat : Int), .int .u64 (r.toNat : Int), .int .u64 (s.toNat : Int), .int .i64 x', .int .i64 y'] (by simp [Act.eval]) rfl (cells_seven _ _ _ _ _ _ _ _ _) (by simp [Value.oneCell']) (by unfold maxLen; omega) (by omega) (by simp; omega) ?_; intro v2 w6 hown6 hgrow6
             have hp6 : w6.heap[G]? = some (.cells #[.slice (some ⟨vg, 0, none⟩) (N + j) vcap] 49 (0, 0)) := (hgrow6.block G (by simp; omega) (fun e => HVO.out e.symm)).trans ((Below.heap_alloc _ _ _ (by omega)).trans H5.out.2.1)
             have cp6 : w6.cell? ⟨G, 0, none⟩ = some (.slice (some ⟨vg, 0, none⟩) (N + j) vcap) := by rw [cell_of_heap hp6]; rfl
             have fp6 : w6.frozen? ⟨G, 0, none⟩ = false := frozen_of_heap hp6 0
             have hb6 : Below w.heap.size w w6 := (((HB.out.trans (HW.out.2.2.2.1.mono HBG.out.2)).trans (H5.out.1.mono hBW)).alloc (by omega) _).grown hgrow6 (by simp; omega) (fun r hr => own_base HOWN.out hr)
             obtain ⟨g6, cap6, rfl⟩ := owned_slice hown6 (by omega)))
      all_goals
        go_wp2
        go_roundg (M - j)
        case rel =>
          have hbb := hb6.setCell (p := ⟨G, 0, none⟩) HBG.out.1 (.slice (some ⟨g6, 0, none⟩) (N + j + 1) cap6)
          refine ⟨j + 1, zs ++ [movedN N ⟨k, ⟨p, q, r, s⟩, x, y⟩], by go_num, by omega, by show _ = _; omega, ?_, (by show _ = _; rw [HE.out, List.append_assoc, ← take_map_snoc _ _ _ _ HM.out.1]), hbb⟩
          refine ⟨HBG.out.1, hbb.size, by rw [List.length_append, hzl]; show N + j + 1 ≤ 2000; omega, hT, ?_⟩
          rw [HM.out.2, ndC_append, List.length_append, hzl]
          exact tree_put (more := []) hT hp6 hown6
        case measure => have := HK.out; omega
    · have hd : decide ((j : Int) < (M : Int)) = false := by simp; omega
      have hjM : j = M := by omega
      subst hjM
      have kp := fun w' (h : Own w.heap.size G 49 [] zs w') => pair_ok w.heap.size G 49 [] zs j0 ((N : Int) - 1) w' h (by omega)
      go_wp2_with (first
        | (go_at_call 34; refine (kp _ HO.out).mono ?_; rintro e w7 ⟨rfl, ho7, hb7⟩; obtain ⟨v7, f7, hrow7⟩ := ho7.first; have H7 := Lib.hid (And.intro hrow7 hb7); clear ho7 hrow7 hb7)
        | fail)
      refine bodyPost_ret (results_tmp2 rfl _ _ _) rfl ⟨⟨v7, rfl, ?_⟩, HB.out.trans H7.out.2⟩
      have ez : xs ++ ys.map (movedN N) = zs := by rw [HE.out, List.take_of_length_le (by rw [← HN.out.2.1]; omega)]
      have h7 := H7.out.1
      rw [hzl] at h7
      rw [ez]
      have e9 : ((N + j : Nat) : Int) - 1 = (N : Int) + j - 1 := by omega
      rwa [e9] at h7
/-- Package regex's Join of two trees. -/
theorem join_trees (j : Nat) (hj : j = 2 ∨ j = 3) (u v : Value) (S T : Tr) (w : World) (hS : S.ok) (hT : T.ok) (hn : S.size + T.size < 2000) (hL : Lies u (S.row 0) w) (hL2 : Lies v (T.row 0) w) :
    Calls Try.prog 17 #[u, v, .int .i64 (j : Int)] w fun e w' => (∃ r, e = .returned (.tuple #[r, .int .i64 0]) ∧ Lies r ((Tr.two j S T).row 0) w') ∧ Below w.heap.size w w' := by
  have hp := S.size_pos
  have hp2 := T.size_pos
  have hs := S.row_length 0
  have ht := T.row_length 0
  have H1 := hL
  have H2 := hL2
  obtain ⟨ao, cap, rfl, _⟩ := hL
  obtain ⟨bo, cap2, rfl, _⟩ := hL2
  obtain ⟨b, o, rfl, _⟩ := H1.at (j := 0) (List.getElem?_eq_getElem (by omega))
  obtain ⟨b2, o2, rfl, _⟩ := H2.at (j := 0) (List.getElem?_eq_getElem (by omega))
  have r1 : ∀ w, Lies (.slice (some ⟨b, o, none⟩) (S.row 0).length cap) (S.row 0) w → Calls Try.prog 16 #[.slice (some ⟨b, o, none⟩) (S.row 0).length cap] w fun e w' => e = .returned (.bool true) ∧ Below w.heap.size w w' := fun w h => by
    have := right_any _ _ w h
    rwa [right_row S hS (by omega)] at this
  have r2 : ∀ w, Lies (.slice (some ⟨b2, o2, none⟩) (T.row 0).length cap2) (T.row 0) w → Calls Try.prog 16 #[.slice (some ⟨b2, o2, none⟩) (T.row 0).length cap2] w fun e w' => e = .returned (.bool true) ∧ Below w.heap.size w w' := fun w h => by
    have := right_any _ _ w h
    rwa [right_row T hT (by omega)] at this
  have key : Calls Try.prog 17 #[.slice (some ⟨b, o, none⟩) (S.row 0).length cap, .slice (some ⟨b2, o2, none⟩) (T.row 0).length cap2, .int .i64 (j : Int)] w fun e w' =>
      (∃ v, e = .returned (.tuple #[v, .int .i64 0]) ∧ IsRow w.heap.size (((S.row 0) ++ (T.row 0).map (movedN (S.row 0).length)) ++ [⟨(j : Int), k0, ((S.row 0).length : Int) - 1, ((S.row 0).length : Int) + (T.row 0).length - 1⟩]) v w') ∧ Below w.heap.size w w' := by
    rcases hj with rfl | rfl
    · exact join2_walk _ rfl _ _ cap cap2 b o b2 o2 (S.row 0) (T.row 0) w rfl rfl (by omega) (by omega) H1 H2 (row_small T 0 (by omega)) (row_kids T hT 0) r1 r2
    · exact join3_walk _ rfl rfl _ _ cap cap2 b o b2 o2 (S.row 0) (T.row 0) w rfl rfl (by omega) (by omega) H1 H2 (row_small T 0 (by omega)) (row_kids T hT 0) r1 r2
  refine key.mono ?_
  rintro e w' ⟨⟨r, rfl, hr⟩, hb⟩
  refine ⟨⟨r, rfl, ?_⟩, hb⟩
  rw [hs, ht] at hr
  rw [two_row j S T hT]
  exact hr.lies (by rw [List.length_append, List.length_append, List.length_map, hs, ht]; simp; omega)
end Go.Proofs.Ytgokkdalfkinnaa
