/- The document's own reading of a class: one that is not turned over. No condition. (Written by gen_refread.py.) -/
import Derived.Test.YtojjjkicgbdknaaClsRefBase
namespace Go.Proofs.Ytojjjkicgbdknaa
open Go.RowKit Go.Lib

set_option maxHeartbeats 16000000 in
set_option maxRecDepth 100000 in
theorem refRead_walk_f (s : ByteArray) (nb : Bool) (E : Ending) (D : Option (Cl × Nat)) (i0 : Nat) (w : World) (hs : s.size ≤ 70000000000000) (hs0 : 0 < s.size) (hs1 : 1 < s.size) (x0 : ((s[0].toNat : Int) != 91) = false) (x1 : ((s[1].toNat : Int) == 94) = nb)
    (hi0 : i0 = if nb = true then 2 else 1) (hD : D = listedD (s.data.toList.drop i0) zeroK i0) (hbad : D = none → E = readE none) (hok : ∀ K n, D = some (K, n) → E = .returned (.tuple #[clsV (if nb = true then notK (orK K (oneK 10)) else K), .int .i64 (n : Int), .int .i64 0])) (hnb : nb = false) :
    Calls Try.prog 11 #[.string s] w fun e w' => e = E ∧ Below w.heap.size w w' := by
  have hlen : s.data.toList.length = s.size := by rw [Array.length_toList]; rfl
  have HBAD := Lib.hid hbad
  have hb0 := boxes_zero w (clsA fun _ => 0#64) (clsA zeroK) 30
  have HB0 := Lib.hid hb0
  have HD0 := Lib.hid hD
  have hn2 : ¬ s.size < 2 := by omega
  clear hbad hb0 hD
  subst hnb
  all_goals
    first | (rw [if_pos rfl] at hi0) | (rw [if_neg (by decide)] at hi0)
    subst hi0
    have HOK := Lib.hid hok
    clear hok
    go_enter Try.func11, Try.ntmps11
    go_wp2
    go_loopg [5, 8] (s.size + 1) (fun n i f wr => ∃ (j : Nat) (b : Bool) (K : Cl), i = .int .i64 (j : Int) ∧ f = .bool b ∧ Hid (j ≤ s.size ∧ s.size + 1 ≤ n + j) ∧ Hid (RI w K wr) ∧ Hid (b = true → D = listedD (s.data.toList.drop j) K j) ∧ Hid (b = false → j < s.size ∧ (s.data.toList[j]? = some 93 → D = some (K, j + 1)) ∧ (s.data.toList[j]? ≠ some 93 → D = listedD (s.data.toList.drop j) K j)))
    case atStart => first | exact ⟨1, true, zeroK, rfl, rfl, (by show 1 ≤ s.size ∧ s.size + 1 ≤ s.size + 1 + 1; omega), ⟨⟨_, HB0.out.1⟩, HB0.out.2.1, HB0.out.2.2⟩, fun _ => HD0.out, fun h => by cases h⟩ | exact ⟨2, true, zeroK, rfl, rfl, (by show 2 ≤ s.size ∧ s.size + 1 ≤ s.size + 1 + 2; omega), ⟨⟨_, HB0.out.1⟩, HB0.out.2.1, HB0.out.2.2⟩, fun _ => HD0.out, fun h => by cases h⟩
    case round =>
      clear HB0 HD0 x0 x1
      obtain ⟨j, b, K, rfl, rfl, HJ, HI, HT, HF⟩ := hrel
      obtain ⟨R, hR⟩ := HI.out.res
      obtain ⟨⟨r0, r1, r2, r3⟩, f0, f1, f2, f3⟩ := cells_cls hR
      obtain ⟨⟨c0, c1, c2, c3⟩, e0, e1, e2, e3⟩ := cells_cls HI.out.mine
      clear hR
      cases b with
      | true =>
        have HD := Lib.hid (HT.out rfl)
        clear HT HF
        obtain ⟨t1, ht1⟩ : ∃ t, s.extract j s.size = t := ⟨_, rfl⟩
        have k1 := fun Z => refSign_any (s.extract j s.size) Z
        rw [extract_to_end, ht1] at k1
        have hjs : j ≤ s.size := HJ.out.1
        cases hs1 : signD (s.data.toList.drop j) with
        | none =>
          rw [hs1] at k1
          have HN := Lib.hid (HD.out.trans (listed_none (by unfold itemD; rw [hs1])))
          replace k1 : ∀ Z, Calls Try.prog 9 #[.string t1] Z fun e w' => e = .returned (.tuple #[.int .u8 0, .int .i64 0, .int .i64 2]) ∧ Below Z.heap.size Z w' := k1
          clear hs1
          go_wp2_with (go_at_call 9; with_reducible refine (k1 _).mono ?_; clear k1 r0 r1 r2 r3 f0 f1 f2 f3 c0 c1 c2 c3 e0 e1 e2 e3; rintro en w1 ⟨rfl, hb1⟩; replace HI := Lib.hid (HI.out.later hb1); clear hb1; obtain ⟨R, hR⟩ := HI.out.res; obtain ⟨⟨r0, r1, r2, r3⟩, f0, f1, f2, f3⟩ := cells_cls hR; obtain ⟨⟨c0, c1, c2, c3⟩, e0, e1, e2, e3⟩ := cells_cls HI.out.mine; clear hR)
          obtain ⟨R, hR⟩ := HI.out.res
          exact bodyPost_ret (v := .tuple #[clsV zeroK, .int .i64 0, .int .i64 2]) (results_row_tmp2 (p := 2) (u := 3) (v := 4) (ty := 30) Try.results11 _ _ w.heap.size _ rfl (load_cls2 (set_four _ _ _ _ hR) rfl)) rfl ⟨by rw [HBAD.out HN.out]; rfl, below_four HI.out.low (Nat.le_refl _) _ _ _ _⟩
        | some r =>
          obtain ⟨x, n⟩ := r
          rw [hs1] at k1
          replace k1 : ∀ Z, Calls Try.prog 9 #[.string t1] Z fun e w' => e = .returned (.tuple #[.int .u8 x, .int .i64 n, .int .i64 0]) ∧ Below Z.heap.size Z w' := k1
          obtain ⟨u1, u2, u3, u4⟩ := signD_used hs1
          have hlj : (s.data.toList.drop j).length = s.size - j := by rw [List.length_drop, hlen]
          rw [hlj] at u2
          clear hlj
          obtain ⟨m, hm⟩ : ∃ m : Nat, n.toNat = m := ⟨_, rfl⟩
          obtain ⟨p1, hp1⟩ : ∃ p : Nat, p = j + m := ⟨_, rfl⟩
          have hw1 : IntKind.i64.wrap ((j : Int) + n) = (p1 : Int) := by rw [IntKind.wrap_i64]; omega
          have hdrop : (s.data.toList.drop j |>.drop n.toNat).head? = s.data.toList[p1]? := by rw [List.drop_drop, head_drop, hm, hp1]
          have hp1s : p1 ≤ s.size := by omega
          by_cases hlt1 : p1 < s.size
          · have hat1 : s.data.toList[p1]? = some s[p1] := List.getElem?_eq_getElem (by rw [hlen]; exact hlt1)
            have hng1 : ¬ s.size ≤ p1 := by omega
            by_cases h45 : s[p1] = 45
            · have x45 : ((s[p1].toNat : Int) == 45) = true := by rw [h45]; rfl
              obtain ⟨p2, hp2⟩ : ∃ p : Nat, p = p1 + 1 := ⟨_, rfl⟩
              have hw2 : IntKind.i64.wrap ((p1 : Int) + 1) = (p2 : Int) := by rw [IntKind.wrap_i64]; omega
              have hp2s : p2 ≤ s.size := by omega
              obtain ⟨t2, ht2⟩ : ∃ t, s.extract p2 s.size = t := ⟨_, rfl⟩
              have k2 := fun Z => refSign_any (s.extract p2 s.size) Z
              rw [extract_to_end, ht2] at k2
              have hdr2 : (s.data.toList.drop j).drop (n.toNat + 1) = s.data.toList.drop p2 := by rw [List.drop_drop]; congr 1; omega
              cases hs2 : signD (s.data.toList.drop p2) with
              | none =>
                rw [hs2] at k2
                replace k2 : ∀ Z, Calls Try.prog 9 #[.string t2] Z fun e w' => e = .returned (.tuple #[.int .u8 0, .int .i64 0, .int .i64 2]) ∧ Below Z.heap.size Z w' := k2
                have HN := Lib.hid (HD.out.trans (listed_none (by unfold itemD; rw [hs1]; dsimp only; rw [if_pos (hdrop.trans (hat1.trans (by rw [h45]))), hdr2, hs2])))
                clear hs1 hs2 hdr2 hdrop hat1 h45 hp1 hp2
                go_wp2_with (first | (go_at_call 9; with_reducible refine (k1 _).mono ?_; clear k1 r0 r1 r2 r3 f0 f1 f2 f3 c0 c1 c2 c3 e0 e1 e2 e3; rintro en w1 ⟨rfl, hb1⟩; replace HI := Lib.hid (HI.out.later hb1); clear hb1; obtain ⟨R, hR⟩ := HI.out.res; obtain ⟨⟨r0, r1, r2, r3⟩, f0, f1, f2, f3⟩ := cells_cls hR; obtain ⟨⟨c0, c1, c2, c3⟩, e0, e1, e2, e3⟩ := cells_cls HI.out.mine; clear hR) | (go_at_call 9; with_reducible refine (k2 _).mono ?_; clear k2 r0 r1 r2 r3 f0 f1 f2 f3 c0 c1 c2 c3 e0 e1 e2 e3; rintro en w1 ⟨rfl, hb1⟩; replace HI := Lib.hid (HI.out.later hb1); clear hb1; obtain ⟨R, hR⟩ := HI.out.res; obtain ⟨⟨r0, r1, r2, r3⟩, f0, f1, f2, f3⟩ := cells_cls hR; obtain ⟨⟨c0, c1, c2, c3⟩, e0, e1, e2, e3⟩ := cells_cls HI.out.mine; clear hR))
                obtain ⟨R, hR⟩ := HI.out.res
                exact bodyPost_ret (v := .tuple #[clsV zeroK, .int .i64 0, .int .i64 2]) (results_row_tmp2 (p := 2) (u := 3) (v := 4) (ty := 30) Try.results11 _ _ w.heap.size _ rfl (load_cls2 (set_four _ _ _ _ hR) rfl)) rfl ⟨by rw [HBAD.out HN.out]; rfl, below_four HI.out.low (Nat.le_refl _) _ _ _ _⟩
              | some r2 =>
                obtain ⟨y, n2⟩ := r2
                rw [hs2] at k2
                replace k2 : ∀ Z, Calls Try.prog 9 #[.string t2] Z fun e w' => e = .returned (.tuple #[.int .u8 y, .int .i64 n2, .int .i64 0]) ∧ Below Z.heap.size Z w' := k2
                obtain ⟨v1, v2, v3, v4⟩ := signD_used hs2
                have hlj : (s.data.toList.drop p2).length = s.size - p2 := by rw [List.length_drop, hlen]
                rw [hlj] at v2
                clear hlj
                by_cases hyx : y < x
                · have HN := Lib.hid (HD.out.trans (listed_none (by unfold itemD; rw [hs1]; dsimp only; rw [if_pos (hdrop.trans (hat1.trans (by rw [h45]))), hdr2, hs2]; dsimp only; rw [if_pos hyx])))
                  clear hs1 hs2 hdr2 hdrop hat1 h45 hp1 hp2
                  go_wp2_with (first | (go_at_call 9; with_reducible refine (k1 _).mono ?_; clear k1 r0 r1 r2 r3 f0 f1 f2 f3 c0 c1 c2 c3 e0 e1 e2 e3; rintro en w1 ⟨rfl, hb1⟩; replace HI := Lib.hid (HI.out.later hb1); clear hb1; obtain ⟨R, hR⟩ := HI.out.res; obtain ⟨⟨r0, r1, r2, r3⟩, f0, f1, f2, f3⟩ := cells_cls hR; obtain ⟨⟨c0, c1, c2, c3⟩, e0, e1, e2, e3⟩ := cells_cls HI.out.mine; clear hR) | (go_at_call 9; with_reducible refine (k2 _).mono ?_; clear k2 r0 r1 r2 r3 f0 f1 f2 f3 c0 c1 c2 c3 e0 e1 e2 e3; rintro en w1 ⟨rfl, hb1⟩; replace HI := Lib.hid (HI.out.later hb1); clear hb1; obtain ⟨R, hR⟩ := HI.out.res; obtain ⟨⟨r0, r1, r2, r3⟩, f0, f1, f2, f3⟩ := cells_cls hR; obtain ⟨⟨c0, c1, c2, c3⟩, e0, e1, e2, e3⟩ := cells_cls HI.out.mine; clear hR))
                  obtain ⟨R, hR⟩ := HI.out.res
                  exact bodyPost_ret (v := .tuple #[clsV zeroK, .int .i64 0, .int .i64 2]) (results_row_tmp2 (p := 2) (u := 3) (v := 4) (ty := 30) Try.results11 _ _ w.heap.size _ rfl (load_cls2 (set_four _ _ _ _ hR) rfl)) rfl ⟨by rw [HBAD.out HN.out]; rfl, below_four HI.out.low (Nat.le_refl _) _ _ _ _⟩
                · have hxy : ¬ y < x := hyx
                  obtain ⟨m2, hm2⟩ : ∃ m : Nat, n2.toNat = m := ⟨_, rfl⟩
                  obtain ⟨p3, hp3⟩ : ∃ p : Nat, p = p2 + m2 := ⟨_, rfl⟩
                  have hw3 : IntKind.i64.wrap ((p2 : Int) + n2) = (p3 : Int) := by rw [IntKind.wrap_i64]; omega
                  have hi : itemD (s.data.toList.drop j) = some (x, y, m + 1 + m2) := by unfold itemD; rw [hs1]; dsimp only; rw [if_pos (hdrop.trans (hat1.trans (by rw [h45]))), hdr2, hs2]; dsimp only; rw [if_neg hyx, hm, hm2]
                  have HP : Hid (p3 ≤ s.size ∧ j + 1 ≤ p3) := ⟨by omega, by omega⟩
                  obtain ⟨K2, hK2⟩ : ∃ K2, K2 = orK K (spanK x.toNat y.toNat) := ⟨_, rfl⟩
                  have k5 : ∀ Z, Calls Try.prog 28 #[.int .u8 x, .int .u8 y] Z fun e w' => e = .returned (.agg #[.int .u64 (((spanK x.toNat y.toNat) 0).toNat : Int), .int .u64 (((spanK x.toNat y.toNat) 1).toNat : Int), .int .u64 (((spanK x.toNat y.toNat) 2).toNat : Int), .int .u64 (((spanK x.toNat y.toNat) 3).toNat : Int)]) ∧ Below Z.heap.size Z w' := fun Z => refSpan_any x y Z u3 u4 v3 v4
                  have k6 : ∀ Z, Calls Try.prog 27 #[.agg #[.int .u64 ((K 0).toNat : Int), .int .u64 ((K 1).toNat : Int), .int .u64 ((K 2).toNat : Int), .int .u64 ((K 3).toNat : Int)], .agg #[.int .u64 (((spanK x.toNat y.toNat) 0).toNat : Int), .int .u64 (((spanK x.toNat y.toNat) 1).toNat : Int), .int .u64 (((spanK x.toNat y.toNat) 2).toNat : Int), .int .u64 (((spanK x.toNat y.toNat) 3).toNat : Int)]] Z fun e w' => e = .returned (.agg #[.int .u64 ((K2 0).toNat : Int), .int .u64 ((K2 1).toNat : Int), .int .u64 ((K2 2).toNat : Int), .int .u64 ((K2 3).toNat : Int)]) ∧ Below Z.heap.size Z w' := fun Z => by rw [hK2]; exact refOr_any K (spanK x.toNat y.toNat) Z
                  have hdr : (s.data.toList.drop j |>.drop (m + 1 + m2)).head? = s.data.toList[p3]? := by rw [List.drop_drop, head_drop]; try (first | rfl | (congr 1; omega))
                  have HNX : Hid ((s.data.toList[p3]? = some 93 → D = some (K2, p3 + 1)) ∧ (s.data.toList[p3]? ≠ some 93 → D = listedD (s.data.toList.drop p3) K2 (p3))) := ⟨fun h => by rw [HD.out, listed_end hi (hdr.trans h), hK2]; try (first | rfl | (congr 2; omega)), fun h => by rw [HD.out, listed_more hi (fun h2 => h (hdr.symm.trans h2)), hK2, List.drop_drop]; try (first | rfl | (congr 1 <;> first | omega | (congr 1; omega)))⟩
                  clear hdr hi
                  generalize spanK x.toNat y.toNat = SP at k5 k6
                  clear hs1 hs2 hdr2 hdrop hat1 h45 hp1 hp2 hp3 hK2 hm hm2
                  go_upto_region 20 with (first | (go_at_call 9; with_reducible refine (k1 _).mono ?_; clear k1 r0 r1 r2 r3 f0 f1 f2 f3 c0 c1 c2 c3 e0 e1 e2 e3; rintro en w1 ⟨rfl, hb1⟩; replace HI := Lib.hid (HI.out.later hb1); clear hb1; obtain ⟨R, hR⟩ := HI.out.res; obtain ⟨⟨r0, r1, r2, r3⟩, f0, f1, f2, f3⟩ := cells_cls hR; obtain ⟨⟨c0, c1, c2, c3⟩, e0, e1, e2, e3⟩ := cells_cls HI.out.mine; clear hR) | (go_at_call 9; with_reducible refine (k2 _).mono ?_; clear k2 r0 r1 r2 r3 f0 f1 f2 f3 c0 c1 c2 c3 e0 e1 e2 e3; rintro en w1 ⟨rfl, hb1⟩; replace HI := Lib.hid (HI.out.later hb1); clear hb1; obtain ⟨R, hR⟩ := HI.out.res; obtain ⟨⟨r0, r1, r2, r3⟩, f0, f1, f2, f3⟩ := cells_cls hR; obtain ⟨⟨c0, c1, c2, c3⟩, e0, e1, e2, e3⟩ := cells_cls HI.out.mine; clear hR))
                  replace HI := Lib.hid (HI.out.later (Below.refl _ _).drew)
                  clear r0 r1 r2 r3 f0 f1 f2 f3 c0 c1 c2 c3 e0 e1 e2 e3
                  obtain ⟨R, hR⟩ := HI.out.res
                  obtain ⟨⟨r0, r1, r2, r3⟩, f0, f1, f2, f3⟩ := cells_cls hR
                  obtain ⟨⟨c0, c1, c2, c3⟩, e0, e1, e2, e3⟩ := cells_cls HI.out.mine
                  clear hR
                  go_region_with (first | (go_at_call 28; with_reducible refine (k5 _).mono ?_; clear r0 r1 r2 r3 f0 f1 f2 f3 c0 c1 c2 c3 e0 e1 e2 e3; rintro en w1 ⟨rfl, hb1⟩; replace HI := Lib.hid (HI.out.later hb1); clear hb1; obtain ⟨R, hR⟩ := HI.out.res; obtain ⟨⟨r0, r1, r2, r3⟩, f0, f1, f2, f3⟩ := cells_cls hR; obtain ⟨⟨c0, c1, c2, c3⟩, e0, e1, e2, e3⟩ := cells_cls HI.out.mine; clear hR) | (go_at_call 27; with_reducible refine (k6 _).mono ?_; clear r0 r1 r2 r3 f0 f1 f2 f3 c0 c1 c2 c3 e0 e1 e2 e3; rintro en w1 ⟨rfl, hb1⟩; replace HI := Lib.hid (HI.out.later hb1); clear hb1; obtain ⟨R, hR⟩ := HI.out.res; obtain ⟨⟨r0, r1, r2, r3⟩, f0, f1, f2, f3⟩ := cells_cls hR; obtain ⟨⟨c0, c1, c2, c3⟩, e0, e1, e2, e3⟩ := cells_cls HI.out.mine; clear hR))
                  all_goals
                    replace HI := Lib.hid (HI.out.store K2)
                    clear k5 k6 r0 r1 r2 r3 f0 f1 f2 f3 c0 c1 c2 c3 e0 e1 e2 e3
                    obtain ⟨R, hR⟩ := HI.out.res
                    obtain ⟨⟨r0, r1, r2, r3⟩, f0, f1, f2, f3⟩ := cells_cls hR
                    obtain ⟨⟨c0, c1, c2, c3⟩, e0, e1, e2, e3⟩ := cells_cls HI.out.mine
                    clear hR
                    by_cases hend : p3 < s.size
                    · have hnend : ¬ s.size ≤ p3 := by omega
                      go_wp2
                      go_roundg (gk - 1)
                      case measure => have h1 := HJ.out; omega
                      case rel => exact ⟨p3, false, K2, rfl, rfl, (by have h1 := HJ.out; have h2 := HP.out; show _ ∧ _; omega), HI, (fun h => by cases h), fun _ => ⟨hend, (fun h => HNX.out.1 h), fun h => HNX.out.2 h⟩⟩
                    · have hyend : s.size ≤ p3 := by omega
                      have HN := Lib.hid (HNX.out.2 (by rw [List.getElem?_eq_none (by rw [hlen]; omega)]; simp) |>.trans (listed_none (item_end (by rw [hlen]; omega))))
                      go_wp2
                      obtain ⟨R, hR⟩ := HI.out.res
                      exact bodyPost_ret (v := .tuple #[clsV zeroK, .int .i64 0, .int .i64 2]) (results_row_tmp2 (p := 2) (u := 3) (v := 4) (ty := 30) Try.results11 _ _ w.heap.size _ rfl (load_cls2 (set_four _ _ _ _ hR) rfl)) rfl ⟨by rw [HBAD.out HN.out]; rfl, below_four HI.out.low (Nat.le_refl _) _ _ _ _⟩
            · have x45 : ((s[p1].toNat : Int) == 45) = false := by rw [beq_eq_false_iff_ne]; intro h; exact h45 (UInt8.toNat_inj.1 (by show s[p1].toNat = 45; omega))
              have hno : ¬ s.data.toList[p1]? = some 45 := by rw [hat1]; intro h; exact h45 (Option.some.inj h)
              have HP : Hid (p1 ≤ s.size ∧ j + 1 ≤ p1) := ⟨by omega, by omega⟩
              have hi : itemD (s.data.toList.drop j) = some (x, x, m) := by unfold itemD; rw [hs1]; dsimp only; rw [if_neg (fun h => hno (hdrop.symm.trans h)), hm]
              obtain ⟨K2, hK2⟩ : ∃ K2, K2 = orK K (spanK x.toNat x.toNat) := ⟨_, rfl⟩
              have k3 : ∀ Z, Calls Try.prog 29 #[.agg #[.int .u64 ((K 0).toNat : Int), .int .u64 ((K 1).toNat : Int), .int .u64 ((K 2).toNat : Int), .int .u64 ((K 3).toNat : Int)], .int .u8 x] Z fun e w' => e = .returned (.agg #[.int .u64 ((K2 0).toNat : Int), .int .u64 ((K2 1).toNat : Int), .int .u64 ((K2 2).toNat : Int), .int .u64 ((K2 3).toNat : Int)]) ∧ Below Z.heap.size Z w' := fun Z => (with_any K x Z u3 u4).mono fun e w' h => ⟨h.1.trans (by rw [with_span, ← hK2]; rfl), h.2⟩
              have hdr : (s.data.toList.drop j |>.drop (m)).head? = s.data.toList[p1]? := by rw [List.drop_drop, head_drop]; try (first | rfl | (congr 1; omega))
              have HNX : Hid ((s.data.toList[p1]? = some 93 → D = some (K2, p1 + 1)) ∧ (s.data.toList[p1]? ≠ some 93 → D = listedD (s.data.toList.drop p1) K2 (p1))) := ⟨fun h => by rw [HD.out, listed_end hi (hdr.trans h), hK2]; try (first | rfl | (congr 2; omega)), fun h => by rw [HD.out, listed_more hi (fun h2 => h (hdr.symm.trans h2)), hK2, List.drop_drop]; try (first | rfl | (congr 1 <;> first | omega | (congr 1; omega)))⟩
              clear hdr hi
              clear hs1 hdrop hno hK2 hp1
              go_upto_region 22 with (first | (go_at_call 9; with_reducible refine (k1 _).mono ?_; clear k1 r0 r1 r2 r3 f0 f1 f2 f3 c0 c1 c2 c3 e0 e1 e2 e3; rintro en w1 ⟨rfl, hb1⟩; replace HI := Lib.hid (HI.out.later hb1); clear hb1; obtain ⟨R, hR⟩ := HI.out.res; obtain ⟨⟨r0, r1, r2, r3⟩, f0, f1, f2, f3⟩ := cells_cls hR; obtain ⟨⟨c0, c1, c2, c3⟩, e0, e1, e2, e3⟩ := cells_cls HI.out.mine; clear hR) | (go_at_call 29; with_reducible refine (k3 _).mono ?_; clear k3 r0 r1 r2 r3 f0 f1 f2 f3 c0 c1 c2 c3 e0 e1 e2 e3; rintro en w1 ⟨rfl, hb1⟩; replace HI := Lib.hid (HI.out.later hb1); clear hb1; obtain ⟨R, hR⟩ := HI.out.res; obtain ⟨⟨r0, r1, r2, r3⟩, f0, f1, f2, f3⟩ := cells_cls hR; obtain ⟨⟨c0, c1, c2, c3⟩, e0, e1, e2, e3⟩ := cells_cls HI.out.mine; clear hR))
              replace HI := Lib.hid (HI.out.store K2)
              clear r0 r1 r2 r3 f0 f1 f2 f3 c0 c1 c2 c3 e0 e1 e2 e3
              obtain ⟨R, hR⟩ := HI.out.res
              obtain ⟨⟨r0, r1, r2, r3⟩, f0, f1, f2, f3⟩ := cells_cls hR
              obtain ⟨⟨c0, c1, c2, c3⟩, e0, e1, e2, e3⟩ := cells_cls HI.out.mine
              clear hR
              have hend := hlt1
              have hnend : ¬ s.size ≤ p1 := by omega
              go_wp2
              go_roundg (gk - 1)
              case measure => have h1 := HJ.out; omega
              case rel => exact ⟨p1, false, K2, rfl, rfl, (by have h1 := HJ.out; have h2 := HP.out; show _ ∧ _; omega), HI, (fun h => by cases h), fun _ => ⟨hend, (fun h => HNX.out.1 h), fun h => HNX.out.2 h⟩⟩
          · have hno : ¬ s.data.toList[p1]? = some 45 := by rw [List.getElem?_eq_none (by rw [hlen]; omega)]; simp
            have hge1 : s.size ≤ p1 := by omega
            have HP : Hid (p1 ≤ s.size ∧ j + 1 ≤ p1) := ⟨by omega, by omega⟩
            have hi : itemD (s.data.toList.drop j) = some (x, x, m) := by unfold itemD; rw [hs1]; dsimp only; rw [if_neg (fun h => hno (hdrop.symm.trans h)), hm]
            obtain ⟨K2, hK2⟩ : ∃ K2, K2 = orK K (spanK x.toNat x.toNat) := ⟨_, rfl⟩
            have k3 : ∀ Z, Calls Try.prog 29 #[.agg #[.int .u64 ((K 0).toNat : Int), .int .u64 ((K 1).toNat : Int), .int .u64 ((K 2).toNat : Int), .int .u64 ((K 3).toNat : Int)], .int .u8 x] Z fun e w' => e = .returned (.agg #[.int .u64 ((K2 0).toNat : Int), .int .u64 ((K2 1).toNat : Int), .int .u64 ((K2 2).toNat : Int), .int .u64 ((K2 3).toNat : Int)]) ∧ Below Z.heap.size Z w' := fun Z => (with_any K x Z u3 u4).mono fun e w' h => ⟨h.1.trans (by rw [with_span, ← hK2]; rfl), h.2⟩
            have hdr : (s.data.toList.drop j |>.drop (m)).head? = s.data.toList[p1]? := by rw [List.drop_drop, head_drop]; try (first | rfl | (congr 1; omega))
            have HNX : Hid ((s.data.toList[p1]? = some 93 → D = some (K2, p1 + 1)) ∧ (s.data.toList[p1]? ≠ some 93 → D = listedD (s.data.toList.drop p1) K2 (p1))) := ⟨fun h => by rw [HD.out, listed_end hi (hdr.trans h), hK2]; try (first | rfl | (congr 2; omega)), fun h => by rw [HD.out, listed_more hi (fun h2 => h (hdr.symm.trans h2)), hK2, List.drop_drop]; try (first | rfl | (congr 1 <;> first | omega | (congr 1; omega)))⟩
            clear hdr hi
            clear hs1 hdrop hno hK2 hp1
            go_upto_region 22 with (first | (go_at_call 9; with_reducible refine (k1 _).mono ?_; clear k1 r0 r1 r2 r3 f0 f1 f2 f3 c0 c1 c2 c3 e0 e1 e2 e3; rintro en w1 ⟨rfl, hb1⟩; replace HI := Lib.hid (HI.out.later hb1); clear hb1; obtain ⟨R, hR⟩ := HI.out.res; obtain ⟨⟨r0, r1, r2, r3⟩, f0, f1, f2, f3⟩ := cells_cls hR; obtain ⟨⟨c0, c1, c2, c3⟩, e0, e1, e2, e3⟩ := cells_cls HI.out.mine; clear hR) | (go_at_call 29; with_reducible refine (k3 _).mono ?_; clear k3 r0 r1 r2 r3 f0 f1 f2 f3 c0 c1 c2 c3 e0 e1 e2 e3; rintro en w1 ⟨rfl, hb1⟩; replace HI := Lib.hid (HI.out.later hb1); clear hb1; obtain ⟨R, hR⟩ := HI.out.res; obtain ⟨⟨r0, r1, r2, r3⟩, f0, f1, f2, f3⟩ := cells_cls hR; obtain ⟨⟨c0, c1, c2, c3⟩, e0, e1, e2, e3⟩ := cells_cls HI.out.mine; clear hR))
            replace HI := Lib.hid (HI.out.store K2)
            clear r0 r1 r2 r3 f0 f1 f2 f3 c0 c1 c2 c3 e0 e1 e2 e3
            obtain ⟨R, hR⟩ := HI.out.res
            obtain ⟨⟨r0, r1, r2, r3⟩, f0, f1, f2, f3⟩ := cells_cls hR
            obtain ⟨⟨c0, c1, c2, c3⟩, e0, e1, e2, e3⟩ := cells_cls HI.out.mine
            clear hR
            have hyend : s.size ≤ p1 := by omega
            have HN := Lib.hid (HNX.out.2 (by rw [List.getElem?_eq_none (by rw [hlen]; omega)]; simp) |>.trans (listed_none (item_end (by rw [hlen]; omega))))
            go_wp2
            obtain ⟨R, hR⟩ := HI.out.res
            exact bodyPost_ret (v := .tuple #[clsV zeroK, .int .i64 0, .int .i64 2]) (results_row_tmp2 (p := 2) (u := 3) (v := 4) (ty := 30) Try.results11 _ _ w.heap.size _ rfl (load_cls2 (set_four _ _ _ _ hR) rfl)) rfl ⟨by rw [HBAD.out HN.out]; rfl, below_four HI.out.low (Nat.le_refl _) _ _ _ _⟩
      | false =>
        have hj := (HF.out rfl).1
        have hnj : ¬ s.size ≤ j := by omega
        have hatj : s.data.toList[j]? = some s[j] := List.getElem?_eq_getElem (by rw [hlen]; exact hj)
        by_cases h93 : s[j] = 93
        · have x93 : ((s[j].toNat : Int) != 93) = false := by rw [h93]; rfl
          have HO := Lib.hid ((HF.out rfl).2.1 (hatj.trans (by rw [h93])))
          have hw9 : IntKind.i64.wrap ((j : Int) + 1) = ((j + 1 : Nat) : Int) := by rw [IntKind.wrap_i64]; omega
          clear HT HF hatj h93
          have k7 : ∀ Z, Calls Try.prog 29 #[.agg #[.int .u64 ((K 0).toNat : Int), .int .u64 ((K 1).toNat : Int), .int .u64 ((K 2).toNat : Int), .int .u64 ((K 3).toNat : Int)], .int .u8 10] Z fun e w' => e = .returned (.agg #[.int .u64 (((orK K (oneK 10)) 0).toNat : Int), .int .u64 (((orK K (oneK 10)) 1).toNat : Int), .int .u64 (((orK K (oneK 10)) 2).toNat : Int), .int .u64 (((orK K (oneK 10)) 3).toNat : Int)]) ∧ Below Z.heap.size Z w' := fun Z => (with_any K 10 Z (by omega) (by omega)).mono fun e w' h => ⟨h.1.trans (by rw [with_one]; rfl), h.2⟩
          have k8 : ∀ Z, Calls Try.prog 30 #[.agg #[.int .u64 (((orK K (oneK 10)) 0).toNat : Int), .int .u64 (((orK K (oneK 10)) 1).toNat : Int), .int .u64 (((orK K (oneK 10)) 2).toNat : Int), .int .u64 (((orK K (oneK 10)) 3).toNat : Int)]] Z fun e w' => e = .returned (.agg #[.int .u64 (((notK (orK K (oneK 10))) 0).toNat : Int), .int .u64 (((notK (orK K (oneK 10))) 1).toNat : Int), .int .u64 (((notK (orK K (oneK 10))) 2).toNat : Int), .int .u64 (((notK (orK K (oneK 10))) 3).toNat : Int)]) ∧ Below Z.heap.size Z w' := fun Z => refNot_any (orK K (oneK 10)) Z
          have HE := Lib.hid (HOK.out K (j + 1) HO.out)
          clear HOK HO
          generalize hN : notK (orK K (oneK 10)) = N at k8 HE
          generalize orK K (oneK 10) = K2 at k7 k8
          clear hN
          go_wp2_with (first | (go_at_call 29; with_reducible refine (k7 _).mono ?_; clear k7 r0 r1 r2 r3 f0 f1 f2 f3 c0 c1 c2 c3 e0 e1 e2 e3; rintro en w1 ⟨rfl, hb1⟩; replace HI := Lib.hid (HI.out.later hb1); clear hb1; obtain ⟨R, hR⟩ := HI.out.res; obtain ⟨⟨r0, r1, r2, r3⟩, f0, f1, f2, f3⟩ := cells_cls hR; obtain ⟨⟨c0, c1, c2, c3⟩, e0, e1, e2, e3⟩ := cells_cls HI.out.mine; clear hR) | (go_at_call 30; with_reducible refine (k8 _).mono ?_; clear k8 r0 r1 r2 r3 f0 f1 f2 f3 c0 c1 c2 c3 e0 e1 e2 e3; rintro en w1 ⟨rfl, hb1⟩; replace HI := Lib.hid (HI.out.later hb1); clear hb1; obtain ⟨R, hR⟩ := HI.out.res; obtain ⟨⟨r0, r1, r2, r3⟩, f0, f1, f2, f3⟩ := cells_cls hR; obtain ⟨⟨c0, c1, c2, c3⟩, e0, e1, e2, e3⟩ := cells_cls HI.out.mine; clear hR))
          all_goals obtain ⟨R, hR⟩ := HI.out.res
          exact bodyPost_ret (v := .tuple #[clsV K, .int .i64 ((j : Int) + 1), .int .i64 0]) (results_row_tmp2 (p := 2) (u := 3) (v := 4) (ty := 30) Try.results11 _ _ w.heap.size _ rfl (load_cls2 (set_four _ _ _ _ hR) rfl)) rfl ⟨by rw [HE.out]; rfl, below_four HI.out.low (Nat.le_refl _) _ _ _ _⟩
        · have x93 : ((s[j].toNat : Int) != 93) = true := by
            rw [bne_iff_ne]
            intro h
            exact h93 (UInt8.toNat_inj.1 (by show s[j].toNat = 93; omega))
          have HD := Lib.hid ((HF.out rfl).2.2 (by rw [hatj]; intro h; exact h93 (Option.some.inj h)))
          clear HT HF hatj h93
          obtain ⟨t1, ht1⟩ : ∃ t, s.extract j s.size = t := ⟨_, rfl⟩
          have k1 := fun Z => refSign_any (s.extract j s.size) Z
          rw [extract_to_end, ht1] at k1
          have hjs : j ≤ s.size := HJ.out.1
          cases hs1 : signD (s.data.toList.drop j) with
          | none =>
            rw [hs1] at k1
            have HN := Lib.hid (HD.out.trans (listed_none (by unfold itemD; rw [hs1])))
            replace k1 : ∀ Z, Calls Try.prog 9 #[.string t1] Z fun e w' => e = .returned (.tuple #[.int .u8 0, .int .i64 0, .int .i64 2]) ∧ Below Z.heap.size Z w' := k1
            clear hs1
            go_wp2_with (go_at_call 9; with_reducible refine (k1 _).mono ?_; clear k1 r0 r1 r2 r3 f0 f1 f2 f3 c0 c1 c2 c3 e0 e1 e2 e3; rintro en w1 ⟨rfl, hb1⟩; replace HI := Lib.hid (HI.out.later hb1); clear hb1; obtain ⟨R, hR⟩ := HI.out.res; obtain ⟨⟨r0, r1, r2, r3⟩, f0, f1, f2, f3⟩ := cells_cls hR; obtain ⟨⟨c0, c1, c2, c3⟩, e0, e1, e2, e3⟩ := cells_cls HI.out.mine; clear hR)
            obtain ⟨R, hR⟩ := HI.out.res
            exact bodyPost_ret (v := .tuple #[clsV zeroK, .int .i64 0, .int .i64 2]) (results_row_tmp2 (p := 2) (u := 3) (v := 4) (ty := 30) Try.results11 _ _ w.heap.size _ rfl (load_cls2 (set_four _ _ _ _ hR) rfl)) rfl ⟨by rw [HBAD.out HN.out]; rfl, below_four HI.out.low (Nat.le_refl _) _ _ _ _⟩
          | some r =>
            obtain ⟨x, n⟩ := r
            rw [hs1] at k1
            replace k1 : ∀ Z, Calls Try.prog 9 #[.string t1] Z fun e w' => e = .returned (.tuple #[.int .u8 x, .int .i64 n, .int .i64 0]) ∧ Below Z.heap.size Z w' := k1
            obtain ⟨u1, u2, u3, u4⟩ := signD_used hs1
            have hlj : (s.data.toList.drop j).length = s.size - j := by rw [List.length_drop, hlen]
            rw [hlj] at u2
            clear hlj
            obtain ⟨m, hm⟩ : ∃ m : Nat, n.toNat = m := ⟨_, rfl⟩
            obtain ⟨p1, hp1⟩ : ∃ p : Nat, p = j + m := ⟨_, rfl⟩
            have hw1 : IntKind.i64.wrap ((j : Int) + n) = (p1 : Int) := by rw [IntKind.wrap_i64]; omega
            have hdrop : (s.data.toList.drop j |>.drop n.toNat).head? = s.data.toList[p1]? := by rw [List.drop_drop, head_drop, hm, hp1]
            have hp1s : p1 ≤ s.size := by omega
            by_cases hlt1 : p1 < s.size
            · have hat1 : s.data.toList[p1]? = some s[p1] := List.getElem?_eq_getElem (by rw [hlen]; exact hlt1)
              have hng1 : ¬ s.size ≤ p1 := by omega
              by_cases h45 : s[p1] = 45
              · have x45 : ((s[p1].toNat : Int) == 45) = true := by rw [h45]; rfl
                obtain ⟨p2, hp2⟩ : ∃ p : Nat, p = p1 + 1 := ⟨_, rfl⟩
                have hw2 : IntKind.i64.wrap ((p1 : Int) + 1) = (p2 : Int) := by rw [IntKind.wrap_i64]; omega
                have hp2s : p2 ≤ s.size := by omega
                obtain ⟨t2, ht2⟩ : ∃ t, s.extract p2 s.size = t := ⟨_, rfl⟩
                have k2 := fun Z => refSign_any (s.extract p2 s.size) Z
                rw [extract_to_end, ht2] at k2
                have hdr2 : (s.data.toList.drop j).drop (n.toNat + 1) = s.data.toList.drop p2 := by rw [List.drop_drop]; congr 1; omega
                cases hs2 : signD (s.data.toList.drop p2) with
                | none =>
                  rw [hs2] at k2
                  replace k2 : ∀ Z, Calls Try.prog 9 #[.string t2] Z fun e w' => e = .returned (.tuple #[.int .u8 0, .int .i64 0, .int .i64 2]) ∧ Below Z.heap.size Z w' := k2
                  have HN := Lib.hid (HD.out.trans (listed_none (by unfold itemD; rw [hs1]; dsimp only; rw [if_pos (hdrop.trans (hat1.trans (by rw [h45]))), hdr2, hs2])))
                  clear hs1 hs2 hdr2 hdrop hat1 h45 hp1 hp2
                  go_wp2_with (first | (go_at_call 9; with_reducible refine (k1 _).mono ?_; clear k1 r0 r1 r2 r3 f0 f1 f2 f3 c0 c1 c2 c3 e0 e1 e2 e3; rintro en w1 ⟨rfl, hb1⟩; replace HI := Lib.hid (HI.out.later hb1); clear hb1; obtain ⟨R, hR⟩ := HI.out.res; obtain ⟨⟨r0, r1, r2, r3⟩, f0, f1, f2, f3⟩ := cells_cls hR; obtain ⟨⟨c0, c1, c2, c3⟩, e0, e1, e2, e3⟩ := cells_cls HI.out.mine; clear hR) | (go_at_call 9; with_reducible refine (k2 _).mono ?_; clear k2 r0 r1 r2 r3 f0 f1 f2 f3 c0 c1 c2 c3 e0 e1 e2 e3; rintro en w1 ⟨rfl, hb1⟩; replace HI := Lib.hid (HI.out.later hb1); clear hb1; obtain ⟨R, hR⟩ := HI.out.res; obtain ⟨⟨r0, r1, r2, r3⟩, f0, f1, f2, f3⟩ := cells_cls hR; obtain ⟨⟨c0, c1, c2, c3⟩, e0, e1, e2, e3⟩ := cells_cls HI.out.mine; clear hR))
                  obtain ⟨R, hR⟩ := HI.out.res
                  exact bodyPost_ret (v := .tuple #[clsV zeroK, .int .i64 0, .int .i64 2]) (results_row_tmp2 (p := 2) (u := 3) (v := 4) (ty := 30) Try.results11 _ _ w.heap.size _ rfl (load_cls2 (set_four _ _ _ _ hR) rfl)) rfl ⟨by rw [HBAD.out HN.out]; rfl, below_four HI.out.low (Nat.le_refl _) _ _ _ _⟩
                | some r2 =>
                  obtain ⟨y, n2⟩ := r2
                  rw [hs2] at k2
                  replace k2 : ∀ Z, Calls Try.prog 9 #[.string t2] Z fun e w' => e = .returned (.tuple #[.int .u8 y, .int .i64 n2, .int .i64 0]) ∧ Below Z.heap.size Z w' := k2
                  obtain ⟨v1, v2, v3, v4⟩ := signD_used hs2
                  have hlj : (s.data.toList.drop p2).length = s.size - p2 := by rw [List.length_drop, hlen]
                  rw [hlj] at v2
                  clear hlj
                  by_cases hyx : y < x
                  · have HN := Lib.hid (HD.out.trans (listed_none (by unfold itemD; rw [hs1]; dsimp only; rw [if_pos (hdrop.trans (hat1.trans (by rw [h45]))), hdr2, hs2]; dsimp only; rw [if_pos hyx])))
                    clear hs1 hs2 hdr2 hdrop hat1 h45 hp1 hp2
                    go_wp2_with (first | (go_at_call 9; with_reducible refine (k1 _).mono ?_; clear k1 r0 r1 r2 r3 f0 f1 f2 f3 c0 c1 c2 c3 e0 e1 e2 e3; rintro en w1 ⟨rfl, hb1⟩; replace HI := Lib.hid (HI.out.later hb1); clear hb1; obtain ⟨R, hR⟩ := HI.out.res; obtain ⟨⟨r0, r1, r2, r3⟩, f0, f1, f2, f3⟩ := cells_cls hR; obtain ⟨⟨c0, c1, c2, c3⟩, e0, e1, e2, e3⟩ := cells_cls HI.out.mine; clear hR) | (go_at_call 9; with_reducible refine (k2 _).mono ?_; clear k2 r0 r1 r2 r3 f0 f1 f2 f3 c0 c1 c2 c3 e0 e1 e2 e3; rintro en w1 ⟨rfl, hb1⟩; replace HI := Lib.hid (HI.out.later hb1); clear hb1; obtain ⟨R, hR⟩ := HI.out.res; obtain ⟨⟨r0, r1, r2, r3⟩, f0, f1, f2, f3⟩ := cells_cls hR; obtain ⟨⟨c0, c1, c2, c3⟩, e0, e1, e2, e3⟩ := cells_cls HI.out.mine; clear hR))
                    obtain ⟨R, hR⟩ := HI.out.res
                    exact bodyPost_ret (v := .tuple #[clsV zeroK, .int .i64 0, .int .i64 2]) (results_row_tmp2 (p := 2) (u := 3) (v := 4) (ty := 30) Try.results11 _ _ w.heap.size _ rfl (load_cls2 (set_four _ _ _ _ hR) rfl)) rfl ⟨by rw [HBAD.out HN.out]; rfl, below_four HI.out.low (Nat.le_refl _) _ _ _ _⟩
                  · have hxy : ¬ y < x := hyx
                    obtain ⟨m2, hm2⟩ : ∃ m : Nat, n2.toNat = m := ⟨_, rfl⟩
                    obtain ⟨p3, hp3⟩ : ∃ p : Nat, p = p2 + m2 := ⟨_, rfl⟩
                    have hw3 : IntKind.i64.wrap ((p2 : Int) + n2) = (p3 : Int) := by rw [IntKind.wrap_i64]; omega
                    have hi : itemD (s.data.toList.drop j) = some (x, y, m + 1 + m2) := by unfold itemD; rw [hs1]; dsimp only; rw [if_pos (hdrop.trans (hat1.trans (by rw [h45]))), hdr2, hs2]; dsimp only; rw [if_neg hyx, hm, hm2]
                    have HP : Hid (p3 ≤ s.size ∧ j + 1 ≤ p3) := ⟨by omega, by omega⟩
                    obtain ⟨K2, hK2⟩ : ∃ K2, K2 = orK K (spanK x.toNat y.toNat) := ⟨_, rfl⟩
                    have k5 : ∀ Z, Calls Try.prog 28 #[.int .u8 x, .int .u8 y] Z fun e w' => e = .returned (.agg #[.int .u64 (((spanK x.toNat y.toNat) 0).toNat : Int), .int .u64 (((spanK x.toNat y.toNat) 1).toNat : Int), .int .u64 (((spanK x.toNat y.toNat) 2).toNat : Int), .int .u64 (((spanK x.toNat y.toNat) 3).toNat : Int)]) ∧ Below Z.heap.size Z w' := fun Z => refSpan_any x y Z u3 u4 v3 v4
                    have k6 : ∀ Z, Calls Try.prog 27 #[.agg #[.int .u64 ((K 0).toNat : Int), .int .u64 ((K 1).toNat : Int), .int .u64 ((K 2).toNat : Int), .int .u64 ((K 3).toNat : Int)], .agg #[.int .u64 (((spanK x.toNat y.toNat) 0).toNat : Int), .int .u64 (((spanK x.toNat y.toNat) 1).toNat : Int), .int .u64 (((spanK x.toNat y.toNat) 2).toNat : Int), .int .u64 (((spanK x.toNat y.toNat) 3).toNat : Int)]] Z fun e w' => e = .returned (.agg #[.int .u64 ((K2 0).toNat : Int), .int .u64 ((K2 1).toNat : Int), .int .u64 ((K2 2).toNat : Int), .int .u64 ((K2 3).toNat : Int)]) ∧ Below Z.heap.size Z w' := fun Z => by rw [hK2]; exact refOr_any K (spanK x.toNat y.toNat) Z
                    have hdr : (s.data.toList.drop j |>.drop (m + 1 + m2)).head? = s.data.toList[p3]? := by rw [List.drop_drop, head_drop]; try (first | rfl | (congr 1; omega))
                    have HNX : Hid ((s.data.toList[p3]? = some 93 → D = some (K2, p3 + 1)) ∧ (s.data.toList[p3]? ≠ some 93 → D = listedD (s.data.toList.drop p3) K2 (p3))) := ⟨fun h => by rw [HD.out, listed_end hi (hdr.trans h), hK2]; try (first | rfl | (congr 2; omega)), fun h => by rw [HD.out, listed_more hi (fun h2 => h (hdr.symm.trans h2)), hK2, List.drop_drop]; try (first | rfl | (congr 1 <;> first | omega | (congr 1; omega)))⟩
                    clear hdr hi
                    generalize spanK x.toNat y.toNat = SP at k5 k6
                    clear hs1 hs2 hdr2 hdrop hat1 h45 hp1 hp2 hp3 hK2 hm hm2
                    go_upto_region 20 with (first | (go_at_call 9; with_reducible refine (k1 _).mono ?_; clear k1 r0 r1 r2 r3 f0 f1 f2 f3 c0 c1 c2 c3 e0 e1 e2 e3; rintro en w1 ⟨rfl, hb1⟩; replace HI := Lib.hid (HI.out.later hb1); clear hb1; obtain ⟨R, hR⟩ := HI.out.res; obtain ⟨⟨r0, r1, r2, r3⟩, f0, f1, f2, f3⟩ := cells_cls hR; obtain ⟨⟨c0, c1, c2, c3⟩, e0, e1, e2, e3⟩ := cells_cls HI.out.mine; clear hR) | (go_at_call 9; with_reducible refine (k2 _).mono ?_; clear k2 r0 r1 r2 r3 f0 f1 f2 f3 c0 c1 c2 c3 e0 e1 e2 e3; rintro en w1 ⟨rfl, hb1⟩; replace HI := Lib.hid (HI.out.later hb1); clear hb1; obtain ⟨R, hR⟩ := HI.out.res; obtain ⟨⟨r0, r1, r2, r3⟩, f0, f1, f2, f3⟩ := cells_cls hR; obtain ⟨⟨c0, c1, c2, c3⟩, e0, e1, e2, e3⟩ := cells_cls HI.out.mine; clear hR))
                    replace HI := Lib.hid (HI.out.later (Below.refl _ _).drew)
                    clear r0 r1 r2 r3 f0 f1 f2 f3 c0 c1 c2 c3 e0 e1 e2 e3
                    obtain ⟨R, hR⟩ := HI.out.res
                    obtain ⟨⟨r0, r1, r2, r3⟩, f0, f1, f2, f3⟩ := cells_cls hR
                    obtain ⟨⟨c0, c1, c2, c3⟩, e0, e1, e2, e3⟩ := cells_cls HI.out.mine
                    clear hR
                    go_region_with (first | (go_at_call 28; with_reducible refine (k5 _).mono ?_; clear r0 r1 r2 r3 f0 f1 f2 f3 c0 c1 c2 c3 e0 e1 e2 e3; rintro en w1 ⟨rfl, hb1⟩; replace HI := Lib.hid (HI.out.later hb1); clear hb1; obtain ⟨R, hR⟩ := HI.out.res; obtain ⟨⟨r0, r1, r2, r3⟩, f0, f1, f2, f3⟩ := cells_cls hR; obtain ⟨⟨c0, c1, c2, c3⟩, e0, e1, e2, e3⟩ := cells_cls HI.out.mine; clear hR) | (go_at_call 27; with_reducible refine (k6 _).mono ?_; clear r0 r1 r2 r3 f0 f1 f2 f3 c0 c1 c2 c3 e0 e1 e2 e3; rintro en w1 ⟨rfl, hb1⟩; replace HI := Lib.hid (HI.out.later hb1); clear hb1; obtain ⟨R, hR⟩ := HI.out.res; obtain ⟨⟨r0, r1, r2, r3⟩, f0, f1, f2, f3⟩ := cells_cls hR; obtain ⟨⟨c0, c1, c2, c3⟩, e0, e1, e2, e3⟩ := cells_cls HI.out.mine; clear hR))
                    all_goals
                      replace HI := Lib.hid (HI.out.store K2)
                      clear k5 k6 r0 r1 r2 r3 f0 f1 f2 f3 c0 c1 c2 c3 e0 e1 e2 e3
                      obtain ⟨R, hR⟩ := HI.out.res
                      obtain ⟨⟨r0, r1, r2, r3⟩, f0, f1, f2, f3⟩ := cells_cls hR
                      obtain ⟨⟨c0, c1, c2, c3⟩, e0, e1, e2, e3⟩ := cells_cls HI.out.mine
                      clear hR
                      by_cases hend : p3 < s.size
                      · have hnend : ¬ s.size ≤ p3 := by omega
                        go_wp2
                        go_roundg (gk - 1)
                        case measure => have h1 := HJ.out; omega
                        case rel => exact ⟨p3, false, K2, rfl, rfl, (by have h1 := HJ.out; have h2 := HP.out; show _ ∧ _; omega), HI, (fun h => by cases h), fun _ => ⟨hend, (fun h => HNX.out.1 h), fun h => HNX.out.2 h⟩⟩
                      · have hyend : s.size ≤ p3 := by omega
                        have HN := Lib.hid (HNX.out.2 (by rw [List.getElem?_eq_none (by rw [hlen]; omega)]; simp) |>.trans (listed_none (item_end (by rw [hlen]; omega))))
                        go_wp2
                        obtain ⟨R, hR⟩ := HI.out.res
                        exact bodyPost_ret (v := .tuple #[clsV zeroK, .int .i64 0, .int .i64 2]) (results_row_tmp2 (p := 2) (u := 3) (v := 4) (ty := 30) Try.results11 _ _ w.heap.size _ rfl (load_cls2 (set_four _ _ _ _ hR) rfl)) rfl ⟨by rw [HBAD.out HN.out]; rfl, below_four HI.out.low (Nat.le_refl _) _ _ _ _⟩
              · have x45 : ((s[p1].toNat : Int) == 45) = false := by rw [beq_eq_false_iff_ne]; intro h; exact h45 (UInt8.toNat_inj.1 (by show s[p1].toNat = 45; omega))
                have hno : ¬ s.data.toList[p1]? = some 45 := by rw [hat1]; intro h; exact h45 (Option.some.inj h)
                have HP : Hid (p1 ≤ s.size ∧ j + 1 ≤ p1) := ⟨by omega, by omega⟩
                have hi : itemD (s.data.toList.drop j) = some (x, x, m) := by unfold itemD; rw [hs1]; dsimp only; rw [if_neg (fun h => hno (hdrop.symm.trans h)), hm]
                obtain ⟨K2, hK2⟩ : ∃ K2, K2 = orK K (spanK x.toNat x.toNat) := ⟨_, rfl⟩
                have k3 : ∀ Z, Calls Try.prog 29 #[.agg #[.int .u64 ((K 0).toNat : Int), .int .u64 ((K 1).toNat : Int), .int .u64 ((K 2).toNat : Int), .int .u64 ((K 3).toNat : Int)], .int .u8 x] Z fun e w' => e = .returned (.agg #[.int .u64 ((K2 0).toNat : Int), .int .u64 ((K2 1).toNat : Int), .int .u64 ((K2 2).toNat : Int), .int .u64 ((K2 3).toNat : Int)]) ∧ Below Z.heap.size Z w' := fun Z => (with_any K x Z u3 u4).mono fun e w' h => ⟨h.1.trans (by rw [with_span, ← hK2]; rfl), h.2⟩
                have hdr : (s.data.toList.drop j |>.drop (m)).head? = s.data.toList[p1]? := by rw [List.drop_drop, head_drop]; try (first | rfl | (congr 1; omega))
                have HNX : Hid ((s.data.toList[p1]? = some 93 → D = some (K2, p1 + 1)) ∧ (s.data.toList[p1]? ≠ some 93 → D = listedD (s.data.toList.drop p1) K2 (p1))) := ⟨fun h => by rw [HD.out, listed_end hi (hdr.trans h), hK2]; try (first | rfl | (congr 2; omega)), fun h => by rw [HD.out, listed_more hi (fun h2 => h (hdr.symm.trans h2)), hK2, List.drop_drop]; try (first | rfl | (congr 1 <;> first | omega | (congr 1; omega)))⟩
                clear hdr hi
                clear hs1 hdrop hno hK2 hp1
                go_upto_region 22 with (first | (go_at_call 9; with_reducible refine (k1 _).mono ?_; clear k1 r0 r1 r2 r3 f0 f1 f2 f3 c0 c1 c2 c3 e0 e1 e2 e3; rintro en w1 ⟨rfl, hb1⟩; replace HI := Lib.hid (HI.out.later hb1); clear hb1; obtain ⟨R, hR⟩ := HI.out.res; obtain ⟨⟨r0, r1, r2, r3⟩, f0, f1, f2, f3⟩ := cells_cls hR; obtain ⟨⟨c0, c1, c2, c3⟩, e0, e1, e2, e3⟩ := cells_cls HI.out.mine; clear hR) | (go_at_call 29; with_reducible refine (k3 _).mono ?_; clear k3 r0 r1 r2 r3 f0 f1 f2 f3 c0 c1 c2 c3 e0 e1 e2 e3; rintro en w1 ⟨rfl, hb1⟩; replace HI := Lib.hid (HI.out.later hb1); clear hb1; obtain ⟨R, hR⟩ := HI.out.res; obtain ⟨⟨r0, r1, r2, r3⟩, f0, f1, f2, f3⟩ := cells_cls hR; obtain ⟨⟨c0, c1, c2, c3⟩, e0, e1, e2, e3⟩ := cells_cls HI.out.mine; clear hR))
                replace HI := Lib.hid (HI.out.store K2)
                clear r0 r1 r2 r3 f0 f1 f2 f3 c0 c1 c2 c3 e0 e1 e2 e3
                obtain ⟨R, hR⟩ := HI.out.res
                obtain ⟨⟨r0, r1, r2, r3⟩, f0, f1, f2, f3⟩ := cells_cls hR
                obtain ⟨⟨c0, c1, c2, c3⟩, e0, e1, e2, e3⟩ := cells_cls HI.out.mine
                clear hR
                have hend := hlt1
                have hnend : ¬ s.size ≤ p1 := by omega
                go_wp2
                go_roundg (gk - 1)
                case measure => have h1 := HJ.out; omega
                case rel => exact ⟨p1, false, K2, rfl, rfl, (by have h1 := HJ.out; have h2 := HP.out; show _ ∧ _; omega), HI, (fun h => by cases h), fun _ => ⟨hend, (fun h => HNX.out.1 h), fun h => HNX.out.2 h⟩⟩
            · have hno : ¬ s.data.toList[p1]? = some 45 := by rw [List.getElem?_eq_none (by rw [hlen]; omega)]; simp
              have hge1 : s.size ≤ p1 := by omega
              have HP : Hid (p1 ≤ s.size ∧ j + 1 ≤ p1) := ⟨by omega, by omega⟩
              have hi : itemD (s.data.toList.drop j) = some (x, x, m) := by unfold itemD; rw [hs1]; dsimp only; rw [if_neg (fun h => hno (hdrop.symm.trans h)), hm]
              obtain ⟨K2, hK2⟩ : ∃ K2, K2 = orK K (spanK x.toNat x.toNat) := ⟨_, rfl⟩
              have k3 : ∀ Z, Calls Try.prog 29 #[.agg #[.int .u64 ((K 0).toNat : Int), .int .u64 ((K 1).toNat : Int), .int .u64 ((K 2).toNat : Int), .int .u64 ((K 3).toNat : Int)], .int .u8 x] Z fun e w' => e = .returned (.agg #[.int .u64 ((K2 0).toNat : Int), .int .u64 ((K2 1).toNat : Int), .int .u64 ((K2 2).toNat : Int), .int .u64 ((K2 3).toNat : Int)]) ∧ Below Z.heap.size Z w' := fun Z => (with_any K x Z u3 u4).mono fun e w' h => ⟨h.1.trans (by rw [with_span, ← hK2]; rfl), h.2⟩
              have hdr : (s.data.toList.drop j |>.drop (m)).head? = s.data.toList[p1]? := by rw [List.drop_drop, head_drop]; try (first | rfl | (congr 1; omega))
              have HNX : Hid ((s.data.toList[p1]? = some 93 → D = some (K2, p1 + 1)) ∧ (s.data.toList[p1]? ≠ some 93 → D = listedD (s.data.toList.drop p1) K2 (p1))) := ⟨fun h => by rw [HD.out, listed_end hi (hdr.trans h), hK2]; try (first | rfl | (congr 2; omega)), fun h => by rw [HD.out, listed_more hi (fun h2 => h (hdr.symm.trans h2)), hK2, List.drop_drop]; try (first | rfl | (congr 1 <;> first | omega | (congr 1; omega)))⟩
              clear hdr hi
              clear hs1 hdrop hno hK2 hp1
              go_upto_region 22 with (first | (go_at_call 9; with_reducible refine (k1 _).mono ?_; clear k1 r0 r1 r2 r3 f0 f1 f2 f3 c0 c1 c2 c3 e0 e1 e2 e3; rintro en w1 ⟨rfl, hb1⟩; replace HI := Lib.hid (HI.out.later hb1); clear hb1; obtain ⟨R, hR⟩ := HI.out.res; obtain ⟨⟨r0, r1, r2, r3⟩, f0, f1, f2, f3⟩ := cells_cls hR; obtain ⟨⟨c0, c1, c2, c3⟩, e0, e1, e2, e3⟩ := cells_cls HI.out.mine; clear hR) | (go_at_call 29; with_reducible refine (k3 _).mono ?_; clear k3 r0 r1 r2 r3 f0 f1 f2 f3 c0 c1 c2 c3 e0 e1 e2 e3; rintro en w1 ⟨rfl, hb1⟩; replace HI := Lib.hid (HI.out.later hb1); clear hb1; obtain ⟨R, hR⟩ := HI.out.res; obtain ⟨⟨r0, r1, r2, r3⟩, f0, f1, f2, f3⟩ := cells_cls hR; obtain ⟨⟨c0, c1, c2, c3⟩, e0, e1, e2, e3⟩ := cells_cls HI.out.mine; clear hR))
              replace HI := Lib.hid (HI.out.store K2)
              clear r0 r1 r2 r3 f0 f1 f2 f3 c0 c1 c2 c3 e0 e1 e2 e3
              obtain ⟨R, hR⟩ := HI.out.res
              obtain ⟨⟨r0, r1, r2, r3⟩, f0, f1, f2, f3⟩ := cells_cls hR
              obtain ⟨⟨c0, c1, c2, c3⟩, e0, e1, e2, e3⟩ := cells_cls HI.out.mine
              clear hR
              have hyend : s.size ≤ p1 := by omega
              have HN := Lib.hid (HNX.out.2 (by rw [List.getElem?_eq_none (by rw [hlen]; omega)]; simp) |>.trans (listed_none (item_end (by rw [hlen]; omega))))
              go_wp2
              obtain ⟨R, hR⟩ := HI.out.res
              exact bodyPost_ret (v := .tuple #[clsV zeroK, .int .i64 0, .int .i64 2]) (results_row_tmp2 (p := 2) (u := 3) (v := 4) (ty := 30) Try.results11 _ _ w.heap.size _ rfl (load_cls2 (set_four _ _ _ _ hR) rfl)) rfl ⟨by rw [HBAD.out HN.out]; rfl, below_four HI.out.low (Nat.le_refl _) _ _ _ _⟩
end Go.Proofs.Ytojjjkicgbdknaa
