/- Packed texts: DecRefRead3. What each of them proves stands above its theorems; the conditions stand in these. -/
import Derived.Deep.Cut
import Derived.Deep.CutBlock
import Derived.Deep.DeepCutAuto
import Derived.Test.YtbodnhpjfdnjfaaGreatDoorE19
namespace Go.Proofs.YtbodnhpjfdnjfaaGreatDoor
open Go.RowKit

theorem ref_wrap64 (x : Int) : wrap64 x = (x + 9223372036854775808) % 18446744073709551616 - 9223372036854775808 := by unfold wrap64; rfl
theorem come_start (U : List UInt8) : Come U 0 false 0 := by
  unfold Come
  refine ⟨by omega, .inl ⟨rfl, ?_⟩⟩
  rw [List.take_zero]; rfl
theorem cell9_of {g : Nat} {t : TypeId} {w : World} {b : Bool} {n : Int} (h : w.heap[g]? = some (.cells (intC b (digs 12 n)) t (0, 0))) : w.cell? ⟨g, 9, none⟩ = some (.int .u64 ((digs 12 n).getD 8 0)) := by
  rw [cell_of_row w g 9 _ t (0, 0) h]
  rfl
theorem eight_of {U : List UInt8} {m : Nat} {ov : Bool} {V V2 dg : Int} (h : Come U m ov V) (hd : 0 ≤ dg ∧ dg ≤ 9) (hV2 : V2 = V * 10 + dg) : (digs 12 V2).getD 8 0 = V2 / 115792089237316195423570985008687907853269984665640564039457584007913129639936 :=
  digs_eight V2 (by have := h.1.1; omega) (by have := h.1.2; omega) _ rfl
theorem there_tail {g : Nat} {t : TypeId} {w : World} {b : Bool} {n : Int} (h : w.heap[g]? = some (.cells (intC b (digs 12 n)) t (0, 0))) : w.there g 1 12 := fun j hj => by
  have hs : (intC b (digs 12 n)).size = 13 := big_size b n
  rw [cell_of_row w g (1 + j) _ t (0, 0) h, frozen_of_row w g (1 + j) _ t h]
  refine ⟨?_, rfl⟩
  rw [Array.getElem?_eq_getElem (by omega)]; rfl
theorem zeros_row {g : Nat} {t : TypeId} {w : World} {b : Bool} {n : Int} (h : w.heap[g]? = some (.cells (intC b (digs 12 n)) t (0, 0))) :
    (w.setCells g 1 #[.int .u64 0, .int .u64 0, .int .u64 0, .int .u64 0, .int .u64 0, .int .u64 0, .int .u64 0, .int .u64 0, .int .u64 0, .int .u64 0, .int .u64 0, .int .u64 0].toList).heap[g]? = some (.cells (intC b (digs 12 0)) t (0, 0)) :=
  setCells_gen g t [.int .u64 0, .int .u64 0, .int .u64 0, .int .u64 0, .int .u64 0, .int .u64 0, .int .u64 0, .int .u64 0, .int .u64 0, .int .u64 0, .int .u64 0, .int .u64 0] [.bool b] ((digs 12 n).map (Value.int .u64)) w h (by rw [List.length_map, digs_length]; rfl)
theorem zeros_one : (#[.int .u64 0, .int .u64 0, .int .u64 0, .int .u64 0, .int .u64 0, .int .u64 0, .int .u64 0, .int .u64 0, .int .u64 0, .int .u64 0, .int .u64 0, .int .u64 0] : Array Value).all (·.oneCell') = true := by
  refine Array.all_eq_true_iff_forall_mem.2 (fun v hv => ?_)
  have : v = .int .u64 0 := by simpa using hv
  rw [this]; rfl
/-- How far the figures have come, those behind the point among them: k of these; once it has gone too far nothing is said of the value. -/
def Come2 (A : List UInt8) (k : Nat) (ov : Bool) (V : Int) : Prop :=
  (0 ≤ V ∧ V < 115792089237316195423570985008687907853269984665640564039457584007913129639936 * 10 ^ k) ∧ (ov = false → V = (natOf A : Int))
theorem come2_start {U : List UInt8} {ov : Bool} {V : Int} (h : Come U (figs U).length ov V) (F : List UInt8) : Come2 (figs U ++ F.take 0) 0 ov V := by
  obtain ⟨h1, h2⟩ := h
  refine ⟨by rw [Int.pow_zero, Int.mul_one]; exact h1, fun ho => ?_⟩
  rcases h2 with ⟨_, e⟩ | ⟨e, _⟩
  · rw [List.take_zero, List.append_nil, e]
    congr 2
    exact (figs_prefix U).symm
  · rw [ho] at e; cases e
theorem come2_step {A : List UInt8} {k : Nat} {ov : Bool} {V : Int} (h : Come2 A k ov V) (c : UInt8) (d : Int) (hd : d = (figV c : Int)) (h9 : 0 ≤ d ∧ d ≤ 9) : Come2 (A ++ [c]) (k + 1) ov (V * 10 + d) := by
  obtain ⟨⟨h1, h2⟩, h3⟩ := h
  refine ⟨⟨by omega, ?_⟩, fun ho => ?_⟩
  · rw [Int.pow_succ, ← Int.mul_assoc]
    generalize (115792089237316195423570985008687907853269984665640564039457584007913129639936 : Int) * 10 ^ k = z at *
    omega
  · rw [natOf_snoc, h3 ho, hd]; omega
theorem row_old {g : Nat} {t : TypeId} {cs : Array Value} {w w1 : World} (h : w.heap[g]? = some (.cells cs t (0, 0))) (hb : Below w.heap.size w w1) : Hid (w1.heap[g]? = some (.cells cs t (0, 0))) := by
  have hl : g < w.heap.size := by
    by_cases hl : g < w.heap.size
    · exact hl
    · rw [Array.getElem?_eq_none (Nat.le_of_not_lt hl)] at h; cases h
  exact (hb.block g hl).trans h
theorem there_big {g : Nat} {t : TypeId} {w : World} {b c : Bool} {n m : Int} (h : w.heap[g]? = some (.cells (intC b (digs 12 n)) t (0, 0))) : w.there g 0 (intC c (digs 12 m)).size := by
  have := there_whole h
  rw [big_size] at *
  exact this
theorem pow_down {V X : Int} {n b : Nat} (h : V * 10 ^ n = X) (hn : n + b = 6) (hb : b < 6) : Hid (V * 10 * 10 ^ (n - 1) = X) := by
  obtain ⟨k, rfl⟩ : ∃ k, n = k + 1 := ⟨n - 1, by omega⟩
  show _ = _
  rw [Int.pow_succ] at h
  rw [Nat.add_sub_cancel, ← h, Int.mul_assoc, Int.mul_comm 10]
/-- What the document's 'back' answers. -/
def backP (b : Bool) (n : Int) : Int × Int := if b then (if n ≤ 9223372036854775808 then (-n, 0) else (0, 3)) else (if n ≤ 9223372036854775807 then (n, 0) else (0, 3))
theorem back_pair (b : Bool) (n : Int) (w : World) (h0 : 0 ≤ n) (h1 : n < wide 12) :
    Calls Tryz.prog 101 #[.agg (intC b (digs 12 n))] w fun e w' => e = .returned (.tuple #[.int .i64 (backP b n).1, .int .i64 (backP b n).2]) ∧ Below w.heap.size w w' :=
  (backB b n w h0 h1).mono fun e w' h => ⟨h.1.trans (by
    unfold backP
    cases b with
    | true =>
      by_cases hn : n ≤ 9223372036854775808
      · rw [backE_neg hn, if_pos rfl, if_pos hn]
      · rw [backE_over (by omega), if_pos rfl, if_neg hn]
    | false =>
      by_cases hn : n ≤ 9223372036854775807
      · rw [backE_pos hn, if_neg (by simp), if_pos hn]
      · rw [backE_edge (by omega), if_neg (by simp), if_neg hn]), h.2⟩
theorem come2_wide {A : List UInt8} {k : Nat} {ov : Bool} {V V6 : Int} (h : Come2 A k ov V) (hk : k ≤ 6) (e : V6 = V * 10 ^ (6 - k)) : 0 ≤ V6 ∧ V6 < wide 12 := by
  obtain ⟨⟨h0, h1⟩, _⟩ := h
  have hw : wide 12 = 39402006196394479212279040100143613805079739270465446667948293404245721771497210611414266254884915640806627990306816 := by decide +kernel
  rw [hw]
  have hc : k = 0 ∨ k = 1 ∨ k = 2 ∨ k = 3 ∨ k = 4 ∨ k = 5 ∨ k = 6 := by omega
  rcases hc with rfl | rfl | rfl | rfl | rfl | rfl | rfl <;> simp at e h1 <;> omega
/-- The byte at a place, as a number; beyond the end none. -/
def byteZ (s : ByteArray) (k : Nat) (z : Int) : Prop := ∃ h : k < s.size, (s[k].toNat : Int) = z
set_option maxHeartbeats 8000000 in
set_option maxRecDepth 100000 in
theorem refRead_walk (s : ByteArray) (w : World) (hs : s.size ≤ 70000000000000) (kA i0 nf jp nr je mt bh jb : Nat) (bs sg pt : Bool) (U F : List UInt8) (hkA : kA ≤ s.size) (hi0 : i0 + nf ≤ s.size)
    (kf : ∀ (k : Nat) (w : World), Calls Tryz.prog 153 #[.string s, .int .i64 (k : Int)] w fun e w' => e = .returned (.bool (figAt s.data.toList k)) ∧ w = w')
    (HF : Hid (∀ m, m < nf → ∃ zz : Int, ∃ h : i0 + m < s.size, (s[i0 + m].toNat : Int) = zz ∧ 48 ≤ zz ∧ zz ≤ 57 ∧ figAt s.data.toList (i0 + m) = true))
    (HJp : Hid (jp = i0 + nf)) (hjp : jp ≤ s.size) (hjb : nr ≤ 70000000000000)
    (HP : Hid ((pt = true ∧ byteZ s jp 46 ∧ (0 < nf ∨ figAt s.data.toList (jp + 1) = true)) ∨ (pt = false ∧ ((∀ z, byteZ s jp z → ((z : Int) == 46) = false) ∨ (byteZ s jp 46 ∧ nf = 0 ∧ figAt s.data.toList (jp + 1) = false)))))
    (HG : Hid (∀ m, m < nr → ∃ zz : Int, ∃ h : jb + m < s.size, (s[jb + m].toNat : Int) = zz ∧ 48 ≤ zz ∧ zz ≤ 57 ∧ figAt s.data.toList (jb + m) = true))
    (HGe : Hid (pt = true → figAt s.data.toList (jb + nr) = false)) (HNR : Hid (nr = F.length ∧ jb = jp + 1))
    (HGv : Hid (∀ m, m < nr → ∀ (h2 : m < F.length) (zz : Int), byteZ s (jb + m) zz → zz - 48 = (figV F[m] : Int)))
    (HE : Hid ((pt = true ∧ je = jb + nr ∧ mt = nf + nr ∧ bh = min 6 nr ∧ jb + nr ≤ s.size) ∨ (pt = false ∧ je = jp ∧ mt = nf ∧ bh = 0 ∧ nr = 0)))
    (hbh : bh ≤ 6) (E : Ending) (HZ0 : Hid (mt = 0 → E = .returned (.tuple #[.int .i64 0, .int .i64 0, .int .i64 2])))
    (HZ1 : Hid (∀ V, Come U nf true V → mt ≠ 0 → E = .returned (.tuple #[.int .i64 0, .int .i64 0, .int .i64 3])))
    (HZ2 : Hid (mt ≠ 0 → ∀ V6 : Int, V6 = (natOf (figs U ++ F.take bh) : Int) * 10 ^ (6 - bh) → ((backP bs V6).2 = 0 → E = .returned (.tuple #[.int .i64 (backP bs V6).1, .int .i64 (je : Int), .int .i64 0])) ∧ ((backP bs V6).2 ≠ 0 → E = .returned (.tuple #[.int .i64 0, .int .i64 0, .int .i64 3]))))
    (HFe : Hid (figAt s.data.toList (i0 + nf) = false)) (HNF : Hid (nf = (figs U).length))
    (HFv : Hid (∀ m, m < nf → ∀ (h2 : m < U.length) (zz : Int), byteZ s (i0 + m) zz → zz - 48 = (figV U[m] : Int)))
    (HB0 : Hid (∀ k, k < kA → byteZ s k 32 ∨ byteZ s k 9))
    (HB1 : Hid (∀ z, byteZ s kA z → ((z : Int) == 32) = false ∧ ((z : Int) == 9) = false))
    (HS : Hid ((sg = false ∧ bs = false ∧ i0 = kA ∧ (∀ z, byteZ s kA z → ((z : Int) == 45) = false ∧ ((z : Int) == 43) = false)) ∨ (sg = true ∧ i0 = kA + 1 ∧ ((bs = true ∧ byteZ s kA 45) ∨ (bs = false ∧ byteZ s kA 43))))) :
    Calls Tryz.prog 100 #[.string s] w fun e w' => e = E ∧ Below w.heap.size w w' := by
  go_enter Tryz.func100, Tryz.ntmps100
  go_upto_block 0 with fail
  go_cut [5] (fun s5 wx => s5 = .int .i64 (kA : Int) ∧ w = wx)
  case first =>
    go_wp2
    go_loop [5] (fun i => ∃ k : Nat, k ≤ kA ∧ i = .int .i64 (k : Int)) (fun i => s.size - (RowKit.intOf i).toNat)
    case atStart => exact ⟨0, Nat.zero_le _, rfl⟩
    case round =>
      obtain ⟨k, hk, rfl⟩ := hrel
      have hwk : wrap64 ((k : Int) + 1) = (k : Int) + 1 := by rw [ref_wrap64]; omega
      by_cases hlt : k < kA
      · have HL := Lib.hid hlt
        rcases HB0.out k hlt with ⟨h1, h2⟩ | ⟨h1, h2⟩
        · go_wp2
          go_round
          case rel => exact ⟨k + 1, HL.out, by go_num⟩
          case measure => simp only [RowKit.intOf]; have := HL.out; omega
        · have h3 : ((s[k].toNat : Int) == 32) = false := by rw [h2]; rfl
          go_wp2
          all_goals (try (exfalso; omega))
          go_round
          case rel => exact ⟨k + 1, HL.out, by go_num⟩
          case measure => simp only [RowKit.intOf]; have := HL.out; omega
      · obtain rfl : k = kA := by omega
        by_cases hin : k < s.size
        · obtain ⟨h1, h2⟩ := HB1.out _ ⟨hin, rfl⟩
          go_wp2
          go_meet
          case rel => exact ⟨rfl, rfl⟩
        · go_wp2
          go_meet
          case rel => exact ⟨rfl, rfl⟩
  case rest =>
    obtain ⟨rfl, rfl⟩ := hcut
    clear HB0 HB1
    go_upto_region 5 with fail
    go_cut [46] (fun s46 wx => s46 = .bool sg ∧ (w.alloc (.cells #[.bool false, .int .u64 0, .int .u64 0, .int .u64 0, .int .u64 0, .int .u64 0, .int .u64 0, .int .u64 0, .int .u64 0, .int .u64 0, .int .u64 0, .int .u64 0, .int .u64 0] 119)) = wx)
    case first =>
      rcases HS.out with ⟨rfl, rfl, rfl, h⟩ | ⟨rfl, rfl, ⟨rfl, h1, h2⟩ | ⟨rfl, h1, h2⟩⟩
      · by_cases hin : i0 < s.size
        · obtain ⟨h1, h2⟩ := h _ ⟨hin, rfl⟩
          clear h
          go_wp2
          go_meet
          case rel => exact ⟨rfl, rfl⟩
        · clear h
          go_wp2
          go_meet
          case rel => exact ⟨rfl, rfl⟩
      · go_wp2
        go_meet
        case rel => exact ⟨rfl, rfl⟩
      · have h3 : ((s[kA].toNat : Int) == 45) = false := by rw [h2]; rfl
        go_wp2
        all_goals (try (exfalso; omega))
        go_meet
        case rel => exact ⟨rfl, rfl⟩
    case rest =>
      obtain ⟨rfl, hW⟩ := hcut
      have hX0 : wc.heap[w.heap.size]? = some (.cells (intC false (digs 12 0)) 119 (0, 0)) := by rw [← hW, heap_alloc_new, zero13]
      have hB0 : Below w.heap.size w wc := by rw [← hW]; exact (Below.refl _ w).alloc (Nat.le_refl _) _
      clear hW
      have HX0 := Lib.hid hX0
      have HB0 := Lib.hid hB0
      clear hX0 hB0
      go_upto_if 46 with fail
      go_cut [5] (fun s5 wx => s5 = .int .i64 (i0 : Int) ∧ wx.heap[w.heap.size]? = some (.cells (intC bs (digs 12 0)) 119 (0, 0)) ∧ Below w.heap.size w wx)
      case first =>
        rcases HS.out with ⟨rfl, rfl, rfl, _⟩ | ⟨rfl, rfl, h⟩
        · go_wp2
          go_meet
          case rel => exact ⟨rfl, HX0.out, HB0.out⟩
        · have hwk : wrap64 ((kA : Int) + 1) = (kA : Int) + 1 := by rw [ref_wrap64]; omega
          have hc : wc.cell? ⟨w.heap.size, 0, none⟩ = some (.bool false) := by rw [cell_of_row wc _ _ _ _ _ HX0.out]; rfl
          have hfr : wc.frozen? ⟨w.heap.size, 0, none⟩ = false := frozen_of_row wc _ _ _ _ HX0.out
          obtain ⟨hin, hz⟩ : ∃ hin : kA < s.size, ((s[kA].toNat : Int) == 45) = bs := by
            rcases h with ⟨rfl, h1, h2⟩ | ⟨rfl, h1, h2⟩
            · exact ⟨h1, by rw [h2]; rfl⟩
            · exact ⟨h1, by rw [h2]; rfl⟩
          clear h
          go_wp2
          go_meet
          case rel =>
            refine ⟨by go_num, ?_, HB0.out.setCell (Nat.le_refl _) _⟩
            have := heap_setCell_same wc w.heap.size 0 _ _ (.bool bs) HX0.out
            rw [intC_sign] at this
            exact this
      case rest =>
        obtain ⟨rfl, hX, hB⟩ := hcut
        have HX := Lib.hid hX
        have HB := Lib.hid hB
        clear hX hB HX0 HB0
        go_upto_block 2 with fail
        go_cut [5, 7, 8] (fun s5 s7 s8 wx => ∃ (j : Nat) (ov : Bool) (V : Int), Hid (j = i0 + nf) ∧ s5 = .int .i64 (j : Int) ∧ s7 = .int .i64 (nf : Int) ∧ s8 = .bool ov ∧ Hid (Come U nf ov V) ∧ wx.heap[w.heap.size]? = some (.cells (intC bs (digs 12 V)) 119 (0, 0)) ∧ Below w.heap.size w wx)
        case first =>
          go_wp2
          go_loopg [5, 7, 8] nf (fun n s5 s7 s8 wr => ∃ (m j : Nat) (ov : Bool) (V : Int), Hid (n + m = nf) ∧ Hid (j = i0 + m) ∧ m ≤ nf ∧ j ≤ s.size ∧ s5 = .int .i64 (j : Int) ∧ s7 = .int .i64 (m : Int) ∧ s8 = .bool ov ∧ Hid (Come U m ov V) ∧ Hid (wr.heap[w.heap.size]? = some (.cells (intC bs (digs 12 V)) 119 (0, 0))) ∧ Hid (Below w.heap.size w wr))
          case atStart => exact ⟨0, i0, false, 0, rfl, rfl, Nat.zero_le _, by omega, rfl, rfl, rfl, come_start U, HX.out, HB.out⟩
          case round =>
            obtain ⟨m, j, ov, V, HN, HJ, hm, hjs, rfl, rfl, rfl, HV, HXq, HBq⟩ := hrel
            by_cases hlt : m < nf
            · obtain ⟨zz, hj, hzz, hz1, hz2, hfg⟩ : ∃ zz : Int, ∃ h : j < s.size, (s[j].toNat : Int) = zz ∧ 48 ≤ zz ∧ zz ≤ 57 ∧ figAt s.data.toList j = true := by
                have := HF.out m hlt
                rw [← HJ.out] at this
                exact this
              have k1 := fun w => kf j w
              rw [hfg] at k1
              have HL := Lib.hid hlt
              obtain ⟨dg, hdg0⟩ : ∃ dg : Int, zz - 48 = dg := ⟨_, rfl⟩
              have HD9 : Hid (0 ≤ dg ∧ dg ≤ 9) := by show _ ∧ _; omega
              have HDG : Hid (∀ h2 : m < U.length, dg = (figV U[m] : Int)) := fun h2 => by rw [← hdg0]; exact HFv.out m hlt h2 zz (by rw [← HJ.out]; exact ⟨hj, hzz⟩)
              have hzw : IntKind.u64.wrap zz = zz := by simp only [IntKind.wrap_u64]; omega
              have hdg : IntKind.u64.wrap (zz - 48) = dg := by rw [hdg0]; simp only [IntKind.wrap_u64]; have := HD9.out; omega
              clear hdg0 hfg hz1 hz2
              go_upto_region 11 with (go_at_call 153; with_reducible refine (k1 _).mono ?_; rintro e w' ⟨rfl, rfl⟩)
              go_cut [] (fun wx => wx.heap[w.heap.size]? = some (.cells (intC bs (digs 12 (V * 10 + dg))) 119 (0, 0)) ∧ Below w.heap.size w wx)
              case first =>
                obtain ⟨wq, hwq⟩ : ∃ wq, wq = wr := ⟨_, rfl⟩
                subst hwq
                obtain ⟨r0, r1, r2, r3, r4, r5, r6, r7, r8, r9, r10, r11, hRS⟩ := explicit12 (digs 12 V) (digs_length 12 V)
                have hrow : Stands w.heap.size #[.bool bs, .int .u64 r0, .int .u64 r1, .int .u64 r2, .int .u64 r3, .int .u64 r4, .int .u64 r5, .int .u64 r6, .int .u64 r7, .int .u64 r8, .int .u64 r9, .int .u64 r10, .int .u64 r11] 119 wq := by
                  show wq.heap[w.heap.size]? = _
                  rw [HXq.out]; unfold intC; rw [hRS]; rfl
                have hcells := stands_cells hrow
                obtain ⟨ha0, hf0, ha1, hf1, ha2, hf2, ha3, hf3, ha4, hf4, ha5, hf5, ha6, hf6, ha7, hf7, ha8, hf8, ha9, hf9, ha10, hf10, ha11, hf11, ha12, hf12⟩ := hcells
                have t1 := fun w => timesB bs V 10 dg w (by omega) (by omega) (by have := HD9.out; omega) (by have := HD9.out; omega)
                obtain ⟨z0, z1, z2, z3, z4, z5, z6, z7, z8, z9, z10, z11, hZS⟩ := explicit12 (digs 12 (V * 10 + dg)) (digs_length 12 (V * 10 + dg))
                have hbR : big bs V = .agg #[.bool bs, .int .u64 r0, .int .u64 r1, .int .u64 r2, .int .u64 r3, .int .u64 r4, .int .u64 r5, .int .u64 r6, .int .u64 r7, .int .u64 r8, .int .u64 r9, .int .u64 r10, .int .u64 r11] := by unfold big intC; rw [hRS]; rfl
                have hbZ : big bs (V * 10 + dg) = .agg #[.bool bs, .int .u64 z0, .int .u64 z1, .int .u64 z2, .int .u64 z3, .int .u64 z4, .int .u64 z5, .int .u64 z6, .int .u64 z7, .int .u64 z8, .int .u64 z9, .int .u64 z10, .int .u64 z11] := by unfold big intC; rw [hZS]; rfl
                rw [hbR, hbZ] at t1
                have HZS := Lib.hid hZS
                have HRow := Lib.hid (show Stands _ _ _ wq.drew from hrow)
                clear hZS hRS hbR hbZ hrow
                go_region_law (first
                  | (go_simp; go_at_call 154; with_reducible refine (t1 _).mono ?_; rintro e w1 ⟨rfl, hb1⟩; (have hst : Stands _ _ _ w1 := stands_old HRow.out hb1); (have hh := stands_cells hst); obtain ⟨qa0, qf0, qa1, qf1, qa2, qf2, qa3, qf3, qa4, qf4, qa5, qf5, qa6, qf6, qa7, qf7, qa8, qf8, qa9, qf9, qa10, qf10, qa11, qf11, qa12, qf12⟩ := hh))
                all_goals
                  have hr3 := set13_row (v0 := .bool bs) (v1 := .int .u64 z0) (v2 := .int .u64 z1) (v3 := .int .u64 z2) (v4 := .int .u64 z3) (v5 := .int .u64 z4) (v6 := .int .u64 z5) (v7 := .int .u64 z6) (v8 := .int .u64 z7) (v9 := .int .u64 z8) (v10 := .int .u64 z9) (v11 := .int .u64 z10) (v12 := .int .u64 z11) hst
                  have hb3 : Below w.heap.size w (((((((((((((w1.setCell ⟨w.heap.size, 0, none⟩ (.bool bs)).setCell ⟨w.heap.size, 1, none⟩ (.int .u64 z0)).setCell ⟨w.heap.size, 2, none⟩ (.int .u64 z1)).setCell ⟨w.heap.size, 3, none⟩ (.int .u64 z2)).setCell ⟨w.heap.size, 4, none⟩ (.int .u64 z3)).setCell ⟨w.heap.size, 5, none⟩ (.int .u64 z4)).setCell ⟨w.heap.size, 6, none⟩ (.int .u64 z5)).setCell ⟨w.heap.size, 7, none⟩ (.int .u64 z6)).setCell ⟨w.heap.size, 8, none⟩ (.int .u64 z7)).setCell ⟨w.heap.size, 9, none⟩ (.int .u64 z8)).setCell ⟨w.heap.size, 10, none⟩ (.int .u64 z9)).setCell ⟨w.heap.size, 11, none⟩ (.int .u64 z10)).setCell ⟨w.heap.size, 12, none⟩ (.int .u64 z11)) := below_set13 (HBq.out.drew.trans (hb1.mono HBq.out.size)) (Nat.le_refl _)
                  generalize (((((((((((((w1.setCell ⟨w.heap.size, 0, none⟩ (.bool bs)).setCell ⟨w.heap.size, 1, none⟩ (.int .u64 z0)).setCell ⟨w.heap.size, 2, none⟩ (.int .u64 z1)).setCell ⟨w.heap.size, 3, none⟩ (.int .u64 z2)).setCell ⟨w.heap.size, 4, none⟩ (.int .u64 z3)).setCell ⟨w.heap.size, 5, none⟩ (.int .u64 z4)).setCell ⟨w.heap.size, 6, none⟩ (.int .u64 z5)).setCell ⟨w.heap.size, 7, none⟩ (.int .u64 z6)).setCell ⟨w.heap.size, 8, none⟩ (.int .u64 z7)).setCell ⟨w.heap.size, 9, none⟩ (.int .u64 z8)).setCell ⟨w.heap.size, 10, none⟩ (.int .u64 z9)).setCell ⟨w.heap.size, 11, none⟩ (.int .u64 z10)).setCell ⟨w.heap.size, 12, none⟩ (.int .u64 z11)) = W3 at hr3 hb3 ⊢
                  clear ha0 hf0 qa0 qf0 ha1 hf1 qa1 qf1 ha2 hf2 qa2 qf2 ha3 hf3 qa3 qf3 ha4 hf4 qa4 qf4 ha5 hf5 qa5 qf5 ha6 hf6 qa6 qf6 ha7 hf7 qa7 qf7 ha8 hf8 qa8 qf8 ha9 hf9 qa9 qf9 ha10 hf10 qa10 qf10 ha11 hf11 qa11 qf11 ha12 hf12 qa12 qf12 hst t1 hb1
                  go_wp2_with fail
                  go_meet
                  case rel =>
                    refine ⟨?_, hb3⟩
                    have h : W3.heap[w.heap.size]? = _ := hr3
                    rw [h]; unfold intC; rw [HZS.out]; rfl
              case rest =>
                obtain ⟨hX3, hB3⟩ := hcut
                clear k1 hzz hzw hdg
                obtain ⟨V2, hV2⟩ : ∃ V2, V2 = V * 10 + dg := ⟨_, rfl⟩
                rw [← hV2] at hX3
                have H8 := eight_of HV.out HD9.out hV2
                obtain ⟨z8, hz8⟩ : ∃ z8, z8 = (digs 12 V2).getD 8 0 := ⟨_, rfl⟩
                rw [← hz8] at H8
                have cell9 : wc.cell? ⟨w.heap.size, 9, none⟩ = some (.int .u64 z8) := by rw [hz8]; exact cell9_of hX3
                have HR3 := Lib.hid hX3
                have HB3 := Lib.hid hB3
                have HSt := Lib.hid (come_step HV.out (by have h1 := HNF.out; omega) dg HDG.out z8 (by rw [H8, hV2]) HD9.out)
                have HV2 := Lib.hid hV2
                clear hX3 hB3 hz8 hV2 H8
                have hov : (ov = true) ∨ (ov = false ∧ (z8 == 0) = false) ∨ (ov = false ∧ (z8 == 0) = true) := by
                  cases ov <;> cases (z8 == 0) <;> simp
                have HTh : Hid (wc.there w.heap.size 1 (#[.int .u64 0, .int .u64 0, .int .u64 0, .int .u64 0, .int .u64 0, .int .u64 0, .int .u64 0, .int .u64 0, .int .u64 0, .int .u64 0, .int .u64 0, .int .u64 0] : Array Value).size) := there_tail HR3.out
                have HIn : Hid ((Tryz.prog.info? 117).map (·.size) = some (#[.int .u64 0, .int .u64 0, .int .u64 0, .int .u64 0, .int .u64 0, .int .u64 0, .int .u64 0, .int .u64 0, .int .u64 0, .int .u64 0, .int .u64 0, .int .u64 0] : Array Value).size) := by show _ = _; kernel_rfl
                have HOn : Hid ((#[.int .u64 0, .int .u64 0, .int .u64 0, .int .u64 0, .int .u64 0, .int .u64 0, .int .u64 0, .int .u64 0, .int .u64 0, .int .u64 0, .int .u64 0, .int .u64 0] : Array Value).all (·.oneCell') = true) := zeros_one
                rcases hov with rfl | ⟨rfl, ho⟩ | ⟨rfl, ho⟩
                · go_wp2_with (with_reducible refine wpList_store_mid rfl 117 _ _ rfl w.heap.size 1 #[.int .u64 0, .int .u64 0, .int .u64 0, .int .u64 0, .int .u64 0, .int .u64 0, .int .u64 0, .int .u64 0, .int .u64 0, .int .u64 0, .int .u64 0, .int .u64 0] rfl rfl HTh.out HIn.out HOn.out ?_)
                  go_roundg (gk - 1)
                  case measure => have h1 := HN.out; have h2 := HL.out; omega
                  case rel => exact ⟨m + 1, j + 1, true, 0, by have h1 := HN.out; have h2 := HL.out; show _ = _; omega, by have := HJ.out; show _ = _; omega, HL.out, by omega, by go_num, by go_num, rfl, HSt.out.1 rfl, zeros_row HR3.out, below_setCells (Nat.le_refl _) _ _ HB3.out⟩
                · have HO := Lib.hid ho
                  go_wp2_with (with_reducible refine wpList_store_mid rfl 117 _ _ rfl w.heap.size 1 #[.int .u64 0, .int .u64 0, .int .u64 0, .int .u64 0, .int .u64 0, .int .u64 0, .int .u64 0, .int .u64 0, .int .u64 0, .int .u64 0, .int .u64 0, .int .u64 0] rfl rfl HTh.out HIn.out HOn.out ?_)
                  go_roundg (gk - 1)
                  case measure => have h1 := HN.out; have h2 := HL.out; omega
                  case rel => exact ⟨m + 1, j + 1, true, 0, by have h1 := HN.out; have h2 := HL.out; show _ = _; omega, by have := HJ.out; show _ = _; omega, HL.out, by omega, by go_num, by go_num, rfl, HSt.out.1 (by rw [HO.out]; rfl), zeros_row HR3.out, below_setCells (Nat.le_refl _) _ _ HB3.out⟩
                · have HO := Lib.hid ho
                  go_wp2
                  go_roundg (gk - 1)
                  case measure => have h1 := HN.out; have h2 := HL.out; omega
                  case rel => exact ⟨m + 1, j + 1, false, V2, by have h1 := HN.out; have h2 := HL.out; show _ = _; omega, by have := HJ.out; show _ = _; omega, HL.out, by omega, by go_num, by go_num, by first | rfl | (have h8 := HO.out; simp at h8; simp [h8]), by have h := HSt.out.2 (by rw [HO.out]; rfl); rw [← HV2.out] at h; exact h, HR3.out, HB3.out⟩
            · obtain rfl : m = nf := by omega
              have k1 := fun w => kf j w
              rw [HJ.out, HFe.out, ← HJ.out] at k1
              go_wp2_with (go_at_call 153; with_reducible refine (k1 _).mono ?_; rintro e w' ⟨rfl, rfl⟩)
              go_meet
              case rel => exact ⟨j, ov, V, HJ, rfl, rfl, rfl, HV, HXq.out, HBq.out⟩
        case rest =>
          obtain ⟨j, ov, V, HJ0, rfl, rfl, rfl, HV, hX2, hB2⟩ := hcut
          obtain rfl : j = jp := by rw [HJ0.out, HJp.out]
          have HX2 := Lib.hid hX2
          have HB2 := Lib.hid hB2
          clear hX2 hB2 HX HB HS HF HFe HFv HJ0
          go_upto_region 18 with fail
          go_cut [97] (fun s97 wx => s97 = .bool pt ∧ wc = wx)
          case first =>
            rcases HP.out with ⟨rfl, ⟨hj, hz⟩, hn⟩ | ⟨rfl, hz | ⟨⟨hj, hz⟩, hn, hf⟩⟩
            · by_cases hn0 : 0 < nf
              · clear hn
                go_wp2
                go_meet
                case rel => exact ⟨rfl, rfl⟩
              · have hf : figAt s.data.toList (j + 1) = true := by
                  rcases hn with h | h
                  · exact absurd h hn0
                  · exact h
                obtain rfl : nf = 0 := by omega
                have k1 := fun w => kf (j + 1) w
                rw [hf] at k1
                clear hn hf hn0
                go_wp2_with (go_at_call 153; refine (k1 _).mono ?_; rintro e w' ⟨rfl, rfl⟩)
                go_meet
                case rel => exact ⟨rfl, rfl⟩
            · by_cases hin : j < s.size
              · have h1 := hz _ ⟨hin, rfl⟩
                clear hz
                go_wp2
                go_meet
                case rel => exact ⟨rfl, rfl⟩
              · clear hz
                go_wp2
                go_meet
                case rel => exact ⟨rfl, rfl⟩
            · obtain rfl : nf = 0 := hn
              have k1 := fun w => kf (j + 1) w
              rw [hf] at k1
              clear hf
              go_wp2_with (go_at_call 153; refine (k1 _).mono ?_; rintro e w' ⟨rfl, rfl⟩)
              go_meet
              case rel => exact ⟨rfl, rfl⟩
          case rest =>
            obtain ⟨rfl, rfl⟩ := hcut
            have HV0 : Hid (Come2 (figs U ++ F.take 0) 0 ov V) := come2_start (by rw [← HNF.out]; exact HV.out) F
            go_upto_if 97 with fail
            go_cut [5, 7, 9] (fun s5 s7 s9 wx => ∃ V4 : Int, s5 = .int .i64 (je : Int) ∧ s7 = .int .i64 (mt : Int) ∧ s9 = .int .i64 (bh : Int) ∧ Hid (Come2 (figs U ++ F.take bh) bh ov V4) ∧ wx.heap[w.heap.size]? = some (.cells (intC bs (digs 12 V4)) 119 (0, 0)) ∧ Below w.heap.size w wx)
            case first =>
              rcases HE.out with ⟨rfl, e1, e2, e3, e4⟩ | ⟨rfl, e1, e2, e3, e4⟩
              · subst e1 e2 e3
                go_upto_block 4 with fail
                go_wp2
                go_loopg [5, 7, 9] nr (fun n s5 s7 s9 wr => ∃ (m j4 m4 b4 : Nat) (V : Int), Hid (n + m = nr) ∧ Hid (j4 = jb + m) ∧ Hid (m4 = nf + m) ∧ Hid (b4 = min 6 m) ∧ m ≤ nr ∧ j4 ≤ s.size ∧ m4 ≤ 200000000000000 ∧ b4 ≤ 6 ∧ s5 = .int .i64 (j4 : Int) ∧ s7 = .int .i64 (m4 : Int) ∧ s9 = .int .i64 (b4 : Int) ∧ Hid (Come2 (figs U ++ F.take b4) b4 ov V) ∧ Hid (wr.heap[w.heap.size]? = some (.cells (intC bs (digs 12 V)) 119 (0, 0))) ∧ Hid (Below w.heap.size w wr))
                case atStart => exact ⟨0, jb, nf, 0, V, rfl, rfl, rfl, rfl, Nat.zero_le _, by omega, by omega, by omega, by rw [HNR.out.2]; go_num, rfl, rfl, HV0.out, HX2.out, HB2.out⟩
                case round =>
                  obtain ⟨m, j4, m4, b4, V4, HN, HJ4, HM4, HB4, hm, hj4, hm4, hb4, rfl, rfl, rfl, HV4, HXq, HBq⟩ := hrel
                  by_cases hlt : m < nr
                  · obtain ⟨zz, hj, hzz, hz1, hz2, hfg⟩ : ∃ zz : Int, ∃ h : j4 < s.size, (s[j4].toNat : Int) = zz ∧ 48 ≤ zz ∧ zz ≤ 57 ∧ figAt s.data.toList j4 = true := by
                      have := HG.out m hlt
                      rw [← HJ4.out] at this
                      exact this
                    have k1 := fun w => kf j4 w
                    rw [hfg] at k1
                    have HL := Lib.hid hlt
                    obtain ⟨dg, hdg0⟩ : ∃ dg : Int, zz - 48 = dg := ⟨_, rfl⟩
                    have HD9 : Hid (0 ≤ dg ∧ dg ≤ 9) := by show _ ∧ _; omega
                    have HDG : Hid (∀ h2 : m < F.length, dg = (figV F[m] : Int)) := fun h2 => by rw [← hdg0]; exact HGv.out m hlt h2 zz (by rw [← HJ4.out]; exact ⟨hj, hzz⟩)
                    have hzw : IntKind.u64.wrap zz = zz := by simp only [IntKind.wrap_u64]; omega
                    have hdg : IntKind.u64.wrap (zz - 48) = dg := by rw [hdg0]; simp only [IntKind.wrap_u64]; have := HD9.out; omega
                    clear hdg0 hfg hz1 hz2
                    by_cases hb6 : b4 < 6
                    · have HL6 := Lib.hid hb6
                      go_upto_region 22 with (go_at_call 153; with_reducible refine (k1 _).mono ?_; rintro e w' ⟨rfl, rfl⟩)
                      go_cut [] (fun wx => wx.heap[w.heap.size]? = some (.cells (intC bs (digs 12 (V4 * 10 + dg))) 119 (0, 0)) ∧ Below w.heap.size w wx)
                      case first =>
                        obtain ⟨wq, hwq⟩ : ∃ wq, wq = wr := ⟨_, rfl⟩
                        subst hwq
                        obtain ⟨r0, r1, r2, r3, r4, r5, r6, r7, r8, r9, r10, r11, hRS⟩ := explicit12 (digs 12 V4) (digs_length 12 V4)
                        have hrow : Stands w.heap.size #[.bool bs, .int .u64 r0, .int .u64 r1, .int .u64 r2, .int .u64 r3, .int .u64 r4, .int .u64 r5, .int .u64 r6, .int .u64 r7, .int .u64 r8, .int .u64 r9, .int .u64 r10, .int .u64 r11] 119 wq := by
                          show wq.heap[w.heap.size]? = _
                          rw [HXq.out]; unfold intC; rw [hRS]; rfl
                        have hcells := stands_cells hrow
                        obtain ⟨ha0, hf0, ha1, hf1, ha2, hf2, ha3, hf3, ha4, hf4, ha5, hf5, ha6, hf6, ha7, hf7, ha8, hf8, ha9, hf9, ha10, hf10, ha11, hf11, ha12, hf12⟩ := hcells
                        have t1 := fun w => timesB bs V4 10 dg w (by omega) (by omega) (by have := HD9.out; omega) (by have := HD9.out; omega)
                        obtain ⟨z0, z1, z2, z3, z4, z5, z6, z7, z8, z9, z10, z11, hZS⟩ := explicit12 (digs 12 (V4 * 10 + dg)) (digs_length 12 (V4 * 10 + dg))
                        have hbR : big bs V4 = .agg #[.bool bs, .int .u64 r0, .int .u64 r1, .int .u64 r2, .int .u64 r3, .int .u64 r4, .int .u64 r5, .int .u64 r6, .int .u64 r7, .int .u64 r8, .int .u64 r9, .int .u64 r10, .int .u64 r11] := by unfold big intC; rw [hRS]; rfl
                        have hbZ : big bs (V4 * 10 + dg) = .agg #[.bool bs, .int .u64 z0, .int .u64 z1, .int .u64 z2, .int .u64 z3, .int .u64 z4, .int .u64 z5, .int .u64 z6, .int .u64 z7, .int .u64 z8, .int .u64 z9, .int .u64 z10, .int .u64 z11] := by unfold big intC; rw [hZS]; rfl
                        rw [hbR, hbZ] at t1
                        have HZS := Lib.hid hZS
                        have HRow := Lib.hid (show Stands _ _ _ wq.drew from hrow)
                        clear hZS hRS hbR hbZ hrow
                        go_region_law (first
                          | (go_simp; go_at_call 154; with_reducible refine (t1 _).mono ?_; rintro e w1 ⟨rfl, hb1⟩; (have hst : Stands _ _ _ w1 := stands_old HRow.out hb1); (have hh := stands_cells hst); obtain ⟨qa0, qf0, qa1, qf1, qa2, qf2, qa3, qf3, qa4, qf4, qa5, qf5, qa6, qf6, qa7, qf7, qa8, qf8, qa9, qf9, qa10, qf10, qa11, qf11, qa12, qf12⟩ := hh))
                        all_goals
                          have hr3 := set13_row (v0 := .bool bs) (v1 := .int .u64 z0) (v2 := .int .u64 z1) (v3 := .int .u64 z2) (v4 := .int .u64 z3) (v5 := .int .u64 z4) (v6 := .int .u64 z5) (v7 := .int .u64 z6) (v8 := .int .u64 z7) (v9 := .int .u64 z8) (v10 := .int .u64 z9) (v11 := .int .u64 z10) (v12 := .int .u64 z11) hst
                          have hb3 : Below w.heap.size w (((((((((((((w1.setCell ⟨w.heap.size, 0, none⟩ (.bool bs)).setCell ⟨w.heap.size, 1, none⟩ (.int .u64 z0)).setCell ⟨w.heap.size, 2, none⟩ (.int .u64 z1)).setCell ⟨w.heap.size, 3, none⟩ (.int .u64 z2)).setCell ⟨w.heap.size, 4, none⟩ (.int .u64 z3)).setCell ⟨w.heap.size, 5, none⟩ (.int .u64 z4)).setCell ⟨w.heap.size, 6, none⟩ (.int .u64 z5)).setCell ⟨w.heap.size, 7, none⟩ (.int .u64 z6)).setCell ⟨w.heap.size, 8, none⟩ (.int .u64 z7)).setCell ⟨w.heap.size, 9, none⟩ (.int .u64 z8)).setCell ⟨w.heap.size, 10, none⟩ (.int .u64 z9)).setCell ⟨w.heap.size, 11, none⟩ (.int .u64 z10)).setCell ⟨w.heap.size, 12, none⟩ (.int .u64 z11)) := below_set13 (HBq.out.drew.trans (hb1.mono HBq.out.size)) (Nat.le_refl _)
                          generalize (((((((((((((w1.setCell ⟨w.heap.size, 0, none⟩ (.bool bs)).setCell ⟨w.heap.size, 1, none⟩ (.int .u64 z0)).setCell ⟨w.heap.size, 2, none⟩ (.int .u64 z1)).setCell ⟨w.heap.size, 3, none⟩ (.int .u64 z2)).setCell ⟨w.heap.size, 4, none⟩ (.int .u64 z3)).setCell ⟨w.heap.size, 5, none⟩ (.int .u64 z4)).setCell ⟨w.heap.size, 6, none⟩ (.int .u64 z5)).setCell ⟨w.heap.size, 7, none⟩ (.int .u64 z6)).setCell ⟨w.heap.size, 8, none⟩ (.int .u64 z7)).setCell ⟨w.heap.size, 9, none⟩ (.int .u64 z8)).setCell ⟨w.heap.size, 10, none⟩ (.int .u64 z9)).setCell ⟨w.heap.size, 11, none⟩ (.int .u64 z10)).setCell ⟨w.heap.size, 12, none⟩ (.int .u64 z11)) = W3 at hr3 hb3 ⊢
                          clear ha0 hf0 qa0 qf0 ha1 hf1 qa1 qf1 ha2 hf2 qa2 qf2 ha3 hf3 qa3 qf3 ha4 hf4 qa4 qf4 ha5 hf5 qa5 qf5 ha6 hf6 qa6 qf6 ha7 hf7 qa7 qf7 ha8 hf8 qa8 qf8 ha9 hf9 qa9 qf9 ha10 hf10 qa10 qf10 ha11 hf11 qa11 qf11 ha12 hf12 qa12 qf12 hst t1 hb1
                          go_wp2_with fail
                          go_meet
                          case rel =>
                            refine ⟨?_, hb3⟩
                            have h : W3.heap[w.heap.size]? = _ := hr3
                            rw [h]; unfold intC; rw [HZS.out]; rfl
                      case rest =>
                        obtain ⟨hX3, hB3⟩ := hcut
                        have HR3 := Lib.hid hX3
                        have HB3 := Lib.hid hB3
                        have HSt : Hid (Come2 (figs U ++ F.take (b4 + 1)) (b4 + 1) ov (V4 * 10 + dg)) := by
                          show Come2 _ _ _ _
                          obtain rfl : b4 = m := by have := HB4.out; omega
                          have h2 : b4 < F.length := by have := HNR.out.1; omega
                          have h3 := come2_step HV4.out F[b4] dg (HDG.out h2) HD9.out
                          rw [List.append_assoc, ← ref_take_snoc F b4 h2] at h3
                          exact h3
                        clear hX3 hB3 k1 hzz hzw hdg
                        go_wp2
                        go_roundg (gk - 1)
                        case measure => have h1 := HN.out; have h2 := HL.out; omega
                        case rel => exact ⟨m + 1, j4 + 1, m4 + 1, b4 + 1, V4 * 10 + dg, by have h1 := HN.out; have h2 := HL.out; show _ = _; omega, by have := HJ4.out; show _ = _; omega, by have := HM4.out; show _ = _; omega, by have h1 := HB4.out; have h2 := HL6.out; show _ = _; omega, HL.out, by omega, by have h1 := HM4.out; have h2 := HL.out; omega, HL6.out, by go_num, by go_num, by go_num, HSt.out, HR3.out, HB3.out⟩
                    · clear hzz hzw hdg
                      go_wp2_with (go_at_call 153; with_reducible refine (k1 _).mono ?_; rintro e w' ⟨rfl, rfl⟩)
                      go_roundg (gk - 1)
                      case measure => have h1 := HN.out; have h2 := HL.out; omega
                      case rel => exact ⟨m + 1, j4 + 1, m4 + 1, b4, V4, by have h1 := HN.out; have h2 := HL.out; show _ = _; omega, by have := HJ4.out; show _ = _; omega, by have := HM4.out; show _ = _; omega, by have h1 := HB4.out; show _ = _; omega, HL.out, by omega, by have h1 := HM4.out; have h2 := HL.out; omega, hb4, by go_num, by go_num, rfl, HV4.out, HXq.out, HBq.out⟩
                  · obtain rfl : m = nr := by omega
                    have k1 := fun w => kf j4 w
                    rw [HJ4.out, HGe.out (by first | rfl | trivial), ← HJ4.out] at k1
                    go_wp2_with (go_at_call 153; with_reducible refine (k1 _).mono ?_; rintro e w' ⟨rfl, rfl⟩)
                    go_meet
                    case rel => exact ⟨V4, by rw [HJ4.out], by rw [HM4.out], by rw [HB4.out], by rw [← HB4.out]; exact HV4.out, HXq.out, HBq.out⟩
              · subst e1 e2 e3
                go_wp2
                go_meet
                case rel => exact ⟨V, rfl, rfl, rfl, HV0.out, HX2.out, HB2.out⟩
            case rest =>
              obtain ⟨V4, rfl, rfl, rfl, HV4, hX4, hB4⟩ := hcut
              have HX4 := Lib.hid hX4
              have HB4 := Lib.hid hB4
              clear hX4 hB4 HX2 HB2 HV0 HP HG HGe HGv kf hjb
              by_cases hmt : mt = 0
              · subst hmt
                go_wp2
                go_ret3
                exact ⟨(HZ0.out (by first | rfl | trivial)).symm, HB4.out⟩
              · have h0 : ((mt : Int) == 0) = false := beq_eq_false_iff_ne.2 (by omega)
                have HMT := Lib.hid hmt
                clear hmt
                go_upto_block 6 with fail
                go_cut [9] (fun _ wx => ∃ V6 : Int, Hid (V6 = V4 * 10 ^ (6 - bh)) ∧ wx.heap[w.heap.size]? = some (.cells (intC bs (digs 12 V6)) 119 (0, 0)) ∧ Below w.heap.size w wx)
                case first =>
                  go_wp2
                  go_loopg [9] (6 - bh) (fun n s9 wr => ∃ (b : Nat) (V : Int), Hid (n + b = 6) ∧ b ≤ 6 ∧ s9 = .int .i64 (b : Int) ∧ Hid (V * 10 ^ n = V4 * 10 ^ (6 - bh)) ∧ Hid (wr.heap[w.heap.size]? = some (.cells (intC bs (digs 12 V)) 119 (0, 0))) ∧ Hid (Below w.heap.size w wr))
                  case atStart => exact ⟨bh, V4, by show _ = _; omega, hbh, rfl, rfl, HX4.out, HB4.out⟩
                  case round =>
                    obtain ⟨b, V, HN, hb, rfl, HV, HXq, HBq⟩ := hrel
                    by_cases hb6 : b < 6
                    · have hwr := HXq.out
                      have t1 : ∀ w, Calls Tryz.prog 154 #[.agg (intC bs (digs 12 V)), .int .u64 10, .int .u64 0] w fun e w' => e = .returned (.agg (intC bs (digs 12 (V * 10)))) ∧ Below w.heap.size w w' := fun w => by
                        have := timesB bs V 10 0 w (by omega) (by omega) (by omega) (by omega)
                        rw [Int.add_zero] at this
                        exact this
                      have HL6 := Lib.hid hb6
                      have hSZ : Hid ((Tryz.prog.info? 119).map (·.size) = some (intC bs (digs 12 V)).size) := by show _ = _; rw [big_size]; exact Tryz.info48
                      have hSZ2 : Hid ((Tryz.prog.info? 119).map (·.size) = some (intC bs (digs 12 (V * 10))).size) := by show _ = _; rw [big_size]; exact Tryz.info48
                      go_wp2_with (first
                        | (with_reducible refine wpList_load_row rfl 119 _ rfl w.heap.size rfl 119 _ (0, 0) _ hwr Tryz.underlying119 rfl hSZ.out ?_)
                        | (go_at_call 154; refine (t1 _).mono ?_; rintro e w1 ⟨rfl, hb1⟩; have HR1 := row_old hwr hb1; have HB1 := Lib.hid (HBq.out.trans (hb1.mono HBq.out.size)))
                        | (with_reducible refine wpList_store_mid rfl 119 _ _ rfl w.heap.size 0 (intC bs (digs 12 (V * 10))) rfl rfl (there_big HR1.out) hSZ2.out (intC_one _ _) ?_))
                      go_roundg (gk - 1)
                      case measure => have h1 := HN.out; have h2 := HL6.out; omega
                      case rel => exact ⟨b + 1, V * 10, by have h1 := HN.out; have h2 := HL6.out; show _ = _; omega, HL6.out, by go_num, pow_down HV.out HN.out HL6.out, setCells_whole HR1.out (by rw [big_size, big_size]), below_setCells (Nat.le_refl _) _ _ HB1.out⟩
                    · obtain rfl : b = 6 := by omega
                      have HG0 : Hid (gk = 0) := by show _ = _; have := HN.out; omega
                      go_wp2
                      go_meet
                      case rel =>
                        refine ⟨V, ?_, HXq.out, HBq.out⟩
                        have h := HV.out
                        rw [HG0.out, Int.pow_zero, Int.mul_one] at h
                        exact h
                case rest =>
                  obtain ⟨V6, HV6, hX6, hB6⟩ := hcut
                  have HB6 := Lib.hid hB6
                  clear hB6
                  have hV6 : 0 ≤ V6 ∧ V6 < wide 12 := come2_wide HV4.out hbh HV6.out
                  have k6 := fun w => back_pair bs V6 w hV6.1 hV6.2
                  obtain ⟨rN, hrN⟩ : ∃ rN, (backP bs V6).1 = rN := ⟨_, rfl⟩
                  obtain ⟨rE, hrE⟩ : ∃ rE, (backP bs V6).2 = rE := ⟨_, rfl⟩
                  rw [hrN, hrE] at k6
                  have HRR := Lib.hid (And.intro hrN hrE)
                  have hSZ : Hid ((Tryz.prog.info? 119).map (·.size) = some (intC bs (digs 12 V6)).size) := by show _ = _; rw [big_size]; exact Tryz.info48
                  clear hV6 hrN hrE
                  cases ov with
                  | true =>
                    go_wp2_with (first
                      | (with_reducible refine wpList_load_row rfl 119 _ rfl w.heap.size rfl 119 _ (0, 0) _ hX6 Tryz.underlying119 rfl hSZ.out ?_)
                      | (go_at_call 101; refine (k6 _).mono ?_; rintro e w1 ⟨rfl, hb1⟩))
                    go_ret3
                    exact ⟨(HZ1.out V HV.out HMT.out).symm, HB6.out.trans (hb1.mono HB6.out.size)⟩
                  | false =>
                    have HV5 : Hid (V6 = (natOf (figs U ++ F.take bh) : Int) * 10 ^ (6 - bh)) := by show _ = _; rw [HV6.out, HV4.out.2 rfl]
                    by_cases hr0 : rE = 0
                    · have HE0 := Lib.hid hr0
                      subst hr0
                      go_wp2_with (first
                        | (with_reducible refine wpList_load_row rfl 119 _ rfl w.heap.size rfl 119 _ (0, 0) _ hX6 Tryz.underlying119 rfl hSZ.out ?_)
                        | (go_at_call 101; refine (k6 _).mono ?_; rintro e w1 ⟨rfl, hb1⟩))
                      go_ret3
                      refine ⟨?_, HB6.out.trans (hb1.mono HB6.out.size)⟩
                      have h := (HZ2.out HMT.out V6 HV5.out).1 HRR.out.2
                      rw [HRR.out.1] at h
                      exact h.symm
                    · have hr1 : ((rE : Int) != 0) = true := bne_iff_ne.2 hr0
                      have HE0 := Lib.hid hr0
                      clear hr0
                      go_wp2_with (first
                        | (with_reducible refine wpList_load_row rfl 119 _ rfl w.heap.size rfl 119 _ (0, 0) _ hX6 Tryz.underlying119 rfl hSZ.out ?_)
                        | (go_at_call 101; refine (k6 _).mono ?_; rintro e w1 ⟨rfl, hb1⟩))
                      go_ret3
                      exact ⟨((HZ2.out HMT.out V6 HV5.out).2 (by rw [HRR.out.2]; exact HE0.out)).symm, HB6.out.trans (hb1.mono HB6.out.size)⟩
end Go.Proofs.YtbodnhpjfdnjfaaGreatDoor
