/- Packed texts: SeRight, SeRight8, SedBackWalk. What each of them proves stands above its theorems; the conditions stand in these. -/
import Derived.Test.YtgceckejchdnlaaGreatDoorB34
import Derived.Test.YtgceckejchdnlaaGreatDoorB43
import Derived.Test.YtgceckejchdnlaaGreatDoorB44
import Derived.Test.YtgceckejchdnlaaGreatDoorB45
import Derived.Test.YtgceckejchdnlaaGreatDoorB46
namespace Go.Proofs.YtgceckejchdnlaaGreatDoor
open Go.RowKit Go.Lib

/-- An address's own slice is right, or empty. -/
theorem ads_right {B : Nat} {t : Tr} {v : Value} {w : World} (ht : t.ok ∧ t.size ≤ 2000) (h : IsRow B (t.row 0) v w) :
    Calls Tryz.prog 17 #[v] w fun e w' => e = .returned (.bool true) ∧ Below w.heap.size w w' :=
  refRight_tree v t w ht.1 ht.2 (IsRow.lies h (by rw [Tr.row_length]; have := ht.2; omega))
theorem box3 (w : World) (x y z : Value) : Below w.heap.size w (w.alloc (.cells #[x, y, z] 33)) := (Below.refl _ w).alloc (Nat.le_refl _) _
set_option maxHeartbeats 2000000 in
set_option maxRecDepth 20000 in
theorem goodAddr_none (k : Int) (hk : k = 0 ∨ k = 2) (w : World) :
    Calls Tryz.prog 15 #[.agg #[.int .i64 k, .int .i64 0, .slice none 0 0]] w fun e w' => e = .returned (.bool true) ∧ Below w.heap.size w w' := by
  rcases hk with rfl | rfl
  all_goals
    go_enter Tryz.func15, Tryz.ntmps15
    go_wp2_with fail
    exact bodyPost_ret (results_tmp rfl _ _ _) rfl ⟨rfl, box3 w _ _ _⟩
set_option maxHeartbeats 2000000 in
set_option maxRecDepth 20000 in
theorem goodAddr_line (n : Nat) (h1 : 1 ≤ n) (h2 : n ≤ 1000000000) (w : World) :
    Calls Tryz.prog 15 #[.agg #[.int .i64 1, .int .i64 (n : Int), .slice none 0 0]] w fun e w' => e = .returned (.bool true) ∧ Below w.heap.size w w' := by
  have e1 : decide ((1 : Int) ≤ (n : Int)) = true := by simp; omega
  have e2 : decide ((n : Int) ≤ 1000000000) = true := by simp; omega
  go_enter Tryz.func15, Tryz.ntmps15
  go_wp2_with fail
  exact bodyPost_ret (results_tmp rfl _ _ _) rfl ⟨rfl, box3 w _ _ _⟩
set_option maxHeartbeats 2000000 in
set_option maxRecDepth 20000 in
theorem goodAddr_re (ao : Option Addr) (a2 a3 : Nat) (w : World)
    (k1 : ∀ w1, Below w.heap.size w w1 → Calls Tryz.prog 17 #[.slice ao a2 a3] w1 fun e w' => e = .returned (.bool true) ∧ Below w1.heap.size w1 w') :
    Calls Tryz.prog 15 #[.agg #[.int .i64 3, .int .i64 0, .slice ao a2 a3]] w fun e w' => e = .returned (.bool true) ∧ Below w.heap.size w w' := by
  have k2 := k1 _ (box3 w (.int .i64 3) (.int .i64 0) (.slice ao a2 a3))
  clear k1
  go_enter Tryz.func15, Tryz.ntmps15
  go_wp2_with (go_at_call 17; refine k2.mono ?_; rintro e w2 ⟨rfl, hb2⟩)
  exact bodyPost_ret (results_tmp rfl _ _ _) rfl ⟨rfl, (box3 w _ _ _).trans (hb2.mono (by simp))⟩
/-- An address that was read is a good one. -/
theorem goodAddr_any (B : Nat) (a : Ad) (v : Value) (w : World) (ha : a.good) (h : AdS B a v w) :
    Calls Tryz.prog 15 #[.agg #[.int .i64 (a.k : Int), .int .i64 (a.n : Int), v]] w fun e w' => e = .returned (.bool true) ∧ Below w.heap.size w w' := by
  cases a with
  | none =>
    obtain rfl : v = .slice none 0 0 := h
    exact goodAddr_none 0 (.inl rfl) w
  | last =>
    obtain rfl : v = .slice none 0 0 := h
    exact goodAddr_none 2 (.inr rfl) w
  | line n =>
    obtain rfl : v = .slice none 0 0 := h
    exact goodAddr_line n ha.1 ha.2 w
  | re t =>
    obtain ⟨a1, a2, a3, rfl⟩ := ads_slice h
    exact goodAddr_re a1 a2 a3 w fun w1 hb => ads_right ha (AdS.below (a := .re t) h hb)
theorem bytes_at (s : ByteArray) (k : Nat) (h : k < s.size) : s.data.toList[k]? = some s[k] := by
  rw [List.getElem?_eq_getElem (by rw [Array.length_toList]; exact h)]
  rfl
set_option maxHeartbeats 2000000 in
set_option maxRecDepth 20000 in
theorem one8_any (s : ByteArray) (c : UInt8) (hs : s.size ≤ 1000000000) (w : World) :
    Calls Tryz.prog 18 #[.string s, .int .u8 (c.toNat : Int)] w fun e w' => e = .returned (.bool (s.data.toList.contains c)) ∧ w = w' := by
  obtain ⟨Q, hQ⟩ : ∃ Q, Q = s.data.toList.contains c := ⟨_, rfl⟩
  have HQ := Lib.hid hQ
  rw [← hQ]
  clear hQ
  go_enter Tryz.func18, Tryz.ntmps18
  go_wp2
  go_loop [5] (fun i => ∃ k : Nat, k ≤ s.size ∧ i = .int .i64 k ∧ Hid (∀ r, r < k → s.data.toList[r]? ≠ some c)) (fun i => s.size - (RowKit.intOf i).toNat)
  case atStart => exact ⟨0, Nat.zero_le _, rfl, fun r hr => by omega⟩
  case round =>
    obtain ⟨k, hk, rfl, HP⟩ := hrel
    by_cases hlt : k < s.size
    · have hltI : (k : Int) < (s.size : Int) := by omega
      have hb := bytes_at s k hlt
      have HB := Lib.hid hb
      clear hb
      by_cases he : s[k] = c
      · have hD : s.data.toList.contains c = true := by
          rw [List.contains_iff_mem]
          have := HB.out
          rw [he] at this
          exact List.mem_of_getElem? this
        have hq : ((s[k].toNat : Int) == (c.toNat : Int)) = true := by rw [he]; simp
        have HD := Lib.hid hD
        clear hD he
        go_wp2
        go_ret
        exact ⟨by rw [HQ.out, HD.out]; rfl, rfl⟩
      · have hq : ((s[k].toNat : Int) == (c.toNat : Int)) = false := ne_int he
        have HE := Lib.hid he
        clear he
        go_wp2
        go_round
        case rel => exact ⟨k + 1, by omega, by go_num, fun r hr hh => by
          by_cases hrk : r = k
          · rw [hrk, HB.out] at hh
            exact HE.out (Option.some.inj hh)
          · exact HP.out r (by omega) hh⟩
        case measure => simp [RowKit.intOf]; omega
    · have hD : s.data.toList.contains c = false := by
        rw [Bool.eq_false_iff]
        intro hc
        rw [List.contains_iff_mem] at hc
        obtain ⟨r, hr⟩ := List.getElem?_of_mem hc
        have := at_lt hr
        rw [Array.length_toList] at this
        exact HP.out r (by show r < k; have : s.data.size = s.size := rfl; omega) hr
      have HD := Lib.hid hD
      clear hD
      go_wp2
      go_ret
      exact ⟨by rw [HQ.out, HD.out]; rfl, rfl⟩
end Go.Proofs.YtgceckejchdnlaaGreatDoor
namespace Go.Proofs.YtgceckejchdnlaaGreatDoor
open Go.RowKit Go.Lib

set_option maxHeartbeats 16000000 in
set_option maxRecDepth 20000 in
theorem refRight8_any (B : Nat) (cs : List Cm) (v : Value) (w : World) (h : ScrS B cs v w) (hl : cs.length ≤ 2000) (hg : ∀ c ∈ cs, c.Good) (hlab : ∀ c ∈ cs, c.label.length ≤ 1000000000) (hbd : boundD cs = true) :
    Calls Tryz.prog 8 #[v] w fun e w' => e = .returned (.bool true) ∧ Below w.heap.size w w' := by
  obtain ⟨ao, cap, rfl⟩ := h.shape
  have kn := fun w1 (hb : Below w.heap.size w w1) => named_any B cs _ w1 (h.below hb) (by omega)
  rw [hbd] at kn
  obtain ⟨n, hn⟩ : ∃ n, n = cs.length := ⟨_, rfl⟩
  rw [← hn] at h hl kn ⊢
  have HS := Lib.hid h
  have HN := Lib.hid hn
  have HG := Lib.hid (And.intro hg hlab)
  have KN := Lib.hid kn
  clear h hn hg hlab hbd kn
  have h20 : decide ((2000 : Int) < (n : Int)) = false := by simp; omega
  go_enter Tryz.func8, Tryz.ntmps8
  go_wp2_with fail
  go_loopw [3] (fun i wr => ∃ k : Nat, k ≤ n ∧ i = .int .i64 k ∧ Hid (Below w.heap.size w wr)) (fun i _ => n - (RowKit.intOf i).toNat)
  case atStart => exact ⟨0, Nat.zero_le _, rfl, Below.refl _ _⟩
  case round =>
    obtain ⟨k, hk, rfl, HB⟩ := hrel
    by_cases hlt : k < n
    · have hltI : (k : Int) < (n : Int) := by omega
      obtain ⟨c, hc⟩ : ∃ c, cs[k]? = some c := ⟨cs[k]'(by have := HN.out; omega), List.getElem?_eq_getElem _⟩
      have hcm := List.mem_of_getElem? hc
      have hcg := HG.out.1 c hcm
      have hcl := HG.out.2 c hcm
      obtain ⟨g, a1, a2, a3, b1, b2, b3, d1, d2, d3, q1, q2, q3, rfl, hgl, hcm1, ⟨r0, r1, r2, r3, r4, r5, r6, r7, r8, r9, r10, r11, r12⟩⟩ := (HS.out.below HB.out).row hc
      obtain ⟨va, vb, vd, vq, he, h1, h2, h3, h4⟩ := hcm1
      obtain ⟨op, a, b, neg, re, put, all, prt, label⟩ := c
      dsimp only at r0 r1 r2 r3 r4 r5 r6 r7 r8 r9 r10 r11 r12 he h1 h2 h3 h4 hcl
      simp only [List.cons.injEq, true_and, and_true] at he
      obtain ⟨rfl, rfl, rfl, rfl⟩ := he
      have hz := HB.out.size
      obtain ⟨X, hX⟩ : ∃ X : ByteArray, X = ⟨label.toArray⟩ := ⟨_, rfl⟩
      have hXe : X.toList.isEmpty = (label == []) := by rw [hX]; exact lab_empty label
      have kN := fun w1 => refIsName_any X w1 (by rw [hX]; show label.toArray.size ≤ _; rw [List.size_toArray]; omega)
      have hXl : X.data.toList = label := by rw [hX]
      rw [hXl] at kN
      rw [← hX] at r12
      obtain ⟨_, hga, hgb, hab, hkd⟩ : True ∧ a.good ∧ b.good ∧ (a.k = 0 → b.k = 0) ∧ _ := ⟨trivial, hcg.a, hcg.b, hcg.ab, hcg.kind⟩
      dsimp only at hkd
      have hp := own_zeroB h4
      clear hX hXl hcl hcg hcm hc
      obtain ⟨W, hW⟩ : ∃ W, W = wr.alloc (.cells #[.int .u8 (op.toNat : Int), .int .i64 (a.k : Int), .int .i64 (a.n : Int), .slice a1 a2 a3, .int .i64 (b.k : Int), .int .i64 (b.n : Int), .slice b1 b2 b3, .bool neg, .slice d1 d2 d3, .slice q1 q2 q3, .bool all, .bool prt, .string X] 36) := ⟨_, rfl⟩
      have hbW : Below wr.heap.size wr W := by rw [hW]; exact (Below.refl _ _).alloc (Nat.le_refl _) _
      have hWz : W.heap.size = wr.heap.size + 1 := by rw [hW]; simp
      have hc1 : Cq wr.heap.size [.int .u8 (op.toNat : Int), .int .i64 (a.k : Int), .int .i64 (a.n : Int), .slice a1 a2 a3, .int .i64 (b.k : Int), .int .i64 (b.n : Int), .slice b1 b2 b3, .bool neg, .slice d1 d2 d3, .slice q1 q2 q3, .bool all, .bool prt, .string X] W := by
        rw [hW]; exact heap_alloc_new wr _
      have kA := fun w1 (hb : Below wr.heap.size wr w1) => goodAddr_any B a (.slice a1 a2 a3) w1 hga (h1.below hb)
      have kB := fun w1 (hb : Below wr.heap.size wr w1) => goodAddr_any B b (.slice b1 b2 b3) w1 hgb (h2.below hb)
      have HW := Lib.hid (And.intro hW (And.intro hbW (And.intro hWz hc1)))
      have HK := Lib.hid (And.intro kA (And.intro kB kN))
      have st : ∀ w2, Below (wr.heap.size + 1) W w2 → Cq wr.heap.size [.int .u8 (op.toNat : Int), .int .i64 (a.k : Int), .int .i64 (a.n : Int), .slice a1 a2 a3, .int .i64 (b.k : Int), .int .i64 (b.n : Int), .slice b1 b2 b3, .bool neg, .slice d1 d2 d3, .slice q1 q2 q3, .bool all, .bool prt, .string X] w2 := fun w2 hb => (hb.block _ (by omega)).trans HW.out.2.2.2
      have ST := Lib.hid st
      have H3 := Lib.hid h3
      obtain ⟨f0, f1, f2, f3, f4, f5, f6, f7, f8, f9, f10, f11, f12⟩ := cells13 hc1
      clear st hW hbW hWz hc1 kA kB kN h1 h2 h3 h4 hga hgb
      have HB0 := Lib.hid (show Below wr.heap.size wr W ∧ Below (wr.heap.size + 1) W W from ⟨HW.out.2.1, Below.refl _ _⟩)
      go_wp2_with fail
      rw [← HW.out.1]
      refine (HK.out.1 _ HB0.out.1).mono ?_
      rintro e w2 ⟨rfl, hb⟩
      have HB2 := Lib.hid (show Below wr.heap.size wr w2 ∧ Below (wr.heap.size + 1) W w2 from ⟨HB0.out.1.trans (hb.mono HB0.out.1.size), HB0.out.2.trans (hb.mono (by have := HB0.out.2.size; have := HW.out.2.2.1; omega))⟩)
      clear f0 f1 f2 f3 f4 f5 f6 f7 f8 f9 f10 f11 f12
      obtain ⟨f0, f1, f2, f3, f4, f5, f6, f7, f8, f9, f10, f11, f12⟩ := cells13 (ST.out w2 HB2.out.2)
      clear hb
      go_wp2_with fail
      refine (HK.out.2.1 _ HB2.out.1).mono ?_
      rintro e w3 ⟨rfl, hb⟩
      have HB3 := Lib.hid (show Below wr.heap.size wr w3 ∧ Below (wr.heap.size + 1) W w3 from ⟨HB2.out.1.trans (hb.mono HB2.out.1.size), HB2.out.2.trans (hb.mono (by have := HB2.out.2.size; have := HW.out.2.2.1; omega))⟩)
      clear f0 f1 f2 f3 f4 f5 f6 f7 f8 f9 f10 f11 f12
      obtain ⟨f0, f1, f2, f3, f4, f5, f6, f7, f8, f9, f10, f11, f12⟩ := cells13 (ST.out w3 HB3.out.2)
      clear hb
      have hR : (((a.k : Int) == 0) = true ∧ ((b.k : Int) != 0) = false) ∨ ((a.k : Int) == 0) = false := by
        by_cases hk0 : a.k = 0
        · left
          rw [hab hk0, hk0]
          exact ⟨rfl, rfl⟩
        · right
          rw [beq_eq_false_iff_ne]
          omega
      have hA58 : op = 58 → a.k = 0 → ((a.k : Int) == 0) = true := fun _ h => by rw [h]; rfl
      clear hab
      rcases hkd with ⟨rfl, ⟨t, rfl, ht⟩, hpn, rfl⟩ | ⟨⟨rfl, rfl, rfl, rfl⟩, (⟨hop, hlb⟩ | ⟨rfl, hk0, rfl, hnm⟩ | ⟨hpl, rfl⟩)⟩
      · have hq0 : 0 < q2 := by
          obtain ⟨ao, cap, hv⟩ := hp
          have : q2 = put.length := by injection hv
          have : 0 < put.length := List.length_pos_iff.2 hpn
          omega
        have hq : decide ((0 : Int) < (q2 : Int)) = true := by simp; omega
        have hq1 : decide (0 < q2) = true := decide_eq_true hq0
        have hd : ((d2 : Int) == 0) = false := by
          obtain ⟨ao, cap, hv⟩ := own_zeroB (show _ from H3.out)
          have h5 : d2 = (t.row 0).length := by injection hv
          have h6 := t.size_pos
          rw [Tr.row_length] at h5
          rw [beq_eq_false_iff_ne]; omega
        have kR := fun w1 (hb : Below wr.heap.size wr w1) => ads_right (B := B) ht (AdS.below (a := .re t) H3.out hb)
        have KR := Lib.hid kR
        have o1 : (((115 : UInt8).toNat : Int) == 115) = true := rfl
        have hXe2 : X.toList.isEmpty = true := hXe
        clear kR hp hpn ht hA58 hXe
        rcases hR with ⟨e1, e2⟩ | e1
        all_goals
          go_wp2_with fail
          refine (HK.out.2.2 _).mono ?_
          rintro e w4 ⟨rfl, rfl⟩
          go_wp2_with fail
          refine (KR.out _ HB3.out.1).mono ?_
          rintro e w5 ⟨rfl, hb⟩
          have HB5 := Lib.hid (show Below wr.heap.size wr w5 ∧ Below (wr.heap.size + 1) W w5 from ⟨HB3.out.1.trans (hb.mono HB3.out.1.size), HB3.out.2.trans (hb.mono (by have := HB3.out.2.size; have := HW.out.2.2.1; omega))⟩)
          clear f0 f1 f2 f3 f4 f5 f6 f7 f8 f9 f10 f11 f12
          obtain ⟨f0, f1, f2, f3, f4, f5, f6, f7, f8, f9, f10, f11, f12⟩ := cells13 (ST.out w5 HB5.out.2)
          clear hb
          go_wp2_with fail
          go_roundw
          case rel => exact ⟨k + 1, by omega, by go_num, HB.out.trans (HB5.out.1.mono hz)⟩
          case measure => simp [RowKit.intOf]; omega
      · have hq : ((q2 : Int) == 0) = true := by
          obtain ⟨ao, cap, hv⟩ := hp
          have : q2 = 0 := by injection hv
          rw [this]; rfl
        obtain ⟨rfl, rfl, rfl⟩ : d1 = none ∧ d2 = 0 ∧ d3 = 0 := by have := H3.out; injection this; exact ⟨‹_›, ‹_›, ‹_›⟩
        have o1 : ((op.toNat : Int) == 115) = false := ne_byte (d := 115) (by rcases hop with rfl | rfl <;> decide)
        have o2 : ((op.toNat : Int) == 58) = false := ne_byte (d := 58) (by rcases hop with rfl | rfl <;> decide)
        have o3 : ((op.toNat : Int) == 98) = true ∨ ((op.toNat : Int) == 98) = false ∧ ((op.toNat : Int) == 116) = true := by
          rcases hop with rfl | rfl
          · exact .inl rfl
          · exact .inr ⟨rfl, rfl⟩
        have hne : (label == []) = true ∨ (label == []) = false ∧ isNameB label = true := by
          rcases hlb with rfl | h
          · exact .inl rfl
          · cases he : (label == [])
            · exact .inr ⟨rfl, h⟩
            · exact .inl rfl
        clear hp hA58 hop hlb
        obtain ⟨E, hE⟩ : ∃ E, E = (label == []) := ⟨_, rfl⟩
        obtain ⟨M, hM⟩ : ∃ M, M = isNameB label := ⟨_, rfl⟩
        rw [← hE] at hXe hne
        rw [← hM] at HK hne
        clear hE hM
        rcases hR with ⟨e1, e2⟩ | e1
        all_goals
          go_wp2_with fail
          refine (HK.out.2.2 _).mono ?_
          rintro e w4 ⟨rfl, rfl⟩
          rcases o3 with o3 | ⟨o3, o4⟩
          all_goals
            rcases hne with rfl | ⟨rfl, rfl⟩
            all_goals
              go_wp2_with fail
              go_roundw
              case rel => exact ⟨k + 1, by omega, by go_num, HB.out.trans (HB3.out.1.mono hz)⟩
              case measure => simp [RowKit.intOf]; omega
      · have hq : ((q2 : Int) == 0) = true := by
          obtain ⟨ao, cap, hv⟩ := hp
          have : q2 = 0 := by injection hv
          rw [this]; rfl
        obtain ⟨rfl, rfl, rfl⟩ : d1 = none ∧ d2 = 0 ∧ d3 = 0 := by have := H3.out; injection this; exact ⟨‹_›, ‹_›, ‹_›⟩
        have o1 : (((58 : UInt8).toNat : Int) == 115) = false := rfl
        have o2 : (((58 : UInt8).toNat : Int) == 58) = true := rfl
        have e1 := hA58 rfl hk0
        rw [hnm] at HK
        have e2 : ((b.k : Int) != 0) = false := by
          rcases hR with ⟨_, h⟩ | h
          · exact h
          · rw [h] at e1; cases e1
        clear hp hA58 hk0 hnm hR
        go_wp2_with fail
        refine (HK.out.2.2 _).mono ?_
        rintro e w4 ⟨rfl, rfl⟩
        go_wp2_with fail
        go_roundw
        case rel => exact ⟨k + 1, by omega, by go_num, HB.out.trans (HB3.out.1.mono hz)⟩
        case measure => simp [RowKit.intOf]; omega
      · have hq : ((q2 : Int) == 0) = true := by
          obtain ⟨ao, cap, hv⟩ := hp
          have : q2 = 0 := by injection hv
          rw [this]; rfl
        obtain ⟨rfl, rfl, rfl⟩ : d1 = none ∧ d2 = 0 ∧ d3 = 0 := by have := H3.out; injection this; exact ⟨‹_›, ‹_›, ‹_›⟩
        have hno : ∀ d : UInt8, plainS.contains d = false → ((op.toNat : Int) == (d.toNat : Int)) = false := fun d hd => ne_byte (d := d) (fun h => by rw [h, hd] at hpl; cases hpl)
        have o1 : ((op.toNat : Int) == 115) = false := hno 115 (by decide)
        have o2 : ((op.toNat : Int) == 58) = false := hno 58 (by decide)
        have o3 : ((op.toNat : Int) == 98) = false := hno 98 (by decide)
        have o4 : ((op.toNat : Int) == 116) = false := hno 116 (by decide)
        have kO := fun w => one8_any ⟨#[112, 100, 113, 110, 104, 72, 103, 71, 120]⟩ op (by decide) w
        have hpl2 : (⟨#[112, 100, 113, 110, 104, 72, 103, 71, 120]⟩ : ByteArray).data.toList.contains op = true := hpl
        rw [hpl2] at kO
        have KO := Lib.hid kO
        have hXe2 : X.toList.isEmpty = true := hXe
        clear hp hA58 hno kO hpl2 hpl hXe
        rcases hR with ⟨e1, e2⟩ | e1
        all_goals
          go_wp2_with fail
          refine (HK.out.2.2 _).mono ?_
          rintro e w4 ⟨rfl, rfl⟩
          go_wp2_with fail
          refine (KO.out _).mono ?_
          rintro e w5 ⟨rfl, rfl⟩
          go_wp2_with fail
          go_roundw
          case rel => exact ⟨k + 1, by omega, by go_num, HB.out.trans (HB3.out.1.mono hz)⟩
          case measure => simp [RowKit.intOf]; omega
    · go_wp2_with fail
      refine (KN.out _ HB.out).mono ?_
      rintro e w2 ⟨rfl, hb⟩
      go_wp2_with fail
      exact bodyPost_ret (results_tmp rfl _ _ _) rfl ⟨rfl, HB.out.trans (hb.mono HB.out.size)⟩
end Go.Proofs.YtgceckejchdnlaaGreatDoor
namespace Go.Proofs.YtgceckejchdnlaaGreatDoor
open Go.RowKit Go.Lib

theorem rbak_reR : Rbak reR := fun t hok hsz => by
  rcases back_reads t hok hsz with h | h
  · exact .inl (reR_of h)
  · exact .inr (reR_of h)
/-- What a right script's text comes to. -/
theorem back_cases {l : List UInt8} {cs : List Cm} (hr : Rdy l cs) (hl : l.length ≤ 1500) : sedR (scT cs) = .ok cs ∨ sedR (scT cs) = .bad 7 ∨ sedR (scT cs) = .bad 6 := by
  unfold sedR
  split
  · exact .inr (.inr rfl)
  · rcases read_back rbak_reR hr.good (by have := hr.len; omega) hr.bound with h | h
    · exact .inl h
    · exact .inr (.inl h)
set_option maxHeartbeats 2000000 in
set_option maxRecDepth 20000 in
theorem back8_out (s : ByteArray) (w : World) (hs : s.size ≤ 140737488351232) (h : 1500 < s.size) :
    Calls Tryz.prog 3 #[.string s] w fun e w' => e = .returned (.bool true) ∧ Below w.heap.size w w' := by
  have kS := shown8_any w
  have hd : decide ((1500 : Int) < (s.size : Int)) = true := by simp; omega
  go_enter Tryz.func3, Tryz.ntmps3
  go_wp2_with (go_at_call 5; refine kS.mono ?_; rintro e w1 ⟨rfl, hb1⟩)
  exact bodyPost_ret (results_tmp rfl _ _ _) rfl ⟨rfl, hb1⟩
set_option maxHeartbeats 2000000 in
set_option maxRecDepth 20000 in
theorem back8_bad (s : ByteArray) (x : Int) (w : World) (h : s.size ≤ 1500) (hx : (x == 0) = false)
    (k1 : ∀ w, Calls Tryz.prog 6 #[.string s] w fun e w' => e = .returned (.tuple #[.slice none 0 0, .int .i64 x]) ∧ Below w.heap.size w w') :
    Calls Tryz.prog 3 #[.string s] w fun e w' => e = .returned (.bool true) ∧ Below w.heap.size w w' := by
  have kS := shown8_any w
  have hd : decide ((1500 : Int) < (s.size : Int)) = false := by simp; omega
  have hx2 : (x != 0) = true := by rw [bne_iff_ne]; intro h; rw [h] at hx; cases hx
  clear hx
  go_enter Tryz.func3, Tryz.ntmps3
  go_wp2_with fail
  refine kS.mono ?_
  rintro e w1 ⟨rfl, hb1⟩
  go_wp2_with fail
  refine (k1 w1).mono ?_
  rintro e w2 ⟨rfl, hb2⟩
  have HB := Lib.hid (hb1.trans (hb2.mono hb1.size))
  go_wp2_with fail
  exact bodyPost_ret (results_tmp rfl _ _ _) rfl ⟨rfl, HB.out⟩
/-- What is asked of the second Read. -/
def Again (cs : List Cm) (B : Nat) (e : Ending) (w' : World) : Prop :=
  (∃ v, e = .returned (.tuple #[v, .int .i64 0]) ∧ ScrS B cs v w') ∨ e = .returned (.tuple #[.slice none 0 0, .int .i64 7]) ∨ e = .returned (.tuple #[.slice none 0 0, .int .i64 6])
set_option maxHeartbeats 8000000 in
set_option maxRecDepth 20000 in
theorem back8_in (s T : ByteArray) (cs : List Cm) (w : World) (ht : Tab w) (h : s.size ≤ 1500) (hr : Rdy s.data.toList cs) (hT : T = ⟨(scT cs).toArray⟩)
    (k1 : ∀ w, Calls Tryz.prog 6 #[.string s] w fun e w' => (∃ v, e = .returned (.tuple #[v, .int .i64 0]) ∧ ScrS w.heap.size cs v w') ∧ Below w.heap.size w w')
    (k2 : ∀ w, Calls Tryz.prog 6 #[.string T] w fun e w' => Again cs w.heap.size e w' ∧ Below w.heap.size w w') :
    Calls Tryz.prog 3 #[.string s] w fun e w' => e = .returned (.bool true) ∧ Below w.heap.size w w' := by
  have kS := shown8_any w
  have hd : decide ((1500 : Int) < (s.size : Int)) = false := by simp; omega
  have hz : s.data.toList.length = s.size := Array.length_toList
  have hlen := hr.len
  have kT := fun B v w (ht : Tab w) (h1 : ScrS B cs v w) => text8_any B _ cs v w ht h1 hr
  rw [← hT] at kT
  have kR := fun B v w (h1 : ScrS B cs v w) => refRight8_any B cs v w h1 (by omega) hr.good (fun c hc => by have := hr.lab c hc; omega) hr.bound
  have kQ := fun B B' u v w (h1 : ScrS B cs u w) (h2 : ScrS B' cs v w) => same8_eq B B' cs u v w h1 h2 (by omega) hr.good (fun c hc => by have := hr.put c hc; omega)
  have HK := Lib.hid (And.intro kT (And.intro kR kQ))
  obtain ⟨n, hn⟩ : ∃ n, n = cs.length := ⟨_, rfl⟩
  have HN := Lib.hid hn
  have HT := Lib.hid ht
  clear hr hz hlen kT kR kQ hn ht hT h
  go_enter Tryz.func3, Tryz.ntmps3
  go_wp2_with fail
  refine kS.mono ?_
  rintro e w1 ⟨rfl, hb1⟩
  go_wp2_with fail
  refine (k1 w1).mono ?_
  rintro e w2 ⟨⟨v, rfl, hs2⟩, hb2⟩
  obtain ⟨ao, cap, rfl⟩ := hs2.shape
  rw [← HN.out] at hs2 ⊢
  have HS := Lib.hid hs2
  have HW := Lib.hid (hb1.trans (hb2.mono hb1.size))
  have kt := HK.out.1 _ _ w2 (HT.out.below HW.out) hs2
  clear k1 hs2 hb1 hb2
  go_wp2_with fail
  refine kt.mono ?_
  rintro e w3 ⟨rfl, hb3⟩
  have HB3 := Lib.hid hb3
  clear hb3 kt
  go_wp2_with fail
  refine (k2 w3).mono ?_
  rintro e w4 ⟨ha, hb4⟩
  have HB4 := Lib.hid (show Below w2.heap.size w2 w4 from HB3.out.trans (hb4.mono HB3.out.size))
  have HZ := Lib.hid hb4.size
  clear hb4
  have kr := HK.out.2.1 _ _ _ (HS.out.below HB4.out)
  rcases ha with ⟨u, rfl, hu⟩ | rfl | rfl
  · obtain ⟨bo, cap2, rfl⟩ := hu.shape
    rw [← HN.out] at hu ⊢
    have HU := Lib.hid hu
    clear hu k2
    go_wp2_with fail
    refine kr.mono ?_
    rintro e w5 ⟨rfl, hb5⟩
    have HB5 := Lib.hid (show Below w2.heap.size w2 w5 from HB4.out.trans (hb5.mono HB4.out.size))
    have hu5 := HU.out.below hb5
    have kq := HK.out.2.2 _ _ _ _ _ hu5 (HS.out.below HB5.out)
    clear hb5 hu5 kr
    go_wp2_with fail
    refine kq.mono ?_
    rintro e w6 ⟨rfl, hb6⟩
    have HB6 := Lib.hid (show Below w2.heap.size w2 w6 from HB5.out.trans (hb6.mono HB5.out.size))
    clear hb6 kq
    go_wp2_with fail
    exact bodyPost_ret (results_tmp rfl _ _ _) rfl ⟨rfl, HW.out.trans (HB6.out.mono HW.out.size)⟩
  all_goals
    clear k2
    go_wp2_with fail
    refine kr.mono ?_
    rintro e w5 ⟨rfl, hb5⟩
    have HB5 := Lib.hid (show Below w2.heap.size w2 w5 from HB4.out.trans (hb5.mono HB4.out.size))
    clear hb5 kr
    go_wp2_with fail
    exact bodyPost_ret (results_tmp rfl _ _ _) rfl ⟨rfl, HW.out.trans (HB5.out.mono HW.out.size)⟩
/-- The law's walk. -/
theorem sedBack_walk (s : ByteArray) (hs : s.size ≤ 140737488351232) (w : World) (ht : Tab w) :
    Calls Tryz.prog 3 #[.string s] w fun e w' => e = .returned (.bool true) ∧ Below w.heap.size w w' := by
  by_cases h : 1500 < s.size
  · exact back8_out s w hs h
  · have hz : s.data.toList.length = s.size := Array.length_toList
    have k1 := fun w => read8_any s w (by omega)
    cases hr : sedR s.data.toList with
    | bad x =>
      rw [hr] at k1
      exact back8_bad s x w (by omega) (sedR_bad0 hr) k1
    | ok cs =>
      rw [hr] at k1
      have hR := sedR_ok hr
      have hsz := sc_len cs hR.cms
      have hlen := hR.len
      have hTz : (⟨(scT cs).toArray⟩ : ByteArray).size = (scT cs).length := by show (scT cs).toArray.size = _; rw [List.size_toArray]
      have k2 := fun w => read8_any ⟨(scT cs).toArray⟩ w (by rw [hTz]; omega)
      have hTl : (⟨(scT cs).toArray⟩ : ByteArray).data.toList = scT cs := rfl
      rw [hTl] at k2
      refine back8_in s _ cs w ht (by omega) hR rfl k1 fun w => (k2 w).mono ?_
      rintro e w' ⟨h1, h2⟩
      refine ⟨?_, h2⟩
      rcases back_cases hR (by omega) with h | h | h
      · rw [h] at h1; exact .inl h1
      · rw [h] at h1; exact .inr (.inl h1)
      · rw [h] at h1; exact .inr (.inr h1)
end Go.Proofs.YtgceckejchdnlaaGreatDoor
