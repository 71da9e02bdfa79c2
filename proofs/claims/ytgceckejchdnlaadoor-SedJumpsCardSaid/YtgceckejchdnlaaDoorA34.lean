/- Packed texts: SeRight, SeRight8, SedJumpsWalk. What each of them proves stands above its theorems; the conditions stand in these. -/
import Derived.BigQuiet
import Derived.Deep.QuietTactic
import Derived.Test.YtgceckejchdnlaaDoorA26
import Derived.Test.YtgceckejchdnlaaDoorA28
import Derived.Test.YtgceckejchdnlaaDoorA31
import Derived.Test.YtgceckejchdnlaaDoorA32
import Derived.Test.YtgceckejchdnlaaDoorA33
namespace Go.Proofs.YtgceckejchdnlaaDoor
open Go.RowKit Go.Lib

/-- An address's own slice is right, or empty. -/
theorem ads_right {B : Nat} {t : Tr} {v : Value} {w : World} (ht : t.ok ∧ t.size ≤ 2000) (h : IsRow B (t.row 0) v w) :
    Calls Tryd.prog 22 #[v] w fun e w' => e = .returned (.bool true) ∧ Below w.heap.size w w' :=
  refRight_tree v t w ht.1 ht.2 (IsRow.lies h (by rw [Tr.row_length]; have := ht.2; omega))
theorem box3 (w : World) (x y z : Value) : Below w.heap.size w (w.alloc (.cells #[x, y, z] 33)) := (Below.refl _ w).alloc (Nat.le_refl _) _
set_option maxHeartbeats 2000000 in
set_option maxRecDepth 20000 in
theorem goodAddr_none (k : Int) (hk : k = 0 ∨ k = 2) (w : World) :
    Calls Tryd.prog 20 #[.agg #[.int .i64 k, .int .i64 0, .slice none 0 0]] w fun e w' => e = .returned (.bool true) ∧ Below w.heap.size w w' := by
  rcases hk with rfl | rfl
  all_goals
    go_enter Tryd.func20, Tryd.ntmps20
    go_wp2_with fail
    exact bodyPost_ret (results_tmp rfl _ _ _) rfl ⟨rfl, box3 w _ _ _⟩
set_option maxHeartbeats 2000000 in
set_option maxRecDepth 20000 in
theorem goodAddr_line (n : Nat) (h1 : 1 ≤ n) (h2 : n ≤ 1000000000) (w : World) :
    Calls Tryd.prog 20 #[.agg #[.int .i64 1, .int .i64 (n : Int), .slice none 0 0]] w fun e w' => e = .returned (.bool true) ∧ Below w.heap.size w w' := by
  have e1 : decide ((1 : Int) ≤ (n : Int)) = true := by simp; omega
  have e2 : decide ((n : Int) ≤ 1000000000) = true := by simp; omega
  go_enter Tryd.func20, Tryd.ntmps20
  go_wp2_with fail
  exact bodyPost_ret (results_tmp rfl _ _ _) rfl ⟨rfl, box3 w _ _ _⟩
set_option maxHeartbeats 2000000 in
set_option maxRecDepth 20000 in
theorem goodAddr_re (ao : Option Addr) (a2 a3 : Nat) (w : World)
    (k1 : ∀ w1, Below w.heap.size w w1 → Calls Tryd.prog 22 #[.slice ao a2 a3] w1 fun e w' => e = .returned (.bool true) ∧ Below w1.heap.size w1 w') :
    Calls Tryd.prog 20 #[.agg #[.int .i64 3, .int .i64 0, .slice ao a2 a3]] w fun e w' => e = .returned (.bool true) ∧ Below w.heap.size w w' := by
  have k2 := k1 _ (box3 w (.int .i64 3) (.int .i64 0) (.slice ao a2 a3))
  clear k1
  go_enter Tryd.func20, Tryd.ntmps20
  go_wp2_with (go_at_call 22; refine k2.mono ?_; rintro e w2 ⟨rfl, hb2⟩)
  exact bodyPost_ret (results_tmp rfl _ _ _) rfl ⟨rfl, (box3 w _ _ _).trans (hb2.mono (by simp))⟩
/-- An address that was read is a good one. -/
theorem goodAddr_any (B : Nat) (a : Ad) (v : Value) (w : World) (ha : a.good) (h : AdS B a v w) :
    Calls Tryd.prog 20 #[.agg #[.int .i64 (a.k : Int), .int .i64 (a.n : Int), v]] w fun e w' => e = .returned (.bool true) ∧ Below w.heap.size w w' := by
  cases a with
  | none =>
    obtain rfl : v = .slice none 0 0 := h
    exact goodAddr_none 0 (.inl rfl) w
  | last =>
    obtain rfl : v = .slice none 0 0 := h
    exact goodAddr_none 2 (.inr rfl) w
  | line n =>
    obtain rfl : v = .slice none 0 0 := h
    exact goodAddr_line n ha.1 ha.2 w
  | re t =>
    obtain ⟨a1, a2, a3, rfl⟩ := ads_slice h
    exact goodAddr_re a1 a2 a3 w fun w1 hb => ads_right ha (AdS.below (a := .re t) h hb)
theorem bytes_at (s : ByteArray) (k : Nat) (h : k < s.size) : s.data.toList[k]? = some s[k] := by
  rw [List.getElem?_eq_getElem (by rw [Array.length_toList]; exact h)]
  rfl
set_option maxHeartbeats 2000000 in
set_option maxRecDepth 20000 in
theorem one8_any (s : ByteArray) (c : UInt8) (hs : s.size ≤ 1000000000) (w : World) :
    Calls Tryd.prog 23 #[.string s, .int .u8 (c.toNat : Int)] w fun e w' => e = .returned (.bool (s.data.toList.contains c)) ∧ w = w' := by
  obtain ⟨Q, hQ⟩ : ∃ Q, Q = s.data.toList.contains c := ⟨_, rfl⟩
  have HQ := Lib.hid hQ
  rw [← hQ]
  clear hQ
  go_enter Tryd.func23, Tryd.ntmps23
  go_wp2
  go_loop [5] (fun i => ∃ k : Nat, k ≤ s.size ∧ i = .int .i64 k ∧ Hid (∀ r, r < k → s.data.toList[r]? ≠ some c)) (fun i => s.size - (RowKit.intOf i).toNat)
  case atStart => exact ⟨0, Nat.zero_le _, rfl, fun r hr => by omega⟩
  case round =>
    obtain ⟨k, hk, rfl, HP⟩ := hrel
    by_cases hlt : k < s.size
    · have hltI : (k : Int) < (s.size : Int) := by omega
      have hb := bytes_at s k hlt
      have HB := Lib.hid hb
      clear hb
      by_cases he : s[k] = c
      · have hD : s.data.toList.contains c = true := by
          rw [List.contains_iff_mem]
          have := HB.out
          rw [he] at this
          exact List.mem_of_getElem? this
        have hq : ((s[k].toNat : Int) == (c.toNat : Int)) = true := by rw [he]; simp
        have HD := Lib.hid hD
        clear hD he
        go_wp2
        go_ret
        exact ⟨by rw [HQ.out, HD.out]; rfl, rfl⟩
      · have hq : ((s[k].toNat : Int) == (c.toNat : Int)) = false := ne_int he
        have HE := Lib.hid he
        clear he
        go_wp2
        go_round
        case rel => exact ⟨k + 1, by omega, by go_num, fun r hr hh => by
          by_cases hrk : r = k
          · rw [hrk, HB.out] at hh
            exact HE.out (Option.some.inj hh)
          · exact HP.out r (by omega) hh⟩
        case measure => simp [RowKit.intOf]; omega
    · have hD : s.data.toList.contains c = false := by
        rw [Bool.eq_false_iff]
        intro hc
        rw [List.contains_iff_mem] at hc
        obtain ⟨r, hr⟩ := List.getElem?_of_mem hc
        have := at_lt hr
        rw [Array.length_toList] at this
        exact HP.out r (by show r < k; have : s.data.size = s.size := rfl; omega) hr
      have HD := Lib.hid hD
      clear hD
      go_wp2
      go_ret
      exact ⟨by rw [HQ.out, HD.out]; rfl, rfl⟩
end Go.Proofs.YtgceckejchdnlaaDoor
namespace Go.Proofs.YtgceckejchdnlaaDoor
open Go.RowKit Go.Lib

set_option maxHeartbeats 16000000 in
set_option maxRecDepth 20000 in
theorem refRight8_any (B : Nat) (cs : List Cm) (v : Value) (w : World) (h : ScrS B cs v w) (hl : cs.length ≤ 2000) (hg : ∀ c ∈ cs, c.Good) (hlab : ∀ c ∈ cs, c.label.length ≤ 1000000000) (hbd : boundD cs = true) :
    Calls Tryd.prog 11 #[v] w fun e w' => e = .returned (.bool true) ∧ Below w.heap.size w w' := by
  obtain ⟨ao, cap, rfl⟩ := h.shape
  have kn := fun w1 (hb : Below w.heap.size w w1) => named_any B cs _ w1 (h.below hb) (by omega)
  rw [hbd] at kn
  obtain ⟨n, hn⟩ : ∃ n, n = cs.length := ⟨_, rfl⟩
  rw [← hn] at h hl kn ⊢
  have HS := Lib.hid h
  have HN := Lib.hid hn
  have HG := Lib.hid (And.intro hg hlab)
  have KN := Lib.hid kn
  clear h hn hg hlab hbd kn
  have h20 : decide ((2000 : Int) < (n : Int)) = false := by simp; omega
  go_enter Tryd.func11, Tryd.ntmps11
  go_wp2_with fail
  go_loopw [3] (fun i wr => ∃ k : Nat, k ≤ n ∧ i = .int .i64 k ∧ Hid (Below w.heap.size w wr)) (fun i _ => n - (RowKit.intOf i).toNat)
  case atStart => exact ⟨0, Nat.zero_le _, rfl, Below.refl _ _⟩
  case round =>
    obtain ⟨k, hk, rfl, HB⟩ := hrel
    by_cases hlt : k < n
    · have hltI : (k : Int) < (n : Int) := by omega
      obtain ⟨c, hc⟩ : ∃ c, cs[k]? = some c := ⟨cs[k]'(by have := HN.out; omega), List.getElem?_eq_getElem _⟩
      have hcm := List.mem_of_getElem? hc
      have hcg := HG.out.1 c hcm
      have hcl := HG.out.2 c hcm
      obtain ⟨g, a1, a2, a3, b1, b2, b3, d1, d2, d3, q1, q2, q3, rfl, hgl, hcm1, ⟨r0, r1, r2, r3, r4, r5, r6, r7, r8, r9, r10, r11, r12⟩⟩ := (HS.out.below HB.out).row hc
      obtain ⟨va, vb, vd, vq, he, h1, h2, h3, h4⟩ := hcm1
      obtain ⟨op, a, b, neg, re, put, all, prt, label⟩ := c
      dsimp only at r0 r1 r2 r3 r4 r5 r6 r7 r8 r9 r10 r11 r12 he h1 h2 h3 h4 hcl
      simp only [List.cons.injEq, true_and, and_true] at he
      obtain ⟨rfl, rfl, rfl, rfl⟩ := he
      have hz := HB.out.size
      obtain ⟨X, hX⟩ : ∃ X : ByteArray, X = ⟨label.toArray⟩ := ⟨_, rfl⟩
      have hXe : X.toList.isEmpty = (label == []) := by rw [hX]; exact lab_empty label
      have kN := fun w1 => refIsName_any X w1 (by rw [hX]; show label.toArray.size ≤ _; rw [List.size_toArray]; omega)
      have hXl : X.data.toList = label := by rw [hX]
      rw [hXl] at kN
      rw [← hX] at r12
      obtain ⟨_, hga, hgb, hab, hkd⟩ : True ∧ a.good ∧ b.good ∧ (a.k = 0 → b.k = 0) ∧ _ := ⟨trivial, hcg.a, hcg.b, hcg.ab, hcg.kind⟩
      dsimp only at hkd
      have hp := own_zeroB h4
      clear hX hXl hcl hcg hcm hc
      obtain ⟨W, hW⟩ : ∃ W, W = wr.alloc (.cells #[.int .u8 (op.toNat : Int), .int .i64 (a.k : Int), .int .i64 (a.n : Int), .slice a1 a2 a3, .int .i64 (b.k : Int), .int .i64 (b.n : Int), .slice b1 b2 b3, .bool neg, .slice d1 d2 d3, .slice q1 q2 q3, .bool all, .bool prt, .string X] 36) := ⟨_, rfl⟩
      have hbW : Below wr.heap.size wr W := by rw [hW]; exact (Below.refl _ _).alloc (Nat.le_refl _) _
      have hWz : W.heap.size = wr.heap.size + 1 := by rw [hW]; simp
      have hc1 : Cq wr.heap.size [.int .u8 (op.toNat : Int), .int .i64 (a.k : Int), .int .i64 (a.n : Int), .slice a1 a2 a3, .int .i64 (b.k : Int), .int .i64 (b.n : Int), .slice b1 b2 b3, .bool neg, .slice d1 d2 d3, .slice q1 q2 q3, .bool all, .bool prt, .string X] W := by
        rw [hW]; exact heap_alloc_new wr _
      have kA := fun w1 (hb : Below wr.heap.size wr w1) => goodAddr_any B a (.slice a1 a2 a3) w1 hga (h1.below hb)
      have kB := fun w1 (hb : Below wr.heap.size wr w1) => goodAddr_any B b (.slice b1 b2 b3) w1 hgb (h2.below hb)
      have HW := Lib.hid (And.intro hW (And.intro hbW (And.intro hWz hc1)))
      have HK := Lib.hid (And.intro kA (And.intro kB kN))
      have st : ∀ w2, Below (wr.heap.size + 1) W w2 → Cq wr.heap.size [.int .u8 (op.toNat : Int), .int .i64 (a.k : Int), .int .i64 (a.n : Int), .slice a1 a2 a3, .int .i64 (b.k : Int), .int .i64 (b.n : Int), .slice b1 b2 b3, .bool neg, .slice d1 d2 d3, .slice q1 q2 q3, .bool all, .bool prt, .string X] w2 := fun w2 hb => (hb.block _ (by omega)).trans HW.out.2.2.2
      have ST := Lib.hid st
      have H3 := Lib.hid h3
      obtain ⟨f0, f1, f2, f3, f4, f5, f6, f7, f8, f9, f10, f11, f12⟩ := cells13 hc1
      clear st hW hbW hWz hc1 kA kB kN h1 h2 h3 h4 hga hgb
      have HB0 := Lib.hid (show Below wr.heap.size wr W ∧ Below (wr.heap.size + 1) W W from ⟨HW.out.2.1, Below.refl _ _⟩)
      go_wp2_with fail
      rw [← HW.out.1]
      refine (HK.out.1 _ HB0.out.1).mono ?_
      rintro e w2 ⟨rfl, hb⟩
      have HB2 := Lib.hid (show Below wr.heap.size wr w2 ∧ Below (wr.heap.size + 1) W w2 from ⟨HB0.out.1.trans (hb.mono HB0.out.1.size), HB0.out.2.trans (hb.mono (by have := HB0.out.2.size; have := HW.out.2.2.1; omega))⟩)
      clear f0 f1 f2 f3 f4 f5 f6 f7 f8 f9 f10 f11 f12
      obtain ⟨f0, f1, f2, f3, f4, f5, f6, f7, f8, f9, f10, f11, f12⟩ := cells13 (ST.out w2 HB2.out.2)
      clear hb
      go_wp2_with fail
      refine (HK.out.2.1 _ HB2.out.1).mono ?_
      rintro e w3 ⟨rfl, hb⟩
      have HB3 := Lib.hid (show Below wr.heap.size wr w3 ∧ Below (wr.heap.size + 1) W w3 from ⟨HB2.out.1.trans (hb.mono HB2.out.1.size), HB2.out.2.trans (hb.mono (by have := HB2.out.2.size; have := HW.out.2.2.1; omega))⟩)
      clear f0 f1 f2 f3 f4 f5 f6 f7 f8 f9 f10 f11 f12
      obtain ⟨f0, f1, f2, f3, f4, f5, f6, f7, f8, f9, f10, f11, f12⟩ := cells13 (ST.out w3 HB3.out.2)
      clear hb
      have hR : (((a.k : Int) == 0) = true ∧ ((b.k : Int) != 0) = false) ∨ ((a.k : Int) == 0) = false := by
        by_cases hk0 : a.k = 0
        · left
          rw [hab hk0, hk0]
          exact ⟨rfl, rfl⟩
        · right
          rw [beq_eq_false_iff_ne]
          omega
      have hA58 : op = 58 → a.k = 0 → ((a.k : Int) == 0) = true := fun _ h => by rw [h]; rfl
      clear hab
      rcases hkd with ⟨rfl, ⟨t, rfl, ht⟩, hpn, rfl⟩ | ⟨⟨rfl, rfl, rfl, rfl⟩, (⟨hop, hlb⟩ | ⟨rfl, hk0, rfl, hnm⟩ | ⟨hpl, rfl⟩)⟩
      · have hq0 : 0 < q2 := by
          obtain ⟨ao, cap, hv⟩ := hp
          have : q2 = put.length := by injection hv
          have : 0 < put.length := List.length_pos_iff.2 hpn
          omega
        have hq : decide ((0 : Int) < (q2 : Int)) = true := by simp; omega
        have hq1 : decide (0 < q2) = true := decide_eq_true hq0
        have hd : ((d2 : Int) == 0) = false := by
          obtain ⟨ao, cap, hv⟩ := own_zeroB (show _ from H3.out)
          have h5 : d2 = (t.row 0).length := by injection hv
          have h6 := t.size_pos
          rw [Tr.row_length] at h5
          rw [beq_eq_false_iff_ne]; omega
        have kR := fun w1 (hb : Below wr.heap.size wr w1) => ads_right (B := B) ht (AdS.below (a := .re t) H3.out hb)
        have KR := Lib.hid kR
        have o1 : (((115 : UInt8).toNat : Int) == 115) = true := rfl
        have hXe2 : X.toList.isEmpty = true := hXe
        clear kR hp hpn ht hA58 hXe
        rcases hR with ⟨e1, e2⟩ | e1
        all_goals
          go_wp2_with fail
          refine (HK.out.2.2 _).mono ?_
          rintro e w4 ⟨rfl, rfl⟩
          go_wp2_with fail
          refine (KR.out _ HB3.out.1).mono ?_
          rintro e w5 ⟨rfl, hb⟩
          have HB5 := Lib.hid (show Below wr.heap.size wr w5 ∧ Below (wr.heap.size + 1) W w5 from ⟨HB3.out.1.trans (hb.mono HB3.out.1.size), HB3.out.2.trans (hb.mono (by have := HB3.out.2.size; have := HW.out.2.2.1; omega))⟩)
          clear f0 f1 f2 f3 f4 f5 f6 f7 f8 f9 f10 f11 f12
          obtain ⟨f0, f1, f2, f3, f4, f5, f6, f7, f8, f9, f10, f11, f12⟩ := cells13 (ST.out w5 HB5.out.2)
          clear hb
          go_wp2_with fail
          go_roundw
          case rel => exact ⟨k + 1, by omega, by go_num, HB.out.trans (HB5.out.1.mono hz)⟩
          case measure => simp [RowKit.intOf]; omega
      · have hq : ((q2 : Int) == 0) = true := by
          obtain ⟨ao, cap, hv⟩ := hp
          have : q2 = 0 := by injection hv
          rw [this]; rfl
        obtain ⟨rfl, rfl, rfl⟩ : d1 = none ∧ d2 = 0 ∧ d3 = 0 := by have := H3.out; injection this; exact ⟨‹_›, ‹_›, ‹_›⟩
        have o1 : ((op.toNat : Int) == 115) = false := ne_byte (d := 115) (by rcases hop with rfl | rfl <;> decide)
        have o2 : ((op.toNat : Int) == 58) = false := ne_byte (d := 58) (by rcases hop with rfl | rfl <;> decide)
        have o3 : ((op.toNat : Int) == 98) = true ∨ ((op.toNat : Int) == 98) = false ∧ ((op.toNat : Int) == 116) = true := by
          rcases hop with rfl | rfl
          · exact .inl rfl
          · exact .inr ⟨rfl, rfl⟩
        have hne : (label == []) = true ∨ (label == []) = false ∧ isNameB label = true := by
          rcases hlb with rfl | h
          · exact .inl rfl
          · cases he : (label == [])
            · exact .inr ⟨rfl, h⟩
            · exact .inl rfl
        clear hp hA58 hop hlb
        obtain ⟨E, hE⟩ : ∃ E, E = (label == []) := ⟨_, rfl⟩
        obtain ⟨M, hM⟩ : ∃ M, M = isNameB label := ⟨_, rfl⟩
        rw [← hE] at hXe hne
        rw [← hM] at HK hne
        clear hE hM
        rcases hR with ⟨e1, e2⟩ | e1
        all_goals
          go_wp2_with fail
          refine (HK.out.2.2 _).mono ?_
          rintro e w4 ⟨rfl, rfl⟩
          rcases o3 with o3 | ⟨o3, o4⟩
          all_goals
            rcases hne with rfl | ⟨rfl, rfl⟩
            all_goals
              go_wp2_with fail
              go_roundw
              case rel => exact ⟨k + 1, by omega, by go_num, HB.out.trans (HB3.out.1.mono hz)⟩
              case measure => simp [RowKit.intOf]; omega
      · have hq : ((q2 : Int) == 0) = true := by
          obtain ⟨ao, cap, hv⟩ := hp
          have : q2 = 0 := by injection hv
          rw [this]; rfl
        obtain ⟨rfl, rfl, rfl⟩ : d1 = none ∧ d2 = 0 ∧ d3 = 0 := by have := H3.out; injection this; exact ⟨‹_›, ‹_›, ‹_›⟩
        have o1 : (((58 : UInt8).toNat : Int) == 115) = false := rfl
        have o2 : (((58 : UInt8).toNat : Int) == 58) = true := rfl
        have e1 := hA58 rfl hk0
        rw [hnm] at HK
        have e2 : ((b.k : Int) != 0) = false := by
          rcases hR with ⟨_, h⟩ | h
          · exact h
          · rw [h] at e1; cases e1
        clear hp hA58 hk0 hnm hR
        go_wp2_with fail
        refine (HK.out.2.2 _).mono ?_
        rintro e w4 ⟨rfl, rfl⟩
        go_wp2_with fail
        go_roundw
        case rel => exact ⟨k + 1, by omega, by go_num, HB.out.trans (HB3.out.1.mono hz)⟩
        case measure => simp [RowKit.intOf]; omega
      · have hq : ((q2 : Int) == 0) = true := by
          obtain ⟨ao, cap, hv⟩ := hp
          have : q2 = 0 := by injection hv
          rw [this]; rfl
        obtain ⟨rfl, rfl, rfl⟩ : d1 = none ∧ d2 = 0 ∧ d3 = 0 := by have := H3.out; injection this; exact ⟨‹_›, ‹_›, ‹_›⟩
        have hno : ∀ d : UInt8, plainS.contains d = false → ((op.toNat : Int) == (d.toNat : Int)) = false := fun d hd => ne_byte (d := d) (fun h => by rw [h, hd] at hpl; cases hpl)
        have o1 : ((op.toNat : Int) == 115) = false := hno 115 (by decide)
        have o2 : ((op.toNat : Int) == 58) = false := hno 58 (by decide)
        have o3 : ((op.toNat : Int) == 98) = false := hno 98 (by decide)
        have o4 : ((op.toNat : Int) == 116) = false := hno 116 (by decide)
        have kO := fun w => one8_any ⟨#[112, 100, 113, 110, 104, 72, 103, 71, 120]⟩ op (by decide) w
        have hpl2 : (⟨#[112, 100, 113, 110, 104, 72, 103, 71, 120]⟩ : ByteArray).data.toList.contains op = true := hpl
        rw [hpl2] at kO
        have KO := Lib.hid kO
        have hXe2 : X.toList.isEmpty = true := hXe
        clear hp hA58 hno kO hpl2 hpl hXe
        rcases hR with ⟨e1, e2⟩ | e1
        all_goals
          go_wp2_with fail
          refine (HK.out.2.2 _).mono ?_
          rintro e w4 ⟨rfl, rfl⟩
          go_wp2_with fail
          refine (KO.out _).mono ?_
          rintro e w5 ⟨rfl, rfl⟩
          go_wp2_with fail
          go_roundw
          case rel => exact ⟨k + 1, by omega, by go_num, HB.out.trans (HB3.out.1.mono hz)⟩
          case measure => simp [RowKit.intOf]; omega
    · go_wp2_with fail
      refine (KN.out _ HB.out).mono ?_
      rintro e w2 ⟨rfl, hb⟩
      go_wp2_with fail
      exact bodyPost_ret (results_tmp rfl _ _ _) rfl ⟨rfl, HB.out.trans (hb.mono HB.out.size)⟩
end Go.Proofs.YtgceckejchdnlaaDoor
namespace Go.Proofs.YtgceckejchdnlaaDoor
open Go.RowKit Go.Lib

set_option maxHeartbeats 2000000 in
set_option maxRecDepth 20000 in
/-- Package sed's Right of no commands. -/
theorem rightNil_any (w : World) : Calls Tryd.prog 10 #[.slice none 0 0] w fun e w' => e = .returned (.bool true) ∧ Below w.heap.size w w' := by
  have kb := fun w => bound_any 0 [] (.slice none 0 0) w (ScrS.nil 0 w) (by decide) (by simp)
  have hbd : boundD [] = true := rfl
  rw [hbd] at kb
  clear hbd
  go_enter Tryd.func10, Tryd.ntmps10
  go_wp2_with fail
  go_loopw [10] (fun i wr => i = .int .i64 0 ∧ wr = w) (fun _ _ => 0)
  case atStart => exact ⟨rfl, rfl⟩
  case round =>
    obtain ⟨rfl, rfl⟩ := hrel
    go_wp2_with (go_at_call 14; refine (kb _).mono ?_; rintro e w1 ⟨rfl, hb⟩)
    exact bodyPost_ret (results_tmp rfl _ _ _) rfl ⟨rfl, hb⟩
set_option maxHeartbeats 2000000 in
set_option maxRecDepth 20000 in
theorem jumps_out (s : ByteArray) (w : World) (hs : s.size ≤ 140737488351232) (h : 1500 < s.size) :
    Calls Tryd.prog 4 #[.string s] w fun e w' => e = .returned (.bool true) ∧ Below w.heap.size w w' := by
  have kS := shown8_any w
  have hd : decide ((1500 : Int) < (s.size : Int)) = true := by simp; omega
  go_enter Tryd.func4, Tryd.ntmps4
  go_wp2_with (go_at_call 6; refine kS.mono ?_; rintro e w1 ⟨rfl, hb1⟩)
  exact bodyPost_ret (results_tmp rfl _ _ _) rfl ⟨rfl, hb1⟩
set_option maxHeartbeats 2000000 in
set_option maxRecDepth 20000 in
theorem jumps_bad (s : ByteArray) (x : Int) (w : World) (h : s.size ≤ 1500) (hx : (x == 0) = false)
    (k1 : ∀ w, Calls Tryd.prog 7 #[.string s] w fun e w' => e = .returned (.tuple #[.slice none 0 0, .int .i64 x]) ∧ Below w.heap.size w w') :
    Calls Tryd.prog 4 #[.string s] w fun e w' => e = .returned (.bool true) ∧ Below w.heap.size w w' := by
  have kS := shown8_any w
  have hd : decide ((1500 : Int) < (s.size : Int)) = false := by simp; omega
  have hx2 : (x != 0) = true := by rw [bne_iff_ne]; intro h; rw [h] at hx; cases hx
  clear hx
  go_enter Tryd.func4, Tryd.ntmps4
  go_wp2_with fail
  refine kS.mono ?_
  rintro e w1 ⟨rfl, hb1⟩
  go_wp2_with fail
  refine (k1 w1).mono ?_
  rintro e w2 ⟨rfl, hb2⟩
  have HB := Lib.hid (hb1.trans (hb2.mono hb1.size))
  go_wp2_with fail
  exact bodyPost_ret (results_tmp rfl _ _ _) rfl ⟨rfl, HB.out⟩
set_option maxHeartbeats 16000000 in
set_option maxRecDepth 20000 in
theorem jumps_in (s : ByteArray) (cs : List Cm) (w : World) (h : s.size ≤ 1500) (hr : Rdy s.data.toList cs)
    (k1 : ∀ w, Calls Tryd.prog 7 #[.string s] w fun e w' => (∃ v, e = .returned (.tuple #[v, .int .i64 0]) ∧ ScrS w.heap.size cs v w') ∧ Below w.heap.size w w') :
    Calls Tryd.prog 4 #[.string s] w fun e w' => e = .returned (.bool true) ∧ Below w.heap.size w w' := by
  have kS := shown8_any w
  have hd : decide ((1500 : Int) < (s.size : Int)) = false := by simp; omega
  have hz : s.data.toList.length = s.size := Array.length_toList
  have hlen := hr.len
  have hshort := hr.short
  have kJ := fun B v X w (h1 : ScrS B cs v w) => jump_any B cs v X w h1 (by omega)
  have kR := fun B v w (h1 : ScrS B cs v w) => refRight8_any B cs v w h1 (by omega) hr.good (fun c hc => by have := hr.lab c hc; omega) hr.bound
  have kN := rightNil_any
  have HK := Lib.hid (And.intro kJ (And.intro kR kN))
  have HR := Lib.hid hr
  obtain ⟨n, hn⟩ : ∃ n, n = cs.length := ⟨_, rfl⟩
  have hn9 : n ≤ 1000000 := by omega
  have HN := Lib.hid hn
  clear hr hz hlen hshort kJ kR kN hn h
  go_enter Tryd.func4, Tryd.ntmps4
  go_wp2_with fail
  refine kS.mono ?_
  rintro e w1 ⟨rfl, hb1⟩
  go_wp2_with fail
  refine (k1 w1).mono ?_
  rintro e w2 ⟨⟨v, rfl, hs2⟩, hb2⟩
  obtain ⟨ao, cap, rfl⟩ := hs2.shape
  rw [← HN.out] at hs2 ⊢
  have HS := Lib.hid hs2
  have HW := Lib.hid (hb1.trans (hb2.mono hb1.size))
  clear k1 hs2 hb1 hb2
  go_wp2_with fail
  go_loopw [6] (fun i wr => ∃ k : Nat, k ≤ n ∧ i = .int .i64 k ∧ Hid (Below w2.heap.size w2 wr)) (fun i _ => n - (RowKit.intOf i).toNat)
  case atStart => exact ⟨0, Nat.zero_le _, rfl, Below.refl _ _⟩
  case round =>
    obtain ⟨k, hk, rfl, HB⟩ := hrel
    by_cases hlt : k < n
    · have hltI : (k : Int) < (n : Int) := by omega
      obtain ⟨c, hc⟩ : ∃ c, cs[k]? = some c := ⟨cs[k]'(by have := HN.out; omega), List.getElem?_eq_getElem _⟩
      have hcm := List.mem_of_getElem? hc
      have hkd := (HR.out.good c hcm).kind
      obtain ⟨g, a1, a2, a3, b1, b2, b3, d1, d2, d3, q1, q2, q3, rfl, hgl, _, ⟨r0, _, _, _, _, _, _, _, _, _, _, _, r12⟩⟩ := (HS.out.below HB.out).row hc
      obtain ⟨X, hX⟩ : ∃ X : ByteArray, X = ⟨c.label.toArray⟩ := ⟨_, rfl⟩
      have hXe : X.toList.isEmpty = (c.label == []) := by rw [hX]; exact lab_empty c.label
      have hXl : X.data.toList = c.label := by rw [hX]
      have kj := HK.out.1 _ _ X _ (HS.out.below HB.out)
      rw [hXl] at kj
      rw [← hX] at r12
      have KJ := Lib.hid kj
      have HC := Lib.hid (And.intro hc (And.intro hcm (And.intro hkd hX)))
      clear hc hcm hkd hXl kj hX
      go_wp2_with fail
      refine KJ.out.mono ?_
      rintro e w3 ⟨rfl, hb3⟩
      have HB3 := Lib.hid (show Below w2.heap.size w2 w3 from HB.out.trans (hb3.mono HB.out.size))
      obtain ⟨g', _, _, _, _, _, _, _, _, _, _, _, _, hg', _, _, ⟨y0, _, _, _, _, _, _, _, _, _, _, _, y12⟩⟩ := (HS.out.below HB3.out).row HC.out.1
      cases hg'
      rw [← HC.out.2.2.2] at y12
      clear hb3 r0 r12
      by_cases hle : c.label = []
      · have he : (c.label == []) = true := by rw [hle]; rfl
        rw [he] at hXe
        have h58 : ((c.op.toNat : Int) == 58) = false := ne_byte (d := 58) (fun h => by
          rcases HC.out.2.2.1 with ⟨h1, _⟩ | ⟨_, (⟨h1, _⟩ | ⟨_, _, _, h1⟩ | ⟨h1, _⟩)⟩
          · rw [h] at h1; cases h1
          · rcases h1 with h1 | h1 <;> rw [h] at h1 <;> cases h1
          · rw [hle] at h1; cases h1
          · rw [h] at h1; cases h1)
        generalize (jumpK cs c.label : Int) = kk
        generalize jumpB cs c.label = bb
        clear he hle
        go_wp2_with fail
        go_quiet (fail)
        all_goals
          go_wp2_with fail
          go_roundw
          case rel => exact ⟨k + 1, by omega, by go_num, below_draws HB3.out _⟩
          case measure => simp [RowKit.intOf]; omega
      · have he : (c.label == []) = false := by rw [beq_eq_false_iff_ne]; exact hle
        rw [he] at hXe
        obtain ⟨hjb, d, hd, hd58, hdl⟩ := jump_found HR.out.bound HC.out.2.1 hle
        have hself : c.op = 58 → jumpK cs c.label = k := fun h => jump_self HR.out.bound HC.out.1 hle h
        have hkl := at_lt hd
        rw [hjb]
        obtain ⟨kk, hkk⟩ : ∃ kk, kk = jumpK cs c.label := ⟨_, rfl⟩
        rw [← hkk] at hd hself hkl ⊢
        rw [← HN.out] at hkl
        have hkI : (kk : Int) < (n : Int) := by omega
        obtain ⟨g2, _, _, _, _, _, _, _, _, _, _, _, _, hg2, _, _, ⟨z0, _, _, _, _, _, _, _, _, _, _, _, z12⟩⟩ := (HS.out.below HB3.out).row hd
        cases hg2
        rw [hdl, ← HC.out.2.2.2] at z12
        rw [hd58] at z0
        replace z0 : w3.cell? ⟨g, kk * 13, none⟩ = some (.int .u8 58) := z0
        clear he hle hjb hd hd58 hdl hkk
        by_cases h58 : c.op = 58
        · have HC2 : True := trivial
          obtain rfl := hself h58
          clear hself h58 y0 y12
          go_wp2_with fail
          go_quiet (fail)
          all_goals
            go_wp2_with fail
            go_roundw
            case rel => exact ⟨kk + 1, by omega, by go_num, below_draws HB3.out _⟩
            case measure => simp [RowKit.intOf]; omega
        · have e58 : ((c.op.toNat : Int) == 58) = false := ne_byte (d := 58) h58
          clear hself h58
          go_wp2_with fail
          go_quiet (fail)
          all_goals
            go_wp2_with fail
            go_roundw
            case rel => exact ⟨k + 1, by omega, by go_num, below_draws HB3.out _⟩
            case measure => simp [RowKit.intOf]; omega
    · have kj := HK.out.1 _ _ ⟨#[110, 111, 119, 104, 101, 114, 101, 95, 57]⟩ _ (HS.out.below HB.out)
      have KJ := Lib.hid kj
      clear kj
      go_wp2_with fail
      refine KJ.out.mono ?_
      rintro e w3 ⟨rfl, hb3⟩
      have HB3 := Lib.hid (show Below w2.heap.size w2 w3 from HB.out.trans (hb3.mono HB.out.size))
      clear hb3
      generalize (jumpK cs _ : Int) = kk
      generalize jumpB cs _ = bb
      cases bb with
      | false =>
        go_wp2_with fail
        exact bodyPost_ret (results_tmp rfl _ _ _) rfl ⟨rfl, HW.out.trans (HB3.out.mono HW.out.size)⟩
      | true =>
        go_wp2_with fail
        refine (HK.out.2.2 _).mono ?_
        rintro e w4 ⟨rfl, hb4⟩
        have HB4 := Lib.hid (show Below w2.heap.size w2 w4 from HB3.out.trans (hb4.mono HB3.out.size))
        clear hb4
        go_wp2_with fail
        have kr := HK.out.2.1 _ _ _ (HS.out.below HB4.out)
        refine kr.mono ?_
        rintro e w5 ⟨rfl, hb5⟩
        have HB5 := Lib.hid (show Below w2.heap.size w2 w5 from HB4.out.trans (hb5.mono HB4.out.size))
        clear hb5 kr
        go_wp2_with fail
        exact bodyPost_ret (results_tmp rfl _ _ _) rfl ⟨rfl, HW.out.trans (HB5.out.mono HW.out.size)⟩
/-- The law's walk. -/
theorem sedJumps_walk (s : ByteArray) (hs : s.size ≤ 140737488351232) (w : World) :
    Calls Tryd.prog 4 #[.string s] w fun e w' => e = .returned (.bool true) ∧ Below w.heap.size w w' := by
  by_cases h : 1500 < s.size
  · exact jumps_out s w hs h
  · have hz : s.data.toList.length = s.size := Array.length_toList
    have k1 := fun w => read8_any s w (by omega)
    cases hr : sedR s.data.toList with
    | bad x =>
      rw [hr] at k1
      exact jumps_bad s x w (by omega) (sedR_bad0 hr) k1
    | ok cs =>
      rw [hr] at k1
      exact jumps_in s cs w (by omega) (sedR_ok hr) k1
end Go.Proofs.YtgceckejchdnlaaDoor
