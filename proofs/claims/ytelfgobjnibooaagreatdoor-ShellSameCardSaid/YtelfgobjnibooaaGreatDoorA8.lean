/- Packed texts: ShBraced, ShSp. What each of them proves stands above its theorems; the conditions stand in these. -/
import Derived.Deep.Cut
import Derived.Deep.CutBlock
import Derived.Deep.RegionLaw
import Derived.Test.YtelfgobjnibooaaGreatDoorA1
import Derived.Test.YtelfgobjnibooaaGreatDoorA4
import Derived.Test.YtelfgobjnibooaaGreatDoorA6
namespace Go.Proofs.YtelfgobjnibooaaGreatDoor
open Go.RowKit Go.Lib
theorem pre_one (c : UInt8) (l : List UInt8) : ([c] : List UInt8).isPrefixOf l = atS [c] l := by
 cases l with
 | nil => rfl
 | cons a r =>
  show (c == a && true) = (a == c || false)
  rw [Bool.and_true, Bool.or_false]
  by_cases h : a = c
  ·rw [h]
  ·rw [beq_eq_false_iff_ne.2 h, beq_eq_false_iff_ne.2 (fun e => h e.symm)]
theorem signD_kind (s : List UInt8) : ∃ k : Nat, (signD s).1 = (k : Int) := by
 unfold signD
 split
 ·exact ⟨2, rfl⟩
 ·split
  ·exact ⟨3, rfl⟩
  ·split
   ·exact ⟨5, rfl⟩
   ·split
    ·exact ⟨6, rfl⟩
    ·exact ⟨0, rfl⟩
theorem hasPre58 (l : List UInt8) (w : World) : Calls Tryz.prog 98 #[.string ⟨l.toArray⟩, .string ⟨#[58]⟩] w fun e w' => e = .returned (.bool (atS [58] l)) ∧ w' = w := by
 have kp := Tryz.strings_HasPrefix ⟨l.toArray⟩ ⟨#[58]⟩ w
 rw [show hasPrefix (⟨l.toArray⟩ : ByteArray).data.toList (⟨#[58]⟩ : ByteArray).data.toList = atS [58] l from pre_one 58 l] at kp
 exact kp
theorem until_barred (p : Nat) (l : List UInt8) (sg : Value) (d : Nat) (w : World) (h : Rs p l sg d w) (hl : l.length ≤ 1048576) :
  Calls Tryz.prog 101 #[.pointer (some ⟨p, 0, none⟩), .string ⟨#[125, 39, 34, 36, 92, 96, 10]⟩] w fun e w' => e = .returned (.int .i64 ((runS shBarred l).length : Int)) ∧ Below w.heap.size w w' := untilS_any p shBarred l sg d w h (by decide) hl
theorem take125_yes (p : Nat) (l r : List UInt8) (sg : Value) (d : Nat) (w : World) (h : Rs p l sg d w) (hl : l.length ≤ 1048576) (ht : takeS [125] l = some r) :
  Calls Tryz.prog 103 #[.pointer (some ⟨p, 0, none⟩), .string ⟨#[125]⟩] w fun e w' => e = .returned (.bool true) ∧ Rs p r sg d w' ∧ Mvd p w w' := takeS_yes p [125] l r sg d w h hl ht
theorem take125_no (p : Nat) (l : List UInt8) (sg : Value) (d : Nat) (w : World) (h : Rs p l sg d w) (ht : takeS [125] l = none) :
  Calls Tryz.prog 103 #[.pointer (some ⟨p, 0, none⟩), .string ⟨#[125]⟩] w fun e w' => e = .returned (.bool false) ∧ w' = w := takeS_no p [125] l sg d w h ht
def NamB (p b : Nat) (q : Bool) (n l : List UInt8) (sg : Value) (d : Nat) (w w2 : World) : Prop := Rs p l sg d w2 ∧ PtB b ⟨0, q, n, [], []⟩ w2 ∧ Mv2 p b w w2
def KndB (p b : Nat) (q : Bool) (k : Nat) (n t l : List UInt8) (sg : Value) (d : Nat) (w w2 : World) : Prop := Rs p l sg d w2 ∧ PtB b ⟨k, q, n, t, []⟩ w2 ∧ Mv2 p b w w2
set_option maxHeartbeats 4000000 in
set_option maxRecDepth 20000 in
theorem braced_1 (p b : Nat) (q : Bool) (l n l1 : List UInt8) (sg : Value) (d : Nat) (w : World) (h : Rs p l sg d w) (hE : EnvS p sg w) (hP : PtB b ⟨0, q, [], [], []⟩ w) (hpb : p < b) (hl : l.length ≤ 1048576) (hn : nameR l = .ok n l1) (h58 : atS [58] l1 = false) :
    Calls Tryz.prog 178 #[.pointer (some ⟨p, 0, none⟩), .pointer (some ⟨b, 0, none⟩)] w (AnsB p b sg d w ((signR l1).bind fun k r => if k = 2 then .ok ⟨2, q, n, [], []⟩ r else withT q k.toNat n r)) := by
  have kn : Calls Tryz.prog 140 #[.pointer (some ⟨p, 0, none⟩)] w fun e w' => e = .returned (.string ⟨n.toArray⟩) ∧ Rs p l1 sg d w' ∧ Mvd p w w' := by
    have := name_any p l sg d w h hl
    rw [hn] at this
    exact this
  have hl1 : l1.length ≤ 1048576 := by have := nameR_nice l; rw [hn] at this; exact Nat.le_trans this hl
  have kp := fun w => hasPre58 l1 w
  rw [h58] at kp
  obtain ⟨bm, rfl, LK⟩ := hE.at
  have hsN : signN l1 = 1 := by unfold signN; rw [h58]; rfl
  have eS : signR l1 = if l1.length < 1 then .bad 9 else if (signD (l1.take 1)).2 then .ok (signD (l1.take 1)).1 (l1.drop 1) else .bad 9 := by unfold signR; rw [hsN]
  rw [eS]
  have NAM : Hid (∀ w1, Rs p l1 (.map (some bm)) d w1 → Mvd p w w1 → w1.cell? ⟨b, 2, none⟩ = some (.string ⟨#[]⟩) ∧ w1.frozen? ⟨b, 2, none⟩ = false ∧ (w1.setCell ⟨b, 2, none⟩ (.string ⟨n.toArray⟩)).cell? ⟨p, 0, none⟩ = some (.string ⟨l1.toArray⟩) ∧ (w1.setCell ⟨b, 2, none⟩ (.string ⟨n.toArray⟩)).cell? ⟨p, 1, none⟩ = some (.map (some bm)) ∧ NamB p b q n l1 (.map (some bm)) d w (w1.setCell ⟨b, 2, none⟩ (.string ⟨n.toArray⟩))) := by
    show ∀ _, _
    intro w1 h1 m1
    have p1 := hP.moved m1 hpb
    have r2 := h1.other (i := 2) (v := .string ⟨n.toArray⟩) hpb
    exact ⟨p1.cells.2.1, p1.cells.2.2.2.2.1, r2.cells.1, r2.cells.2.1, r2, p1.setS n, (Mv2.of m1).trans (Mv2.set hpb _ _ _)⟩
  have KC := Lib.hid (fun w1 (h1 : Rs p l1 (.map (some bm)) d w1) (hm : 1 ≤ l1.length) => (show Calls Tryz.prog 162 #[.pointer (some ⟨p, 0, none⟩), .int .i64 1] w1 fun e w' => e = .returned (.string ⟨(l1.take 1).toArray⟩) ∧ Rs p (l1.drop 1) (.map (some bm)) d w' ∧ Mvd p w1 w' from cutS_any p 1 l1 (.map (some bm)) d w1 h1 hm hl1))
  have LKH := Lib.hid LK
  have hszl := sizeS l1
  have HP := Lib.hid hP
  obtain ⟨X, hX⟩ : ∃ X : ByteArray, X = ⟨l1.toArray⟩ := ⟨_, rfl⟩
  rw [← hX] at NAM kp hszl
  obtain ⟨N, hN⟩ : ∃ N : ByteArray, N = ⟨n.toArray⟩ := ⟨_, rfl⟩
  rw [← hN] at NAM kn
  clear h hE LK eS hsN hn h58 hX hN
  by_cases hlen : l1.length < 1
  · rw [if_pos hlen]
    have k2 := need_no
    show Calls _ _ _ _ fun e w' => e = errS 9 ∧ Mv2 p b w w'
    unfold errS at k2 ⊢
    have hnl : ¬ ((1 : Int) ≤ (X.size : Int)) := by omega
    have hnl2 : ¬ (1 ≤ X.size) := by omega
    have hdd : decide ((1 : Int) ≤ (X.size : Int)) = false := decide_eq_false hnl
    clear hlen hszl
    go_enter Tryz.func178, Tryz.ntmps178
    go_wp2_with (first
      | (go_at_call 140; (with_reducible refine kn.mono ?_); rintro e w1 ⟨rfl, h1, m1⟩; obtain ⟨e2, g2, d0, d1, N2⟩ := NAM.out w1 h1 m1; have H2 := Lib.hid N2; obtain ⟨n1, n2, n3⟩ := N2; have HR2 := Lib.hid n1; have HM2 := Lib.hid n3; clear h1 m1 n1 n2 n3)
      | (go_at_call 98; (with_reducible refine (kp _).mono ?_); rintro e w9 ⟨rfl, rfl⟩)
      | (go_at_call 30; refine (k2 _).mono ?_; rintro e w3 ⟨rfl, rfl⟩))
    exact ⟨rfl, rfl, HM2.out⟩
  · rw [if_neg hlen]
    have hnl : (1 : Int) ≤ (X.size : Int) := by omega
    have hnl2 : 1 ≤ X.size := by omega
    have hdd : decide ((1 : Int) ≤ (X.size : Int)) = true := decide_eq_true hnl
    have hmle : 1 ≤ l1.length := by omega
    have kc := fun w1 h1 => KC.out w1 h1 hmle
    have hl2 : (l1.drop 1).length ≤ 1048576 := by rw [List.length_drop]; omega
    have LK2 := Lib.hid (fun W hb => LKH.out W hb (l1.take 1) (by rw [List.length_take]; omega))
    clear hlen hszl KC LKH
    have hki := signD_kind (l1.take 1)
    obtain ⟨Y, hY⟩ : ∃ Y : ByteArray, Y = ⟨(l1.take 1).toArray⟩ := ⟨_, rfl⟩
    rw [← hY] at kc LK2
    clear hY
    obtain ⟨sd1, sd2, hsd⟩ : ∃ a c, signD (l1.take 1) = (a, c) := ⟨_, _, rfl⟩
    rw [hsd] at LK2 hki ⊢
    obtain ⟨k, hk⟩ := hki
    dsimp only at hk LK2
    subst hk
    generalize l1.drop 1 = l2 at *
    cases sd2
    · have k2 := need_no
      show Calls _ _ _ _ fun e w' => e = errS 9 ∧ Mv2 p b w w'
      unfold errS at k2 ⊢
      go_enter Tryz.func178, Tryz.ntmps178
      go_upto_region 5 with (first
      | (go_at_call 140; (with_reducible refine kn.mono ?_); rintro e w1 ⟨rfl, h1, m1⟩; obtain ⟨e2, g2, d0, d1, N2⟩ := NAM.out w1 h1 m1; have H2 := Lib.hid N2; obtain ⟨n1, n2, n3⟩ := N2; have HR2 := Lib.hid n1; have HM2 := Lib.hid n3; clear h1 m1 n1 n2 n3)
      | (go_at_call 98; (with_reducible refine (kp _).mono ?_); rintro e w9 ⟨rfl, rfl⟩)
      | (go_at_call 30; refine (need_yes _).mono ?_; rintro e w3 ⟨rfl, rfl⟩))
      go_region_law (go_simp; go_at_call 162; (with_reducible refine (kc _ (HR2.out.below (Below.refl _ _).drew)).mono ?_); rintro e w3 ⟨rfl, h3, m3⟩; have z3 := h3.cells; obtain ⟨-, y1, -, -, -, -⟩ := z3; have m4 := ((Mvd.refl p _).draw).trans m3; have hlk := LK2.out w3 (HM2.out.low.trans m4.low); have H3 := Lib.hid (HM2.out.trans (Mv2.of (b := b) m4)); clear h3 m3 m4)
      all_goals
        go_wp2_with (go_at_call 30; refine (k2 _).mono ?_; rintro e w4 ⟨rfl, rfl⟩)
        exact ⟨rfl, rfl, H3.out⟩
    · have e0 : (if (true : Bool) = true then (Rr.ok (k : Int) l2 : Rr Int) else .bad 9) = .ok (k : Int) l2 := rfl
      rw [e0]
      show Calls _ _ _ _ (AnsB p b (.map (some bm)) d w (if (k : Int) = 2 then .ok ⟨2, q, n, [], []⟩ l2 else withT q (k : Int).toNat n l2))
      have KND : Hid (∀ w2 w3 : World, NamB p b q n l1 (.map (some bm)) d w w2 → Rs p l2 (.map (some bm)) d w3 → Mvd p w2 w3 → w3.cell? ⟨b, 0, none⟩ = some (.int .i64 0) ∧ w3.frozen? ⟨b, 0, none⟩ = false ∧ KndB p b q k n [] l2 (.map (some bm)) d w (w3.setCell ⟨b, 0, none⟩ (.int .i64 (k : Int)))) := by
        show ∀ _, _
        intro w2 w3 hN2 h3 m3
        have p3 := hN2.2.1.moved m3 hpb
        exact ⟨p3.cells.1, p3.cells.2.2.2.1, h3.other hpb, p3.setK k, (hN2.2.2.trans (Mv2.of m3)).trans (Mv2.set hpb _ _ _)⟩
      by_cases hk2 : (k : Int) = 2
      · rw [if_pos hk2]
        obtain rfl : k = 2 := by omega
        clear hk2 e0
        show Calls _ _ _ _ fun e w' => e = .returned (.tuple #[]) ∧ PtB b ⟨2, q, n, [], []⟩ w' ∧ ([] : List Co) = [] ∧ Rs p l2 (.map (some bm)) d w' ∧ Mv2 p b w w'
        rw [show ((2 : Nat) : Int) = 2 from rfl] at LK2 KND
        go_enter Tryz.func178, Tryz.ntmps178
        go_upto_region 5 with (first
      | (go_at_call 140; (with_reducible refine kn.mono ?_); rintro e w1 ⟨rfl, h1, m1⟩; obtain ⟨e2, g2, d0, d1, N2⟩ := NAM.out w1 h1 m1; have H2 := Lib.hid N2; obtain ⟨n1, n2, n3⟩ := N2; have HR2 := Lib.hid n1; have HM2 := Lib.hid n3; clear h1 m1 n1 n2 n3)
      | (go_at_call 98; (with_reducible refine (kp _).mono ?_); rintro e w9 ⟨rfl, rfl⟩)
      | (go_at_call 30; refine (need_yes _).mono ?_; rintro e w3 ⟨rfl, rfl⟩))
        go_region_law (go_simp; go_at_call 162; (with_reducible refine (kc _ (HR2.out.below (Below.refl _ _).drew)).mono ?_); rintro e w3 ⟨rfl, h3, m3⟩; have z3 := h3.cells; obtain ⟨-, y1, -, -, -, -⟩ := z3; have m4 := ((Mvd.refl p _).draw).trans m3; have hlk := LK2.out w3 (HM2.out.low.trans m4.low); obtain ⟨b0, b1, K3⟩ := KND.out _ w3 H2.out h3 m4; have H3 := Lib.hid K3; obtain ⟨k31, k32, k33⟩ := K3; have HR3 := Lib.hid k31; have HM3 := Lib.hid (And.intro k32 k33); clear h3 m3 m4 k31 k32 k33)
        all_goals
          go_wp2_with (go_at_call 30; refine (need_yes _).mono ?_; rintro e w4 ⟨rfl, rfl⟩)
          go_end0
          exact ⟨rfl, HM3.out.1, trivial, HR3.out, HM3.out.2⟩
      · rw [if_neg hk2]
        have hkn : ((k : Int) == 2) = false := by rw [beq_eq_false_iff_ne]; exact hk2
        have hkne : ((k : Int) != 2) = true := by simp [hk2]
        rw [show (k : Int).toNat = k from Int.toNat_natCast k]
        have ku := fun w4 (h4 : KndB p b q k n [] l2 (.map (some bm)) d w w4) => until_barred p l2 (.map (some bm)) d w4 h4.1 hl2
        have hrl := run_past_len shBarred l2
        have kc2 := fun w5 (h5 : Rs p l2 (.map (some bm)) d w5) => cutS_any p (runS shBarred l2).length l2 (.map (some bm)) d w5 h5 (by omega) hl2
        rw [run_take, past_drop] at kc2
        have TXT : Hid (∀ w4 w5 w6 : World, KndB p b q k n [] l2 (.map (some bm)) d w w4 → Below w4.heap.size w4 w5 → Rs p (pastS shBarred l2) (.map (some bm)) d w6 → Mvd p w5 w6 → w6.cell? ⟨b, 3, none⟩ = some (.string ⟨#[]⟩) ∧ w6.frozen? ⟨b, 3, none⟩ = false ∧ KndB p b q k n (runS shBarred l2) (pastS shBarred l2) (.map (some bm)) d w (w6.setCell ⟨b, 3, none⟩ (.string ⟨(runS shBarred l2).toArray⟩))) := by
          show ∀ _, _
          intro w4 w5 w6 h4 b5 h6 m6
          have m5 := Mvd.of b5 h4.1.lt
          have p6 := (h4.2.1.moved m5 hpb).moved m6 hpb
          exact ⟨p6.cells.2.2.1, p6.cells.2.2.2.2.2, h6.other hpb, p6.setT _, ((h4.2.2.trans (Mv2.of m5)).trans (Mv2.of m6)).trans (Mv2.set hpb _ _ _)⟩
        have KU := Lib.hid ku
        have KC2 := Lib.hid kc2
        have RS := Lib.hid (fun w4 w5 (h4 : KndB p b q k n [] l2 (.map (some bm)) d w w4) (b5 : Below w4.heap.size w4 w5) => h4.1.below b5)
        have eT : withT q k n l2 = (needS [125] (pastS shBarred l2)).bind fun _ r => .ok ⟨k, q, n, runS shBarred l2, []⟩ r := rfl
        have en : needS [125] (pastS shBarred l2) = match takeS [125] (pastS shBarred l2) with
          | some r => .ok () r
          | none => .bad 9 := rfl
        rw [eT, en]
        have kt1 := fun r w7 (h7 : Rs p (pastS shBarred l2) (.map (some bm)) d w7) (e : takeS [125] (pastS shBarred l2) = some r) => take125_yes p _ r (.map (some bm)) d w7 h7 (by omega) e
        have kt0 := fun w7 (h7 : Rs p (pastS shBarred l2) (.map (some bm)) d w7) (e : takeS [125] (pastS shBarred l2) = none) => take125_no p _ (.map (some bm)) d w7 h7 e
        obtain ⟨Z, hZ⟩ : ∃ Z : ByteArray, Z = ⟨(runS shBarred l2).toArray⟩ := ⟨_, rfl⟩
        rw [← hZ] at KC2 TXT
        clear ku kc2 hrl eT en hZ
        generalize (runS shBarred l2).length = m at KU KC2
        cases ht : takeS [125] (pastS shBarred l2) with
        | none =>
          have kt := fun w7 h7 => kt0 w7 h7 ht
          have k2 := need_no
          show Calls _ _ _ _ fun e w' => e = errS 9 ∧ Mv2 p b w w'
          unfold errS at k2 ⊢
          clear kt0 kt1 ht hk2 e0
          go_enter Tryz.func178, Tryz.ntmps178
          go_upto_region 5 with (first
      | (go_at_call 140; (with_reducible refine kn.mono ?_); rintro e w1 ⟨rfl, h1, m1⟩; obtain ⟨e2, g2, d0, d1, N2⟩ := NAM.out w1 h1 m1; have H2 := Lib.hid N2; obtain ⟨n1, n2, n3⟩ := N2; have HR2 := Lib.hid n1; have HM2 := Lib.hid n3; clear h1 m1 n1 n2 n3)
      | (go_at_call 98; (with_reducible refine (kp _).mono ?_); rintro e w9 ⟨rfl, rfl⟩)
      | (go_at_call 30; refine (need_yes _).mono ?_; rintro e w3 ⟨rfl, rfl⟩))
          go_region_law (go_simp; go_at_call 162; (with_reducible refine (kc _ (HR2.out.below (Below.refl _ _).drew)).mono ?_); rintro e w3 ⟨rfl, h3, m3⟩; have z3 := h3.cells; obtain ⟨-, y1, -, -, -, -⟩ := z3; have m4 := ((Mvd.refl p _).draw).trans m3; have hlk := LK2.out w3 (HM2.out.low.trans m4.low); obtain ⟨b0, b1, K3⟩ := KND.out _ w3 H2.out h3 m4; have H3 := Lib.hid K3; obtain ⟨k31, k32, k33⟩ := K3; have HR3 := Lib.hid k31; have HM3 := Lib.hid (And.intro k32 k33); clear h3 m3 m4 k31 k32 k33)
          all_goals
            go_wp2_with (first
              | (go_at_call 30; first | ((with_reducible refine (need_yes _).mono ?_); rintro e w4 ⟨rfl, rfl⟩) | ((with_reducible refine (k2 _).mono ?_); rintro e w4 ⟨rfl, rfl⟩))
              | (go_at_call 101; (with_reducible refine (KU.out _ H3.out).mono ?_); rintro e w5 ⟨rfl, b5⟩; have H5 := Lib.hid b5; have R5 := Lib.hid (RS.out _ _ H3.out b5); clear b5)
              | (go_at_call 162; (with_reducible refine (KC2.out _ R5.out).mono ?_); rintro e w6 ⟨rfl, h6, m6⟩; obtain ⟨c3, g3, T6⟩ := TXT.out _ _ w6 H3.out H5.out h6 m6; obtain ⟨k61, k62, k63⟩ := T6; have HR6 := Lib.hid k61; have HM6 := Lib.hid (And.intro k62 k63); clear h6 m6 k61 k62 k63)
              | (go_at_call 103; (with_reducible refine (kt _ HR6.out).mono ?_); rintro e w8 ⟨rfl, rfl⟩))
            exact ⟨rfl, rfl, HM6.out.2⟩
        | some r =>
          have kt := fun w7 h7 => kt1 r w7 h7 ht
          show Calls _ _ _ _ fun e w' => e = .returned (.tuple #[]) ∧ PtB b ⟨k, q, n, runS shBarred l2, []⟩ w' ∧ ([] : List Co) = [] ∧ Rs p r (.map (some bm)) d w' ∧ Mv2 p b w w'
          clear kt0 kt1 ht hk2 e0
          go_enter Tryz.func178, Tryz.ntmps178
          go_upto_region 5 with (first
      | (go_at_call 140; (with_reducible refine kn.mono ?_); rintro e w1 ⟨rfl, h1, m1⟩; obtain ⟨e2, g2, d0, d1, N2⟩ := NAM.out w1 h1 m1; have H2 := Lib.hid N2; obtain ⟨n1, n2, n3⟩ := N2; have HR2 := Lib.hid n1; have HM2 := Lib.hid n3; clear h1 m1 n1 n2 n3)
      | (go_at_call 98; (with_reducible refine (kp _).mono ?_); rintro e w9 ⟨rfl, rfl⟩)
      | (go_at_call 30; refine (need_yes _).mono ?_; rintro e w3 ⟨rfl, rfl⟩))
          go_region_law (go_simp; go_at_call 162; (with_reducible refine (kc _ (HR2.out.below (Below.refl _ _).drew)).mono ?_); rintro e w3 ⟨rfl, h3, m3⟩; have z3 := h3.cells; obtain ⟨-, y1, -, -, -, -⟩ := z3; have m4 := ((Mvd.refl p _).draw).trans m3; have hlk := LK2.out w3 (HM2.out.low.trans m4.low); obtain ⟨b0, b1, K3⟩ := KND.out _ w3 H2.out h3 m4; have H3 := Lib.hid K3; obtain ⟨k31, k32, k33⟩ := K3; have HR3 := Lib.hid k31; have HM3 := Lib.hid (And.intro k32 k33); clear h3 m3 m4 k31 k32 k33)
          all_goals
            go_wp2_with (first
              | (go_at_call 30; ((with_reducible refine (need_yes _).mono ?_); rintro e w4 ⟨rfl, rfl⟩))
              | (go_at_call 101; (with_reducible refine (KU.out _ H3.out).mono ?_); rintro e w5 ⟨rfl, b5⟩; have H5 := Lib.hid b5; have R5 := Lib.hid (RS.out _ _ H3.out b5); clear b5)
              | (go_at_call 162; (with_reducible refine (KC2.out _ R5.out).mono ?_); rintro e w6 ⟨rfl, h6, m6⟩; obtain ⟨c3, g3, T6⟩ := TXT.out _ _ w6 H3.out H5.out h6 m6; obtain ⟨k61, k62, k63⟩ := T6; have HR6 := Lib.hid k61; have HM6 := Lib.hid (And.intro k62 k63); clear h6 m6 k61 k62 k63)
              | (go_at_call 103; (with_reducible refine (kt _ HR6.out).mono ?_); rintro e w8 ⟨rfl, h8, m8⟩))
            go_end0
            exact ⟨rfl, HM6.out.1.moved m8 hpb, trivial, h8, HM6.out.2.trans (Mv2.of m8)⟩
set_option maxHeartbeats 4000000 in
set_option maxRecDepth 20000 in
theorem braced_2 (p b : Nat) (q : Bool) (l n l1 : List UInt8) (sg : Value) (d : Nat) (w : World) (h : Rs p l sg d w) (hE : EnvS p sg w) (hP : PtB b ⟨0, q, [], [], []⟩ w) (hpb : p < b) (hl : l.length ≤ 1048576) (hn : nameR l = .ok n l1) (h58 : atS [58] l1 = true) :
    Calls Tryz.prog 178 #[.pointer (some ⟨p, 0, none⟩), .pointer (some ⟨b, 0, none⟩)] w (AnsB p b sg d w ((signR l1).bind fun k r => if k = 2 then .ok ⟨2, q, n, [], []⟩ r else withT q k.toNat n r)) := by
  have kn : Calls Tryz.prog 140 #[.pointer (some ⟨p, 0, none⟩)] w fun e w' => e = .returned (.string ⟨n.toArray⟩) ∧ Rs p l1 sg d w' ∧ Mvd p w w' := by
    have := name_any p l sg d w h hl
    rw [hn] at this
    exact this
  have hl1 : l1.length ≤ 1048576 := by have := nameR_nice l; rw [hn] at this; exact Nat.le_trans this hl
  have kp := fun w => hasPre58 l1 w
  rw [h58] at kp
  obtain ⟨bm, rfl, LK⟩ := hE.at
  have hsN : signN l1 = 2 := by unfold signN; rw [h58]; rfl
  have eS : signR l1 = if l1.length < 2 then .bad 9 else if (signD (l1.take 2)).2 then .ok (signD (l1.take 2)).1 (l1.drop 2) else .bad 9 := by unfold signR; rw [hsN]
  rw [eS]
  have NAM : Hid (∀ w1, Rs p l1 (.map (some bm)) d w1 → Mvd p w w1 → w1.cell? ⟨b, 2, none⟩ = some (.string ⟨#[]⟩) ∧ w1.frozen? ⟨b, 2, none⟩ = false ∧ (w1.setCell ⟨b, 2, none⟩ (.string ⟨n.toArray⟩)).cell? ⟨p, 0, none⟩ = some (.string ⟨l1.toArray⟩) ∧ (w1.setCell ⟨b, 2, none⟩ (.string ⟨n.toArray⟩)).cell? ⟨p, 1, none⟩ = some (.map (some bm)) ∧ NamB p b q n l1 (.map (some bm)) d w (w1.setCell ⟨b, 2, none⟩ (.string ⟨n.toArray⟩))) := by
    show ∀ _, _
    intro w1 h1 m1
    have p1 := hP.moved m1 hpb
    have r2 := h1.other (i := 2) (v := .string ⟨n.toArray⟩) hpb
    exact ⟨p1.cells.2.1, p1.cells.2.2.2.2.1, r2.cells.1, r2.cells.2.1, r2, p1.setS n, (Mv2.of m1).trans (Mv2.set hpb _ _ _)⟩
  have KC := Lib.hid (fun w1 (h1 : Rs p l1 (.map (some bm)) d w1) (hm : 2 ≤ l1.length) => (show Calls Tryz.prog 162 #[.pointer (some ⟨p, 0, none⟩), .int .i64 2] w1 fun e w' => e = .returned (.string ⟨(l1.take 2).toArray⟩) ∧ Rs p (l1.drop 2) (.map (some bm)) d w' ∧ Mvd p w1 w' from cutS_any p 2 l1 (.map (some bm)) d w1 h1 hm hl1))
  have LKH := Lib.hid LK
  have hszl := sizeS l1
  have HP := Lib.hid hP
  obtain ⟨X, hX⟩ : ∃ X : ByteArray, X = ⟨l1.toArray⟩ := ⟨_, rfl⟩
  rw [← hX] at NAM kp hszl
  obtain ⟨N, hN⟩ : ∃ N : ByteArray, N = ⟨n.toArray⟩ := ⟨_, rfl⟩
  rw [← hN] at NAM kn
  clear h hE LK eS hsN hn h58 hX hN
  by_cases hlen : l1.length < 2
  · rw [if_pos hlen]
    have k2 := need_no
    show Calls _ _ _ _ fun e w' => e = errS 9 ∧ Mv2 p b w w'
    unfold errS at k2 ⊢
    have hnl : ¬ ((2 : Int) ≤ (X.size : Int)) := by omega
    have hnl2 : ¬ (2 ≤ X.size) := by omega
    have hdd : decide ((2 : Int) ≤ (X.size : Int)) = false := decide_eq_false hnl
    clear hlen hszl
    go_enter Tryz.func178, Tryz.ntmps178
    go_wp2_with (first
      | (go_at_call 140; (with_reducible refine kn.mono ?_); rintro e w1 ⟨rfl, h1, m1⟩; obtain ⟨e2, g2, d0, d1, N2⟩ := NAM.out w1 h1 m1; have H2 := Lib.hid N2; obtain ⟨n1, n2, n3⟩ := N2; have HR2 := Lib.hid n1; have HM2 := Lib.hid n3; clear h1 m1 n1 n2 n3)
      | (go_at_call 98; (with_reducible refine (kp _).mono ?_); rintro e w9 ⟨rfl, rfl⟩)
      | (go_at_call 30; refine (k2 _).mono ?_; rintro e w3 ⟨rfl, rfl⟩))
    exact ⟨rfl, rfl, HM2.out⟩
  · rw [if_neg hlen]
    have hnl : (2 : Int) ≤ (X.size : Int) := by omega
    have hnl2 : 2 ≤ X.size := by omega
    have hdd : decide ((2 : Int) ≤ (X.size : Int)) = true := decide_eq_true hnl
    have hmle : 2 ≤ l1.length := by omega
    have kc := fun w1 h1 => KC.out w1 h1 hmle
    have hl2 : (l1.drop 2).length ≤ 1048576 := by rw [List.length_drop]; omega
    have LK2 := Lib.hid (fun W hb => LKH.out W hb (l1.take 2) (by rw [List.length_take]; omega))
    clear hlen hszl KC LKH
    have hki := signD_kind (l1.take 2)
    obtain ⟨Y, hY⟩ : ∃ Y : ByteArray, Y = ⟨(l1.take 2).toArray⟩ := ⟨_, rfl⟩
    rw [← hY] at kc LK2
    clear hY
    obtain ⟨sd1, sd2, hsd⟩ : ∃ a c, signD (l1.take 2) = (a, c) := ⟨_, _, rfl⟩
    rw [hsd] at LK2 hki ⊢
    obtain ⟨k, hk⟩ := hki
    dsimp only at hk LK2
    subst hk
    generalize l1.drop 2 = l2 at *
    cases sd2
    · have k2 := need_no
      show Calls _ _ _ _ fun e w' => e = errS 9 ∧ Mv2 p b w w'
      unfold errS at k2 ⊢
      go_enter Tryz.func178, Tryz.ntmps178
      go_upto_region 5 with (first
      | (go_at_call 140; (with_reducible refine kn.mono ?_); rintro e w1 ⟨rfl, h1, m1⟩; obtain ⟨e2, g2, d0, d1, N2⟩ := NAM.out w1 h1 m1; have H2 := Lib.hid N2; obtain ⟨n1, n2, n3⟩ := N2; have HR2 := Lib.hid n1; have HM2 := Lib.hid n3; clear h1 m1 n1 n2 n3)
      | (go_at_call 98; (with_reducible refine (kp _).mono ?_); rintro e w9 ⟨rfl, rfl⟩)
      | (go_at_call 30; refine (need_yes _).mono ?_; rintro e w3 ⟨rfl, rfl⟩))
      go_region_law (go_simp; go_at_call 162; (with_reducible refine (kc _ (HR2.out.below (Below.refl _ _).drew)).mono ?_); rintro e w3 ⟨rfl, h3, m3⟩; have z3 := h3.cells; obtain ⟨-, y1, -, -, -, -⟩ := z3; have m4 := ((Mvd.refl p _).draw).trans m3; have hlk := LK2.out w3 (HM2.out.low.trans m4.low); have H3 := Lib.hid (HM2.out.trans (Mv2.of (b := b) m4)); clear h3 m3 m4)
      all_goals
        go_wp2_with (go_at_call 30; refine (k2 _).mono ?_; rintro e w4 ⟨rfl, rfl⟩)
        exact ⟨rfl, rfl, H3.out⟩
    · have e0 : (if (true : Bool) = true then (Rr.ok (k : Int) l2 : Rr Int) else .bad 9) = .ok (k : Int) l2 := rfl
      rw [e0]
      show Calls _ _ _ _ (AnsB p b (.map (some bm)) d w (if (k : Int) = 2 then .ok ⟨2, q, n, [], []⟩ l2 else withT q (k : Int).toNat n l2))
      have KND : Hid (∀ w2 w3 : World, NamB p b q n l1 (.map (some bm)) d w w2 → Rs p l2 (.map (some bm)) d w3 → Mvd p w2 w3 → w3.cell? ⟨b, 0, none⟩ = some (.int .i64 0) ∧ w3.frozen? ⟨b, 0, none⟩ = false ∧ KndB p b q k n [] l2 (.map (some bm)) d w (w3.setCell ⟨b, 0, none⟩ (.int .i64 (k : Int)))) := by
        show ∀ _, _
        intro w2 w3 hN2 h3 m3
        have p3 := hN2.2.1.moved m3 hpb
        exact ⟨p3.cells.1, p3.cells.2.2.2.1, h3.other hpb, p3.setK k, (hN2.2.2.trans (Mv2.of m3)).trans (Mv2.set hpb _ _ _)⟩
      by_cases hk2 : (k : Int) = 2
      · rw [if_pos hk2]
        obtain rfl : k = 2 := by omega
        clear hk2 e0
        show Calls _ _ _ _ fun e w' => e = .returned (.tuple #[]) ∧ PtB b ⟨2, q, n, [], []⟩ w' ∧ ([] : List Co) = [] ∧ Rs p l2 (.map (some bm)) d w' ∧ Mv2 p b w w'
        rw [show ((2 : Nat) : Int) = 2 from rfl] at LK2 KND
        go_enter Tryz.func178, Tryz.ntmps178
        go_upto_region 5 with (first
      | (go_at_call 140; (with_reducible refine kn.mono ?_); rintro e w1 ⟨rfl, h1, m1⟩; obtain ⟨e2, g2, d0, d1, N2⟩ := NAM.out w1 h1 m1; have H2 := Lib.hid N2; obtain ⟨n1, n2, n3⟩ := N2; have HR2 := Lib.hid n1; have HM2 := Lib.hid n3; clear h1 m1 n1 n2 n3)
      | (go_at_call 98; (with_reducible refine (kp _).mono ?_); rintro e w9 ⟨rfl, rfl⟩)
      | (go_at_call 30; refine (need_yes _).mono ?_; rintro e w3 ⟨rfl, rfl⟩))
        go_region_law (go_simp; go_at_call 162; (with_reducible refine (kc _ (HR2.out.below (Below.refl _ _).drew)).mono ?_); rintro e w3 ⟨rfl, h3, m3⟩; have z3 := h3.cells; obtain ⟨-, y1, -, -, -, -⟩ := z3; have m4 := ((Mvd.refl p _).draw).trans m3; have hlk := LK2.out w3 (HM2.out.low.trans m4.low); obtain ⟨b0, b1, K3⟩ := KND.out _ w3 H2.out h3 m4; have H3 := Lib.hid K3; obtain ⟨k31, k32, k33⟩ := K3; have HR3 := Lib.hid k31; have HM3 := Lib.hid (And.intro k32 k33); clear h3 m3 m4 k31 k32 k33)
        all_goals
          go_wp2_with (go_at_call 30; refine (need_yes _).mono ?_; rintro e w4 ⟨rfl, rfl⟩)
          go_end0
          exact ⟨rfl, HM3.out.1, trivial, HR3.out, HM3.out.2⟩
      · rw [if_neg hk2]
        have hkn : ((k : Int) == 2) = false := by rw [beq_eq_false_iff_ne]; exact hk2
        have hkne : ((k : Int) != 2) = true := by simp [hk2]
        rw [show (k : Int).toNat = k from Int.toNat_natCast k]
        have ku := fun w4 (h4 : KndB p b q k n [] l2 (.map (some bm)) d w w4) => until_barred p l2 (.map (some bm)) d w4 h4.1 hl2
        have hrl := run_past_len shBarred l2
        have kc2 := fun w5 (h5 : Rs p l2 (.map (some bm)) d w5) => cutS_any p (runS shBarred l2).length l2 (.map (some bm)) d w5 h5 (by omega) hl2
        rw [run_take, past_drop] at kc2
        have TXT : Hid (∀ w4 w5 w6 : World, KndB p b q k n [] l2 (.map (some bm)) d w w4 → Below w4.heap.size w4 w5 → Rs p (pastS shBarred l2) (.map (some bm)) d w6 → Mvd p w5 w6 → w6.cell? ⟨b, 3, none⟩ = some (.string ⟨#[]⟩) ∧ w6.frozen? ⟨b, 3, none⟩ = false ∧ KndB p b q k n (runS shBarred l2) (pastS shBarred l2) (.map (some bm)) d w (w6.setCell ⟨b, 3, none⟩ (.string ⟨(runS shBarred l2).toArray⟩))) := by
          show ∀ _, _
          intro w4 w5 w6 h4 b5 h6 m6
          have m5 := Mvd.of b5 h4.1.lt
          have p6 := (h4.2.1.moved m5 hpb).moved m6 hpb
          exact ⟨p6.cells.2.2.1, p6.cells.2.2.2.2.2, h6.other hpb, p6.setT _, ((h4.2.2.trans (Mv2.of m5)).trans (Mv2.of m6)).trans (Mv2.set hpb _ _ _)⟩
        have KU := Lib.hid ku
        have KC2 := Lib.hid kc2
        have RS := Lib.hid (fun w4 w5 (h4 : KndB p b q k n [] l2 (.map (some bm)) d w w4) (b5 : Below w4.heap.size w4 w5) => h4.1.below b5)
        have eT : withT q k n l2 = (needS [125] (pastS shBarred l2)).bind fun _ r => .ok ⟨k, q, n, runS shBarred l2, []⟩ r := rfl
        have en : needS [125] (pastS shBarred l2) = match takeS [125] (pastS shBarred l2) with
          | some r => .ok () r
          | none => .bad 9 := rfl
        rw [eT, en]
        have kt1 := fun r w7 (h7 : Rs p (pastS shBarred l2) (.map (some bm)) d w7) (e : takeS [125] (pastS shBarred l2) = some r) => take125_yes p _ r (.map (some bm)) d w7 h7 (by omega) e
        have kt0 := fun w7 (h7 : Rs p (pastS shBarred l2) (.map (some bm)) d w7) (e : takeS [125] (pastS shBarred l2) = none) => take125_no p _ (.map (some bm)) d w7 h7 e
        obtain ⟨Z, hZ⟩ : ∃ Z : ByteArray, Z = ⟨(runS shBarred l2).toArray⟩ := ⟨_, rfl⟩
        rw [← hZ] at KC2 TXT
        clear ku kc2 hrl eT en hZ
        generalize (runS shBarred l2).length = m at KU KC2
        cases ht : takeS [125] (pastS shBarred l2) with
        | none =>
          have kt := fun w7 h7 => kt0 w7 h7 ht
          have k2 := need_no
          show Calls _ _ _ _ fun e w' => e = errS 9 ∧ Mv2 p b w w'
          unfold errS at k2 ⊢
          clear kt0 kt1 ht hk2 e0
          go_enter Tryz.func178, Tryz.ntmps178
          go_upto_region 5 with (first
      | (go_at_call 140; (with_reducible refine kn.mono ?_); rintro e w1 ⟨rfl, h1, m1⟩; obtain ⟨e2, g2, d0, d1, N2⟩ := NAM.out w1 h1 m1; have H2 := Lib.hid N2; obtain ⟨n1, n2, n3⟩ := N2; have HR2 := Lib.hid n1; have HM2 := Lib.hid n3; clear h1 m1 n1 n2 n3)
      | (go_at_call 98; (with_reducible refine (kp _).mono ?_); rintro e w9 ⟨rfl, rfl⟩)
      | (go_at_call 30; refine (need_yes _).mono ?_; rintro e w3 ⟨rfl, rfl⟩))
          go_region_law (go_simp; go_at_call 162; (with_reducible refine (kc _ (HR2.out.below (Below.refl _ _).drew)).mono ?_); rintro e w3 ⟨rfl, h3, m3⟩; have z3 := h3.cells; obtain ⟨-, y1, -, -, -, -⟩ := z3; have m4 := ((Mvd.refl p _).draw).trans m3; have hlk := LK2.out w3 (HM2.out.low.trans m4.low); obtain ⟨b0, b1, K3⟩ := KND.out _ w3 H2.out h3 m4; have H3 := Lib.hid K3; obtain ⟨k31, k32, k33⟩ := K3; have HR3 := Lib.hid k31; have HM3 := Lib.hid (And.intro k32 k33); clear h3 m3 m4 k31 k32 k33)
          all_goals
            go_wp2_with (first
              | (go_at_call 30; first | ((with_reducible refine (need_yes _).mono ?_); rintro e w4 ⟨rfl, rfl⟩) | ((with_reducible refine (k2 _).mono ?_); rintro e w4 ⟨rfl, rfl⟩))
              | (go_at_call 101; (with_reducible refine (KU.out _ H3.out).mono ?_); rintro e w5 ⟨rfl, b5⟩; have H5 := Lib.hid b5; have R5 := Lib.hid (RS.out _ _ H3.out b5); clear b5)
              | (go_at_call 162; (with_reducible refine (KC2.out _ R5.out).mono ?_); rintro e w6 ⟨rfl, h6, m6⟩; obtain ⟨c3, g3, T6⟩ := TXT.out _ _ w6 H3.out H5.out h6 m6; obtain ⟨k61, k62, k63⟩ := T6; have HR6 := Lib.hid k61; have HM6 := Lib.hid (And.intro k62 k63); clear h6 m6 k61 k62 k63)
              | (go_at_call 103; (with_reducible refine (kt _ HR6.out).mono ?_); rintro e w8 ⟨rfl, rfl⟩))
            exact ⟨rfl, rfl, HM6.out.2⟩
        | some r =>
          have kt := fun w7 h7 => kt1 r w7 h7 ht
          show Calls _ _ _ _ fun e w' => e = .returned (.tuple #[]) ∧ PtB b ⟨k, q, n, runS shBarred l2, []⟩ w' ∧ ([] : List Co) = [] ∧ Rs p r (.map (some bm)) d w' ∧ Mv2 p b w w'
          clear kt0 kt1 ht hk2 e0
          go_enter Tryz.func178, Tryz.ntmps178
          go_upto_region 5 with (first
      | (go_at_call 140; (with_reducible refine kn.mono ?_); rintro e w1 ⟨rfl, h1, m1⟩; obtain ⟨e2, g2, d0, d1, N2⟩ := NAM.out w1 h1 m1; have H2 := Lib.hid N2; obtain ⟨n1, n2, n3⟩ := N2; have HR2 := Lib.hid n1; have HM2 := Lib.hid n3; clear h1 m1 n1 n2 n3)
      | (go_at_call 98; (with_reducible refine (kp _).mono ?_); rintro e w9 ⟨rfl, rfl⟩)
      | (go_at_call 30; refine (need_yes _).mono ?_; rintro e w3 ⟨rfl, rfl⟩))
          go_region_law (go_simp; go_at_call 162; (with_reducible refine (kc _ (HR2.out.below (Below.refl _ _).drew)).mono ?_); rintro e w3 ⟨rfl, h3, m3⟩; have z3 := h3.cells; obtain ⟨-, y1, -, -, -, -⟩ := z3; have m4 := ((Mvd.refl p _).draw).trans m3; have hlk := LK2.out w3 (HM2.out.low.trans m4.low); obtain ⟨b0, b1, K3⟩ := KND.out _ w3 H2.out h3 m4; have H3 := Lib.hid K3; obtain ⟨k31, k32, k33⟩ := K3; have HR3 := Lib.hid k31; have HM3 := Lib.hid (And.intro k32 k33); clear h3 m3 m4 k31 k32 k33)
          all_goals
            go_wp2_with (first
              | (go_at_call 30; ((with_reducible refine (need_yes _).mono ?_); rintro e w4 ⟨rfl, rfl⟩))
              | (go_at_call 101; (with_reducible refine (KU.out _ H3.out).mono ?_); rintro e w5 ⟨rfl, b5⟩; have H5 := Lib.hid b5; have R5 := Lib.hid (RS.out _ _ H3.out b5); clear b5)
              | (go_at_call 162; (with_reducible refine (KC2.out _ R5.out).mono ?_); rintro e w6 ⟨rfl, h6, m6⟩; obtain ⟨c3, g3, T6⟩ := TXT.out _ _ w6 H3.out H5.out h6 m6; obtain ⟨k61, k62, k63⟩ := T6; have HR6 := Lib.hid k61; have HM6 := Lib.hid (And.intro k62 k63); clear h6 m6 k61 k62 k63)
              | (go_at_call 103; (with_reducible refine (kt _ HR6.out).mono ?_); rintro e w8 ⟨rfl, h8, m8⟩))
            go_end0
            exact ⟨rfl, HM6.out.1.moved m8 hpb, trivial, h8, HM6.out.2.trans (Mv2.of m8)⟩
theorem braced_any (p b : Nat) (q : Bool) (l : List UInt8) (sg : Value) (d : Nat) (w : World) (h : Rs p l sg d w) (hE : EnvS p sg w) (hP : PtB b ⟨0, q, [], [], []⟩ w) (hpb : p < b) (hl : l.length ≤ 1048576) :
  Calls Tryz.prog 178 #[.pointer (some ⟨p, 0, none⟩), .pointer (some ⟨b, 0, none⟩)] w (AnsB p b sg d w (bracedS q l)) := by
 rw [bracedS_eq]
 cases hn : nameR l with
 | ok n l1 =>
  cases h58 : atS [58] l1 with
  | false => exact braced_1 p b q l n l1 sg d w h hE hP hpb hl hn h58
  | true => exact braced_2 p b q l n l1 sg d w h hE hP hpb hl hn h58
 | bad x =>
  have kn : Calls Tryz.prog 140 #[.pointer (some ⟨p, 0, none⟩)] w fun e w' => e = errS x ∧ Mvd p w w' := by
   have := name_any p l sg d w h hl
   rw [hn] at this
   exact this
  show Calls _ _ _ _ fun e w' => e = errS x ∧ Mv2 p b w w'
  unfold errS at kn ⊢
  clear h hE hP hn
  go_enter Tryz.func178, Tryz.ntmps178
  go_wp2_with (go_at_call 140; (with_reducible refine kn.mono ?_); rintro e w1 ⟨rfl, m1⟩)
  exact ⟨rfl, rfl, Mv2.of m1⟩
end Go.Proofs.YtelfgobjnibooaaGreatDoor
namespace Go.Proofs.YtelfgobjnibooaaGreatDoor
open Go.RowKit Go.Lib
theorem Tryz.infoPartZ : (Tryz.prog.info? 42).map (fun i => (i.zero, i.size, i.bytes)) = some (some (.agg #[.int .i64 0, .bool false, .string ByteArray.empty, .string ByteArray.empty, .slice none 0 0]), 5, 72) := by kernel_rfl
theorem Tryz.infoU8Z : (Tryz.prog.info? 5).map (fun i => (i.zero, i.size, i.bytes)) = some (some (.int .u8 0), 1, 1) := by kernel_rfl
theorem cells_list (w : World) (t : TypeId) (cs : List Value) : ∀ r x, cs[r]? = some x → (w.alloc (.cells cs.toArray t)).cell? ((⟨w.heap.size, 0, none⟩ : Addr).add r) = some x := by
 intro r x hx
 have hh := heap_alloc_new w (.cells cs.toArray t)
 have ea : (⟨w.heap.size, 0, none⟩ : Addr).add r = ⟨w.heap.size, r, none⟩ := by simp [Addr.add]; intro h; exact h.symm
 rw [ea, cell_of_heap hh]
 simpa using hx
def CurOk : Option (Bool × List UInt8) → Bool → Bool → List UInt8 → Prop
 | none, o, _, txt => o = false ∧ txt = []
 | some (b, t), o, qd, txt => o = true ∧ qd = b ∧ txt = t
structure SpX (L : ValP (List Co)) (q : Nat) (st : Sp) (vp vt : Value) (o qd : Bool) (txt : List UInt8) (w : World) : Prop where
 blk : w.heap[q]? = some (.cells #[vp, vt, .bool o, .bool qd] 148 (0, 0))
 ps : BldA (partE L) 42 (q + 1) (fun g => vt.ownBlock = some g) w vp st.ps
 tx : w.ownsRow (q + 1) 5 1 vt txt.length (byteCells txt)
 cur : CurOk st.cur o qd txt
def SpM (L : ValP (List Co)) (q : Nat) (A : Nat → Prop) (st : Sp) (w : World) : Prop := ∃ vp vt o qd txt, SpX L q st vp vt o qd txt w ∧ ∀ g, A g → vp.ownBlock ≠ some g ∧ vt.ownBlock ≠ some g
theorem SpX.same {L : ValP (List Co)} {q : Nat} {st : Sp} {vp vt : Value} {o qd : Bool} {txt : List UInt8} {w w' : World} (h : SpX L q st vp vt o qd txt w) (hs : w.heap.size ≤ w'.heap.size) (hb : ∀ g, q ≤ g → g < w.heap.size → w'.heap[g]? = w.heap[g]?) : SpX L q st vp vt o qd txt w' :=
 ⟨(hb q (Nat.le_refl _) (heap_ltS h.blk)).trans h.blk, h.ps.same hs fun g h1 h2 _ => hb g (by omega) h2, ownS_same h.tx fun g hg => hb g (by have := ownS_lt h.tx hg; omega) (ownS_lt h.tx hg).2, h.cur⟩
theorem SpM.same {L : ValP (List Co)} {q : Nat} {A : Nat → Prop} {st : Sp} {w w' : World} (h : SpM L q A st w) (hs : w.heap.size ≤ w'.heap.size) (hb : ∀ g, q ≤ g → g < w.heap.size → w'.heap[g]? = w.heap[g]?) : SpM L q A st w' := by
 obtain ⟨vp, vt, o, qd, txt, h, ha⟩ := h; exact ⟨vp, vt, o, qd, txt, h.same hs hb, ha⟩
theorem SpM.moved {L : ValP (List Co)} {p q : Nat} {A : Nat → Prop} {st : Sp} {w w' : World} (h : SpM L q A st w) (hm : Mvd p w w') (hp : p < q) : SpM L q A st w' := h.same hm.size fun g h1 h2 => hm.high g (by omega) h2
theorem SpM.since {L : ValP (List Co)} {p q : Nat} {A : Nat → Prop} {st : Sp} {w w' : World} (h : SpM L q A st w) (hm : Mvd p w w') (hp : p < q) : SpM L q (NewF w.heap.size w'.heap.size) st w' := by
 obtain ⟨vp, vt, o, qd, txt, h, ha⟩ := h
 refine ⟨vp, vt, o, qd, txt, h.same hm.size fun g h1 h2 => hm.high g (by omega) h2, fun g hg => ⟨fun e => ?_, fun e => ?_⟩⟩
 ·have h1 := (h.ps.lt g e).2; have h2 := hg.1; omega
 ·have h1 := (ownS_lt h.tx e).2; have h2 := hg.1; omega
theorem SpM.none {L : ValP (List Co)} {q : Nat} {A : Nat → Prop} {st : Sp} {w : World} (h : SpM L q A st w) : SpM L q NoneF st w := by
 obtain ⟨vp, vt, o, qd, txt, h, ha⟩ := h; exact ⟨vp, vt, o, qd, txt, h, fun g hg => hg.elim⟩
theorem SpX.cells {L : ValP (List Co)} {q : Nat} {st : Sp} {vp vt : Value} {o qd : Bool} {txt : List UInt8} {w : World} (h : SpX L q st vp vt o qd txt w) :
  w.cell? ⟨q, 0, none⟩ = some vp ∧ w.cell? ⟨q, 1, none⟩ = some vt ∧ w.cell? ⟨q, 2, none⟩ = some (.bool o) ∧ w.cell? ⟨q, 3, none⟩ = some (.bool qd) ∧ w.frozen? ⟨q, 0, none⟩ = false ∧ w.frozen? ⟨q, 1, none⟩ = false ∧ w.frozen? ⟨q, 2, none⟩ = false ∧ w.frozen? ⟨q, 3, none⟩ = false := by
 have h := h.blk
 refine ⟨by rw [cell_of_heap h]; rfl, by rw [cell_of_heap h]; rfl, by rw [cell_of_heap h]; rfl, by rw [cell_of_heap h]; rfl, frozen_of_heap h _, frozen_of_heap h _, frozen_of_heap h _, frozen_of_heap h _⟩
theorem ownS_cut {w : World} {B n size : Nat} {e : TypeId} {ao : Option Addr} {cap : Nat} {xs : List Value} (h : w.ownsRow B e size (.slice ao n cap) n xs) : w.ownsRow B e size (.slice ao 0 cap) 0 [] := by
 rcases h.2 with ⟨e0, _⟩ | ⟨g, c, cur, hv, hB, hg, hn, hc, hz, ht⟩
 ·cases e0; exact World.ownsRow_nil _ _ _ _
 ·cases hv
  exact ⟨by simp, .inr ⟨g, _, cur, rfl, hB, hg, Nat.zero_le _, hc, hz, by simp⟩⟩
theorem SpX.cut {L : ValP (List Co)} {q : Nat} {st : Sp} {vp : Value} {ao : Option Addr} {cap : Nat} {o qd : Bool} {txt : List UInt8} {w : World} (h : SpX L q st vp (.slice ao txt.length cap) o qd txt w) :
  SpX L q ⟨st.ps, none⟩ vp (.slice ao 0 cap) false qd [] ((w.setCell ⟨q, 2, none⟩ (.bool false)).setCell ⟨q, 1, none⟩ (.slice ao 0 cap)) ∧ SpX L q ⟨st.ps, none⟩ vp (.slice ao 0 cap) false qd [] ((w.setCell ⟨q, 1, none⟩ (.slice ao 0 cap)).setCell ⟨q, 2, none⟩ (.bool false)) := by
 have hq : ∀ (w' : World), w'.heap[q]? = some (.cells #[vp, .slice ao 0 cap, .bool false, .bool qd] 148 (0, 0)) → w.heap.size ≤ w'.heap.size → (∀ g, q + 1 ≤ g → g < w.heap.size → w'.heap[g]? = w.heap[g]?) → SpX L q ⟨st.ps, none⟩ vp (.slice ao 0 cap) false qd [] w' := fun w' h1 h2 h3 =>
  ⟨h1, (h.ps.avoid (A' := fun g => (Value.slice ao 0 cap).ownBlock = some g) fun g hg => .inl (by cases ao <;> exact hg)).same h2 fun g a b _ => h3 g a b, ownS_cut (ownS_same h.tx fun g hg => h3 g (ownS_lt h.tx hg).1 (ownS_lt h.tx hg).2), ⟨rfl, rfl⟩⟩
 constructor
 ·refine hq _ ?_ (by simp) fun g a b => ?_
  ·have h1 := heap_setCell_same w q 2 _ _ (.bool false) h.blk
   have h2 := heap_setCell_same _ q 1 _ _ (.slice ao 0 cap) h1
   simpa using h2
  ·rw [Below.heap_setCell _ _ _ _ (by show g ≠ q; omega), Below.heap_setCell _ _ _ _ (by show g ≠ q; omega)]
 ·refine hq _ ?_ (by simp) fun g a b => ?_
  ·have h1 := heap_setCell_same w q 1 _ _ (.slice ao 0 cap) h.blk
   have h2 := heap_setCell_same _ q 2 _ _ (.bool false) h1
   simpa using h2
  ·rw [Below.heap_setCell _ _ _ _ (by show g ≠ q; omega), Below.heap_setCell _ _ _ _ (by show g ≠ q; omega)]
theorem cut_below {w w' : World} {q i j : Nat} {u v : Value} (h : Below q w w') : Below q w ((w'.setCell ⟨q, i, none⟩ u).setCell ⟨q, j, none⟩ v) := (h.setCell (p := ⟨q, i, none⟩) (Nat.le_refl _) _).setCell (p := ⟨q, j, none⟩) (Nat.le_refl _) _
theorem cut_other {w : World} {q i j g : Nat} {u v : Value} (h : g ≠ q) : ((w.setCell ⟨q, i, none⟩ u).setCell ⟨q, j, none⟩ v).heap[g]? = w.heap[g]? := by
 rw [Below.heap_setCell _ _ _ _ h, Below.heap_setCell _ _ _ _ h]
set_option maxHeartbeats 2000000 in
set_option maxRecDepth 20000 in
theorem close_none (L : ValP (List Co)) (q : Nat) (A : Nat → Prop) (st : Sp) (w : World) (h : SpM L q A st w) (hAq : ∀ g, A g → g ≠ q) (hc : st.cur = none) :
  Calls Tryz.prog 168 #[.pointer (some ⟨q, 0, none⟩)] w fun e w' => e = .returned (.tuple #[]) ∧ SpM L q A ⟨st.ps, none⟩ w' ∧ Below q w w' ∧ ∀ g, A g → w'.heap[g]? = w.heap[g]? := by
 obtain ⟨vp, vt, o, qd, txt, h, ha⟩ := h
 obtain ⟨ao, cap, rfl, hcap⟩ := ownS_shape h.tx
 have HAV : Hid (∀ g, A g → vp.ownBlock ≠ some g ∧ (Value.slice ao 0 cap).ownBlock ≠ some g) := fun g hg => ⟨(ha g hg).1, fun e => (ha g hg).2 (by cases ao <;> exact e)⟩
 have HAQ := Lib.hid hAq
 clear ha hAq
 have ho := h.cur
 rw [hc] at ho
 obtain ⟨rfl, rfl⟩ := ho
 obtain ⟨c0, c1, c2, c3, f0, f1, f2, f3⟩ := h.cells
 have H := Lib.hid h
 clear h hc
 go_enter Tryz.func168, Tryz.ntmps168
 go_upto_region 2 with fail
 go_region_law (fail)
 all_goals
  go_end0
  first
   | exact ⟨rfl, ⟨_, _, _, _, _, H.out.cut.1.same (Nat.le_refl _) fun _ _ _ => rfl, HAV.out⟩, (cut_below (Below.refl q w)).drew, fun g hg => cut_other (HAQ.out g hg)⟩
   | exact ⟨rfl, ⟨_, _, _, _, _, H.out.cut.2.same (Nat.le_refl _) fun _ _ _ => rfl, HAV.out⟩, (cut_below (Below.refl q w)).drew, fun g hg => cut_other (HAQ.out g hg)⟩
theorem grown_keep {w w2 : World} {o : Obj} {row : Option Nat} (hg : (w.alloc o).grownBy w2 row) {g : Nat} (h1 : g < w.heap.size) (h2 : row ≠ some g) : w2.heap[g]? = w.heap[g]? :=
 (hg.block g (by simp; omega) fun e => h2 e.symm).trans (Below.heap_alloc _ _ _ h1)
theorem SpX.part {L : ValP (List Co)} {q : Nat} {st : Sp} {vp vt vp2 : Value} {ob qd : Bool} {txt : List UInt8} {ys cs : List Value} {x : Pt} {w w2 : World} {o : Obj} {Fx : Nat → Prop} (h : SpX L q st vp vt ob qd txt w) (hx : (partE L).q Fx w x cs) (hF : ∀ g, Fx g → q + 1 ≤ g ∧ g < w.heap.size) (hA : ∀ g, Fx g → vp.ownBlock ≠ some g ∧ vt.ownBlock ≠ some g)
  (hy : w.ownsRow (q + 1) 42 5 vp st.ps.length ys) (h2 : w2.ownsRow (q + 1) 42 5 vp2 (st.ps.length + 1) (ys ++ cs)) (hg : (w.alloc o).grownBy w2 vp.ownBlock) (hf : vp2.ownBlock = vp.ownBlock ∨ vp2.ownBlock = some (w.alloc o).heap.size) :
  (w2.setCell ⟨q, 0, none⟩ vp2).heap[q]? = some (.cells #[vp2, vt, .bool ob, .bool qd] 148 (0, 0)) ∧ BldA (partE L) 42 (q + 1) (fun g => vt.ownBlock = some g) (w2.setCell ⟨q, 0, none⟩ vp2) vp2 (st.ps ++ [x]) ∧ (w2.setCell ⟨q, 0, none⟩ vp2).ownsRow (q + 1) 5 1 vt txt.length (byteCells txt) := by
 have hq := heap_ltS h.blk
 have hz : (w.alloc o).heap.size = w.heap.size + 1 := by simp
 have hpo : ∀ g, vp.ownBlock = some g → q + 1 ≤ g := fun g hg => (h.ps.lt g hg).1
 have hb2 : w2.heap[q]? = some (.cells #[vp, vt, .bool ob, .bool qd] 148 (0, 0)) := (grown_keep hg hq fun e => by have := hpo q e; omega).trans h.blk
 have e3 := heap_setCell_same w2 q 0 _ _ vp2 hb2
 obtain ⟨css, F, k1, k2, k3, k4, k5, k6⟩ := h.ps
 have hA0 : BldA (partE L) 42 (q + 1) (fun g => vt.ownBlock = some g) (w.alloc o) vp st.ps := h.ps.same (by simp) fun g a b _ => Below.heap_alloc _ _ _ b
 have hx2 : (partE L).q Fx (w.alloc o) x cs := (partE L).same _ _ (w.alloc o) _ _ (fun g hg => Below.heap_alloc _ _ _ (hF g hg).2) hx
 have hB := hA0.snoc hx2 (fun g hg => ⟨(hF g hg).1, by rw [hz]; have := (hF g hg).2; omega⟩) (fun g hg => (hA g hg).1) (fun g hg => ⟨fun hf => (hA g hf).2 hg, by rw [hz]; have := (ownS_lt h.tx hg).2; omega⟩) (ownS_same hy fun g hg => Below.heap_alloc _ _ _ (ownS_lt hy hg).2) h2 hg hf
 refine ⟨by simpa using e3, ?_, ?_⟩
 ·exact hB.same (by simp) fun g a b _ => Below.heap_setCell _ _ _ _ (by show g ≠ q; omega)
 ·refine ownS_same h.tx fun g hgt => ?_
  have h8 := ownS_lt h.tx hgt
  rw [Below.heap_setCell _ _ _ _ (by show g ≠ q; omega)]
  exact grown_keep hg h8.2 fun e => (k6 g hgt).2 e
set_option maxHeartbeats 4000000 in
set_option maxRecDepth 20000 in
theorem close_some (L : ValP (List Co)) (hL : ∀ F w, L.q F w (.slice none 0 0) []) (q : Nat) (A : Nat → Prop) (st : Sp) (b : Bool) (tx : List UInt8) (w : World) (h : SpM L q A st w) (hAw : ∀ g, A g → g < w.heap.size) (hAq : ∀ g, A g → g ≠ q) (hc : st.cur = some (b, tx)) (hn : st.ps.length ≤ 1000000000) :
  Calls Tryz.prog 168 #[.pointer (some ⟨q, 0, none⟩)] w fun e w' => e = .returned (.tuple #[]) ∧ SpM L q A ⟨st.ps ++ [litP b tx], none⟩ w' ∧ Below q w w' ∧ ∀ g, A g → w'.heap[g]? = w.heap[g]? := by
 obtain ⟨vp, vt, o, qd, txt, h, ha⟩ := h
 obtain ⟨ao, cap, rfl, hcap⟩ := ownS_shape h.tx
 have HAV : Hid (∀ g, A g → vp.ownBlock ≠ some g ∧ (Value.slice ao 0 cap).ownBlock ≠ some g) := fun g hg => ⟨(ha g hg).1, fun e => (ha g hg).2 (by cases ao <;> exact e)⟩
 have HAQ := Lib.hid hAq
 clear ha hAq
 have ho := h.cur
 rw [hc] at ho
 obtain ⟨rfl, rfl, rfl⟩ := ho
 obtain ⟨c0, c1, c2, c3, f0, f1, f2, f3⟩ := h.cells
 obtain ⟨ys, hy⟩ := h.ps.own
 obtain ⟨ap, capp, rfl, hcapp⟩ := ownS_shape hy
 have HAV0 := HAV.out
 clear HAV
 have hcv := conv_owned (P := Tryz.prog) (src := 72) (dst := 9) Tryz.underlying72 Tryz.underlying5 Tryz.underlying9 (ownS_same (w' := w.drew) h.tx fun _ _ => rfl)
 obtain ⟨i0, hi, hz0, hz1, hz2⟩ := info_parts Tryz.infoPartZ
 have hqlt := heap_ltS h.blk
 have PUT : Hid (∀ (w2 : World) (vp2 : Value), w2.ownsRow (q + 1) 42 5 vp2 (st.ps.length + 1) (ys ++ [.int .i64 1, .bool qd, .string ⟨txt.toArray⟩, .string ByteArray.empty, .slice none 0 0]) → (w.drew.alloc (.cells [.int .i64 1, .bool qd, .string ⟨txt.toArray⟩, .string ByteArray.empty, .slice none 0 0].toArray 42)).grownBy w2 (Value.slice ap st.ps.length capp).ownBlock →
   (vp2.ownBlock = (Value.slice ap st.ps.length capp).ownBlock ∨ vp2.ownBlock = some (w.drew.alloc (.cells [.int .i64 1, .bool qd, .string ⟨txt.toArray⟩, .string ByteArray.empty, .slice none 0 0].toArray 42)).heap.size) →
   SpX L q ⟨st.ps ++ [litP qd txt], some (qd, txt)⟩ vp2 (.slice ao txt.length cap) true qd txt (w2.setCell ⟨q, 0, none⟩ vp2) ∧ Below q w (w2.setCell ⟨q, 0, none⟩ vp2) ∧ w2.cell? ⟨q, 0, none⟩ = some (.slice ap st.ps.length capp) ∧ w2.frozen? ⟨q, 0, none⟩ = false ∧ (∀ g, A g → vp2.ownBlock ≠ some g ∧ (Value.slice ao 0 cap).ownBlock ≠ some g) ∧ ∀ g, A g → (w2.setCell ⟨q, 0, none⟩ vp2).heap[g]? = w.heap[g]?) := by
  show ∀ _, _
  intro w2 vp2 h2 hg hf
  have hd : SpX L q st (.slice ap st.ps.length capp) (.slice ao txt.length cap) true qd txt w.drew := h.same (Nat.le_refl _) fun _ _ _ => rfl
  have hx : (partE L).q NoneF w.drew (litP qd txt) [.int .i64 1, .bool qd, .string ⟨txt.toArray⟩, .string ByteArray.empty, .slice none 0 0] := ⟨_, rfl, hL _ _⟩
  obtain ⟨k1, k2, k3⟩ := hd.part hx (fun g hg => hg.elim) (fun g hg => hg.elim) (ownS_same hy fun _ _ => rfl) h2 hg hf
  refine ⟨⟨k1, k2, k3, ⟨rfl, rfl, rfl⟩⟩, ?_, ?_⟩
  ·have hb1 : Below q w (w.drew.alloc (.cells [.int .i64 1, .bool qd, .string ⟨txt.toArray⟩, .string ByteArray.empty, .slice none 0 0].toArray 42)) := ((Below.refl q w).drew).alloc (Nat.le_of_lt hqlt) _
   exact (hb1.grown hg (by simp; omega) fun g hg2 => by have := (hd.ps.lt g hg2).1; omega).setCell (p := ⟨q, 0, none⟩) (Nat.le_refl _) _
  ·have hb2 : w2.heap[q]? = w.heap[q]? := (grown_keep (w := w.drew) hg hqlt fun e => by have := (hd.ps.lt q e).1; omega)
   have hb3 := hb2.trans h.blk
   refine ⟨by rw [cell_of_heap hb3]; rfl, frozen_of_heap hb3 _, fun g hag => ⟨fun e => ?_, (HAV0 g hag).2⟩, fun g hag => ?_⟩
   rotate_left
   ·rw [Below.heap_setCell _ _ _ _ (by show g ≠ q; exact HAQ.out g hag)]
    exact grown_keep (w := w.drew) hg (hAw g hag) fun e => (HAV0 g hag).1 e
   rcases hf with hf | hf
   ·rw [hf] at e; exact (HAV0 g hag).1 e
   ·rw [hf] at e
    have h9 := hAw g hag
    have h8 : w.heap.size + 1 = g := by simpa using e
    omega
 have hyd := hy
 clear HAV0
 obtain ⟨X, hX⟩ : ∃ X : ByteArray, X = ⟨txt.toArray⟩ := ⟨_, rfl⟩
 rw [← hX] at hcv PUT
 have HX := Lib.hid hX
 clear h hc hX
 go_enter Tryz.func168, Tryz.ntmps168
 go_upto_region 1 with fail
 go_region_law (refine step_append_farG rfl (.tmp 10) (.tmp 21) 38 rfl (q + 1) 42 i0 _ 5 72 Tryz.underlying38 hi hz0 hz1 hz2 rfl (by decide) (.slice ap st.ps.length capp) st.ps.length ys (by simp [Act.eval]) (hyd.drew.alloc _) ⟨w.heap.size, 0, none⟩ 1 [.int .i64 1, .bool qd, .string X, .string ByteArray.empty, .slice none 0 0] (by simp [Act.eval]) rfl (cells_list w.drew _ _) (by simp [Value.oneCell']) (by unfold maxLen; omega) (by omega) (by simp; omega) ?_; intro v2 w2 hown2 hgrow2 hfar2; obtain ⟨ao2, cap2, rfl, _⟩ := ownS_shape hown2; obtain ⟨p1, p2, p3, p4, p5, p6⟩ := PUT.out w2 _ hown2 hgrow2 hfar2; have HP := Lib.hid (And.intro p1 (And.intro p2 (And.intro p5 p6))); clear p1 p2 p5 p6 hown2 hgrow2 hfar2)
 all_goals
  obtain ⟨-, g1, g2, -, -, k1, k2, -⟩ := HP.out.1.cells
  clear c0 c1 c2 c3 f0 f1 f2 f3 p3 p4
  go_wp2
  go_region_law (fail)
  all_goals
   go_end0
   first
    | exact ⟨rfl, ⟨_, _, _, _, _, HP.out.1.cut.1.same (Nat.le_refl _) fun _ _ _ => rfl, HP.out.2.2.1⟩, (cut_below HP.out.2.1).drew, fun g hg => (cut_other (HAQ.out g hg)).trans (HP.out.2.2.2 g hg)⟩
    | exact ⟨rfl, ⟨_, _, _, _, _, HP.out.1.cut.2.same (Nat.le_refl _) fun _ _ _ => rfl, HP.out.2.2.1⟩, (cut_below HP.out.2.1).drew, fun g hg => (cut_other (HAQ.out g hg)).trans (HP.out.2.2.2 g hg)⟩
    | exact ⟨rfl, ⟨_, _, _, _, _, HP.out.1.cut.1, HP.out.2.2.1⟩, (cut_below HP.out.2.1), fun g hg => (cut_other (HAQ.out g hg)).trans (HP.out.2.2.2 g hg)⟩
    | exact ⟨rfl, ⟨_, _, _, _, _, HP.out.1.cut.2, HP.out.2.2.1⟩, (cut_below HP.out.2.1), fun g hg => (cut_other (HAQ.out g hg)).trans (HP.out.2.2.2 g hg)⟩
end Go.Proofs.YtelfgobjnibooaaGreatDoor
