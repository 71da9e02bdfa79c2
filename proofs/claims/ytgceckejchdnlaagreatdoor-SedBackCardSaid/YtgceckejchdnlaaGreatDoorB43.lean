/- Packed texts: SeCmT2, SeCmT3, SeJump, SeTexts. What each of them proves stands above its theorems; the conditions stand in these. -/
import Derived.Test.YtgceckejchdnlaaGreatDoorB19
import Derived.Test.YtgceckejchdnlaaGreatDoorB31
import Derived.Test.YtgceckejchdnlaaGreatDoorB42
namespace Go.Proofs.YtgceckejchdnlaaGreatDoor
open Go.RowKit Go.Lib

set_option maxHeartbeats 16000000 in
set_option maxRecDepth 20000 in
theorem told_strue (op : UInt8) (ka na kb nb : Int) (a1 b1 d1 q1 : Option Addr) (a2 a3 b2 b3 d2 d3 q2 q3 : Nat) (all prt : Bool) (X : ByteArray) (lab A Bt x y : List UInt8) (w : World)
    (hX : X = ⟨lab.toArray⟩) (hl : A.length + Bt.length + lab.length + x.length + y.length ≤ 1000000000)
    (kA : ∀ w1, Below w.heap.size w w1 → Calls Tryz.prog 27 #[.agg #[.int .i64 ka, .int .i64 na, .slice a1 a2 a3]] w1 fun e w' => e = .returned (.string ⟨A.toArray⟩) ∧ Below w1.heap.size w1 w')
    (kB : ∀ w1, Below w.heap.size w w1 → Calls Tryz.prog 27 #[.agg #[.int .i64 kb, .int .i64 nb, .slice b1 b2 b3]] w1 fun e w' => e = .returned (.string ⟨Bt.toArray⟩) ∧ Below w1.heap.size w1 w')
    (kR : ∀ w1, Below w.heap.size w w1 → Calls Tryz.prog 29 #[.slice d1 d2 d3] w1 fun e w' => e = .returned (.string ⟨x.toArray⟩) ∧ Below w1.heap.size w1 w')
    (kP : ∀ w1, Below w.heap.size w w1 → Calls Tryz.prog 30 #[.slice q1 q2 q3] w1 fun e w' => e = .returned (.string ⟨y.toArray⟩) ∧ Below w1.heap.size w1 w')
    (hop : ((op.toNat : Int) == 115) = true) :
    Calls Tryz.prog 13 #[.agg #[.int .u8 (op.toNat : Int), .int .i64 ka, .int .i64 na, .slice a1 a2 a3, .int .i64 kb, .int .i64 nb, .slice b1 b2 b3, .bool true, .slice d1 d2 d3, .slice q1 q2 q3, .bool all, .bool prt, .string X]] w fun e w' => e = .returned (.string ⟨(aheadT A Bt kb true ++ op :: (47 :: (x ++ 47 :: (y ++ 47 :: flT all prt)))).toArray⟩) ∧ Below w.heap.size w w' := by
  have hc4 := cat44 Bt
  have h0 := ToS.start w [.int .u8 (op.toNat : Int), .int .i64 ka, .int .i64 na, .slice a1 a2 a3, .int .i64 kb, .int .i64 nb, .slice b1 b2 b3, .bool true, .slice d1 d2 d3, .slice q1 q2 q3, .bool all, .bool prt, .string X]
  have hcS := catS x y (flT all prt)
  obtain ⟨XS, hXS⟩ : ∃ XS : ByteArray, XS = ⟨x.toArray⟩ := ⟨_, rfl⟩
  obtain ⟨YS, hYS⟩ : ∃ YS : ByteArray, YS = ⟨y.toArray⟩ := ⟨_, rfl⟩
  obtain ⟨ZS, hZS⟩ : ∃ ZS : ByteArray, ZS = ⟨(flT all prt).toArray⟩ := ⟨_, rfl⟩
  rw [← hXS] at kR hcS
  rw [← hYS] at kP hcS
  rw [← hZS] at hcS
  have kF := fun w1 => flags8_any (.int .u8 (op.toNat : Int)) (.int .i64 ka) (.int .i64 na) (.slice a1 a2 a3) (.int .i64 kb) (.int .i64 nb) (.slice b1 b2 b3) (.bool true) (.slice d1 d2 d3) (.slice q1 q2 q3) (.string X) all prt w1
  rw [← hZS] at kF
  obtain ⟨z, hz⟩ : ∃ z, z = flT all prt := ⟨_, rfl⟩
  have hzl : z.length ≤ 2 := by rw [hz]; cases all <;> cases prt <;> decide
  have hXz : XS.size ≤ 1000000000 := by rw [hXS]; show x.toArray.size ≤ _; rw [List.size_toArray]; omega
  have hYz : YS.size ≤ 1000000000 := by rw [hYS]; show y.toArray.size ≤ _; rw [List.size_toArray]; omega
  have hZz : ZS.size ≤ 2 := by rw [hZS]; show (flT all prt).toArray.size ≤ _; rw [List.size_toArray, ← hz]; exact hzl
  rw [← hz] at hcS ⊢
  have HS := Lib.hid hcS
  have HZ := Lib.hid hzl
  have cq1 : ∀ w, (Op.stringOp .add (⟨#[47]⟩ : ByteArray) XS).run Tryz.prog w = .ok (.string (⟨#[47]⟩ ++ XS)) w := fun w => run_string_add_sum w _ _ (by simp only [ByteArray.size_mk', List.size_toArray, List.length_cons, List.length_nil]; omega)
  have cq2 : ∀ w, (Op.stringOp .add ((⟨#[47]⟩ : ByteArray) ++ XS) (⟨#[47]⟩ : ByteArray)).run Tryz.prog w = .ok (.string (⟨#[47]⟩ ++ XS ++ ⟨#[47]⟩)) w := fun w => run_string_add_sum w _ _ (by simp only [ByteArray.size_append', ByteArray.size_mk', List.size_toArray, List.length_cons, List.length_nil]; omega)
  have cq3 : ∀ w, (Op.stringOp .add ((⟨#[47]⟩ : ByteArray) ++ XS ++ ⟨#[47]⟩) YS).run Tryz.prog w = .ok (.string (⟨#[47]⟩ ++ XS ++ ⟨#[47]⟩ ++ YS)) w := fun w => run_string_add_sum w _ _ (by simp only [ByteArray.size_append', ByteArray.size_mk', List.size_toArray, List.length_cons, List.length_nil]; omega)
  have cq4 : ∀ w, (Op.stringOp .add ((⟨#[47]⟩ : ByteArray) ++ XS ++ ⟨#[47]⟩ ++ YS) (⟨#[47]⟩ : ByteArray)).run Tryz.prog w = .ok (.string (⟨#[47]⟩ ++ XS ++ ⟨#[47]⟩ ++ YS ++ ⟨#[47]⟩)) w := fun w => run_string_add_sum w _ _ (by simp only [ByteArray.size_append', ByteArray.size_mk', List.size_toArray, List.length_cons, List.length_nil]; omega)
  have cq5 : ∀ w, (Op.stringOp .add ((⟨#[47]⟩ : ByteArray) ++ XS ++ ⟨#[47]⟩ ++ YS ++ ⟨#[47]⟩) ZS).run Tryz.prog w = .ok (.string (⟨#[47]⟩ ++ XS ++ ⟨#[47]⟩ ++ YS ++ ⟨#[47]⟩ ++ ZS)) w := fun w => run_string_add_sum w _ _ (by simp only [ByteArray.size_append', ByteArray.size_mk', List.size_toArray, List.length_cons, List.length_nil]; omega)
  have cn1 : (9223372036854775807 < 1 + XS.size) = False := eq_false (by omega)
  have cn2 : (9223372036854775807 < 1 + XS.size + 1) = False := eq_false (by omega)
  have cn3 : (9223372036854775807 < 1 + XS.size + 1 + YS.size) = False := eq_false (by omega)
  have cn4 : (9223372036854775807 < 1 + XS.size + 1 + YS.size + 1) = False := eq_false (by omega)
  have cn5 : (9223372036854775807 < 1 + XS.size + 1 + YS.size + 1 + ZS.size) = False := eq_false (by omega)
  have KR := Lib.hid kR
  have KP := Lib.hid kP
  have KF := Lib.hid kF
  clear hcS hXS hYS hZS kR kP kF hz hzl
  obtain ⟨AS, hAS⟩ : ∃ AS : ByteArray, AS = ⟨A.toArray⟩ := ⟨_, rfl⟩
  obtain ⟨BS, hBS⟩ : ∃ BS : ByteArray, BS = ⟨Bt.toArray⟩ := ⟨_, rfl⟩
  rw [← hAS] at kA
  rw [← hBS] at kB hc4
  have hBz : BS.size ≤ 1000000000 := by rw [hBS]; show Bt.toArray.size ≤ _; rw [List.size_toArray]; omega
  have HE := Lib.hid (And.intro hAS (And.intro hc4 hX))
  have HL := Lib.hid hl
  have KA := Lib.hid kA
  have KB := Lib.hid kB
  have HT := Lib.hid h0
  obtain ⟨f0, f1, f2, f3, f4, f5, f6, f7, f8, f9, f10, f11, f12⟩ := cells13 h0.q
  clear hX hl hAS hBS hc4 kA kB h0
  by_cases hkb : kb = 0
  all_goals
    skip
    all_goals
      have HKB := Lib.hid hkb
      first
      | (have hkc : (kb != 0) = true := by (rw [bne_iff_ne]; exact hkb)
         clear hkb)
      | (have hkc : (kb != 0) = false := by (rw [hkb]; rfl)
         clear hkb)
      go_enter Tryz.func13, Tryz.ntmps13
      go_wp2_with (first
        | (go_at_call 27; first | with_reducible (refine (KA.out _ HT.out.low).mono ?_; rintro e w1 ⟨rfl, hb⟩; replace HT := Lib.hid (HT.out.below hb); clear hb f0 f1 f2 f3 f4 f5 f6 f7 f8 f9 f10 f11 f12; obtain ⟨f0, f1, f2, f3, f4, f5, f6, f7, f8, f9, f10, f11, f12⟩ := cells13 HT.out.q) | with_reducible (refine (KB.out _ HT.out.low).mono ?_; rintro e w1 ⟨rfl, hb⟩; replace HT := Lib.hid (HT.out.below hb); clear hb f0 f1 f2 f3 f4 f5 f6 f7 f8 f9 f10 f11 f12; obtain ⟨f0, f1, f2, f3, f4, f5, f6, f7, f8, f9, f10, f11, f12⟩ := cells13 HT.out.q))
        | (go_at_call 26; first | with_reducible (refine (HT.out.write AS A HE.out.1 (by have := HL.out; simp only [List.length_nil]; omega)).mono ?_; rintro e w1 ⟨rfl, h2⟩; replace HT := Lib.hid h2; clear h2 f0 f1 f2 f3 f4 f5 f6 f7 f8 f9 f10 f11 f12; obtain ⟨f0, f1, f2, f3, f4, f5, f6, f7, f8, f9, f10, f11, f12⟩ := cells13 HT.out.q) | with_reducible (refine (HT.out.write (⟨#[44]⟩ ++ BS) (44 :: Bt) HE.out.2.1 (by have := HL.out; simp only [List.length_append, List.length_cons, List.length_nil]; omega)).mono ?_; rintro e w1 ⟨rfl, h2⟩; replace HT := Lib.hid h2; clear h2 f0 f1 f2 f3 f4 f5 f6 f7 f8 f9 f10 f11 f12; obtain ⟨f0, f1, f2, f3, f4, f5, f6, f7, f8, f9, f10, f11, f12⟩ := cells13 HT.out.q) | with_reducible (refine (HT.out.write X lab HE.out.2.2 (by have := HL.out; simp only [List.length_append, List.length_cons, List.length_nil]; omega)).mono ?_; rintro e w1 ⟨rfl, h2⟩; replace HT := Lib.hid h2; clear h2 f0 f1 f2 f3 f4 f5 f6 f7 f8 f9 f10 f11 f12; obtain ⟨f0, f1, f2, f3, f4, f5, f6, f7, f8, f9, f10, f11, f12⟩ := cells13 HT.out.q))
        | (go_at_call 28; first | with_reducible (refine (HT.out.b33 (by have := HL.out; simp only [List.length_append, List.length_cons, List.length_nil]; omega)).mono ?_; rintro e w1 ⟨rfl, h2⟩; replace HT := Lib.hid h2; clear h2 f0 f1 f2 f3 f4 f5 f6 f7 f8 f9 f10 f11 f12; obtain ⟨f0, f1, f2, f3, f4, f5, f6, f7, f8, f9, f10, f11, f12⟩ := cells13 HT.out.q) | with_reducible (refine (HT.out.b32 (by have := HL.out; simp only [List.length_append, List.length_cons, List.length_nil]; omega)).mono ?_; rintro e w1 ⟨rfl, h2⟩; replace HT := Lib.hid h2; clear h2 f0 f1 f2 f3 f4 f5 f6 f7 f8 f9 f10 f11 f12; obtain ⟨f0, f1, f2, f3, f4, f5, f6, f7, f8, f9, f10, f11, f12⟩ := cells13 HT.out.q) | with_reducible (refine (HT.out.byte op (by have := HL.out; simp only [List.length_append, List.length_cons, List.length_nil]; omega)).mono ?_; rintro e w1 ⟨rfl, h2⟩; replace HT := Lib.hid h2; clear h2 f0 f1 f2 f3 f4 f5 f6 f7 f8 f9 f10 f11 f12; obtain ⟨f0, f1, f2, f3, f4, f5, f6, f7, f8, f9, f10, f11, f12⟩ := cells13 HT.out.q))
        | (go_at_call 32; refine HT.out.done.mono ?_; rintro e w1 ⟨rfl, hb⟩; have HD := Lib.hid hb; clear hb))
      replace HT := Lib.hid (HT.out.below (Below.refl _ _).drew)
      clear f0 f1 f2 f3 f4 f5 f6 f7 f8 f9 f10 f11 f12
      obtain ⟨f0, f1, f2, f3, f4, f5, f6, f7, f8, f9, f10, f11, f12⟩ := cells13 HT.out.q
      have hcs := (And.intro f0 (And.intro f1 (And.intro f2 (And.intro f3 (And.intro f4 (And.intro f5 (And.intro f6 (And.intro f7 (And.intro f8 (And.intro f9 (And.intro f10 (And.intro f11 f12))))))))))))
      go_region_held3 (fun W' => W'.cell? ⟨w.heap.size, 0, none⟩ = some (.int .u8 (op.toNat : Int)) ∧ W'.cell? ⟨w.heap.size, 1, none⟩ = some (.int .i64 ka) ∧ W'.cell? ⟨w.heap.size, 2, none⟩ = some (.int .i64 na) ∧ W'.cell? ⟨w.heap.size, 3, none⟩ = some (.slice a1 a2 a3) ∧ W'.cell? ⟨w.heap.size, 4, none⟩ = some (.int .i64 kb) ∧ W'.cell? ⟨w.heap.size, 5, none⟩ = some (.int .i64 nb) ∧ W'.cell? ⟨w.heap.size, 6, none⟩ = some (.slice b1 b2 b3) ∧ W'.cell? ⟨w.heap.size, 7, none⟩ = some (.bool true) ∧ W'.cell? ⟨w.heap.size, 8, none⟩ = some (.slice d1 d2 d3) ∧ W'.cell? ⟨w.heap.size, 9, none⟩ = some (.slice q1 q2 q3) ∧ W'.cell? ⟨w.heap.size, 10, none⟩ = some (.bool all) ∧ W'.cell? ⟨w.heap.size, 11, none⟩ = some (.bool prt) ∧ W'.cell? ⟨w.heap.size, 12, none⟩ = some (.string X))
        (first | with_reducible exact hcs | fail)
        (first
          | (go_at_call 29; refine (KR.out _ HT.out.low).mono ?_; rintro e w1 ⟨rfl, hb⟩; replace HT := Lib.hid (HT.out.below (by first | exact (Below.refl _ _).drew.trans hb | exact hb)); clear hb f0 f1 f2 f3 f4 f5 f6 f7 f8 f9 f10 f11 f12; obtain ⟨f0, f1, f2, f3, f4, f5, f6, f7, f8, f9, f10, f11, f12⟩ := cells13 HT.out.q; have hcs := (And.intro f0 (And.intro f1 (And.intro f2 (And.intro f3 (And.intro f4 (And.intro f5 (And.intro f6 (And.intro f7 (And.intro f8 (And.intro f9 (And.intro f10 (And.intro f11 f12)))))))))))))
          | (go_at_call 30; refine (KP.out _ HT.out.low).mono ?_; rintro e w1 ⟨rfl, hb⟩; replace HT := Lib.hid (HT.out.below (by first | exact (Below.refl _ _).drew.trans hb | exact hb)); clear hb f0 f1 f2 f3 f4 f5 f6 f7 f8 f9 f10 f11 f12; obtain ⟨f0, f1, f2, f3, f4, f5, f6, f7, f8, f9, f10, f11, f12⟩ := cells13 HT.out.q; have hcs := (And.intro f0 (And.intro f1 (And.intro f2 (And.intro f3 (And.intro f4 (And.intro f5 (And.intro f6 (And.intro f7 (And.intro f8 (And.intro f9 (And.intro f10 (And.intro f11 f12)))))))))))))
          | (go_at_call 31; refine (KF.out _).mono ?_; rintro e w1 ⟨rfl, hb⟩; replace HT := Lib.hid (HT.out.below (by first | exact (Below.refl _ _).drew.trans hb | exact hb)); clear hb f0 f1 f2 f3 f4 f5 f6 f7 f8 f9 f10 f11 f12; obtain ⟨f0, f1, f2, f3, f4, f5, f6, f7, f8, f9, f10, f11, f12⟩ := cells13 HT.out.q; have hcs := (And.intro f0 (And.intro f1 (And.intro f2 (And.intro f3 (And.intro f4 (And.intro f5 (And.intro f6 (And.intro f7 (And.intro f8 (And.intro f9 (And.intro f10 (And.intro f11 f12)))))))))))))
          | (go_at_call 26; refine (HT.out.write (⟨#[47]⟩ ++ XS ++ ⟨#[47]⟩ ++ YS ++ ⟨#[47]⟩ ++ ZS) (47 :: (x ++ 47 :: (y ++ 47 :: z))) HS.out (by have := HL.out; have := HZ.out; simp only [List.length_append, List.length_cons, List.length_nil]; omega)).mono ?_; rintro e w1 ⟨rfl, h2⟩; replace HT := Lib.hid h2; clear h2 f0 f1 f2 f3 f4 f5 f6 f7 f8 f9 f10 f11 f12; obtain ⟨f0, f1, f2, f3, f4, f5, f6, f7, f8, f9, f10, f11, f12⟩ := cells13 HT.out.q; have hcs := (And.intro f0 (And.intro f1 (And.intro f2 (And.intro f3 (And.intro f4 (And.intro f5 (And.intro f6 (And.intro f7 (And.intro f8 (And.intro f9 (And.intro f10 (And.intro f11 f12)))))))))))))
          | fail)
      all_goals
        go_wp2_with (first
          | (go_at_call 27; first | with_reducible (refine (KA.out _ HT.out.low).mono ?_; rintro e w1 ⟨rfl, hb⟩; replace HT := Lib.hid (HT.out.below hb); clear hb f0 f1 f2 f3 f4 f5 f6 f7 f8 f9 f10 f11 f12; obtain ⟨f0, f1, f2, f3, f4, f5, f6, f7, f8, f9, f10, f11, f12⟩ := cells13 HT.out.q) | with_reducible (refine (KB.out _ HT.out.low).mono ?_; rintro e w1 ⟨rfl, hb⟩; replace HT := Lib.hid (HT.out.below hb); clear hb f0 f1 f2 f3 f4 f5 f6 f7 f8 f9 f10 f11 f12; obtain ⟨f0, f1, f2, f3, f4, f5, f6, f7, f8, f9, f10, f11, f12⟩ := cells13 HT.out.q))
          | (go_at_call 26; first | with_reducible (refine (HT.out.write AS A HE.out.1 (by have := HL.out; simp only [List.length_nil]; omega)).mono ?_; rintro e w1 ⟨rfl, h2⟩; replace HT := Lib.hid h2; clear h2 f0 f1 f2 f3 f4 f5 f6 f7 f8 f9 f10 f11 f12; obtain ⟨f0, f1, f2, f3, f4, f5, f6, f7, f8, f9, f10, f11, f12⟩ := cells13 HT.out.q) | with_reducible (refine (HT.out.write (⟨#[44]⟩ ++ BS) (44 :: Bt) HE.out.2.1 (by have := HL.out; simp only [List.length_append, List.length_cons, List.length_nil]; omega)).mono ?_; rintro e w1 ⟨rfl, h2⟩; replace HT := Lib.hid h2; clear h2 f0 f1 f2 f3 f4 f5 f6 f7 f8 f9 f10 f11 f12; obtain ⟨f0, f1, f2, f3, f4, f5, f6, f7, f8, f9, f10, f11, f12⟩ := cells13 HT.out.q) | with_reducible (refine (HT.out.write X lab HE.out.2.2 (by have := HL.out; simp only [List.length_append, List.length_cons, List.length_nil]; omega)).mono ?_; rintro e w1 ⟨rfl, h2⟩; replace HT := Lib.hid h2; clear h2 f0 f1 f2 f3 f4 f5 f6 f7 f8 f9 f10 f11 f12; obtain ⟨f0, f1, f2, f3, f4, f5, f6, f7, f8, f9, f10, f11, f12⟩ := cells13 HT.out.q))
          | (go_at_call 28; first | with_reducible (refine (HT.out.b33 (by have := HL.out; simp only [List.length_append, List.length_cons, List.length_nil]; omega)).mono ?_; rintro e w1 ⟨rfl, h2⟩; replace HT := Lib.hid h2; clear h2 f0 f1 f2 f3 f4 f5 f6 f7 f8 f9 f10 f11 f12; obtain ⟨f0, f1, f2, f3, f4, f5, f6, f7, f8, f9, f10, f11, f12⟩ := cells13 HT.out.q) | with_reducible (refine (HT.out.b32 (by have := HL.out; simp only [List.length_append, List.length_cons, List.length_nil]; omega)).mono ?_; rintro e w1 ⟨rfl, h2⟩; replace HT := Lib.hid h2; clear h2 f0 f1 f2 f3 f4 f5 f6 f7 f8 f9 f10 f11 f12; obtain ⟨f0, f1, f2, f3, f4, f5, f6, f7, f8, f9, f10, f11, f12⟩ := cells13 HT.out.q) | with_reducible (refine (HT.out.byte op (by have := HL.out; simp only [List.length_append, List.length_cons, List.length_nil]; omega)).mono ?_; rintro e w1 ⟨rfl, h2⟩; replace HT := Lib.hid h2; clear h2 f0 f1 f2 f3 f4 f5 f6 f7 f8 f9 f10 f11 f12; obtain ⟨f0, f1, f2, f3, f4, f5, f6, f7, f8, f9, f10, f11, f12⟩ := cells13 HT.out.q))
          | (go_at_call 32; refine HT.out.done.mono ?_; rintro e w1 ⟨rfl, hb⟩; have HD := Lib.hid hb; clear hb))
        refine bodyPost_ret (results_tmp rfl _ _ _) rfl ⟨?_, HD.out⟩
        refine congrArg (fun l : List UInt8 => Ending.returned (Value.string ⟨l.toArray⟩)) ?_
        have h := HKB.out
        simp [aheadT, h]
set_option maxHeartbeats 16000000 in
set_option maxRecDepth 20000 in
theorem told_sfalse (op : UInt8) (ka na kb nb : Int) (a1 b1 d1 q1 : Option Addr) (a2 a3 b2 b3 d2 d3 q2 q3 : Nat) (all prt : Bool) (X : ByteArray) (lab A Bt x y : List UInt8) (w : World)
    (hX : X = ⟨lab.toArray⟩) (hl : A.length + Bt.length + lab.length + x.length + y.length ≤ 1000000000)
    (kA : ∀ w1, Below w.heap.size w w1 → Calls Tryz.prog 27 #[.agg #[.int .i64 ka, .int .i64 na, .slice a1 a2 a3]] w1 fun e w' => e = .returned (.string ⟨A.toArray⟩) ∧ Below w1.heap.size w1 w')
    (kB : ∀ w1, Below w.heap.size w w1 → Calls Tryz.prog 27 #[.agg #[.int .i64 kb, .int .i64 nb, .slice b1 b2 b3]] w1 fun e w' => e = .returned (.string ⟨Bt.toArray⟩) ∧ Below w1.heap.size w1 w')
    (kR : ∀ w1, Below w.heap.size w w1 → Calls Tryz.prog 29 #[.slice d1 d2 d3] w1 fun e w' => e = .returned (.string ⟨x.toArray⟩) ∧ Below w1.heap.size w1 w')
    (kP : ∀ w1, Below w.heap.size w w1 → Calls Tryz.prog 30 #[.slice q1 q2 q3] w1 fun e w' => e = .returned (.string ⟨y.toArray⟩) ∧ Below w1.heap.size w1 w')
    (hop : ((op.toNat : Int) == 115) = true) :
    Calls Tryz.prog 13 #[.agg #[.int .u8 (op.toNat : Int), .int .i64 ka, .int .i64 na, .slice a1 a2 a3, .int .i64 kb, .int .i64 nb, .slice b1 b2 b3, .bool false, .slice d1 d2 d3, .slice q1 q2 q3, .bool all, .bool prt, .string X]] w fun e w' => e = .returned (.string ⟨(aheadT A Bt kb false ++ op :: (47 :: (x ++ 47 :: (y ++ 47 :: flT all prt)))).toArray⟩) ∧ Below w.heap.size w w' := by
  have hc4 := cat44 Bt
  have h0 := ToS.start w [.int .u8 (op.toNat : Int), .int .i64 ka, .int .i64 na, .slice a1 a2 a3, .int .i64 kb, .int .i64 nb, .slice b1 b2 b3, .bool false, .slice d1 d2 d3, .slice q1 q2 q3, .bool all, .bool prt, .string X]
  have hcS := catS x y (flT all prt)
  obtain ⟨XS, hXS⟩ : ∃ XS : ByteArray, XS = ⟨x.toArray⟩ := ⟨_, rfl⟩
  obtain ⟨YS, hYS⟩ : ∃ YS : ByteArray, YS = ⟨y.toArray⟩ := ⟨_, rfl⟩
  obtain ⟨ZS, hZS⟩ : ∃ ZS : ByteArray, ZS = ⟨(flT all prt).toArray⟩ := ⟨_, rfl⟩
  rw [← hXS] at kR hcS
  rw [← hYS] at kP hcS
  rw [← hZS] at hcS
  have kF := fun w1 => flags8_any (.int .u8 (op.toNat : Int)) (.int .i64 ka) (.int .i64 na) (.slice a1 a2 a3) (.int .i64 kb) (.int .i64 nb) (.slice b1 b2 b3) (.bool false) (.slice d1 d2 d3) (.slice q1 q2 q3) (.string X) all prt w1
  rw [← hZS] at kF
  obtain ⟨z, hz⟩ : ∃ z, z = flT all prt := ⟨_, rfl⟩
  have hzl : z.length ≤ 2 := by rw [hz]; cases all <;> cases prt <;> decide
  have hXz : XS.size ≤ 1000000000 := by rw [hXS]; show x.toArray.size ≤ _; rw [List.size_toArray]; omega
  have hYz : YS.size ≤ 1000000000 := by rw [hYS]; show y.toArray.size ≤ _; rw [List.size_toArray]; omega
  have hZz : ZS.size ≤ 2 := by rw [hZS]; show (flT all prt).toArray.size ≤ _; rw [List.size_toArray, ← hz]; exact hzl
  rw [← hz] at hcS ⊢
  have HS := Lib.hid hcS
  have HZ := Lib.hid hzl
  have cq1 : ∀ w, (Op.stringOp .add (⟨#[47]⟩ : ByteArray) XS).run Tryz.prog w = .ok (.string (⟨#[47]⟩ ++ XS)) w := fun w => run_string_add_sum w _ _ (by simp only [ByteArray.size_mk', List.size_toArray, List.length_cons, List.length_nil]; omega)
  have cq2 : ∀ w, (Op.stringOp .add ((⟨#[47]⟩ : ByteArray) ++ XS) (⟨#[47]⟩ : ByteArray)).run Tryz.prog w = .ok (.string (⟨#[47]⟩ ++ XS ++ ⟨#[47]⟩)) w := fun w => run_string_add_sum w _ _ (by simp only [ByteArray.size_append', ByteArray.size_mk', List.size_toArray, List.length_cons, List.length_nil]; omega)
  have cq3 : ∀ w, (Op.stringOp .add ((⟨#[47]⟩ : ByteArray) ++ XS ++ ⟨#[47]⟩) YS).run Tryz.prog w = .ok (.string (⟨#[47]⟩ ++ XS ++ ⟨#[47]⟩ ++ YS)) w := fun w => run_string_add_sum w _ _ (by simp only [ByteArray.size_append', ByteArray.size_mk', List.size_toArray, List.length_cons, List.length_nil]; omega)
  have cq4 : ∀ w, (Op.stringOp .add ((⟨#[47]⟩ : ByteArray) ++ XS ++ ⟨#[47]⟩ ++ YS) (⟨#[47]⟩ : ByteArray)).run Tryz.prog w = .ok (.string (⟨#[47]⟩ ++ XS ++ ⟨#[47]⟩ ++ YS ++ ⟨#[47]⟩)) w := fun w => run_string_add_sum w _ _ (by simp only [ByteArray.size_append', ByteArray.size_mk', List.size_toArray, List.length_cons, List.length_nil]; omega)
  have cq5 : ∀ w, (Op.stringOp .add ((⟨#[47]⟩ : ByteArray) ++ XS ++ ⟨#[47]⟩ ++ YS ++ ⟨#[47]⟩) ZS).run Tryz.prog w = .ok (.string (⟨#[47]⟩ ++ XS ++ ⟨#[47]⟩ ++ YS ++ ⟨#[47]⟩ ++ ZS)) w := fun w => run_string_add_sum w _ _ (by simp only [ByteArray.size_append', ByteArray.size_mk', List.size_toArray, List.length_cons, List.length_nil]; omega)
  have cn1 : (9223372036854775807 < 1 + XS.size) = False := eq_false (by omega)
  have cn2 : (9223372036854775807 < 1 + XS.size + 1) = False := eq_false (by omega)
  have cn3 : (9223372036854775807 < 1 + XS.size + 1 + YS.size) = False := eq_false (by omega)
  have cn4 : (9223372036854775807 < 1 + XS.size + 1 + YS.size + 1) = False := eq_false (by omega)
  have cn5 : (9223372036854775807 < 1 + XS.size + 1 + YS.size + 1 + ZS.size) = False := eq_false (by omega)
  have KR := Lib.hid kR
  have KP := Lib.hid kP
  have KF := Lib.hid kF
  clear hcS hXS hYS hZS kR kP kF hz hzl
  obtain ⟨AS, hAS⟩ : ∃ AS : ByteArray, AS = ⟨A.toArray⟩ := ⟨_, rfl⟩
  obtain ⟨BS, hBS⟩ : ∃ BS : ByteArray, BS = ⟨Bt.toArray⟩ := ⟨_, rfl⟩
  rw [← hAS] at kA
  rw [← hBS] at kB hc4
  have hBz : BS.size ≤ 1000000000 := by rw [hBS]; show Bt.toArray.size ≤ _; rw [List.size_toArray]; omega
  have HE := Lib.hid (And.intro hAS (And.intro hc4 hX))
  have HL := Lib.hid hl
  have KA := Lib.hid kA
  have KB := Lib.hid kB
  have HT := Lib.hid h0
  obtain ⟨f0, f1, f2, f3, f4, f5, f6, f7, f8, f9, f10, f11, f12⟩ := cells13 h0.q
  clear hX hl hAS hBS hc4 kA kB h0
  by_cases hkb : kb = 0
  all_goals
    skip
    all_goals
      have HKB := Lib.hid hkb
      first
      | (have hkc : (kb != 0) = true := by (rw [bne_iff_ne]; exact hkb)
         clear hkb)
      | (have hkc : (kb != 0) = false := by (rw [hkb]; rfl)
         clear hkb)
      go_enter Tryz.func13, Tryz.ntmps13
      go_wp2_with (first
        | (go_at_call 27; first | with_reducible (refine (KA.out _ HT.out.low).mono ?_; rintro e w1 ⟨rfl, hb⟩; replace HT := Lib.hid (HT.out.below hb); clear hb f0 f1 f2 f3 f4 f5 f6 f7 f8 f9 f10 f11 f12; obtain ⟨f0, f1, f2, f3, f4, f5, f6, f7, f8, f9, f10, f11, f12⟩ := cells13 HT.out.q) | with_reducible (refine (KB.out _ HT.out.low).mono ?_; rintro e w1 ⟨rfl, hb⟩; replace HT := Lib.hid (HT.out.below hb); clear hb f0 f1 f2 f3 f4 f5 f6 f7 f8 f9 f10 f11 f12; obtain ⟨f0, f1, f2, f3, f4, f5, f6, f7, f8, f9, f10, f11, f12⟩ := cells13 HT.out.q))
        | (go_at_call 26; first | with_reducible (refine (HT.out.write AS A HE.out.1 (by have := HL.out; simp only [List.length_nil]; omega)).mono ?_; rintro e w1 ⟨rfl, h2⟩; replace HT := Lib.hid h2; clear h2 f0 f1 f2 f3 f4 f5 f6 f7 f8 f9 f10 f11 f12; obtain ⟨f0, f1, f2, f3, f4, f5, f6, f7, f8, f9, f10, f11, f12⟩ := cells13 HT.out.q) | with_reducible (refine (HT.out.write (⟨#[44]⟩ ++ BS) (44 :: Bt) HE.out.2.1 (by have := HL.out; simp only [List.length_append, List.length_cons, List.length_nil]; omega)).mono ?_; rintro e w1 ⟨rfl, h2⟩; replace HT := Lib.hid h2; clear h2 f0 f1 f2 f3 f4 f5 f6 f7 f8 f9 f10 f11 f12; obtain ⟨f0, f1, f2, f3, f4, f5, f6, f7, f8, f9, f10, f11, f12⟩ := cells13 HT.out.q) | with_reducible (refine (HT.out.write X lab HE.out.2.2 (by have := HL.out; simp only [List.length_append, List.length_cons, List.length_nil]; omega)).mono ?_; rintro e w1 ⟨rfl, h2⟩; replace HT := Lib.hid h2; clear h2 f0 f1 f2 f3 f4 f5 f6 f7 f8 f9 f10 f11 f12; obtain ⟨f0, f1, f2, f3, f4, f5, f6, f7, f8, f9, f10, f11, f12⟩ := cells13 HT.out.q))
        | (go_at_call 28; first | with_reducible (refine (HT.out.b33 (by have := HL.out; simp only [List.length_append, List.length_cons, List.length_nil]; omega)).mono ?_; rintro e w1 ⟨rfl, h2⟩; replace HT := Lib.hid h2; clear h2 f0 f1 f2 f3 f4 f5 f6 f7 f8 f9 f10 f11 f12; obtain ⟨f0, f1, f2, f3, f4, f5, f6, f7, f8, f9, f10, f11, f12⟩ := cells13 HT.out.q) | with_reducible (refine (HT.out.b32 (by have := HL.out; simp only [List.length_append, List.length_cons, List.length_nil]; omega)).mono ?_; rintro e w1 ⟨rfl, h2⟩; replace HT := Lib.hid h2; clear h2 f0 f1 f2 f3 f4 f5 f6 f7 f8 f9 f10 f11 f12; obtain ⟨f0, f1, f2, f3, f4, f5, f6, f7, f8, f9, f10, f11, f12⟩ := cells13 HT.out.q) | with_reducible (refine (HT.out.byte op (by have := HL.out; simp only [List.length_append, List.length_cons, List.length_nil]; omega)).mono ?_; rintro e w1 ⟨rfl, h2⟩; replace HT := Lib.hid h2; clear h2 f0 f1 f2 f3 f4 f5 f6 f7 f8 f9 f10 f11 f12; obtain ⟨f0, f1, f2, f3, f4, f5, f6, f7, f8, f9, f10, f11, f12⟩ := cells13 HT.out.q))
        | (go_at_call 32; refine HT.out.done.mono ?_; rintro e w1 ⟨rfl, hb⟩; have HD := Lib.hid hb; clear hb))
      replace HT := Lib.hid (HT.out.below (Below.refl _ _).drew)
      clear f0 f1 f2 f3 f4 f5 f6 f7 f8 f9 f10 f11 f12
      obtain ⟨f0, f1, f2, f3, f4, f5, f6, f7, f8, f9, f10, f11, f12⟩ := cells13 HT.out.q
      have hcs := (And.intro f0 (And.intro f1 (And.intro f2 (And.intro f3 (And.intro f4 (And.intro f5 (And.intro f6 (And.intro f7 (And.intro f8 (And.intro f9 (And.intro f10 (And.intro f11 f12))))))))))))
      go_region_held3 (fun W' => W'.cell? ⟨w.heap.size, 0, none⟩ = some (.int .u8 (op.toNat : Int)) ∧ W'.cell? ⟨w.heap.size, 1, none⟩ = some (.int .i64 ka) ∧ W'.cell? ⟨w.heap.size, 2, none⟩ = some (.int .i64 na) ∧ W'.cell? ⟨w.heap.size, 3, none⟩ = some (.slice a1 a2 a3) ∧ W'.cell? ⟨w.heap.size, 4, none⟩ = some (.int .i64 kb) ∧ W'.cell? ⟨w.heap.size, 5, none⟩ = some (.int .i64 nb) ∧ W'.cell? ⟨w.heap.size, 6, none⟩ = some (.slice b1 b2 b3) ∧ W'.cell? ⟨w.heap.size, 7, none⟩ = some (.bool false) ∧ W'.cell? ⟨w.heap.size, 8, none⟩ = some (.slice d1 d2 d3) ∧ W'.cell? ⟨w.heap.size, 9, none⟩ = some (.slice q1 q2 q3) ∧ W'.cell? ⟨w.heap.size, 10, none⟩ = some (.bool all) ∧ W'.cell? ⟨w.heap.size, 11, none⟩ = some (.bool prt) ∧ W'.cell? ⟨w.heap.size, 12, none⟩ = some (.string X))
        (first | with_reducible exact hcs | fail)
        (first
          | (go_at_call 29; refine (KR.out _ HT.out.low).mono ?_; rintro e w1 ⟨rfl, hb⟩; replace HT := Lib.hid (HT.out.below (by first | exact (Below.refl _ _).drew.trans hb | exact hb)); clear hb f0 f1 f2 f3 f4 f5 f6 f7 f8 f9 f10 f11 f12; obtain ⟨f0, f1, f2, f3, f4, f5, f6, f7, f8, f9, f10, f11, f12⟩ := cells13 HT.out.q; have hcs := (And.intro f0 (And.intro f1 (And.intro f2 (And.intro f3 (And.intro f4 (And.intro f5 (And.intro f6 (And.intro f7 (And.intro f8 (And.intro f9 (And.intro f10 (And.intro f11 f12)))))))))))))
          | (go_at_call 30; refine (KP.out _ HT.out.low).mono ?_; rintro e w1 ⟨rfl, hb⟩; replace HT := Lib.hid (HT.out.below (by first | exact (Below.refl _ _).drew.trans hb | exact hb)); clear hb f0 f1 f2 f3 f4 f5 f6 f7 f8 f9 f10 f11 f12; obtain ⟨f0, f1, f2, f3, f4, f5, f6, f7, f8, f9, f10, f11, f12⟩ := cells13 HT.out.q; have hcs := (And.intro f0 (And.intro f1 (And.intro f2 (And.intro f3 (And.intro f4 (And.intro f5 (And.intro f6 (And.intro f7 (And.intro f8 (And.intro f9 (And.intro f10 (And.intro f11 f12)))))))))))))
          | (go_at_call 31; refine (KF.out _).mono ?_; rintro e w1 ⟨rfl, hb⟩; replace HT := Lib.hid (HT.out.below (by first | exact (Below.refl _ _).drew.trans hb | exact hb)); clear hb f0 f1 f2 f3 f4 f5 f6 f7 f8 f9 f10 f11 f12; obtain ⟨f0, f1, f2, f3, f4, f5, f6, f7, f8, f9, f10, f11, f12⟩ := cells13 HT.out.q; have hcs := (And.intro f0 (And.intro f1 (And.intro f2 (And.intro f3 (And.intro f4 (And.intro f5 (And.intro f6 (And.intro f7 (And.intro f8 (And.intro f9 (And.intro f10 (And.intro f11 f12)))))))))))))
          | (go_at_call 26; refine (HT.out.write (⟨#[47]⟩ ++ XS ++ ⟨#[47]⟩ ++ YS ++ ⟨#[47]⟩ ++ ZS) (47 :: (x ++ 47 :: (y ++ 47 :: z))) HS.out (by have := HL.out; have := HZ.out; simp only [List.length_append, List.length_cons, List.length_nil]; omega)).mono ?_; rintro e w1 ⟨rfl, h2⟩; replace HT := Lib.hid h2; clear h2 f0 f1 f2 f3 f4 f5 f6 f7 f8 f9 f10 f11 f12; obtain ⟨f0, f1, f2, f3, f4, f5, f6, f7, f8, f9, f10, f11, f12⟩ := cells13 HT.out.q; have hcs := (And.intro f0 (And.intro f1 (And.intro f2 (And.intro f3 (And.intro f4 (And.intro f5 (And.intro f6 (And.intro f7 (And.intro f8 (And.intro f9 (And.intro f10 (And.intro f11 f12)))))))))))))
          | fail)
      all_goals
        go_wp2_with (first
          | (go_at_call 27; first | with_reducible (refine (KA.out _ HT.out.low).mono ?_; rintro e w1 ⟨rfl, hb⟩; replace HT := Lib.hid (HT.out.below hb); clear hb f0 f1 f2 f3 f4 f5 f6 f7 f8 f9 f10 f11 f12; obtain ⟨f0, f1, f2, f3, f4, f5, f6, f7, f8, f9, f10, f11, f12⟩ := cells13 HT.out.q) | with_reducible (refine (KB.out _ HT.out.low).mono ?_; rintro e w1 ⟨rfl, hb⟩; replace HT := Lib.hid (HT.out.below hb); clear hb f0 f1 f2 f3 f4 f5 f6 f7 f8 f9 f10 f11 f12; obtain ⟨f0, f1, f2, f3, f4, f5, f6, f7, f8, f9, f10, f11, f12⟩ := cells13 HT.out.q))
          | (go_at_call 26; first | with_reducible (refine (HT.out.write AS A HE.out.1 (by have := HL.out; simp only [List.length_nil]; omega)).mono ?_; rintro e w1 ⟨rfl, h2⟩; replace HT := Lib.hid h2; clear h2 f0 f1 f2 f3 f4 f5 f6 f7 f8 f9 f10 f11 f12; obtain ⟨f0, f1, f2, f3, f4, f5, f6, f7, f8, f9, f10, f11, f12⟩ := cells13 HT.out.q) | with_reducible (refine (HT.out.write (⟨#[44]⟩ ++ BS) (44 :: Bt) HE.out.2.1 (by have := HL.out; simp only [List.length_append, List.length_cons, List.length_nil]; omega)).mono ?_; rintro e w1 ⟨rfl, h2⟩; replace HT := Lib.hid h2; clear h2 f0 f1 f2 f3 f4 f5 f6 f7 f8 f9 f10 f11 f12; obtain ⟨f0, f1, f2, f3, f4, f5, f6, f7, f8, f9, f10, f11, f12⟩ := cells13 HT.out.q) | with_reducible (refine (HT.out.write X lab HE.out.2.2 (by have := HL.out; simp only [List.length_append, List.length_cons, List.length_nil]; omega)).mono ?_; rintro e w1 ⟨rfl, h2⟩; replace HT := Lib.hid h2; clear h2 f0 f1 f2 f3 f4 f5 f6 f7 f8 f9 f10 f11 f12; obtain ⟨f0, f1, f2, f3, f4, f5, f6, f7, f8, f9, f10, f11, f12⟩ := cells13 HT.out.q))
          | (go_at_call 28; first | with_reducible (refine (HT.out.b33 (by have := HL.out; simp only [List.length_append, List.length_cons, List.length_nil]; omega)).mono ?_; rintro e w1 ⟨rfl, h2⟩; replace HT := Lib.hid h2; clear h2 f0 f1 f2 f3 f4 f5 f6 f7 f8 f9 f10 f11 f12; obtain ⟨f0, f1, f2, f3, f4, f5, f6, f7, f8, f9, f10, f11, f12⟩ := cells13 HT.out.q) | with_reducible (refine (HT.out.b32 (by have := HL.out; simp only [List.length_append, List.length_cons, List.length_nil]; omega)).mono ?_; rintro e w1 ⟨rfl, h2⟩; replace HT := Lib.hid h2; clear h2 f0 f1 f2 f3 f4 f5 f6 f7 f8 f9 f10 f11 f12; obtain ⟨f0, f1, f2, f3, f4, f5, f6, f7, f8, f9, f10, f11, f12⟩ := cells13 HT.out.q) | with_reducible (refine (HT.out.byte op (by have := HL.out; simp only [List.length_append, List.length_cons, List.length_nil]; omega)).mono ?_; rintro e w1 ⟨rfl, h2⟩; replace HT := Lib.hid h2; clear h2 f0 f1 f2 f3 f4 f5 f6 f7 f8 f9 f10 f11 f12; obtain ⟨f0, f1, f2, f3, f4, f5, f6, f7, f8, f9, f10, f11, f12⟩ := cells13 HT.out.q))
          | (go_at_call 32; refine HT.out.done.mono ?_; rintro e w1 ⟨rfl, hb⟩; have HD := Lib.hid hb; clear hb))
        refine bodyPost_ret (results_tmp rfl _ _ _) rfl ⟨?_, HD.out⟩
        refine congrArg (fun l : List UInt8 => Ending.returned (Value.string ⟨l.toArray⟩)) ?_
        have h := HKB.out
        simp [aheadT, h]
end Go.Proofs.YtgceckejchdnlaaGreatDoor
namespace Go.Proofs.YtgceckejchdnlaaGreatDoor
open Go.RowKit Go.Lib

theorem told_s (op : UInt8) (ka na kb nb : Int) (a1 b1 d1 q1 : Option Addr) (a2 a3 b2 b3 d2 d3 q2 q3 : Nat) (neg all prt : Bool) (X : ByteArray) (lab A Bt x y : List UInt8) (w : World)
    (hX : X = ⟨lab.toArray⟩) (hl : A.length + Bt.length + lab.length + x.length + y.length ≤ 1000000000)
    (kA : ∀ w1, Below w.heap.size w w1 → Calls Tryz.prog 27 #[.agg #[.int .i64 ka, .int .i64 na, .slice a1 a2 a3]] w1 fun e w' => e = .returned (.string ⟨A.toArray⟩) ∧ Below w1.heap.size w1 w')
    (kB : ∀ w1, Below w.heap.size w w1 → Calls Tryz.prog 27 #[.agg #[.int .i64 kb, .int .i64 nb, .slice b1 b2 b3]] w1 fun e w' => e = .returned (.string ⟨Bt.toArray⟩) ∧ Below w1.heap.size w1 w')
    (kR : ∀ w1, Below w.heap.size w w1 → Calls Tryz.prog 29 #[.slice d1 d2 d3] w1 fun e w' => e = .returned (.string ⟨x.toArray⟩) ∧ Below w1.heap.size w1 w')
    (kP : ∀ w1, Below w.heap.size w w1 → Calls Tryz.prog 30 #[.slice q1 q2 q3] w1 fun e w' => e = .returned (.string ⟨y.toArray⟩) ∧ Below w1.heap.size w1 w')
    (hop : ((op.toNat : Int) == 115) = true) :
    Calls Tryz.prog 13 #[.agg #[.int .u8 (op.toNat : Int), .int .i64 ka, .int .i64 na, .slice a1 a2 a3, .int .i64 kb, .int .i64 nb, .slice b1 b2 b3, .bool neg, .slice d1 d2 d3, .slice q1 q2 q3, .bool all, .bool prt, .string X]] w fun e w' => e = .returned (.string ⟨(aheadT A Bt kb neg ++ op :: (47 :: (x ++ 47 :: (y ++ 47 :: flT all prt)))).toArray⟩) ∧ Below w.heap.size w w' := by
  cases neg
  · exact told_sfalse op ka na kb nb a1 b1 d1 q1 a2 a3 b2 b3 d2 d3 q2 q3 all prt X lab A Bt x y w hX hl kA kB kR kP hop
  · exact told_strue op ka na kb nb a1 b1 d1 q1 a2 a3 b2 b3 d2 d3 q2 q3 all prt X lab A Bt x y w hX hl kA kB kR kP hop
end Go.Proofs.YtgceckejchdnlaaGreatDoor
namespace Go.Proofs.YtgceckejchdnlaaGreatDoor
open Go.RowKit Go.Lib

def isLab (x : List UInt8) (c : Cm) : Bool := c.op == 58 && c.label == x
theorem at_lt {α : Type} {l : List α} {k : Nat} {a : α} (h : l[k]? = some a) : k < l.length := by
  by_cases h2 : k < l.length
  · exact h2
  · rw [List.getElem?_eq_none (by omega)] at h; cases h
theorem label_eq (c : Cm) (X : ByteArray) : ((⟨c.label.toArray⟩ : ByteArray).toList == X.toList) = (c.label == X.data.toList) := by
  rw [ByteArray.toList_eq, ByteArray.toList_eq]
theorem lab_empty (l : List UInt8) : (⟨l.toArray⟩ : ByteArray).toList.isEmpty = (l == []) := by rw [toList_data]; cases l <;> rfl
end Go.Proofs.YtgceckejchdnlaaGreatDoor
namespace Go.Proofs.YtgceckejchdnlaaGreatDoor
open Go.RowKit Go.Lib

/-- What lies between two rounds of the loop over the commands: the texts that are made so far. -/
def TyS (ys : List ByteArray) (w : World) (k : Nat) (wr : World) : Prop :=
  Below w.heap.size w wr ∧ ∃ cs : Array Value, wr.heap[w.heap.size]? = some (.cells cs 9 (0, 0)) ∧ cs.size = ys.length ∧ ∀ j x, j < k → ys[j]? = some x → cs[j]? = some (.string x)
theorem TyS.start (ys : List ByteArray) (w : World) : TyS ys w 0 (w.alloc (.cells (madeCells #[.string ByteArray.empty] ys.length) 9)) :=
  ⟨(Below.refl _ w).alloc (Nat.le_refl _) _, _, heap_alloc_new w _, size_madeCells _ _, fun _ _ h => absurd h (Nat.not_lt_zero _)⟩
theorem TyS.below {ys : List ByteArray} {w wr w' : World} {k : Nat} (h : TyS ys w k wr) (hb : Below wr.heap.size wr w') : TyS ys w k w' := by
  obtain ⟨h1, cs, h2, h3⟩ := h
  exact ⟨h1.trans (hb.mono h1.size), cs, (hb.block _ (block_lt h2)).trans h2, h3⟩
theorem TyS.cell {ys : List ByteArray} {w wr : World} {k : Nat} (h : TyS ys w k wr) (hk : k < ys.length) : (∃ u, wr.cell? ⟨w.heap.size, k, none⟩ = some u) ∧ wr.frozen? ⟨w.heap.size, k, none⟩ = false := by
  obtain ⟨h1, cs, h2, h3, h4⟩ := h
  refine ⟨⟨cs[k]'(by omega), ?_⟩, frozen_of_heap h2 k⟩
  rw [cell_of_heap h2]
  simp [h3, hk]
theorem TyS.put {ys : List ByteArray} {w wr : World} {k : Nat} {x : ByteArray} (h : TyS ys w k wr) (hx : ys[k]? = some x) : TyS ys w (k + 1) (wr.setCell ⟨w.heap.size, k, none⟩ (.string x)) := by
  have hk : k < ys.length := by
    by_cases h : k < ys.length
    · exact h
    · rw [List.getElem?_eq_none (by omega)] at hx; cases hx
  obtain ⟨h1, cs, h2, h3, h4⟩ := h
  refine ⟨h1.setCell (p := ⟨w.heap.size, k, none⟩) (Nat.le_refl _) _, _, Go.Lib.heap_setCell_same (i := k) h2 _, by simp [h3], fun j y hj hy => ?_⟩
  by_cases e : j = k
  · subst e
    rw [hx] at hy
    cases hy
    simp [h3, hk]
  · rw [Array.getElem?_setIfInBounds_ne (by omega)]
    exact h4 j y (by omega) hy
theorem TyS.strs {ys : List ByteArray} {w wr : World} (h : TyS ys w ys.length wr) (hl : ys.length ≤ 140737488355328) : Strs (.slice (some ⟨w.heap.size, 0, none⟩) ys.length ys.length) ys wr := by
  obtain ⟨h1, cs, h2, h3, h4⟩ := h
  refine ⟨some ⟨w.heap.size, 0, none⟩, ys.length, rfl, Nat.le_refl _, hl, fun j x hj => ⟨_, 0, rfl, block_lt h2, ?_⟩⟩
  have hk : j < ys.length := by
    by_cases h : j < ys.length
    · exact h
    · rw [List.getElem?_eq_none (by omega)] at hj; cases hj
  rw [Nat.zero_add, cell_of_heap h2]
  exact h4 j x hk hj
/-- A command's text, whatever it is. -/
theorem told8_any (B : Nat) (c : Cm) (a1 b1 d1 q1 : Option Addr) (a2 a3 b2 b3 d2 d3 q2 q3 : Nat) (w : World) (ht : Tab w) (hg : c.Good) (hs : sumL c.put ≤ 8192) (hp : c.put.length ≤ 8193) (hl : c.label.length ≤ 8192)
    (h : CmS B c [.int .u8 (c.op.toNat : Int), .int .i64 (c.a.k : Int), .int .i64 (c.a.n : Int), .slice a1 a2 a3, .int .i64 (c.b.k : Int), .int .i64 (c.b.n : Int), .slice b1 b2 b3, .bool c.neg, .slice d1 d2 d3, .slice q1 q2 q3, .bool c.all, .bool c.prt, .string ⟨c.label.toArray⟩] w) :
    Calls Tryz.prog 13 #[.agg #[.int .u8 (c.op.toNat : Int), .int .i64 (c.a.k : Int), .int .i64 (c.a.n : Int), .slice a1 a2 a3, .int .i64 (c.b.k : Int), .int .i64 (c.b.n : Int), .slice b1 b2 b3, .bool c.neg, .slice d1 d2 d3, .slice q1 q2 q3, .bool c.all, .bool c.prt, .string ⟨c.label.toArray⟩]] w fun e w' => e = .returned (.string ⟨(cmT c).toArray⟩) ∧ Below w.heap.size w w' := by
  obtain ⟨va, vb, vd, vq, he, h1, h2, h3, h4⟩ := h
  simp only [List.cons.injEq, true_and, and_true] at he
  obtain ⟨rfl, rfl, rfl, rfl⟩ := he
  have kA := fun w1 (hb : Below w.heap.size w w1) => place_any B c.a (.slice a1 a2 a3) w1 hg.a (h1.below hb) (ht.below hb)
  have kB := fun w1 (hb : Below w.heap.size w w1) => place_any B c.b (.slice b1 b2 b3) w1 hg.b (h2.below hb) (ht.below hb)
  have hA := ad_len hg.a
  have hB := ad_len hg.b
  have hah : aheadT (adT c.a) (adT c.b) (c.b.k : Int) c.neg = adT c.a ++ ((if c.b.k = 0 then [] else 44 :: adT c.b) ++ (if c.neg then [33] else [])) := by
    unfold aheadT
    by_cases hk : c.b.k = 0
    · rw [hk]; rfl
    · rw [if_neg hk, if_neg (by omega)]
  have hcm : ∀ t, tailT c = t → (⟨(cmT c).toArray⟩ : ByteArray) = ⟨(aheadT (adT c.a) (adT c.b) (c.b.k : Int) c.neg ++ c.op :: t).toArray⟩ := fun t h => by
    rw [hah, ← h]
    unfold cmT
    simp
  have hno : ∀ d : UInt8, c.op ≠ d → ((c.op.toNat : Int) == (d.toNat : Int)) = false := fun d hd => ne_byte (d := d) hd
  have hempty := lab_empty c.label
  rcases hg.kind with ⟨hop, ⟨t, hre, htg⟩, hpn, hlb⟩ | ⟨⟨hre, hput, hall, hprt⟩, (⟨hop, hlb⟩ | ⟨hop, hk0, hng, hnm⟩ | ⟨hpl, hlb⟩)⟩
  · rw [hcm _ (show tailT c = 47 :: (t.txt ++ 47 :: (putT c.put ++ 47 :: flT c.all c.prt)) from by unfold tailT; rw [if_pos hop, hre]; rfl)]
    have hx := txtT_len t
    have hy := putT_len c.put
    refine told_s c.op _ _ _ _ a1 b1 d1 q1 a2 a3 b2 b3 d2 d3 q2 q3 c.neg c.all c.prt _ c.label _ _ t.txt (putT c.put) w rfl (by have := htg.2; omega) kA kB (fun w1 hb => ?_) (fun w1 hb => ?_) (by rw [hop]; rfl)
    · rw [hre] at h3
      exact tree_text htg (AdS.below (a := .re t) h3 hb)
    · have hst : Strs (.slice q1 q2 q3) (c.put.map mkB) w1 := strs_of_owns (owns_same h4 fun g hg => hb.block g (own_block_lt h4 hg)) (by rw [List.length_map]) (by omega)
      have := text7_any _ _ w1 hst (by rw [List.length_map]; omega) (fun x hx => by
        obtain ⟨y, hy, rfl⟩ := List.mem_map.mp hx
        have := mem_sumL hy
        show y.toArray.size ≤ _
        rw [List.size_toArray]
        omega) (by
        have e : (textB (c.put.map mkB)).size = (putT c.put).length := by unfold putT; rw [Array.length_toList]; rfl
        rw [e]; omega)
      have e : textB (c.put.map mkB) = ⟨(putT c.put).toArray⟩ := rfl
      rw [e] at this
      exact this
  · have o115 : ((c.op.toNat : Int) == 115) = false := hno 115 (by rcases hop with h | h <;> rw [h] <;> decide)
    have o2 : ((c.op.toNat : Int) == 98) = true ∨ (((c.op.toNat : Int) == 98) = false ∧ ((c.op.toNat : Int) == 116) = true) := by
      rcases hop with h | h
      · exact .inl (by rw [h]; rfl)
      · exact .inr ⟨by rw [h]; rfl, by rw [h]; rfl⟩
    have n115 : c.op ≠ 115 := by rcases hop with h | h <;> rw [h] <;> decide
    by_cases hle : c.label = []
    · rw [hcm _ (show tailT c = [] from by unfold tailT; rw [if_neg n115, if_pos hop, if_pos hle])]
      rw [hle] at hempty
      exact told_be c.op _ _ _ _ a1 b1 d1 q1 a2 a3 b2 b3 d2 d3 q2 q3 c.neg c.all c.prt _ c.label _ _ w rfl (by omega) kA kB o2 o115 (by rw [hle]; exact hempty)
    · rw [hcm _ (show tailT c = 32 :: c.label from by unfold tailT; rw [if_neg n115, if_pos hop, if_neg hle])]
      exact told_bl c.op _ _ _ _ a1 b1 d1 q1 a2 a3 b2 b3 d2 d3 q2 q3 c.neg c.all c.prt _ c.label _ _ w rfl (by omega) kA kB o2 o115 (by rw [hempty, beq_eq_false_iff_ne]; exact hle)
  · rw [hcm _ (show tailT c = c.label from by unfold tailT; rw [hop]; rfl)]
    exact told_c c.op _ _ _ _ a1 b1 d1 q1 a2 a3 b2 b3 d2 d3 q2 q3 c.neg c.all c.prt _ c.label _ _ w rfl (by omega) kA kB (by rw [hop]; rfl) (by rw [hop]; rfl) (by rw [hop]; rfl) (by rw [hop]; rfl)
  · have hn : ∀ d : UInt8, plainS.contains d = false → c.op ≠ d := fun d hd h => by rw [h, hd] at hpl; cases hpl
    rw [hcm _ (show tailT c = [] from by unfold tailT; rw [if_neg (hn 115 (by decide)), if_neg (fun h => h.elim (hn 98 (by decide)) (hn 116 (by decide))), if_neg (hn 58 (by decide))])]
    exact told_p c.op _ _ _ _ a1 b1 d1 q1 a2 a3 b2 b3 d2 d3 q2 q3 c.neg c.all c.prt _ c.label _ _ w rfl (by omega) kA kB (hno 115 (hn 115 (by decide))) (hno 98 (hn 98 (by decide))) (hno 116 (hn 116 (by decide))) (hno 58 (hn 58 (by decide)))
def cmB (c : Cm) : ByteArray := ⟨(cmT c).toArray⟩
theorem join_cm (cs : List Cm) : joinB (cs.map cmB) ⟨#[10]⟩ = ⟨(scT cs).toArray⟩ := by
  unfold joinB scT
  rw [List.map_map]
  rfl
set_option maxHeartbeats 8000000 in
set_option maxRecDepth 20000 in
/-- Package sed's Text of commands that were read. -/
theorem text8_any (B : Nat) (l : List UInt8) (cs : List Cm) (v : Value) (w : World) (ht : Tab w) (h : ScrS B cs v w) (hr : Rdy l cs) :
    Calls Tryz.prog 7 #[v] w fun e w' => e = .returned (.string ⟨(scT cs).toArray⟩) ∧ Below w.heap.size w w' := by
  obtain ⟨ao, cap, rfl⟩ := h.shape
  have hcl : cs.length ≤ 8192 := Nat.le_trans hr.len hr.short
  have hsz := sc_len cs hr.cms
  have kl := fun (W : World) (hS : Strs (.slice (some ⟨w.heap.size, 0, none⟩) cs.length cs.length) (cs.map cmB) W) => joinS_any _ (cs.map cmB) ⟨#[10]⟩ W hS (by rw [join_cm]; show (scT cs).toArray.size ≤ _; rw [List.size_toArray]; omega)
  rw [join_cm] at kl
  have k0 : TyS (cs.map cmB) w 0 (w.alloc (.cells (madeCells #[.string ByteArray.empty] cs.length) 9)) := by have := TyS.start (cs.map cmB) w; rwa [List.length_map] at this
  have kmk := fun (w : World) => run_make_row' (P := Tryz.prog) 34 9 (.string ByteArray.empty) 16 Tryz.underlying34 Tryz.infoStrU rfl .i64 .i64 cs.length (by omega) (by omega) w
  obtain ⟨N, hN⟩ : ∃ n, n = cs.length := ⟨_, rfl⟩
  obtain ⟨T, hT⟩ : ∃ T : ByteArray, T = ⟨(scT cs).toArray⟩ := ⟨_, rfl⟩
  rw [← hN] at h kl k0 kmk hcl
  rw [← hN]
  rw [← hT] at kl ⊢
  obtain ⟨X, hX⟩ : ∃ X, X = Obj.cells (madeCells #[.string ByteArray.empty] N) 9 := ⟨_, rfl⟩
  rw [← hX] at kmk k0
  have H := Lib.hid (And.intro h (And.intro hN (And.intro hr ht)))
  have K0 := Lib.hid k0
  clear h hN hr ht hT hX k0 hsz
  go_enter Tryz.func7, Tryz.ntmps7
  go_wp2
  go_loopg [11] (N + 1) (fun g v11 wr => ∃ k : Nat, v11 = .int .i64 k ∧ k ≤ N ∧ Hid (g = N + 1 - k) ∧ Hid (TyS (cs.map cmB) w k wr))
  case atStart => exact ⟨0, rfl, by omega, rfl, K0.out⟩
  case round =>
    obtain ⟨k, rfl, hk, HK, HS⟩ := hrel
    by_cases hlt : k < N
    · have hltI : (k : Int) < (N : Int) := by omega
      obtain ⟨c, hc⟩ : ∃ c, cs[k]? = some c := ⟨cs[k]'(by have := H.out.2.1; omega), List.getElem?_eq_getElem _⟩
      have hcm := List.mem_of_getElem? hc
      have hx : (cs.map cmB)[k]? = some (cmB c) := by rw [List.getElem?_map, hc]; rfl
      have htw := H.out.2.2.2.below HS.out.1
      obtain ⟨g, a1, a2, a3, b1, b2, b3, d1, d2, d3, q1, q2, q3, rfl, hgl, hcm1, ⟨r0, r1, r2, r3, r4, r5, r6, r7, r8, r9, r10, r11, r12⟩⟩ := (H.out.1.below HS.out.1).row hc
      have kt := fun w1 (hb : Below wr.heap.size wr w1) => told8_any B c a1 b1 d1 q1 a2 a3 b2 b3 d2 d3 q2 q3 w1 (htw.below hb) (H.out.2.2.1.good c hcm) (H.out.2.2.1.sum c hcm) (H.out.2.2.1.put c hcm) (H.out.2.2.1.lab c hcm) (hcm1.below hb)
      obtain ⟨L, hL⟩ : ∃ L : ByteArray, L = ⟨c.label.toArray⟩ := ⟨_, rfl⟩
      rw [← hL] at kt r12
      have hcb : (⟨(cmT c).toArray⟩ : ByteArray) = cmB c := rfl
      rw [hcb] at kt
      have HX := Lib.hid hx
      have KT := Lib.hid kt
      have hI : IntKind.i64.wrap ((k : Int) + 1) = ((k + 1 : Nat) : Int) := by rw [IntWalk.i64_in _ (by omega)]; omega
      clear hcm hcm1 hc hx htw kt hL hcb
      generalize cmB c = Q at KT HX
      go_wp2_with (first
        | (go_at_call 13; refine (KT.out _ ((Below.refl _ _).alloc (Nat.le_refl _) _)).mono ?_; rintro e w1 ⟨rfl, hb1⟩
           have h1 := TyS.below (k := k) HS.out (((Below.refl _ wr).alloc (Nat.le_refl _) _).trans (hb1.mono (by simp)))
           obtain ⟨⟨u, hu⟩, hf⟩ := h1.cell (by rw [List.length_map]; have := H.out.2.1; omega)
           have H1 := Lib.hid (h1.put HX.out)
           clear hb1 h1))
      go_roundg (N - k)
      case rel => exact ⟨k + 1, by go_num, by omega, by show _ = _; omega, H1⟩
      case measure => have := HK.out; omega
    · obtain rfl : k = N := by omega
      have hS : Strs (.slice (some ⟨w.heap.size, 0, none⟩) k k) (cs.map cmB) wr := by
        have h1 := HS.out
        have h2 := H.out.2.1
        have h3 : k = (cs.map cmB).length := by rw [List.length_map]; exact h2
        rw [h3] at h1 ⊢
        exact h1.strs (by omega)
      have HS2 := Lib.hid (And.intro hS HS.out.1)
      clear hS
      go_wp2_with (first
        | (go_at_call 14; refine (kl _ HS2.out.1).mono ?_; rintro e w3 ⟨rfl, hb3⟩))
      go_ret
      exact ⟨rfl, HS2.out.2.trans (hb3.mono HS2.out.2.size)⟩
end Go.Proofs.YtgceckejchdnlaaGreatDoor
