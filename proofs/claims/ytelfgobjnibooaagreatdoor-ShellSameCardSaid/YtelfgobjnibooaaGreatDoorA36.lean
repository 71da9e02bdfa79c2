/- Packed texts: RfCommand2. What each of them proves stands above its theorems; the conditions stand in these. -/
import Derived.Test.YtelfgobjnibooaaGreatDoorA35
namespace Go.Proofs.YtelfgobjnibooaaGreatDoor
open Go.RowKit Go.Lib
set_option maxHeartbeats 16000000 in
set_option maxRecDepth 20000 in
theorem command_while (n0 k p : Nat) (S : ByteArray) (d : Nat) (l : List UInt8) (w : World) (h : TS p S d (.at l) w) (hS : S.size ≤ 1048576) (hgap : gapS l = l) (hk : keyX (.at l) = [119, 104, 105, 108, 101]) (hd : d < 30) (KL : ListP n0 p S (d + 1) k) :
  Calls Tryz.prog 82 #[.pointer (some ⟨p, 0, none⟩)] w fun e w' => AnsC n0 (roundsS (gK k) (l.drop 5)) w e w' ∧ TS p S d (roundsS (gK k) (l.drop 5)).sx w' ∧ Mvr p w w' := by
 have hp := h.lt
 have hkl : 5 ≤ l.length := by
  have hke : keyS l = [119, 104, 105, 108, 101] := by
   have hk : (if shKeys.contains (keyS l) = true then keyS l else []) = [119, 104, 105, 108, 101] := hk
   split at hk
   ·exact hk
   ·cases hk
  obtain ⟨h1, _⟩ := run_key hke (by simp)
  have h2 := run_past_len shMarks l
  rw [h1] at h2
  have h2 : 5 + _ = l.length := h2
  omega
 obtain ⟨W1, hW1, t1, m1, hp1, hz1, hres⟩ := com_start p S d _ w h
 have kh := white_any p S d _ W1 t1 hS
 rw [show (Sx.at l).map gapS = .at l from congrArg Sx.at hgap] at kh
 have KK := Lib.hid (fun (w9 : World) (h9 : TS p S d (.at l) w9) => (by
  have := key_any p S d (.at l) w9 h9 hS
  rw [hk] at this
  exact this : Calls Tryz.prog 34 #[.pointer (some ⟨p, 0, none⟩)] w9 fun x w' => x = .returned (.string ⟨#[119, 104, 105, 108, 101]⟩) ∧ Below w9.heap.size w9 w'))
 obtain ⟨l0, hl0⟩ : ∃ l0, l.drop 5 = l0 := ⟨_, rfl⟩
 have BEG := Lib.hid (fun (w9 : World) (h9 : TS p S d (.at l) w9) => (by
  obtain ⟨g1, g2, g3⟩ := h9.deeper
  obtain ⟨t3, m3⟩ := g3 (d + 1)
  rw [show ((d + 1 : Nat) : Int) = (d : Int) + 1 by omega] at t3 m3
  obtain ⟨a, -, -, -, hhop⟩ := t3.hop hS
  obtain ⟨hwk, hst⟩ := hhop 5 hkl
  obtain ⟨-, q1, q2, q3, q4⟩ := hst _ (Below.refl _ _)
  rw [hl0] at q3
  exact ⟨g1, g2, a, hwk, q1, q2, q3, m3.trans q4⟩ :
  w9.cell? ⟨p, 2, none⟩ = some (.int .i64 (d : Int)) ∧ w9.frozen? ⟨p, 2, none⟩ = false ∧ ∃ a : Nat, IntKind.i64.wrap ((a : Int) + 5) = (a : Int) + 5 ∧ (w9.setCell ⟨p, 2, none⟩ (.int .i64 ((d : Int) + 1))).cell? ⟨p, 1, none⟩ = some (.int .i64 (a : Int)) ∧ (w9.setCell ⟨p, 2, none⟩ (.int .i64 ((d : Int) + 1))).frozen? ⟨p, 1, none⟩ = false ∧ TS p S (d + 1) (.at l0) ((w9.setCell ⟨p, 2, none⟩ (.int .i64 ((d : Int) + 1))).setCell ⟨p, 1, none⟩ (.int .i64 ((a : Int) + 5))) ∧ Mvr p w9 ((w9.setCell ⟨p, 2, none⟩ (.int .i64 ((d : Int) + 1))).setCell ⟨p, 1, none⟩ (.int .i64 ((a : Int) + 5)))))
 have START := Lib.hid (fun (W : World) (mW : Mvr p W1 W) (hW : TS p S (d + 1) (.at l0) W) => CB.start (n0 := n0) hp (Nat.le_refl _) (m1.trans mW) hW (hres W mW) 5)
 have LINES := Lib.hid (fun (t : Sx) (w9 : World) (h9 : TS p S (d + 1) t w9) => linesF_any n0 k p S (d + 1) KL t w9 h9)
 have MK := Lib.hid (fun (w8 w9 : World) (h8 : TS p S d (.at l) w8) (hb : Below w8.heap.size w8 w9) => (⟨h8.below hb, Mvr.of hb h8.lt⟩ : TS p S d (.at l) w9 ∧ Mvr p w8 w9))
 have hd30 : ((d : Int) == 30) = false := by rw [beq_eq_false_iff_ne]; omega
 have hwd : IntKind.i64.wrap ((d : Int) + 1) = (d : Int) + 1 := IntWalk.i64_in _ (by omega)
 have hwd3 : IntKind.i64.wrap (d : Int) = (d : Int) := IntWalk.i64_in _ (by omega)
 rw [hW1] at kh START
 rw [hl0]
 have NDO := Lib.hid (fun (t : Sx) (w9 : World) (h9 : TS p S (d + 1) t w9) => (show Calls Tryz.prog 114 #[.pointer (some ⟨p, 0, none⟩), .string ⟨#[100, 111]⟩] w9 fun x w' => x = .returned (.tuple #[]) ∧ TS p S (d + 1) (needX [100, 111] t).sx w' ∧ Mvr p w9 w' from need_any p S (d + 1) t [100, 111] (by decide) w9 h9 hS))
 have NDN := Lib.hid (fun (t : Sx) (w9 : World) (h9 : TS p S (d + 1) t w9) => (show Calls Tryz.prog 114 #[.pointer (some ⟨p, 0, none⟩), .string ⟨#[100, 111, 110, 101]⟩] w9 fun x w' => x = .returned (.tuple #[]) ∧ TS p S (d + 1) (needX [100, 111, 110, 101] t).sx w' ∧ Mvr p w9 w' from need_any p S (d + 1) t [100, 111, 110, 101] (by decide) w9 h9 hS))
 have FACT := Lib.hid (fun (ca cb : List Co) (ha : ∀ y r, linesS (gK k) l0 = .ok y r → ca = y) (hb : ∀ y r, (needX [100, 111] (linesS (gK k) l0).sx).sx.run (linesS (gK k)) = .ok y r → cb = y) => rounds_fact k l0 ca cb ha hb)
 obtain ⟨D, hDD⟩ : ∃ D, roundsS (gK k) l0 = D := ⟨_, rfl⟩
 rw [hDD] at FACT ⊢
 clear h hgap hk t1 m1 hres hp1 hz1 hW1 KL hd hl0 hkl hDD
 go_enter Tryz.func82, Tryz.ntmps82
 go_upto_region 12 with (first
  | (go_at_call 50; (with_reducible refine kh.mono ?_); rintro e w2 ⟨rfl, h2, m2⟩; have kk := KK.out w2 h2; have H2 := Lib.hid (And.intro h2 m2); clear h2 m2 kh)
  | (go_at_call 34; (with_reducible refine kk.mono ?_); rintro e w3 ⟨rfl, b3⟩; obtain ⟨h3, m3⟩ := MK.out w2 w3 H2.out.1 b3; obtain ⟨g1, g2, a, hwk, q1, q2, q3, q4⟩ := BEG.out w3 h3; have H3 := Lib.hid (And.intro q3 ((H2.out.2.trans m3).trans q4)); clear b3 h3 m3 q3 q4 kk))
 clear H2 MK BEG KK
 go_upto_region 13 with fail
 clear g1 g2 q1 q2 hwk
 generalize (w3.setCell ⟨p, 2, none⟩ (.int .i64 ((d : Int) + 1))).setCell ⟨p, 1, none⟩ (.int .i64 ((a : Int) + 5)) = W3 at *
 obtain ⟨hbc, cb⟩ := START.out W3 H3.out.2 H3.out.1
 have C0 := Lib.hid cb
 clear cb START H3
 go_upto_region 26 with fail
 generalize W3.alloc (.cells #[.int .i64 5, .slice none 0 0, .slice none 0 0, .slice none 0 0, .slice none 0 0, .slice none 0 0, .slice none 0 0] 37) = W4 at *
 generalize W3.heap.size = c at *
 have hwb : w.heap.size ≤ w.heap.size := Nat.le_refl _
 have k5 := LINES.out (.at l0) W4 C0.out.ts
 go_upto_region 43 with (first
  | (go_at_call 113; (with_reducible refine k5.mono ?_); rintro e w5 ⟨⟨ca, alca, mca, clca, rfl, hq, hce⟩, h5, m5⟩; obtain ⟨⟨xca, yca⟩, cb⟩ := C0.out.setA hp hwb hbc m5 h5 _ _ hq; have C1 := Lib.hid cb; have Hca := Lib.hid hce; have k6 := NDO.out _ _ cb.ts; clear hq hce h5 m5 cb k5)
  | (go_at_call 114; (with_reducible refine k6.mono ?_); rintro e w6 ⟨rfl, h6, m6⟩; have C2 := Lib.hid (C1.out.go hp hwb hbc m6 h6); have k7 := LINES.out _ _ (C2.out.ts); clear h6 m6 k6)
  | (go_at_call 113; (with_reducible refine k7.mono ?_); rintro e w7 ⟨⟨cb2, alcb2, mcb2, clcb2, rfl, hq, hce⟩, h5, m5⟩; obtain ⟨⟨xcb2, ycb2⟩, cb⟩ := C2.out.setB hp hwb hbc m5 h5 _ _ hq; have C3 := Lib.hid cb; have Hcb2 := Lib.hid hce; have k8 := NDN.out _ _ cb.ts; clear hq hce h5 m5 cb k7)
  | (go_at_call 114; (with_reducible refine k8.mono ?_); rintro e w8 ⟨rfl, h6, m6⟩; have C4 := Lib.hid (C3.out.go hp hwb hbc m6 h6);  clear h6 m6 k8))
 have FA := FACT.out ca cb2 Hca.out Hcb2.out
 clear C0 C1 C2 C3 LINES NDO NDN FACT Hca Hcb2
 obtain ⟨⟨g1, g2⟩, ⟨c0, c1, c2, c3, c4, c5, c6⟩, hres, ff⟩ := C4.out.finish hp hwb hbc FA
 obtain ⟨⟨r0, r1, r2, r3, r4, r5, r6⟩, f0, f1, f2, f3, f4, f5, f6⟩ := cells7r hres
 rw [show ((5 : Nat) : Int) = 5 from rfl] at ff c0
 have FF := Lib.hid ff
 clear ff hres C4 FA
 go_wp2_with fail
 exact bodyPost_ret (v := .agg _) (results_cell_row (p := 2) (ty := 37) Tryz.results82 _ _ w.heap.size 37 _ (0, 0) _ rfl FF.out.1 Tryz.underlying37 rfl Tryz.infoCmdSq) rfl FF.out.2
set_option maxHeartbeats 16000000 in
set_option maxRecDepth 20000 in
theorem command_if (n0 k p : Nat) (S : ByteArray) (d : Nat) (l : List UInt8) (w : World) (h : TS p S d (.at l) w) (hS : S.size ≤ 1048576) (hgap : gapS l = l) (hk : keyX (.at l) = [105, 102]) (hd : d < 30) (KL : ListP n0 p S (d + 1) k) :
  Calls Tryz.prog 82 #[.pointer (some ⟨p, 0, none⟩)] w fun e w' => AnsC n0 (choiceS (gK k) (l.drop 2)) w e w' ∧ TS p S d (choiceS (gK k) (l.drop 2)).sx w' ∧ Mvr p w w' := by
 have hp := h.lt
 have hkl : 2 ≤ l.length := by
  have hke : keyS l = [105, 102] := by
   have hk : (if shKeys.contains (keyS l) = true then keyS l else []) = [105, 102] := hk
   split at hk
   ·exact hk
   ·cases hk
  obtain ⟨h1, _⟩ := run_key hke (by simp)
  have h2 := run_past_len shMarks l
  rw [h1] at h2
  have h2 : 2 + _ = l.length := h2
  omega
 obtain ⟨W1, hW1, t1, m1, hp1, hz1, hres⟩ := com_start p S d _ w h
 have kh := white_any p S d _ W1 t1 hS
 rw [show (Sx.at l).map gapS = .at l from congrArg Sx.at hgap] at kh
 have KK := Lib.hid (fun (w9 : World) (h9 : TS p S d (.at l) w9) => (by
  have := key_any p S d (.at l) w9 h9 hS
  rw [hk] at this
  exact this : Calls Tryz.prog 34 #[.pointer (some ⟨p, 0, none⟩)] w9 fun x w' => x = .returned (.string ⟨#[105, 102]⟩) ∧ Below w9.heap.size w9 w'))
 obtain ⟨l0, hl0⟩ : ∃ l0, l.drop 2 = l0 := ⟨_, rfl⟩
 have BEG := Lib.hid (fun (w9 : World) (h9 : TS p S d (.at l) w9) => (by
  obtain ⟨g1, g2, g3⟩ := h9.deeper
  obtain ⟨t3, m3⟩ := g3 (d + 1)
  rw [show ((d + 1 : Nat) : Int) = (d : Int) + 1 by omega] at t3 m3
  obtain ⟨a, -, -, -, hhop⟩ := t3.hop hS
  obtain ⟨hwk, hst⟩ := hhop 2 hkl
  obtain ⟨-, q1, q2, q3, q4⟩ := hst _ (Below.refl _ _)
  rw [hl0] at q3
  exact ⟨g1, g2, a, hwk, q1, q2, q3, m3.trans q4⟩ :
  w9.cell? ⟨p, 2, none⟩ = some (.int .i64 (d : Int)) ∧ w9.frozen? ⟨p, 2, none⟩ = false ∧ ∃ a : Nat, IntKind.i64.wrap ((a : Int) + 2) = (a : Int) + 2 ∧ (w9.setCell ⟨p, 2, none⟩ (.int .i64 ((d : Int) + 1))).cell? ⟨p, 1, none⟩ = some (.int .i64 (a : Int)) ∧ (w9.setCell ⟨p, 2, none⟩ (.int .i64 ((d : Int) + 1))).frozen? ⟨p, 1, none⟩ = false ∧ TS p S (d + 1) (.at l0) ((w9.setCell ⟨p, 2, none⟩ (.int .i64 ((d : Int) + 1))).setCell ⟨p, 1, none⟩ (.int .i64 ((a : Int) + 2))) ∧ Mvr p w9 ((w9.setCell ⟨p, 2, none⟩ (.int .i64 ((d : Int) + 1))).setCell ⟨p, 1, none⟩ (.int .i64 ((a : Int) + 2)))))
 have START := Lib.hid (fun (W : World) (mW : Mvr p W1 W) (hW : TS p S (d + 1) (.at l0) W) => CB.start (n0 := n0) hp (Nat.le_refl _) (m1.trans mW) hW (hres W mW) 4)
 have LINES := Lib.hid (fun (t : Sx) (w9 : World) (h9 : TS p S (d + 1) t w9) => linesF_any n0 k p S (d + 1) KL t w9 h9)
 have MK := Lib.hid (fun (w8 w9 : World) (h8 : TS p S d (.at l) w8) (hb : Below w8.heap.size w8 w9) => (⟨h8.below hb, Mvr.of hb h8.lt⟩ : TS p S d (.at l) w9 ∧ Mvr p w8 w9))
 have hd30 : ((d : Int) == 30) = false := by rw [beq_eq_false_iff_ne]; omega
 have hwd : IntKind.i64.wrap ((d : Int) + 1) = (d : Int) + 1 := IntWalk.i64_in _ (by omega)
 have hwd3 : IntKind.i64.wrap (d : Int) = (d : Int) := IntWalk.i64_in _ (by omega)
 rw [hW1] at kh START
 rw [hl0]
 have NTH := Lib.hid (fun (t : Sx) (w9 : World) (h9 : TS p S (d + 1) t w9) => (show Calls Tryz.prog 114 #[.pointer (some ⟨p, 0, none⟩), .string ⟨#[116, 104, 101, 110]⟩] w9 fun x w' => x = .returned (.tuple #[]) ∧ TS p S (d + 1) (needX [116, 104, 101, 110] t).sx w' ∧ Mvr p w9 w' from need_any p S (d + 1) t [116, 104, 101, 110] (by decide) w9 h9 hS))
 have NEL := Lib.hid (fun (t : Sx) (w9 : World) (h9 : TS p S (d + 1) t w9) => (show Calls Tryz.prog 114 #[.pointer (some ⟨p, 0, none⟩), .string ⟨#[101, 108, 115, 101]⟩] w9 fun x w' => x = .returned (.tuple #[]) ∧ TS p S (d + 1) (needX [101, 108, 115, 101] t).sx w' ∧ Mvr p w9 w' from need_any p S (d + 1) t [101, 108, 115, 101] (by decide) w9 h9 hS))
 have NFI := Lib.hid (fun (t : Sx) (w9 : World) (h9 : TS p S (d + 1) t w9) => (show Calls Tryz.prog 114 #[.pointer (some ⟨p, 0, none⟩), .string ⟨#[102, 105]⟩] w9 fun x w' => x = .returned (.tuple #[]) ∧ TS p S (d + 1) (needX [102, 105] t).sx w' ∧ Mvr p w9 w' from need_any p S (d + 1) t [102, 105] (by decide) w9 h9 hS))
 have KH := Lib.hid (fun (t : Sx) (w9 : World) (h9 : TS p S (d + 1) t w9) (hg : t.map gapS = t) => (by
  have := white_any p S (d + 1) t w9 h9 hS
  rw [hg] at this
  exact this : Calls Tryz.prog 50 #[.pointer (some ⟨p, 0, none⟩)] w9 fun x w' => x = .returned (.tuple #[]) ∧ TS p S (d + 1) t w' ∧ Mvr p w9 w'))
 have KY := Lib.hid (fun (t : Sx) (w9 : World) (h9 : TS p S (d + 1) t w9) => key_any p S (d + 1) t w9 h9 hS)
 have MV := Lib.hid (fun (t : Sx) (w8 w9 : World) (h8 : TS p S (d + 1) t w8) (hb : Below w8.heap.size w8 w9) => (⟨h8.below hb, Mvr.of hb h8.lt⟩ : TS p S (d + 1) t w9 ∧ Mvr p w8 w9))
 have FACT := Lib.hid (fun (ca cb cc : List Co) (ha : ∀ y r, linesS (gK k) l0 = .ok y r → ca = y) (hb : ∀ y r, (needX [116, 104, 101, 110] (linesS (gK k) l0).sx).sx.run (linesS (gK k)) = .ok y r → cb = y) (hc : if keyX (choiceX k l0) = [101, 108, 115, 101] then ∀ y r, (needX [101, 108, 115, 101] (choiceX k l0)).sx.run (linesS (gK k)) = .ok y r → cc = y else cc = []) => choice_fact k l0 ca cb cc ha hb hc)
 obtain ⟨D, hDD⟩ : ∃ D, choiceS (gK k) l0 = D := ⟨_, rfl⟩
 rw [hDD] at FACT ⊢
 clear h hgap hk t1 m1 hres hp1 hz1 hW1 KL hd hl0 hkl hDD
 go_enter Tryz.func82, Tryz.ntmps82
 go_upto_region 12 with (first
  | (go_at_call 50; (with_reducible refine kh.mono ?_); rintro e w2 ⟨rfl, h2, m2⟩; have kk := KK.out w2 h2; have H2 := Lib.hid (And.intro h2 m2); clear h2 m2 kh)
  | (go_at_call 34; (with_reducible refine kk.mono ?_); rintro e w3 ⟨rfl, b3⟩; obtain ⟨h3, m3⟩ := MK.out w2 w3 H2.out.1 b3; obtain ⟨g1, g2, a, hwk, q1, q2, q3, q4⟩ := BEG.out w3 h3; have H3 := Lib.hid (And.intro q3 ((H2.out.2.trans m3).trans q4)); clear b3 h3 m3 q3 q4 kk))
 clear H2 MK BEG KK
 go_upto_region 13 with fail
 clear g1 g2 q1 q2 hwk
 generalize (w3.setCell ⟨p, 2, none⟩ (.int .i64 ((d : Int) + 1))).setCell ⟨p, 1, none⟩ (.int .i64 ((a : Int) + 2)) = W3 at *
 obtain ⟨hbc, cb⟩ := START.out W3 H3.out.2 H3.out.1
 have C0 := Lib.hid cb
 clear cb START H3
 go_upto_region 16 with fail
 generalize W3.alloc (.cells #[.int .i64 4, .slice none 0 0, .slice none 0 0, .slice none 0 0, .slice none 0 0, .slice none 0 0, .slice none 0 0] 37) = W4 at *
 generalize W3.heap.size = c at *
 have hwb : w.heap.size ≤ w.heap.size := Nat.le_refl _
 have k5 := LINES.out (.at l0) W4 C0.out.ts
 obtain ⟨K, hK⟩ : ∃ K : ByteArray, ⟨(keyX (choiceX k l0)).toArray⟩ = K := ⟨_, rfl⟩
 have KY : Hid (∀ (w9 : World), TS p S (d + 1) (choiceX k l0) w9 → Calls Tryz.prog 34 #[.pointer (some ⟨p, 0, none⟩)] w9 fun x w' => x = .returned (.string K) ∧ Below w9.heap.size w9 w') := fun w9 h9 => by
  have := KY.out (choiceX k l0) w9 h9
  rw [hK] at this
  exact this
 have hKL : K.toList = keyX (choiceX k l0) := by rw [← hK, ByteArray.toList_eq]
 have HKL := Lib.hid hKL
 clear hK hKL
 have REST : True := trivial
 by_cases hke : keyX (choiceX k l0) = [101, 108, 115, 101]
 ·have hkt : (K.toList == [101, 108, 115, 101]) = true := by rw [HKL.out, hke]; rfl
  go_upto_region 43 with (first
   | (go_at_call 113; (with_reducible refine k5.mono ?_); rintro e w5 ⟨⟨ca, alca, mca, clca, rfl, hq, hce⟩, h5, m5⟩; obtain ⟨⟨xca, yca⟩, cb⟩ := C0.out.setA hp hwb hbc m5 h5 _ _ hq; have C1 := Lib.hid cb; have Hca := Lib.hid hce; have k6 := NTH.out _ _ cb.ts; clear hq hce h5 m5 cb k5)
   | (go_at_call 114; (with_reducible refine k6.mono ?_); rintro e w6 ⟨rfl, h6, m6⟩; have C2 := Lib.hid (C1.out.go hp hwb hbc m6 h6); have k7 := LINES.out _ _ (C2.out.ts); clear h6 m6 k6)
   | (go_at_call 113; (with_reducible refine k7.mono ?_); rintro e w7 ⟨⟨cb2, alcb2, mcb2, clcb2, rfl, hq, hce⟩, h5, m5⟩; obtain ⟨⟨xcb2, ycb2⟩, cb⟩ := C2.out.setB hp hwb hbc m5 h5 _ _ hq; have C3 := Lib.hid cb; have Hcb2 := Lib.hid hce; have T3 : Hid (TS p S (d + 1) (choiceX k l0) _) := cb.ts; have k8 := KH.out _ _ T3.out (lines_gap k _); clear hq hce h5 m5 cb k7)
   | (go_at_call 50; (with_reducible refine k8.mono ?_); rintro e w8 ⟨rfl, h6, m6⟩; have C4 := Lib.hid (C3.out.go hp hwb hbc m6 h6); have k9 := KY.out _ h6; have T4 := Lib.hid h6; clear h6 m6 k8)
   | (go_at_call 34; (with_reducible refine k9.mono ?_); rintro e w9 ⟨rfl, b9⟩; obtain ⟨t9, m9⟩ := MV.out _ w8 w9 T4.out b9; have C5 := Lib.hid (C4.out.go hp hwb hbc m9 t9); have k10 := NEL.out _ w9 t9; clear b9 t9 m9 k9)
   | (go_at_call 114; (with_reducible refine k10.mono ?_); rintro e w10 ⟨rfl, h6, m6⟩; have C6 := Lib.hid (C5.out.go hp hwb hbc m6 h6); have k11 := LINES.out _ _ (C6.out.ts); clear h6 m6 k10)
   | (go_at_call 113; (with_reducible refine k11.mono ?_); rintro e w11 ⟨⟨cc, alcc, mcc, clcc, rfl, hq, hce⟩, h5, m5⟩; obtain ⟨⟨xcc, ycc⟩, cb⟩ := C6.out.setC hp hwb hbc m5 h5 _ _ hq; have C7 := Lib.hid cb; have Hcc := Lib.hid hce; have k12 := NFI.out _ _ cb.ts; clear hq hce h5 m5 cb k11)
   | (go_at_call 114; (with_reducible refine k12.mono ?_); rintro e w12 ⟨rfl, h6, m6⟩; have C8 := Lib.hid (C7.out.go hp hwb hbc m6 h6);  clear h6 m6 k12))
  have FA := FACT.out ca cb2 cc Hca.out Hcb2.out (by rw [if_pos hke]; exact Hcc.out)
  have e8 : elseX k (choiceX k l0) = ((needX [101, 108, 115, 101] (choiceX k l0)).sx.run (linesS (gK k))).sx := if_pos hke
  rw [e8] at FA
  clear C0 C1 C2 C3 C4 C5 C6 C7 T3 T4 LINES NTH NEL NFI FACT Hca Hcb2 Hcc e8 hke HKL KH KY MV
  obtain ⟨⟨g1, g2⟩, ⟨c0, c1, c2, c3, c4, c5, c6⟩, hres, ff⟩ := C8.out.finish hp hwb hbc FA
  obtain ⟨⟨r0, r1, r2, r3, r4, r5, r6⟩, f0, f1, f2, f3, f4, f5, f6⟩ := cells7r hres
  rw [show ((4 : Nat) : Int) = 4 from rfl] at ff c0
  have FF := Lib.hid ff
  clear ff hres C8 FA
  go_wp2_with fail
  exact bodyPost_ret (v := .agg _) (results_cell_row (p := 2) (ty := 37) Tryz.results82 _ _ w.heap.size 37 _ (0, 0) _ rfl FF.out.1 Tryz.underlying37 rfl Tryz.infoCmdSq) rfl FF.out.2
 ·have hkt : (K.toList == [101, 108, 115, 101]) = false := by rw [HKL.out, beq_eq_false_iff_ne]; exact hke
  go_upto_region 43 with (first
   | (go_at_call 113; (with_reducible refine k5.mono ?_); rintro e w5 ⟨⟨ca, alca, mca, clca, rfl, hq, hce⟩, h5, m5⟩; obtain ⟨⟨xca, yca⟩, cb⟩ := C0.out.setA hp hwb hbc m5 h5 _ _ hq; have C1 := Lib.hid cb; have Hca := Lib.hid hce; have k6 := NTH.out _ _ cb.ts; clear hq hce h5 m5 cb k5)
   | (go_at_call 114; (with_reducible refine k6.mono ?_); rintro e w6 ⟨rfl, h6, m6⟩; have C2 := Lib.hid (C1.out.go hp hwb hbc m6 h6); have k7 := LINES.out _ _ (C2.out.ts); clear h6 m6 k6)
   | (go_at_call 113; (with_reducible refine k7.mono ?_); rintro e w7 ⟨⟨cb2, alcb2, mcb2, clcb2, rfl, hq, hce⟩, h5, m5⟩; obtain ⟨⟨xcb2, ycb2⟩, cb⟩ := C2.out.setB hp hwb hbc m5 h5 _ _ hq; have C3 := Lib.hid cb; have Hcb2 := Lib.hid hce; have T3 : Hid (TS p S (d + 1) (choiceX k l0) _) := cb.ts; have k8 := KH.out _ _ T3.out (lines_gap k _); clear hq hce h5 m5 cb k7)
   | (go_at_call 50; (with_reducible refine k8.mono ?_); rintro e w8 ⟨rfl, h6, m6⟩; have C4 := Lib.hid (C3.out.go hp hwb hbc m6 h6); have k9 := KY.out _ h6; have T4 := Lib.hid h6; clear h6 m6 k8)
   | (go_at_call 34; (with_reducible refine k9.mono ?_); rintro e w9 ⟨rfl, b9⟩; obtain ⟨t9, m9⟩ := MV.out _ w8 w9 T4.out b9; have C5 := Lib.hid (C4.out.go hp hwb hbc m9 t9); have k10 := NFI.out _ w9 t9; clear b9 t9 m9 k9)
   | (go_at_call 114; (with_reducible refine k10.mono ?_); rintro e w12 ⟨rfl, h6, m6⟩; have C8 := Lib.hid (C5.out.go hp hwb hbc m6 h6);  clear h6 m6 k10))
  have FA := FACT.out ca cb2 [] Hca.out Hcb2.out (by rw [if_neg hke])
  have e8 : elseX k (choiceX k l0) = choiceX k l0 := if_neg hke
  rw [e8] at FA
  clear C0 C1 C2 C3 C4 C5 T3 T4 LINES NTH NEL NFI FACT Hca Hcb2 e8 hke HKL KH KY MV
  obtain ⟨⟨g1, g2⟩, ⟨c0, c1, c2, c3, c4, c5, c6⟩, hres, ff⟩ := C8.out.finish hp hwb hbc FA
  obtain ⟨⟨r0, r1, r2, r3, r4, r5, r6⟩, f0, f1, f2, f3, f4, f5, f6⟩ := cells7r hres
  rw [show ((4 : Nat) : Int) = 4 from rfl] at ff c0
  have FF := Lib.hid ff
  clear ff hres C8 FA
  go_wp2_with fail
  exact bodyPost_ret (v := .agg _) (results_cell_row (p := 2) (ty := 37) Tryz.results82 _ _ w.heap.size 37 _ (0, 0) _ rfl FF.out.1 Tryz.underlying37 rfl Tryz.infoCmdSq) rfl FF.out.2
set_option maxHeartbeats 16000000 in
set_option maxRecDepth 20000 in
theorem command_for (n0 k p : Nat) (S : ByteArray) (d : Nat) (l : List UInt8) (w : World) (h : TS p S d (.at l) w) (hS : S.size ≤ 1048576) (hgap : gapS l = l) (hk : keyX (.at l) = [102, 111, 114]) (hd : d < 30) (KL : ListP n0 p S (d + 1) k) (KWP : WordsP n0 p S (d + 1) k) :
  Calls Tryz.prog 82 #[.pointer (some ⟨p, 0, none⟩)] w fun e w' => AnsC n0 (eachS (gK k) (l.drop 3)) w e w' ∧ TS p S d (eachS (gK k) (l.drop 3)).sx w' ∧ Mvr p w w' := by
 have hp := h.lt
 have hkl : 3 ≤ l.length := by
  have hke : keyS l = [102, 111, 114] := by
   have hk : (if shKeys.contains (keyS l) = true then keyS l else []) = [102, 111, 114] := hk
   split at hk
   ·exact hk
   ·cases hk
  obtain ⟨h1, _⟩ := run_key hke (by simp)
  have h2 := run_past_len shMarks l
  rw [h1] at h2
  have h2 : 3 + _ = l.length := h2
  omega
 obtain ⟨W1, hW1, t1, m1, hp1, hz1, hres⟩ := com_start p S d _ w h
 have kh := white_any p S d _ W1 t1 hS
 rw [show (Sx.at l).map gapS = .at l from congrArg Sx.at hgap] at kh
 have KK := Lib.hid (fun (w9 : World) (h9 : TS p S d (.at l) w9) => (by
  have := key_any p S d (.at l) w9 h9 hS
  rw [hk] at this
  exact this : Calls Tryz.prog 34 #[.pointer (some ⟨p, 0, none⟩)] w9 fun x w' => x = .returned (.string ⟨#[102, 111, 114]⟩) ∧ Below w9.heap.size w9 w'))
 obtain ⟨l0, hl0⟩ : ∃ l0, l.drop 3 = l0 := ⟨_, rfl⟩
 have BEG := Lib.hid (fun (w9 : World) (h9 : TS p S d (.at l) w9) => (by
  obtain ⟨g1, g2, g3⟩ := h9.deeper
  obtain ⟨t3, m3⟩ := g3 (d + 1)
  rw [show ((d + 1 : Nat) : Int) = (d : Int) + 1 by omega] at t3 m3
  obtain ⟨a, -, -, -, hhop⟩ := t3.hop hS
  obtain ⟨hwk, hst⟩ := hhop 3 hkl
  obtain ⟨-, q1, q2, q3, q4⟩ := hst _ (Below.refl _ _)
  rw [hl0] at q3
  exact ⟨g1, g2, a, hwk, q1, q2, q3, m3.trans q4⟩ :
  w9.cell? ⟨p, 2, none⟩ = some (.int .i64 (d : Int)) ∧ w9.frozen? ⟨p, 2, none⟩ = false ∧ ∃ a : Nat, IntKind.i64.wrap ((a : Int) + 3) = (a : Int) + 3 ∧ (w9.setCell ⟨p, 2, none⟩ (.int .i64 ((d : Int) + 1))).cell? ⟨p, 1, none⟩ = some (.int .i64 (a : Int)) ∧ (w9.setCell ⟨p, 2, none⟩ (.int .i64 ((d : Int) + 1))).frozen? ⟨p, 1, none⟩ = false ∧ TS p S (d + 1) (.at l0) ((w9.setCell ⟨p, 2, none⟩ (.int .i64 ((d : Int) + 1))).setCell ⟨p, 1, none⟩ (.int .i64 ((a : Int) + 3))) ∧ Mvr p w9 ((w9.setCell ⟨p, 2, none⟩ (.int .i64 ((d : Int) + 1))).setCell ⟨p, 1, none⟩ (.int .i64 ((a : Int) + 3)))))
 have START := Lib.hid (fun (W : World) (mW : Mvr p W1 W) (hW : TS p S (d + 1) (.at l0) W) => CB.start (n0 := n0) hp (Nat.le_refl _) (m1.trans mW) hW (hres W mW) 6)
 have LINES := Lib.hid (fun (t : Sx) (w9 : World) (h9 : TS p S (d + 1) t w9) => linesF_any n0 k p S (d + 1) KL t w9 h9)
 have MK := Lib.hid (fun (w8 w9 : World) (h8 : TS p S d (.at l) w8) (hb : Below w8.heap.size w8 w9) => (⟨h8.below hb, Mvr.of hb h8.lt⟩ : TS p S d (.at l) w9 ∧ Mvr p w8 w9))
 have hd30 : ((d : Int) == 30) = false := by rw [beq_eq_false_iff_ne]; omega
 have hwd : IntKind.i64.wrap ((d : Int) + 1) = (d : Int) + 1 := IntWalk.i64_in _ (by omega)
 have hwd3 : IntKind.i64.wrap (d : Int) = (d : Int) := IntWalk.i64_in _ (by omega)
 rw [hW1] at kh START
 rw [hl0]
 have NIN := Lib.hid (fun (t : Sx) (w9 : World) (h9 : TS p S (d + 1) t w9) => (show Calls Tryz.prog 114 #[.pointer (some ⟨p, 0, none⟩), .string ⟨#[105, 110]⟩] w9 fun x w' => x = .returned (.tuple #[]) ∧ TS p S (d + 1) (needX [105, 110] t).sx w' ∧ Mvr p w9 w' from need_any p S (d + 1) t [105, 110] (by decide) w9 h9 hS))
 have NDO := Lib.hid (fun (t : Sx) (w9 : World) (h9 : TS p S (d + 1) t w9) => (show Calls Tryz.prog 114 #[.pointer (some ⟨p, 0, none⟩), .string ⟨#[100, 111]⟩] w9 fun x w' => x = .returned (.tuple #[]) ∧ TS p S (d + 1) (needX [100, 111] t).sx w' ∧ Mvr p w9 w' from need_any p S (d + 1) t [100, 111] (by decide) w9 h9 hS))
 have NDN := Lib.hid (fun (t : Sx) (w9 : World) (h9 : TS p S (d + 1) t w9) => (show Calls Tryz.prog 114 #[.pointer (some ⟨p, 0, none⟩), .string ⟨#[100, 111, 110, 101]⟩] w9 fun x w' => x = .returned (.tuple #[]) ∧ TS p S (d + 1) (needX [100, 111, 110, 101] t).sx w' ∧ Mvr p w9 w' from need_any p S (d + 1) t [100, 111, 110, 101] (by decide) w9 h9 hS))
 have KH := Lib.hid (fun (w9 : World) (h9 : TS p S (d + 1) (.at l0) w9) => (show Calls Tryz.prog 50 #[.pointer (some ⟨p, 0, none⟩)] w9 fun x w' => x = .returned (.tuple #[]) ∧ TS p S (d + 1) (.at (gapS l0)) w' ∧ Mvr p w9 w' from white_any p S (d + 1) (.at l0) w9 h9 hS))
 have KN := Lib.hid (fun (w9 : World) (h9 : TS p S (d + 1) (.at (gapS l0)) w9) => (show Calls Tryz.prog 115 #[.pointer (some ⟨p, 0, none⟩)] w9 fun x w' => AnsTF (nameR (gapS l0)) x ∧ TS p S (d + 1) (nameR (gapS l0)).sx w' ∧ Mvr p w9 w' from nameF_any p S (d + 1) (.at (gapS l0)) w9 h9 hS))
 obtain ⟨X2, hX2⟩ : ∃ X2, nameR (gapS l0) = X2 := ⟨_, rfl⟩
 have KCC := Lib.hid (fun (w9 : World) (h9 : TS p S (d + 1) X2.sx w9) => c_any p S (d + 1) X2.sx w9 h9 hS)
 have KF9 := Lib.hid (fun (t : Sx) (w9 : World) (h9 : TS p S (d + 1) t w9) => fail_any p S (d + 1) t 9 (by decide) w9 h9)
 have MV := Lib.hid (fun (t : Sx) (w8 w9 : World) (h8 : TS p S (d + 1) t w8) (hb : Below w8.heap.size w8 w9) => (⟨h8.below hb, Mvr.of hb h8.lt⟩ : TS p S (d + 1) t w9 ∧ Mvr p w8 w9))
 have KWD := Lib.hid (fun (t : Sx) (w9 : World) (h9 : TS p S (d + 1) t w9) => KWP t w9 h9)
 have KSP := Lib.hid (fun (t : Sx) (w9 : World) (h9 : TS p S (d + 1) t w9) => (show Calls Tryz.prog 31 #[.pointer (some ⟨p, 0, none⟩), .bool false] w9 fun x w' => x = .returned (.bool ((t.map gapS).on shEnds)) ∧ TS p S (d + 1) (t.map (skipS shEnds)) w' ∧ Mvr p w9 w' from seps_any p S (d + 1) t false w9 h9 hS))
 have FACT := Lib.hid (fun (nm : List UInt8) (ws : List (List Pt)) (cb : List Co) => each_fact k l0 nm ws cb)
 obtain ⟨D, hDD⟩ : ∃ D, eachS (gK k) l0 = D := ⟨_, rfl⟩
 rw [hDD] at FACT ⊢
 rw [hX2] at FACT KN
 obtain ⟨t3, ht3⟩ : ∃ t3, (needX [105, 110] (blankX X2.sx)).sx = t3 := ⟨_, rfl⟩
 rw [ht3] at FACT
 obtain ⟨X4, hX4⟩ : ∃ X4, t3.run (wordsS (rlvl k)) = X4 := ⟨_, rfl⟩
 rw [hX4] at FACT
 obtain ⟨q, hq⟩ : ∃ q, (X4.sx.map gapS).on shEnds = q := ⟨_, rfl⟩
 have NIN : Hid (∀ (w9 : World), TS p S (d + 1) (blankX X2.sx) w9 → Calls Tryz.prog 114 #[.pointer (some ⟨p, 0, none⟩), .string ⟨#[105, 110]⟩] w9 fun x w' => x = .returned (.tuple #[]) ∧ TS p S (d + 1) t3 w' ∧ Mvr p w9 w') := fun w9 h9 => by
  have := NIN.out _ w9 h9
  rw [ht3] at this
  exact this
 have KWD : Hid (∀ (w9 : World), TS p S (d + 1) t3 w9 → Calls Tryz.prog 116 #[.pointer (some ⟨p, 0, none⟩)] w9 fun e w' => AnsWs n0 X4 w9 e w' ∧ TS p S (d + 1) X4.sx w' ∧ Mvr p w9 w') := fun w9 h9 => by
  have := KWD.out t3 w9 h9
  rw [hX4] at this
  exact this
 have KSP : Hid (∀ (w9 : World), TS p S (d + 1) X4.sx w9 → Calls Tryz.prog 31 #[.pointer (some ⟨p, 0, none⟩), .bool false] w9 fun x w' => x = .returned (.bool q) ∧ TS p S (d + 1) (X4.sx.map (skipS shEnds)) w' ∧ Mvr p w9 w') := fun w9 h9 => by
  have := KSP.out X4.sx w9 h9
  rw [hq] at this
  exact this
 have HQ := Lib.hid hq
 clear h hgap hk t1 m1 hres hp1 hz1 hW1 KL hd hl0 hkl hDD hX2 ht3 hX4 hq KWP
 go_enter Tryz.func82, Tryz.ntmps82
 go_upto_region 12 with (first
  | (go_at_call 50; (with_reducible refine kh.mono ?_); rintro e w2 ⟨rfl, h2, m2⟩; have kk := KK.out w2 h2; have H2 := Lib.hid (And.intro h2 m2); clear h2 m2 kh)
  | (go_at_call 34; (with_reducible refine kk.mono ?_); rintro e w3 ⟨rfl, b3⟩; obtain ⟨h3, m3⟩ := MK.out w2 w3 H2.out.1 b3; obtain ⟨g1, g2, a, hwk, q1, q2, q3, q4⟩ := BEG.out w3 h3; have H3 := Lib.hid (And.intro q3 ((H2.out.2.trans m3).trans q4)); clear b3 h3 m3 q3 q4 kk))
 clear H2 MK BEG KK
 go_upto_region 13 with fail
 clear g1 g2 q1 q2 hwk
 generalize (w3.setCell ⟨p, 2, none⟩ (.int .i64 ((d : Int) + 1))).setCell ⟨p, 1, none⟩ (.int .i64 ((a : Int) + 3)) = W3 at *
 obtain ⟨hbc, cb⟩ := START.out W3 H3.out.2 H3.out.1
 have C0 := Lib.hid cb
 clear cb START H3
 go_upto_region 31 with fail
 generalize W3.alloc (.cells #[.int .i64 6, .slice none 0 0, .slice none 0 0, .slice none 0 0, .slice none 0 0, .slice none 0 0, .slice none 0 0] 37) = W4 at *
 generalize W3.heap.size = c at *
 have hwb : w.heap.size ≤ w.heap.size := Nat.le_refl _
 have k5 := KH.out W4 C0.out.ts
 obtain ⟨y, hy⟩ : ∃ y : Int, (X2.sx.c.toNat : Int) = y := ⟨_, rfl⟩
 have e32 : (y != 32) = (X2.sx.c != 32) := by rw [← hy]; exact byte_ne X2.sx.c 32
 have e9 : (y != 9) = (X2.sx.c != 9) := by rw [← hy]; exact byte_ne X2.sx.c 9
 rw [hy] at KCC
 clear hy
 go_upto_region 33 with (first
  | (go_at_call 50; (with_reducible refine k5.mono ?_); rintro e w5 ⟨rfl, h5, m5⟩; have k6 := KN.out w5 h5; have C1 := Lib.hid (C0.out.go hp hwb hbc m5 h5); clear h5 m5 k5)
  | (go_at_call 115; (with_reducible refine k6.mono ?_); rintro e w6 ⟨⟨nm, rfl, hnm⟩, h6, m6⟩; obtain ⟨⟨x1, y1⟩, cb⟩ := C1.out.setN hp hwb hbc m6 h6 nm; have C2 := Lib.hid cb; have HNM := Lib.hid hnm; clear h6 m6 hnm cb k6))
 clear x1 y1 KH KN C0 C1
 generalize (w6.alloc (.cells #[.string ⟨nm.toArray⟩] 9)).setCell ⟨c, 1, none⟩ (.slice (some ⟨w6.heap.size, 0, none⟩) 1 1) = W7 at *
 generalize w6.heap.size = gn at *
 have C2M := Lib.hid (fun (w9 : World) (hb : Below W7.heap.size W7 w9) => (⟨C2.out.go hp hwb hbc (Mvr.of hb C2.out.ts.lt) (C2.out.ts.below hb), KCC.out w9 (C2.out.ts.below hb)⟩ : CB n0 p S (d + 1) w w.heap.size c 6 [nm] [] [] [] [] (.slice (some ⟨gn, 0, none⟩) 1 1) (.slice none 0 0) (.slice none 0 0) (.slice none 0 0) (.slice none 0 0) X2.sx w9 ∧ _))
 have kc := KCC.out W7 C2.out.ts
 have hone : (gn : Nat) = gn := rfl
 clear KCC MV C2 hone
 by_cases h32 : X2.sx.c = 32
 ·replace e32 : (y != 32) = false := by rw [e32, h32]; rfl
  have hbl : blankX X2.sx = X2.sx := if_pos (.inl h32)
  rw [hbl] at NIN
  clear h32 hbl e9
  cases q with
  | true =>
   go_upto_region 43 with (first
    | (go_at_call 33; (with_reducible refine kc.mono ?_); rintro e w8 ⟨rfl, b8⟩; obtain ⟨cb3, kc2⟩ := C2M.out w8 b8; clear kc2; have C3 := Lib.hid cb3; have k10 := NIN.out w8 cb3.ts; clear b8 cb3 kc)
    | (go_at_call 114; (with_reducible refine k10.mono ?_); rintro e w10 ⟨rfl, h6, m6⟩; have C4 := Lib.hid (C3.out.go hp hwb hbc m6 h6); have k11 := KWD.out w10 h6; clear h6 m6 k10)
    | (go_at_call 116; (with_reducible refine k11.mono ?_); rintro e w11 ⟨⟨ws, alw, clw, rfl, hq, hwe, hwl⟩, h5, m5⟩; obtain ⟨⟨xw, yw⟩, cb⟩ := C4.out.setW hp hwb hbc m5 h5 _ _ hq; have C5 := Lib.hid cb; have HWS := Lib.hid hwe; have k12 := KSP.out _ cb.ts; clear hq hwe h5 m5 cb k11)
    | (go_at_call 31; (with_reducible refine k12.mono ?_); rintro e w12 ⟨rfl, h6, m6⟩; have C6 := Lib.hid (C5.out.go hp hwb hbc m6 h6); have k14 := NDO.out _ w12 h6; clear h6 m6 k12)
    | (go_at_call 114; (with_reducible refine k14.mono ?_); rintro e w14 ⟨rfl, h6, m6⟩; have C7 := Lib.hid (C6.out.go hp hwb hbc m6 h6); have k15 := LINES.out _ w14 h6; clear h6 m6 k14)
    | (go_at_call 113; (with_reducible refine k15.mono ?_); rintro e w15 ⟨⟨cb2, alcb2, mcb2, clcb2, rfl, hq, hce⟩, h5, m5⟩; obtain ⟨⟨xcb2, ycb2⟩, cb⟩ := C7.out.setB hp hwb hbc m5 h5 _ _ hq; have C8 := Lib.hid cb; have Hcb2 := Lib.hid hce; have k16 := NDN.out _ _ cb.ts; clear hq hce h5 m5 cb k15)
    | (go_at_call 114; (with_reducible refine k16.mono ?_); rintro e w16 ⟨rfl, h6, m6⟩; have C9 := Lib.hid (C8.out.go hp hwb hbc m6 h6);  clear h6 m6 k16))
   have FA := FACT.out nm ws cb2 HNM.out HWS.out (by show ∀ y r, (needX [100, 111] (overX X4.sx)).sx.run (linesS (gK k)) = .ok y r → cb2 = y; unfold overX; rw [if_pos HQ.out]; exact Hcb2.out)
   unfold overX at FA
   rw [if_pos HQ.out] at FA
   clear C3 C4 C5 C6 C7 C8 LINES NIN NDO NDN KF9 KWD KSP FACT HNM HWS Hcb2 HQ C2M
   obtain ⟨⟨g1, g2⟩, ⟨c0, c1, c2, c3, c4, c5, c6⟩, hres, ff⟩ := C9.out.finish hp hwb hbc FA
   obtain ⟨⟨r0, r1, r2, r3, r4, r5, r6⟩, f0, f1, f2, f3, f4, f5, f6⟩ := cells7r hres
   rw [show ((6 : Nat) : Int) = 6 from rfl] at ff c0
   have FF := Lib.hid ff
   clear ff hres C9 FA
   go_wp2_with fail
   exact bodyPost_ret (v := .agg _) (results_cell_row (p := 2) (ty := 37) Tryz.results82 _ _ w.heap.size 37 _ (0, 0) _ rfl FF.out.1 Tryz.underlying37 rfl Tryz.infoCmdSq) rfl FF.out.2
  | false =>
   go_upto_region 43 with (first
    | (go_at_call 33; (with_reducible refine kc.mono ?_); rintro e w8 ⟨rfl, b8⟩; obtain ⟨cb3, kc2⟩ := C2M.out w8 b8; clear kc2; have C3 := Lib.hid cb3; have k10 := NIN.out w8 cb3.ts; clear b8 cb3 kc)
    | (go_at_call 114; (with_reducible refine k10.mono ?_); rintro e w10 ⟨rfl, h6, m6⟩; have C4 := Lib.hid (C3.out.go hp hwb hbc m6 h6); have k11 := KWD.out w10 h6; clear h6 m6 k10)
    | (go_at_call 116; (with_reducible refine k11.mono ?_); rintro e w11 ⟨⟨ws, alw, clw, rfl, hq, hwe, hwl⟩, h5, m5⟩; obtain ⟨⟨xw, yw⟩, cb⟩ := C4.out.setW hp hwb hbc m5 h5 _ _ hq; have C5 := Lib.hid cb; have HWS := Lib.hid hwe; have k12 := KSP.out _ cb.ts; clear hq hwe h5 m5 cb k11)
    | (go_at_call 31; (with_reducible refine k12.mono ?_); rintro e w12 ⟨rfl, h6, m6⟩; have C5b := Lib.hid (C5.out.go hp hwb hbc m6 h6); have k13 := KF9.out _ w12 h6; clear h6 m6 k12)
    | (go_at_call 16; (with_reducible refine k13.mono ?_); rintro e w13 ⟨rfl, h6, m6⟩; have C6 := Lib.hid (C5b.out.go hp hwb hbc m6 h6); have k14 := NDO.out _ w13 h6; clear h6 m6 k13)
    | (go_at_call 114; (with_reducible refine k14.mono ?_); rintro e w14 ⟨rfl, h6, m6⟩; have C7 := Lib.hid (C6.out.go hp hwb hbc m6 h6); have k15 := LINES.out _ w14 h6; clear h6 m6 k14)
    | (go_at_call 113; (with_reducible refine k15.mono ?_); rintro e w15 ⟨⟨cb2, alcb2, mcb2, clcb2, rfl, hq, hce⟩, h5, m5⟩; obtain ⟨⟨xcb2, ycb2⟩, cb⟩ := C7.out.setB hp hwb hbc m5 h5 _ _ hq; have C8 := Lib.hid cb; have Hcb2 := Lib.hid hce; have k16 := NDN.out _ _ cb.ts; clear hq hce h5 m5 cb k15)
    | (go_at_call 114; (with_reducible refine k16.mono ?_); rintro e w16 ⟨rfl, h6, m6⟩; have C9 := Lib.hid (C8.out.go hp hwb hbc m6 h6);  clear h6 m6 k16))
   have FA := FACT.out nm ws cb2 HNM.out HWS.out (by show ∀ y r, (needX [100, 111] (overX X4.sx)).sx.run (linesS (gK k)) = .ok y r → cb2 = y; unfold overX; rw [if_neg (by rw [HQ.out]; simp)]; exact Hcb2.out)
   unfold overX at FA
   rw [if_neg (by rw [HQ.out]; simp)] at FA
   clear C3 C4 C5 C6 C7 C8 C5b LINES NIN NDO NDN KF9 KWD KSP FACT HNM HWS Hcb2 HQ C2M
   obtain ⟨⟨g1, g2⟩, ⟨c0, c1, c2, c3, c4, c5, c6⟩, hres, ff⟩ := C9.out.finish hp hwb hbc FA
   obtain ⟨⟨r0, r1, r2, r3, r4, r5, r6⟩, f0, f1, f2, f3, f4, f5, f6⟩ := cells7r hres
   rw [show ((6 : Nat) : Int) = 6 from rfl] at ff c0
   have FF := Lib.hid ff
   clear ff hres C9 FA
   go_wp2_with fail
   exact bodyPost_ret (v := .agg _) (results_cell_row (p := 2) (ty := 37) Tryz.results82 _ _ w.heap.size 37 _ (0, 0) _ rfl FF.out.1 Tryz.underlying37 rfl Tryz.infoCmdSq) rfl FF.out.2
 ·replace e32 : (y != 32) = true := by rw [e32]; simpa using h32
  by_cases h9 : X2.sx.c = 9
  ·replace e9 : (y != 9) = false := by rw [e9, h9]; rfl
   have hbl : blankX X2.sx = X2.sx := if_pos (.inr h9)
   rw [hbl] at NIN
   clear h32 h9 hbl
   cases q with
   | true =>
    go_upto_region 43 with (first
     | (go_at_call 33; (with_reducible refine kc.mono ?_); rintro e w8 ⟨rfl, b8⟩; obtain ⟨cb3, kc2⟩ := C2M.out w8 b8; have B8 := Lib.hid b8; clear b8 cb3 kc)
     | (go_at_call 33; (with_reducible refine kc2.mono ?_); rintro e w9 ⟨rfl, b9⟩; obtain ⟨cb3, kc3⟩ := C2M.out w9 (below2 B8.out b9); clear kc3; have C3 := Lib.hid cb3; have k10 := NIN.out w9 cb3.ts; clear b9 cb3 kc2)
     | (go_at_call 114; (with_reducible refine k10.mono ?_); rintro e w10 ⟨rfl, h6, m6⟩; have C4 := Lib.hid (C3.out.go hp hwb hbc m6 h6); have k11 := KWD.out w10 h6; clear h6 m6 k10)
     | (go_at_call 116; (with_reducible refine k11.mono ?_); rintro e w11 ⟨⟨ws, alw, clw, rfl, hq, hwe, hwl⟩, h5, m5⟩; obtain ⟨⟨xw, yw⟩, cb⟩ := C4.out.setW hp hwb hbc m5 h5 _ _ hq; have C5 := Lib.hid cb; have HWS := Lib.hid hwe; have k12 := KSP.out _ cb.ts; clear hq hwe h5 m5 cb k11)
     | (go_at_call 31; (with_reducible refine k12.mono ?_); rintro e w12 ⟨rfl, h6, m6⟩; have C6 := Lib.hid (C5.out.go hp hwb hbc m6 h6); have k14 := NDO.out _ w12 h6; clear h6 m6 k12)
     | (go_at_call 114; (with_reducible refine k14.mono ?_); rintro e w14 ⟨rfl, h6, m6⟩; have C7 := Lib.hid (C6.out.go hp hwb hbc m6 h6); have k15 := LINES.out _ w14 h6; clear h6 m6 k14)
     | (go_at_call 113; (with_reducible refine k15.mono ?_); rintro e w15 ⟨⟨cb2, alcb2, mcb2, clcb2, rfl, hq, hce⟩, h5, m5⟩; obtain ⟨⟨xcb2, ycb2⟩, cb⟩ := C7.out.setB hp hwb hbc m5 h5 _ _ hq; have C8 := Lib.hid cb; have Hcb2 := Lib.hid hce; have k16 := NDN.out _ _ cb.ts; clear hq hce h5 m5 cb k15)
     | (go_at_call 114; (with_reducible refine k16.mono ?_); rintro e w16 ⟨rfl, h6, m6⟩; have C9 := Lib.hid (C8.out.go hp hwb hbc m6 h6);  clear h6 m6 k16))
    have FA := FACT.out nm ws cb2 HNM.out HWS.out (by show ∀ y r, (needX [100, 111] (overX X4.sx)).sx.run (linesS (gK k)) = .ok y r → cb2 = y; unfold overX; rw [if_pos HQ.out]; exact Hcb2.out)
    unfold overX at FA
    rw [if_pos HQ.out] at FA
    clear C3 C4 C5 C6 C7 C8 LINES NIN NDO NDN KF9 KWD KSP FACT HNM HWS Hcb2 HQ C2M
    obtain ⟨⟨g1, g2⟩, ⟨c0, c1, c2, c3, c4, c5, c6⟩, hres, ff⟩ := C9.out.finish hp hwb hbc FA
    obtain ⟨⟨r0, r1, r2, r3, r4, r5, r6⟩, f0, f1, f2, f3, f4, f5, f6⟩ := cells7r hres
    rw [show ((6 : Nat) : Int) = 6 from rfl] at ff c0
    have FF := Lib.hid ff
    clear ff hres C9 FA
    go_wp2_with fail
    exact bodyPost_ret (v := .agg _) (results_cell_row (p := 2) (ty := 37) Tryz.results82 _ _ w.heap.size 37 _ (0, 0) _ rfl FF.out.1 Tryz.underlying37 rfl Tryz.infoCmdSq) rfl FF.out.2
   | false =>
    go_upto_region 43 with (first
     | (go_at_call 33; (with_reducible refine kc.mono ?_); rintro e w8 ⟨rfl, b8⟩; obtain ⟨cb3, kc2⟩ := C2M.out w8 b8; have B8 := Lib.hid b8; clear b8 cb3 kc)
     | (go_at_call 33; (with_reducible refine kc2.mono ?_); rintro e w9 ⟨rfl, b9⟩; obtain ⟨cb3, kc3⟩ := C2M.out w9 (below2 B8.out b9); clear kc3; have C3 := Lib.hid cb3; have k10 := NIN.out w9 cb3.ts; clear b9 cb3 kc2)
     | (go_at_call 114; (with_reducible refine k10.mono ?_); rintro e w10 ⟨rfl, h6, m6⟩; have C4 := Lib.hid (C3.out.go hp hwb hbc m6 h6); have k11 := KWD.out w10 h6; clear h6 m6 k10)
     | (go_at_call 116; (with_reducible refine k11.mono ?_); rintro e w11 ⟨⟨ws, alw, clw, rfl, hq, hwe, hwl⟩, h5, m5⟩; obtain ⟨⟨xw, yw⟩, cb⟩ := C4.out.setW hp hwb hbc m5 h5 _ _ hq; have C5 := Lib.hid cb; have HWS := Lib.hid hwe; have k12 := KSP.out _ cb.ts; clear hq hwe h5 m5 cb k11)
     | (go_at_call 31; (with_reducible refine k12.mono ?_); rintro e w12 ⟨rfl, h6, m6⟩; have C5b := Lib.hid (C5.out.go hp hwb hbc m6 h6); have k13 := KF9.out _ w12 h6; clear h6 m6 k12)
     | (go_at_call 16; (with_reducible refine k13.mono ?_); rintro e w13 ⟨rfl, h6, m6⟩; have C6 := Lib.hid (C5b.out.go hp hwb hbc m6 h6); have k14 := NDO.out _ w13 h6; clear h6 m6 k13)
     | (go_at_call 114; (with_reducible refine k14.mono ?_); rintro e w14 ⟨rfl, h6, m6⟩; have C7 := Lib.hid (C6.out.go hp hwb hbc m6 h6); have k15 := LINES.out _ w14 h6; clear h6 m6 k14)
     | (go_at_call 113; (with_reducible refine k15.mono ?_); rintro e w15 ⟨⟨cb2, alcb2, mcb2, clcb2, rfl, hq, hce⟩, h5, m5⟩; obtain ⟨⟨xcb2, ycb2⟩, cb⟩ := C7.out.setB hp hwb hbc m5 h5 _ _ hq; have C8 := Lib.hid cb; have Hcb2 := Lib.hid hce; have k16 := NDN.out _ _ cb.ts; clear hq hce h5 m5 cb k15)
     | (go_at_call 114; (with_reducible refine k16.mono ?_); rintro e w16 ⟨rfl, h6, m6⟩; have C9 := Lib.hid (C8.out.go hp hwb hbc m6 h6);  clear h6 m6 k16))
    have FA := FACT.out nm ws cb2 HNM.out HWS.out (by show ∀ y r, (needX [100, 111] (overX X4.sx)).sx.run (linesS (gK k)) = .ok y r → cb2 = y; unfold overX; rw [if_neg (by rw [HQ.out]; simp)]; exact Hcb2.out)
    unfold overX at FA
    rw [if_neg (by rw [HQ.out]; simp)] at FA
    clear C3 C4 C5 C6 C7 C8 C5b LINES NIN NDO NDN KF9 KWD KSP FACT HNM HWS Hcb2 HQ C2M
    obtain ⟨⟨g1, g2⟩, ⟨c0, c1, c2, c3, c4, c5, c6⟩, hres, ff⟩ := C9.out.finish hp hwb hbc FA
    obtain ⟨⟨r0, r1, r2, r3, r4, r5, r6⟩, f0, f1, f2, f3, f4, f5, f6⟩ := cells7r hres
    rw [show ((6 : Nat) : Int) = 6 from rfl] at ff c0
    have FF := Lib.hid ff
    clear ff hres C9 FA
    go_wp2_with fail
    exact bodyPost_ret (v := .agg _) (results_cell_row (p := 2) (ty := 37) Tryz.results82 _ _ w.heap.size 37 _ (0, 0) _ rfl FF.out.1 Tryz.underlying37 rfl Tryz.infoCmdSq) rfl FF.out.2
  ·replace e9 : (y != 9) = true := by rw [e9]; simpa using h9
   have hbl : blankX X2.sx = X2.sx.fail 9 := if_neg (fun h => h.elim h32 h9)
   rw [hbl] at NIN
   clear h32 h9 hbl
   cases q with
   | true =>
    go_upto_region 43 with (first
     | (go_at_call 33; (with_reducible refine kc.mono ?_); rintro e w8 ⟨rfl, b8⟩; obtain ⟨cb3, kc2⟩ := C2M.out w8 b8; have B8 := Lib.hid b8; clear b8 cb3 kc)
     | (go_at_call 33; (with_reducible refine kc2.mono ?_); rintro e w9 ⟨rfl, b9⟩; obtain ⟨cb3, kc3⟩ := C2M.out w9 (below2 B8.out b9); clear kc3; have C2b := Lib.hid cb3; have kf := KF9.out _ w9 cb3.ts; clear b9 cb3 kc2)
     | (go_at_call 16; (with_reducible refine kf.mono ?_); rintro e wf ⟨rfl, h6, m6⟩; have C3 := Lib.hid (C2b.out.go hp hwb hbc m6 h6); have k10 := NIN.out wf h6; clear h6 m6 kf)
     | (go_at_call 114; (with_reducible refine k10.mono ?_); rintro e w10 ⟨rfl, h6, m6⟩; have C4 := Lib.hid (C3.out.go hp hwb hbc m6 h6); have k11 := KWD.out w10 h6; clear h6 m6 k10)
     | (go_at_call 116; (with_reducible refine k11.mono ?_); rintro e w11 ⟨⟨ws, alw, clw, rfl, hq, hwe, hwl⟩, h5, m5⟩; obtain ⟨⟨xw, yw⟩, cb⟩ := C4.out.setW hp hwb hbc m5 h5 _ _ hq; have C5 := Lib.hid cb; have HWS := Lib.hid hwe; have k12 := KSP.out _ cb.ts; clear hq hwe h5 m5 cb k11)
     | (go_at_call 31; (with_reducible refine k12.mono ?_); rintro e w12 ⟨rfl, h6, m6⟩; have C6 := Lib.hid (C5.out.go hp hwb hbc m6 h6); have k14 := NDO.out _ w12 h6; clear h6 m6 k12)
     | (go_at_call 114; (with_reducible refine k14.mono ?_); rintro e w14 ⟨rfl, h6, m6⟩; have C7 := Lib.hid (C6.out.go hp hwb hbc m6 h6); have k15 := LINES.out _ w14 h6; clear h6 m6 k14)
     | (go_at_call 113; (with_reducible refine k15.mono ?_); rintro e w15 ⟨⟨cb2, alcb2, mcb2, clcb2, rfl, hq, hce⟩, h5, m5⟩; obtain ⟨⟨xcb2, ycb2⟩, cb⟩ := C7.out.setB hp hwb hbc m5 h5 _ _ hq; have C8 := Lib.hid cb; have Hcb2 := Lib.hid hce; have k16 := NDN.out _ _ cb.ts; clear hq hce h5 m5 cb k15)
     | (go_at_call 114; (with_reducible refine k16.mono ?_); rintro e w16 ⟨rfl, h6, m6⟩; have C9 := Lib.hid (C8.out.go hp hwb hbc m6 h6);  clear h6 m6 k16))
    have FA := FACT.out nm ws cb2 HNM.out HWS.out (by show ∀ y r, (needX [100, 111] (overX X4.sx)).sx.run (linesS (gK k)) = .ok y r → cb2 = y; unfold overX; rw [if_pos HQ.out]; exact Hcb2.out)
    unfold overX at FA
    rw [if_pos HQ.out] at FA
    clear C3 C4 C5 C6 C7 C8 LINES NIN NDO NDN KF9 KWD KSP FACT HNM HWS Hcb2 HQ C2M
    obtain ⟨⟨g1, g2⟩, ⟨c0, c1, c2, c3, c4, c5, c6⟩, hres, ff⟩ := C9.out.finish hp hwb hbc FA
    obtain ⟨⟨r0, r1, r2, r3, r4, r5, r6⟩, f0, f1, f2, f3, f4, f5, f6⟩ := cells7r hres
    rw [show ((6 : Nat) : Int) = 6 from rfl] at ff c0
    have FF := Lib.hid ff
    clear ff hres C9 FA
    go_wp2_with fail
    exact bodyPost_ret (v := .agg _) (results_cell_row (p := 2) (ty := 37) Tryz.results82 _ _ w.heap.size 37 _ (0, 0) _ rfl FF.out.1 Tryz.underlying37 rfl Tryz.infoCmdSq) rfl FF.out.2
   | false =>
    go_upto_region 43 with (first
     | (go_at_call 33; (with_reducible refine kc.mono ?_); rintro e w8 ⟨rfl, b8⟩; obtain ⟨cb3, kc2⟩ := C2M.out w8 b8; have B8 := Lib.hid b8; clear b8 cb3 kc)
     | (go_at_call 33; (with_reducible refine kc2.mono ?_); rintro e w9 ⟨rfl, b9⟩; obtain ⟨cb3, kc3⟩ := C2M.out w9 (below2 B8.out b9); clear kc3; have C2b := Lib.hid cb3; have kf := KF9.out _ w9 cb3.ts; clear b9 cb3 kc2)
     | (go_at_call 16; (with_reducible refine kf.mono ?_); rintro e wf ⟨rfl, h6, m6⟩; have C3 := Lib.hid (C2b.out.go hp hwb hbc m6 h6); have k10 := NIN.out wf h6; clear h6 m6 kf)
     | (go_at_call 114; (with_reducible refine k10.mono ?_); rintro e w10 ⟨rfl, h6, m6⟩; have C4 := Lib.hid (C3.out.go hp hwb hbc m6 h6); have k11 := KWD.out w10 h6; clear h6 m6 k10)
     | (go_at_call 116; (with_reducible refine k11.mono ?_); rintro e w11 ⟨⟨ws, alw, clw, rfl, hq, hwe, hwl⟩, h5, m5⟩; obtain ⟨⟨xw, yw⟩, cb⟩ := C4.out.setW hp hwb hbc m5 h5 _ _ hq; have C5 := Lib.hid cb; have HWS := Lib.hid hwe; have k12 := KSP.out _ cb.ts; clear hq hwe h5 m5 cb k11)
     | (go_at_call 31; (with_reducible refine k12.mono ?_); rintro e w12 ⟨rfl, h6, m6⟩; have C5b := Lib.hid (C5.out.go hp hwb hbc m6 h6); have k13 := KF9.out _ w12 h6; clear h6 m6 k12)
     | (go_at_call 16; (with_reducible refine k13.mono ?_); rintro e w13 ⟨rfl, h6, m6⟩; have C6 := Lib.hid (C5b.out.go hp hwb hbc m6 h6); have k14 := NDO.out _ w13 h6; clear h6 m6 k13)
     | (go_at_call 114; (with_reducible refine k14.mono ?_); rintro e w14 ⟨rfl, h6, m6⟩; have C7 := Lib.hid (C6.out.go hp hwb hbc m6 h6); have k15 := LINES.out _ w14 h6; clear h6 m6 k14)
     | (go_at_call 113; (with_reducible refine k15.mono ?_); rintro e w15 ⟨⟨cb2, alcb2, mcb2, clcb2, rfl, hq, hce⟩, h5, m5⟩; obtain ⟨⟨xcb2, ycb2⟩, cb⟩ := C7.out.setB hp hwb hbc m5 h5 _ _ hq; have C8 := Lib.hid cb; have Hcb2 := Lib.hid hce; have k16 := NDN.out _ _ cb.ts; clear hq hce h5 m5 cb k15)
     | (go_at_call 114; (with_reducible refine k16.mono ?_); rintro e w16 ⟨rfl, h6, m6⟩; have C9 := Lib.hid (C8.out.go hp hwb hbc m6 h6);  clear h6 m6 k16))
    have FA := FACT.out nm ws cb2 HNM.out HWS.out (by show ∀ y r, (needX [100, 111] (overX X4.sx)).sx.run (linesS (gK k)) = .ok y r → cb2 = y; unfold overX; rw [if_neg (by rw [HQ.out]; simp)]; exact Hcb2.out)
    unfold overX at FA
    rw [if_neg (by rw [HQ.out]; simp)] at FA
    clear C3 C4 C5 C6 C7 C8 C5b LINES NIN NDO NDN KF9 KWD KSP FACT HNM HWS Hcb2 HQ C2M
    obtain ⟨⟨g1, g2⟩, ⟨c0, c1, c2, c3, c4, c5, c6⟩, hres, ff⟩ := C9.out.finish hp hwb hbc FA
    obtain ⟨⟨r0, r1, r2, r3, r4, r5, r6⟩, f0, f1, f2, f3, f4, f5, f6⟩ := cells7r hres
    rw [show ((6 : Nat) : Int) = 6 from rfl] at ff c0
    have FF := Lib.hid ff
    clear ff hres C9 FA
    go_wp2_with fail
    exact bodyPost_ret (v := .agg _) (results_cell_row (p := 2) (ty := 37) Tryz.results82 _ _ w.heap.size 37 _ (0, 0) _ rfl FF.out.1 Tryz.underlying37 rfl Tryz.infoCmdSq) rfl FF.out.2
end Go.Proofs.YtelfgobjnibooaaGreatDoor
