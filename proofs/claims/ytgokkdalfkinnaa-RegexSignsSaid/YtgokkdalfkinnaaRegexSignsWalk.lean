/- The statement RegexSigns, walked: every byte. No condition. -/
import Derived.Test.YtgokkdalfkinnaaReShown
import Derived.Test.YtgokkdalfkinnaaReRefPlain
namespace Go.Proofs.Ytgokkdalfkinnaa
open Go.RowKit Go.Lib

theorem join_bytes (l m : List UInt8) : (⟨l.toArray⟩ : ByteArray) ++ ⟨m.toArray⟩ = ⟨(l ++ m).toArray⟩ := by
  apply ByteArray.ext
  rw [ByteArray.data_append]
  simp
theorem plain_reads (c : UInt8) (x : List UInt8) (r : Res) (h : Ev (.pieceL (.set (k4 (oneK c.toNat)))) 0 0 x r) : Ev .piece 0 0 (plainL c ++ x) r := by
  obtain ⟨h0, t, hp, _, h40, h46, h94, h36, _⟩ := plain_head c
  have a1 : Ev .atom 0 0 (plainL c ++ x) (.ok (.set (k4 (oneK c.toNat))) x) := by
    have hev := Ev.atom_set (d := 0) (n := 0) (l := plainL c ++ x) (by rw [hp]; simpa using h40) (by rw [hp]; show leafK h0 = none; unfold leafK; rw [if_neg h46, if_neg h94, if_neg h36]) (plain_list c x) (by omega)
    rwa [List.drop_left] at hev
  exact .piece_ok a1 h
theorem plain_beg (c : UInt8) (x : List UInt8) : begins (plainL c ++ x) = true := by
  obtain ⟨h0, t, hp, hs, _⟩ := plain_head c
  rw [hp]
  show (!strangeL.contains h0) = true
  rw [hs]; rfl
theorem signs_read (c : UInt8) (x : List UInt8) (T : Tr) (h : Ev (.pieceL (.set (k4 (oneK c.toNat)))) 0 0 x (.ok T [])) : Reads (plainL c ++ x) (.ok T []) :=
  .ok (.all_ok (.cat_ok (plain_beg c x) (plain_reads c x _ h) (.catL_end rfl)) (.allL_end (by simp)))

set_option maxHeartbeats 4000000 in
set_option maxRecDepth 20000 in
theorem regexSigns_walk (c : UInt8) (w : World) : Calls Try.prog 8 #[.int .u8 (c.toNat : Int)] w fun e w' => e = .returned (.bool true) ∧ Below w.heap.size w w' := by
  have kp := fun w => refPlain_any c w
  have kO := fun w => refOne_any (c.toNat : Int) w (by omega) (by have := c.toNat_lt; omega)
  obtain ⟨K, hK⟩ : ∃ K, K = k4 (oneK c.toNat) := ⟨_, rfl⟩
  have hO : clsV (oneK (c.toNat : Int).toNat) = .agg #[.int .u64 (K.a.toNat : Int), .int .u64 (K.b.toNat : Int), .int .u64 (K.c.toNat : Int), .int .u64 (K.d.toNat : Int)] := by rw [hK, Int.toNat_natCast]; rfl
  rw [hO] at kO
  have hl := (plain_length c).2
  have r1 : Reads (plainL c) (.ok (.set K) []) := by
    have := signs_read c [] (.set K) (by rw [hK]; exact .pieceL_end rfl)
    rwa [List.append_nil] at this
  have r2 : Reads (plainL c ++ [42]) (.ok (.rep 4 (.set K)) []) := signs_read c [42] _ (by rw [hK]; exact .pieceL_more (j := 4) rfl (by show 0 + 1 < 2000; omega) (.pieceL_end rfl))
  have r3 : Reads (plainL c ++ [43, 63]) (.ok (.rep 6 (.rep 5 (.set K))) []) := signs_read c [43, 63] _ (by rw [hK]; exact .pieceL_more (j := 5) rfl (by show 0 + 1 < 2000; omega) (.pieceL_more (j := 6) rfl (by show 0 + (1 + 1) < 2000; omega) (.pieceL_end rfl)))
  have q1 := fun w => readRe_any _ _ w (by omega) r1
  have q2 := fun w => readRe_any _ _ w (by rw [List.length_append]; simp; omega) r2
  have q3 := fun w => readRe_any _ _ w (by rw [List.length_append]; simp; omega) r3
  have qT : ∀ (v : Value) (w : World), Lies v ((Tr.set K).row 0) w → Calls Try.prog 19 #[v] w fun e w' => e = .returned (.string ⟨(plainL c).toArray⟩) ∧ Below w.heap.size w w' := fun v w h => by
    have hh := textRe_any v (.set K) w trivial (by show 1 ≤ 2000; omega) h (right_row (.set K) trivial (by show 1 ≤ 2000; omega))
    have e : (Tr.set K).txt = plainL c := by show toldK K = _; rw [hK]; exact told_one c
    rwa [e] at hh
  rw [← join_bytes] at q2 q3
  obtain ⟨S, hS⟩ : ∃ S : ByteArray, S = ⟨(plainL c).toArray⟩ := ⟨_, rfl⟩
  have hsz : S.size ≤ 4 := by rw [hS]; simpa [ByteArray.size] using hl
  rw [← hS] at kp q1 q2 q3 qT
  have n1 : ¬ 9223372036854775807 < S.size + 1 := by omega
  have n2 : ¬ 9223372036854775807 < S.size + 2 := by omega
  have e1 : ∀ w, (binOp .neq 43 (.agg #[.int .u64 (K.a.toNat : Int), .int .u64 (K.b.toNat : Int), .int .u64 (K.c.toNat : Int), .int .u64 (K.d.toNat : Int)]) (.agg #[.int .u64 (K.a.toNat : Int), .int .u64 (K.b.toNat : Int), .int .u64 (K.c.toNat : Int), .int .u64 (K.d.toNat : Int)])).run Try.prog w = .ok (.bool false) w := fun w => by
    rw [run_neq_cls]; simp
  unfold ReadP at q1 q2 q3
  clear hS hK hO r1 r2 r3 hl
  go_enter Try.func8, Try.ntmps8
  go_wp2_with (first
    | (go_at_call 9; refine (shownRe_any _).mono ?_; rintro e w1 ⟨rfl, hb1⟩; have HB1 := Lib.hid hb1; clear hb1)
    | (go_at_call 21; refine (kp _).mono ?_; rintro e w2 ⟨rfl, hb2⟩; have HB2 := Lib.hid (HB1.out.trans (hb2.mono HB1.out.size)); clear hb2)
    | (go_at_call 10; refine (q1 _).mono ?_; rintro e w3 ⟨⟨v, rfl, hrow⟩, hb3⟩
       have HB3 := Lib.hid (HB2.out.trans (hb3.mono HB2.out.size))
       have HL := Lib.hid (hrow.lies (by show 1 ≤ 140737488355328; omega))
       obtain ⟨ao, cap, hv⟩ := isRow_slice hrow
       have hv4 : v = .slice ao 1 cap := hv
       subst hv4
       obtain ⟨b, o, rfl, hbl, nd⟩ := HL.out.at (j := 0) (n := ⟨1, K, 0, 0⟩) rfl
       clear hb3 hrow hv q1 kp)
    | fail)
  have nd' := fun W' (hb : Below w3.heap.size w3 W') => nd.below hb hbl
  have ND := Lib.hid nd'
  clear nd nd'
  have SB : ∀ W', Below w3.heap.size w3 W' → (W'.cell? ⟨b, o, none⟩ = some (.int .i64 1) ∧ W'.cell? ⟨b, o + 1, none⟩ = some (.int .u64 (K.a.toNat : Int)) ∧ W'.cell? ⟨b, o + 2, none⟩ = some (.int .u64 (K.b.toNat : Int)) ∧ W'.cell? ⟨b, o + 3, none⟩ = some (.int .u64 (K.c.toNat : Int)) ∧ W'.cell? ⟨b, o + 4, none⟩ = some (.int .u64 (K.d.toNat : Int))) := fun W' hb => by
    obtain ⟨h0, h1, h2, h3, h4, _⟩ := ND.out W' hb
    unfold wd at h1 h2 h3 h4
    dsimp only at h1 h2 h3 h4
    exact ⟨by simpa using h0, by simpa using h1, by simpa using h2, by simpa using h3, by simpa using h4⟩
  have SBH := Lib.hid SB
  clear SB
  go_region_held3 (fun W' => W'.cell? ⟨b, o, none⟩ = some (.int .i64 1) ∧ W'.cell? ⟨b, o + 1, none⟩ = some (.int .u64 (K.a.toNat : Int)) ∧ W'.cell? ⟨b, o + 2, none⟩ = some (.int .u64 (K.b.toNat : Int)) ∧ W'.cell? ⟨b, o + 3, none⟩ = some (.int .u64 (K.c.toNat : Int)) ∧ W'.cell? ⟨b, o + 4, none⟩ = some (.int .u64 (K.d.toNat : Int)))
    (first
      | with_reducible exact SBH.out _ (Below.refl _ w3).drew
      | with_reducible exact SBH.out _ hd5
      | with_reducible exact SBH.out _ hd4
      | (trace_state; fail))
    (first
      | (go_at_call 22; refine (kO _).mono ?_; rintro e w4 ⟨rfl, hb4⟩; have hd4 : Below w3.heap.size w3 w4 := ((Below.refl _ w3).drew).trans hb4)
      | (go_at_call 19; refine (qT _ _ (HL.out.below hd4)).mono ?_; rintro e w5 ⟨rfl, hb5⟩; have hd5 : Below w3.heap.size w3 w5 := hd4.trans (hb5.mono hd4.size)))
  all_goals
    have HB5 := Lib.hid (HB3.out.trans (hd5.mono HB3.out.size))
    clear hd4 hb4 hb5 hd5
    go_wp2_with (first
      | (go_at_call 10; first
          | (refine (q2 _).mono ?_; rintro e w6 ⟨⟨v2, rfl, hrow2⟩, hb6⟩
             have HB6 := Lib.hid (HB5.out.trans (hb6.mono HB5.out.size))
             have HL2 := Lib.hid (hrow2.lies (by show 2 ≤ 140737488355328; omega))
             obtain ⟨ao2, cap2, hv2⟩ := isRow_slice hrow2
             have hv24 : v2 = .slice ao2 2 cap2 := hv2
             subst hv24
             obtain ⟨b2, o2, rfl, hbl2, nd2⟩ := HL2.out.at (j := 1) (n := ⟨4, k0, 0, 0⟩) rfl
             have ND2 := Lib.hid nd2
             clear hb6 hrow2 hv2 q2 nd2)
          | (refine (q3 _).mono ?_; rintro e w7 ⟨⟨v3, rfl, hrow3⟩, hb7⟩
             have HB7 := Lib.hid (HB6.out.trans (hb7.mono HB6.out.size))
             have HL3 := Lib.hid (hrow3.lies (by show 3 ≤ 140737488355328; omega))
             obtain ⟨ao3, cap3, hv3⟩ := isRow_slice hrow3
             have hv34 : v3 = .slice ao3 3 cap3 := hv3
             subst hv34
             obtain ⟨b3, o3, rfl, hbl3, nd3⟩ := HL3.out.at (j := 1) (n := ⟨5, k0, 0, 0⟩) rfl
             obtain ⟨b4, o4, hbo, hbl4, nd4⟩ := HL3.out.at (j := 2) (n := ⟨6, k0, 1, 0⟩) rfl
             cases hbo
             have z2 := (ND2.out.below hb7 hbl2).1
             have z3 := nd3.1
             have z4 := nd4.1
             dsimp only at z2 z3 z4
             clear hb7 hrow3 hv3 q3 nd3 nd4))
      | fail)
    exact bodyPost_ret (results_tmp rfl _ _ _) rfl ⟨rfl, HB7.out⟩
end Go.Proofs.Ytgokkdalfkinnaa
