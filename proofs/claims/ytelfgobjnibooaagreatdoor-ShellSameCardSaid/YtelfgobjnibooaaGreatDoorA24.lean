/- Packed texts: RfName, RfKey, RfNeed. What each of them proves stands above its theorems; the conditions stand in these. -/
import Derived.Test.YtelfgobjnibooaaGreatDoorA3
import Derived.Test.YtelfgobjnibooaaGreatDoorA23
namespace Go.Proofs.YtelfgobjnibooaaGreatDoor
open Go.RowKit Go.Lib
theorem name_step (l : List UInt8) (n : Nat) (h : n < l.length) (hn : n ≤ (nameS l).length) : isNameB (l.take (n + 1)) = decide (n < (nameS l).length) := by
  cases l with
  | nil => simp at h
  | cons c r =>
    have e1 : nameS (c :: r) = if isLet c then c :: r.takeWhile restOk else [] := rfl
    have e2 : isNameB ((c :: r).take (n + 1)) = (isLet c && (r.take n).all restOk) := by rw [List.take_succ_cons]; simp [isNameB, namePre]
    rw [e2]
    cases hl : isLet c with
    | false =>
      rw [e1, hl] at hn ⊢
      simp
    | true =>
      rw [e1, hl] at hn ⊢
      simp only [if_true, List.length_cons, Bool.true_and] at hn ⊢
      simp only [List.length_cons] at h
      have hw : ∀ (r : List UInt8) (n : Nat), n ≤ r.length → n ≤ (r.takeWhile restOk).length + 1 → (r.take n).all restOk = decide (n < (r.takeWhile restOk).length + 1) := by
        intro r
        induction r with
        | nil => intro n h _; obtain rfl : n = 0 := by simpa using h
                 rfl
        | cons d r ih =>
          intro n h1 h2
          cases n with
          | zero => simp
          | succ n =>
            rw [List.take_succ_cons, List.all_cons, List.takeWhile_cons]
            rw [List.takeWhile_cons] at h2
            cases hd : restOk d with
            | false => rw [hd] at h2; simp at h2; simp
            | true =>
              rw [hd] at h2
              simp only [if_true, List.length_cons, Bool.true_and] at h2 ⊢
              rw [ih n (by simpa using h1) (by omega)]
              simp
      exact hw r n (by omega) (by omega)
theorem nameS_lenF (l : List UInt8) : (nameS l).length ≤ l.length := by
 cases l with
 | nil => simp [nameS]
 | cons c r =>
  show (if isLet c then c :: r.takeWhile restOk else []).length ≤ _
  split
  ·have : (r.takeWhile restOk).length ≤ r.length := (List.takeWhile_prefix _).length_le
   simp
   omega
  ·simp
theorem nameS_pre (l : List UInt8) : l.take (nameS l).length = nameS l := by
 cases l with
 | nil => rfl
 | cons c r =>
  have e1 : nameS (c :: r) = if isLet c then c :: r.takeWhile restOk else [] := rfl
  rw [e1]
  split
  ·rw [List.length_cons, List.take_succ_cons]
   congr 1
   have := List.takeWhile_append_dropWhile (p := restOk) (l := r)
   conv => lhs; rw [← this]
   rw [List.take_left']
   rw [this]
  ·rfl
theorem extractR (S : ByteArray) (x y : Nat) : (S.extract x y).data.toList = (S.data.toList.drop x).take (y - x) := by
 rw [ByteArray.data_extract]
 simp
set_option maxHeartbeats 2000000 in
set_option maxRecDepth 20000 in
theorem namedF_any (p : Nat) (S : ByteArray) (a d : Nat) (bad : Int) (x : Nat) (w : World) (h : TR p S a d bad w) (hx : x ≤ S.size) (hS : S.size ≤ 1048576) :
  Calls Tryz.prog 145 #[.pointer (some ⟨p, 0, none⟩), .int .i64 (x : Int)] w fun e w' => e = .returned (.int .i64 (((nameS (S.data.toList.drop x)).length : Nat) : Int)) ∧ w = w' := by
 obtain ⟨⟨c0, -, -, -⟩, -⟩ := h.cells
 obtain ⟨L, hL⟩ : ∃ L, S.data.toList.drop x = L := ⟨_, rfl⟩
 obtain ⟨N, hN⟩ : ∃ N, (nameS L).length = N := ⟨_, rfl⟩
 have hlen : L.length = S.size - x := by rw [← hL, List.length_drop, Array.length_toList]; rfl
 have hNl := nameS_lenF L
 rw [hL, hN]
 rw [hN, hlen] at hNl
 have KN := Lib.hid (fun (n : Nat) (w : World) (hn : n < L.length) (hn2 : n ≤ N) => (by
  have k := refIsName_any (S.extract x (x + n + 1)) w (by simp [ByteArray.size_extract]; omega)
  rw [extractR, hL, show x + n + 1 - x = n + 1 by omega, name_step L n hn (by rw [hN]; exact hn2), hN] at k
  exact k : Calls Tryz.prog 169 #[.string (S.extract x (x + n + 1))] w fun e w' => e = .returned (.bool (decide (n < N))) ∧ w = w'))
 rw [hlen] at KN
 clear hL hN hlen h
 go_enter Tryz.func145, Tryz.ntmps145
 go_wp2
 go_loop [5] (fun i => ∃ n : Nat, n ≤ N ∧ i = .int .i64 n) (fun i => N + 1 - (RowKit.intOf i).toNat)
 case atStart => exact ⟨0, Nat.zero_le _, rfl⟩
 case round =>
  obtain ⟨n, hn, rfl⟩ := hrel
  have hwx : IntKind.i64.wrap ((x : Int) + (n : Int)) = (x : Int) + (n : Int) := IntWalk.i64_in _ (by omega)
  have hwy : IntKind.i64.wrap ((x : Int) + (n : Int) + 1) = (x : Int) + (n : Int) + 1 := IntWalk.i64_in _ (by omega)
  have hwn : IntKind.i64.wrap ((n : Int) + 1) = ((n + 1 : Nat) : Int) := by rw [IntWalk.i64_in _ (by omega)]; omega
  have hty : ((x : Int) + (n : Int) + 1).toNat = x + n + 1 := by omega
  by_cases hlt : x + n < S.size
  ·have hltI : (x : Int) + (n : Int) < (S.size : Int) := by omega
   have hltd : decide ((x : Int) + (n : Int) < (S.size : Int)) = true := decide_eq_true hltI
   have hle : (x : Int) ≤ (x : Int) + (n : Int) + 1 := by omega
   have hle2 : (x : Int) + (n : Int) + 1 ≤ (S.size : Int) := by omega
   have kn := fun w => KN.out n w (by omega) hn
   by_cases hnn : n < N
   ·have hd : decide (n < N) = true := decide_eq_true hnn
    rw [hd] at kn
    clear hd
    go_wp2_with (go_at_call 169; (with_reducible refine (kn _).mono ?_); rintro e w1 ⟨rfl, rfl⟩)
    go_round
    case measure => show N + 1 - (n + 1) < N + 1 - n; omega
    case rel => exact ⟨n + 1, by omega, rfl⟩
   ·have hd : decide (n < N) = false := decide_eq_false hnn
    rw [hd] at kn
    obtain rfl : n = N := by omega
    clear hd hnn hn
    go_wp2_with (go_at_call 169; (with_reducible refine (kn _).mono ?_); rintro e w1 ⟨rfl, rfl⟩)
    go_ret
    exact ⟨rfl, rfl⟩
  ·have hltI : ¬ (x : Int) + (n : Int) < (S.size : Int) := by omega
   have hltd : decide ((x : Int) + (n : Int) < (S.size : Int)) = false := decide_eq_false hltI
   obtain rfl : n = N := by omega
   clear hn KN
   go_wp2
   go_ret
   exact ⟨rfl, rfl⟩
theorem TS.hop {p : Nat} {S : ByteArray} {d : Nat} {l : List UInt8} {w : World} (h : TS p S d (.at l) w) (hS : S.size ≤ 1048576) : ∃ a : Nat, a + l.length = S.size ∧ S.data.toList.drop a = l ∧ TR p S a d 0 w ∧ ∀ (n : Nat), n ≤ l.length → IntKind.i64.wrap ((a : Int) + (n : Int)) = (a : Int) + (n : Int) ∧ ∀ w1, Below w.heap.size w w1 → w1.cell? ⟨p, 0, none⟩ = some (.string S) ∧ w1.cell? ⟨p, 1, none⟩ = some (.int .i64 (a : Int)) ∧ w1.frozen? ⟨p, 1, none⟩ = false ∧ TS p S d (.at (l.drop n)) (w1.setCell ⟨p, 1, none⟩ (.int .i64 ((a : Int) + (n : Int)))) ∧ Mvr p w (w1.setCell ⟨p, 1, none⟩ (.int .i64 ((a : Int) + (n : Int)))) := by
 obtain ⟨a, h, ha, hl⟩ := h
 have h3 : S.data.toList.length = S.size := Array.length_toList
 have h4 : l.length = S.size - a := by rw [← hl, List.length_drop, h3]
 refine ⟨a, by omega, hl, h, fun n hn => ⟨IntWalk.i64_in _ (by omega), fun w1 hb => ⟨(h.below hb).cells.1.1, (h.below hb).cells.1.2.1, (h.below hb).cells.2.1, ?_, (Mvr.of hb h.lt).trans (Mvr.set p _ _ _)⟩⟩⟩
 have := TS.skip (n := n) (h.below hb) hl hn ha
 rw [show ((a + n : Nat) : Int) = (a : Int) + (n : Int) by omega] at this
 exact this
def AnsTF (R : Rr (List UInt8)) (e : Ending) : Prop := ∃ v : List UInt8, e = .returned (.string ⟨v.toArray⟩) ∧ ∀ y r, R = .ok y r → v = y
theorem extract_arr (S : ByteArray) (x n : Nat) : S.extract x (x + n) = ⟨((S.data.toList.drop x).take n).toArray⟩ := by
 apply ByteArray.ext
 apply Array.ext'
 have := extractR S x (x + n)
 rw [show x + n - x = n by omega] at this
 exact this
set_option maxHeartbeats 2000000 in
set_option maxRecDepth 20000 in
theorem name_ended (p : Nat) (S : ByteArray) (d : Nat) (s : Sx) (w : World) (h : TS p S d s w) (hS : S.size ≤ 1048576) (hq : s.end = true) :
  Calls Tryz.prog 115 #[.pointer (some ⟨p, 0, none⟩)] w fun x w' => x = .returned (.string ⟨#[]⟩) ∧ TS p S d (s.fail 9) w' ∧ Mvr p w w' := by
 have ke := end_any p S d s w h hS
 rw [hq] at ke
 have kf := Lib.hid (fun w1 (hb : Below w.heap.size w w1) => fail_any p S d s 9 (by decide) w1 (h.below hb))
 have MV := Lib.hid (fun w1 (hb : Below w.heap.size w w1) => Mvr.of hb h.lt)
 clear h hq
 go_enter Tryz.func115, Tryz.ntmps115
 go_wp2_with (first
  | (go_at_call 32; (with_reducible refine ke.mono ?_); rintro e w1 ⟨rfl, b1⟩; have k2 := kf.out w1 b1; have M1 := Lib.hid (MV.out w1 b1); clear b1 ke)
  | (go_at_call 16; (with_reducible refine k2.mono ?_); rintro e w2 ⟨rfl, h2, m2⟩; have F := Lib.hid (And.intro h2 (M1.out.trans m2)); clear h2 m2 k2))
 go_ret
 exact ⟨rfl, F.out⟩
set_option maxHeartbeats 2000000 in
set_option maxRecDepth 20000 in
theorem name_none (p : Nat) (S : ByteArray) (d : Nat) (c : UInt8) (r : List UInt8) (w : World) (h : TS p S d (.at (c :: r)) w) (hS : S.size ≤ 1048576) (hn : nameS (c :: r) = []) :
  Calls Tryz.prog 115 #[.pointer (some ⟨p, 0, none⟩)] w fun x w' => x = .returned (.string ⟨#[]⟩) ∧ TS p S d (.bad 9) w' ∧ Mvr p w w' := by
 have ke := end_any p S d (.at (c :: r)) w h hS
 have hq : (Sx.at (c :: r)).end = false := rfl
 rw [hq] at ke
 obtain ⟨a, hal, hdr, hT, -⟩ := h.hop hS
 have kn := Lib.hid (fun w1 (hb : Below w.heap.size w w1) => (by
  have k := namedF_any p S a d 0 a w1 (hT.below hb) (by omega) hS
  rw [hdr, hn] at k
  exact k : Calls Tryz.prog 145 #[.pointer (some ⟨p, 0, none⟩), .int .i64 (a : Int)] w1 fun e w' => e = .returned (.int .i64 0) ∧ w1 = w'))
 have kf := Lib.hid (fun w1 (hb : Below w.heap.size w w1) => (⟨(hT.below hb).cells.1.2.1, fail_at p S d (c :: r) 9 (by decide) w1 (h.below hb)⟩ : _ ∧ _))
 have MV := Lib.hid (fun w1 (hb : Below w.heap.size w w1) => Mvr.of hb h.lt)
 have CE := Lib.hid (fun w2 (h2 : TS p S d (.bad 9) w2) (_ : Mvr p w w2) => (by
  obtain ⟨_, a2, h2, _⟩ := h2
  exact ⟨a2, h2.cells.1.1, h2.cells.1.2.1, h2.cells.2.1, by assumption, by
   have h3 : (S.extract a2 a2).size = 0 := by simp []
   exact ByteArray.ext (Array.eq_empty_of_size_eq_zero (by rw [← ByteArray.size_data] at h3; exact h3)), h2.at a2⟩ : ∃ a2 : Nat, w2.cell? ⟨p, 0, none⟩ = some (.string S) ∧ w2.cell? ⟨p, 1, none⟩ = some (.int .i64 (a2 : Int)) ∧ w2.frozen? ⟨p, 1, none⟩ = false ∧ a2 ≤ S.size ∧ S.extract a2 a2 = ⟨#[]⟩ ∧ TR p S a2 d 9 (w2.setCell ⟨p, 1, none⟩ (.int .i64 (a2 : Int)))))
 clear h hq hdr hT hal
 go_enter Tryz.func115, Tryz.ntmps115
 go_wp2_with (first
  | (go_at_call 32; (with_reducible refine ke.mono ?_); rintro e w1 ⟨rfl, b1⟩; have k2 := kn.out w1 b1; obtain ⟨g1, k3⟩ := kf.out w1 b1; have M1 := Lib.hid (MV.out w1 b1); clear b1 ke)
  | (go_at_call 145; (with_reducible refine k2.mono ?_); rintro e w2 ⟨rfl, rfl⟩; clear k2)
  | (go_at_call 16; (with_reducible refine k3.mono ?_); rintro e w2 ⟨rfl, h2, m2⟩; obtain ⟨a2, d0, d1, d2, d3, d4, d5⟩ := CE.out _ h2 (M1.out.trans m2); have F := Lib.hid (And.intro d5 (M1.out.trans m2)); clear h2 m2 k3 d5 g1))
 have hw0 : IntKind.i64.wrap ((a2 : Int) + 0) = (a2 : Int) := by rw [Int.add_zero]; exact IntWalk.i64_in _ (by omega)
 have hd3 : (a2 : Int) ≤ (S.size : Int) := by omega
 go_quiet (fail)
 go_wp2
 go_ret
 refine ⟨rfl, ⟨by decide, a2, ?_, by omega⟩, ?_⟩
 ·exact (F.out.1)
 ·exact (F.out.2.draws _).trans (Mvr.set p _ _ _)
set_option maxHeartbeats 2000000 in
set_option maxRecDepth 20000 in
theorem name_some (p : Nat) (S : ByteArray) (d : Nat) (c : UInt8) (r : List UInt8) (w : World) (h : TS p S d (.at (c :: r)) w) (hS : S.size ≤ 1048576) (hn : nameS (c :: r) ≠ []) :
  Calls Tryz.prog 115 #[.pointer (some ⟨p, 0, none⟩)] w fun x w' => x = .returned (.string ⟨(nameS (c :: r)).toArray⟩) ∧ TS p S d (.at ((c :: r).drop (nameS (c :: r)).length)) w' ∧ Mvr p w w' := by
 have ke := end_any p S d (.at (c :: r)) w h hS
 have hq : (Sx.at (c :: r)).end = false := rfl
 rw [hq] at ke
 obtain ⟨a, hal, hdr, hT, hhop⟩ := h.hop hS
 have hnl := nameS_lenF (c :: r)
 obtain ⟨hwr, hst⟩ := hhop _ hnl
 have hex := extract_arr S a (nameS (c :: r)).length
 rw [hdr, nameS_pre] at hex
 have hpos := List.length_pos_iff.2 hn
 have kn := Lib.hid (fun w1 (hb : Below w.heap.size w w1) => (by
  have k := namedF_any p S a d 0 a w1 (hT.below hb) (by omega) hS
  rw [hdr] at k
  exact k : Calls Tryz.prog 145 #[.pointer (some ⟨p, 0, none⟩), .int .i64 (a : Int)] w1 fun e w' => e = .returned (.int .i64 (((nameS (c :: r)).length : Nat) : Int)) ∧ w1 = w'))
 generalize (c :: r).drop (nameS (c :: r)).length = Y at *
 obtain ⟨V, hV⟩ : ∃ V : ByteArray, V = ⟨(nameS (c :: r)).toArray⟩ := ⟨_, rfl⟩
 rw [← hV] at hex ⊢
 obtain ⟨n, hnn⟩ : ∃ n, n = (nameS (c :: r)).length := ⟨_, rfl⟩
 rw [← hnn] at hnl hwr hst hex hpos kn
 have hcr := hal
 have ST := Lib.hid hst
 have hle : (a : Int) ≤ (a : Int) + (n : Int) := by omega
 have hle2 : (a : Int) + (n : Int) ≤ (S.size : Int) := by omega
 have hto : ((a : Int) + (n : Int)).toNat = a + n := by omega
 have hne : ((n : Int) == 0) = false := by rw [beq_eq_false_iff_ne]; omega
 have HEX := Lib.hid hex
 clear h hq hdr hT hal hhop hst hn hV hnn hcr hpos hnl hex
 go_enter Tryz.func115, Tryz.ntmps115
 go_wp2_with (first
  | (go_at_call 32; (with_reducible refine ke.mono ?_); rintro e w1 ⟨rfl, b1⟩; have k2 := kn.out w1 b1; obtain ⟨g0, g1, g2, g3, g4⟩ := ST.out w1 b1; have B1 := Lib.hid b1; clear b1 ke g3 g4)
  | (go_at_call 145; (with_reducible refine k2.mono ?_); rintro e w2 ⟨rfl, rfl⟩; clear k2))
 go_quiet (fail)
 obtain ⟨g0', g1', g2', g3, g4⟩ := ST.out (w1.drewN _) (below_draws B1.out _)
 have F := Lib.hid (And.intro g3 g4)
 clear g3 g4
 go_wp2
 go_ret
 exact ⟨by rw [HEX.out]; rfl, F.out⟩
theorem nameF_any (p : Nat) (S : ByteArray) (d : Nat) (s : Sx) (w : World) (h : TS p S d s w) (hS : S.size ≤ 1048576) :
  Calls Tryz.prog 115 #[.pointer (some ⟨p, 0, none⟩)] w fun x w' => AnsTF (s.run nameR) x ∧ TS p S d (s.run nameR).sx w' ∧ Mvr p w w' := by
 have ended : s.end = true → s.fail 9 = (s.run nameR).sx → (∀ y r, s.run nameR ≠ .ok y r) → Calls Tryz.prog 115 #[.pointer (some ⟨p, 0, none⟩)] w fun x w' => AnsTF (s.run nameR) x ∧ TS p S d (s.run nameR).sx w' ∧ Mvr p w w' := by
  intro h1 h2 h3
  refine (name_ended p S d s w h hS h1).mono ?_
  rintro e w' ⟨rfl, h4, h5⟩
  exact ⟨⟨[], rfl, fun y r h => absurd h (h3 y r)⟩, by rw [← h2]; exact h4, h5⟩
 cases s with
 | bad b => exact ended rfl rfl (fun y r h => by cases h)
 | «at» l =>
  cases l with
  | nil => exact ended rfl rfl (fun y r h => by cases h)
  | cons c r =>
   clear ended
   have e0 : (Sx.at (c :: r)).run nameR = if nameS (c :: r) = [] then .bad 9 else .ok (nameS (c :: r)) ((c :: r).drop (nameS (c :: r)).length) := rfl
   by_cases hn : nameS (c :: r) = []
   ·rw [if_pos hn] at e0
    rw [e0]
    refine (name_none p S d c r w h hS hn).mono ?_
    rintro e w' ⟨rfl, h4, h5⟩
    exact ⟨⟨[], rfl, fun y r h => by cases h⟩, h4, h5⟩
   ·rw [if_neg hn] at e0
    rw [e0]
    refine (name_some p S d c r w h hS hn).mono ?_
    rintro e w' ⟨rfl, h4, h5⟩
    exact ⟨⟨_, rfl, fun y r h => by cases h; rfl⟩, h4, h5⟩
end Go.Proofs.YtelfgobjnibooaaGreatDoor
namespace Go.Proofs.YtelfgobjnibooaaGreatDoor
open Go.RowKit Go.Lib
theorem idxR {S : ByteArray} {a k : Nat} {l : List UInt8} {c : UInt8} (hl : S.data.toList.drop a = l) (hk : l[k]? = some c) : ∃ h : a + k < S.size, S[a + k] = c := by
 have h1 : S.data.toList[a + k]? = some c := by rw [← hk, ← hl, List.getElem?_drop]
 have h2 := (List.getElem?_eq_some_iff.1 h1)
 obtain ⟨h3, h4⟩ := h2
 have h5 : a + k < S.size := by rw [Array.length_toList] at h3; exact h3
 exact ⟨h5, h4⟩
theorem run_mem {of : List UInt8} : ∀ {l : List UInt8} {c : UInt8}, c ∈ runS of l → of.contains c = false
 | [], c, h => by cases h
 | d :: l, c, h => by
  cases hd : of.contains d with
  | true => rw [(run_stop hd l).1] at h; cases h
  | false =>
   rw [(run_next hd l).1] at h
   rcases List.mem_cons.1 h with rfl | h
   ·exact hd
   ·exact run_mem h
def keyX : Sx → List UInt8
 | .at l => if shKeys.contains (keyS l) then keyS l else []
 | .bad _ => []
set_option maxHeartbeats 1000000 in
theorem key_bad (p : Nat) (S : ByteArray) (d : Nat) (b : Int) (w : World) (h : TS p S d (.bad b) w) :
  Calls Tryz.prog 34 #[.pointer (some ⟨p, 0, none⟩)] w fun x w' => x = .returned (.string ⟨#[]⟩) ∧ Below w.heap.size w w' := by
 obtain ⟨hb, a, h, ha⟩ := h
 obtain ⟨⟨c0, c1, c2, c3⟩, f1, f2, f3⟩ := h.cells
 have hb2 : (b != 0) = true := by simp [hb]
 have HB := Lib.hid (Below.refl w.heap.size w)
 clear h
 go_enter Tryz.func34, Tryz.ntmps34
 go_wp2
 go_ret
 exact ⟨rfl, HB.out⟩
set_option maxHeartbeats 4000000 in
set_option maxRecDepth 20000 in
theorem key_at (p : Nat) (S : ByteArray) (d : Nat) (l : List UInt8) (w : World) (h : TS p S d (.at l) w) (hS : S.size ≤ 1048576) :
  Calls Tryz.prog 34 #[.pointer (some ⟨p, 0, none⟩)] w fun x w' => x = .returned (.string ⟨(keyX (.at l)).toArray⟩) ∧ Below w.heap.size w w' := by
 obtain ⟨a, hal, hdr, h, -⟩ := h.hop hS
 obtain ⟨⟨c0, c1, c2, c3⟩, f1, f2, f3⟩ := h.cells
 have HB := Lib.hid (Below.refl w.heap.size w)
 obtain ⟨R, hR⟩ : ∃ R, runS shMarks l = R := ⟨_, rfl⟩
 obtain ⟨Q, hQ⟩ : ∃ Q, pastS shMarks l = Q := ⟨_, rfl⟩
 have hRQ := run_past shMarks l
 rw [hR, hQ] at hRQ
 obtain ⟨N, hN⟩ : ∃ N, R.length = N := ⟨_, rfl⟩
 have hlen : l.length = N + Q.length := by rw [← hRQ, List.length_append, hN]
 have IN := Lib.hid (fun k (hk : k < N) => (by
  obtain ⟨c, hc⟩ : ∃ c, R[k]? = some c := ⟨R[k]'(by omega), List.getElem?_eq_getElem _⟩
  obtain ⟨h1, h2⟩ := idxR (k := k) hdr (by rw [← hRQ, List.getElem?_append_left (by omega)]; exact hc)
  refine ⟨h1, ?_⟩
  have hm : c ∈ runS shMarks l := by rw [hR]; exact List.mem_of_getElem? hc
  rw [h2]
  exact run_mem hm : ∃ h : a + k < S.size, shMarks.contains S[a + k] = false))
 have KP := Lib.hid (fun (c : UInt8) (w : World) => plain_any c w)
 have KI := Lib.hid (fun (c : UInt8) (w : World) => in_any ⟨#[39, 34, 36, 92]⟩ c w (by decide))
 have hex := extract_arr S a N
 have hRt : l.take N = R := by rw [← hRQ, ← hN, List.take_left]
 rw [hdr, hRt] at hex
 have HKEY : Hid (keyX (.at l) = if atS shOpens Q then [] else if shKeys.contains R then R else []) := by
  show (if shKeys.contains (keyS l) then keyS l else []) = _
  unfold keyS
  rw [hR, hQ]
  split
  ·rfl
  ·rfl
 obtain ⟨K, hK⟩ : ∃ K, keyX (.at l) = K := ⟨_, rfl⟩
 rw [hK] at HKEY ⊢
 have EX := Lib.hid hex
 have HPAST : Hid (Q.length = 0 ∨ ∃ c q, Q = c :: q ∧ shMarks.contains c = true ∧ ∃ h : a + N < S.size, S[a + N] = c) := by
  rcases past_at shMarks l with hp | ⟨c, q, hp, hc⟩
  ·exact .inl (by rw [← hQ, hp]; rfl)
  ·rw [hQ] at hp
   obtain ⟨h1, h2⟩ := idxR (k := N) hdr (show l[N]? = some c by rw [← hRQ, hp, List.getElem?_append_right (by omega), hN, Nat.sub_self]; rfl)
   exact .inr ⟨c, q, hp, hc, h1, h2⟩
 clear hK hdr h hR hQ hRt hex
 go_enter Tryz.func34, Tryz.ntmps34
 go_upto_block 0 with fail
 go_cut [3] (fun s3 wx => s3 = .int .i64 ((a + N : Nat) : Int) ∧ w = wx)
 case first =>
  go_wp2_with fail
  go_loop [3] (fun i => ∃ k : Nat, k ≤ N ∧ i = .int .i64 ((a + k : Nat) : Int)) (fun i => a + N + 1 - (RowKit.intOf i).toNat)
  case atStart => exact ⟨0, Nat.zero_le _, rfl⟩
  case round =>
   obtain ⟨k, hk, rfl⟩ := hrel
   obtain ⟨m, hm⟩ : ∃ m, a + k = m := ⟨_, rfl⟩
   rw [hm]
   have hwm : IntKind.i64.wrap ((m : Int) + 1) = ((m + 1 : Nat) : Int) := by rw [IntWalk.i64_in _ (by omega)]; omega
   by_cases hlt : k < N
   ·obtain ⟨h1, h2⟩ := IN.out k hlt
    subst hm
    have hltI : ((a + k : Nat) : Int) < (S.size : Int) := by omega
    have kp := KP.out S[a + k]
    rw [h2] at kp
    clear h2
    go_wp2_with (go_at_call 51; (with_reducible refine (kp _).mono ?_); rintro e w1 ⟨rfl, rfl⟩)
    go_round
    case measure => show a + N + 1 - (a + k + 1) < a + N + 1 - (a + k); omega
    case rel => exact ⟨k + 1, by omega, rfl⟩
   ·obtain rfl : k = N := by omega
    subst hm
    rcases HPAST.out with hQ0 | ⟨c, q, hc, hin, h1, h2⟩
    ·have hge : ¬ ((a + k : Nat) : Int) < (S.size : Int) := by omega
     have hge2 : ¬ (a + k < S.size) := by omega
     go_wp2
     go_meet
     case rel => exact ⟨rfl, rfl⟩
    ·have hltI : ((a + k : Nat) : Int) < (S.size : Int) := by omega
     have kp := KP.out S[a + k]
     rw [h2, hin] at kp
     rw [← h2] at kp
     clear h2
     go_wp2_with (go_at_call 51; (with_reducible refine (kp _).mono ?_); rintro e w1 ⟨rfl, rfl⟩)
     go_meet
     case rel => exact ⟨rfl, rfl⟩
 case rest =>
  obtain ⟨rfl, rfl⟩ := hcut
  have EL : Hid ((S.extract a (a + N)).toList = R) := by show _ = _; rw [EX.out, ByteArray.toList_eq]
  have hle : (a : Int) ≤ ((a + N : Nat) : Int) := by omega
  have hle2 : ((a + N : Nat) : Int) ≤ (S.size : Int) := by omega
  have COMP : Hid (atS shOpens Q = false → (R ∈ shKeys ∧ K = R) ∨ (R ∉ shKeys ∧ K = [])) := fun h => by
   rw [HKEY.out, h]
   by_cases hm : R ∈ shKeys
   ·exact .inl ⟨hm, by simp [hm]⟩
   ·exact .inr ⟨hm, by simp [hm]⟩
  by_cases hop : atS shOpens Q = true
  ·have hK0 : K = [] := by rw [HKEY.out, hop]; rfl
   subst hK0
   rcases HPAST.out with hQ0 | ⟨c, q, rfl, hin, h1, h2⟩
   ·rw [List.eq_nil_of_length_eq_zero hQ0] at hop; cases hop
   ·have hltI : ((a + N : Nat) : Int) < (S.size : Int) := by omega
    have ki := KI.out S[a + N]
    have e1 : (⟨#[39, 34, 36, 92]⟩ : ByteArray).data.toList.contains c = true := hop
    rw [h2, e1] at ki
    rw [← h2] at ki
    clear h2 HKEY COMP EL EX
    go_wp2_with (go_at_call 52; (with_reducible refine (ki _).mono ?_); rintro e w1 ⟨rfl, rfl⟩)
    go_ret
    exact ⟨rfl, HB.out⟩
  ·have hop : atS shOpens Q = false := by simpa using hop
   have hcomp := COMP.out hop
   have HE : Hid (((a + N : Nat) : Int).toNat = a + N) := rfl
   rcases HPAST.out with hQ0 | ⟨c, q, rfl, hin, h1, h2⟩
   ·have hge : ¬ ((a + N : Nat) : Int) < (S.size : Int) := by omega
    have hge2 : ¬ (a + N < S.size) := by omega
    clear HKEY COMP HPAST hop
    rcases hcomp with ⟨hm, rfl⟩ | ⟨hm, rfl⟩
    ·have hm2 : K = [105, 102] ∨ K = [116, 104, 101, 110] ∨ K = [101, 108, 115, 101] ∨ K = [102, 105] ∨ K = [119, 104, 105, 108, 101] ∨ K = [100, 111] ∨ K = [100, 111, 110, 101] ∨ K = [102, 111, 114] ∨ K = [105, 110] := by simpa [shKeys] using hm
     clear hm
     rcases hm2 with rfl | rfl | rfl | rfl | rfl | rfl | rfl | rfl | rfl
     ·
      have q0 : ((S.extract a (a + N)).toList == [105, 102]) = true := by rw [EL.out]; rfl
      go_wp2_with (fail)
      go_quiet (fail)
      go_wp2
      go_ret
      exact ⟨by rw [EX.out]; rfl, below_draws HB.out _⟩
     ·
      have q0 : ((S.extract a (a + N)).toList == [105, 102]) = false := by rw [EL.out]; rfl
      have q1 : ((S.extract a (a + N)).toList == [116, 104, 101, 110]) = true := by rw [EL.out]; rfl
      go_wp2_with (fail)
      go_quiet (fail)
      go_wp2
      go_ret
      exact ⟨by rw [EX.out]; rfl, below_draws HB.out _⟩
     ·
      have q0 : ((S.extract a (a + N)).toList == [105, 102]) = false := by rw [EL.out]; rfl
      have q1 : ((S.extract a (a + N)).toList == [116, 104, 101, 110]) = false := by rw [EL.out]; rfl
      have q2 : ((S.extract a (a + N)).toList == [101, 108, 115, 101]) = true := by rw [EL.out]; rfl
      go_wp2_with (fail)
      go_quiet (fail)
      go_wp2
      go_ret
      exact ⟨by rw [EX.out]; rfl, below_draws HB.out _⟩
     ·
      have q0 : ((S.extract a (a + N)).toList == [105, 102]) = false := by rw [EL.out]; rfl
      have q1 : ((S.extract a (a + N)).toList == [116, 104, 101, 110]) = false := by rw [EL.out]; rfl
      have q2 : ((S.extract a (a + N)).toList == [101, 108, 115, 101]) = false := by rw [EL.out]; rfl
      have q3 : ((S.extract a (a + N)).toList == [102, 105]) = true := by rw [EL.out]; rfl
      go_wp2_with (fail)
      go_quiet (fail)
      go_wp2
      go_ret
      exact ⟨by rw [EX.out]; rfl, below_draws HB.out _⟩
     ·
      have q0 : ((S.extract a (a + N)).toList == [105, 102]) = false := by rw [EL.out]; rfl
      have q1 : ((S.extract a (a + N)).toList == [116, 104, 101, 110]) = false := by rw [EL.out]; rfl
      have q2 : ((S.extract a (a + N)).toList == [101, 108, 115, 101]) = false := by rw [EL.out]; rfl
      have q3 : ((S.extract a (a + N)).toList == [102, 105]) = false := by rw [EL.out]; rfl
      have q4 : ((S.extract a (a + N)).toList == [119, 104, 105, 108, 101]) = true := by rw [EL.out]; rfl
      go_wp2_with (fail)
      go_quiet (fail)
      go_wp2
      go_ret
      exact ⟨by rw [EX.out]; rfl, below_draws HB.out _⟩
     ·
      have q0 : ((S.extract a (a + N)).toList == [105, 102]) = false := by rw [EL.out]; rfl
      have q1 : ((S.extract a (a + N)).toList == [116, 104, 101, 110]) = false := by rw [EL.out]; rfl
      have q2 : ((S.extract a (a + N)).toList == [101, 108, 115, 101]) = false := by rw [EL.out]; rfl
      have q3 : ((S.extract a (a + N)).toList == [102, 105]) = false := by rw [EL.out]; rfl
      have q4 : ((S.extract a (a + N)).toList == [119, 104, 105, 108, 101]) = false := by rw [EL.out]; rfl
      have q5 : ((S.extract a (a + N)).toList == [100, 111]) = true := by rw [EL.out]; rfl
      go_wp2_with (fail)
      go_quiet (fail)
      go_wp2
      go_ret
      exact ⟨by rw [EX.out]; rfl, below_draws HB.out _⟩
     ·
      have q0 : ((S.extract a (a + N)).toList == [105, 102]) = false := by rw [EL.out]; rfl
      have q1 : ((S.extract a (a + N)).toList == [116, 104, 101, 110]) = false := by rw [EL.out]; rfl
      have q2 : ((S.extract a (a + N)).toList == [101, 108, 115, 101]) = false := by rw [EL.out]; rfl
      have q3 : ((S.extract a (a + N)).toList == [102, 105]) = false := by rw [EL.out]; rfl
      have q4 : ((S.extract a (a + N)).toList == [119, 104, 105, 108, 101]) = false := by rw [EL.out]; rfl
      have q5 : ((S.extract a (a + N)).toList == [100, 111]) = false := by rw [EL.out]; rfl
      have q6 : ((S.extract a (a + N)).toList == [100, 111, 110, 101]) = true := by rw [EL.out]; rfl
      go_wp2_with (fail)
      go_quiet (fail)
      go_wp2
      go_ret
      exact ⟨by rw [EX.out]; rfl, below_draws HB.out _⟩
     ·
      have q0 : ((S.extract a (a + N)).toList == [105, 102]) = false := by rw [EL.out]; rfl
      have q1 : ((S.extract a (a + N)).toList == [116, 104, 101, 110]) = false := by rw [EL.out]; rfl
      have q2 : ((S.extract a (a + N)).toList == [101, 108, 115, 101]) = false := by rw [EL.out]; rfl
      have q3 : ((S.extract a (a + N)).toList == [102, 105]) = false := by rw [EL.out]; rfl
      have q4 : ((S.extract a (a + N)).toList == [119, 104, 105, 108, 101]) = false := by rw [EL.out]; rfl
      have q5 : ((S.extract a (a + N)).toList == [100, 111]) = false := by rw [EL.out]; rfl
      have q6 : ((S.extract a (a + N)).toList == [100, 111, 110, 101]) = false := by rw [EL.out]; rfl
      have q7 : ((S.extract a (a + N)).toList == [102, 111, 114]) = true := by rw [EL.out]; rfl
      go_wp2_with (fail)
      go_quiet (fail)
      go_wp2
      go_ret
      exact ⟨by rw [EX.out]; rfl, below_draws HB.out _⟩
     ·
      have q0 : ((S.extract a (a + N)).toList == [105, 102]) = false := by rw [EL.out]; rfl
      have q1 : ((S.extract a (a + N)).toList == [116, 104, 101, 110]) = false := by rw [EL.out]; rfl
      have q2 : ((S.extract a (a + N)).toList == [101, 108, 115, 101]) = false := by rw [EL.out]; rfl
      have q3 : ((S.extract a (a + N)).toList == [102, 105]) = false := by rw [EL.out]; rfl
      have q4 : ((S.extract a (a + N)).toList == [119, 104, 105, 108, 101]) = false := by rw [EL.out]; rfl
      have q5 : ((S.extract a (a + N)).toList == [100, 111]) = false := by rw [EL.out]; rfl
      have q6 : ((S.extract a (a + N)).toList == [100, 111, 110, 101]) = false := by rw [EL.out]; rfl
      have q7 : ((S.extract a (a + N)).toList == [102, 111, 114]) = false := by rw [EL.out]; rfl
      have q8 : ((S.extract a (a + N)).toList == [105, 110]) = true := by rw [EL.out]; rfl
      go_wp2_with (fail)
      go_quiet (fail)
      go_wp2
      go_ret
      exact ⟨by rw [EX.out]; rfl, below_draws HB.out _⟩
    ·have hm2 : (R == [105, 102]) = false ∧ (R == [116, 104, 101, 110]) = false ∧ (R == [101, 108, 115, 101]) = false ∧ (R == [102, 105]) = false ∧ (R == [119, 104, 105, 108, 101]) = false ∧ (R == [100, 111]) = false ∧ (R == [100, 111, 110, 101]) = false ∧ (R == [102, 111, 114]) = false ∧ (R == [105, 110]) = false := by simpa [shKeys] using hm
     clear hm
     obtain ⟨m0, m1, m2, m3, m4, m5, m6, m7, m8⟩ := hm2
     have q0 : ((S.extract a (a + N)).toList == [105, 102]) = false := by rw [EL.out]; exact m0
     have q1 : ((S.extract a (a + N)).toList == [116, 104, 101, 110]) = false := by rw [EL.out]; exact m1
     have q2 : ((S.extract a (a + N)).toList == [101, 108, 115, 101]) = false := by rw [EL.out]; exact m2
     have q3 : ((S.extract a (a + N)).toList == [102, 105]) = false := by rw [EL.out]; exact m3
     have q4 : ((S.extract a (a + N)).toList == [119, 104, 105, 108, 101]) = false := by rw [EL.out]; exact m4
     have q5 : ((S.extract a (a + N)).toList == [100, 111]) = false := by rw [EL.out]; exact m5
     have q6 : ((S.extract a (a + N)).toList == [100, 111, 110, 101]) = false := by rw [EL.out]; exact m6
     have q7 : ((S.extract a (a + N)).toList == [102, 111, 114]) = false := by rw [EL.out]; exact m7
     have q8 : ((S.extract a (a + N)).toList == [105, 110]) = false := by rw [EL.out]; exact m8
     clear m0 m1 m2 m3 m4 m5 m6 m7 m8
     go_wp2_with (fail)
     go_quiet (fail)
     go_wp2
     go_ret
     exact ⟨rfl, below_draws HB.out _⟩
   ·have hltI : ((a + N : Nat) : Int) < (S.size : Int) := by omega
    have ki := KI.out S[a + N]
    have e1 : (⟨#[39, 34, 36, 92]⟩ : ByteArray).data.toList.contains c = false := hop
    rw [h2, e1] at ki
    rw [← h2] at ki
    clear h2 HKEY COMP HPAST hop
    rcases hcomp with ⟨hm, rfl⟩ | ⟨hm, rfl⟩
    ·have hm2 : K = [105, 102] ∨ K = [116, 104, 101, 110] ∨ K = [101, 108, 115, 101] ∨ K = [102, 105] ∨ K = [119, 104, 105, 108, 101] ∨ K = [100, 111] ∨ K = [100, 111, 110, 101] ∨ K = [102, 111, 114] ∨ K = [105, 110] := by simpa [shKeys] using hm
     clear hm
     rcases hm2 with rfl | rfl | rfl | rfl | rfl | rfl | rfl | rfl | rfl
     ·
      have q0 : ((S.extract a (a + N)).toList == [105, 102]) = true := by rw [EL.out]; rfl
      go_wp2_with (go_at_call 52; (with_reducible refine (ki _).mono ?_); rintro e w1 ⟨rfl, rfl⟩)
      go_quiet (fail)
      go_wp2
      go_ret
      exact ⟨by rw [EX.out]; rfl, below_draws HB.out _⟩
     ·
      have q0 : ((S.extract a (a + N)).toList == [105, 102]) = false := by rw [EL.out]; rfl
      have q1 : ((S.extract a (a + N)).toList == [116, 104, 101, 110]) = true := by rw [EL.out]; rfl
      go_wp2_with (go_at_call 52; (with_reducible refine (ki _).mono ?_); rintro e w1 ⟨rfl, rfl⟩)
      go_quiet (fail)
      go_wp2
      go_ret
      exact ⟨by rw [EX.out]; rfl, below_draws HB.out _⟩
     ·
      have q0 : ((S.extract a (a + N)).toList == [105, 102]) = false := by rw [EL.out]; rfl
      have q1 : ((S.extract a (a + N)).toList == [116, 104, 101, 110]) = false := by rw [EL.out]; rfl
      have q2 : ((S.extract a (a + N)).toList == [101, 108, 115, 101]) = true := by rw [EL.out]; rfl
      go_wp2_with (go_at_call 52; (with_reducible refine (ki _).mono ?_); rintro e w1 ⟨rfl, rfl⟩)
      go_quiet (fail)
      go_wp2
      go_ret
      exact ⟨by rw [EX.out]; rfl, below_draws HB.out _⟩
     ·
      have q0 : ((S.extract a (a + N)).toList == [105, 102]) = false := by rw [EL.out]; rfl
      have q1 : ((S.extract a (a + N)).toList == [116, 104, 101, 110]) = false := by rw [EL.out]; rfl
      have q2 : ((S.extract a (a + N)).toList == [101, 108, 115, 101]) = false := by rw [EL.out]; rfl
      have q3 : ((S.extract a (a + N)).toList == [102, 105]) = true := by rw [EL.out]; rfl
      go_wp2_with (go_at_call 52; (with_reducible refine (ki _).mono ?_); rintro e w1 ⟨rfl, rfl⟩)
      go_quiet (fail)
      go_wp2
      go_ret
      exact ⟨by rw [EX.out]; rfl, below_draws HB.out _⟩
     ·
      have q0 : ((S.extract a (a + N)).toList == [105, 102]) = false := by rw [EL.out]; rfl
      have q1 : ((S.extract a (a + N)).toList == [116, 104, 101, 110]) = false := by rw [EL.out]; rfl
      have q2 : ((S.extract a (a + N)).toList == [101, 108, 115, 101]) = false := by rw [EL.out]; rfl
      have q3 : ((S.extract a (a + N)).toList == [102, 105]) = false := by rw [EL.out]; rfl
      have q4 : ((S.extract a (a + N)).toList == [119, 104, 105, 108, 101]) = true := by rw [EL.out]; rfl
      go_wp2_with (go_at_call 52; (with_reducible refine (ki _).mono ?_); rintro e w1 ⟨rfl, rfl⟩)
      go_quiet (fail)
      go_wp2
      go_ret
      exact ⟨by rw [EX.out]; rfl, below_draws HB.out _⟩
     ·
      have q0 : ((S.extract a (a + N)).toList == [105, 102]) = false := by rw [EL.out]; rfl
      have q1 : ((S.extract a (a + N)).toList == [116, 104, 101, 110]) = false := by rw [EL.out]; rfl
      have q2 : ((S.extract a (a + N)).toList == [101, 108, 115, 101]) = false := by rw [EL.out]; rfl
      have q3 : ((S.extract a (a + N)).toList == [102, 105]) = false := by rw [EL.out]; rfl
      have q4 : ((S.extract a (a + N)).toList == [119, 104, 105, 108, 101]) = false := by rw [EL.out]; rfl
      have q5 : ((S.extract a (a + N)).toList == [100, 111]) = true := by rw [EL.out]; rfl
      go_wp2_with (go_at_call 52; (with_reducible refine (ki _).mono ?_); rintro e w1 ⟨rfl, rfl⟩)
      go_quiet (fail)
      go_wp2
      go_ret
      exact ⟨by rw [EX.out]; rfl, below_draws HB.out _⟩
     ·
      have q0 : ((S.extract a (a + N)).toList == [105, 102]) = false := by rw [EL.out]; rfl
      have q1 : ((S.extract a (a + N)).toList == [116, 104, 101, 110]) = false := by rw [EL.out]; rfl
      have q2 : ((S.extract a (a + N)).toList == [101, 108, 115, 101]) = false := by rw [EL.out]; rfl
      have q3 : ((S.extract a (a + N)).toList == [102, 105]) = false := by rw [EL.out]; rfl
      have q4 : ((S.extract a (a + N)).toList == [119, 104, 105, 108, 101]) = false := by rw [EL.out]; rfl
      have q5 : ((S.extract a (a + N)).toList == [100, 111]) = false := by rw [EL.out]; rfl
      have q6 : ((S.extract a (a + N)).toList == [100, 111, 110, 101]) = true := by rw [EL.out]; rfl
      go_wp2_with (go_at_call 52; (with_reducible refine (ki _).mono ?_); rintro e w1 ⟨rfl, rfl⟩)
      go_quiet (fail)
      go_wp2
      go_ret
      exact ⟨by rw [EX.out]; rfl, below_draws HB.out _⟩
     ·
      have q0 : ((S.extract a (a + N)).toList == [105, 102]) = false := by rw [EL.out]; rfl
      have q1 : ((S.extract a (a + N)).toList == [116, 104, 101, 110]) = false := by rw [EL.out]; rfl
      have q2 : ((S.extract a (a + N)).toList == [101, 108, 115, 101]) = false := by rw [EL.out]; rfl
      have q3 : ((S.extract a (a + N)).toList == [102, 105]) = false := by rw [EL.out]; rfl
      have q4 : ((S.extract a (a + N)).toList == [119, 104, 105, 108, 101]) = false := by rw [EL.out]; rfl
      have q5 : ((S.extract a (a + N)).toList == [100, 111]) = false := by rw [EL.out]; rfl
      have q6 : ((S.extract a (a + N)).toList == [100, 111, 110, 101]) = false := by rw [EL.out]; rfl
      have q7 : ((S.extract a (a + N)).toList == [102, 111, 114]) = true := by rw [EL.out]; rfl
      go_wp2_with (go_at_call 52; (with_reducible refine (ki _).mono ?_); rintro e w1 ⟨rfl, rfl⟩)
      go_quiet (fail)
      go_wp2
      go_ret
      exact ⟨by rw [EX.out]; rfl, below_draws HB.out _⟩
     ·
      have q0 : ((S.extract a (a + N)).toList == [105, 102]) = false := by rw [EL.out]; rfl
      have q1 : ((S.extract a (a + N)).toList == [116, 104, 101, 110]) = false := by rw [EL.out]; rfl
      have q2 : ((S.extract a (a + N)).toList == [101, 108, 115, 101]) = false := by rw [EL.out]; rfl
      have q3 : ((S.extract a (a + N)).toList == [102, 105]) = false := by rw [EL.out]; rfl
      have q4 : ((S.extract a (a + N)).toList == [119, 104, 105, 108, 101]) = false := by rw [EL.out]; rfl
      have q5 : ((S.extract a (a + N)).toList == [100, 111]) = false := by rw [EL.out]; rfl
      have q6 : ((S.extract a (a + N)).toList == [100, 111, 110, 101]) = false := by rw [EL.out]; rfl
      have q7 : ((S.extract a (a + N)).toList == [102, 111, 114]) = false := by rw [EL.out]; rfl
      have q8 : ((S.extract a (a + N)).toList == [105, 110]) = true := by rw [EL.out]; rfl
      go_wp2_with (go_at_call 52; (with_reducible refine (ki _).mono ?_); rintro e w1 ⟨rfl, rfl⟩)
      go_quiet (fail)
      go_wp2
      go_ret
      exact ⟨by rw [EX.out]; rfl, below_draws HB.out _⟩
    ·have hm2 : (R == [105, 102]) = false ∧ (R == [116, 104, 101, 110]) = false ∧ (R == [101, 108, 115, 101]) = false ∧ (R == [102, 105]) = false ∧ (R == [119, 104, 105, 108, 101]) = false ∧ (R == [100, 111]) = false ∧ (R == [100, 111, 110, 101]) = false ∧ (R == [102, 111, 114]) = false ∧ (R == [105, 110]) = false := by simpa [shKeys] using hm
     clear hm
     obtain ⟨m0, m1, m2, m3, m4, m5, m6, m7, m8⟩ := hm2
     have q0 : ((S.extract a (a + N)).toList == [105, 102]) = false := by rw [EL.out]; exact m0
     have q1 : ((S.extract a (a + N)).toList == [116, 104, 101, 110]) = false := by rw [EL.out]; exact m1
     have q2 : ((S.extract a (a + N)).toList == [101, 108, 115, 101]) = false := by rw [EL.out]; exact m2
     have q3 : ((S.extract a (a + N)).toList == [102, 105]) = false := by rw [EL.out]; exact m3
     have q4 : ((S.extract a (a + N)).toList == [119, 104, 105, 108, 101]) = false := by rw [EL.out]; exact m4
     have q5 : ((S.extract a (a + N)).toList == [100, 111]) = false := by rw [EL.out]; exact m5
     have q6 : ((S.extract a (a + N)).toList == [100, 111, 110, 101]) = false := by rw [EL.out]; exact m6
     have q7 : ((S.extract a (a + N)).toList == [102, 111, 114]) = false := by rw [EL.out]; exact m7
     have q8 : ((S.extract a (a + N)).toList == [105, 110]) = false := by rw [EL.out]; exact m8
     clear m0 m1 m2 m3 m4 m5 m6 m7 m8
     go_wp2_with (go_at_call 52; (with_reducible refine (ki _).mono ?_); rintro e w1 ⟨rfl, rfl⟩)
     go_quiet (fail)
     go_wp2
     go_ret
     exact ⟨rfl, below_draws HB.out _⟩
end Go.Proofs.YtelfgobjnibooaaGreatDoor
namespace Go.Proofs.YtelfgobjnibooaaGreatDoor
open Go.RowKit Go.Lib
theorem key_any (p : Nat) (S : ByteArray) (d : Nat) (s : Sx) (w : World) (h : TS p S d s w) (hS : S.size ≤ 1048576) :
  Calls Tryz.prog 34 #[.pointer (some ⟨p, 0, none⟩)] w fun x w' => x = .returned (.string ⟨(keyX s).toArray⟩) ∧ Below w.heap.size w w' := by
 cases s with
 | «at» l => exact key_at p S d l w h hS
 | bad b => exact key_bad p S d b w h
def needX (k : List UInt8) (s : Sx) : Rr Unit := s.run fun l => needKey k (gapS l)
set_option maxHeartbeats 2000000 in
theorem need_any (p : Nat) (S : ByteArray) (d : Nat) (s : Sx) (k : List UInt8) (hk : k ∈ shKeys) (w : World) (h : TS p S d s w) (hS : S.size ≤ 1048576) :
  Calls Tryz.prog 114 #[.pointer (some ⟨p, 0, none⟩), .string ⟨k.toArray⟩] w fun x w' => x = .returned (.tuple #[]) ∧ TS p S d (needX k s).sx w' ∧ Mvr p w w' := by
 have kw := white_any p S d s w h hS
 have hkne : k ≠ [] := by intro e; subst e; revert hk; decide
 have hk2 : shKeys.contains k = true := by simpa using hk
 obtain ⟨s1, hs1⟩ : ∃ s1, s.map gapS = s1 := ⟨_, rfl⟩
 have hX : needX k s = s1.run (needKey k) := by rw [← hs1]; cases s <;> rfl
 rw [hX]
 rw [hs1] at kw
 have KK := Lib.hid (fun w1 (h1 : TS p S d s1 w1) => key_any p S d s1 w1 h1 hS)
 obtain ⟨T, hT⟩ : ∃ T : ByteArray, T = ⟨k.toArray⟩ := ⟨_, rfl⟩
 have hTl : T.toList = k := by rw [hT, ByteArray.toList_eq]
 obtain ⟨V, hV⟩ : ∃ V : ByteArray, V = ⟨(keyX s1).toArray⟩ := ⟨_, rfl⟩
 have hVl : V.toList = keyX s1 := by rw [hV, ByteArray.toList_eq]
 have hz : T.size = k.length := by rw [hT]; simp [ByteArray.size]
 rw [← hT]
 rw [← hV] at KK
 clear hs1 h hX
 by_cases he : keyX s1 = k
 ·obtain ⟨l, rfl, hl⟩ : ∃ l, s1 = .at l ∧ keyS l = k := by
   cases s1 with
   | bad b => exact absurd he.symm hkne
   | «at» l =>
    refine ⟨l, rfl, ?_⟩
    have he : (if shKeys.contains (keyS l) then keyS l else []) = k := he
    split at he
    ·exact he
    ·exact absurd he.symm hkne
  have hlen := run_past_len shMarks l
  rw [(run_key hl hkne).1] at hlen
  have hR : ((Sx.at l).run (needKey k)).sx = .at (l.drop k.length) := by
   show (needKey k l).sx = _
   unfold needKey takeKeyS
   rw [if_pos hl]
   rfl
  rw [hR]
  have ST := Lib.hid (fun w1 (h1 : TS p S d (.at l) w1) => (by
   obtain ⟨a, _, _, _, hh⟩ := h1.hop hS
   obtain ⟨hw, hst⟩ := hh k.length (by omega)
   exact ⟨a, hw, hst⟩ : ∃ a : Nat, IntKind.i64.wrap ((a : Int) + ((k.length : Nat) : Int)) = (a : Int) + ((k.length : Nat) : Int) ∧ ∀ w2, Below w1.heap.size w1 w2 → w2.cell? ⟨p, 0, none⟩ = some (.string S) ∧ w2.cell? ⟨p, 1, none⟩ = some (.int .i64 (a : Int)) ∧ w2.frozen? ⟨p, 1, none⟩ = false ∧ TS p S d (.at (l.drop k.length)) (w2.setCell ⟨p, 1, none⟩ (.int .i64 ((a : Int) + ((k.length : Nat) : Int)))) ∧ Mvr p w1 (w2.setCell ⟨p, 1, none⟩ (.int .i64 ((a : Int) + ((k.length : Nat) : Int))))))
  have hne : (V.toList != T.toList) = false := by rw [hVl, hTl, he]; simp
  have heq : V.toList = T.toList := by rw [hVl, hTl, he]
  generalize l.drop k.length = Y at *
  rw [← hz] at ST
  clear hT hTl hV hVl hz hk hkne hk2 he hl hlen hR
  go_enter Tryz.func114, Tryz.ntmps114
  go_wp2_with (first
   | (go_at_call 50; (with_reducible refine kw.mono ?_); rintro e w1 ⟨rfl, h1, m1⟩; have k2 := KK.out w1 h1; obtain ⟨a, hw, hst⟩ := ST.out w1 h1; have HS := Lib.hid hst; have M1 := Lib.hid m1; clear hst h1 m1 kw)
   | (go_at_call 34; (with_reducible refine k2.mono ?_); rintro e w2 ⟨rfl, b2⟩; obtain ⟨g0, g1, g2, g3, g4⟩ := HS.out w2 b2; have F := Lib.hid (And.intro g3 (M1.out.trans g4)); clear b2 k2 g3 g4))
  go_end0
  exact ⟨rfl, F.out⟩
 ·have hR : (s1.run (needKey k)).sx = s1.fail 9 := by
   cases s1 with
   | bad b => rfl
   | «at» l =>
    show (needKey k l).sx = _
    unfold needKey takeKeyS
    rw [if_neg]
    ·rfl
    ·intro hl
     apply he
     show (if shKeys.contains (keyS l) then keyS l else []) = k
     rw [hl, if_pos hk2]
  rw [hR]
  have KF := Lib.hid (fun w1 w2 (h1 : TS p S d s1 w1) (hb : Below w1.heap.size w1 w2) => fail_any p S d s1 9 (by decide) w2 (h1.below hb))
  have MV := Lib.hid (fun w1 w2 (h1 : TS p S d s1 w1) (m1 : Mvr p w w1) (hb : Below w1.heap.size w1 w2) => m1.trans (Mvr.of hb h1.lt))
  have hne : (V.toList != T.toList) = true := by rw [hVl, hTl]; simpa using he
  have heq : ¬ V.toList = T.toList := by rw [hVl, hTl]; exact he
  have heq2 : (V.toList == T.toList) = false := by rw [hVl, hTl]; simpa using he
  clear hT hTl hV hVl hz hk hkne hk2 he hR
  go_enter Tryz.func114, Tryz.ntmps114
  go_wp2_with (first
   | (go_at_call 50; (with_reducible refine kw.mono ?_); rintro e w1 ⟨rfl, h1, m1⟩; have k2 := KK.out w1 h1; have H1 := Lib.hid h1; have M1 := Lib.hid m1; clear h1 m1 kw)
   | (go_at_call 34; (with_reducible refine k2.mono ?_); rintro e w2 ⟨rfl, b2⟩; have k3 := KF.out w1 w2 H1.out b2; have M2 := Lib.hid (MV.out w1 w2 H1.out M1.out b2); clear b2 k2)
   | (go_at_call 16; (with_reducible refine k3.mono ?_); rintro e w3 ⟨rfl, h3, m3⟩; have F := Lib.hid (And.intro h3 (M2.out.trans m3)); clear h3 m3 k3))
  exact bodyPost_ret (results_none rfl _ _ _) rfl ⟨rfl, F.out⟩
def barsX (two : Bool) : Sx → Bool
 | .at (c :: r) => c == 124 && (atS [124] r == two)
 | _ => false
set_option maxHeartbeats 4000000 in
set_option maxRecDepth 20000 in
theorem bars_any (p : Nat) (S : ByteArray) (d : Nat) (s : Sx) (two : Bool) (w : World) (h : TS p S d s w) (hS : S.size ≤ 1048576) :
    Calls Tryz.prog 54 #[.pointer (some ⟨p, 0, none⟩), .bool two] w fun x w' => x = .returned (.bool (barsX two (s.map gapS))) ∧ TS p S d (s.map gapS) w' ∧ Mvr p w w' := by
  have kw := white_any p S d s w h hS
  obtain ⟨s1, hs1⟩ : ∃ s1, s.map gapS = s1 := ⟨_, rfl⟩
  rw [hs1] at kw ⊢
  have KE := Lib.hid (fun w1 (h1 : TS p S d s1 w1) => end_any p S d s1 w1 h1 hS)
  have KC := Lib.hid (fun w1 w2 (h1 : TS p S d s1 w1) (hb : Below w1.heap.size w1 w2) => c_any p S d s1 w2 (h1.below hb) hS)
  have FN := Lib.hid (fun w1 w2 (h1 : TS p S d s1 w1) (m1 : Mvr p w w1) (hb : Below w1.heap.size w1 w2) => (⟨h1.below hb, m1.trans (Mvr.of hb h1.lt)⟩ : TS p S d s1 w2 ∧ Mvr p w w2))
  clear hs1 h
  by_cases hq : s1.end = true
  · have hb : barsX two s1 = false := by
      cases s1 with
      | bad b => rfl
      | «at» l => cases l with
        | nil => rfl
        | cons c r => cases hq
    rw [hb]
    rw [hq] at KE
    clear hb hq KC
    go_enter Tryz.func54, Tryz.ntmps54
    go_wp2_with (first
      | (go_at_call 50; (with_reducible refine kw.mono ?_); rintro e w1 ⟨rfl, h1, m1⟩; have k2 := KE.out w1 h1; have H1 := Lib.hid h1; have M1 := Lib.hid m1; clear h1 m1 kw)
      | (go_at_call 32; (with_reducible refine k2.mono ?_); rintro e w2 ⟨rfl, b2⟩; have F := Lib.hid (FN.out w1 w2 H1.out M1.out b2); clear b2 k2))
    go_ret
    exact ⟨rfl, F.out⟩
  · obtain ⟨c, r, rfl⟩ : ∃ c r, s1 = .at (c :: r) := by
      cases s1 with
      | bad e => exact absurd rfl hq
      | «at» l => cases l with
        | nil => exact absurd rfl hq
        | cons c r => exact ⟨c, r, rfl⟩
    have hq : (Sx.at (c :: r)).end = false := rfl
    rw [hq] at KE
    have hcc : (Sx.at (c :: r)).c = c := rfl
    rw [hcc] at KC
    by_cases hc : c = 124
    · subst hc
      have hb : barsX two (.at (124 :: r)) = (atS [124] r == two) := rfl
      rw [hb]
      have HOP := Lib.hid (fun w1 w2 (h1 : TS p S d (.at (124 :: r)) w1) (b2 : Below w1.heap.size w1 w2) => (by
        obtain ⟨a, h2, h3, h4, _⟩ := (h1.below b2).hop hS
        obtain ⟨⟨c0, c1, _⟩, _⟩ := h4.cells
        refine ⟨a, a + 1, c0, c1, by rw [IntWalk.i64_in _ (by omega)]; omega, ?_⟩
        cases r with
        | nil => exact .inl ⟨by simp at h2; omega, rfl⟩
        | cons e q =>
          obtain ⟨h5, h6⟩ := idxR (k := 1) h3 rfl
          exact .inr ⟨h5, by rw [h6]; show (_ == ((124 : UInt8).toNat : Int)) = _; rw [byte_eq]; show (e == 124) = ([124] : List UInt8).contains e; by_cases he : e = 124 <;> simp [he]⟩ : ∃ a m : Nat, w2.cell? ⟨p, 0, none⟩ = some (.string S) ∧ w2.cell? ⟨p, 1, none⟩ = some (.int .i64 (a : Int)) ∧ IntKind.i64.wrap ((a : Int) + 1) = (m : Int) ∧ ((m = S.size ∧ atS [124] r = false) ∨ ∃ h : m < S.size, ((S[m].toNat : Int) == 124) = atS [124] r)))
      obtain ⟨z, hz⟩ : ∃ z, atS [124] r = z := ⟨_, rfl⟩
      rw [hz] at HOP ⊢
      clear hb hq hcc hz
      go_enter Tryz.func54, Tryz.ntmps54
      go_wp2_with (first
        | (go_at_call 50; (with_reducible refine kw.mono ?_); rintro e w1 ⟨rfl, h1, m1⟩; have k2 := KE.out w1 h1; have H1 := Lib.hid h1; have M1 := Lib.hid m1; clear h1 m1 kw)
        | (go_at_call 32; (with_reducible refine k2.mono ?_); rintro e w2 ⟨rfl, b2⟩; have k3 := KC.out w1 w2 H1.out b2; have B2 := Lib.hid b2; clear b2 k2)
        | (go_at_call 33; (with_reducible refine k3.mono ?_); rintro e w3 ⟨rfl, b3⟩; have B3 := Lib.hid (below2 B2.out b3); clear b3 k3))
      obtain ⟨a, m, c0, c1, hw, hcase⟩ := HOP.out w1 w3 H1.out B3.out
      rcases hcase with ⟨h1, rfl⟩ | ⟨h1, h2⟩
      · have hge : ¬ (m : Int) < (S.size : Int) := by omega
        have hged : decide ((m : Int) < (S.size : Int)) = false := decide_eq_false hge
        have hge2 : ¬ m < S.size := by omega
        have hged2 : decide (m < S.size) = false := decide_eq_false hge2
        go_quiet (fail)
        go_wp2
        go_ret
        exact ⟨by cases two <;> rfl, FN.out w1 _ H1.out M1.out (below_draws B3.out _)⟩
      · have hlt : (m : Int) < (S.size : Int) := by omega
        have hltd : decide ((m : Int) < (S.size : Int)) = true := decide_eq_true hlt
        have hltd2 : decide (m < S.size) = true := decide_eq_true h1
        cases z
        all_goals
          go_quiet (fail)
          go_wp2
          go_ret
          exact ⟨by cases two <;> rfl, FN.out w1 _ H1.out M1.out (below_draws B3.out _)⟩
    · have hb : barsX two (.at (c :: r)) = false := by
        show (c == 124 && _) = false
        rw [show (c == 124) = false by simpa using hc]; rfl
      rw [hb]
      have hn : ((c.toNat : Int) != 124) = true := by
        show ((c.toNat : Int) != ((124 : UInt8).toNat : Int)) = true
        rw [byte_ne]; simpa using hc
      clear hb hq hcc hc
      generalize (c.toNat : Int) = y at *
      go_enter Tryz.func54, Tryz.ntmps54
      go_wp2_with (first
        | (go_at_call 50; (with_reducible refine kw.mono ?_); rintro e w1 ⟨rfl, h1, m1⟩; have k2 := KE.out w1 h1; have H1 := Lib.hid h1; have M1 := Lib.hid m1; clear h1 m1 kw)
        | (go_at_call 32; (with_reducible refine k2.mono ?_); rintro e w2 ⟨rfl, b2⟩; have k3 := KC.out w1 w2 H1.out b2; have B2 := Lib.hid b2; clear b2 k2)
        | (go_at_call 33; (with_reducible refine k3.mono ?_); rintro e w3 ⟨rfl, b3⟩; have F := Lib.hid (FN.out w1 w3 H1.out M1.out (below2 B2.out b3)); clear b3 k3))
      go_ret
      exact ⟨rfl, F.out⟩
end Go.Proofs.YtelfgobjnibooaaGreatDoor
