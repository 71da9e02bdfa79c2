/- Packed texts: ShEach, ShCmd. What each of them proves stands above its theorems; the conditions stand in these. -/
import Derived.Test.YtelfgobjnibooaaGreatDoorA14
namespace Go.Proofs.YtelfgobjnibooaaGreatDoor
open Go.RowKit Go.Lib
set_option maxHeartbeats 8000000 in
set_option maxRecDepth 20000 in
theorem each_any (L : ValP (List Co)) (g : Dn) (p : Nat) (sg : Value) (d : Nat) (G : Gv L g p sg d) (l0 : List UInt8) (w : World) (h : Rs p l0 sg d w) (hE : EnvS p sg w) (hl0 : l0.length ≤ 1048576) :
    Calls Tryz.prog 110 #[.pointer (some ⟨p, 0, none⟩)] w (AnsE (cmdE L) p sg d w (eachS g l0)) := by
  have hp := h.lt
  have hpc : p < w.heap.size + 1 := by omega
  have hgood := G.good
  have HS0 := Lib.hid (CF.begin hgood 6 6 rfl h hE)
  have k2 := need_no
  clear h hE
  unfold eachS
  have hn1 := gapS_len l0
  obtain ⟨l1, hl1⟩ : ∃ l, l = gapS l0 := ⟨_, rfl⟩
  have KG0 := Lib.hid (fun w1 (h1 : Rs p l0 sg d w1) => gapS_any p l0 sg d w1 h1 (by omega))
  rw [← hl1] at KG0 hn1 ⊢
  clear hl1
  have hn2 := nameR_nice l1
  have KN1 := Lib.hid (fun w1 (h1 : Rs p l1 sg d w1) => name_any p l1 sg d w1 h1 (by omega))
  cases hr2 : nameR l1 with
  | bad x =>
    rw [hr2] at KN1
    have KL1 : Hid (∀ w1, Rs p l1 sg d w1 → Calls Tryz.prog 140 #[.pointer (some ⟨p, 0, none⟩)] w1 fun e w' => e = errS x ∧ Mvd p w1 w') := KN1.out
    clear hn2
    show Calls _ _ _ _ fun e w' => e = errS x ∧ Mvd p w w'
    unfold errS at k2 KL1 ⊢
    go_enter Tryz.func110, Tryz.ntmps110
    go_wp2_with (first
      | (go_at_call 73; first | ((refine (KG0.out _ HS0.out.rs).mono ?_); rintro e w1 ⟨rfl, hh, mm⟩; have HS1 := Lib.hid (HS0.out.step hpc mm hh); clear hh mm))
      | (go_at_call 140; first | ((with_reducible refine (KL1.out _ HS1.out.rs).mono ?_); rintro e w2 ⟨rfl, m2⟩)))
    exact ⟨rfl, rfl, HS1.out.out hp m2⟩
  | ok X2 l2 =>
    rw [hr2] at KN1 hn2
    have hn2 : l2.length ≤ l1.length := hn2
    obtain ⟨Y, hY⟩ : ∃ Y : ByteArray, Y = ⟨X2.toArray⟩ := ⟨_, rfl⟩
    have KN1 : Hid (∀ w1, Rs p l1 sg d w1 → Calls Tryz.prog 140 #[.pointer (some ⟨p, 0, none⟩)] w1 fun e w' => e = .returned (.string Y) ∧ Rs p l2 sg d w' ∧ Mvd p w1 w') := by rw [hY]; exact KN1.out
    have ONE := Lib.hid (fun w2 => one_name X2 w2)
    rw [← hY] at ONE
    clear hY
    show Calls _ _ _ _ (AnsE (cmdE L) p sg d w ((needKey [105, 110] (gapS l2)).bind fun _ r1 => (g.wds r1).bind fun ws r2 => if wasS shEnds r2 = false then .bad 9 else (bodyS g (skipS shEnds r2)).bind fun b r3 => .ok (.mk 6 [X2] [] ws [] b []) r3))
    have hn3 := gapS_len l2
    obtain ⟨l3, hl3⟩ : ∃ l, l = gapS l2 := ⟨_, rfl⟩
    have KG2 := Lib.hid (fun w1 (h1 : Rs p l2 sg d w1) => gapS_any p l2 sg d w1 h1 (by omega))
    rw [← hl3] at KG2 hn3 ⊢
    clear hl3
    cases hr4 : needKey [105, 110] l3 with
    | bad x =>
      obtain ⟨ht, rfl⟩ := needKey_bad hr4
      have KT3 := Lib.hid (fun w1 (h1 : Rs p l3 sg d w1) => (show Calls Tryz.prog 138 #[.pointer (some ⟨p, 0, none⟩), .string ⟨#[105, 110]⟩] w1 fun e w' => e = .returned (.bool false) ∧ Rs p l3 sg d w' ∧ Mvd p w1 w' from takeKey_no p [105, 110] l3 sg d w1 h1 (by omega) ht))
      show Calls _ _ _ _ fun e w' => e = errS 9 ∧ Mvd p w w'
      unfold errS at k2  ⊢
      go_enter Tryz.func110, Tryz.ntmps110
      go_wp2_with (first
        | (go_at_call 73; first | ((with_reducible refine (KG2.out _ HS2.out.rs).mono ?_); rintro e w3 ⟨rfl, hh, mm⟩; have HS3 := Lib.hid (HS2.out.step hpc mm hh); clear hh mm) | ((refine (KG0.out _ HS0.out.rs).mono ?_); rintro e w1 ⟨rfl, hh, mm⟩; have HS1 := Lib.hid (HS0.out.step hpc mm hh); clear hh mm))
        | (go_at_call 140; first | ((with_reducible refine (KN1.out _ HS1.out.rs).mono ?_); rintro e w2 ⟨rfl, hh, mm⟩; obtain ⟨o1, o2⟩ := ONE.out w2; have zz := HS1.out.rs.lt; obtain ⟨⟨s2, t2⟩, ST⟩ := HS1.out.rowN hpc (mm.alloc (.cells #[.string Y] 9) zz) (hh.below o2) (StrV.mono _ _ _ _ _ (fun gg hg => ⟨Nat.le_trans mm.size hg.1, hg.2⟩) o1); have HS2 := Lib.hid ST; clear hh mm ST o1 o2 zz))
        | (go_at_call 138; first | ((with_reducible refine (KT3.out _ HS3.out.rs).mono ?_); rintro e w4 ⟨rfl, _, m4⟩))
        | (go_at_call 30; first | (refine (k2 _).mono ?_; rintro e wn ⟨rfl, hwn⟩; rw [hwn]; clear hwn)))
      exact ⟨rfl, rfl, HS3.out.out hp m4⟩
    | ok u4 l4 =>
      have ht4 := needKey_ok hr4
      have hn4 := takeKey_len ht4
      have KT3 := Lib.hid (fun w1 (h1 : Rs p l3 sg d w1) => (show Calls Tryz.prog 138 #[.pointer (some ⟨p, 0, none⟩), .string ⟨#[105, 110]⟩] w1 fun e w' => e = .returned (.bool true) ∧ Rs p l4 sg d w' ∧ Mvd p w1 w' from takeKey_yes p [105, 110] l3 l4 sg d w1 h1 (by omega) ht4))
      show Calls _ _ _ _ (AnsE (cmdE L) p sg d w ((g.wds l4).bind fun ws r2 => if wasS shEnds r2 = false then .bad 9 else (bodyS g (skipS shEnds r2)).bind fun b r3 => .ok (.mk 6 [X2] [] ws [] b []) r3))
      have hn5 := G.nw l4
      have KL4 := Lib.hid (fun w1 (h1 : Rs p l4 sg d w1) (e1 : EnvS p sg w1) => G.wds l4 w1 h1 e1 (by omega))
      cases hr5 : g.wds l4 with
      | bad x =>
        rw [hr5] at KL4
        have KL4 : Hid (∀ w1, Rs p l4 sg d w1 → EnvS p sg w1 → Calls Tryz.prog 141 #[.pointer (some ⟨p, 0, none⟩)] w1 fun e w' => e = errS x ∧ Mvd p w1 w') := KL4.out
        clear hn5
        show Calls _ _ _ _ fun e w' => e = errS x ∧ Mvd p w w'
        unfold errS at k2 KL4 ⊢
        go_enter Tryz.func110, Tryz.ntmps110
        go_wp2_with (first
          | (go_at_call 73; first | ((with_reducible refine (KG2.out _ HS2.out.rs).mono ?_); rintro e w3 ⟨rfl, hh, mm⟩; have HS3 := Lib.hid (HS2.out.step hpc mm hh); clear hh mm) | ((refine (KG0.out _ HS0.out.rs).mono ?_); rintro e w1 ⟨rfl, hh, mm⟩; have HS1 := Lib.hid (HS0.out.step hpc mm hh); clear hh mm))
          | (go_at_call 140; first | ((with_reducible refine (KN1.out _ HS1.out.rs).mono ?_); rintro e w2 ⟨rfl, hh, mm⟩; obtain ⟨o1, o2⟩ := ONE.out w2; have zz := HS1.out.rs.lt; obtain ⟨⟨s2, t2⟩, ST⟩ := HS1.out.rowN hpc (mm.alloc (.cells #[.string Y] 9) zz) (hh.below o2) (StrV.mono _ _ _ _ _ (fun gg hg => ⟨Nat.le_trans mm.size hg.1, hg.2⟩) o1); have HS2 := Lib.hid ST; clear hh mm ST o1 o2 zz))
          | (go_at_call 30; first | (refine (need_yes _).mono ?_; rintro e wn ⟨rfl, hwn⟩; rw [hwn]; clear hwn))
          | (go_at_call 138; first | ((with_reducible refine (KT3.out _ HS3.out.rs).mono ?_); rintro e w4 ⟨rfl, hh, mm⟩; have HS4 := Lib.hid (HS3.out.step hpc mm hh); clear hh mm))
          | (go_at_call 141; first | ((with_reducible refine (KL4.out _ HS4.out.rs HS4.out.env).mono ?_); rintro e w5 ⟨rfl, m5⟩)))
        exact ⟨rfl, rfl, HS4.out.out hp m5⟩
      | ok X5 l5 =>
        rw [hr5] at KL4 hn5
        have hn5 : l5.length ≤ l4.length := hn5
        have KL4 : Hid (∀ w1, Rs p l4 sg d w1 → EnvS p sg w1 → Calls Tryz.prog 141 #[.pointer (some ⟨p, 0, none⟩)] w1 fun e w' => (∃ ao cap, e = .returned (.slice ao X5.length cap) ∧ (WdsV L).q (NewF w1.heap.size w'.heap.size) w' (.slice ao X5.length cap) X5) ∧ Rs p l5 sg d w' ∧ Mvd p w1 w') := fun w1 a b => (KL4.out w1 a b).mono fun e w' => ansWds
        show Calls _ _ _ _ (AnsE (cmdE L) p sg d w (if wasS shEnds l5 = false then .bad 9 else (bodyS g (skipS shEnds l5)).bind fun b r3 => .ok (.mk 6 [X2] [] X5 [] b []) r3))
        have hn6 := (skipS_len shEnds _ l5 rfl).1
        have KK5 := Lib.hid (fun w1 (h1 : Rs p l5 sg d w1) => (show Calls Tryz.prog 47 #[.pointer (some ⟨p, 0, none⟩), .string ⟨#[59, 10]⟩] w1 fun e w' => e = .returned (.bool (wasS shEnds l5)) ∧ Rs p (skipS shEnds l5) sg d w' ∧ Mvd p w1 w' from skipS_any p shEnds l5 sg d w1 h1 (by omega)))
        obtain ⟨l6, hl6⟩ : ∃ l, l = skipS shEnds l5 := ⟨_, rfl⟩
        rw [← hl6] at KK5 hn6 ⊢
        clear hl6
        cases hr6 : wasS shEnds l5 with
        | false =>
          rw [hr6] at KK5
          show Calls _ _ _ _ fun e w' => e = errS 9 ∧ Mvd p w w'
          unfold errS at k2  ⊢
          go_enter Tryz.func110, Tryz.ntmps110
          go_wp2_with (first
            | (go_at_call 73; first | ((with_reducible refine (KG2.out _ HS2.out.rs).mono ?_); rintro e w3 ⟨rfl, hh, mm⟩; have HS3 := Lib.hid (HS2.out.step hpc mm hh); clear hh mm) | ((refine (KG0.out _ HS0.out.rs).mono ?_); rintro e w1 ⟨rfl, hh, mm⟩; have HS1 := Lib.hid (HS0.out.step hpc mm hh); clear hh mm))
            | (go_at_call 140; first | ((with_reducible refine (KN1.out _ HS1.out.rs).mono ?_); rintro e w2 ⟨rfl, hh, mm⟩; obtain ⟨o1, o2⟩ := ONE.out w2; have zz := HS1.out.rs.lt; obtain ⟨⟨s2, t2⟩, ST⟩ := HS1.out.rowN hpc (mm.alloc (.cells #[.string Y] 9) zz) (hh.below o2) (StrV.mono _ _ _ _ _ (fun gg hg => ⟨Nat.le_trans mm.size hg.1, hg.2⟩) o1); have HS2 := Lib.hid ST; clear hh mm ST o1 o2 zz))
            | (go_at_call 30; first | (refine (k2 _).mono ?_; rintro e wn ⟨rfl, hwn⟩; rw [hwn]; clear hwn) | (refine (need_yes _).mono ?_; rintro e wn ⟨rfl, hwn⟩; rw [hwn]; clear hwn))
            | (go_at_call 138; first | ((with_reducible refine (KT3.out _ HS3.out.rs).mono ?_); rintro e w4 ⟨rfl, hh, mm⟩; have HS4 := Lib.hid (HS3.out.step hpc mm hh); clear hh mm))
            | (go_at_call 141; first | ((with_reducible refine (KL4.out _ HS4.out.rs HS4.out.env).mono ?_); rintro e w5 ⟨⟨a5, c5, rfl, hx⟩, hh, mm⟩; obtain ⟨⟨s5, t5⟩, ST⟩ := HS4.out.rowW hpc mm hh hx; have HS5 := Lib.hid ST; clear hx hh mm ST))
            | (go_at_call 47; first | ((with_reducible refine (KK5.out _ HS5.out.rs).mono ?_); rintro e w6 ⟨rfl, _, m6⟩)))
          exact ⟨rfl, rfl, HS5.out.out hp m6⟩
        | true =>
          rw [hr6] at KK5
          show Calls _ _ _ _ (AnsE (cmdE L) p sg d w ((bodyS g l6).bind fun b r3 => .ok (.mk 6 [X2] [] X5 [] b []) r3))
          have hn7 := bodyS_nice1 G.nl l6
          have KL6 := Lib.hid (fun w1 (h1 : Rs p l6 sg d w1) (e1 : EnvS p sg w1) => body_any L g p sg d G l6 w1 h1 e1 (by omega))
          cases hr7 : bodyS g l6 with
          | bad x =>
            rw [hr7] at KL6
            have KL6 : Hid (∀ w1, Rs p l6 sg d w1 → EnvS p sg w1 → Calls Tryz.prog 139 #[.pointer (some ⟨p, 0, none⟩)] w1 fun e w' => e = errS x ∧ Mvd p w1 w') := KL6.out
            clear hn7
            show Calls _ _ _ _ fun e w' => e = errS x ∧ Mvd p w w'
            unfold errS at k2 KL6 ⊢
            go_enter Tryz.func110, Tryz.ntmps110
            go_wp2_with (first
              | (go_at_call 73; first | ((with_reducible refine (KG2.out _ HS2.out.rs).mono ?_); rintro e w3 ⟨rfl, hh, mm⟩; have HS3 := Lib.hid (HS2.out.step hpc mm hh); clear hh mm) | ((refine (KG0.out _ HS0.out.rs).mono ?_); rintro e w1 ⟨rfl, hh, mm⟩; have HS1 := Lib.hid (HS0.out.step hpc mm hh); clear hh mm))
              | (go_at_call 140; first | ((with_reducible refine (KN1.out _ HS1.out.rs).mono ?_); rintro e w2 ⟨rfl, hh, mm⟩; obtain ⟨o1, o2⟩ := ONE.out w2; have zz := HS1.out.rs.lt; obtain ⟨⟨s2, t2⟩, ST⟩ := HS1.out.rowN hpc (mm.alloc (.cells #[.string Y] 9) zz) (hh.below o2) (StrV.mono _ _ _ _ _ (fun gg hg => ⟨Nat.le_trans mm.size hg.1, hg.2⟩) o1); have HS2 := Lib.hid ST; clear hh mm ST o1 o2 zz))
              | (go_at_call 30; first | (refine (need_yes _).mono ?_; rintro e wn ⟨rfl, hwn⟩; rw [hwn]; clear hwn))
              | (go_at_call 138; first | ((with_reducible refine (KT3.out _ HS3.out.rs).mono ?_); rintro e w4 ⟨rfl, hh, mm⟩; have HS4 := Lib.hid (HS3.out.step hpc mm hh); clear hh mm))
              | (go_at_call 141; first | ((with_reducible refine (KL4.out _ HS4.out.rs HS4.out.env).mono ?_); rintro e w5 ⟨⟨a5, c5, rfl, hx⟩, hh, mm⟩; obtain ⟨⟨s5, t5⟩, ST⟩ := HS4.out.rowW hpc mm hh hx; have HS5 := Lib.hid ST; clear hx hh mm ST))
              | (go_at_call 47; first | ((with_reducible refine (KK5.out _ HS5.out.rs).mono ?_); rintro e w6 ⟨rfl, hh, mm⟩; have HS6 := Lib.hid (HS5.out.step hpc mm hh); clear hh mm))
              | (go_at_call 139; first | ((with_reducible refine (KL6.out _ HS6.out.rs HS6.out.env).mono ?_); rintro e w7 ⟨rfl, m7⟩)))
            exact ⟨rfl, rfl, HS6.out.out hp m7⟩
          | ok X7 l7 =>
            rw [hr7] at KL6 hn7
            have hn7 : l7.length ≤ l6.length := hn7
            have KL6 : Hid (∀ w1, Rs p l6 sg d w1 → EnvS p sg w1 → Calls Tryz.prog 139 #[.pointer (some ⟨p, 0, none⟩)] w1 fun e w' => (∃ ao cap, e = .returned (.slice ao X7.length cap) ∧ L.q (NewF w1.heap.size w'.heap.size) w' (.slice ao X7.length cap) X7) ∧ Rs p l7 sg d w' ∧ Mvd p w1 w') := fun w1 a b => (KL6.out w1 a b).mono fun e w' => ansRow hgood
            show Calls _ _ _ _ (AnsE (cmdE L) p sg d w (.ok (.mk 6 [X2] [] X5 [] X7 []) l7))
            -- done
            go_enter Tryz.func110, Tryz.ntmps110
            go_wp2_with (first
              | (go_at_call 73; first | ((with_reducible refine (KG2.out _ HS2.out.rs).mono ?_); rintro e w3 ⟨rfl, hh, mm⟩; have HS3 := Lib.hid (HS2.out.step hpc mm hh); clear hh mm) | ((refine (KG0.out _ HS0.out.rs).mono ?_); rintro e w1 ⟨rfl, hh, mm⟩; have HS1 := Lib.hid (HS0.out.step hpc mm hh); clear hh mm))
              | (go_at_call 140; first | ((with_reducible refine (KN1.out _ HS1.out.rs).mono ?_); rintro e w2 ⟨rfl, hh, mm⟩; obtain ⟨o1, o2⟩ := ONE.out w2; have zz := HS1.out.rs.lt; obtain ⟨⟨s2, t2⟩, ST⟩ := HS1.out.rowN hpc (mm.alloc (.cells #[.string Y] 9) zz) (hh.below o2) (StrV.mono _ _ _ _ _ (fun gg hg => ⟨Nat.le_trans mm.size hg.1, hg.2⟩) o1); have HS2 := Lib.hid ST; clear hh mm ST o1 o2 zz))
              | (go_at_call 30; first | (refine (need_yes _).mono ?_; rintro e wn ⟨rfl, hwn⟩; rw [hwn]; clear hwn))
              | (go_at_call 138; first | ((with_reducible refine (KT3.out _ HS3.out.rs).mono ?_); rintro e w4 ⟨rfl, hh, mm⟩; have HS4 := Lib.hid (HS3.out.step hpc mm hh); clear hh mm))
              | (go_at_call 141; first | ((with_reducible refine (KL4.out _ HS4.out.rs HS4.out.env).mono ?_); rintro e w5 ⟨⟨a5, c5, rfl, hx⟩, hh, mm⟩; obtain ⟨⟨s5, t5⟩, ST⟩ := HS4.out.rowW hpc mm hh hx; have HS5 := Lib.hid ST; clear hx hh mm ST))
              | (go_at_call 47; first | ((with_reducible refine (KK5.out _ HS5.out.rs).mono ?_); rintro e w6 ⟨rfl, hh, mm⟩; have HS6 := Lib.hid (HS5.out.step hpc mm hh); clear hh mm))
              | (go_at_call 139; first | ((with_reducible refine (KL6.out _ HS6.out.rs HS6.out.env).mono ?_); rintro e w7 ⟨⟨a7, c7, rfl, hx⟩, hh, mm⟩; obtain ⟨⟨s7, t7⟩, ST⟩ := HS6.out.rowB hpc mm hh hx; have HS7 := Lib.hid ST; clear hx hh mm ST; obtain ⟨⟨q0, q1, q2, q3, q4, q5, q6⟩, FR, AN, HP⟩ := HS7.out.fin hp; obtain ⟨g0, g1, g2, g3, g4, g5, g6, x0, x1, x2, x3, x4, x5, x6, y0, y1, y2, y3, y4, y5, y6, y7⟩ := FR; have HAN := Lib.hid AN; have HHP := Lib.hid HP; clear AN HP y7)))
            have cs7 := cells_seven HHP.out
            unfold S7 at cs7 HAN
            refine bodyPost_ret (v := .agg #[.int .i64 6, .slice (some ⟨w2.heap.size, 0, none⟩) 1 1, .slice none 0 0, .slice a5 X5.length c5, .slice none 0 0, .slice a7 X7.length c7, .slice none 0 0]) (by simp [results, Tryz.results110, go_sem, cs7]) rfl ?_
            exact HAN.out
end Go.Proofs.YtelfgobjnibooaaGreatDoor
namespace Go.Proofs.YtelfgobjnibooaaGreatDoor
open Go.RowKit Go.Lib
def CoB (L : ValP (List Co)) (b : Nat) (F : Nat → Prop) (co : Co) (w : World) : Prop := ∃ (Z : Int) (cs : List Value), Z = (co.k : Int) ∧ (cmdE L).q F w co cs ∧ w.heap[b]? = some (.cells cs.toArray 37 (0, 0))
theorem cmd_forms {L : ValP (List Co)} (hL : GoodL L) {F : Nat → Prop} {w : World} {co : Co} {cs : List Value} (h : (cmdE L).q F w co cs) : ∃ (Z : Int) (an : Option Addr) (nn cn : Nat) (av : Option Addr) (nv cv : Nat) (aw : Option Addr) (nw cw : Nat) (aa : Option Addr) (na ca : Nat) (ab : Option Addr) (nb cb : Nat) (ac : Option Addr) (nc cc : Nat), cs = [.int .i64 Z, .slice an nn cn, .slice av nv cv, .slice aw nw cw, .slice aa na ca, .slice ab nb cb, .slice ac nc cc] ∧ Z = (co.k : Int) := by
 obtain ⟨vn, vv, vw, va, vb, vc, h0, h1, h2, h3, h4, h5, h6⟩ := h
 obtain ⟨an, cn, rfl, _⟩ := str_shape h1
 obtain ⟨av, cv, rfl, _⟩ := wds_shape h2
 obtain ⟨aw, cw, rfl, _⟩ := wds_shape h3
 obtain ⟨aa, ca, rfl, _⟩ := hL.shape _ _ _ _ h4
 obtain ⟨ab, cb, rfl, _⟩ := hL.shape _ _ _ _ h5
 obtain ⟨ac, cc, rfl, _⟩ := hL.shape _ _ _ _ h6
 exact ⟨_, an, _, cn, av, _, cv, aw, _, cw, aa, _, ca, ab, _, cb, ac, _, cc, h0, rfl⟩
theorem ansCo {L : ValP (List Co)} (hL : GoodL L) {p : Nat} {sg : Value} {d : Nat} {w : World} {co : Co} {r : List UInt8} {e : Ending} {w' : World} (h : AnsE (cmdE L) p sg d w (.ok co r) e w') : (∃ (Z : Int) (an : Option Addr) (nn cn : Nat) (av : Option Addr) (nv cv : Nat) (aw : Option Addr) (nw cw : Nat) (aa : Option Addr) (na ca : Nat) (ab : Option Addr) (nb cb : Nat) (ac : Option Addr) (nc cc : Nat), e = .returned (.agg #[.int .i64 Z, .slice an nn cn, .slice av nv cv, .slice aw nw cw, .slice aa na ca, .slice ab nb cb, .slice ac nc cc]) ∧ Z = (co.k : Int) ∧ (cmdE L).q (NewF w.heap.size w'.heap.size) w' co [.int .i64 Z, .slice an nn cn, .slice av nv cv, .slice aw nw cw, .slice aa na ca, .slice ab nb cb, .slice ac nc cc]) ∧ Rs p r sg d w' ∧ Mvd p w w' := by
 obtain ⟨⟨cs, h1, h2⟩, h3, h4⟩ := h
 obtain ⟨Z, an, nn, cn, av, nv, cv, aw, nw, cw, aa, na, ca, ab, nb, cb, ac, nc, cc, hcs, hZ⟩ := cmd_forms hL h2
 refine ⟨⟨Z, an, nn, cn, av, nv, cv, aw, nw, cw, aa, na, ca, ab, nb, cb, ac, nc, cc, ?_, hZ, by rw [← hcs]; exact h2⟩, h3, h4⟩
 rw [h1]
 have : cs = #[.int .i64 Z, .slice an nn cn, .slice av nv cv, .slice aw nw cw, .slice aa na ca, .slice ab nb cb, .slice ac nc cc] := by cases cs; simp only [Array.mk.injEq]; exact hcs
 rw [this]
theorem Mv2.own7 {p b : Nat} {a w : World} (h : Mv2 p b a w) (hpb : p < b) (v0 v1 v2 v3 v4 v5 v6 : Value) : Mv2 p b a (S7 w b v0 v1 v2 v3 v4 v5 v6) :=
 h.trans (((((((Mv2.set hpb 0 v0 w).trans (Mv2.set hpb 1 v1 _)).trans (Mv2.set hpb 2 v2 _)).trans (Mv2.set hpb 3 v3 _)).trans (Mv2.set hpb 4 v4 _)).trans (Mv2.set hpb 5 v5 _)).trans (Mv2.set hpb 6 v6 _))
theorem lay_co {L : ValP (List Co)} {p b : Nat} {sg : Value} {d : Nat} {co : Co} {r : List UInt8} {w0 w1 : World} {Z : Int} {v1 v2 v3 v4 v5 v6 : Value} (hpb : p < b) (hF : Free7 b w0) (hZ : Z = (co.k : Int)) (hq : (cmdE L).q (NewF w0.heap.size w1.heap.size) w1 co [.int .i64 Z, v1, v2, v3, v4, v5, v6]) (hr : Rs p r sg d w1) (hm : Mvd p w0 w1) :
  Free7 b w1 ∧ CoB L b (NewF w0.heap.size (S7 w1 b (.int .i64 Z) v1 v2 v3 v4 v5 v6).heap.size) co (S7 w1 b (.int .i64 Z) v1 v2 v3 v4 v5 v6) ∧ Rs p r sg d (S7 w1 b (.int .i64 Z) v1 v2 v3 v4 v5 v6) ∧ Mv2 p b w0 (S7 w1 b (.int .i64 Z) v1 v2 v3 v4 v5 v6) := by
 obtain ⟨_, _, _, _, _, _, _, x0, x1, x2, x3, x4, x5, x6, _, _, _, _, _, _, _, hblk⟩ := hF
 have hbz := heap_ltS hblk
 have hb1 := (hm.high b (by omega) hbz).trans hblk
 refine ⟨free7_of hb1, ⟨Z, _, hZ, ?_, S7_heap _ _ _ _ _ _ _ hb1⟩, hr.same (S7_other _ _ _ _ _ _ _ (by omega)), (Mv2.of hm).own7 hpb _ _ _ _ _ _ _⟩
 rw [S7_size]
 exact (cmdE L).same _ _ _ _ _ (fun g hg => S7_other _ _ _ _ _ _ _ (by have := hg.1; omega)) hq
set_option maxHeartbeats 4000000 in
set_option maxRecDepth 20000 in
theorem cmd1_ok (L : ValP (List Co)) (hL : GoodL L) (p a b : Nat) (r : List UInt8) (co : Co) (sg : Value) (d : Nat) (w0 : World) (kl : Calls Tryz.prog 106 #[.pointer (some ⟨p, 0, none⟩)] w0 (AnsE (cmdE L) p sg d w0 (.ok co r))) (hpb : p < b) (ha : w0.cell? ⟨a, 0, none⟩ = some (.pointer (some ⟨p, 0, none⟩))) (hF : Free7 b w0) :
  Calls Tryz.prog 105 #[.pointer (some ⟨a, 0, none⟩), .pointer (some ⟨b, 0, none⟩)] w0 fun e w' => e = .returned (.tuple #[]) ∧ Rs p r sg d w' ∧ CoB L b (NewF w0.heap.size w'.heap.size) co w' ∧ Mv2 p b w0 w' := by
 have kl2 := kl.mono fun e w' => ansCo hL
 have LAY := Lib.hid (fun w1 Z v1 v2 v3 v4 v5 v6 (hZ : Z = (co.k : Int)) (hq : (cmdE L).q (NewF w0.heap.size w1.heap.size) w1 co [.int .i64 Z, v1, v2, v3, v4, v5, v6]) (hr : Rs p r sg d w1) (hm : Mvd p w0 w1) => lay_co hpb hF hZ hq hr hm)
 clear kl hF
 go_enter Tryz.func105, Tryz.ntmps105
 go_wp2_with (go_at_call 106; (with_reducible refine kl2.mono ?_); rintro e w1 ⟨⟨Z, an, nn, cn, av, nv, cv, aw, nw, cw, aa, na, ca, ab, nb, cb, ac, nc, cc, rfl, hZ, hq⟩, h1, m1⟩; obtain ⟨FR, B, R1, M1⟩ := LAY.out w1 _ _ _ _ _ _ _ hZ hq h1 m1; have HH := Lib.hid (And.intro R1 (And.intro B M1)); obtain ⟨g0, g1, g2, g3, g4, g5, g6, x0, x1, x2, x3, x4, x5, x6, y0, y1, y2, y3, y4, y5, y6, y7⟩ := FR; clear hZ hq h1 m1 B R1 M1 y7)
 go_end0
 exact ⟨rfl, HH.out.1, HH.out.2.1, HH.out.2.2⟩
set_option maxHeartbeats 4000000 in
set_option maxRecDepth 20000 in
theorem cmd1_bad (L : ValP (List Co)) (p a b : Nat) (x : Int) (sg : Value) (d : Nat) (w0 : World) (kl : Calls Tryz.prog 106 #[.pointer (some ⟨p, 0, none⟩)] w0 (AnsE (cmdE L) p sg d w0 (.bad x))) (ha : w0.cell? ⟨a, 0, none⟩ = some (.pointer (some ⟨p, 0, none⟩))) :
  Calls Tryz.prog 105 #[.pointer (some ⟨a, 0, none⟩), .pointer (some ⟨b, 0, none⟩)] w0 fun e w' => e = errS x ∧ Mv2 p b w0 w' := by
 have kl2 : Calls Tryz.prog 106 #[.pointer (some ⟨p, 0, none⟩)] w0 fun e w' => e = errS x ∧ Mvd p w0 w' := kl
 clear kl
 unfold errS at kl2 ⊢
 go_enter Tryz.func105, Tryz.ntmps105
 go_wp2_with (go_at_call 106; (with_reducible refine kl2.mono ?_); rintro e w1 ⟨rfl, m1⟩)
 exact ⟨rfl, rfl, Mv2.of m1⟩
theorem enters_cmd1 : ∀ args w, (callFunc 105 args).run Tryz.prog w = .ok (.enter 105 args) w := enters_of Tryz.func105 (by kernel_rfl) rfl
set_option maxHeartbeats 4000000 in
set_option maxRecDepth 20000 in
theorem cmd2_ok (L : ValP (List Co)) (hL : GoodL L) (p a b : Nat) (r : List UInt8) (co : Co) (sg : Value) (d : Nat) (w0 : World) (kl : Calls Tryz.prog 108 #[.pointer (some ⟨p, 0, none⟩)] w0 (AnsE (cmdE L) p sg d w0 (.ok co r))) (hpb : p < b) (ha : w0.cell? ⟨a, 0, none⟩ = some (.pointer (some ⟨p, 0, none⟩))) (hF : Free7 b w0) :
  Calls Tryz.prog 107 #[.pointer (some ⟨a, 0, none⟩), .pointer (some ⟨b, 0, none⟩)] w0 fun e w' => e = .returned (.tuple #[]) ∧ Rs p r sg d w' ∧ CoB L b (NewF w0.heap.size w'.heap.size) co w' ∧ Mv2 p b w0 w' := by
 have kl2 := kl.mono fun e w' => ansCo hL
 have LAY := Lib.hid (fun w1 Z v1 v2 v3 v4 v5 v6 (hZ : Z = (co.k : Int)) (hq : (cmdE L).q (NewF w0.heap.size w1.heap.size) w1 co [.int .i64 Z, v1, v2, v3, v4, v5, v6]) (hr : Rs p r sg d w1) (hm : Mvd p w0 w1) => lay_co hpb hF hZ hq hr hm)
 clear kl hF
 go_enter Tryz.func107, Tryz.ntmps107
 go_wp2_with (go_at_call 108; (with_reducible refine kl2.mono ?_); rintro e w1 ⟨⟨Z, an, nn, cn, av, nv, cv, aw, nw, cw, aa, na, ca, ab, nb, cb, ac, nc, cc, rfl, hZ, hq⟩, h1, m1⟩; obtain ⟨FR, B, R1, M1⟩ := LAY.out w1 _ _ _ _ _ _ _ hZ hq h1 m1; have HH := Lib.hid (And.intro R1 (And.intro B M1)); obtain ⟨g0, g1, g2, g3, g4, g5, g6, x0, x1, x2, x3, x4, x5, x6, y0, y1, y2, y3, y4, y5, y6, y7⟩ := FR; clear hZ hq h1 m1 B R1 M1 y7)
 go_end0
 exact ⟨rfl, HH.out.1, HH.out.2.1, HH.out.2.2⟩
set_option maxHeartbeats 4000000 in
set_option maxRecDepth 20000 in
theorem cmd2_bad (L : ValP (List Co)) (p a b : Nat) (x : Int) (sg : Value) (d : Nat) (w0 : World) (kl : Calls Tryz.prog 108 #[.pointer (some ⟨p, 0, none⟩)] w0 (AnsE (cmdE L) p sg d w0 (.bad x))) (ha : w0.cell? ⟨a, 0, none⟩ = some (.pointer (some ⟨p, 0, none⟩))) :
  Calls Tryz.prog 107 #[.pointer (some ⟨a, 0, none⟩), .pointer (some ⟨b, 0, none⟩)] w0 fun e w' => e = errS x ∧ Mv2 p b w0 w' := by
 have kl2 : Calls Tryz.prog 108 #[.pointer (some ⟨p, 0, none⟩)] w0 fun e w' => e = errS x ∧ Mvd p w0 w' := kl
 clear kl
 unfold errS at kl2 ⊢
 go_enter Tryz.func107, Tryz.ntmps107
 go_wp2_with (go_at_call 108; (with_reducible refine kl2.mono ?_); rintro e w1 ⟨rfl, m1⟩)
 exact ⟨rfl, rfl, Mv2.of m1⟩
theorem enters_cmd2 : ∀ args w, (callFunc 107 args).run Tryz.prog w = .ok (.enter 107 args) w := enters_of Tryz.func107 (by kernel_rfl) rfl
set_option maxHeartbeats 4000000 in
set_option maxRecDepth 20000 in
theorem cmd3_ok (L : ValP (List Co)) (hL : GoodL L) (p a b : Nat) (r : List UInt8) (co : Co) (sg : Value) (d : Nat) (w0 : World) (kl : Calls Tryz.prog 110 #[.pointer (some ⟨p, 0, none⟩)] w0 (AnsE (cmdE L) p sg d w0 (.ok co r))) (hpb : p < b) (ha : w0.cell? ⟨a, 0, none⟩ = some (.pointer (some ⟨p, 0, none⟩))) (hF : Free7 b w0) :
  Calls Tryz.prog 109 #[.pointer (some ⟨a, 0, none⟩), .pointer (some ⟨b, 0, none⟩)] w0 fun e w' => e = .returned (.tuple #[]) ∧ Rs p r sg d w' ∧ CoB L b (NewF w0.heap.size w'.heap.size) co w' ∧ Mv2 p b w0 w' := by
 have kl2 := kl.mono fun e w' => ansCo hL
 have LAY := Lib.hid (fun w1 Z v1 v2 v3 v4 v5 v6 (hZ : Z = (co.k : Int)) (hq : (cmdE L).q (NewF w0.heap.size w1.heap.size) w1 co [.int .i64 Z, v1, v2, v3, v4, v5, v6]) (hr : Rs p r sg d w1) (hm : Mvd p w0 w1) => lay_co hpb hF hZ hq hr hm)
 clear kl hF
 go_enter Tryz.func109, Tryz.ntmps109
 go_wp2_with (go_at_call 110; (with_reducible refine kl2.mono ?_); rintro e w1 ⟨⟨Z, an, nn, cn, av, nv, cv, aw, nw, cw, aa, na, ca, ab, nb, cb, ac, nc, cc, rfl, hZ, hq⟩, h1, m1⟩; obtain ⟨FR, B, R1, M1⟩ := LAY.out w1 _ _ _ _ _ _ _ hZ hq h1 m1; have HH := Lib.hid (And.intro R1 (And.intro B M1)); obtain ⟨g0, g1, g2, g3, g4, g5, g6, x0, x1, x2, x3, x4, x5, x6, y0, y1, y2, y3, y4, y5, y6, y7⟩ := FR; clear hZ hq h1 m1 B R1 M1 y7)
 go_end0
 exact ⟨rfl, HH.out.1, HH.out.2.1, HH.out.2.2⟩
set_option maxHeartbeats 4000000 in
set_option maxRecDepth 20000 in
theorem cmd3_bad (L : ValP (List Co)) (p a b : Nat) (x : Int) (sg : Value) (d : Nat) (w0 : World) (kl : Calls Tryz.prog 110 #[.pointer (some ⟨p, 0, none⟩)] w0 (AnsE (cmdE L) p sg d w0 (.bad x))) (ha : w0.cell? ⟨a, 0, none⟩ = some (.pointer (some ⟨p, 0, none⟩))) :
  Calls Tryz.prog 109 #[.pointer (some ⟨a, 0, none⟩), .pointer (some ⟨b, 0, none⟩)] w0 fun e w' => e = errS x ∧ Mv2 p b w0 w' := by
 have kl2 : Calls Tryz.prog 110 #[.pointer (some ⟨p, 0, none⟩)] w0 fun e w' => e = errS x ∧ Mvd p w0 w' := kl
 clear kl
 unfold errS at kl2 ⊢
 go_enter Tryz.func109, Tryz.ntmps109
 go_wp2_with (go_at_call 110; (with_reducible refine kl2.mono ?_); rintro e w1 ⟨rfl, m1⟩)
 exact ⟨rfl, rfl, Mv2.of m1⟩
theorem enters_cmd3 : ∀ args w, (callFunc 109 args).run Tryz.prog w = .ok (.enter 109 args) w := enters_of Tryz.func109 (by kernel_rfl) rfl
end Go.Proofs.YtelfgobjnibooaaGreatDoor
