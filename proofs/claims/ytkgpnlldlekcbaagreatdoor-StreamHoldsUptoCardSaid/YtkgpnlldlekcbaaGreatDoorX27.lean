/- Packed texts: SeCmdA, SeCom, SeScript. What each of them proves stands above its theorems; the conditions stand in these. -/
import Derived.Deep.LoopGhost
import Derived.WalkMore
import Derived.Test.YtkgpnlldlekcbaaGreatDoorX25
import Derived.Test.YtkgpnlldlekcbaaGreatDoorX26
namespace Go.Proofs.YtkgpnlldlekcbaaGreatDoor
open Go.RowKit Go.Lib
set_option maxHeartbeats 8000000 in
set_option maxRecDepth 20000 in
theorem cmd_a_bad (p : Nat) (l : List UInt8) (w : World) (h : Rd p l w) (x : Int) (ka : ∀ w1, Rd p l w1 → Calls Tryz.prog 103 #[.pointer (some ⟨p, 0, none⟩)] w1 fun e w' => e = errV x ∧ Below p w1 w') :
    Calls Tryz.prog 80 #[.pointer (some ⟨p, 0, none⟩)] w fun e w' => e = errV x ∧ Below p w w' := by
  unfold errV at ka ⊢
  have hlt := h.lt
  have hr0 : Rd p l (W13 w) := h.below (W13.below w)
  have HB := Lib.hid ((W13.below w).mono (Nat.le_of_lt hlt))
  clear h
  have HW := Lib.hid (show W13 w = (w.alloc (.cells #[.int .u8 0, .int .i64 0, .int .i64 0, .slice none 0 0, .int .i64 0, .int .i64 0, .slice none 0 0, .bool false, .slice none 0 0, .slice none 0 0, .bool false, .bool false, .string ⟨#[]⟩] 41)).alloc (.cells #[.int .u8 0, .int .i64 0, .int .i64 0, .slice none 0 0, .int .i64 0, .int .i64 0, .slice none 0 0, .bool false, .slice none 0 0, .slice none 0 0, .bool false, .bool false, .string ⟨#[]⟩] 41) from rfl)
  go_enter Tryz.func80, Tryz.ntmps80
  go_wp2_with fail
  rw [← HW.out]
  go_wp2_with (first
      | (go_at_call 103; refine (ka _ hr0).mono ?_; rintro e w1 ⟨rfl, hb1⟩))
  exact ⟨rfl, rfl, HB.out.trans hb1⟩

set_option maxHeartbeats 8000000 in
set_option maxRecDepth 20000 in
theorem cmd_b_bad (p : Nat) (l : List UInt8) (w : World) (h : Rd p l w) (a : Ad) (KA NA : Int) (hKA : KA = (a.k : Int)) (hNA : NA = (a.n : Int)) (l1 : List UInt8) (ka : ∀ w1, Rd p l w1 → Calls Tryz.prog 103 #[.pointer (some ⟨p, 0, none⟩)] w1 fun e w' => ∃ v, e = .returned (.agg #[.int .i64 KA, .int .i64 NA, v]) ∧ AdS w1.heap.size a v w' ∧ Rd p l1 w' ∧ Moved p w1 w') (x : Int) (kb : ∀ w1, Rd p l1.tail w1 → Calls Tryz.prog 103 #[.pointer (some ⟨p, 0, none⟩)] w1 fun e w' => e = errV x ∧ Below p w1 w') (hk0 : ¬ KA = 0) (t44 : ∀ w1, Rd p l1 w1 → Calls Tryz.prog 104 #[.pointer (some ⟨p, 0, none⟩), .int .u8 44] w1 fun e w' => e = .returned (.bool true) ∧ Rd p l1.tail w' ∧ Moved p w1 w') :
    Calls Tryz.prog 80 #[.pointer (some ⟨p, 0, none⟩)] w fun e w' => e = errV x ∧ Below p w w' := by
  unfold errV at kb ⊢
  have hlt := h.lt
  have hr0 : Rd p l (W13 w) := h.below (W13.below w)
  have HB := Lib.hid ((W13.below w).mono (Nat.le_of_lt hlt))
  clear h
  have HW := Lib.hid (show W13 w = (w.alloc (.cells #[.int .u8 0, .int .i64 0, .int .i64 0, .slice none 0 0, .int .i64 0, .int .i64 0, .slice none 0 0, .bool false, .slice none 0 0, .slice none 0 0, .bool false, .bool false, .string ⟨#[]⟩] 41)).alloc (.cells #[.int .u8 0, .int .i64 0, .int .i64 0, .slice none 0 0, .int .i64 0, .int .i64 0, .slice none 0 0, .bool false, .slice none 0 0, .slice none 0 0, .bool false, .bool false, .string ⟨#[]⟩] 41) from rfl)
  have HK := Lib.hid (And.intro hKA hNA)
  clear hKA hNA
  go_enter Tryz.func80, Tryz.ntmps80
  go_wp2_with fail
  rw [← HW.out]
  go_wp2_with (first
      | (go_at_call 103; refine (ka _ hr0).mono ?_; rintro e w1 ⟨va, rfl, hs1, r1, m1⟩; obtain ⟨ao, N, cap, rfl⟩ := ads_slice hs1; have hc := (W13.c1 w).moved (by omega) m1; obtain ⟨c1, f1⟩ := hc.cell 1 rfl; obtain ⟨c2, f2⟩ := hc.cell 2 rfl; obtain ⟨c3, f3⟩ := hc.cell 3 rfl; have hc' := hc.put3 1 2 3 (.int .i64 KA) (.int .i64 NA) (.slice ao N cap); obtain ⟨i1, _⟩ := hc'.cell 1 rfl; have M1 := (m1.two (w.heap.size + 1)).trans (Moved2.set3 p (w.heap.size + 1) 1 2 3 (.int .i64 KA) (.int .i64 NA) (.slice ao N cap) w1 (by omega)); have hq1 : w.heap.size + 1 < (W13 w).heap.size := (by rw [W13.size]; omega); have hS1 := hs1.moved2 (by omega) hq1 (Moved2.set3 p (w.heap.size + 1) 1 2 3 (.int .i64 KA) (.int .i64 NA) (.slice ao N cap) w1 (by omega)); have hr1 := r1.put3 (q := w.heap.size + 1) (by omega) 1 2 3 (.int .i64 KA) (.int .i64 NA) (.slice ao N cap); have HC1 := Lib.hid hc'; have HM1 := Lib.hid M1; have HS1 := Lib.hid hS1; clear hc hc' M1 hS1 hs1 r1 m1 ka hr0)
      | (go_at_call 104; refine (t44 _ hr1).mono ?_; rintro e w2 ⟨rfl, r2, m2⟩; have hc2 := HC1.out.moved (by omega) m2; have HC2 := Lib.hid hc2; have HM2 := Lib.hid (HM1.out.trans (m2.two _)); have HS2 := Lib.hid (HS1.out.moved (by omega) m2); have hr2 := r2; clear hc2 m2 r2 t44 hr1)
      | (go_at_call 103; refine (kb _ hr2).mono ?_; rintro e w3 ⟨rfl, hb3⟩))
  exact ⟨rfl, rfl, HB.out.trans (HM2.out.low.trans hb3)⟩
end Go.Proofs.YtkgpnlldlekcbaaGreatDoor
namespace Go.Proofs.YtkgpnlldlekcbaaGreatDoor
open Go.RowKit Go.Lib

/-- What command does. -/
def ComE (p : Nat) (l : List UInt8) (w : World) (e : Ending) (w' : World) : Prop := match comP reR l with
  | .ok c r => ∃ xs, e = .returned (.agg ⟨xs⟩) ∧ CmS w.heap.size c xs w' ∧ Rd p r w' ∧ Moved p w w'
  | .bad x => e = errV x ∧ Below p w w'
theorem letP_fields {R : List UInt8 → Res} {a b : Ad} {neg : Bool} {l r : List UInt8} {c : Cm} (h : letP R a b neg l = .ok c r) : c.a = a ∧ c.b = b ∧ c.neg = neg := by
  cases l with
  | nil => cases h
  | cons o l =>
    unfold letP at h
    dsimp only at h
    split at h
    · cases l with
      | nil => cases h
      | cons d l1 =>
        dsimp only at h
        split at h
        · obtain ⟨t, l2, ht, h⟩ := got_bind h
          obtain ⟨ys, l3, hy, h⟩ := got_bind h
          cases h
          exact ⟨rfl, rfl, rfl⟩
        · cases h
    · split at h
      · split at h
        · cases h; exact ⟨rfl, rfl, rfl⟩
        · obtain ⟨y, r', hy, h⟩ := got_bind h
          cases h; exact ⟨rfl, rfl, rfl⟩
      · split at h
        · split at h
          · obtain ⟨y, r', hy, h⟩ := got_bind h
            cases h; exact ⟨rfl, rfl, rfl⟩
          · cases h
        · split at h
          · cases h; exact ⟨rfl, rfl, rfl⟩
          · cases h
theorem take33 (p : Nat) (l : List UInt8) (hl : l.length ≤ 1000000000) (w1 : World) (h : Rd p (blk l) w1) :
    Calls Tryz.prog 104 #[.pointer (some ⟨p, 0, none⟩), .int .u8 33] w1 fun e w' => e = .returned (.bool (notB l)) ∧ Rd p (if (blk l).head? = some 33 then (blk l).tail else blk l) w' ∧ Moved p w1 w' := by
  have h1 := take8_any p 33 (blk l) w1 h (by have := blk_len l; omega)
  refine h1.mono ?_
  rintro e w' ⟨rfl, h2, h3⟩
  refine ⟨rfl, ?_, h3⟩
  unfold takeC isC at h2
  by_cases hh : (blk l).head? = some 33
  · rw [if_pos hh]
    rw [if_pos (by simpa using hh)] at h2
    exact h2
  · rw [if_neg hh]
    rw [if_neg (by simpa using hh)] at h2
    exact h2
set_option maxRecDepth 20000 in
theorem com_any (p : Nat) (l : List UInt8) (w : World) (h : Rd p l w) (hl : l.length ≤ 1000000000) :
    Calls Tryz.prog 80 #[.pointer (some ⟨p, 0, none⟩)] w (ComE p l w) := by
  have ka := fun w1 (h1 : Rd p l w1) => addr_any p l w1 h1 hl
  unfold AdE at ka
  unfold ComE comP
  cases ha : adP reR l with
  | bad x =>
    rw [ha] at ka
    exact cmd_a_bad p l w h x ka
  | ok a l1 =>
    rw [ha] at ka
    have hl1 := adP_len ha
    dsimp only [Got.bind]
    have tl : ∀ (b : Ad) (lp : List UInt8), lp.length ≤ 1000000000 → ∀ (w1 : World) (y2 y3 y5 y6 : Value), Rd p (notL lp) w1 → Cq (w.heap.size + 1) [.int .u8 0, .int .i64 (a.k : Int), y2, y3, .int .i64 (b.k : Int), y5, y6, .bool (notB lp), .slice none 0 0, .slice none 0 0, .bool false, .bool false, .string ⟨#[]⟩] w1 → Calls Tryz.prog 106 #[.pointer (some ⟨p, 0, none⟩), .pointer (some ⟨w.heap.size + 1, 0, none⟩)] w1 (LetE p (w.heap.size + 1) a b (notB lp) y2 y3 (.int .i64 (b.k : Int)) y5 y6 (notL lp) w1) :=
      fun b lp hlp w1 y2 y3 y5 y6 h1 h2 => letter_any p (w.heap.size + 1) a b (notB lp) y2 y3 _ y5 y6 (notL lp) w1 (by have := h.lt; omega) h1 (by have := notL_len lp; omega) h2
    unfold secP
    by_cases hc : a.k ≠ 0 ∧ l1.head? = some 44
    · rw [if_pos hc]
      have hk : ¬ ((a.k : Int) = 0) := by have := hc.1; omega
      have t44 : ∀ w1, Rd p l1 w1 → Calls Tryz.prog 104 #[.pointer (some ⟨p, 0, none⟩), .int .u8 44] w1 fun e w' => e = .returned (.bool true) ∧ Rd p l1.tail w' ∧ Moved p w1 w' :=
        fun w1 h1 => takeI_yes p l1 w1 h1 (by omega) 44 (by decide) (by decide) ((isI_head 44 l1).2 hc.2)
      have kb := fun w1 (h1 : Rd p l1.tail w1) => addr_any p l1.tail w1 h1 (by rw [List.length_tail]; omega)
      unfold AdE at kb
      cases hb : adP reR l1.tail with
      | bad x =>
        rw [hb] at kb
        exact cmd_b_bad p l w h a _ _ rfl rfl l1 ka x kb hk t44
      | ok b l2 =>
        rw [hb] at kb
        have hl2 := adP_len hb
        rw [List.length_tail] at hl2
        dsimp only [Got.bind]
        by_cases hkb : b.k = 0
        · rw [if_pos hkb]
          exact cmd_s_none p l w h a _ _ rfl rfl l1 ka l2 b _ _ rfl rfl kb hk t44 (by omega)
        · rw [if_neg hkb]
          dsimp only
          have kl := tl b l2 (by omega)
          unfold LetE at kl
          have t33 := take33 p l2 (by omega)
          cases hlet : letP reR a b (notB l2) (notL l2) with
          | bad x =>
            rw [hlet] at kl
            exact cmd_s_bad p l w h a _ _ rfl rfl l1 ka l2 b _ _ rfl rfl kb hk t44 (by omega) _ _ t33 x kl
          | ok c lr =>
            rw [hlet] at kl
            obtain ⟨e1, e2, e3⟩ := letP_fields hlet
            dsimp only
            cases he : endedB (blk lr) with
            | false => exact cmd_s_end p l w h a _ _ rfl rfl l1 ka l2 b _ _ rfl rfl kb hk t44 (by omega) _ _ t33 c lr kl he
            | true => exact cmd_s_ok p l w h a _ _ rfl rfl l1 ka l2 b _ _ rfl rfl kb hk t44 (by omega) _ _ t33 c lr kl he e3 e1 e2
    · rw [if_neg hc]
      dsimp only
      have kl0 := tl .none l1 (by omega)
      have kl := fun w1 y2 y3 => kl0 w1 y2 y3 (.int .i64 0) (.slice none 0 0)
      unfold LetE at kl
      have t33 := take33 p l1 (by omega)
      by_cases hk : a.k = 0
      · have hk' : (a.k : Int) = 0 := by omega
        cases hlet : letP reR a .none (notB l1) (notL l1) with
        | bad x =>
          rw [hlet] at kl
          exact cmd_n_bad p l w h a _ _ rfl rfl l1 ka hk' l1 rfl _ _ t33 x kl
        | ok c lr =>
          rw [hlet] at kl
          obtain ⟨e1, e2, e3⟩ := letP_fields hlet
          dsimp only
          cases he : endedB (blk lr) with
          | false => exact cmd_n_end p l w h a _ _ rfl rfl l1 ka hk' l1 rfl _ _ t33 c lr kl he
          | true => exact cmd_n_ok p l w h a _ _ rfl rfl l1 ka hk' l1 rfl _ _ t33 c lr kl he e3 e1 e2
      · have hk' : ¬ ((a.k : Int) = 0) := by omega
        have t44 : ∀ w1, Rd p l1 w1 → Calls Tryz.prog 104 #[.pointer (some ⟨p, 0, none⟩), .int .u8 44] w1 fun e w' => e = .returned (.bool false) ∧ w' = w1 :=
          fun w1 h1 => takeI_no p l1 w1 h1 44 (by decide) (by decide) (by
            cases hi : isI 44 l1
            · rfl
            · exact absurd ⟨hk, (isI_head 44 l1).1 hi⟩ hc)
        cases hlet : letP reR a .none (notB l1) (notL l1) with
        | bad x =>
          rw [hlet] at kl
          exact cmd_c_bad p l w h a _ _ rfl rfl l1 ka hk' t44 l1 rfl _ _ t33 x kl
        | ok c lr =>
          rw [hlet] at kl
          obtain ⟨e1, e2, e3⟩ := letP_fields hlet
          dsimp only
          cases he : endedB (blk lr) with
          | false => exact cmd_c_end p l w h a _ _ rfl rfl l1 ka hk' t44 l1 rfl _ _ t33 c lr kl he
          | true => exact cmd_c_ok p l w h a _ _ rfl rfl l1 ka hk' t44 l1 rfl _ _ t33 c lr kl he e3 e1 e2
end Go.Proofs.YtkgpnlldlekcbaaGreatDoor
namespace Go.Proofs.YtkgpnlldlekcbaaGreatDoor
open Go.RowKit Go.Lib

theorem sep_trim (l : List UInt8) : Lib.trimLeftS l [59, 10, 32] = l.dropWhile sepS := by
  unfold Lib.trimLeftS
  congr 1
  funext c
  show ([59, 10, 32] : List UInt8).contains c = (c == 59 || c == 10 || c == 32)
  simp only [List.contains, List.elem]
  cases (c == 59) <;> cases (c == 10) <;> cases (c == 32) <;> rfl
theorem trimL_any (l : List UInt8) (w : World) : Calls Tryz.prog 78 #[.string ⟨l.toArray⟩, .string ⟨#[59, 10, 32]⟩] w fun e w' => e = .returned (.string ⟨(l.dropWhile sepS).toArray⟩) ∧ Below w.heap.size w w' := by
  have h := Any.strings_TrimLeft_laid Tryz.lays161 (by kernel_rfl) ⟨l.toArray⟩ ⟨#[59, 10, 32]⟩ w (by decide) (ascii_of_all (by decide))
  rw [← sep_trim]
  exact h
theorem CmS.kept {B : Nat} {c : Cm} {xs : List Value} {w w' : World} (h : CmS B c xs w) (kr : ∀ v n ys, w.ownsRow B 163 7 v n ys → w'.ownsRow B 163 7 v n ys) (ks : ∀ v n ys, w.ownsRow B 9 1 v n ys → w'.ownsRow B 9 1 v n ys) : CmS B c xs w' := by
  obtain ⟨va, vb, v, u, hx, h1, h2, h3, h4⟩ := h
  have ha : ∀ (a : Ad) (v : Value), AdS B a v w → AdS B a v w' := fun a v h => by
    cases a with
    | re t => exact kr _ _ _ h
    | none => exact h
    | line n => exact h
    | last => exact h
  refine ⟨va, vb, v, u, hx, ha _ _ h1, ha _ _ h2, ?_, ks _ _ _ h4⟩
  cases hr : c.re with
  | some t => rw [hr] at h3; exact kr _ _ _ h3
  | none => rw [hr] at h3; exact h3
theorem CmS.base {B B' : Nat} {c : Cm} {xs : List Value} {w : World} (h : CmS B c xs w) (hB : B' ≤ B) : CmS B' c xs w := by
  obtain ⟨va, vb, v, u, hx, h1, h2, h3, h4⟩ := h
  exact ⟨va, vb, v, u, hx, h1.base hB, h2.base hB, h3.base hB, owns_base h4 hB⟩
theorem CmS.moved {p B : Nat} {c : Cm} {xs : List Value} {w w' : World} (h : CmS B c xs w) (hp : p < B) (hm : Moved p w w') : CmS B c xs w' := h.kept (fun _ _ _ h => owns_moved h hp hm) fun _ _ _ h => owns_moved h hp hm
theorem CmS.below {B : Nat} {c : Cm} {xs : List Value} {w w' : World} (h : CmS B c xs w) (hb : Below w.heap.size w w') : CmS B c xs w' := h.kept (fun _ _ _ h => owns_same h fun g hg => hb.block g (own_block_lt h hg)) fun _ _ _ h => owns_same h fun g hg => hb.block g (own_block_lt h hg)
theorem CmS.len {B : Nat} {c : Cm} {xs : List Value} {w : World} (h : CmS B c xs w) : xs.length = 13 := by
  obtain ⟨va, vb, v, u, rfl, _⟩ := h
  rfl
/-- A row of commands of one's own. -/
def ScrS (B : Nat) (cs : List Cm) (v : Value) (w : World) : Prop := ∃ xss : List (List Value), xss.length = cs.length ∧ w.ownsRow B 41 13 v cs.length xss.flatten ∧ ∀ (i : Nat) c x, cs[i]? = some c → xss[i]? = some x → CmS B c x w
theorem ScrS.moved {p B : Nat} {cs : List Cm} {v : Value} {w w' : World} (h : ScrS B cs v w) (hp : p < B) (hm : Moved p w w') : ScrS B cs v w' := by
  obtain ⟨xss, h1, h2, h3⟩ := h
  exact ⟨xss, h1, owns_moved h2 hp hm, fun i c x hc hx => (h3 i c x hc hx).moved hp hm⟩
theorem ScrS.below {B : Nat} {cs : List Cm} {v : Value} {w w' : World} (h : ScrS B cs v w) (hb : Below w.heap.size w w') : ScrS B cs v w' := by
  obtain ⟨xss, h1, h2, h3⟩ := h
  exact ⟨xss, h1, owns_same h2 fun g hg => hb.block g (own_block_lt h2 hg), fun i c x hc hx => (h3 i c x hc hx).below hb⟩
theorem ScrS.base {B B' : Nat} {cs : List Cm} {v : Value} {w : World} (h : ScrS B cs v w) (hB : B' ≤ B) : ScrS B' cs v w := by
  obtain ⟨xss, h1, h2, h3⟩ := h
  exact ⟨xss, h1, owns_base h2 hB, fun i c x hc hx => (h3 i c x hc hx).base hB⟩
theorem ScrS.nil (B : Nat) (w : World) : ScrS B [] (.slice none 0 0) w := ⟨[], rfl, World.ownsRow_nil _ _ _ _, fun i c x hc _ => by simp at hc⟩
/-- One command more. -/
theorem scrS_snoc {B m : Nat} {cs : List Cm} {d : Cm} {v v6 : Value} {xs : List Value} {o : Obj} {w w6 : World} {xss : List (List Value)} (hm : m = cs.length) (h1 : xss.length = cs.length) (h2 : w.ownsRow B 41 13 v m xss.flatten) (h3 : ∀ (i : Nat) c x, cs[i]? = some c → xss[i]? = some x → CmS B c x w) (hd : CmS B d xs w)
    (h6 : w6.ownsRow B 41 13 v6 (m + 1) (xss.flatten ++ xs)) (hg : (w.alloc o).grownBy w6 v.ownBlock) : ScrS B (cs ++ [d]) v6 w6 := by
  subst hm
  have hk : ∀ (e : TypeId) (sz : Nat), e ≠ 41 → ∀ u n ys, w.ownsRow B e sz u n ys → w6.ownsRow B e sz u n ys := fun e sz he u n ys h => owns_same h fun q hq => (hg.block q (by have := own_block_lt h hq; simp; omega) (fun e' => rows_apart h2 h he hq e'.symm)).trans (Below.heap_alloc _ _ _ (own_block_lt h hq))
  have hkc : ∀ c x, CmS B c x w → CmS B c x w6 := fun c x h => h.kept (hk _ _ (by decide)) (hk _ _ (by decide))
  refine ⟨xss ++ [xs], by rw [List.length_append, List.length_append, h1]; rfl, ?_, fun i c x hc hx => ?_⟩
  · rw [List.length_append, List.flatten_append]
    simpa using h6
  · by_cases hi : i < cs.length
    · rw [List.getElem?_append_left hi] at hc
      rw [List.getElem?_append_left (by omega)] at hx
      exact hkc _ _ (h3 i c x hc hx)
    · rw [List.getElem?_append_right (by omega)] at hc
      rw [List.getElem?_append_right (by omega)] at hx
      have hi0 : i - cs.length = 0 := by
        by_cases h : i - cs.length = 0
        · exact h
        · rw [List.getElem?_eq_none (by simp; omega)] at hc; cases hc
      rw [hi0] at hc
      rw [h1, hi0] at hx
      cases hc; cases hx
      exact hkc _ _ hd
theorem Tryz.infoCmdZ : (Tryz.prog.info? 41).map (fun i => (i.zero, i.size, i.bytes)) = some (some (.agg #[.int .u8 0, .int .i64 0, .int .i64 0, .slice none 0 0, .int .i64 0, .int .i64 0, .slice none 0 0, .bool false, .slice none 0 0, .slice none 0 0, .bool false, .bool false, .string ByteArray.empty]), 13, 168) := by kernel_rfl
theorem cells_thirteen (w : World) (t : TypeId) (a b c d e f g h i j k l m : Value) : ∀ r x, [a, b, c, d, e, f, g, h, i, j, k, l, m][r]? = some x → (w.alloc (.cells #[a, b, c, d, e, f, g, h, i, j, k, l, m] t)).cell? ((⟨w.heap.size, 0, none⟩ : Addr).add r) = some x := by
  intro r x hx
  have hh := heap_alloc_new w (.cells #[a, b, c, d, e, f, g, h, i, j, k, l, m] t)
  have ea : (⟨w.heap.size, 0, none⟩ : Addr).add r = ⟨w.heap.size, r, none⟩ := by simp [Addr.add]; intro h; exact h.symm
  rw [ea, cell_of_heap hh]
  simpa using hx
/-- Where the reading may be. -/
structure ScI (p : Nat) (l0 : List UInt8) (w : World) (g : Nat) (v : Value) (wr : World) : Prop where
  at' : ∃ l cs, g = l.length + 1 ∧ scr reR l0 [] = scr reR l cs ∧ l.length ≤ l0.length ∧ cs.length ≤ 2000 ∧ Rd p l wr ∧ ScrS w.heap.size cs v wr
  moved : Moved p w wr
/-- What script does. -/
def ScE (p : Nat) (l : List UInt8) (w : World) (e : Ending) (w' : World) : Prop := match scr reR l [] with
  | .ok cs => ∃ v, e = .returned v ∧ ScrS w.heap.size cs v w' ∧ cs.length ≤ 2000 ∧ Below p w w'
  | .bad x => e = errV x ∧ Below p w w'
set_option maxHeartbeats 8000000 in
set_option maxRecDepth 20000 in
theorem script_any (p : Nat) (l0 : List UInt8) (w : World) (h : Rd p l0 w) (hl : l0.length ≤ 1000000000) :
    Calls Tryz.prog 47 #[.pointer (some ⟨p, 0, none⟩)] w (ScE p l0 w) := by
  have HI := Lib.hid (show ScI p l0 w (l0.length + 1) (.slice none 0 0) w from ⟨⟨l0, [], rfl, rfl, Nat.le_refl _, by simp, h, ScrS.nil _ _⟩, .refl _ _⟩)
  obtain ⟨i0, hi, hz0, hz1, hz2⟩ := info_parts Tryz.infoCmdZ
  have HI0 := Lib.hid (And.intro hi (And.intro hz0 (And.intro hz1 hz2)))
  have HP := Lib.hid h.lt
  clear hi hz0 hz1 hz2 h
  go_enter Tryz.func47, Tryz.ntmps47
  go_wp2_with fail
  go_loopg [3] (l0.length + 1) (fun g v wr => Hid (ScI p l0 w g v wr))
  case atStart => exact HI.out
  case round =>
    obtain ⟨⟨l, cs, hg, hsc, hll, hcl, hrd, hss⟩, hmv⟩ := hrel.out
    clear hrel HI
    obtain ⟨xss, hx1, hx2, hx3⟩ := hss
    obtain ⟨ao, cap, rfl⟩ := own_zeroB hx2
    obtain ⟨m, hm⟩ : ∃ m, m = cs.length := ⟨_, rfl⟩
    rw [← hm] at hx2 ⊢
    have HCL := Lib.hid hcl
    have kT := trimL_any l wr
    obtain ⟨c1, f1⟩ := hrd.cell
    have hdl := dw_len sepS l
    rw [scr_eq reR l cs] at hsc
    have HRd := Lib.hid hrd
    have HX := Lib.hid (And.intro hx1 (And.intro hx2 hx3))
    have HM := Lib.hid hmv
    clear hcl hrd hx1 hx2 hx3 hmv
    obtain ⟨L1, hL1⟩ : ∃ L1, L1 = l.dropWhile sepS := ⟨_, rfl⟩
    rw [← hL1] at hsc hdl kT
    have HSC := Lib.hid hsc
    have HG := Lib.hid hg
    have HD := Lib.hid hdl
    have HLL := Lib.hid hll
    have HMM := Lib.hid hm
    clear hsc hg hdl hll hL1 hm
    obtain ⟨U, hU⟩ : ∃ U : ByteArray, U = ⟨L1.toArray⟩ := ⟨_, rfl⟩
    rw [← hU] at kT
    have HPP := HP.out
    -- behind the first store
    have h1 : ∀ w1, Below wr.heap.size wr w1 → Rd p L1 (w1.setCell ⟨p, 0, none⟩ (.string U)) ∧ Moved p wr (w1.setCell ⟨p, 0, none⟩ (.string U)) ∧ (w1.setCell ⟨p, 0, none⟩ (.string U)).cell? ⟨p, 0, none⟩ = some (.string U) ∧ w1.frozen? ⟨p, 0, none⟩ = false ∧ w1.cell? ⟨p, 0, none⟩ = some (.string ⟨l.toArray⟩) := fun w1 hb => by
      have hr := (HRd.out.below hb)
      have hp := hr.put L1
      rw [← hU] at hp
      refine ⟨hp, (Moved.of hb HRd.out.lt).trans (.set _ _ _ _), ?_, hr.cell.2, hr.cell.1⟩
      have := hp.cell.1
      rw [← hU] at this
      exact this
    have H1 := Lib.hid h1
    clear h1
    cases L1 with
    | nil =>
      have hE : U.toList.isEmpty = true := by rw [hU]; exact list_empty
      have HUU := Lib.hid hU
      clear hU
      go_wp2_with (first
        | (go_at_call 78; refine kT.mono ?_; rintro e w1 ⟨rfl, hb1⟩; obtain ⟨g1, g2, g3, g4, g5⟩ := H1.out w1 hb1; have HB1 := Lib.hid (And.intro g1 g2); clear g1 g2 hb1))
      try rw [Exit.noGoto_ret]
      refine bodyPost_ret (results_tmp rfl _ _ _) rfl ?_
      show ScE p l0 w _ _
      unfold ScE
      rw [HSC.out]
      show ∃ v, _
      refine ⟨_, rfl, ?_, HCL.out, (HM.out.trans HB1.out.2).low⟩
      have hX := HX.out
      have hw := HMM.out
      rw [hw] at hX ⊢
      exact ScrS.moved ⟨xss, hX.1, hX.2.1, hX.2.2⟩ HPP HB1.out.2
    | cons c L2 =>
      have hE : U.toList.isEmpty = false := by rw [hU]; exact list_full c L2
      have HUU := Lib.hid hU
      clear hU
      have ka : ∀ w', Rd p (c :: L2) w' → Calls Tryz.prog 79 #[.pointer (some ⟨p, 0, none⟩), .string ⟨#[48, 49, 50, 51, 52, 53, 54, 55, 56, 57, 36, 47, 33, 112, 100, 113, 110, 104, 72, 103, 71, 120, 115, 98, 116, 58]⟩] w' fun e w'' => e = .returned (.bool (opensS.contains c)) ∧ w'' = w' := fun w' hr => at8_any p opensS (c :: L2) w' hr
      cases ho : opensS.contains c with
      | false =>
        rw [ho] at ka
        have HO := Lib.hid ho
        clear ho
        go_wp2_with (first
          | (go_at_call 78; refine kT.mono ?_; rintro e w1 ⟨rfl, hb1⟩; obtain ⟨g1, g2, g3, g4, g5⟩ := H1.out w1 hb1; have HB1 := Lib.hid (And.intro g1 g2); clear g2 hb1 kT)
          | (go_at_call 79; refine (ka _ g1).mono ?_; rintro e w2 ⟨rfl, hw2⟩; rw [hw2]; clear hw2))
        refine ⟨rfl, ?_⟩
        show ScE p l0 w _ _
        unfold ScE
        rw [HSC.out]
        unfold scrS
        dsimp only
        rw [if_pos HO.out]
        exact ⟨rfl, (HM.out.trans HB1.out.2).low⟩
      | true =>
        rw [ho] at ka
        have HO := Lib.hid ho
        clear ho
        by_cases h20 : m = 2000
        · subst h20
          go_wp2_with (first
            | (go_at_call 78; refine kT.mono ?_; rintro e w1 ⟨rfl, hb1⟩; obtain ⟨g1, g2, g3, g4, g5⟩ := H1.out w1 hb1; have HB1 := Lib.hid (And.intro g1 g2); clear g2 hb1 kT)
            | (go_at_call 79; refine (ka _ g1).mono ?_; rintro e w2 ⟨rfl, hw2⟩; rw [hw2]; clear hw2))
          refine ⟨rfl, ?_⟩
          show ScE p l0 w _ _
          unfold ScE
          rw [HSC.out]
          unfold scrS
          dsimp only
          rw [if_neg (by rw [HO.out]; simp), if_pos HMM.out.symm]
          exact ⟨rfl, (HM.out.trans HB1.out.2).low⟩
        · have e20 : ((m : Int) == 2000) = false := by rw [beq_eq_false_iff_ne]; omega
          have hm20 : m < 2000 := by have := HCL.out; have := HMM.out; omega
          have hlen : (c :: L2).length ≤ 1000000000 := by have := HD.out; have := HLL.out; omega
          have kc := fun w' (hr : Rd p (c :: L2) w') => com_any p (c :: L2) w' hr hlen
          unfold ComE at kc
          cases hc : comP reR (c :: L2) with
          | bad x =>
            rw [hc] at kc
            have HC := Lib.hid hc
            clear hc hlen
            unfold errV at kc
            go_wp2_with (first
              | (go_at_call 78; refine kT.mono ?_; rintro e w1 ⟨rfl, hb1⟩; obtain ⟨g1, g2, g3, g4, g5⟩ := H1.out w1 hb1; have HB1 := Lib.hid (And.intro g1 g2); clear g2 hb1 kT)
              | (go_at_call 79; refine (ka _ g1).mono ?_; rintro e w2 ⟨rfl, hw2⟩; rw [hw2]; clear hw2)
              | (go_at_call 80; refine (kc _ g1).mono ?_; rintro e w3 ⟨rfl, hb3⟩))
            refine ⟨rfl, ?_⟩
            show ScE p l0 w _ _
            unfold ScE
            rw [HSC.out]
            unfold scrS
            dsimp only
            rw [if_neg (by rw [HO.out]; simp), if_neg (by have := HMM.out; omega), HC.out]
            exact ⟨rfl, (HM.out.trans HB1.out.2).low.trans hb3⟩
          | ok d l2 =>
            rw [hc] at kc
            have HC := Lib.hid hc
            have hlc := comP_len hc
            clear hc hlen
            go_wp2_with (first
              | (go_at_call 78; refine kT.mono ?_; rintro e w1 ⟨rfl, hb1⟩; obtain ⟨g1, g2, g3, g4, g5⟩ := H1.out w1 hb1; have HB1 := Lib.hid (And.intro g1 g2); clear g2 hb1 kT)
              | (go_at_call 79; refine (ka _ g1).mono ?_; rintro e w2 ⟨rfl, hw2⟩; rw [hw2]; clear hw2)
              | (go_at_call 80; refine (kc _ g1).mono ?_; rintro e w5 ⟨xs, rfl, hcm, r5, m5⟩
                 have hz5 := HB1.out.2.low.size
                 have hzr := HM.out.low.size
                 have hcm2 := CmS.base (B' := w.heap.size) hcm (by omega)
                 have HM5 := Lib.hid (HB1.out.2.trans m5)
                 have hz6 : wr.heap.size ≤ w5.heap.size := HM5.out.low.size
                 have hX5 := ScrS.moved (v := .slice ao m cap) (cs := cs) ⟨xss, HX.out.1, by have := HMM.out; rw [← this]; exact HX.out.2.1, HX.out.2.2⟩ HPP HM5.out
                 have HR5 := Lib.hid (And.intro r5 hcm2)
                 have hx5 := owns_moved HX.out.2.1 HPP HM5.out
                 obtain ⟨va, vb, v', u', rfl, hva, hvb, hv', hu'⟩ := hcm2
                 obtain ⟨a1, a2, a3, rfl⟩ := ads_slice hva
                 obtain ⟨b1, b2, b3, rfl⟩ := ads_slice hvb
                 obtain ⟨d1, d2, d3, rfl⟩ := res_slice hv'
                 obtain ⟨q1, q2, rfl⟩ := own_zeroB hu'
                 have HO5 := Lib.hid hx5
                 clear hcm m5 hva hvb hv' hu' hX5 hx5 r5)
              | (at_builtin; refine wpList_append_own _ rfl (.tmp 29) (.tmp 32) 26 rfl w.heap.size 41 i0 (.agg #[.int .u8 0, .int .i64 0, .int .i64 0, .slice none 0 0, .int .i64 0, .int .i64 0, .slice none 0 0, .bool false, .slice none 0 0, .slice none 0 0, .bool false, .bool false, .string ByteArray.empty]) 13 168 Tryz.underlying26 HI0.out.1 HI0.out.2.1 HI0.out.2.2.1 HI0.out.2.2.2 rfl (by decide) _ m xss.flatten rfl (owns_alloc HO5.out) ⟨w5.heap.size, 0, none⟩ 1 1 _ rfl rfl (cells_thirteen _ _ _ _ _ _ _ _ _ _ _ _ _ _ _) (by simp [Value.oneCell']) (by unfold maxLen; omega) (by omega) (by simp; omega) ?_; intro v6 w6 hown6 hgrow6 _
                 have HO6 := Lib.hid (And.intro hown6 hgrow6)
                 clear hown6 hgrow6))
            have hown6 := HO6.out.1
            have hgrow6 := HO6.out.2
            obtain ⟨g6, cap6, hv6⟩ := owned_slice hown6 (by omega)
            subst hv6
            go_roundg (l2.length + 1)
            case rel =>
              have hmm := HMM.out
              have hX := HX.out
              have hsn := scrS_snoc hmm hX.1 HO5.out (fun i c x hc hx => (hX.2.2 i c x hc hx).moved HPP HM5.out) HR5.out.2 hown6 hgrow6
              refine ⟨⟨l2, cs ++ [d], rfl, ?_, ?_, ?_, ?_, ?_⟩, ?_⟩
              · rw [HSC.out, scrS_more HO.out (by omega) HC.out]
              · have := HD.out; have := HLL.out; omega
              · rw [List.length_append]; simp; omega
              · refine (hgrow6.block p (by simp; omega) (fun e => ?_)).trans ((Below.heap_alloc _ _ _ HR5.out.1.lt).trans HR5.out.1)
                have := own_base HO5.out e.symm
                omega
              · have e1 : (cs ++ [d]).length = m + 1 := by rw [List.length_append, ← hmm]; rfl
                exact hsn
              · have hlow : Below p wr w6 := (HM5.out.low.alloc (by omega) _).grown hgrow6 (by simp; omega) (fun r hr => by have := own_base HO5.out hr; omega)
                refine ⟨HM.out.low.trans hlow, fun g hg hs => ?_⟩
                have a := hgrow6.block g (by simp; omega) (fun e => by have := own_base HO5.out e.symm; omega)
                exact a.trans ((Below.heap_alloc _ _ _ (by omega)).trans ((HM5.out.high g hg (by omega)).trans (HM.out.high g hg hs)))
            case measure => have := HG.out; have := HD.out; omega
end Go.Proofs.YtkgpnlldlekcbaaGreatDoor
