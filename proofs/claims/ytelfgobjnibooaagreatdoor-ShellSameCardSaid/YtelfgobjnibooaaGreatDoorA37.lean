/- Packed texts: RfRead. What each of them proves stands above its theorems; the conditions stand in these. -/
import Derived.Test.YtelfgobjnibooaaGreatDoorA36
namespace Go.Proofs.YtelfgobjnibooaaGreatDoor
open Go.RowKit Go.Lib
theorem keyx_cases (l : List UInt8) (h : keyX (.at l) = []) : shKeys.contains (keyS l) = false := by
 have h : (if shKeys.contains (keyS l) = true then keyS l else []) = [] := h
 cases hk : shKeys.contains (keyS l) with
 | false => rfl
 | true =>
  rw [hk, if_pos rfl] at h
  rw [h] at hk
  revert hk
  decide
theorem keyx_key {l : List UInt8} {k : List UInt8} (h : keyX (.at l) = k) (hk : k ≠ []) : keyS l = k := by
 have h : (if shKeys.contains (keyS l) = true then keyS l else []) = k := h
 split at h
 ·exact h
 ·exact absurd h.symm hk
theorem cmd_key {sub : Deeper} {l : List UInt8} (h : keyX (.at l) = []) : cmdS sub l = simpleS sub l := by
 have hk := keyx_cases l h
 have hn : ∀ k ∈ shKeys, keyS l ≠ k := fun k hm e => by
  rw [e] at hk
  have : shKeys.contains k = true := by simpa using hm
  rw [this] at hk
  cases hk
 unfold cmdS
 rw [if_neg (hn _ (by decide)), if_neg (hn _ (by decide)), if_neg (hn _ (by decide))]
theorem command_zero (n0 p : Nat) (S : ByteArray) (hS : S.size ≤ 1048576) : CmdP n0 p S 30 0 := by
 intro s w h hgap
 have hD : DeepP n0 p S 30 0 := rfl
 cases s with
 | bad e => exact command_simple n0 0 p S 30 (.bad e) w h hS hgap hD rfl
 | «at» l =>
  have hg : gapS l = l := by injection hgap
  show Calls _ _ _ _ fun e w' => AnsC n0 (cmdS (rlvl 0) l) w e w' ∧ TS p S 30 (cmdS (rlvl 0) l).sx w' ∧ Mvr p w w'
  rcases key_ways l with ⟨hk | hk | hk | hk, _⟩ | ⟨hk, hb⟩
  ·rw [cmd_key hk]
   exact command_simple n0 0 p S 30 (.at l) w h hS hgap hD hk
  ·have : cmdS (rlvl 0) l = .bad 7 := by unfold cmdS; rw [keyx_key hk (by simp), if_pos rfl]; rfl
   rw [this]
   exact command_deep n0 p S l w h hS hg (.inl hk)
  ·have : cmdS (rlvl 0) l = .bad 7 := by unfold cmdS; rw [keyx_key hk (by simp), if_neg (by decide), if_pos rfl]; rfl
   rw [this]
   exact command_deep n0 p S l w h hS hg (.inr (.inl hk))
  ·have : cmdS (rlvl 0) l = .bad 7 := by unfold cmdS; rw [keyx_key hk (by simp), if_neg (by decide), if_neg (by decide), if_pos rfl]; rfl
   rw [this]
   exact command_deep n0 p S l w h hS hg (.inr (.inr hk))
  ·rw [cmd_bad (rlvl_good 0) hb]
   exact command_bad n0 p S 30 l w h hS hg hk
theorem command_succ (n0 k p : Nat) (S : ByteArray) (d : Nat) (hS : S.size ≤ 1048576) (hd : d < 30) (KL : ListP n0 p S (d + 1) k) (KW : WordsP n0 p S (d + 1) k) : CmdP n0 p S d (k + 1) := by
 intro s w h hgap
 have hD : DeepP n0 p S d (k + 1) := ⟨hd, KL⟩
 cases s with
 | bad e => exact command_simple n0 (k + 1) p S d (.bad e) w h hS hgap hD rfl
 | «at» l =>
  have hg : gapS l = l := by injection hgap
  show Calls _ _ _ _ fun e w' => AnsC n0 (cmdS (rlvl (k + 1)) l) w e w' ∧ TS p S d (cmdS (rlvl (k + 1)) l).sx w' ∧ Mvr p w w'
  rcases key_ways l with ⟨hk | hk | hk | hk, _⟩ | ⟨hk, hb⟩
  ·rw [cmd_key hk]
   exact command_simple n0 (k + 1) p S d (.at l) w h hS hgap hD hk
  ·have : cmdS (rlvl (k + 1)) l = choiceS (gK k) (l.drop 2) := by unfold cmdS; rw [keyx_key hk (by simp), if_pos rfl]; rfl
   rw [this]
   exact command_if n0 k p S d l w h hS hg hk hd KL
  ·have : cmdS (rlvl (k + 1)) l = roundsS (gK k) (l.drop 5) := by unfold cmdS; rw [keyx_key hk (by simp), if_neg (by decide), if_pos rfl]; rfl
   rw [this]
   exact command_while n0 k p S d l w h hS hg hk hd KL
  ·have : cmdS (rlvl (k + 1)) l = eachS (gK k) (l.drop 3) := by unfold cmdS; rw [keyx_key hk (by simp), if_neg (by decide), if_neg (by decide), if_pos rfl]; rfl
   rw [this]
   exact command_for n0 k p S d l w h hS hg hk hd KL KW
  ·rw [cmd_bad (rlvl_good (k + 1)) hb]
   exact command_bad n0 p S d l w h hS hg hk
theorem list_levels (p : Nat) (S : ByteArray) (hS : S.size ≤ 1048576) : ∀ k, k ≤ 30 → ListP (3 * (k + 1)) p S (30 - k) k ∧ WordsP (3 * (k + 1)) p S (30 - k) k
 | 0, _ => by
  refine ⟨listF_any 0 0 p S 30 (command_zero 0 p S hS) hS, fun t w9 h9 => ?_⟩
  exact wordsF_any 3 0 p S 30 t w9 h9 hS rfl
 | k + 1, hk => by
  obtain ⟨h1, h2⟩ := list_levels p S hS k (by omega)
  have e : 30 - k = (30 - (k + 1)) + 1 := by omega
  rw [e] at h1 h2
  have hd : 30 - (k + 1) < 30 := by omega
  refine ⟨listF_any _ _ p S _ (command_succ _ k p S _ hS hd h1 h2) hS, fun t w9 h9 => ?_⟩
  have hD : DeepP (3 * (k + 1)) p S (30 - (k + 1)) (k + 1) := ⟨hd, h1⟩
  refine (wordsF_any (3 * (k + 1)) (k + 1) p S _ t w9 h9 hS hD).mono fun e w' hh => ⟨?_, hh.2⟩
  obtain ⟨⟨ws, al, cl, e1, e2, e3, e4⟩, _⟩ := hh
  exact ⟨ws, al, cl, e1, wds_ups (cos_ups (show 3 * (k + 1) ≤ 3 * (k + 1 + 1) by omega)) _ _ _ _ e2, e3, e4⟩
def RdF (l : List UInt8) (w : World) (e : Ending) (w' : World) : Prop := ∃ (al : Option Addr) (cl : Nat), e = .returned (.tuple #[.slice al (readSh l).1.length cl, .int .i64 (readSh l).2]) ∧ (cosV 93).q (NewF w.heap.size w'.heap.size) w' (.slice al (readSh l).1.length cl) (readSh l).1 ∧ Below w.heap.size w w'
set_option maxHeartbeats 4000000 in
set_option maxRecDepth 20000 in
theorem refRead11_any (S : ByteArray) (w : World) : Calls Tryz.prog 6 #[.string S] w (RdF S.data.toList w) := by
 unfold RdF
 rw [← readRf_eq]
 unfold readRf
 have hsz : S.data.toList.length = S.size := Array.length_toList
 rw [hsz]
 by_cases hbig : 1048576 < S.size
 ·rw [if_pos hbig]
  have hbI : (1048576 : Int) < (S.size : Int) := by omega
  have hbd : decide ((1048576 : Int) < (S.size : Int)) = true := decide_eq_true hbI
  clear hsz
  go_enter Tryz.func6, Tryz.ntmps6
  go_wp2
  go_ret2
  exact ⟨none, 0, rfl, cos_nil _ _ _, Below.refl _ _⟩
 ·rw [if_neg hbig]
  have hbI : ¬ (1048576 : Int) < (S.size : Int) := by omega
  have hbd : decide ((1048576 : Int) < (S.size : Int)) = false := decide_eq_false hbI
  have hS : S.size ≤ 1048576 := by omega
  obtain ⟨l, hl⟩ : ∃ l, S.data.toList = l := ⟨_, rfl⟩
  rw [hl]
  obtain ⟨W1, hW1⟩ : ∃ W1, W1 = w.alloc (.cells #[.string S, .int .i64 0, .int .i64 0, .int .i64 0] 45) := ⟨_, rfl⟩
  have hb1 : Below w.heap.size w W1 := by rw [hW1]; exact (Below.refl _ w).alloc (Nat.le_refl _) _
  have ts1 : TS w.heap.size S 0 (.at l) W1 := by rw [hW1]; exact ⟨0, heap_alloc_new w _, Nat.zero_le _, by rw [hl]; rfl⟩
  have kl := (list_levels w.heap.size S hS 30 (Nat.le_refl _)).1 (.at l) W1 ts1
  rw [show (Sx.at l).run (rlistS (rlvl 30)) = rlistS (rlvl 30) l from rfl] at kl
  obtain ⟨X, hX⟩ : ∃ X, rlistS (rlvl 30) l = X := ⟨_, rfl⟩
  rw [hX] at kl ⊢
  have LOW := Lib.hid (fun (w2 : World) (m : Mvr w.heap.size W1 w2) => hb1.trans m.low)
  have hz1 : w.heap.size ≤ W1.heap.size := hb1.size
  have HZ := Lib.hid hz1
  rw [hW1] at kl LOW HZ
  clear hl hW1 hb1 ts1 hX hsz hz1
  cases X with
  | bad x =>
   show Calls _ _ _ _ fun e w' => ∃ (al : Option Addr) (cl : Nat), e = .returned (.tuple #[.slice al 0 cl, .int .i64 x]) ∧ (cosV 93).q (NewF w.heap.size w'.heap.size) w' (.slice al 0 cl) [] ∧ Below w.heap.size w w'
   go_enter Tryz.func6, Tryz.ntmps6
   go_wp2_with (go_at_call 15; (with_reducible refine kl.mono ?_); rintro e w2 ⟨⟨cs, al, m, cl, rfl, hq, hc⟩, ⟨h0, a, h2, -⟩, m2⟩; obtain ⟨⟨c0, c1, c2, c3⟩, -⟩ := h2.cells; have hx1 : (x == 0) = false := (by rw [beq_eq_false_iff_ne]; exact h0); have hx2 : (x != 0) = true := (by simp [h0]); have B2 := Lib.hid (LOW.out w2 m2); clear hq hc h2 m2 kl h0)
   go_quiet (fail)
   go_wp2
   go_ret2
   exact ⟨none, 0, rfl, cos_nil _ _ _, below_draws B2.out _⟩
  | ok cs r =>
   cases r with
   | nil =>
    show Calls _ _ _ _ fun e w' => ∃ (al : Option Addr) (cl : Nat), e = .returned (.tuple #[.slice al cs.length cl, .int .i64 0]) ∧ (cosV 93).q (NewF w.heap.size w'.heap.size) w' (.slice al cs.length cl) cs ∧ Below w.heap.size w w'
    have FIN := Lib.hid (fun (w2 : World) (n : Nat) (al : Option Addr) (cl : Nat) (hq : (cosV 93).q (NewF W1.heap.size w2.heap.size) w2 (.slice al cs.length cl) cs) => (by trivial : True))
    go_enter Tryz.func6, Tryz.ntmps6
    go_wp2_with (go_at_call 15; (with_reducible refine kl.mono ?_); rintro e w2 ⟨⟨cs', al, m, cl, rfl, hq, hc⟩, ⟨a, h2, ha, hl⟩, m2⟩; obtain ⟨⟨c0, c1, c2, c3⟩, -⟩ := h2.cells; obtain rfl : cs' = cs := hc _ _ rfl; obtain ⟨ao, cap, hsh, -⟩ := cos_shape hq; injection hsh with q1 q2 q3; have hge : a = S.size := restR_nil ha hl; have hnl : ¬ (a : Int) < (S.size : Int) := (by omega); have hnd : decide ((a : Int) < (S.size : Int)) = false := decide_eq_false hnl; have HQ := Lib.hid (And.intro hq (And.intro q2 m2)); clear hq hc h2 m2 kl q1 q2 q3 ha hl hge)
    go_ret2
    have q2 := HQ.out.2.1
    subst q2
    refine ⟨al, cl, rfl, (cosV 93).mono _ _ _ _ _ (fun g hg => ⟨Nat.le_trans HZ.out hg.1, hg.2⟩) HQ.out.1, LOW.out w2 HQ.out.2.2⟩
   | cons c r =>
    show Calls _ _ _ _ fun e w' => ∃ (al : Option Addr) (cl : Nat), e = .returned (.tuple #[.slice al 0 cl, .int .i64 9]) ∧ (cosV 93).q (NewF w.heap.size w'.heap.size) w' (.slice al 0 cl) [] ∧ Below w.heap.size w w'
    go_enter Tryz.func6, Tryz.ntmps6
    go_wp2_with (first
     | (go_at_call 15; (with_reducible refine kl.mono ?_); rintro e w2 ⟨⟨cs', al, m, cl, rfl, hq, hc⟩, h2, m2⟩; have kf := fail_at w.heap.size S 0 (c :: r) 9 (by decide) w2 h2; obtain ⟨a, h2, ha, hl⟩ := h2; obtain ⟨⟨c0, c1, c2, c3⟩, -⟩ := h2.cells; obtain ⟨hlt, -, -⟩ := restR hl; have hlI : (a : Int) < (S.size : Int) := (by omega); have hld : decide ((a : Int) < (S.size : Int)) = true := decide_eq_true hlI; have M2 := Lib.hid m2; clear hq hc h2 m2 kl ha hl)
     | (go_at_call 16; (with_reducible refine kf.mono ?_); rintro e w3 ⟨rfl, ⟨-, a3, h3, -⟩, m3⟩; obtain ⟨⟨d0, d1, d2, d3⟩, -⟩ := h3.cells; have B3 := Lib.hid (LOW.out w3 (M2.out.trans m3)); clear h3 m3 kf))
    go_quiet (fail)
    go_wp2
    go_ret2
    exact ⟨none, 0, rfl, cos_nil _ _ _, below_draws B3.out _⟩
end Go.Proofs.YtelfgobjnibooaaGreatDoor
