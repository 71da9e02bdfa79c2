/- Packed texts: RfPipe, RfPipe2, RfLine. What each of them proves stands above its theorems; the conditions stand in these. -/
import Derived.Test.YtelfgobjnibooaaGreatDoorA32
namespace Go.Proofs.YtelfgobjnibooaaGreatDoor
open Go.RowKit Go.Lib
def CmdP (n0 p : Nat) (S : ByteArray) (d k : Nat) : Prop := ∀ (s : Sx) (w : World), TS p S d s w → s.map gapS = s → Calls Tryz.prog 82 #[.pointer (some ⟨p, 0, none⟩)] w fun e w' => AnsC n0 (s.run (cmdS (rlvl k))) w e w' ∧ TS p S d (s.run (cmdS (rlvl k))).sx w' ∧ Mvr p w w'
set_option maxRecDepth 100000 in
theorem Tryz.infoCmdRf : (Tryz.prog.info? 37).map (fun i => (i.zero, i.size, i.bytes)) = some (some (.agg #[.int .i64 0, .slice none 0 0, .slice none 0 0, .slice none 0 0, .slice none 0 0, .slice none 0 0, .slice none 0 0]), 7, 152) := by kernel_rfl
set_option maxRecDepth 100000 in
theorem Tryz.infoCmdSq : (Tryz.prog.info? 37).map (·.size) = some 7 := by kernel_rfl
theorem kd_cmd (n : Nat) : Kd (cmdE (cosV n)) 23 37 152 := by
 obtain ⟨i, hi, h0, h1, h2⟩ := info_parts Tryz.infoCmdRf
 refine ⟨Tryz.underlying23, ⟨i, _, hi, h0, h1, h2, rfl⟩, Nat.succ_pos 6, fun F w x cs h u hu => ?_⟩
 obtain ⟨vn, vv, vw, va, vb, vc, rfl, h1, h2, h3, h4, h5, h6⟩ := h
 obtain ⟨a1, c1, rfl, _⟩ := str_shape h1
 obtain ⟨a2, c2, rfl, _⟩ := wds_shape h2
 obtain ⟨a3, c3, rfl, _⟩ := wds_shape h3
 obtain ⟨a4, c4, rfl, _⟩ := cos_shape h4
 obtain ⟨a5, c5, rfl, _⟩ := cos_shape h5
 obtain ⟨a6, c6, rfl, _⟩ := cos_shape h6
 simp only [List.mem_cons, List.not_mem_nil, or_false] at hu
 rcases hu with rfl | rfl | rfl | rfl | rfl | rfl | rfl <;> rfl
abbrev CosO (n B : Nat) (A : Nat → Prop) (w : World) (v : Value) (xs : List Co) : Prop := RowO (cmdE (cosV n)) 37 B A w v xs
theorem rowO_one {X : Type} {E : ElemP X} {e : TypeId} {B : Nat} {Fx : Nat → Prop} {w : World} {x : X} {cs : List Value} (hx : E.q Fx w x cs) (hF : ∀ g, Fx g → B ≤ g ∧ g < w.heap.size) (hB : B ≤ w.heap.size) : RowO E e B NoneF (w.alloc (.cells cs.toArray e)) (.slice (some ⟨w.heap.size, 0, none⟩) 1 1) [x] := by
 have hl := E.len _ _ _ _ hx
 refine ⟨[cs], Fx, rfl, fun i y ds hy hd => ?_, ?_, fun g hg => ⟨(hF g hg).1, by have := (hF g hg).2; rw [World.size_alloc]; omega⟩, fun g hg hf => ?_, fun g hg => hg.elim⟩
 ·cases i with
  | zero => cases hy; cases hd; exact E.same _ _ _ _ _ (fun g hg => Below.heap_alloc _ _ _ (hF g hg).2) hx
  | succ i => cases hy
 ·refine ⟨by simp [hl], .inr ⟨w.heap.size, 1, _, rfl, hB, heap_alloc_new w _, Nat.le_refl _, by unfold maxLen; omega, ?_, ?_⟩⟩
  ·simp [hl]
  ·simp [← hl]
 ·have hg : some w.heap.size = some g := hg
  cases hg
  have := (hF _ hf).2
  omega
def rowC (kind : Nat) : List Co → Co
 | [c] => c
 | xs => .mk kind [] [] [] xs [] []
theorem rowC_snoc (kind : Nat) (cs : List Co) (c : Co) : (if cs = [] then c else .mk kind [] [] [] (cs ++ [c]) [] []) = rowC kind (cs ++ [c]) := by
 cases cs with
 | nil => rfl
 | cons a cs =>
  rw [if_neg (by simp)]
  cases cs <;> rfl
structure PI (n0 p : Nat) (S : ByteArray) (d : Nat) (w : World) (b n : Nat) (xs : List Co) (v : Value) (t : Sx) (wr : World) : Prop where
 ts : TS p S d t wr
 mv : Mvr p w wr
 row : CosO n0 (b + 1) NoneF wr v xs
 res : wr.heap[b]? = some (.cells #[.int .i64 0, .slice none 0 0, .slice none 0 0, .slice none 0 0, .slice none 0 0, .slice none 0 0, .slice none 0 0] 37 (0, 0))
 ne : xs ≠ []
 le : xs.length + t.len ≤ n + 1
section
variable {n0 p : Nat} {S : ByteArray} {d : Nat} {w wr w9 : World} {b n : Nat} {xs : List Co} {v : Value} {t t' : Sx}
theorem PI.go (h : PI n0 p S d w b n xs v t wr) (hb : w.heap.size ≤ b) (hp : p < w.heap.size) (m : Mvr p wr w9) (h9 : TS p S d t' w9) (hle : t'.len ≤ t.len) : PI n0 p S d w b n xs v t' w9 := by
 have := h.le
 exact ⟨h9, h.mv.trans m, h.row.moved m (by omega), (m.high b (by omega) (heap_ltR h.res)).trans h.res, h.ne, by omega⟩
theorem PI.more (h : PI n0 p S d w b n xs v t wr) (hb : w.heap.size ≤ b) (hp : p < w.heap.size) (hn : n ≤ 1048576) {w1 w2 : World} (m1 : Mvr p wr w1) (m2 : Mvr p w1 w2) (x : Co) (vn vv vw va vb vc : Value) (hq : (cmdE (cosV n0)).q (NewF w1.heap.size w2.heap.size) w2 x [.int .i64 (x.k : Int), vn, vv, vw, va, vb, vc]) (Y : Sx) (h2 : TS p S d Y w2) (hY : Y.len + 1 ≤ t.len ∨ Y.len = 0 ∧ 1 ≤ t.len) :
  ∃ al m cl w', (Builtin.append_ #[23, 23] 23 #[v, .slice (some ⟨w2.heap.size, 0, none⟩) 1 1]).run Tryz.prog (w2.alloc (.cells #[.int .i64 (x.k : Int), vn, vv, vw, va, vb, vc] 37)) = .ok (.slice al m cl) w' ∧ PI n0 p S d w b n (xs ++ [x]) (.slice al m cl) Y w' := by
 have hle := h.le
 have e1 := m1.size
 have e2 := m2.size
 have hbl := heap_ltR h.res
 have hrow := h.row.moved (m1.trans m2) (show p < b + 1 by omega)
 obtain ⟨al, m, cl, w', hr, r8, b8, -⟩ := app_one (kd_cmd n0) 23 (Fx := NewF w1.heap.size w2.heap.size) (x := x) (cs := [.int .i64 (x.k : Int), vn, vv, vw, va, vb, vc]) hrow hq (fun g hg => ⟨by have := hg.1; omega, hg.2⟩) (fun g hg e => by have h1 := (h.row.lt g e).2; have := hg.1; omega) (fun g hg => hg.elim) (by omega) (by omega) (by omega)
 refine ⟨al, m, cl, w', hr, h2.same (b8.block p (by omega)), (h.mv.trans (m1.trans m2)).grow (b8.mono (by omega)) hp, r8, ?_, by simp, by rw [List.length_append]; show xs.length + 1 + _ ≤ _; omega⟩
 have r2 := ((m1.trans m2).high b (by omega) hbl).trans h.res
 exact (b8.block b (by omega)).trans r2
theorem PI.first {w1 w2 : World} (hp : p < w.heap.size) (m1 : Mvr p w w1) (hb : w.heap.size ≤ b) (hb1 : b < w1.heap.size) (res : w1.heap[b]? = some (.cells #[.int .i64 0, .slice none 0 0, .slice none 0 0, .slice none 0 0, .slice none 0 0, .slice none 0 0, .slice none 0 0] 37 (0, 0))) (m2 : Mvr p w1 w2) (x : Co) (vn vv vw va vb vc : Value) (hq : (cmdE (cosV n0)).q (NewF w1.heap.size w2.heap.size) w2 x [.int .i64 (x.k : Int), vn, vv, vw, va, vb, vc]) (h2 : TS p S d t w2) (hn : t.len ≤ n) :
  PI n0 p S d w b n [x] (.slice (some ⟨w2.heap.size, 0, none⟩) 1 1) t (w2.alloc (.cells #[.int .i64 (x.k : Int), vn, vv, vw, va, vb, vc] 37)) := by
 have e2 := m2.size
 refine ⟨h2.below ((Below.refl _ w2).alloc (Nat.le_refl _) _), (m1.trans m2).alloc _ hp, rowO_one hq (fun g hg => ⟨by have := hg.1; omega, hg.2⟩) (by omega), ?_, by simp, by show 1 + t.len ≤ n + 1; omega⟩
 rw [Below.heap_alloc _ _ _ (by omega)]
 exact (m2.high b (by omega) hb1).trans res
theorem PI.last (h : PI n0 p S d w b n xs v t wr) {cs : List Co} {c : Co} (hx : xs = cs ++ [c]) : ∃ g cap an nn cn, v = .slice (some ⟨g, 0, none⟩) xs.length cap ∧ xs.length ≤ cap ∧ g < wr.heap.size ∧ wr.cell? ⟨g, cs.length * 7, none⟩ = some (.int .i64 (c.k : Int)) ∧ wr.cell? ⟨g, cs.length * 7 + 1, none⟩ = some (.slice an nn cn) ∧ nn = c.n.length ∧ xs.length = cs.length + 1 := by
 have hq : (cosV (n0 + 1)).q (NewF (b + 1) wr.heap.size) wr v xs := h.row.row
 obtain ⟨g, cap, an, nn, cn, av, nv, cv, aw, nw, cw, aa, na, ca, ab, nb, cb, ac, nc, cc, e1, e2, e3, ⟨k0, k1, -⟩, ⟨z1, -⟩, -⟩ := cmd_at hq (i := cs.length) (c := c) (by rw [hx]; simp)
 exact ⟨g, cap, an, nn, cn, e1, e2, e3, k0, k1, z1, by rw [hx]; simp⟩
theorem PI.only (h : PI n0 p S d w b n xs v t wr) {c : Co} (hx : xs = [c]) : ∃ g cap vn vv vw va vb vc, v = .slice (some ⟨g, 0, none⟩) 1 cap ∧ (wr.cell? ⟨g, 0, none⟩ = some (.int .i64 (c.k : Int)) ∧ wr.cell? ⟨g, 1, none⟩ = some vn ∧ wr.cell? ⟨g, 2, none⟩ = some vv ∧ wr.cell? ⟨g, 3, none⟩ = some vw ∧ wr.cell? ⟨g, 4, none⟩ = some va ∧ wr.cell? ⟨g, 5, none⟩ = some vb ∧ wr.cell? ⟨g, 6, none⟩ = some vc) ∧ (cmdE (cosV n0)).q (NewF (b + 1) wr.heap.size) wr c [.int .i64 (c.k : Int), vn, vv, vw, va, vb, vc] ∧ (∃ a n c, vn = .slice a n c) ∧ (∃ a n c, vv = .slice a n c) ∧ (∃ a n c, vw = .slice a n c) ∧ (∃ a n c, va = .slice a n c) ∧ (∃ a n c, vb = .slice a n c) ∧ (∃ a n c, vc = .slice a n c) := by
 have hq : (cosV (n0 + 1)).q (NewF (b + 1) wr.heap.size) wr v xs := h.row.row
 obtain ⟨g, cap, an, nn, cn, av, nv, cv, aw, nw, cw, aa, na, ca, ab, nb, cb, ac, nc, cc, e1, e2, e3, ⟨k0, k1, k2, k3, k4, k5, k6⟩, ⟨z1, -⟩, -, -, -, -, -, q1, q2, q3, q4, q5, q6⟩ := cmd_at hq (i := 0) (c := c) (by rw [hx]; rfl)
 rw [hx] at e1
 exact ⟨g, cap, _, _, _, _, _, _, e1, ⟨k0, k1, k2, k3, k4, k5, k6⟩, ⟨_, _, _, _, _, _, rfl, q1, q2, q3, q4, q5, q6⟩, ⟨_, _, _, rfl⟩, ⟨_, _, _, rfl⟩, ⟨_, _, _, rfl⟩, ⟨_, _, _, rfl⟩, ⟨_, _, _, rfl⟩, ⟨_, _, _, rfl⟩⟩
theorem PI.answer (h : PI n0 p S d w b n xs v t wr) (hb : w.heap.size ≤ b) (hp : p < w.heap.size) (kind : Nat) {D : Rr Co} (hD : D.sx = t ∧ ∀ y r, D = .ok y r → rowC kind xs = y) :
    (∀ c vn vv vw va vb vc, xs = [c] → (cmdE (cosV n0)).q (NewF (b + 1) wr.heap.size) wr c [.int .i64 (c.k : Int), vn, vv, vw, va, vb, vc] → (S7r wr b (.int .i64 (c.k : Int)) vn vv vw va vb vc).heap[b]? = some (.cells #[.int .i64 (c.k : Int), vn, vv, vw, va, vb, vc] 37 (0, 0)) ∧ AnsC (n0 + 1) D w (.returned (.agg #[.int .i64 (c.k : Int), vn, vv, vw, va, vb, vc])) (S7r wr b (.int .i64 (c.k : Int)) vn vv vw va vb vc) ∧ TS p S d D.sx (S7r wr b (.int .i64 (c.k : Int)) vn vv vw va vb vc) ∧ Mvr p w (S7r wr b (.int .i64 (c.k : Int)) vn vv vw va vb vc)) ∧
    (xs.length ≠ 1 → (S7r wr b (.int .i64 (kind : Int)) (.slice none 0 0) (.slice none 0 0) (.slice none 0 0) v (.slice none 0 0) (.slice none 0 0)).heap[b]? = some (.cells #[.int .i64 (kind : Int), .slice none 0 0, .slice none 0 0, .slice none 0 0, v, .slice none 0 0, .slice none 0 0] 37 (0, 0)) ∧ AnsC (n0 + 1) D w (.returned (.agg #[.int .i64 (kind : Int), .slice none 0 0, .slice none 0 0, .slice none 0 0, v, .slice none 0 0, .slice none 0 0])) (S7r wr b (.int .i64 (kind : Int)) (.slice none 0 0) (.slice none 0 0) (.slice none 0 0) v (.slice none 0 0) (.slice none 0 0)) ∧ TS p S d D.sx (S7r wr b (.int .i64 (kind : Int)) (.slice none 0 0) (.slice none 0 0) (.slice none 0 0) v (.slice none 0 0) (.slice none 0 0)) ∧ Mvr p w (S7r wr b (.int .i64 (kind : Int)) (.slice none 0 0) (.slice none 0 0) (.slice none 0 0) v (.slice none 0 0) (.slice none 0 0))) := by
  have hts := h.ts
  rw [← hD.1] at hts
  refine ⟨fun c vn vv vw va vb vc hx hq => ?_, fun hl => ?_⟩
  · exact com_answer (x := c) (_o := #[]) hp hb hts h.mv (cmd_ups (cos_succ n0) _ _ _ _ hq) (fun y r hy => by have := hD.2 y r hy; rw [hx] at this; exact this) ⟨_, _, _, _, _, _, _, h.res⟩
  · have hr : rowC kind xs = .mk kind [] [] [] xs [] [] := by
      cases xs with
      | nil => rfl
      | cons a l => cases l with
        | nil => exact absurd rfl hl
        | cons c l => rfl
    refine com_answer (x := .mk kind [] [] [] xs [] []) (_o := #[]) hp hb hts h.mv ⟨_, _, _, _, _, _, rfl, RowM.nil _ _ _ _, RowM.nil _ _ _ _, RowM.nil _ _ _ _, h.row.row, cos_nil _ _ _, cos_nil _ _ _⟩ (fun y r hy => ?_) ⟨_, _, _, _, _, _, _, h.res⟩
    rw [← hr]
    exact hD.2 y r hy
end
end Go.Proofs.YtelfgobjnibooaaGreatDoor
namespace Go.Proofs.YtelfgobjnibooaaGreatDoor
open Go.RowKit Go.Lib
theorem plain_no {c : Co} (h : plainC c = false) : ((c.k : Int) != 1) = true ∨ ((c.k : Int) != 1) = false ∧ 0 < c.n.length := by
 unfold plainC at h
 by_cases hk : c.k = 1
 ·refine .inr ⟨by rw [hk]; rfl, ?_⟩
  cases hn : c.n with
  | nil => rw [hk, hn] at h; cases h
  | cons a l => simp
 ·refine .inl ?_
  simp only [bne_iff_ne, ne_eq]
  omega
theorem plain_yes {c : Co} (h : plainC c = true) : ((c.k : Int) != 1) = false ∧ c.n.length = 0 := by
 unfold plainC at h
 rw [Bool.and_eq_true, beq_iff_eq] at h
 refine ⟨by rw [h.1]; rfl, ?_⟩
 cases hn : c.n with
 | nil => rfl
 | cons a l => rw [hn] at h; cases h.2
set_option maxHeartbeats 8000000 in
set_option maxRecDepth 20000 in
theorem pipeF_any (n0 k p : Nat) (S : ByteArray) (d : Nat) (KC : CmdP n0 p S d k) (s : Sx) (w : World) (h : TS p S d s w) (hS : S.size ≤ 1048576) (hgap : s.map gapS = s) :
    Calls Tryz.prog 53 #[.pointer (some ⟨p, 0, none⟩)] w fun e w' => AnsC (n0 + 1) (s.run (pipeS (rlvl k))) w e w' ∧ TS p S d (s.run (pipeS (rlvl k))).sx w' ∧ Mvr p w w' := by
  have hg := rlvl_good k
  have hp := h.lt
  have h1n := cmdS_nice hg
  have h2n := cmdS_lt hg
  have kc := Lib.hid (fun (t : Sx) (w9 : World) (h9 : TS p S d t w9) (hgp : t.map gapS = t) => KC t w9 h9 hgp)
  obtain ⟨one, hone⟩ : ∃ one, cmdS (rlvl k) = one := ⟨_, rfl⟩
  have hDe : s.run (pipeS (rlvl k)) = s.run (rowS 2 [124] one plainC) := by rw [← hone]; rfl
  rw [hDe]
  rw [hone] at kc h1n h2n
  obtain ⟨D, hD⟩ : ∃ D, s.run (rowS 2 [124] one plainC) = D := ⟨_, rfl⟩
  have LK0 := Lib.hid (fun (c : Co) (hc : ∀ y r, s.run one = .ok y r → c = y) => linkr_start (kind := 2) (mk := [124]) (fits := plainC) hc)
  rw [hD] at LK0 ⊢
  have hlen := cut_size h hS
  obtain ⟨n, hn⟩ : ∃ n, n = s.len := ⟨_, rfl⟩
  have hn20 : n ≤ 1048576 := by omega
  have hone_len : (s.run one).sx.len ≤ n := by
    cases s with
    | bad e => exact Nat.zero_le _
    | «at» l =>
      have := h1n l
      show (one l).sx.len ≤ n
      rw [hn]
      show _ ≤ l.length
      cases ho : one l with
      | bad e => exact Nat.zero_le _
      | ok y r => rw [ho] at this; exact this
  have hb1 : Below w.heap.size w (w.alloc (.cells #[.int .i64 0, .slice none 0 0, .slice none 0 0, .slice none 0 0, .slice none 0 0, .slice none 0 0, .slice none 0 0] 37)) := (Below.refl _ w).alloc (Nat.le_refl _) _
  have kc0 := kc.out s _ (h.below hb1) hgap
  have FIRST := Lib.hid (fun (w2 : World) (m2 : Mvr p (w.alloc (.cells #[.int .i64 0, .slice none 0 0, .slice none 0 0, .slice none 0 0, .slice none 0 0, .slice none 0 0, .slice none 0 0] 37)) w2) (x : Co) (vn vv vw va vb vc : Value) (hq : (cmdE (cosV n0)).q (NewF (w.alloc (.cells #[.int .i64 0, .slice none 0 0, .slice none 0 0, .slice none 0 0, .slice none 0 0, .slice none 0 0, .slice none 0 0] 37)).heap.size w2.heap.size) w2 x [.int .i64 (x.k : Int), vn, vv, vw, va, vb, vc]) (h2 : TS p S d (s.run one).sx w2) =>
    PI.first (n := n) hp (Mvr.of hb1 hp) (Nat.le_refl _) (by simp) (heap_alloc_new w _) m2 x vn vv vw va vb vc hq h2 hone_len)
  have KB := Lib.hid (fun (t : Sx) (wr : World) (ht : TS p S d t wr) => (show Calls Tryz.prog 54 #[.pointer (some ⟨p, 0, none⟩), .bool false] wr fun x w' => x = .returned (.bool (barsX false (t.map gapS))) ∧ TS p S d (t.map gapS) w' ∧ Mvr p wr w' from bars_any p S d t false wr ht hS))
  have KF := Lib.hid (fun (t : Sx) (wr : World) (ht : TS p S d t wr) => fail_any p S d t 9 (by decide) wr ht)
  have KS := Lib.hid (fun (t : Sx) (wr : World) (ht : TS p S d t wr) => (show Calls Tryz.prog 31 #[.pointer (some ⟨p, 0, none⟩), .bool true] wr fun x w' => (∃ b, x = .returned (.bool b)) ∧ TS p S d (t.map (skipS [10])) w' ∧ Mvr p wr w' from (seps_any p S d t true wr ht hS).mono fun e w' hh => ⟨⟨_, hh.1⟩, hh.2⟩))
  have hnH := Lib.hid hn
  have HON := Lib.hid hone_len
  clear h hb1 hD hDe hone KC hlen hn hgap hone_len
  go_enter Tryz.func53, Tryz.ntmps53
  go_upto_block 0 with (go_at_call 82; (with_reducible refine kc0.mono ?_); rintro e w2 ⟨⟨x, vn, vv, vw, va, vb, vc, rfl, hq, hxe⟩, h2, m2⟩; have H0 := Lib.hid (FIRST.out w2 m2 x vn vv vw va vb vc hq h2); have L0 := Lib.hid (LK0.out x hxe); clear hq hxe h2 m2 kc0)
  clear FIRST LK0
  generalize w2.alloc (.cells #[.int .i64 (x.k : Int), vn, vv, vw, va, vb, vc] 37) = W3 at *
  generalize w2.heap.size = g0 at *
  go_cut [3] (fun s3 wx => ∃ (t : Sx) (xs : List Co) (vl : Value), vl = s3 ∧ Hid (PI n0 p S d w w.heap.size n xs vl t wx) ∧ Hid (D.sx = t ∧ ∀ y r, D = .ok y r → rowC 2 xs = y))
  case first =>
    go_wp2_with fail
    go_loopg [3] (n + 1) (fun q s3 wr => ∃ (t : Sx) (xs : List Co) (vl : Value), vl = s3 ∧ Hid (PI n0 p S d w w.heap.size n xs vl t wr) ∧ Hid (LinkR 2 [124] one plainC D xs t) ∧ Hid (t.len + 1 ≤ q))
    case atStart => exact ⟨_, _, _, rfl, H0, L0, (by have := HON.out; omega : (s.run one).sx.len + 1 ≤ n + 1)⟩
    case round =>
      obtain ⟨t, xs, vl, hvl, HI, HL, HQ⟩ := hrel
      subst hvl
      clear H0 L0 hnH HON
      have kb := KB.out t wr HI.out.ts
      obtain ⟨cs, c, rfl⟩ : ∃ cs c, xs = cs ++ [c] := by
        rcases List.eq_nil_or_concat xs with h | ⟨a, q, h⟩
        · exact absurd h HI.out.ne
        · exact ⟨a, q, by rw [h, List.concat_eq_append]⟩
      have hgl : (t.map gapS).len ≤ t.len := by
        cases t with
        | bad e => exact Nat.le_refl _
        | «at» l => exact gapS_len l
      by_cases hbx : barsX false (t.map gapS) = false
      · rw [hbx] at kb
        have HE : Hid (D.sx = t.map gapS ∧ ∀ y r, D = .ok y r → rowC 2 (cs ++ [c]) = y) := by
          have := linkr_end HL.out (fun r hr => by
            subst hr
            have h1 : barsX false (.at (gapS r)) = false := hbx
            have h2 : barsX false (.at (gapS r)) = (markS [124] r).isSome := bars_mark false r
            rw [← h2]; exact h1)
          rw [rowC_snoc] at this
          exact this
        have FN := Lib.hid (fun (w1 : World) (h1 : TS p S d (t.map gapS) w1) (m1 : Mvr p wr w1) => HI.out.go (Nat.le_refl _) hp m1 h1 hgl)
        clear HL hbx hgl KB KF KS kc
        go_wp2_with (go_at_call 54; (with_reducible refine kb.mono ?_); rintro e w1 ⟨rfl, h1, m1⟩; have F := Lib.hid (FN.out w1 h1 m1); clear h1 m1 kb)
        go_meet
        case rel => exact ⟨_, _, _, rfl, F, HE⟩
      · have hbt : barsX false (t.map gapS) = true := by simpa using hbx
        rw [hbt] at kb
        obtain ⟨r, rfl⟩ : ∃ r, t = .at r := by
          cases t with
          | bad e => cases hbt
          | «at» r => exact ⟨r, rfl⟩
        have hmk : (markS [124] r).isSome = true := (bars_mark false r).symm.trans hbt
        obtain ⟨hbd, hb1⟩ := mark_behind (two := false) hbt
        have hbd : behindS [124] r = (gapS r).drop 1 := hbd
        have hb1 : 1 ≤ (gapS r).length := hb1
        have kb : Calls Tryz.prog 54 #[.pointer (some ⟨p, 0, none⟩), .bool false] wr fun x w' => x = .returned (.bool true) ∧ TS p S d (.at (gapS r)) w' ∧ Mvr p wr w' := kb
        have hgl : (gapS r).length ≤ r.length := gapS_len r
        obtain ⟨g, cap, an, nn, cn, hv, hcap, hglt, k0, k1, z1, hlx⟩ := HI.out.last rfl
        obtain ⟨N, hN⟩ : ∃ N, N = (cs ++ [c]).length := ⟨_, rfl⟩
        rw [← hN] at hv hcap hlx
        have hgb := (HI.out.row.lt g (by rw [hv]; rfl)).1
        have hgp : g ≠ p := by omega
        have CE := Lib.hid (fun (w1 : World) (m1 : Mvr p wr w1) => (⟨(World.cell?_of_block (m1.high g hgp hglt)).trans k0, (World.cell?_of_block (m1.high g hgp hglt)).trans k1⟩ : w1.cell? ⟨g, cs.length * 7, none⟩ = some (.int .i64 (c.k : Int)) ∧ w1.cell? ⟨g, cs.length * 7 + 1, none⟩ = some (.slice an nn cn)))
        have hle := HI.out.le
        have hle : (cs ++ [c]).length + r.length ≤ n + 1 := hle
        rw [← hN] at hle
        subst hv
        generalize cs.length = M at *
        have hw1 : IntKind.i64.wrap ((N : Int) - 1) = (M : Int) := by rw [IntWalk.i64_in _ (by omega)]; omega
        have hMN : (M : Int) < (N : Int) := by omega
        have hMN2 : M < N := by omega
        have HC : Hid (r.length + 1 ≤ gk) := HQ.out
        have HN := Lib.hid hN
        have HLX := Lib.hid hlx
        clear hN hlx
        by_cases hf : plainC c = false
        · have hun : D = .bad 9 := linkr_unfit h1n h2n HL.out hmk hf
          have HE : Hid (D.sx = .bad 9 ∧ ∀ y r, D = .ok y r → rowC 2 (cs ++ [c]) = y) := by rw [hun]; exact ⟨rfl, fun y r h => by cases h⟩
          have KF1 := Lib.hid (fun (w1 : World) (h1 : TS p S d (.at (gapS r)) w1) => (show Calls Tryz.prog 16 #[.pointer (some ⟨p, 0, none⟩), .int .i64 9] w1 fun x w' => x = .returned (.tuple #[]) ∧ TS p S d (.bad 9) w' ∧ Mvr p w1 w' from KF.out (.at (gapS r)) w1 h1))
          have FB := Lib.hid (fun (w2 : World) (h2 : TS p S d (.bad 9) w2) (m2 : Mvr p wr w2) => HI.out.go (t' := .bad 9) (Nat.le_refl _) hp m2 h2 (Nat.zero_le _))
          rcases plain_no hf with hk | ⟨hk, hnn⟩
          · clear HL KB KF KS kc hf hun hmk hbd hb1 hgl hle k0 k1 z1 hgb hgp hglt hbt hbx
            go_wp2_with (first
              | (go_at_call 54; (with_reducible refine kb.mono ?_); rintro e w1 ⟨rfl, h1, m1⟩; obtain ⟨q0, q1⟩ := CE.out w1 m1; have kf := KF1.out w1 h1; have M1 := Lib.hid m1; clear h1 m1 kb)
              | (go_at_call 16; (with_reducible refine kf.mono ?_); rintro e w2 ⟨rfl, h2, m2⟩; have F := Lib.hid (FB.out w2 h2 (M1.out.trans m2)); clear h2 m2 kf))
            go_meet
            case rel => exact ⟨_, _, _, rfl, F, HE⟩
          · have hnnI : (0 : Int) < (nn : Int) := by omega
            have hnnd : decide ((0 : Int) < (nn : Int)) = true := decide_eq_true hnnI
            have hnnd2 : decide (0 < nn) = true := decide_eq_true (by omega)
            clear HL KB KF KS kc hf hun hmk hbd hb1 hgl hle k0 k1 z1 hgb hgp hglt hbt hbx hnn
            go_wp2_with (first
              | (go_at_call 54; (with_reducible refine kb.mono ?_); rintro e w1 ⟨rfl, h1, m1⟩; obtain ⟨q0, q1⟩ := CE.out w1 m1; have kf := KF1.out w1 h1; have M1 := Lib.hid m1; clear h1 m1 kb)
              | (go_at_call 16; (with_reducible refine kf.mono ?_); rintro e w2 ⟨rfl, h2, m2⟩; have F := Lib.hid (FB.out w2 h2 (M1.out.trans m2)); clear h2 m2 kf))
            go_meet
            case rel => exact ⟨_, _, _, rfl, F, HE⟩
        · have hft : plainC c = true := by simpa using hf
          obtain ⟨hk, hn0⟩ := plain_yes hft
          rw [hn0] at z1
          subst z1
          obtain ⟨e0, r0, hgr⟩ : ∃ e0 r0, gapS r = e0 :: r0 := by
            cases hh : gapS r with
            | nil => rw [hh] at hb1; simp at hb1
            | cons a l => exact ⟨a, l, rfl⟩
          have hbd : behindS [124] r = r0 := by rw [hbd, hgr]; rfl
          have hr0 : r0.length + 1 ≤ r.length := by rw [hgr] at hgl; exact hgl
          obtain ⟨l2, hl2⟩ : ∃ l2, skipS [10] r0 = l2 := ⟨_, rfl⟩
          have hl2len : l2.length ≤ r0.length := by rw [← hl2]; exact skip_len [10] r0
          have hl2g : (Sx.at l2).map gapS = .at l2 := by rw [← hl2]; exact congrArg Sx.at (skip_ok [10] r0 (by decide)).1
          have LM := Lib.hid (fun (x : Co) (hx : ∀ y r', one l2 = .ok y r' → x = y) => (by
            have := linkr_more h1n h2n HL.out hmk hft x (by rw [hbd, hl2]; exact hx)
            rw [hbd, hl2] at this
            exact this : LinkR 2 [124] one plainC D (cs ++ [c] ++ [x]) (if plainC x = false then (one l2).sx.fail 9 else (one l2).sx)))
          have hYlen : (one l2).sx.len ≤ l2.length := by
            have := h1n l2
            cases ho : one l2 with
            | bad e => exact Nat.zero_le _
            | ok y q => rw [ho] at this; exact this
          have STEP := Lib.hid (fun (w1 : World) (h1 : TS p S d (.at (gapS r)) w1) => (by
            rw [hgr] at h1
            obtain ⟨a, hwk, hst⟩ := h1.step hS
            obtain ⟨g1, g2, g3, g4⟩ := hst _ (Below.refl _ _)
            exact ⟨a, hwk, g1, g2, g3, g4⟩ : ∃ a : Nat, IntKind.i64.wrap ((a : Int) + 1) = (a : Int) + 1 ∧ w1.cell? ⟨p, 1, none⟩ = some (.int .i64 (a : Int)) ∧ w1.frozen? ⟨p, 1, none⟩ = false ∧ TS p S d (.at r0) (w1.setCell ⟨p, 1, none⟩ (.int .i64 ((a : Int) + 1))) ∧ Mvr p w1 (w1.setCell ⟨p, 1, none⟩ (.int .i64 ((a : Int) + 1)))))
          have KS0 := Lib.hid (fun (w1 : World) (h1 : TS p S d (.at r0) w1) => (by
            have := KS.out (.at r0) w1 h1
            rw [show (Sx.at r0).map (skipS [10]) = .at l2 from congrArg Sx.at hl2] at this
            exact this : Calls Tryz.prog 31 #[.pointer (some ⟨p, 0, none⟩), .bool true] w1 fun x w' => (∃ b, x = .returned (.bool b)) ∧ TS p S d (.at l2) w' ∧ Mvr p w1 w'))
          have KC0 := Lib.hid (fun (w1 : World) (h1 : TS p S d (.at l2) w1) => (show Calls Tryz.prog 82 #[.pointer (some ⟨p, 0, none⟩)] w1 fun e w' => AnsC n0 (one l2) w1 e w' ∧ TS p S d (one l2).sx w' ∧ Mvr p w1 w' from kc.out (.at l2) w1 h1 hl2g))
          obtain ⟨Y, hY⟩ : ∃ Y, (one l2).sx = Y := ⟨_, rfl⟩
          have MORE := Lib.hid (fun (w1 w2 : World) (m1 : Mvr p wr w1) (m2 : Mvr p w1 w2) (x : Co) (vn vv vw va vb vc : Value) (hq : (cmdE (cosV n0)).q (NewF w1.heap.size w2.heap.size) w2 x [.int .i64 (x.k : Int), vn, vv, vw, va, vb, vc]) (h2 : TS p S d Y w2) => HI.out.more (Nat.le_refl _) hp hn20 m1 m2 x vn vv vw va vb vc hq Y h2 (.inl (by show Y.len + 1 ≤ r.length; rw [← hY]; omega)))
          have HYL : Hid (Y.len + 1 ≤ r.length) := by show Y.len + 1 ≤ _; rw [← hY]; omega
          rw [hY] at LM KC0
          clear HL KB KS kc hf hft hmk hbd hb1 hgl k0 k1 hgb hgp hglt hbt hbx hn0 hgr hr0 hl2 hl2len hl2g hYlen hY
          go_upto_region 5 with (go_at_call 54; (with_reducible refine kb.mono ?_); rintro e w1 ⟨rfl, h1, m1⟩; obtain ⟨q0, q1⟩ := CE.out w1 m1; obtain ⟨a, hwk, g1, g2, g3, g4⟩ := STEP.out w1 h1; have M1 := Lib.hid (m1.trans g4); have G3 := Lib.hid g3; clear h1 m1 g3 g4 kb)
          go_upto_region 6 with fail
          clear q0 q1 g1 g2 hwk
          generalize w1.setCell ⟨p, 1, none⟩ (.int .i64 ((a : Int) + 1)) = W3 at *
          have ks := KS0.out W3 G3.out
          clear KS0 STEP CE hk
          go_upto_region 8 with (first
            | (go_at_call 31; (with_reducible refine ks.mono ?_); rintro e w4 ⟨⟨b4, rfl⟩, h4, m4⟩; have kcc := KC0.out w4 h4; have M4 := Lib.hid (M1.out.trans m4); clear h4 m4 ks)
            | (go_at_call 82; (with_reducible refine kcc.mono ?_); rintro e w5 ⟨⟨x, vn, vv, vw, va, vb, vc, rfl, hq, hxe⟩, h5, m5⟩; obtain ⟨al, m, cl, w8, hr, f8⟩ := MORE.out w4 w5 M4.out m5 x vn vv vw va vb vc hq h5; have F8 := Lib.hid f8; have L8 := Lib.hid (LM.out x hxe); clear hq hxe h5 m5 f8 kcc)
            | (at_builtin; refine wpList_app_run rfl _ _ _ rfl rfl rfl hr ?_))
          clear MORE LM KC0
          obtain ⟨g', cap', an', nn', cn', hv', hcap', hglt', k0', k1', z1', hlx'⟩ := F8.out.last rfl
          injection hv' with hv1 hv2 hv3
          subst hv1
          subst hv3
          have hm : m = N + 1 := by rw [hv2, List.length_append, ← HN.out]; rfl
          have hM' : (cs ++ [c]).length = N := HN.out.symm
          rw [hM'] at k0' k1'
          rw [← hv2] at hcap'
          subst hm
          have hw2 : IntKind.i64.wrap (((N + 1 : Nat) : Int) - 1) = (N : Int) := by rw [IntWalk.i64_in _ (by omega)]; omega
          have hMN3 : (N : Int) < ((N + 1 : Nat) : Int) := by omega
          have hMN4 : N < N + 1 := by omega
          have KF8 := Lib.hid (fun (w9 : World) (h9 : TS p S d Y w9) => KF.out Y w9 h9)
          by_cases hf : plainC x = false
          · rw [if_pos hf] at L8
            have kf := KF8.out w8 F8.out.ts
            have FB := Lib.hid (fun (w2 : World) (h2 : TS p S d (Y.fail 9) w2) (m2 : Mvr p w8 w2) => F8.out.go (t' := Y.fail 9) (Nat.le_refl _) hp m2 h2 (by cases Y <;> exact Nat.zero_le _))
            have HFY : Hid ((Y.fail 9).len + 1 ≤ r.length) := (by have := HYL.out; cases Y <;> (show 0 + 1 ≤ _; omega) : (Y.fail 9).len + 1 ≤ r.length)
            rcases plain_no hf with hk | ⟨hk, hnn⟩
            · clear KF KF8 hf hv2 hM' hlx' z1' hcap'
              go_wp2_with (go_at_call 16; (with_reducible refine kf.mono ?_); rintro e w9 ⟨rfl, h9, m9⟩; have F9 := Lib.hid (FB.out w9 h9 m9); clear h9 m9 kf)
              go_roundg ((Y.fail 9).len + 1)
              case rel => exact ⟨_, _, _, rfl, F9, L8, Nat.le_refl _⟩
              case measure => have h1 := HC.out; have h2 := HFY.out; omega
            · have hnnI : (0 : Int) < (nn' : Int) := by omega
              have hnnd : decide ((0 : Int) < (nn' : Int)) = true := decide_eq_true hnnI
              have hnnd2 : decide (0 < nn') = true := decide_eq_true (by omega)
              clear KF KF8 hf hv2 hM' hlx' z1' hcap' hnn
              go_wp2_with (go_at_call 16; (with_reducible refine kf.mono ?_); rintro e w9 ⟨rfl, h9, m9⟩; have F9 := Lib.hid (FB.out w9 h9 m9); clear h9 m9 kf)
              go_roundg ((Y.fail 9).len + 1)
              case rel => exact ⟨_, _, _, rfl, F9, L8, Nat.le_refl _⟩
              case measure => have h1 := HC.out; have h2 := HFY.out; omega
          · rw [if_neg hf] at L8
            obtain ⟨hk, hn0⟩ := plain_yes (c := x) (by simpa using hf)
            rw [hn0] at z1'
            subst z1'
            clear KF KF8 hf hv2 hM' hlx' hcap' hn0
            go_wp2_with fail
            go_roundg (Y.len + 1)
            case rel => exact ⟨_, _, _, rfl, F8, L8, Nat.le_refl _⟩
            case measure => have h1 := HC.out; have h2 := HYL.out; omega
  case rest =>
    obtain ⟨t, xs, vl, hvl, HI, HE⟩ := hcut
    subst hvl
    obtain ⟨A1, A2⟩ := HI.out.answer (Nat.le_refl _) hp 2 HE.out
    have A1 := Lib.hid A1
    have A2 := Lib.hid A2
    obtain ⟨⟨r0, r1, r2, r3, r4, r5, r6⟩, f0, f1, f2, f3, f4, f5, f6⟩ := cells7r HI.out.res
    obtain ⟨ys, hy⟩ := HI.out.row.own
    obtain ⟨ao, cap, hv, -⟩ := ownS_shape hy
    clear hy HE KB KF KS kc H0 L0 hnH HON
    by_cases hx : xs.length = 1
    · obtain ⟨c, rfl⟩ : ∃ c, xs = [c] := by
        cases xs with
        | nil => cases hx
        | cons a l => cases l with
          | nil => exact ⟨a, rfl⟩
          | cons b l => simp at hx
      obtain ⟨g, cap2, vn, vv, vw, va, vb, vc, hv2, ⟨k0, k1, k2, k3, k4, k5, k6⟩, hq, ⟨a1, n1, c1, rfl⟩, ⟨a2, n2, c2, rfl⟩, ⟨a3, n3, c3, rfl⟩, ⟨a4, n4, c4, rfl⟩, ⟨a5, n5, c5, rfl⟩, ⟨a6, n6, c6, rfl⟩⟩ := HI.out.only rfl
      have FF := Lib.hid (A1.out c _ _ _ _ _ _ rfl hq)
      rw [hv2] at hv
      subst hv2
      clear hv hx hq A1 A2 HI
      go_wp2_with fail
      exact bodyPost_ret (v := .agg _) (results_cell_row (p := 2) (ty := 37) Tryz.results53 _ _ w.heap.size 37 _ (0, 0) _ rfl FF.out.1 Tryz.underlying37 rfl Tryz.infoCmdSq) rfl FF.out.2
    · have FF := Lib.hid (A2.out hx)
      obtain ⟨N, hN⟩ : ∃ N, N = xs.length := ⟨_, rfl⟩
      rw [← hN] at hv hx
      have hN1 : ((N : Int) == 1) = false := by rw [beq_eq_false_iff_ne]; omega
      subst hv
      clear hx hN A1 A2 HI
      go_wp2_with fail
      exact bodyPost_ret (v := .agg _) (results_cell_row (p := 2) (ty := 37) Tryz.results53 _ _ w.heap.size 37 _ (0, 0) _ rfl FF.out.1 Tryz.underlying37 rfl Tryz.infoCmdSq) rfl FF.out.2
end Go.Proofs.YtelfgobjnibooaaGreatDoor
namespace Go.Proofs.YtelfgobjnibooaaGreatDoor
open Go.RowKit Go.Lib
set_option maxHeartbeats 8000000 in
set_option maxRecDepth 20000 in
theorem lineF_any (n0 k p : Nat) (S : ByteArray) (d : Nat) (KC : CmdP n0 p S d k) (s : Sx) (w : World) (h : TS p S d s w) (hS : S.size ≤ 1048576) (hgap : s.map gapS = s) :
    Calls Tryz.prog 35 #[.pointer (some ⟨p, 0, none⟩)] w fun e w' => AnsC (n0 + 2) (s.run (lineS (rlvl k))) w e w' ∧ TS p S d (s.run (lineS (rlvl k))).sx w' ∧ Mvr p w w' := by
  have hg := rlvl_good k
  have hp := h.lt
  have h1n := pipeS_nice hg
  have h2n := pipeS_lt hg
  have kc := Lib.hid (fun (t : Sx) (w9 : World) (h9 : TS p S d t w9) (hgp : t.map gapS = t) => pipeF_any n0 k p S d KC t w9 h9 hS hgp)
  obtain ⟨one, hone⟩ : ∃ one, pipeS (rlvl k) = one := ⟨_, rfl⟩
  have hDe : s.run (lineS (rlvl k)) = s.run (rowS 3 [124, 124] one (fun _ => true)) := by rw [← hone]; rfl
  rw [hDe]
  rw [hone] at kc h1n h2n
  obtain ⟨D, hD⟩ : ∃ D, s.run (rowS 3 [124, 124] one (fun _ => true)) = D := ⟨_, rfl⟩
  have LK0 := Lib.hid (fun (c : Co) (hc : ∀ y r, s.run one = .ok y r → c = y) => linkr_start (kind := 3) (mk := [124, 124]) (fits := (fun _ => true)) hc)
  rw [hD] at LK0 ⊢
  have hlen := cut_size h hS
  obtain ⟨n, hn⟩ : ∃ n, n = s.len := ⟨_, rfl⟩
  have hn20 : n ≤ 1048576 := by omega
  have hone_len : (s.run one).sx.len ≤ n := by
    cases s with
    | bad e => exact Nat.zero_le _
    | «at» l =>
      have := h1n l
      show (one l).sx.len ≤ n
      rw [hn]
      show _ ≤ l.length
      cases ho : one l with
      | bad e => exact Nat.zero_le _
      | ok y r => rw [ho] at this; exact this
  have hb1 : Below w.heap.size w (w.alloc (.cells #[.int .i64 0, .slice none 0 0, .slice none 0 0, .slice none 0 0, .slice none 0 0, .slice none 0 0, .slice none 0 0] 37)) := (Below.refl _ w).alloc (Nat.le_refl _) _
  have kc0 := kc.out s _ (h.below hb1) hgap
  have FIRST := Lib.hid (fun (w2 : World) (m2 : Mvr p (w.alloc (.cells #[.int .i64 0, .slice none 0 0, .slice none 0 0, .slice none 0 0, .slice none 0 0, .slice none 0 0, .slice none 0 0] 37)) w2) (x : Co) (vn vv vw va vb vc : Value) (hq : (cmdE (cosV (n0 + 1))).q (NewF (w.alloc (.cells #[.int .i64 0, .slice none 0 0, .slice none 0 0, .slice none 0 0, .slice none 0 0, .slice none 0 0, .slice none 0 0] 37)).heap.size w2.heap.size) w2 x [.int .i64 (x.k : Int), vn, vv, vw, va, vb, vc]) (h2 : TS p S d (s.run one).sx w2) =>
    PI.first (n := n) hp (Mvr.of hb1 hp) (Nat.le_refl _) (by simp) (heap_alloc_new w _) m2 x vn vv vw va vb vc hq h2 hone_len)
  have KB := Lib.hid (fun (t : Sx) (wr : World) (ht : TS p S d t wr) => (show Calls Tryz.prog 54 #[.pointer (some ⟨p, 0, none⟩), .bool true] wr fun x w' => x = .returned (.bool (barsX true (t.map gapS))) ∧ TS p S d (t.map gapS) w' ∧ Mvr p wr w' from bars_any p S d t true wr ht hS))
  have KF := Lib.hid (fun (t : Sx) (wr : World) (ht : TS p S d t wr) => fail_any p S d t 9 (by decide) wr ht)
  have KS := Lib.hid (fun (t : Sx) (wr : World) (ht : TS p S d t wr) => (show Calls Tryz.prog 31 #[.pointer (some ⟨p, 0, none⟩), .bool true] wr fun x w' => (∃ b, x = .returned (.bool b)) ∧ TS p S d (t.map (skipS [10])) w' ∧ Mvr p wr w' from (seps_any p S d t true wr ht hS).mono fun e w' hh => ⟨⟨_, hh.1⟩, hh.2⟩))
  have hnH := Lib.hid hn
  have HON := Lib.hid hone_len
  clear h hb1 hD hDe hone KC hlen hn hgap hone_len
  go_enter Tryz.func35, Tryz.ntmps35
  go_upto_block 0 with (go_at_call 53; (with_reducible refine kc0.mono ?_); rintro e w2 ⟨⟨x, vn, vv, vw, va, vb, vc, rfl, hq, hxe⟩, h2, m2⟩; have H0 := Lib.hid (FIRST.out w2 m2 x vn vv vw va vb vc hq h2); have L0 := Lib.hid (LK0.out x hxe); clear hq hxe h2 m2 kc0)
  clear FIRST LK0
  generalize w2.alloc (.cells #[.int .i64 (x.k : Int), vn, vv, vw, va, vb, vc] 37) = W3 at *
  generalize w2.heap.size = g0 at *
  go_cut [3] (fun s3 wx => ∃ (t : Sx) (xs : List Co) (vl : Value), vl = s3 ∧ Hid (PI (n0 + 1) p S d w w.heap.size n xs vl t wx) ∧ Hid (D.sx = t ∧ ∀ y r, D = .ok y r → rowC 3 xs = y))
  case first =>
    go_wp2_with fail
    go_loopg [3] (n + 1) (fun q s3 wr => ∃ (t : Sx) (xs : List Co) (vl : Value), vl = s3 ∧ Hid (PI (n0 + 1) p S d w w.heap.size n xs vl t wr) ∧ Hid (LinkR 3 [124, 124] one (fun _ => true) D xs t) ∧ Hid (t.len + 1 ≤ q))
    case atStart => exact ⟨_, _, _, rfl, H0, L0, (by have := HON.out; omega : (s.run one).sx.len + 1 ≤ n + 1)⟩
    case round =>
      obtain ⟨t, xs, vl, hvl, HI, HL, HQ⟩ := hrel
      subst hvl
      clear H0 L0 hnH HON
      have kb := KB.out t wr HI.out.ts
      obtain ⟨cs, c, rfl⟩ : ∃ cs c, xs = cs ++ [c] := by
        rcases List.eq_nil_or_concat xs with h | ⟨a, q, h⟩
        · exact absurd h HI.out.ne
        · exact ⟨a, q, by rw [h, List.concat_eq_append]⟩
      have hgl : (t.map gapS).len ≤ t.len := by
        cases t with
        | bad e => exact Nat.le_refl _
        | «at» l => exact gapS_len l
      by_cases hbx : barsX true (t.map gapS) = false
      · rw [hbx] at kb
        have HE : Hid (D.sx = t.map gapS ∧ ∀ y r, D = .ok y r → rowC 3 (cs ++ [c]) = y) := by
          have := linkr_end HL.out (fun r hr => by
            subst hr
            have h1 : barsX true (.at (gapS r)) = false := hbx
            have h2 : barsX true (.at (gapS r)) = (markS [124, 124] r).isSome := bars_mark true r
            rw [← h2]; exact h1)
          rw [rowC_snoc] at this
          exact this
        have FN := Lib.hid (fun (w1 : World) (h1 : TS p S d (t.map gapS) w1) (m1 : Mvr p wr w1) => HI.out.go (Nat.le_refl _) hp m1 h1 hgl)
        clear HL hbx hgl KB KF KS kc
        go_wp2_with (go_at_call 54; (with_reducible refine kb.mono ?_); rintro e w1 ⟨rfl, h1, m1⟩; have F := Lib.hid (FN.out w1 h1 m1); clear h1 m1 kb)
        go_meet
        case rel => exact ⟨_, _, _, rfl, F, HE⟩
      · have hbt : barsX true (t.map gapS) = true := by simpa using hbx
        rw [hbt] at kb
        obtain ⟨r, rfl⟩ : ∃ r, t = .at r := by
          cases t with
          | bad e => cases hbt
          | «at» r => exact ⟨r, rfl⟩
        have hmk : (markS [124, 124] r).isSome = true := (bars_mark true r).symm.trans hbt
        obtain ⟨hbd, hb1⟩ := mark_behind (two := true) hbt
        have hbd : behindS [124, 124] r = (gapS r).drop 2 := hbd
        have hb1 : 2 ≤ (gapS r).length := hb1
        have kb : Calls Tryz.prog 54 #[.pointer (some ⟨p, 0, none⟩), .bool true] wr fun x w' => x = .returned (.bool true) ∧ TS p S d (.at (gapS r)) w' ∧ Mvr p wr w' := kb
        have hgl : (gapS r).length ≤ r.length := gapS_len r
        obtain ⟨N, hN⟩ : ∃ N, N = (cs ++ [c]).length := ⟨_, rfl⟩
        have hle := HI.out.le
        have hle : (cs ++ [c]).length + r.length ≤ n + 1 := hle
        obtain ⟨ys, hy⟩ := HI.out.row.own
        obtain ⟨ao, cap, hv, -⟩ := ownS_shape hy
        clear hy
        rw [← hN] at hv hle
        subst hv
        have HC : Hid (r.length + 1 ≤ gk) := HQ.out
        have HN := Lib.hid hN
        clear hN
        obtain ⟨r0, hr0⟩ : ∃ r0, (gapS r).drop 2 = r0 := ⟨_, rfl⟩
        have hbd : behindS [124, 124] r = r0 := by rw [hbd, hr0]
        have hr1 : r0.length + 1 ≤ r.length := by rw [← hr0, List.length_drop]; omega
        obtain ⟨l2, hl2⟩ : ∃ l2, skipS [10] r0 = l2 := ⟨_, rfl⟩
        have hl2len : l2.length ≤ r0.length := by rw [← hl2]; exact skip_len [10] r0
        have hl2g : (Sx.at l2).map gapS = .at l2 := by rw [← hl2]; exact congrArg Sx.at (skip_ok [10] r0 (by decide)).1
        have LM := Lib.hid (fun (x : Co) (hx : ∀ y r', one l2 = .ok y r' → x = y) => (by
          have := linkr_more h1n h2n HL.out hmk rfl x (by rw [hbd, hl2]; exact hx)
          rw [hbd, hl2, if_neg (by simp)] at this
          exact this : LinkR 3 [124, 124] one (fun _ => true) D (cs ++ [c] ++ [x]) (one l2).sx))
        have hYlen : (one l2).sx.len ≤ l2.length := by
          have := h1n l2
          cases ho : one l2 with
          | bad e => exact Nat.zero_le _
          | ok y q => rw [ho] at this; exact this
        have STEP := Lib.hid (fun (w1 : World) (h1 : TS p S d (.at (gapS r)) w1) => (by
          obtain ⟨a, -, -, -, hhop⟩ := h1.hop hS
          obtain ⟨hwk, hst⟩ := hhop 2 hb1
          obtain ⟨-, g1, g2, g3, g4⟩ := hst _ (Below.refl _ _)
          rw [hr0] at g3
          exact ⟨a, hwk, g1, g2, g3, g4⟩ : ∃ a : Nat, IntKind.i64.wrap ((a : Int) + 2) = (a : Int) + 2 ∧ w1.cell? ⟨p, 1, none⟩ = some (.int .i64 (a : Int)) ∧ w1.frozen? ⟨p, 1, none⟩ = false ∧ TS p S d (.at r0) (w1.setCell ⟨p, 1, none⟩ (.int .i64 ((a : Int) + 2))) ∧ Mvr p w1 (w1.setCell ⟨p, 1, none⟩ (.int .i64 ((a : Int) + 2)))))
        have KS0 := Lib.hid (fun (w1 : World) (h1 : TS p S d (.at r0) w1) => (by
          have := KS.out (.at r0) w1 h1
          rw [show (Sx.at r0).map (skipS [10]) = .at l2 from congrArg Sx.at hl2] at this
          exact this : Calls Tryz.prog 31 #[.pointer (some ⟨p, 0, none⟩), .bool true] w1 fun x w' => (∃ b, x = .returned (.bool b)) ∧ TS p S d (.at l2) w' ∧ Mvr p w1 w'))
        have KC0 := Lib.hid (fun (w1 : World) (h1 : TS p S d (.at l2) w1) => (show Calls Tryz.prog 53 #[.pointer (some ⟨p, 0, none⟩)] w1 fun e w' => AnsC (n0 + 1) (one l2) w1 e w' ∧ TS p S d (one l2).sx w' ∧ Mvr p w1 w' from kc.out (.at l2) w1 h1 hl2g))
        obtain ⟨Y, hY⟩ : ∃ Y, (one l2).sx = Y := ⟨_, rfl⟩
        have MORE := Lib.hid (fun (w1 w2 : World) (m1 : Mvr p wr w1) (m2 : Mvr p w1 w2) (x : Co) (vn vv vw va vb vc : Value) (hq : (cmdE (cosV (n0 + 1))).q (NewF w1.heap.size w2.heap.size) w2 x [.int .i64 (x.k : Int), vn, vv, vw, va, vb, vc]) (h2 : TS p S d Y w2) => HI.out.more (Nat.le_refl _) hp hn20 m1 m2 x vn vv vw va vb vc hq Y h2 (.inl (by show Y.len + 1 ≤ r.length; rw [← hY]; omega)))
        have HYL : Hid (Y.len + 1 ≤ r.length) := by show Y.len + 1 ≤ _; rw [← hY]; omega
        rw [hY] at LM KC0
        clear HL KB KF KS kc hmk hbd hb1 hgl hbt hbx hr0 hr1 hl2 hl2len hl2g hYlen hY
        go_upto_region 3 with (go_at_call 54; (with_reducible refine kb.mono ?_); rintro e w1 ⟨rfl, h1, m1⟩; obtain ⟨a, hwk, g1, g2, g3, g4⟩ := STEP.out w1 h1; have M1 := Lib.hid (m1.trans g4); have G3 := Lib.hid g3; clear h1 m1 g3 g4 kb)
        go_upto_region 4 with fail
        clear g1 g2 hwk
        generalize w1.setCell ⟨p, 1, none⟩ (.int .i64 ((a : Int) + 2)) = W3 at *
        have ks := KS0.out W3 G3.out
        clear KS0 STEP
        go_wp2_with (first
          | (go_at_call 31; (with_reducible refine ks.mono ?_); rintro e w4 ⟨⟨b4, rfl⟩, h4, m4⟩; have kcc := KC0.out w4 h4; have M4 := Lib.hid (M1.out.trans m4); clear h4 m4 ks)
          | (go_at_call 53; (with_reducible refine kcc.mono ?_); rintro e w5 ⟨⟨x, vn, vv, vw, va, vb, vc, rfl, hq, hxe⟩, h5, m5⟩; obtain ⟨al, m, cl, w8, hr, f8⟩ := MORE.out w4 w5 M4.out m5 x vn vv vw va vb vc hq h5; have F8 := Lib.hid f8; have L8 := Lib.hid (LM.out x hxe); clear hq hxe h5 m5 f8 kcc)
          | (at_builtin; refine wpList_app_run rfl _ _ _ rfl rfl rfl hr ?_))
        go_roundg (Y.len + 1)
        case rel => exact ⟨_, _, _, rfl, F8, L8, Nat.le_refl _⟩
        case measure => have h1 := HC.out; have h2 := HYL.out; omega
  case rest =>
    obtain ⟨t, xs, vl, hvl, HI, HE⟩ := hcut
    subst hvl
    obtain ⟨A1, A2⟩ := HI.out.answer (Nat.le_refl _) hp 3 HE.out
    have A1 := Lib.hid A1
    have A2 := Lib.hid A2
    obtain ⟨⟨r0, r1, r2, r3, r4, r5, r6⟩, f0, f1, f2, f3, f4, f5, f6⟩ := cells7r HI.out.res
    obtain ⟨ys, hy⟩ := HI.out.row.own
    obtain ⟨ao, cap, hv, -⟩ := ownS_shape hy
    clear hy HE KB KF KS kc H0 L0 hnH HON
    by_cases hx : xs.length = 1
    · obtain ⟨c, rfl⟩ : ∃ c, xs = [c] := by
        cases xs with
        | nil => cases hx
        | cons a l => cases l with
          | nil => exact ⟨a, rfl⟩
          | cons b l => simp at hx
      obtain ⟨g, cap2, vn, vv, vw, va, vb, vc, hv2, ⟨k0, k1, k2, k3, k4, k5, k6⟩, hq, ⟨a1, n1, c1, rfl⟩, ⟨a2, n2, c2, rfl⟩, ⟨a3, n3, c3, rfl⟩, ⟨a4, n4, c4, rfl⟩, ⟨a5, n5, c5, rfl⟩, ⟨a6, n6, c6, rfl⟩⟩ := HI.out.only rfl
      have FF := Lib.hid (A1.out c _ _ _ _ _ _ rfl hq)
      rw [hv2] at hv
      subst hv2
      clear hv hx hq A1 A2 HI
      go_wp2_with fail
      exact bodyPost_ret (v := .agg _) (results_cell_row (p := 2) (ty := 37) Tryz.results35 _ _ w.heap.size 37 _ (0, 0) _ rfl FF.out.1 Tryz.underlying37 rfl Tryz.infoCmdSq) rfl FF.out.2
    · have FF := Lib.hid (A2.out hx)
      obtain ⟨N, hN⟩ : ∃ N, N = xs.length := ⟨_, rfl⟩
      rw [← hN] at hv hx
      have hN1 : ((N : Int) == 1) = false := by rw [beq_eq_false_iff_ne]; omega
      subst hv
      clear hx hN A1 A2 HI
      go_wp2_with fail
      exact bodyPost_ret (v := .agg _) (results_cell_row (p := 2) (ty := 37) Tryz.results35 _ _ w.heap.size 37 _ (0, 0) _ rfl FF.out.1 Tryz.underlying37 rfl Tryz.infoCmdSq) rfl FF.out.2
end Go.Proofs.YtelfgobjnibooaaGreatDoor
