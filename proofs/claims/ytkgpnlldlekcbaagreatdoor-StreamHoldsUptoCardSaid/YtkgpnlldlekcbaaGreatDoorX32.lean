/- Packed texts: StStep, StCome, StCycles. What each of them proves stands above its theorems; the conditions stand in these. -/
import Derived.Deep.LoopGhost
import Derived.WalkMore
import Derived.Test.YtkgpnlldlekcbaaGreatDoorX31
namespace Go.Proofs.YtkgpnlldlekcbaaGreatDoor
open Go.RowKit Go.Lib Go.Maps
attribute [local go_sem] Oper.semAt_some

def cmdOf (op : Int) : Nat := if op = 112 then 60 else if op = 100 then 61 else if op = 113 then 62 else if op = 110 then 63 else if op = 104 then 64 else if op = 72 then 65 else if op = 103 then 66 else if op = 71 then 67 else if op = 120 then 68 else if op = 115 then 69 else if op = 98 then 70 else 71
theorem cmdF_of (op : UInt8) (h : opsL.contains op = true) : cmdF (op.toNat : Int) = some (cmdOf (op.toNat : Int)) := by
  have hh : op = 112 ∨ op = 100 ∨ op = 113 ∨ op = 110 ∨ op = 104 ∨ op = 72 ∨ op = 103 ∨ op = 71 ∨ op = 120 ∨ op = 115 ∨ op = 98 ∨ op = 116 := by simpa [opsL] using h
  rcases hh with rfl | rfl | rfl | rfl | rfl | rfl | rfl | rfl | rfl | rfl | rfl | rfl
  all_goals rfl
theorem cmdF_not (op : UInt8) (h : opsL.contains op = false) : cmdF (op.toNat : Int) = none := by
  have hh : ¬ (op = 112 ∨ op = 100 ∨ op = 113 ∨ op = 110 ∨ op = 104 ∨ op = 72 ∨ op = 103 ∨ op = 71 ∨ op = 120 ∨ op = 115 ∨ op = 98 ∨ op = 116) := by
    intro hc
    have : opsL.contains op = true := by simpa [opsL] using hc
    rw [h] at this; cases this
  simp only [not_or] at hh
  obtain ⟨h1, h2, h3, h4, h5, h6, h7, h8, h9, h10, h11, h12⟩ := hh
  have hne : ∀ (k : UInt8), op ≠ k → ((k.toNat : Int) == (op.toNat : Int)) = false := fun k hk => by
    rw [beq_eq_false_iff_ne]
    exact fun e => hk (UInt8.toNat_inj.1 (by omega))
  have a1 : ((112 : Int) == (op.toNat : Int)) = false := hne 112 h1
  have a2 : ((100 : Int) == (op.toNat : Int)) = false := hne 100 h2
  have a3 : ((113 : Int) == (op.toNat : Int)) = false := hne 113 h3
  have a4 : ((110 : Int) == (op.toNat : Int)) = false := hne 110 h4
  have a5 : ((104 : Int) == (op.toNat : Int)) = false := hne 104 h5
  have a6 : ((72 : Int) == (op.toNat : Int)) = false := hne 72 h6
  have a7 : ((103 : Int) == (op.toNat : Int)) = false := hne 103 h7
  have a8 : ((71 : Int) == (op.toNat : Int)) = false := hne 71 h8
  have a9 : ((120 : Int) == (op.toNat : Int)) = false := hne 120 h9
  have a10 : ((115 : Int) == (op.toNat : Int)) = false := hne 115 h10
  have a11 : ((98 : Int) == (op.toNat : Int)) = false := hne 98 h11
  have a12 : ((116 : Int) == (op.toNat : Int)) = false := hne 116 h12
  unfold cmdF cmdE
  simp only [List.find?, a1, a2, a3, a4, a5, a6, a7, a8, a9, a10, a11, a12]
  rfl
/-- The map of commands is the block that stays. -/
def KoOk (E : RC) (mc : Nat) : Prop := E.ko = some mc ∧ ∀ es cl, E.kp (.map es cl) → ∃ D, (∀ w : World, w.heap[mc]? = some (.map es cl) → w.ownsMap Tryz.prog 5 (mthR E.p) mc 12 D) ∧ HalfD cmdF [] D
set_option maxHeartbeats 2000000 in
theorem do9_any (O : Ora) (E : RC) (hE : E.Ok) (hS : OraS O E) (s : Sn) (n : Nat) (w : World) (h : RunM E s n 1 w) (k : Nat) (c : Cm) (hk : E.cs[k]? = some c) (hop : opsL.contains c.op = true) (hC : s.out.length < E.C) (hf : c.op = 115 → s.pat.size ≤ O.L ∧ (O.S c s.pat).2 ≤ 1000000000) (gs cl : Nat) (hv : E.vl = .slice (some ⟨gs, 0, none⟩) E.cs.length cl)
    (hl : ∀ w', Below E.B w w' → w'.cell? ⟨gs, k * 13 + 12, none⟩ = some (.string ⟨c.label.toArray⟩)) (hp : ∀ w', Below E.B w w' → w'.cell? ⟨gs, k * 13 + 11, none⟩ = some (.bool c.prt)) :
    Calls Tryz.prog (cmdOf (c.op.toNat : Int)) #[.pointer (some ⟨E.p, 0, none⟩), .pointer (some ⟨gs, k * 13, none⟩)] w fun e w' => e = .returned (.int .i64 (doD O E.cs E.xs E.q c s).1.n) ∧ RunM E (doD O E.cs E.xs E.q c s).2 n 0 w' := by
  have hmem : c ∈ E.cs := List.mem_of_getElem? hk
  have hlab := hE.lab c hmem
  have h0 := h.fewer (Nat.zero_le 1)
  have hlz : (⟨c.label.toArray⟩ : ByteArray).size ≤ 1000000000 := by show c.label.toArray.size ≤ _; rw [List.size_toArray]; exact hlab
  have hh : c.op = 112 ∨ c.op = 100 ∨ c.op = 113 ∨ c.op = 110 ∨ c.op = 104 ∨ c.op = 72 ∨ c.op = 103 ∨ c.op = 71 ∨ c.op = 120 ∨ c.op = 115 ∨ c.op = 98 ∨ c.op = 116 := by simpa [opsL] using hop
  rcases hh with e | e | e | e | e | e | e | e | e | e | e | e
  · rw [show cmdOf (c.op.toNat : Int) = 60 by rw [e]; rfl, show doD O E.cs E.xs E.q c s = (.further, outD s) by simp [doD, e]]
    exact print9_any E hE s n 0 w h0 hC _
  · rw [show cmdOf (c.op.toNat : Int) = 61 by rw [e]; rfl, show doD O E.cs E.xs E.q c s = (.cut, s) by simp [doD, e]]
    refine (drop9_any _ _ w).mono ?_
    rintro e w' ⟨rfl, rfl⟩
    exact ⟨rfl, h0⟩
  · rw [show cmdOf (c.op.toNat : Int) = 62 by rw [e]; rfl, show doD O E.cs E.xs E.q c s = (.stop, endD E.q s) by simp [doD, e]]
    exact quit9_any E hE s n 0 w h0 (fun _ => hC) _
  · rw [show cmdOf (c.op.toNat : Int) = 63 by rw [e]; rfl, show doD O E.cs E.xs E.q c s = (if s.num = E.xs.length then (.stop, endD E.q s) else (.further, takeD E.xs (endD E.q s))) by simp [doD, e]]
    have k := next9_any E hE s n 0 w h0 (fun _ => hC) (.pointer (some ⟨gs, k * 13, none⟩))
    by_cases hn : s.num = E.xs.length
    · rw [if_pos hn, if_pos hn] at k
      rw [if_pos hn]
      exact k
    · rw [if_neg hn, if_neg hn] at k
      rw [if_neg hn]
      exact k
  · rw [show cmdOf (c.op.toNat : Int) = 64 by rw [e]; rfl, show doD O E.cs E.xs E.q c s = (.further, { s with hold := s.pat }) by simp [doD, e]]
    exact keep9_any E hE s n 0 w h0 _
  · rw [show cmdOf (c.op.toNat : Int) = 65 by rw [e]; rfl, show doD O E.cs E.xs E.q c s = (if 65536 < s.hold.size + 1 + s.pat.size then (.burst, s) else (.further, { s with hold := s.hold ++ (lineB ++ s.pat) })) by simp [doD, e]]
    have k := keepMore9_any E hE s n 0 w h0 (.pointer (some ⟨gs, k * 13, none⟩))
    by_cases hn : 65536 < s.hold.size + 1 + s.pat.size
    · rw [if_pos hn, if_pos hn] at k
      rw [if_pos hn]
      exact k
    · rw [if_neg hn, if_neg hn] at k
      rw [if_neg hn]
      exact k
  · rw [show cmdOf (c.op.toNat : Int) = 66 by rw [e]; rfl, show doD O E.cs E.xs E.q c s = (.further, { s with pat := s.hold }) by simp [doD, e]]
    exact fetch9_any E hE s n 0 w h0 _
  · rw [show cmdOf (c.op.toNat : Int) = 67 by rw [e]; rfl, show doD O E.cs E.xs E.q c s = (if 65536 < s.pat.size + 1 + s.hold.size then (.burst, s) else (.further, { s with pat := s.pat ++ (lineB ++ s.hold) })) by simp [doD, e]]
    have k := fetchMore9_any E hE s n 0 w h0 (.pointer (some ⟨gs, k * 13, none⟩))
    by_cases hn : 65536 < s.pat.size + 1 + s.hold.size
    · rw [if_pos hn, if_pos hn] at k
      rw [if_pos hn]
      exact k
    · rw [if_neg hn, if_neg hn] at k
      rw [if_neg hn]
      exact k
  · rw [show cmdOf (c.op.toNat : Int) = 68 by rw [e]; rfl, show doD O E.cs E.xs E.q c s = (.further, { s with pat := s.hold, hold := s.pat }) by simp [doD, e]]
    exact swap9_any E hE s n 0 w h0 _
  · rw [show cmdOf (c.op.toNat : Int) = 69 by rw [e]; rfl]
    have k := subst9_any E hE s n 0 w h0 gs (k * 13) c.prt (O.S c s.pat).1 (O.S c s.pat).2 (fun _ => hC) hp (hf e).2 (hS c hmem e k hk gs cl s.pat w hv (h.low' hE) (hf e).1)
    have ed : doD O E.cs E.xs E.q c s = (if (O.S c s.pat).2 = 0 then (.further, s) else if 65536 < (O.S c s.pat).1.size then (.burst, s)
      else (.further, if c.prt then outD { s with pat := (O.S c s.pat).1, chg := true } else { s with pat := (O.S c s.pat).1, chg := true })) := by simp [doD, e]
    rw [ed]
    by_cases hn : (O.S c s.pat).2 = 0
    · rw [if_pos hn, if_pos hn] at k
      rw [if_pos hn]
      exact k
    · rw [if_neg hn, if_neg hn] at k
      rw [if_neg hn]
      by_cases hb : 65536 < (O.S c s.pat).1.size
      · rw [if_pos hb, if_pos hb] at k
        rw [if_pos hb]
        exact k
      · rw [if_neg hb, if_neg hb] at k
        rw [if_neg hb]
        exact k
  · rw [show cmdOf (c.op.toNat : Int) = 70 by rw [e]; rfl, show doD O E.cs E.xs E.q c s = (.further, { s with pos := placeD E.cs c.label }) by simp [doD, e]]
    exact branch9_any E hE s n 0 w h gs (k * 13) ⟨c.label.toArray⟩ hlz (hl w (Below.refl _ _))
  · rw [show cmdOf (c.op.toNat : Int) = 71 by rw [e]; rfl, show doD O E.cs E.xs E.q c s = (.further, if s.chg then { s with chg := false, pos := placeD E.cs c.label } else s) by simp [doD, e]]
    exact branchIf9_any E hE s n 0 w h gs (k * 13) ⟨c.label.toArray⟩ hlz hl
theorem cmd_enters (op : UInt8) (h : opsL.contains op = true) : ∀ args w, (callFunc (cmdOf (op.toNat : Int)) args).run Tryz.prog w = .ok (.enter (cmdOf (op.toNat : Int)) args) w := by
  have hh : op = 112 ∨ op = 100 ∨ op = 113 ∨ op = 110 ∨ op = 104 ∨ op = 72 ∨ op = 103 ∨ op = 71 ∨ op = 120 ∨ op = 115 ∨ op = 98 ∨ op = 116 := by simpa [opsL] using h
  rcases hh with rfl | rfl | rfl | rfl | rfl | rfl | rfl | rfl | rfl | rfl | rfl | rfl
  · exact enters_of Tryz.func60 (by kernel_rfl) rfl
  · exact enters_of Tryz.func61 (by kernel_rfl) rfl
  · exact enters_of Tryz.func62 (by kernel_rfl) rfl
  · exact enters_of Tryz.func63 (by kernel_rfl) rfl
  · exact enters_of Tryz.func64 (by kernel_rfl) rfl
  · exact enters_of Tryz.func65 (by kernel_rfl) rfl
  · exact enters_of Tryz.func66 (by kernel_rfl) rfl
  · exact enters_of Tryz.func67 (by kernel_rfl) rfl
  · exact enters_of Tryz.func68 (by kernel_rfl) rfl
  · exact enters_of Tryz.func69 (by kernel_rfl) rfl
  · exact enters_of Tryz.func70 (by kernel_rfl) rfl
  · exact enters_of Tryz.func71 (by kernel_rfl) rfl
theorem eq_nilF (w : World) : (binOp BinOp.eql 110 .nilFunc .nilFunc).run Tryz.prog w = .ok (.bool true) w := by kernel_rfl
theorem eq_funF (k : FuncId) (xs ys : Array Value) (w : World) : (binOp BinOp.eql 110 (.func (.func k) xs ys) .nilFunc).run Tryz.prog w = .ok (.bool false) w := by kernel_rfl
set_option maxHeartbeats 8000000 in
set_option maxRecDepth 20000 in
theorem step9_walk (E : RC) (s1 s2 : Sn) (n mc gs cl K N : Nat) (op : UInt8) (neg b : Bool) (F : Int) (s3 : Sn) (f : Nat) (w : World) (w1 : World) (hw1 : w1 = w.setCell ⟨E.p, 8, none⟩ (.int .i64 ((K : Int) + 1))) (hKN : (K : Int) < (N : Int)) (hNb : N ≤ 1000000000)
    (_c2 : w.cell? ⟨E.p, 2, none⟩ = some (.slice (some ⟨gs, 0, none⟩) N cl)) (c8 : w.cell? ⟨E.p, 8, none⟩ = some (.int .i64 (K : Int))) (f8 : w.frozen? ⟨E.p, 8, none⟩ = false)
    (d2 : w1.cell? ⟨E.p, 2, none⟩ = some (.slice (some ⟨gs, 0, none⟩) N cl)) (e0 : w1.cell? ⟨gs, K * 13, none⟩ = some (.int .u8 (op.toNat : Int))) (e7 : w1.cell? ⟨gs, K * 13 + 7, none⟩ = some (.bool neg))
    (hE : E.Ok) (h1 : RunM E s1 n 1 w1)
    (hno : opsL.contains op = false → (Instr.lookup 91 (.map (some mc)) (.int .u8 (op.toNat : Int)) false).run Tryz.prog w1 = .ok .nilFunc w1)
    (hyes : opsL.contains op = true → (Instr.lookup 91 (.map (some mc)) (.int .u8 (op.toNat : Int)) false).run Tryz.prog w1 = .ok (.func (.func f) #[.pointer (some ⟨E.p, 0, none⟩)] #[]) w1 ∧ (∀ args w, (callFunc f args).run Tryz.prog w = .ok (.enter f args) w) ∧
      (∀ w', RunM E s1 n 1 w' → Calls Tryz.prog 72 #[.pointer (some ⟨E.p, 0, none⟩), .int .i64 (K : Int)] w' fun e w'' => e = .returned (.bool b) ∧ RunM E s2 n 1 w'' ∧ w''.cell? ⟨gs, K * 13 + 7, none⟩ = some (.bool neg)) ∧
      (b ≠ neg → ∀ w', RunM E s2 n 1 w' → Calls Tryz.prog f #[.pointer (some ⟨E.p, 0, none⟩), .pointer (some ⟨gs, K * 13, none⟩)] w' fun e w'' => e = .returned (.int .i64 F) ∧ RunM E s3 n 0 w'')) :
    Calls Tryz.prog 42 #[.pointer (some ⟨E.p, 0, none⟩), .map (some mc)] w fun e w' => e = .returned (.int .i64 (if opsL.contains op = true then if b = neg then 0 else F else 0)) ∧ RunM E (if opsL.contains op = true then if b = neg then s2 else s3 else s1) n 0 w' := by
  have k0 : (0 : Int) ≤ (K : Int) := by omega
  have kb : (K : Int) ≤ 1000000000 := by omega
  have HE := Lib.hid (And.intro hE h1)
  have hq1 := eq_nilF
  have hq2 := eq_funF
  cases hop : opsL.contains op with
  | false =>
    have hlk := hno hop
    rw [if_neg (by simp), if_neg (by simp)]
    have HW := Lib.hid hw1
    clear hw1 hno hyes hop h1 hE hNb
    go_enter Tryz.func42, Tryz.ntmps42
    go_upto_region 2 with (fail)
    go_upto_region 3 with (fail)
    rw [← HW.out]
    go_wp2_with fail
    refine wp_region_noPanic ?_
    refine wp_region_held_drew (S := fun W' => W'.cell? ⟨gs, K * 13 + 7, none⟩ = some (.bool neg)) (by kernel_rfl) (e7) (fun hHeld => ?_)
    refine wpAnyH_take (i := 0) (v := ?_) rfl (by kernel_rfl) (by kernel_rfl) (by kernel_rfl) (fun _ _ _ h => h) ?_ hHeld ?_; rotate_left; · (simp only [List.getElem_toArray, List.getElem_cons_zero]; refine Or.inl ⟨by rfl, ?_⟩; intro w hSw; (try dsimp only at hSw); go_simp; try with_reducible rfl)
    try simp only [List.getElem_toArray, List.getElem_cons_zero, Act.put, List.setIfInBounds_toArray, List.set_cons_zero, List.set_cons_succ]
    refine wpAnyH_take (i := 1) (v := ?_) rfl (by kernel_rfl) (by kernel_rfl) (by kernel_rfl) (fun _ _ _ h => h) ?_ hHeld ?_; rotate_left; · (simp only [List.getElem_toArray, List.getElem_cons_succ, List.getElem_cons_zero]; refine Or.inl ⟨by rfl, ?_⟩; intro w hSw; (try dsimp only at hSw); go_simp; try with_reducible rfl)
    try simp only [List.getElem_toArray, List.getElem_cons_succ, List.getElem_cons_zero, Act.put, List.setIfInBounds_toArray, List.set_cons_zero, List.set_cons_succ]
    refine wpAnyH_take (i := 2) (v := ?_) rfl (by kernel_rfl) (by kernel_rfl) (by kernel_rfl) (fun _ _ _ h => h) ?_ hHeld ?_; rotate_left; · (simp only [List.getElem_toArray, List.getElem_cons_succ, List.getElem_cons_zero]; refine Or.inl ⟨by rfl, ?_⟩; intro w hSw; (try dsimp only at hSw); go_simp; try with_reducible rfl)
    try simp only [List.getElem_toArray, List.getElem_cons_succ, List.getElem_cons_zero, Act.put, List.setIfInBounds_toArray, List.set_cons_zero, List.set_cons_succ]
    refine wpAnyH_take (i := 3) (v := undef) rfl (by kernel_rfl) (by kernel_rfl) (by kernel_rfl) (fun _ _ _ h => h) ?_ hHeld ?_; · (simp only [List.getElem_toArray, List.getElem_cons_succ, List.getElem_cons_zero]; exact Or.inr ⟨by rfl, rfl⟩)
    try simp only [List.getElem_toArray, List.getElem_cons_succ, List.getElem_cons_zero, Act.put, List.setIfInBounds_toArray, List.set_cons_zero, List.set_cons_succ]
    refine wpAnyH_take (i := 4) (v := undef) rfl (by kernel_rfl) (by kernel_rfl) (by kernel_rfl) (fun _ _ _ h => h) ?_ hHeld ?_; · (simp only [List.getElem_toArray, List.getElem_cons_succ, List.getElem_cons_zero]; exact Or.inr ⟨by rfl, rfl⟩)
    try simp only [List.getElem_toArray, List.getElem_cons_succ, List.getElem_cons_zero, Act.put, List.setIfInBounds_toArray, List.set_cons_zero, List.set_cons_succ]
    refine wpAnyH_take (i := 5) (v := undef) rfl (by kernel_rfl) (by kernel_rfl) (by kernel_rfl) (fun _ _ _ h => h) ?_ hHeld ?_; · (simp only [List.getElem_toArray, List.getElem_cons_succ, List.getElem_cons_zero]; exact Or.inr ⟨by rfl, rfl⟩)
    try simp only [List.getElem_toArray, List.getElem_cons_succ, List.getElem_cons_zero, Act.put, List.setIfInBounds_toArray, List.set_cons_zero, List.set_cons_succ]
    refine wpAnyH_take (i := 6) (v := undef) rfl (by kernel_rfl) (by kernel_rfl) (by kernel_rfl) (fun _ _ _ h => h) ?_ hHeld ?_; · (simp only [List.getElem_toArray, List.getElem_cons_succ, List.getElem_cons_zero]; exact Or.inr ⟨by rfl, rfl⟩)
    try simp only [List.getElem_toArray, List.getElem_cons_succ, List.getElem_cons_zero, Act.put, List.setIfInBounds_toArray, List.set_cons_zero, List.set_cons_succ]
    refine wpAnyH_take (i := 7) (v := undef) rfl (by kernel_rfl) (by kernel_rfl) (by kernel_rfl) (fun _ _ _ h => h) ?_ hHeld ?_; · (simp only [List.getElem_toArray, List.getElem_cons_succ, List.getElem_cons_zero]; exact Or.inr ⟨by rfl, rfl⟩)
    try simp only [List.getElem_toArray, List.getElem_cons_succ, List.getElem_cons_zero, Act.put, List.setIfInBounds_toArray, List.set_cons_zero, List.set_cons_succ]
    refine wpAnyH_take (i := 8) (v := undef) rfl (by kernel_rfl) (by kernel_rfl) (by kernel_rfl) (fun _ _ _ h => h) ?_ hHeld ?_; · (simp only [List.getElem_toArray, List.getElem_cons_succ, List.getElem_cons_zero]; exact Or.inr ⟨by rfl, rfl⟩)
    try simp only [List.getElem_toArray, List.getElem_cons_succ, List.getElem_cons_zero, Act.put, List.setIfInBounds_toArray, List.set_cons_zero, List.set_cons_succ]
    refine wpAnyH_take (i := 9) (v := undef) rfl (by kernel_rfl) (by kernel_rfl) (by kernel_rfl) (fun _ _ _ h => h) ?_ hHeld ?_; · (simp only [List.getElem_toArray, List.getElem_cons_succ, List.getElem_cons_zero]; exact Or.inr ⟨by rfl, rfl⟩)
    try simp only [List.getElem_toArray, List.getElem_cons_succ, List.getElem_cons_zero, Act.put, List.setIfInBounds_toArray, List.set_cons_zero, List.set_cons_succ]
    refine wpAnyH_take (i := 10) (v := undef) rfl (by kernel_rfl) (by kernel_rfl) (by kernel_rfl) (fun _ _ _ h => h) ?_ hHeld ?_; · (simp only [List.getElem_toArray, List.getElem_cons_succ, List.getElem_cons_zero]; exact Or.inr ⟨by rfl, rfl⟩)
    try simp only [List.getElem_toArray, List.getElem_cons_succ, List.getElem_cons_zero, Act.put, List.setIfInBounds_toArray, List.set_cons_zero, List.set_cons_succ]
    refine wpAnyH_take (i := 11) (v := ?_) rfl (by kernel_rfl) (by kernel_rfl) (by kernel_rfl) (fun _ _ _ h => h) ?_ hHeld ?_; rotate_left; · (simp only [List.getElem_toArray, List.getElem_cons_succ, List.getElem_cons_zero]; refine Or.inl ⟨by rfl, ?_⟩; intro w hSw; (try dsimp only at hSw); go_simp; try with_reducible rfl)
    try simp only [List.getElem_toArray, List.getElem_cons_succ, List.getElem_cons_zero, Act.put, List.setIfInBounds_toArray, List.set_cons_zero, List.set_cons_succ]
    refine wpAnyH_done (by kernel_rfl) ?_ _
    refine NoPanic.normal ?_
    go_wp2
    exact bodyPost_ret (results_tmp rfl _ _ _) rfl ⟨rfl, (HE.out.2.below HE.out.1 (Below.refl _ _).drew).fewer (Nat.zero_le 1)⟩
  | true =>
    obtain ⟨hlk, hen, kA, kF⟩ := hyes hop
    rw [if_pos rfl, if_pos rfl]
    have HW := Lib.hid hw1
    clear hw1
    have kA := kA w1.drew (h1.below hE (Below.refl _ _).drew)
    by_cases hbn : b = neg
    · rw [if_pos hbn, if_pos hbn]
      have hbq : (b == neg) = true := by rw [hbn]; exact beq_self_eq_true neg
      clear hno hyes hop h1 hE hNb kF hen hbn
      go_enter Tryz.func42, Tryz.ntmps42
      go_upto_region 2 with (fail)
      go_upto_region 3 with (fail)
      rw [← HW.out]
      go_wp2_with fail
      refine wp_region_noPanic ?_
      refine wp_region_held_drew (S := fun W' => W'.cell? ⟨gs, K * 13 + 7, none⟩ = some (.bool neg)) (by kernel_rfl) (e7) (fun hHeld => ?_)
      refine wpAnyH_take (i := 0) (v := ?_) rfl (by kernel_rfl) (by kernel_rfl) (by kernel_rfl) (fun _ _ _ h => h) ?_ hHeld ?_; rotate_left; · (simp only [List.getElem_toArray, List.getElem_cons_zero]; refine Or.inl ⟨by rfl, ?_⟩; intro w hSw; (try dsimp only at hSw); go_simp; try with_reducible rfl)
      try simp only [List.getElem_toArray, List.getElem_cons_zero, Act.put, List.setIfInBounds_toArray, List.set_cons_zero, List.set_cons_succ]
      refine wpAnyH_take (i := 1) (v := ?_) rfl (by kernel_rfl) (by kernel_rfl) (by kernel_rfl) (fun _ _ _ h => h) ?_ hHeld ?_; rotate_left; · (simp only [List.getElem_toArray, List.getElem_cons_succ, List.getElem_cons_zero]; refine Or.inl ⟨by rfl, ?_⟩; intro w hSw; (try dsimp only at hSw); go_simp; try with_reducible rfl)
      try simp only [List.getElem_toArray, List.getElem_cons_succ, List.getElem_cons_zero, Act.put, List.setIfInBounds_toArray, List.set_cons_zero, List.set_cons_succ]
      refine wpAnyH_take (i := 2) (v := ?_) rfl (by kernel_rfl) (by kernel_rfl) (by kernel_rfl) (fun _ _ _ h => h) ?_ hHeld ?_; rotate_left; · (simp only [List.getElem_toArray, List.getElem_cons_succ, List.getElem_cons_zero]; refine Or.inl ⟨by rfl, ?_⟩; intro w hSw; (try dsimp only at hSw); go_simp; try with_reducible rfl)
      try simp only [List.getElem_toArray, List.getElem_cons_succ, List.getElem_cons_zero, Act.put, List.setIfInBounds_toArray, List.set_cons_zero, List.set_cons_succ]
      refine wpAnyH_take (i := 3) (v := ?_) rfl (by kernel_rfl) (by kernel_rfl) (by kernel_rfl) (fun _ _ _ h => h) ?_ hHeld ?_; rotate_left; · (simp only [List.getElem_toArray, List.getElem_cons_succ, List.getElem_cons_zero]; refine Or.inl ⟨by rfl, ?_⟩; intro w hSw; (try dsimp only at hSw); go_simp; try with_reducible rfl)
      try simp only [List.getElem_toArray, List.getElem_cons_succ, List.getElem_cons_zero, Act.put, List.setIfInBounds_toArray, List.set_cons_zero, List.set_cons_succ]
      refine wpAnyH_take (i := 4) (v := ?_) rfl (by kernel_rfl) (by kernel_rfl) (by kernel_rfl) (fun _ _ _ h => h) ?_ hHeld ?_; rotate_left; · (simp only [List.getElem_toArray, List.getElem_cons_succ, List.getElem_cons_zero]; refine Or.inl ⟨by rfl, ?_⟩; intro w hSw; (try dsimp only at hSw); go_simp; try with_reducible rfl)
      try simp only [List.getElem_toArray, List.getElem_cons_succ, List.getElem_cons_zero, Act.put, List.setIfInBounds_toArray, List.set_cons_zero, List.set_cons_succ]
      refine wpAnyH_take (i := 6) (v := ?_) rfl (by kernel_rfl) (by kernel_rfl) (by kernel_rfl) (fun _ _ _ h => h) ?_ hHeld ?_; rotate_left; · (simp only [List.getElem_toArray, List.getElem_cons_succ, List.getElem_cons_zero]; refine Or.inl ⟨by rfl, ?_⟩; intro w hSw; (try dsimp only at hSw); go_simp; try with_reducible rfl)
      try simp only [List.getElem_toArray, List.getElem_cons_succ, List.getElem_cons_zero, Act.put, List.setIfInBounds_toArray, List.set_cons_zero, List.set_cons_succ]
      refine wpAnyH_take (i := 7) (v := ?_) rfl (by kernel_rfl) (by kernel_rfl) (by kernel_rfl) (fun _ _ _ h => h) ?_ hHeld ?_; rotate_left; · (simp only [List.getElem_toArray, List.getElem_cons_succ, List.getElem_cons_zero]; refine Or.inl ⟨by rfl, ?_⟩; intro w hSw; (try dsimp only at hSw); go_simp; try with_reducible rfl)
      try simp only [List.getElem_toArray, List.getElem_cons_succ, List.getElem_cons_zero, Act.put, List.setIfInBounds_toArray, List.set_cons_zero, List.set_cons_succ]
      refine wpAnyH_take (i := 8) (v := ?_) rfl (by kernel_rfl) (by kernel_rfl) (by kernel_rfl) (fun _ _ _ h => h) ?_ hHeld ?_; rotate_left; · (simp only [List.getElem_toArray, List.getElem_cons_succ, List.getElem_cons_zero]; refine Or.inl ⟨by rfl, ?_⟩; intro w hSw; (try dsimp only at hSw); go_simp; try with_reducible rfl)
      try simp only [List.getElem_toArray, List.getElem_cons_succ, List.getElem_cons_zero, Act.put, List.setIfInBounds_toArray, List.set_cons_zero, List.set_cons_succ]
      refine wpAnyH_take (i := 9) (v := ?_) rfl (by kernel_rfl) (by kernel_rfl) (by kernel_rfl) (fun _ _ _ h => h) ?_ hHeld ?_; rotate_left; · (simp only [List.getElem_toArray, List.getElem_cons_succ, List.getElem_cons_zero]; refine Or.inl ⟨by rfl, ?_⟩; intro w hSw; (try dsimp only at hSw); go_simp; try with_reducible rfl)
      try simp only [List.getElem_toArray, List.getElem_cons_succ, List.getElem_cons_zero, Act.put, List.setIfInBounds_toArray, List.set_cons_zero, List.set_cons_succ]
      refine wpAnyH_ready (rs := [5]) (by kernel_rfl) (by simp) ?_
      refine AllReadyH.cons rfl (fun K hK => ?_) AllReadyH.nil
      simp only [List.getElem_toArray, List.getElem_cons_succ, List.getElem_cons_zero]
      go_simp
      go_at_call 72; (with_reducible refine kA.mono ?_); rintro e w2 ⟨rfl, h2, ce2⟩; have HA := Lib.hid h2; clear h2 kA
      try dsimp only
      refine hK.out _ _ (ce2) (fun hNew => ?_)
      clear hK K hHeld
      have hHeld := hNew
      clear hNew
      try simp only [List.getElem_toArray, List.getElem_cons_succ, List.getElem_cons_zero, Act.put, List.setIfInBounds_toArray, List.set_cons_zero, List.set_cons_succ]
      refine wpAnyH_take (i := 10) (v := ?_) rfl (by kernel_rfl) (by kernel_rfl) (by kernel_rfl) (fun _ _ _ h => h) ?_ hHeld ?_; rotate_left; · (simp only [List.getElem_toArray, List.getElem_cons_succ, List.getElem_cons_zero]; refine Or.inl ⟨by rfl, ?_⟩; intro w hSw; (try dsimp only at hSw); go_simp; try with_reducible rfl)
      try simp only [List.getElem_toArray, List.getElem_cons_succ, List.getElem_cons_zero, Act.put, List.setIfInBounds_toArray, List.set_cons_zero, List.set_cons_succ]
      refine wpAnyH_take (i := 11) (v := ?_) rfl (by kernel_rfl) (by kernel_rfl) (by kernel_rfl) (fun _ _ _ h => h) ?_ hHeld ?_; rotate_left; · (simp only [List.getElem_toArray, List.getElem_cons_succ, List.getElem_cons_zero]; refine Or.inl ⟨by rfl, ?_⟩; intro w hSw; (try dsimp only at hSw); go_simp; try with_reducible rfl)
      try simp only [List.getElem_toArray, List.getElem_cons_succ, List.getElem_cons_zero, Act.put, List.setIfInBounds_toArray, List.set_cons_zero, List.set_cons_succ]
      refine wpAnyH_done (by kernel_rfl) ?_ _
      refine NoPanic.normal ?_
      go_wp2
      exact bodyPost_ret (results_tmp rfl _ _ _) rfl ⟨rfl, HA.out.fewer (Nat.zero_le 1)⟩
    · rw [if_neg hbn, if_neg hbn]
      have kF := kF hbn
      have hbq : (b == neg) = false := by rw [beq_eq_false_iff_ne]; exact hbn
      clear hno hyes hop h1 hE hNb hbn
      go_enter Tryz.func42, Tryz.ntmps42
      go_upto_region 2 with (fail)
      go_upto_region 3 with (fail)
      rw [← HW.out]
      go_wp2_with fail
      refine wp_region_noPanic ?_
      refine wp_region_held_drew (S := fun W' => W'.cell? ⟨gs, K * 13 + 7, none⟩ = some (.bool neg)) (by kernel_rfl) (e7) (fun hHeld => ?_)
      refine wpAnyH_take (i := 0) (v := ?_) rfl (by kernel_rfl) (by kernel_rfl) (by kernel_rfl) (fun _ _ _ h => h) ?_ hHeld ?_; rotate_left; · (simp only [List.getElem_toArray, List.getElem_cons_zero]; refine Or.inl ⟨by rfl, ?_⟩; intro w hSw; (try dsimp only at hSw); go_simp; try with_reducible rfl)
      try simp only [List.getElem_toArray, List.getElem_cons_zero, Act.put, List.setIfInBounds_toArray, List.set_cons_zero, List.set_cons_succ]
      refine wpAnyH_take (i := 1) (v := ?_) rfl (by kernel_rfl) (by kernel_rfl) (by kernel_rfl) (fun _ _ _ h => h) ?_ hHeld ?_; rotate_left; · (simp only [List.getElem_toArray, List.getElem_cons_succ, List.getElem_cons_zero]; refine Or.inl ⟨by rfl, ?_⟩; intro w hSw; (try dsimp only at hSw); go_simp; try with_reducible rfl)
      try simp only [List.getElem_toArray, List.getElem_cons_succ, List.getElem_cons_zero, Act.put, List.setIfInBounds_toArray, List.set_cons_zero, List.set_cons_succ]
      refine wpAnyH_take (i := 2) (v := ?_) rfl (by kernel_rfl) (by kernel_rfl) (by kernel_rfl) (fun _ _ _ h => h) ?_ hHeld ?_; rotate_left; · (simp only [List.getElem_toArray, List.getElem_cons_succ, List.getElem_cons_zero]; refine Or.inl ⟨by rfl, ?_⟩; intro w hSw; (try dsimp only at hSw); go_simp; try with_reducible rfl)
      try simp only [List.getElem_toArray, List.getElem_cons_succ, List.getElem_cons_zero, Act.put, List.setIfInBounds_toArray, List.set_cons_zero, List.set_cons_succ]
      refine wpAnyH_take (i := 3) (v := ?_) rfl (by kernel_rfl) (by kernel_rfl) (by kernel_rfl) (fun _ _ _ h => h) ?_ hHeld ?_; rotate_left; · (simp only [List.getElem_toArray, List.getElem_cons_succ, List.getElem_cons_zero]; refine Or.inl ⟨by rfl, ?_⟩; intro w hSw; (try dsimp only at hSw); go_simp; try with_reducible rfl)
      try simp only [List.getElem_toArray, List.getElem_cons_succ, List.getElem_cons_zero, Act.put, List.setIfInBounds_toArray, List.set_cons_zero, List.set_cons_succ]
      refine wpAnyH_take (i := 4) (v := ?_) rfl (by kernel_rfl) (by kernel_rfl) (by kernel_rfl) (fun _ _ _ h => h) ?_ hHeld ?_; rotate_left; · (simp only [List.getElem_toArray, List.getElem_cons_succ, List.getElem_cons_zero]; refine Or.inl ⟨by rfl, ?_⟩; intro w hSw; (try dsimp only at hSw); go_simp; try with_reducible rfl)
      try simp only [List.getElem_toArray, List.getElem_cons_succ, List.getElem_cons_zero, Act.put, List.setIfInBounds_toArray, List.set_cons_zero, List.set_cons_succ]
      refine wpAnyH_take (i := 6) (v := ?_) rfl (by kernel_rfl) (by kernel_rfl) (by kernel_rfl) (fun _ _ _ h => h) ?_ hHeld ?_; rotate_left; · (simp only [List.getElem_toArray, List.getElem_cons_succ, List.getElem_cons_zero]; refine Or.inl ⟨by rfl, ?_⟩; intro w hSw; (try dsimp only at hSw); go_simp; try with_reducible rfl)
      try simp only [List.getElem_toArray, List.getElem_cons_succ, List.getElem_cons_zero, Act.put, List.setIfInBounds_toArray, List.set_cons_zero, List.set_cons_succ]
      refine wpAnyH_take (i := 7) (v := ?_) rfl (by kernel_rfl) (by kernel_rfl) (by kernel_rfl) (fun _ _ _ h => h) ?_ hHeld ?_; rotate_left; · (simp only [List.getElem_toArray, List.getElem_cons_succ, List.getElem_cons_zero]; refine Or.inl ⟨by rfl, ?_⟩; intro w hSw; (try dsimp only at hSw); go_simp; try with_reducible rfl)
      try simp only [List.getElem_toArray, List.getElem_cons_succ, List.getElem_cons_zero, Act.put, List.setIfInBounds_toArray, List.set_cons_zero, List.set_cons_succ]
      refine wpAnyH_take (i := 8) (v := ?_) rfl (by kernel_rfl) (by kernel_rfl) (by kernel_rfl) (fun _ _ _ h => h) ?_ hHeld ?_; rotate_left; · (simp only [List.getElem_toArray, List.getElem_cons_succ, List.getElem_cons_zero]; refine Or.inl ⟨by rfl, ?_⟩; intro w hSw; (try dsimp only at hSw); go_simp; try with_reducible rfl)
      try simp only [List.getElem_toArray, List.getElem_cons_succ, List.getElem_cons_zero, Act.put, List.setIfInBounds_toArray, List.set_cons_zero, List.set_cons_succ]
      refine wpAnyH_take (i := 9) (v := ?_) rfl (by kernel_rfl) (by kernel_rfl) (by kernel_rfl) (fun _ _ _ h => h) ?_ hHeld ?_; rotate_left; · (simp only [List.getElem_toArray, List.getElem_cons_succ, List.getElem_cons_zero]; refine Or.inl ⟨by rfl, ?_⟩; intro w hSw; (try dsimp only at hSw); go_simp; try with_reducible rfl)
      try simp only [List.getElem_toArray, List.getElem_cons_succ, List.getElem_cons_zero, Act.put, List.setIfInBounds_toArray, List.set_cons_zero, List.set_cons_succ]
      refine wpAnyH_ready (rs := [5]) (by kernel_rfl) (by simp) ?_
      refine AllReadyH.cons rfl (fun K hK => ?_) AllReadyH.nil
      simp only [List.getElem_toArray, List.getElem_cons_succ, List.getElem_cons_zero]
      go_simp
      go_at_call 72; (with_reducible refine kA.mono ?_); rintro e w2 ⟨rfl, h2, ce2⟩; have HA := Lib.hid h2; clear h2 kA
      try dsimp only
      refine hK.out _ _ (ce2) (fun hNew => ?_)
      clear hK K hHeld
      have hHeld := hNew
      clear hNew
      try simp only [List.getElem_toArray, List.getElem_cons_succ, List.getElem_cons_zero, Act.put, List.setIfInBounds_toArray, List.set_cons_zero, List.set_cons_succ]
      refine wpAnyH_take (i := 10) (v := ?_) rfl (by kernel_rfl) (by kernel_rfl) (by kernel_rfl) (fun _ _ _ h => h) ?_ hHeld ?_; rotate_left; · (simp only [List.getElem_toArray, List.getElem_cons_succ, List.getElem_cons_zero]; refine Or.inl ⟨by rfl, ?_⟩; intro w hSw; (try dsimp only at hSw); go_simp; try with_reducible rfl)
      try simp only [List.getElem_toArray, List.getElem_cons_succ, List.getElem_cons_zero, Act.put, List.setIfInBounds_toArray, List.set_cons_zero, List.set_cons_succ]
      refine wpAnyH_take (i := 11) (v := ?_) rfl (by kernel_rfl) (by kernel_rfl) (by kernel_rfl) (fun _ _ _ h => h) ?_ hHeld ?_; rotate_left; · (simp only [List.getElem_toArray, List.getElem_cons_succ, List.getElem_cons_zero]; refine Or.inl ⟨by rfl, ?_⟩; intro w hSw; (try dsimp only at hSw); go_simp; try with_reducible rfl)
      try simp only [List.getElem_toArray, List.getElem_cons_succ, List.getElem_cons_zero, Act.put, List.setIfInBounds_toArray, List.set_cons_zero, List.set_cons_succ]
      refine wpAnyH_done (by kernel_rfl) ?_ _
      refine NoPanic.normal ?_
      go_wp2_with (go_at_fn f; (with_reducible refine (kF _ HA.out).mono ?_); rintro e w3 ⟨rfl, h3⟩; have H3 := Lib.hid h3; clear h3)
      exact bodyPost_ret (results_tmp rfl _ _ _) rfl ⟨rfl, H3.out⟩
end Go.Proofs.YtkgpnlldlekcbaaGreatDoor
namespace Go.Proofs.YtkgpnlldlekcbaaGreatDoor
open Go.RowKit Go.Lib Go.Maps

def OraN (O : Ora) (E : RC) : Prop := ∀ c ∈ E.cs, c.op = 115 → ∀ s : ByteArray, s.size ≤ O.L → (O.S c s).2 ≤ 1000000000
theorem RC.Ok.cmd {E : RC} (hE : E.Ok) {k : Nat} {c : Cm} (hk : E.cs[k]? = some c) : ∃ gs cl, E.vl = .slice (some ⟨gs, 0, none⟩) E.cs.length cl ∧ ∀ w, Below E.B E.w0 w →
    w.cell? ⟨gs, k * 13, none⟩ = some (.int .u8 (c.op.toNat : Int)) ∧ w.cell? ⟨gs, k * 13 + 7, none⟩ = some (.bool c.neg) ∧ w.cell? ⟨gs, k * 13 + 11, none⟩ = some (.bool c.prt) ∧ w.cell? ⟨gs, k * 13 + 12, none⟩ = some (.string ⟨c.label.toArray⟩) := by
  obtain ⟨B', hs⟩ := hE.scr
  obtain ⟨al, cl, hv⟩ := hs.shape
  rw [hv] at hs
  obtain ⟨g, a1, a2, a3, b1, b2, b3, d1, d2, d3, q1, q2, q3, rfl, hg, hcm, ⟨e0, e1, e2, e3, e4, e5, e6, e7, e8, e9, e10, e11, e12⟩⟩ := hs.row hk
  refine ⟨g, cl, hv, fun w hb => ?_⟩
  rw [hE.eB] at hb
  exact ⟨cell_stays hb e0, cell_stays hb e7, cell_stays hb e11, cell_stays hb e12⟩
theorem step9_any (O : Ora) (E : RC) (hE : E.Ok) (hO : OraI O E) (hS : OraS O E) (hN : OraN O E) (mc : Nat) (hko : KoOk E mc) (s : Sn) (n : Nat) (w : World) (h : RunM E s n 1 w) (c : Cm) (hc : E.cs[s.pos]? = some c) (hC : s.out.length < E.C) (hfar : farD O E.xs c s = false) :
    Calls Tryz.prog 42 #[.pointer (some ⟨E.p, 0, none⟩), .map (some mc)] w fun e w' => e = .returned (.int .i64 (comeD O E.cs E.xs E.q c s).1.n) ∧ RunM E (comeD O E.cs E.xs E.q c s).2 n 0 w' := by
  obtain ⟨ao, cap, c0, c1, c2, c3, c4, c5, c6, c7, c8, c9, c10, c11⟩ := h.cells
  have f8 := h.frozen 8
  obtain ⟨gs, cl, hv, hcell⟩ := hE.cmd hc
  rw [hv] at c2
  have hkl : s.pos < E.cs.length := by
    by_cases h : s.pos < E.cs.length
    · exact h
    · rw [List.getElem?_eq_none (by omega)] at hc; cases hc
  have h1 : RunM E { s with pos := s.pos + 1 } n 1 (w.setCell ⟨E.p, 8, none⟩ (.int .i64 ((s.pos : Int) + 1))) := h.set hE 8 _ { s with pos := s.pos + 1 } n 1 (fun vo => rfl) rfl rfl (Nat.le_refl _) h.ps h.hs h.nm hkl
  obtain ⟨e0, e7, _, _⟩ := hcell _ h1.low
  obtain ⟨_, _, _, _, d2, _⟩ := h1.cells
  rw [hv] at d2
  obtain ⟨hk1, hk2⟩ := hko
  obtain ⟨es, clk, hk4, hk5⟩ := h1.kb _ hk1
  obtain ⟨D, hk2, hk3⟩ := hk2 es clk hk5
  have hmap := hk2 _ hk4
  have hkey := u8_key9 (c.op.toNat : Int) (WalkArith.wf_u8 (by have := c.op.toNat_lt; omega))
  have hat := fun z => hk3 (c.op.toNat : Int) z
  have hat : ∀ z, D.atKey (.int .u8 (c.op.toNat : Int)) z = match cmdF (c.op.toNat : Int) with
    | some f => .lit (.int .i64 (f : Int))
    | none => z := hat
  obtain ⟨v, ps, hrun, hR⟩ := hmap.lookup u8_law9 Tryz.underlying91 (zeroF9 _) (zd := .lit (.int .i64 (-1))) (zp := []) rfl hkey
  rw [hat] at hR
  have hfr : opsL.contains c.op = true → s.pat.size ≤ O.L ∨ lookD s s.pos c = false := fun hop => by
    unfold farD at hfar
    rw [hop, Bool.and_true] at hfar
    by_cases hl : s.pat.size ≤ O.L
    · exact .inl hl
    · rw [decide_eq_true (by omega), Bool.true_and, Bool.or_eq_false_iff] at hfar
      exact .inr hfar.1
  have hf2 : opsL.contains c.op = true → (addrD O E.xs s s.pos c).1 ≠ c.neg → c.op = 115 → s.pat.size ≤ O.L := fun hop hne e => by
    unfold farD at hfar
    rw [hop, Bool.and_true] at hfar
    by_cases hl : s.pat.size ≤ O.L
    · exact hl
    · rw [decide_eq_true (by omega), Bool.true_and, Bool.or_eq_false_iff] at hfar
      have h2 := hfar.2
      rw [e] at h2
      simp at h2
      exact absurd h2 hne
  have hcome : comeD O E.cs E.xs E.q c s = (if opsL.contains c.op = true then (if (addrD O E.xs s s.pos c).1 = c.neg then (.further, { s with on := (addrD O E.xs s s.pos c).2, pos := s.pos + 1 }) else doD O E.cs E.xs E.q c { s with on := (addrD O E.xs s s.pos c).2, pos := s.pos + 1 }) else (.further, { s with pos := s.pos + 1 })) := rfl
  have hN2 := hN c (List.mem_of_getElem? hc)
  have k := step9_walk E { s with pos := s.pos + 1 } { s with on := (addrD O E.xs s s.pos c).2, pos := s.pos + 1 } n mc gs cl s.pos E.cs.length c.op c.neg (addrD O E.xs s s.pos c).1 (doD O E.cs E.xs E.q c { s with on := (addrD O E.xs s s.pos c).2, pos := s.pos + 1 }).1.n (doD O E.cs E.xs E.q c { s with on := (addrD O E.xs s s.pos c).2, pos := s.pos + 1 }).2 (cmdOf (c.op.toNat : Int)) w _ rfl (by omega) hE.csl c2 c8 f8 d2 e0 e7 hE h1
    (fun hop => by
      rw [cmdF_not _ hop] at hR
      rw [mthR_nil hR] at hrun
      exact hrun)
    (fun hop => by
      rw [cmdF_of _ hop] at hR
      rw [mthR_inv hR] at hrun
      refine ⟨hrun, cmd_enters _ hop, fun w' h' => ?_, fun hne w' h' => ?_⟩
      · refine (addr9_any O E hE hO { s with pos := s.pos + 1 } n 1 w' h' s.pos c hc (hfr hop)).mono ?_
        rintro e w'' ⟨rfl, h2⟩
        exact ⟨rfl, h2, (hcell _ h2.low).2.1⟩
      · refine do9_any O E hE hS { s with on := (addrD O E.xs s s.pos c).2, pos := s.pos + 1 } n w' h' s.pos c hc hop hC (fun e => ⟨hf2 hop hne e, hN2 e s.pat (hf2 hop hne e)⟩) gs cl hv (fun w'' hb => (hcell _ (h'.low.trans hb)).2.2.2) (fun w'' hb => (hcell _ (h'.low.trans hb)).2.2.1))
  rw [hcome]
  cases hop : opsL.contains c.op with
  | false =>
    rw [hop, if_neg (by simp), if_neg (by simp)] at k
    rw [if_neg (by simp)]
    exact k
  | true =>
    rw [hop, if_pos rfl, if_pos rfl] at k
    rw [if_pos rfl]
    by_cases hb : (addrD O E.xs s s.pos c).1 = c.neg
    · rw [if_pos hb, if_pos hb] at k
      rw [if_pos hb]
      exact k
    · rw [if_neg hb, if_neg hb] at k
      rw [if_neg hb]
      exact k
end Go.Proofs.YtkgpnlldlekcbaaGreatDoor
namespace Go.Proofs.YtkgpnlldlekcbaaGreatDoor
open Go.RowKit Go.Lib Go.Maps
attribute [local go_sem] Oper.semAt_some

theorem RunM.inc {E : RC} {s : Sn} {n d : Nat} {w : World} (h : RunM E s n d w) (b : Bool) : RunM E { s with inc := b } n d w := ⟨h.low, h.row, h.on, h.onl, h.map, h.ps, h.hs, h.nm, h.ou, h.po, h.kb⟩
/-- What a run leaves. -/
def RunE (E : RC) (R : List ByteArray × Nat × Int) (e : Ending) (w' : World) : Prop := e = .returned (.int .i64 R.2.2) ∧ ∃ s, s.out = R.1 ∧ RunM E s R.2.1 0 w'
theorem runE_of {E : RC} {s : Sn} {n : Nat} {x : Int} {w : World} {R : List ByteArray × Nat × Int} (h : RunM E s n 0 w) (hr : some (s.out, n, x) = some R) : RunE E R (.returned (.int .i64 x)) w := by
  cases hr
  exact ⟨rfl, s, rfl, h⟩
/-- One step of the plain run that comes to an end. -/
theorem step_inv {O : Ora} {E : RC} {s : Sn} {n : Nat} {c : Cm} {R : List ByteArray × Nat × Int} (hC : s.out.length < O.C) (h : s.inc = true) (hc : E.cs[s.pos]? = some c) (hr : runD O E.cs E.xs E.q (n + 1) s = some R) :
    farD O E.xs c s = false ∧ (match flowD (comeD O E.cs E.xs E.q c s) with
      | .go s' => runD O E.cs E.xs E.q n s'
      | .stop s' e => some (s'.out, n, e)
      | .far => none) = some R := by
  rw [run_step O E.cs E.xs E.q n hC h hc] at hr
  cases hf : farD O E.xs c s with
  | true => rw [hf, if_pos rfl] at hr; cases hr
  | false => rw [hf, if_neg (by simp)] at hr; exact ⟨rfl, hr⟩
theorem end_inc (q : Bool) (s : Sn) : (endD q s).inc = s.inc := by unfold endD; split <;> rfl
theorem do_inc {O : Ora} {cs : List Cm} {xs : List ByteArray} {q : Bool} {c : Cm} {s : Sn} : (doD O cs xs q c s).2.inc = s.inc := by
  unfold doD
  by_cases h112 : c.op = 112
  · rw [if_pos h112]
    try rfl
  rw [if_neg h112]
  by_cases h100 : c.op = 100
  · rw [if_pos h100]
    try rfl
  rw [if_neg h100]
  by_cases h113 : c.op = 113
  · rw [if_pos h113]
    exact end_inc _ _
  rw [if_neg h113]
  by_cases h110 : c.op = 110
  · rw [if_pos h110]
    split <;> exact end_inc _ _
  rw [if_neg h110]
  by_cases h104 : c.op = 104
  · rw [if_pos h104]
    try rfl
  rw [if_neg h104]
  by_cases h72 : c.op = 72
  · rw [if_pos h72]
    split <;> rfl
  rw [if_neg h72]
  by_cases h103 : c.op = 103
  · rw [if_pos h103]
    try rfl
  rw [if_neg h103]
  by_cases h71 : c.op = 71
  · rw [if_pos h71]
    split <;> rfl
  rw [if_neg h71]
  by_cases h120 : c.op = 120
  · rw [if_pos h120]
    try rfl
  rw [if_neg h120]
  by_cases h115 : c.op = 115
  · rw [if_pos h115]
    split
    · rfl
    · split
      · rfl
      · dsimp only
        split <;> rfl
  rw [if_neg h115]
  by_cases h98 : c.op = 98
  · rw [if_pos h98]
    try rfl
  rw [if_neg h98]
  by_cases h116 : c.op = 116
  · rw [if_pos h116]
    dsimp only
    split <;> rfl
  rw [if_neg h116]
theorem come_inc {O : Ora} {cs : List Cm} {xs : List ByteArray} {q : Bool} {c : Cm} {s : Sn} : (comeD O cs xs q c s).2.inc = s.inc := by
  unfold comeD
  split
  · split
    · rfl
    · exact do_inc
  · rfl
set_option maxHeartbeats 8000000 in
set_option maxRecDepth 100000 in
theorem cycles9_any (O : Ora) (E : RC) (hE : E.Ok) (hO : OraI O E) (hS : OraS O E) (hN : OraN O E) (mc : Nat) (hko : KoOk E mc) (hCC : O.C = E.C) (R : List ByteArray × Nat × Int) (s0 : Sn) (n0 : Nat) (w : World)
    (kc : Calls Tryz.prog 39 #[.pointer (some ⟨E.p, 0, none⟩)] w fun e w' => e = .returned (.map (some mc)) ∧ RunM E s0 n0 0 w') (h0 : s0.inc = false) (hr : runD O E.cs E.xs E.q n0 s0 = some R) :
    Calls Tryz.prog 21 #[.pointer (some ⟨E.p, 0, none⟩)] w (RunE E R) := by
  obtain ⟨ax, cx, hvx, _, hxl, _⟩ := hE.str
  obtain ⟨Bs, hscr⟩ := hE.scr
  obtain ⟨al, cl, hvl⟩ := hscr.shape
  have HE := Lib.hid (And.intro hE (And.intro hvx (And.intro hvl (And.intro h0 hr))))
  have hcl := hE.csl
  have kStep := fun s n w h c hc hC hfar => step9_any O E hE hO hS hN mc hko s n w h c hc hC hfar
  have kPay := fun s n w h => pay_yes E hE s n w h
  have kTake := fun s n d w h hlt => take9_any E hE s n d w h hlt
  have kEnd := fun s n d w h hC => end9_any E hE s n d w h hC
  have room : ∀ s n, runD O E.cs E.xs E.q n s = some R → (normD E.cs E.q s).out.length < E.C := fun s n h => by rw [← hCC]; exact run_room O E.cs E.xs E.q n h
  have HR := Lib.hid (And.intro room hCC)
  have cls : ∀ s n d w, RunM E s n d w → w.cell? ⟨E.p, 2, none⟩ = some (.slice al E.cs.length cl) ∧ w.cell? ⟨E.p, 3, none⟩ = some (.slice ax E.xs.length cx) ∧ w.cell? ⟨E.p, 7, none⟩ = some (.int .i64 (s.num : Int)) ∧ w.cell? ⟨E.p, 8, none⟩ = some (.int .i64 (s.pos : Int)) ∧ w.cell? ⟨E.p, 9, none⟩ = some (.bool s.chg) := fun s n d w h => by
    obtain ⟨ao, cap, c0, c1, c2, c3, c4, c5, c6, c7, c8, c9, c10, c11⟩ := h.cells
    rw [hvl] at c2
    rw [hvx] at c3
    exact ⟨c2, c3, c7, c8, c9⟩
  have HC := Lib.hid cls
  clear hE hO hS hN hko hCC h0 hr hvx hvl hscr room cls
  go_enter Tryz.func21, Tryz.ntmps21
  go_wp2_with fail
  go_step3
  go_wp2_with (go_at_call 39; (with_reducible refine kc.mono ?_); rintro e w0 ⟨rfl, hm0⟩; have HM0 := Lib.hid hm0; clear hm0 kc)
  go_step3
  go_wp2_with fail
  go_loopg [2] (n0) (fun g v2 wr => ∃ (s : Sn) (n : Nat), v2 = .int .i64 0 ∧ Hid (g = n) ∧ Hid (s.inc = false) ∧ Hid (RunM E s n 0 wr) ∧ Hid (runD O E.cs E.xs E.q n s = some R))
  case atStart => exact ⟨s0, n0, rfl, rfl, HE.out.2.2.2.1, HM0, HE.out.2.2.2.2⟩
  case round =>
    obtain ⟨s, n, rfl, HG, HI, HM, HRun⟩ := hrel
    obtain ⟨c2, c3, c7, c8, c9⟩ := HC.out _ _ _ _ HM.out
    by_cases hlt : s.num < E.xs.length
    · have hltI : (s.num : Int) < (E.xs.length : Int) := by omega
      clear c2 c8 c9
      go_wp2_with fail
      go_quiet (fail)
      have h1 := HM.out.below HE.out.1 (below_draws (Below.refl _ _) nq)
      have H1 := Lib.hid h1
      clear h1 c3 c7
      cases n with
      | zero =>
        go_wp2_with (go_at_call 40; (with_reducible refine (pay_no E s 0 _ H1.out).mono ?_); rintro e w1 ⟨rfl, rfl⟩)
        try rw [Exit.noGoto_ret]
        refine bodyPost_ret (results_tmp rfl _ _ _) rfl (runE_of H1.out ?_)
        have hro := HR.out.1 _ _ HRun.out
        rw [norm_out _ _ HI.out, ← HR.out.2] at hro
        rw [← HRun.out, run_none O E.cs E.xs E.q hro HI.out hlt]
      | succ n =>
        go_wp2_with (first
          | (go_at_call 40; (with_reducible refine (kPay _ _ _ H1.out).mono ?_); rintro e w1 ⟨rfl, h2⟩; have H2 := Lib.hid h2; clear h2)
          | (go_at_call 41; (with_reducible refine (kTake _ _ _ _ H2.out hlt).mono ?_); rintro e w2 ⟨rfl, h3⟩; obtain ⟨_, _, _, d8, d9⟩ := HC.out _ _ _ _ h3; have g8 := h3.frozen 8; have g9 := h3.frozen 9; have H3 := Lib.hid h3; clear h3))
        have hcy : RunM E (cycD E.xs s) n 0 ((w2.setCell ⟨E.p, 8, none⟩ (.int .i64 0)).setCell ⟨E.p, 9, none⟩ (.bool false)) := by
          have h1 := H3.out.set HE.out.1 8 (.int .i64 0) { takeD E.xs s with pos := 0 } n 1 (fun vo => rfl) rfl rfl (Nat.le_refl _) H3.out.ps H3.out.hs H3.out.nm (Nat.zero_le _)
          have h2 := h1.set HE.out.1 9 (.bool false) { takeD E.xs s with pos := 0, chg := false } n 1 (fun vo => rfl) rfl rfl (Nat.le_refl _) H3.out.ps H3.out.hs H3.out.nm (Nat.zero_le _)
          exact (h2.fewer (Nat.zero_le 1)).inc true
        have hro := HR.out.1 _ _ HRun.out
        rw [norm_out _ _ HI.out, ← HR.out.2] at hro
        have hrun : runD O E.cs E.xs E.q n (cycD E.xs s) = some R := by rw [← HRun.out, run_cyc O E.cs E.xs E.q n hro HI.out hlt]
        have HCy := Lib.hid (And.intro hcy hrun)
        clear hcy hro hrun d8 d9 g8 g9
        go_loopg [2] (n) (fun g v2 WR2 => ∃ (s1 : Sn) (n1 : Nat), v2 = .int .i64 0 ∧ n1 ≤ n ∧ Hid (g = n1) ∧ Hid (s1.inc = true) ∧ Hid (RunM E s1 n1 0 WR2) ∧ Hid (runD O E.cs E.xs E.q n1 s1 = some R))
        case atStart => exact ⟨cycD E.xs s, n, rfl, Nat.le_refl _, rfl, rfl, HCy.out.1, HCy.out.2⟩
        case round =>
          obtain ⟨s1, n1, rfl, hn1, HG1, HI1, HM1, HRun1⟩ := hrel
          obtain ⟨c2, c3, c7, c8, c9⟩ := HC.out _ _ _ _ HM1.out
          by_cases hp : s1.pos < E.cs.length
          · obtain ⟨c, hc⟩ : ∃ c, E.cs[s1.pos]? = some c := ⟨E.cs[s1.pos]'hp, List.getElem?_eq_getElem hp⟩
            have hpI : (s1.pos : Int) < (E.cs.length : Int) := by omega
            clear c3 c7 c9
            go_wp2_with fail
            go_quiet (fail)
            have h1 := HM1.out.below HE.out.1 (below_draws (Below.refl _ _) nq)
            have H1 := Lib.hid h1
            have hro := HR.out.1 _ _ HRun1.out
            rw [norm_in _ _ HI1.out hp] at hro
            have hro2 : s1.out.length < O.C := by rw [HR.out.2]; exact hro
            have HRo := Lib.hid (And.intro hro hro2)
            have HCm := Lib.hid hc
            clear h1 c2 c8 hro hro2 hc
            cases n1 with
            | zero =>
              go_wp2_with (go_at_call 40; (with_reducible refine (pay_no E s1 0 _ H1.out).mono ?_); rintro e w1 ⟨rfl, rfl⟩)
              try rw [Exit.noGoto_ret]
              refine bodyPost_ret (results_tmp rfl _ _ _) rfl (runE_of H1.out ?_)
              rw [← HRun1.out, run_dry O E.cs E.xs E.q HRo.out.2 HI1.out hp]
            | succ n1 =>
              obtain ⟨hfar, hgo⟩ := step_inv HRo.out.2 HI1.out HCm.out HRun1.out
              have kS := fun w h => kStep s1 n1 w h c HCm.out HRo.out.1 hfar
              have hinc : (comeD O E.cs E.xs E.q c s1).2.inc = true := come_inc.trans HI1.out
              obtain ⟨f, s2, hfs⟩ : ∃ f s2, comeD O E.cs E.xs E.q c s1 = (f, s2) := ⟨_, _, rfl⟩
              rw [hfs] at kS hgo hinc
              dsimp only at hinc
              have HI2 := Lib.hid hinc
              clear hfar hfs hinc
              cases f with
              | further =>
                dsimp only [flowD, Fl.n] at kS hgo
                have HGo := Lib.hid hgo
                clear hgo
                go_wp2_with (first
                  | (go_at_call 40; (with_reducible refine (kPay _ _ _ H1.out).mono ?_); rintro e w1 ⟨rfl, h2⟩; have H2 := Lib.hid h2; clear h2)
                  | (go_at_call 42; (with_reducible refine (kS _ H2.out).mono ?_); rintro e w2 ⟨rfl, h3⟩; have H3 := Lib.hid h3; clear h3))
                go_roundg n1
                case rel => exact ⟨s2, n1, rfl, by omega, rfl, HI2.out, H3.out, HGo.out⟩
                case measure => have := HG1.out; omega
              | cut =>
                dsimp only [flowD, Fl.n] at kS hgo
                have HGo := Lib.hid hgo
                clear hgo
                go_wp2_with (first
                  | (go_at_call 40; (with_reducible refine (kPay _ _ _ H1.out).mono ?_); rintro e w1 ⟨rfl, h2⟩; have H2 := Lib.hid h2; clear h2)
                  | (go_at_call 42; (with_reducible refine (kS _ H2.out).mono ?_); rintro e w2 ⟨rfl, h3⟩; have H3 := Lib.hid h3; clear h3))
                go_roundg n1
                case rel => exact ⟨{ s2 with inc := false }, n1, rfl, rfl, rfl, H3.out.inc false, HGo.out⟩
                case measure => have := HG.out; omega
              | stop =>
                dsimp only [flowD, Fl.n] at kS hgo
                have HGo := Lib.hid hgo
                clear hgo
                go_wp2_with (first
                  | (go_at_call 40; (with_reducible refine (kPay _ _ _ H1.out).mono ?_); rintro e w1 ⟨rfl, h2⟩; have H2 := Lib.hid h2; clear h2)
                  | (go_at_call 42; (with_reducible refine (kS _ H2.out).mono ?_); rintro e w2 ⟨rfl, h3⟩; have H3 := Lib.hid h3; clear h3))
                try rw [Exit.noGoto_ret]
                refine bodyPost_ret (results_tmp rfl _ _ _) rfl ?_
                exact runE_of H3.out HGo.out
              | burst =>
                dsimp only [flowD, Fl.n] at kS hgo
                have HGo := Lib.hid hgo
                clear hgo
                go_wp2_with (first
                  | (go_at_call 40; (with_reducible refine (kPay _ _ _ H1.out).mono ?_); rintro e w1 ⟨rfl, h2⟩; have H2 := Lib.hid h2; clear h2)
                  | (go_at_call 42; (with_reducible refine (kS _ H2.out).mono ?_); rintro e w2 ⟨rfl, h3⟩; have H3 := Lib.hid h3; clear h3))
                try rw [Exit.noGoto_ret]
                refine bodyPost_ret (results_tmp rfl _ _ _) rfl ?_
                exact runE_of H3.out HGo.out
          · have hpI : decide ((s1.pos : Int) < (E.cs.length : Int)) = false := decide_eq_false (by omega)
            clear c3 c7 c9
            go_wp2_with fail
            go_quiet (fail)
            have h1 := HM1.out.below HE.out.1 (below_draws (Below.refl _ _) nq)
            have H1 := Lib.hid h1
            have hro := HR.out.1 _ _ HRun1.out
            have hro := Nat.lt_of_le_of_lt (norm_le E.cs E.q s1) hro
            have HRo := Lib.hid hro
            clear h1 c2 c8 hro
            go_wp2_with (go_at_call 43; (with_reducible refine (kEnd _ _ _ _ H1.out (fun _ => HRo.out)).mono ?_); rintro e w1 ⟨rfl, h2⟩; have H2 := Lib.hid h2; clear h2)
            go_roundg n1
            case rel => exact ⟨{ endD E.q s1 with inc := false }, n1, rfl, rfl, rfl, H2.out.inc false, by
              show runD _ _ _ _ _ _ = _
              rw [← run_end O E.cs E.xs E.q n1 HI1.out (by omega)]
              exact HRun1.out⟩
            case measure => have := HG.out; omega
    · have hltI : decide ((s.num : Int) < (E.xs.length : Int)) = false := decide_eq_false (by omega)
      clear c2 c8 c9
      go_wp2_with fail
      go_quiet (fail)
      have h1 := HM.out.below HE.out.1 (below_draws (Below.refl _ _) nq)
      have H1 := Lib.hid h1
      clear h1 c3 c7
      go_wp2_with fail
      try rw [Exit.noGoto_ret]
      refine bodyPost_ret (results_tmp rfl _ _ _) rfl (runE_of H1.out ?_)
      have hro := HR.out.1 _ _ HRun.out
      rw [norm_out _ _ HI.out, ← HR.out.2] at hro
      rw [← HRun.out, run_over O E.cs E.xs E.q n hro HI.out (by omega)]
end Go.Proofs.YtkgpnlldlekcbaaGreatDoor
