/- Packed texts: MaRepeat. What each of them proves stands above its theorems; the conditions stand in these. -/
import Derived.Deep.LoopGhost
import Derived.Laws.CopyOwn
import Derived.Test.YtkgpnlldlekcbaaShelf
import Derived.Test.YtkgpnlldlekcbaaM14
namespace Go.Proofs.Ytkgpnlldlekcbaa
open Go.RowKit Go.Lib

set_option maxHeartbeats 1000000 in
theorem bitsMul_any (x y : Nat) (hx : x < 18446744073709551616) (hy : y < 18446744073709551616) (w : World) :
    Calls Try.prog 109 #[.int .u64 x, .int .u64 y] w fun e w' => e = .returned (.tuple #[.int .u64 ((x * y / 18446744073709551616 : Nat) : Int), .int .u64 ((x * y % 18446744073709551616 : Nat) : Int)]) ∧ w' = w := by
  have k := fun w => Try.bits_Mul64 x y hx hy w
  obtain ⟨p, hp⟩ : ∃ p : Int, p = ((x * y / 18446744073709551616 : Nat) : Int) := ⟨_, rfl⟩
  obtain ⟨q, hq⟩ : ∃ q : Int, q = ((x * y % 18446744073709551616 : Nat) : Int) := ⟨_, rfl⟩
  rw [← hp, ← hq] at k ⊢
  clear hp hq hx hy
  go_enter Try.func109, Try.ntmps109
  go_wp2_with (first
    | (go_at_call 120; refine (k _).mono ?_; rintro e w1 ⟨rfl, rfl⟩)
    | fail)
  exact bodyPost_ret (results_tmp2 rfl _ _ _) rfl ⟨rfl, rfl⟩
theorem rep_get (N m : Nat) (x z : Value) (i : Nat) (h : i < m) : (List.replicate m x ++ List.replicate (N - m) z)[i]? = some x := by
  rw [List.getElem?_append_left (by simpa using h), List.getElem?_replicate, if_pos h]
theorem rep_splice (N m k : Nat) (x z : Value) (h : m + k ≤ N) : splice (List.replicate m x ++ List.replicate (N - m) z) m (List.replicate k x) = List.replicate (m + k) x ++ List.replicate (N - (m + k)) z := by
  unfold splice
  rw [List.take_append_of_le_length (by simp), List.take_of_length_le (by simp), List.drop_append, List.drop_of_length_le (by simp), List.nil_append, List.drop_replicate, List.length_replicate, List.length_replicate, ← List.append_assoc, List.replicate_append_replicate]
  congr 2
  omega
theorem wp_copy_spliceM {P : Program} {o : Oper} {a : Act} {w : World} {K : Act → World → Prop} {Q : Exit → Act → World → Prop} (hgd : o.guard = none) (d s : Operand) (dT sT : TypeId)
    (ho : o.op = .call { callee := .builtin .copy, args := #[d, s], argTypes := #[dT, sT] }) (elem : TypeId) (hu : P.underlying dT = some (.slice elem)) (hsz : (P.info? elem).map (·.size) = some 1)
    (dp sp : Option Addr) (dLen dCap sLen sCap : Nat) (hd : a.eval d = .slice dp dLen dCap) (hs : a.eval s = .slice sp sLen sCap)
    (g off : Nat) (cur : List Value) (t : TypeId) (hg : w.heap[g]? = some (.cells cur.toArray t (0, 0))) (cs : List Value) (hn : cs.length = Nat.min sLen dLen)
    (hpos : 0 < cs.length → dp = some ⟨g, off, none⟩ ∧ ∃ ad, sp = some ad ∧ ∀ j v, cs[j]? = some v → w.cell? (ad.add j) = some v)
    (hfit : off + cs.length ≤ cur.length) (h1 : ∀ v ∈ cs, v.oneCell' = true) (B : Nat) (w0 : World) (hb : RowKit.Below B w0 w) (hBg : B ≤ g)
    (h : ∀ w', RowKit.Hid (w'.heap[g]? = some (.cells (splice cur off cs).toArray t (0, 0))) → RowKit.Below B w0 w' → K (a.put o.dst (goInt cs.length)) w') : Oper.wp P o a w K Q := by
  have h := step_copy_splice (ops := #[]) (Q := Q) (E := False) hgd d s dT sT ho elem hu hsz dp sp dLen dCap sLen sCap hd hs g off cur t hg cs hn hpos hfit h1 B w0 hb hBg h
  rwa [if_pos (by simp [Region.wanted, hgd])] at h
set_option maxHeartbeats 8000000 in
set_option maxRecDepth 20000 in
theorem repeat_any (xb : Nat) (x : Int) (N : Nat) (w : World) (hN0 : 1 ≤ N) (hN : N ≤ 2000000) (hx : w.cell? ⟨xb, 0, none⟩ = some (.int .i64 x)) :
    Calls Try.prog 98 #[.slice (some ⟨xb, 0, none⟩) 1 1, .int .i64 (N : Int)] w fun e w' => e = .returned (.slice (some ⟨w.heap.size, 0, none⟩) N N) ∧ w'.heap[w.heap.size]? = some (.cells ⟨List.replicate N (Value.int .i64 x)⟩ 3 (0, 0)) ∧ Below w.heap.size w w' := by
  have km : ∀ w, Calls Try.prog 109 #[.int .u64 1, .int .u64 (N : Int)] w fun e w' => e = .returned (.tuple #[.int .u64 0, .int .u64 (N : Int)]) ∧ w' = w := fun w => by
    have h := bitsMul_any 1 N (by omega) (by omega) w
    rw [Nat.one_mul, Nat.div_eq_of_lt (by omega), Nat.mod_eq_of_lt (by omega)] at h
    exact h
  have hNI : ¬ (N : Int) < 0 := by omega
  have hN1 : decide ((9223372036854775807 : Int) < (N : Int)) = false := decide_eq_false (by omega)
  have hN2 : IntKind.u64.wrap (N : Int) = (N : Int) := IntWalk.u64_in _ (by omega)
  have hN3 : IntKind.i64.wrap (N : Int) = (N : Int) := IntWalk.i64_in _ (by omega)
  have kmk := fun (w : World) => run_make_row' (P := Try.prog) 41 3 (.int .i64 0) 8 Try.underlying41 Try.infoInt rfl .i64 .i64 N (by omega) (by omega) w
  obtain ⟨X0, hX0⟩ : ∃ X0, X0 = Obj.cells (madeCells #[.int .i64 0] N) 3 := ⟨_, rfl⟩
  rw [← hX0] at kmk
  have hx1 : X0 = .cells (List.replicate 0 (Value.int .i64 x) ++ List.replicate (N - 0) (Value.int .i64 0)).toArray 3 := by
    rw [hX0]
    have : madeCells #[Value.int .i64 0] N = (List.replicate 0 (Value.int .i64 x) ++ List.replicate (N - 0) (Value.int .i64 0)).toArray := by
      apply Array.ext'
      rw [toList_madeCells_one]
      simp
    rw [this]
  obtain ⟨g, hg⟩ : ∃ g, g = w.heap.size := ⟨_, rfl⟩
  have hgW : (w.alloc X0).heap[g]? = some (.cells (List.replicate 0 (Value.int .i64 x) ++ List.replicate (N - 0) (Value.int .i64 0)).toArray 3 (0, 0)) := by rw [hg, heap_alloc_new, hx1]
  have hxW : (w.alloc X0).cell? ⟨xb, 0, none⟩ = some (.int .i64 x) := cell_kept ((Below.refl _ w).alloc (Nat.le_refl _) _) hx
  have hbW : Below g w (w.alloc X0) := by rw [hg]; exact (Below.refl _ w).alloc (Nat.le_refl _) _
  have HW := Lib.hid (And.intro hgW (And.intro hxW hbW))
  have HG := Lib.hid hg
  rw [← hg]
  clear hX0 hx1 hgW hxW hbW hx hg
  have hpos0 : 0 < ([Value.int .i64 x] : List Value).length → (some ⟨w.heap.size, 0, none⟩ : Option Addr) = some ⟨g, 0, none⟩ ∧ ∃ ad : Addr, (some ⟨xb, 0, none⟩ : Option Addr) = some ad ∧ ∀ (j : Nat) (v : Value), ([Value.int .i64 x] : List Value)[j]? = some v → (w.alloc X0).cell? (ad.add j) = some v := fun _ => ⟨by rw [HG.out], ⟨xb, 0, none⟩, rfl, fun j v hj => by
    cases j with
    | zero => cases hj; exact HW.out.2.1
    | succ j => simp at hj⟩
  have HP0 := Lib.hid hpos0
  clear hpos0
  go_enter Try.func98, Try.ntmps98
  go_wp2_with (first
    | (go_at_call 109; refine (km _).mono ?_; rintro e w1 ⟨rfl, hw1⟩; replace hw1 := hw1.symm; subst hw1)
    | (refine wpList_copy_splice rfl (.tmp 31) (.tmp 32) 41 41 rfl 3 Try.underlying41 Try.sizeInt (some ⟨w.heap.size, 0, none⟩) (some ⟨xb, 0, none⟩) N N 1 1 rfl rfl g 0 (List.replicate 0 (Value.int .i64 x) ++ List.replicate (N - 0) (Value.int .i64 0)) 3 HW.out.1 [Value.int .i64 x] (Nat.min_eq_left hN0).symm HP0.out (by simp; omega) (by simp [Value.oneCell']) g w HW.out.2.2 (Nat.le_refl _) ?_; intro w2 hg2 hb2)
    | fail)
  have hg2' : w2.heap[g]? = some (.cells (List.replicate 1 (Value.int .i64 x) ++ List.replicate (N - 1) (Value.int .i64 0)).toArray 3 (0, 0)) := by
    have h := hg2.out
    have e := rep_splice N 0 1 (.int .i64 x) (.int .i64 0) (by omega)
    rw [Nat.zero_add] at e
    have e1 : [Value.int .i64 x] = List.replicate 1 (Value.int .i64 x) := rfl
    rw [e1, e] at h
    exact h
  have H2 := Lib.hid (And.intro hg2' hb2)
  clear hg2 hg2' hb2
  go_loopg [8] N (fun k v wr => ∃ m : Nat, v = .int .i64 m ∧ Hid (1 ≤ m ∧ m ≤ N) ∧ Hid (k = N + 1 - m) ∧ Hid (wr.heap[g]? = some (.cells (List.replicate m (Value.int .i64 x) ++ List.replicate (N - m) (Value.int .i64 0)).toArray 3 (0, 0)) ∧ Below g w wr))
  case atStart => exact ⟨1, rfl, ⟨Nat.le_refl _, hN0⟩, (by show N = N + 1 - 1; omega), H2.out⟩
  case round =>
    obtain ⟨m, rfl, HM, HK, HR⟩ := hrel
    have HG2 := HG.out
    by_cases hlt : m < N
    · have hltI : (m : Int) < (N : Int) := by omega
      have m0 : (0 : Int) ≤ (m : Int) := by omega
      have m1 : (m : Int) ≤ (N : Int) := by omega
      have m2 : ¬ N = m := by omega
      have m3 : m ≤ N := by omega
      obtain ⟨k, hk⟩ : ∃ k, k = Nat.min m (N - m) := ⟨_, rfl⟩
      have hk1 : m + k ≤ N := by rw [hk]; have : Nat.min m (N - m) ≤ N - m := Nat.min_le_right _ _; omega
      have hkm : k ≤ m := by rw [hk]; exact Nat.min_le_left _ _
      have hk0 : 1 ≤ k := by
        rw [hk]
        show 1 ≤ min m (N - m)
        have := HM.out
        omega
      have hI : IntKind.i64.wrap ((m : Int) + (k : Int)) = ((m + k : Nat) : Int) := by rw [IntWalk.i64_in _ (by omega)]; omega
      have HKK := Lib.hid hk
      clear hk HG2
      go_wp2_with fail
      refine wp_region_held_drew (S := fun _ => True) (by kernel_rfl) trivial (fun hHeld => ?_)
      refine wpAnyH_take (i := 0) (v := ?_) rfl (by kernel_rfl) (by kernel_rfl) (by kernel_rfl) (fun _ _ _ h => h) ?_ hHeld ?_; rotate_left; · (simp only [List.getElem_toArray, List.getElem_cons_zero]; refine Or.inl ⟨by rfl, ?_⟩; intro w hSw; go_simp; try with_reducible rfl)
      try simp only [List.getElem_toArray, List.getElem_cons_zero, Act.put, List.setIfInBounds_toArray, List.set_cons_zero, List.set_cons_succ]
      refine wpAnyH_take (i := 1) (v := ?_) rfl (by kernel_rfl) (by kernel_rfl) (by kernel_rfl) (fun _ _ _ h => h) ?_ hHeld ?_; rotate_left; · (simp only [List.getElem_toArray, List.getElem_cons_succ, List.getElem_cons_zero]; refine Or.inl ⟨by rfl, ?_⟩; intro w hSw; go_simp; try with_reducible rfl)
      try simp only [List.getElem_toArray, List.getElem_cons_succ, List.getElem_cons_zero, Act.put, List.setIfInBounds_toArray, List.set_cons_zero, List.set_cons_succ]
      refine wpAnyH_take (i := 2) (v := ?_) rfl (by kernel_rfl) (by kernel_rfl) (by kernel_rfl) (fun _ _ _ h => h) ?_ hHeld ?_; rotate_left; · (simp only [List.getElem_toArray, List.getElem_cons_succ, List.getElem_cons_zero]; refine Or.inl ⟨by rfl, ?_⟩; intro w hSw; go_simp; try with_reducible rfl)
      try simp only [List.getElem_toArray, List.getElem_cons_succ, List.getElem_cons_zero, Act.put, List.setIfInBounds_toArray, List.set_cons_zero, List.set_cons_succ]
      refine wpAnyH_take (i := 3) (v := ?_) rfl (by kernel_rfl) (by kernel_rfl) (by kernel_rfl) (fun _ _ _ h => h) ?_ hHeld ?_; rotate_left; · (simp only [List.getElem_toArray, List.getElem_cons_succ, List.getElem_cons_zero]; refine Or.inl ⟨by rfl, ?_⟩; intro w hSw; go_simp; try with_reducible rfl)
      try simp only [List.getElem_toArray, List.getElem_cons_succ, List.getElem_cons_zero, Act.put, List.setIfInBounds_toArray, List.set_cons_zero, List.set_cons_succ]
      refine wpAnyH_take (i := 4) (v := ?_) rfl (by kernel_rfl) (by kernel_rfl) (by kernel_rfl) (fun _ _ _ h => h) ?_ hHeld ?_; rotate_left; · (simp only [List.getElem_toArray, List.getElem_cons_succ, List.getElem_cons_zero]; refine Or.inl ⟨by rfl, ?_⟩; intro w hSw; go_simp; try with_reducible rfl)
      try simp only [List.getElem_toArray, List.getElem_cons_succ, List.getElem_cons_zero, Act.put, List.setIfInBounds_toArray, List.set_cons_zero, List.set_cons_succ]
      refine wpAnyH_take (i := 5) (v := ?_) rfl (by kernel_rfl) (by kernel_rfl) (by kernel_rfl) (fun _ _ _ h => h) ?_ hHeld ?_; rotate_left; · (simp only [List.getElem_toArray, List.getElem_cons_succ, List.getElem_cons_zero]; refine Or.inl ⟨by rfl, ?_⟩; intro w hSw; go_simp; try with_reducible rfl)
      try simp only [List.getElem_toArray, List.getElem_cons_succ, List.getElem_cons_zero, Act.put, List.setIfInBounds_toArray, List.set_cons_zero, List.set_cons_succ]
      refine wpAnyH_take (i := 6) (v := ?_) rfl (by kernel_rfl) (by kernel_rfl) (by kernel_rfl) (fun _ _ _ h => h) ?_ hHeld ?_; rotate_left; · (simp only [List.getElem_toArray, List.getElem_cons_succ, List.getElem_cons_zero]; refine Or.inl ⟨by rfl, ?_⟩; intro w hSw; go_simp; try with_reducible rfl)
      try simp only [List.getElem_toArray, List.getElem_cons_succ, List.getElem_cons_zero, Act.put, List.setIfInBounds_toArray, List.set_cons_zero, List.set_cons_succ]
      refine wpAnyH_ready (rs := [7]) (by kernel_rfl) (by simp) ?_
      refine AllReadyH.cons rfl (fun K' hK => ?_) AllReadyH.nil
      simp only [List.getElem_toArray, List.getElem_cons_succ, List.getElem_cons_zero]
      rw [if_pos (by rfl)]
      refine wp_copy_spliceM (w := wr.drew) rfl (.tmp 41) (.tmp 44) 41 41 rfl 3 Try.underlying41 Try.sizeInt (some ⟨w.heap.size, m, none⟩) _ (N - m) (N - m) m _ rfl rfl g m _ 3 HR.out.1 (List.replicate k (Value.int .i64 x)) (by rw [List.length_replicate]; exact HKK.out)
        (fun _ => ⟨by rw [HG.out], ⟨w.heap.size, 0, none⟩, rfl, fun j v hj => by
          have hjk : j < k := by
            by_cases h : j < k
            · exact h
            · rw [List.getElem?_eq_none (by simpa using h)] at hj; cases hj
          rw [List.getElem?_replicate, if_pos hjk] at hj
          cases hj
          have e : (⟨w.heap.size, 0, none⟩ : Addr).add j = ⟨w.heap.size, j, none⟩ := by simp [Addr.add]; intro h; exact h.symm
          have hw : wr.drew.heap[w.heap.size]? = some (.cells (List.replicate m (Value.int .i64 x) ++ List.replicate (N - m) (Value.int .i64 0)).toArray 3 (0, 0)) := by rw [← HG.out]; exact HR.out.1
          rw [e, cell_of_heap hw]
          simpa using rep_get N m _ _ j (by omega)⟩) (by simp; omega) (by intro v hv; have := (List.mem_replicate.1 hv).2; subst this; rfl) g w HR.out.2.drew (Nat.le_refl _) ?_
      intro w4 hg4 hb4
      refine hK.out _ _ trivial (fun _ => ?_)
      clear hK K'
      have hg4' : w4.heap[g]? = some (.cells (List.replicate (m + k) (Value.int .i64 x) ++ List.replicate (N - (m + k)) (Value.int .i64 0)).toArray 3 (0, 0)) := by
        have h := hg4.out
        rw [rep_splice N m k _ _ hk1] at h
        exact h
      have H4 := Lib.hid (And.intro hg4' hb4)
      clear hg4 hg4' hb4
      rw [List.length_replicate]
      unfold goInt
      try simp only [Act.put, List.setIfInBounds_toArray, List.set_cons_zero, List.set_cons_succ]
      refine wpAnyH_take (i := 8) (v := ?_) rfl (by kernel_rfl) (by kernel_rfl) (by kernel_rfl) (fun _ _ _ h => h) ?_ hHeld ?_; rotate_left; · (simp only [List.getElem_toArray, List.getElem_cons_succ, List.getElem_cons_zero]; refine Or.inl ⟨by rfl, ?_⟩; intro w hSw; go_simp; try with_reducible rfl)
      try simp only [List.getElem_toArray, List.getElem_cons_succ, List.getElem_cons_zero, Act.put, List.setIfInBounds_toArray, List.set_cons_zero, List.set_cons_succ]
      refine wpAnyH_take (i := 9) (v := ?_) rfl (by kernel_rfl) (by kernel_rfl) (by kernel_rfl) (fun _ _ _ h => h) ?_ hHeld ?_; rotate_left; · (simp only [List.getElem_toArray, List.getElem_cons_succ, List.getElem_cons_zero]; refine Or.inl ⟨by rfl, ?_⟩; intro w hSw; go_simp; try with_reducible rfl)
      try simp only [List.getElem_toArray, List.getElem_cons_succ, List.getElem_cons_zero, Act.put, List.setIfInBounds_toArray, List.set_cons_zero, List.set_cons_succ]
      refine wpAnyH_done (by kernel_rfl) ?_ _
      go_wp2
      go_roundg (N + 1 - (m + k))
      case rel => exact ⟨m + k, rfl, ⟨by omega, by omega⟩, rfl, H4.out⟩
      case measure => have := HK.out; omega
    · have hm : m = N := by have := HM.out.2; omega
      subst hm
      go_wp2
      refine bodyPost_ret (results_tmp rfl _ _ _) rfl ⟨by rw [HG.out]; rfl, ?_, HR.out.2⟩
      have h := HR.out.1
      simpa using h
end Go.Proofs.Ytkgpnlldlekcbaa
