/- Packed texts: MaRepeat, MaFar, MaFar2, MaRange, MaSpans. What each of them proves stands above its theorems; the conditions stand in these. -/
import Derived.Deep.LoopGhost
import Derived.Laws.CopyOwn
import Derived.Test.YtgffmbdbjbhocaaShelf
import Derived.Test.YtgffmbdbjbhocaaS0
import Derived.Test.YtgffmbdbjbhocaaS3
import Derived.Test.YtgffmbdbjbhocaaS5
namespace Go.Proofs.Ytgffmbdbjbhocaa
open Go.RowKit Go.Lib

set_option maxHeartbeats 1000000 in
theorem bitsMul_any (x y : Nat) (hx : x < 18446744073709551616) (hy : y < 18446744073709551616) (w : World) :
    Calls Try.prog 148 #[.int .u64 x, .int .u64 y] w fun e w' => e = .returned (.tuple #[.int .u64 ((x * y / 18446744073709551616 : Nat) : Int), .int .u64 ((x * y % 18446744073709551616 : Nat) : Int)]) ∧ w' = w := by
  have k := fun w => Try.bits_Mul64 x y hx hy w
  obtain ⟨p, hp⟩ : ∃ p : Int, p = ((x * y / 18446744073709551616 : Nat) : Int) := ⟨_, rfl⟩
  obtain ⟨q, hq⟩ : ∃ q : Int, q = ((x * y % 18446744073709551616 : Nat) : Int) := ⟨_, rfl⟩
  rw [← hp, ← hq] at k ⊢
  clear hp hq hx hy
  go_enter Try.func148, Try.ntmps148
  go_wp2_with (first
    | (go_at_call 164; refine (k _).mono ?_; rintro e w1 ⟨rfl, rfl⟩)
    | fail)
  exact bodyPost_ret (results_tmp2 rfl _ _ _) rfl ⟨rfl, rfl⟩
theorem rep_get (N m : Nat) (x z : Value) (i : Nat) (h : i < m) : (List.replicate m x ++ List.replicate (N - m) z)[i]? = some x := by
  rw [List.getElem?_append_left (by simpa using h), List.getElem?_replicate, if_pos h]
theorem rep_splice (N m k : Nat) (x z : Value) (h : m + k ≤ N) : splice (List.replicate m x ++ List.replicate (N - m) z) m (List.replicate k x) = List.replicate (m + k) x ++ List.replicate (N - (m + k)) z := by
  unfold splice
  rw [List.take_append_of_le_length (by simp), List.take_of_length_le (by simp), List.drop_append, List.drop_of_length_le (by simp), List.nil_append, List.drop_replicate, List.length_replicate, List.length_replicate, ← List.append_assoc, List.replicate_append_replicate]
  congr 2
  omega
theorem wp_copy_spliceM {P : Program} {o : Oper} {a : Act} {w : World} {K : Act → World → Prop} {Q : Exit → Act → World → Prop} (hgd : o.guard = none) (d s : Operand) (dT sT : TypeId)
    (ho : o.op = .call { callee := .builtin .copy, args := #[d, s], argTypes := #[dT, sT] }) (elem : TypeId) (hu : P.underlying dT = some (.slice elem)) (hsz : (P.info? elem).map (·.size) = some 1)
    (dp sp : Option Addr) (dLen dCap sLen sCap : Nat) (hd : a.eval d = .slice dp dLen dCap) (hs : a.eval s = .slice sp sLen sCap)
    (g off : Nat) (cur : List Value) (t : TypeId) (hg : w.heap[g]? = some (.cells cur.toArray t (0, 0))) (cs : List Value) (hn : cs.length = Nat.min sLen dLen)
    (hpos : 0 < cs.length → dp = some ⟨g, off, none⟩ ∧ ∃ ad, sp = some ad ∧ ∀ j v, cs[j]? = some v → w.cell? (ad.add j) = some v)
    (hfit : off + cs.length ≤ cur.length) (h1 : ∀ v ∈ cs, v.oneCell' = true) (B : Nat) (w0 : World) (hb : RowKit.Below B w0 w) (hBg : B ≤ g)
    (h : ∀ w', RowKit.Hid (w'.heap[g]? = some (.cells (splice cur off cs).toArray t (0, 0))) → RowKit.Below B w0 w' → K (a.put o.dst (goInt cs.length)) w') : Oper.wp P o a w K Q := by
  have h := step_copy_splice (ops := #[]) (Q := Q) (E := False) hgd d s dT sT ho elem hu hsz dp sp dLen dCap sLen sCap hd hs g off cur t hg cs hn hpos hfit h1 B w0 hb hBg h
  rwa [if_pos (by simp [Region.wanted, hgd])] at h
set_option maxHeartbeats 8000000 in
set_option maxRecDepth 20000 in
theorem repeat_any (xb : Nat) (x : Int) (N : Nat) (w : World) (hN0 : 1 ≤ N) (hN : N ≤ 2000000) (hx : w.cell? ⟨xb, 0, none⟩ = some (.int .i64 x)) :
    Calls Try.prog 126 #[.slice (some ⟨xb, 0, none⟩) 1 1, .int .i64 (N : Int)] w fun e w' => e = .returned (.slice (some ⟨w.heap.size, 0, none⟩) N N) ∧ w'.heap[w.heap.size]? = some (.cells ⟨List.replicate N (Value.int .i64 x)⟩ 3 (0, 0)) ∧ Below w.heap.size w w' := by
  have km : ∀ w, Calls Try.prog 148 #[.int .u64 1, .int .u64 (N : Int)] w fun e w' => e = .returned (.tuple #[.int .u64 0, .int .u64 (N : Int)]) ∧ w' = w := fun w => by
    have h := bitsMul_any 1 N (by omega) (by omega) w
    rw [Nat.one_mul, Nat.div_eq_of_lt (by omega), Nat.mod_eq_of_lt (by omega)] at h
    exact h
  have hNI : ¬ (N : Int) < 0 := by omega
  have hN1 : decide ((9223372036854775807 : Int) < (N : Int)) = false := decide_eq_false (by omega)
  have hN2 : IntKind.u64.wrap (N : Int) = (N : Int) := IntWalk.u64_in _ (by omega)
  have hN3 : IntKind.i64.wrap (N : Int) = (N : Int) := IntWalk.i64_in _ (by omega)
  have kmk := fun (w : World) => run_make_row' (P := Try.prog) 42 3 (.int .i64 0) 8 Try.underlying42 Try.infoInt rfl .i64 .i64 N (by omega) (by omega) w
  obtain ⟨X0, hX0⟩ : ∃ X0, X0 = Obj.cells (madeCells #[.int .i64 0] N) 3 := ⟨_, rfl⟩
  rw [← hX0] at kmk
  have hx1 : X0 = .cells (List.replicate 0 (Value.int .i64 x) ++ List.replicate (N - 0) (Value.int .i64 0)).toArray 3 := by
    rw [hX0]
    have : madeCells #[Value.int .i64 0] N = (List.replicate 0 (Value.int .i64 x) ++ List.replicate (N - 0) (Value.int .i64 0)).toArray := by
      apply Array.ext'
      rw [toList_madeCells_one]
      simp
    rw [this]
  obtain ⟨g, hg⟩ : ∃ g, g = w.heap.size := ⟨_, rfl⟩
  have hgW : (w.alloc X0).heap[g]? = some (.cells (List.replicate 0 (Value.int .i64 x) ++ List.replicate (N - 0) (Value.int .i64 0)).toArray 3 (0, 0)) := by rw [hg, heap_alloc_new, hx1]
  have hxW : (w.alloc X0).cell? ⟨xb, 0, none⟩ = some (.int .i64 x) := cell_kept ((Below.refl _ w).alloc (Nat.le_refl _) _) hx
  have hbW : Below g w (w.alloc X0) := by rw [hg]; exact (Below.refl _ w).alloc (Nat.le_refl _) _
  have HW := Lib.hid (And.intro hgW (And.intro hxW hbW))
  have HG := Lib.hid hg
  rw [← hg]
  clear hX0 hx1 hgW hxW hbW hx hg
  have hpos0 : 0 < ([Value.int .i64 x] : List Value).length → (some ⟨w.heap.size, 0, none⟩ : Option Addr) = some ⟨g, 0, none⟩ ∧ ∃ ad : Addr, (some ⟨xb, 0, none⟩ : Option Addr) = some ad ∧ ∀ (j : Nat) (v : Value), ([Value.int .i64 x] : List Value)[j]? = some v → (w.alloc X0).cell? (ad.add j) = some v := fun _ => ⟨by rw [HG.out], ⟨xb, 0, none⟩, rfl, fun j v hj => by
    cases j with
    | zero => cases hj; exact HW.out.2.1
    | succ j => simp at hj⟩
  have HP0 := Lib.hid hpos0
  clear hpos0
  go_enter Try.func126, Try.ntmps126
  go_wp2_with (first
    | (go_at_call 148; refine (km _).mono ?_; rintro e w1 ⟨rfl, hw1⟩; replace hw1 := hw1.symm; subst hw1)
    | (refine wpList_copy_splice rfl (.tmp 31) (.tmp 32) 42 42 rfl 3 Try.underlying42 Try.sizeInt (some ⟨w.heap.size, 0, none⟩) (some ⟨xb, 0, none⟩) N N 1 1 rfl rfl g 0 (List.replicate 0 (Value.int .i64 x) ++ List.replicate (N - 0) (Value.int .i64 0)) 3 HW.out.1 [Value.int .i64 x] (Nat.min_eq_left hN0).symm HP0.out (by simp; omega) (by simp [Value.oneCell']) g w HW.out.2.2 (Nat.le_refl _) ?_; intro w2 hg2 hb2)
    | fail)
  have hg2' : w2.heap[g]? = some (.cells (List.replicate 1 (Value.int .i64 x) ++ List.replicate (N - 1) (Value.int .i64 0)).toArray 3 (0, 0)) := by
    have h := hg2.out
    have e := rep_splice N 0 1 (.int .i64 x) (.int .i64 0) (by omega)
    rw [Nat.zero_add] at e
    have e1 : [Value.int .i64 x] = List.replicate 1 (Value.int .i64 x) := rfl
    rw [e1, e] at h
    exact h
  have H2 := Lib.hid (And.intro hg2' hb2)
  clear hg2 hg2' hb2
  go_loopg [8] N (fun k v wr => ∃ m : Nat, v = .int .i64 m ∧ Hid (1 ≤ m ∧ m ≤ N) ∧ Hid (k = N + 1 - m) ∧ Hid (wr.heap[g]? = some (.cells (List.replicate m (Value.int .i64 x) ++ List.replicate (N - m) (Value.int .i64 0)).toArray 3 (0, 0)) ∧ Below g w wr))
  case atStart => exact ⟨1, rfl, ⟨Nat.le_refl _, hN0⟩, (by show N = N + 1 - 1; omega), H2.out⟩
  case round =>
    obtain ⟨m, rfl, HM, HK, HR⟩ := hrel
    have HG2 := HG.out
    by_cases hlt : m < N
    · have hltI : (m : Int) < (N : Int) := by omega
      have m0 : (0 : Int) ≤ (m : Int) := by omega
      have m1 : (m : Int) ≤ (N : Int) := by omega
      have m2 : ¬ N = m := by omega
      have m3 : m ≤ N := by omega
      obtain ⟨k, hk⟩ : ∃ k, k = Nat.min m (N - m) := ⟨_, rfl⟩
      have hk1 : m + k ≤ N := by rw [hk]; have : Nat.min m (N - m) ≤ N - m := Nat.min_le_right _ _; omega
      have hkm : k ≤ m := by rw [hk]; exact Nat.min_le_left _ _
      have hk0 : 1 ≤ k := by
        rw [hk]
        show 1 ≤ min m (N - m)
        have := HM.out
        omega
      have hI : IntKind.i64.wrap ((m : Int) + (k : Int)) = ((m + k : Nat) : Int) := by rw [IntWalk.i64_in _ (by omega)]; omega
      have HKK := Lib.hid hk
      clear hk HG2
      go_wp2_with fail
      refine wp_region_held_drew (S := fun _ => True) (by kernel_rfl) trivial (fun hHeld => ?_)
      refine wpAnyH_take (i := 0) (v := ?_) rfl (by kernel_rfl) (by kernel_rfl) (by kernel_rfl) (fun _ _ _ h => h) ?_ hHeld ?_; rotate_left; · (simp only [List.getElem_toArray, List.getElem_cons_zero]; refine Or.inl ⟨by rfl, ?_⟩; intro w hSw; go_simp; try with_reducible rfl)
      try simp only [List.getElem_toArray, List.getElem_cons_zero, Act.put, List.setIfInBounds_toArray, List.set_cons_zero, List.set_cons_succ]
      refine wpAnyH_take (i := 1) (v := ?_) rfl (by kernel_rfl) (by kernel_rfl) (by kernel_rfl) (fun _ _ _ h => h) ?_ hHeld ?_; rotate_left; · (simp only [List.getElem_toArray, List.getElem_cons_succ, List.getElem_cons_zero]; refine Or.inl ⟨by rfl, ?_⟩; intro w hSw; go_simp; try with_reducible rfl)
      try simp only [List.getElem_toArray, List.getElem_cons_succ, List.getElem_cons_zero, Act.put, List.setIfInBounds_toArray, List.set_cons_zero, List.set_cons_succ]
      refine wpAnyH_take (i := 2) (v := ?_) rfl (by kernel_rfl) (by kernel_rfl) (by kernel_rfl) (fun _ _ _ h => h) ?_ hHeld ?_; rotate_left; · (simp only [List.getElem_toArray, List.getElem_cons_succ, List.getElem_cons_zero]; refine Or.inl ⟨by rfl, ?_⟩; intro w hSw; go_simp; try with_reducible rfl)
      try simp only [List.getElem_toArray, List.getElem_cons_succ, List.getElem_cons_zero, Act.put, List.setIfInBounds_toArray, List.set_cons_zero, List.set_cons_succ]
      refine wpAnyH_take (i := 3) (v := ?_) rfl (by kernel_rfl) (by kernel_rfl) (by kernel_rfl) (fun _ _ _ h => h) ?_ hHeld ?_; rotate_left; · (simp only [List.getElem_toArray, List.getElem_cons_succ, List.getElem_cons_zero]; refine Or.inl ⟨by rfl, ?_⟩; intro w hSw; go_simp; try with_reducible rfl)
      try simp only [List.getElem_toArray, List.getElem_cons_succ, List.getElem_cons_zero, Act.put, List.setIfInBounds_toArray, List.set_cons_zero, List.set_cons_succ]
      refine wpAnyH_take (i := 4) (v := ?_) rfl (by kernel_rfl) (by kernel_rfl) (by kernel_rfl) (fun _ _ _ h => h) ?_ hHeld ?_; rotate_left; · (simp only [List.getElem_toArray, List.getElem_cons_succ, List.getElem_cons_zero]; refine Or.inl ⟨by rfl, ?_⟩; intro w hSw; go_simp; try with_reducible rfl)
      try simp only [List.getElem_toArray, List.getElem_cons_succ, List.getElem_cons_zero, Act.put, List.setIfInBounds_toArray, List.set_cons_zero, List.set_cons_succ]
      refine wpAnyH_take (i := 5) (v := ?_) rfl (by kernel_rfl) (by kernel_rfl) (by kernel_rfl) (fun _ _ _ h => h) ?_ hHeld ?_; rotate_left; · (simp only [List.getElem_toArray, List.getElem_cons_succ, List.getElem_cons_zero]; refine Or.inl ⟨by rfl, ?_⟩; intro w hSw; go_simp; try with_reducible rfl)
      try simp only [List.getElem_toArray, List.getElem_cons_succ, List.getElem_cons_zero, Act.put, List.setIfInBounds_toArray, List.set_cons_zero, List.set_cons_succ]
      refine wpAnyH_take (i := 6) (v := ?_) rfl (by kernel_rfl) (by kernel_rfl) (by kernel_rfl) (fun _ _ _ h => h) ?_ hHeld ?_; rotate_left; · (simp only [List.getElem_toArray, List.getElem_cons_succ, List.getElem_cons_zero]; refine Or.inl ⟨by rfl, ?_⟩; intro w hSw; go_simp; try with_reducible rfl)
      try simp only [List.getElem_toArray, List.getElem_cons_succ, List.getElem_cons_zero, Act.put, List.setIfInBounds_toArray, List.set_cons_zero, List.set_cons_succ]
      refine wpAnyH_ready (rs := [7]) (by kernel_rfl) (by simp) ?_
      refine AllReadyH.cons rfl (fun K' hK => ?_) AllReadyH.nil
      simp only [List.getElem_toArray, List.getElem_cons_succ, List.getElem_cons_zero]
      rw [if_pos (by rfl)]
      refine wp_copy_spliceM (w := wr.drew) rfl (.tmp 41) (.tmp 44) 42 42 rfl 3 Try.underlying42 Try.sizeInt (some ⟨w.heap.size, m, none⟩) _ (N - m) (N - m) m _ rfl rfl g m _ 3 HR.out.1 (List.replicate k (Value.int .i64 x)) (by rw [List.length_replicate]; exact HKK.out)
        (fun _ => ⟨by rw [HG.out], ⟨w.heap.size, 0, none⟩, rfl, fun j v hj => by
          have hjk : j < k := by
            by_cases h : j < k
            · exact h
            · rw [List.getElem?_eq_none (by simpa using h)] at hj; cases hj
          rw [List.getElem?_replicate, if_pos hjk] at hj
          cases hj
          have e : (⟨w.heap.size, 0, none⟩ : Addr).add j = ⟨w.heap.size, j, none⟩ := by simp [Addr.add]; intro h; exact h.symm
          have hw : wr.drew.heap[w.heap.size]? = some (.cells (List.replicate m (Value.int .i64 x) ++ List.replicate (N - m) (Value.int .i64 0)).toArray 3 (0, 0)) := by rw [← HG.out]; exact HR.out.1
          rw [e, cell_of_heap hw]
          simpa using rep_get N m _ _ j (by omega)⟩) (by simp; omega) (by intro v hv; have := (List.mem_replicate.1 hv).2; subst this; rfl) g w HR.out.2.drew (Nat.le_refl _) ?_
      intro w4 hg4 hb4
      refine hK.out _ _ trivial (fun _ => ?_)
      clear hK K'
      have hg4' : w4.heap[g]? = some (.cells (List.replicate (m + k) (Value.int .i64 x) ++ List.replicate (N - (m + k)) (Value.int .i64 0)).toArray 3 (0, 0)) := by
        have h := hg4.out
        rw [rep_splice N m k _ _ hk1] at h
        exact h
      have H4 := Lib.hid (And.intro hg4' hb4)
      clear hg4 hg4' hb4
      rw [List.length_replicate]
      unfold goInt
      try simp only [Act.put, List.setIfInBounds_toArray, List.set_cons_zero, List.set_cons_succ]
      refine wpAnyH_take (i := 8) (v := ?_) rfl (by kernel_rfl) (by kernel_rfl) (by kernel_rfl) (fun _ _ _ h => h) ?_ hHeld ?_; rotate_left; · (simp only [List.getElem_toArray, List.getElem_cons_succ, List.getElem_cons_zero]; refine Or.inl ⟨by rfl, ?_⟩; intro w hSw; go_simp; try with_reducible rfl)
      try simp only [List.getElem_toArray, List.getElem_cons_succ, List.getElem_cons_zero, Act.put, List.setIfInBounds_toArray, List.set_cons_zero, List.set_cons_succ]
      refine wpAnyH_take (i := 9) (v := ?_) rfl (by kernel_rfl) (by kernel_rfl) (by kernel_rfl) (fun _ _ _ h => h) ?_ hHeld ?_; rotate_left; · (simp only [List.getElem_toArray, List.getElem_cons_succ, List.getElem_cons_zero]; refine Or.inl ⟨by rfl, ?_⟩; intro w hSw; go_simp; try with_reducible rfl)
      try simp only [List.getElem_toArray, List.getElem_cons_succ, List.getElem_cons_zero, Act.put, List.setIfInBounds_toArray, List.set_cons_zero, List.set_cons_succ]
      refine wpAnyH_done (by kernel_rfl) ?_ _
      go_wp2
      go_roundg (N + 1 - (m + k))
      case rel => exact ⟨m + k, rfl, ⟨by omega, by omega⟩, rfl, H4.out⟩
      case measure => have := HK.out; omega
    · have hm : m = N := by have := HM.out.2; omega
      subst hm
      go_wp2
      refine bodyPost_ret (results_tmp rfl _ _ _) rfl ⟨by rw [HG.out]; rfl, ?_, HR.out.2⟩
      have h := HR.out.1
      simpa using h
end Go.Proofs.Ytgffmbdbjbhocaa
namespace Go.Proofs.Ytgffmbdbjbhocaa
open Go.RowKit Go.Lib

def intC (n : Nat) (G : Nat → Int) : List Value := (List.range (n + 1)).map fun q => .int .i64 (G q)
theorem intC_get (n : Nat) (G : Nat → Int) (q : Nat) (h : q ≤ n) : (intC n G)[q]? = some (.int .i64 (G q)) := by
  unfold intC
  rw [List.getElem?_map, List.getElem?_range (by omega)]
  rfl
theorem intC_set (n : Nat) (G : Nat → Int) (p : Nat) (e : Int) : (intC n G).set p (.int .i64 e) = intC n (fun q => if q = p then e else G q) := by
  have hl : ∀ G, (intC n G).length = n + 1 := fun G => by unfold intC; simp
  apply List.ext_getElem?
  intro j
  rw [List.getElem?_set]
  by_cases hj : j ≤ n
  · rw [intC_get _ _ _ hj, intC_get _ _ _ hj, hl]
    by_cases h : p = j
    · subst h; simp [show p < n + 1 by omega]
    · rw [if_neg h, if_neg (fun e => h e.symm)]
  · rw [List.getElem?_eq_none (by rw [hl]; omega), List.getElem?_eq_none (by rw [hl]; omega), hl]
    by_cases h : p = j
    · subst h; simp [show ¬ p < n + 1 by omega]
    · rw [if_neg h]
theorem intC_rep (n : Nat) (x : Int) : List.replicate (n + 1) (Value.int .i64 x) = intC n (fun _ => x) := by
  unfold intC
  apply List.ext_getElem?
  intro j
  by_cases h : j < n + 1
  · rw [List.getElem?_replicate, if_pos h, List.getElem?_map, List.getElem?_range h]; rfl
  · rw [List.getElem?_eq_none (by simpa using h), List.getElem?_eq_none (by simpa using h)]
/-- The row of the greatest ends, and what is told of at the time. -/
structure FarAt (B he hb hr n : Nat) (w0 : World) (e : Int) (G : Nat → Int) (w : World) : Prop where
  ebox : w.heap[he]? = some (.cells #[.int .i64 e] 3 (0, 0))
  fbox : w.heap[hb]? = some (.cells #[.slice (some ⟨hr, 0, none⟩) (n + 1) (n + 1)] 42 (0, 0))
  row : w.heap[hr]? = some (.cells ⟨intC n G⟩ 3 (0, 0))
  low : Below B w0 w
theorem FarAt.kept {B he hb hr n C : Nat} {w0 w w' : World} {e : Int} {G : Nat → Int} (h : FarAt B he hb hr n w0 e G w) (hB : B ≤ C) (k : Kept C w w') : FarAt B he hb hr n w0 e G w' :=
  ⟨k.other _ _ _ _ h.ebox (by decide) (by decide) (by decide) (by decide), k.other _ _ _ _ h.fbox (by decide) (by decide) (by decide) (by decide), k.other _ _ _ _ h.row (by decide) (by decide) (by decide) (by decide), h.low.trans (k.low.mono hB)⟩
set_option maxHeartbeats 1000000 in
theorem tell_far (B he hb hr n p : Nat) (w0 : World) (e : Int) (G : Nat → Int) (w : World) (h : FarAt B he hb hr n w0 e G w) (hp : p ≤ n) (hBr : B ≤ hr) (hne : he ≠ hr) (hnb : hb ≠ hr) :
    Calls Try.prog 127 #[.int .i64 (p : Int), .pointer (some ⟨he, 0, none⟩), .pointer (some ⟨hb, 0, none⟩)] w fun en w' => en = .returned (.tuple #[]) ∧ FarAt B he hb hr n w0 e (fun q => if q = p then e else G q) w' ∧ ∀ j, j ≠ hr → w'.heap[j]? = w.heap[j]? := by
  have c0 : w.cell? ⟨hb, 0, none⟩ = some (.slice (some ⟨hr, 0, none⟩) (n + 1) (n + 1)) := by rw [cell_of_heap h.fbox]; rfl
  have ce : w.cell? ⟨he, 0, none⟩ = some (.int .i64 e) := by rw [cell_of_heap h.ebox]; rfl
  have c1 : w.cell? ⟨hr, p, none⟩ = some (.int .i64 (G p)) := by rw [cell_of_heap h.row]; simpa using intC_get n G p hp
  have f1 : w.frozen? ⟨hr, p, none⟩ = false := frozen_of_heap h.row p
  have p0 : (0 : Int) ≤ (p : Int) := by omega
  obtain ⟨N, hN⟩ : ∃ N, N = n + 1 := ⟨_, rfl⟩
  rw [← hN] at c0
  have p1 : (p : Int) < (N : Int) := by omega
  have H := Lib.hid h
  clear h hN hp
  go_enter Try.func127, Try.ntmps127
  go_wp2
  go_end0
  have hrow : (w.setCell ⟨hr, p, none⟩ (.int .i64 e)).heap[hr]? = some (.cells ⟨intC n (fun q => if q = p then e else G q)⟩ 3 (0, 0)) := by
    rw [heap_setCell_same w hr p _ _ (.int .i64 e) H.out.row]
    have e := intC_set n G p e
    simp [e]
  exact ⟨rfl, ⟨(Below.heap_setCell _ _ _ _ hne).trans H.out.ebox, (Below.heap_setCell _ _ _ _ hnb).trans H.out.fbox, hrow, H.out.low.setCell (p := ⟨hr, p, none⟩) hBr _⟩, fun j hj => Below.heap_setCell _ _ _ _ hj⟩
/-- The greatest ends above a bound. -/
def FarOk (s : List UInt8) (T : Tr) (e : Int) (G : Nat → Int) : Prop :=
  ∀ b, (G b = -1 ∧ ∀ a : Nat, e < a → a ≤ s.length → ¬ St s T b a) ∨ ∃ a : Nat, e < a ∧ a ≤ s.length ∧ G b = a ∧ St s T b a ∧ ∀ a' : Nat, a < a' → a' ≤ s.length → ¬ St s T b a'
/-- The marks, when all from a bound on have been gone back from. -/
structure MInv (s : List UInt8) (ts : List Nd) (up : Nat → Nat) (last : Nat) (e : Int) (M : Nat → Nat → Bool) : Prop where
  closed : ∀ g p, M g p = true → ∀ q ∈ nextD true s ts up g p, M q.1 q.2 = true
  src : ∀ a : Nat, e < a → a ≤ s.length → M (2 * last) a = true
  least : ∀ X : Nat → Nat → Prop, Closed true s ts up X → (∀ a : Nat, e < a → a ≤ s.length → X (2 * last) a) → ∀ g p, M g p = true → X g p
theorem MInv.step {s : List UInt8} {ts : List Nd} {up : Nat → Nat} {last e : Nat} {M M' : Nat → Nat → Bool} (he : e ≤ s.length) (h : MInv s ts up last (e : Int) M) (d : Done true s ts up last e M M') : MInv s ts up last ((e : Int) - 1) M' := by
  refine ⟨d.closed, fun a h1 h2 => ?_, fun X hX hs g p hm => d.least X hX (fun g p hm => h.least X hX (fun a h1 h2 => hs a (by omega) h2) g p hm) (hs e (by omega) he) g p hm⟩
  · by_cases ha : a = e
    · rw [ha]; exact d.src
    · exact d.old _ _ (h.src a (by omega) h2)
theorem MInv.is {s : List UInt8} {ts : List Nd} {T : Tr} {e : Int} {M : Nat → Nat → Bool} (hT : Tree ts (upT T) T) (h : MInv s ts (upT T) (ts.length - 1) e M) (b : Nat) :
    M (2 * (ts.length - 1) + 1) b = true ↔ ∃ a : Nat, (e < a ∧ a ≤ s.length) ∧ St s T b a := by
  have hp := T.size_pos
  have hl := hT.len
  exact marked_is (bk := true) (s := s) (ts := ts) (up := upT T) (T := T) (Src := fun a => e < (a : Int) ∧ a ≤ s.length) (M := fun g p => M g p = true) (last := ts.length - 1) hT.occ hl (by omega)
    h.closed (fun a ha => h.src a ha.1 ha.2) (fun X hX hs g p hm => h.least X hX (fun a h1 h2 => hs a ⟨h1, h2⟩) g p hm) b
theorem far_step {s : List UInt8} {ts : List Nd} {T : Tr} {e : Nat} {M M' : Nat → Nat → Bool} {G : Nat → Int} (hT : Tree ts (upT T) T) (he : e ≤ s.length) (h : MInv s ts (upT T) (ts.length - 1) (e : Int) M) (h' : MInv s ts (upT T) (ts.length - 1) ((e : Int) - 1) M') (hG : FarOk s T e G) :
    FarOk s T ((e : Int) - 1) (fun q => if (M' (2 * (ts.length - 1) + 1) q && !M (2 * (ts.length - 1) + 1) q) = true then (e : Int) else G q) := by
  intro b
  have i1 := h.is hT b
  have i2 := h'.is hT b
  dsimp only
  cases hM : M (2 * (ts.length - 1) + 1) b with
  | true =>
    have hc : (M' (2 * (ts.length - 1) + 1) b && !true) = false := by simp
    rw [hc, if_neg (by simp)]
    rcases hG b with ⟨_, g2⟩ | ⟨a, g1, g2, g3, g4, g5⟩
    · obtain ⟨a, ⟨h1, h2⟩, h3⟩ := i1.1 hM
      exact absurd h3 (g2 a h1 h2)
    · exact .inr ⟨a, by omega, g2, g3, g4, g5⟩
  | false =>
    have hno : ∀ a : Nat, (e : Int) < a → a ≤ s.length → ¬ St s T b a := fun a h1 h2 h3 => by rw [i1.2 ⟨a, ⟨h1, h2⟩, h3⟩] at hM; cases hM
    cases hM' : M' (2 * (ts.length - 1) + 1) b with
    | true =>
      have hc : (true && !false) = true := rfl
      rw [hc, if_pos rfl]
      obtain ⟨a, ⟨h1, h2⟩, h3⟩ := i2.1 hM'
      have ha : a = e := by
        by_cases hh : (e : Int) < a
        · exact absurd h3 (hno a hh h2)
        · omega
      subst ha
      exact .inr ⟨a, by omega, h2, rfl, h3, fun a' h4 h5 => hno a' (by omega) h5⟩
    | false =>
      have hc : (false && !false) = false := rfl
      rw [hc, if_neg (by simp)]
      have hno' : ∀ a : Nat, (e : Int) - 1 < a → a ≤ s.length → ¬ St s T b a := fun a h1 h2 h3 => by rw [i2.2 ⟨a, ⟨h1, h2⟩, h3⟩] at hM'; cases hM'
      rcases hG b with ⟨g1, _⟩ | ⟨a, g1, g2, _, g4, _⟩
      · exact .inl ⟨g1, hno'⟩
      · exact absurd g4 (hno a g1 g2)
theorem Env.end {c : Cf} {s : ByteArray} {bk : Bool} {ts : List Nd} {up : Nat → Nat} {w w' : World} {he : Nat} (h : Env c s bk ts up w) (hb : c.bw ≠ he ∧ c.bu ≠ he ∧ c.bm ≠ he ∧ c.bn ≠ he ∧ c.bp ≠ he ∧ c.bl ≠ he ∧ c.bt ≠ he) (hs : ∀ j, j ≠ he → w'.heap[j]? = w.heap[j]?) : Env c s bk ts up w' := by
  obtain ⟨g1, g2, g3, g4, g5, g6, g7⟩ := hb
  refine ⟨(hs _ g1).trans h.wk, (hs _ g2).trans h.up, (hs _ g3).trans h.bm, (hs _ g4).trans h.bn, (hs _ g5).trans h.bp, (hs _ g6).trans h.bl, fun j n hj => ?_, h.lt, h.ge⟩
  have e : ∀ i, w'.cell? ⟨c.bt, i, none⟩ = w.cell? ⟨c.bt, i, none⟩ := fun i => by unfold World.cell?; rw [hs c.bt g7]
  have := h.tree j n hj
  unfold NdAt at this ⊢
  rw [e, e, e, e, e, e, e]
  exact this
theorem Mk.end {B br bR bs bf L he : Nat} {s : ByteArray} {M : Nat → Nat → Bool} {F : List (Nat × Nat)} {w w' : World} {cs : Array Value} (h : Mk B br bR bs bf L s M F w) (hh : w.heap[he]? = some (.cells cs 3 (0, 0))) (hs : ∀ j, j ≠ he → w'.heap[j]? = w.heap[j]?) : Mk B br bR bs bf L s M F w' := by
  have ty : ∀ {i : Nat} {a : Array Value} {U : TypeId} {fz : Nat × Nat}, w.heap[i]? = some (.cells a U fz) → U ≠ 3 → w'.heap[i]? = some (.cells a U fz) := fun {i a U fz} hi hne => by
    refine (hs i fun e => ?_).trans hi
    subst e
    rw [hh] at hi
    injection hi with hi
    injection hi with _ hi _
    exact hne hi.symm
  obtain ⟨rv, h1, h2, h3, h4⟩ := h.cells
  obtain ⟨v, h5, h6⟩ := h.fresh
  refine ⟨h.hB, ty h.rows (by decide), ⟨rv, h1, ty h2 (by decide), fun g v hv => ?_, h4⟩, ty h.str (by decide), ⟨v, ty h5 (by decide), ?_⟩, h.inb, h.cnt, h.small⟩
  · rcases h3 g v hv with hx | ⟨b, e1, e2, e3⟩
    · exact .inl hx
    · exact .inr ⟨b, e1, e2, ty e3 (by decide)⟩
  · refine owns_same h6 fun q hq => ?_
    rcases h6.2 with ⟨hv, _⟩ | ⟨g, cap, cur, hv, _, hg, _⟩
    · rw [hv] at hq; cases hq
    · rw [hv] at hq
      cases hq
      exact (ty hg (by decide)).trans hg.symm
/-- Between two ends. -/
structure FarS (c : Cf) (B he hb hr : Nat) (s : ByteArray) (ts : List Nd) (T : Tr) (w0 : World) (e : Int) (M : Nat → Nat → Bool) (G : Nat → Int) (w : World) : Prop where
  env : Env c s true ts (upT T) w
  mm : Mk c.B c.br c.bR c.bs c.bf ts.length s M [] w
  at_ : FarAt B he hb hr s.size w0 e G w
  ok : FarOk s.data.toList T e G
  inv : MInv s.data.toList ts (upT T) (ts.length - 1) e M
  le : -1 ≤ e ∧ e ≤ (s.size : Int)
theorem far_call {c : Cf} {B he hb hr e : Nat} {s : ByteArray} {ts : List Nd} {T : Tr} {w0 w : World} {M : Nat → Nat → Bool} {G : Nat → Int} (hT : Tree ts (upT T) T) (hbs : c.B ≤ c.bs) (hBr : B ≤ hr) (hBc : B ≤ c.B) (hrc : hr < c.B) (hrt : c.bt < hr) (hne : he ≠ hr) (hnb : hb ≠ hr) (h : FarS c B he hb hr s ts T w0 (e : Int) M G w) :
    Calls Try.prog 106 #[.int .i64 (e : Int), .func (.func 127) #[] #[.pointer (some ⟨he, 0, none⟩), .pointer (some ⟨hb, 0, none⟩)], .pointer (some ⟨c.bm, 0, none⟩), .pointer (some ⟨c.bl, 0, none⟩), .pointer (some ⟨c.bn, 0, none⟩), .pointer (some ⟨c.bp, 0, none⟩)] w fun en w' =>
      en = .returned (.tuple #[]) ∧ ∃ M' G', Env c s true ts (upT T) w' ∧ Mk c.B c.br c.bR c.bs c.bf ts.length s M' [] w' ∧ FarAt B he hb hr s.size w0 (e : Int) G' w' ∧ FarOk s.data.toList T ((e : Int) - 1) G' ∧ MInv s.data.toList ts (upT T) (ts.length - 1) ((e : Int) - 1) M' := by
  have hlen : s.data.toList.length = s.size := Array.length_toList
  have hle := h.le
  refine (reach_far c s true ts (upT T) T hT (fun D w => FarAt B he hb hr s.size w0 (e : Int) (fun q => if D q = true then (e : Int) else G q) w) he hb hbs (fun D a b h k => h.kept hBc k)
    (fun D p a h hp => (tell_far B he hb hr s.size p w0 (e : Int) _ a h hp hBr hne hnb).mono fun en a' hh => ⟨hh.1, ?_, fun j hj => hh.2.2 j (by rcases hj with hj | hj <;> omega)⟩)
    M e (by omega) w h.env h.mm ?_ h.inv.closed).mono ?_
  · have e2 : (fun q => if setT D p q = true then (e : Int) else G q) = fun q => if q = p then (e : Int) else if D q = true then (e : Int) else G q := by
      funext q
      unfold setT
      by_cases hq : q = p <;> simp [hq]
    rw [e2]
    exact hh.2.1
  · have e2 : (fun q : Nat => if (fun _ : Nat => false) q = true then (e : Int) else G q) = G := by funext q; simp
    show FarAt B he hb hr s.size w0 (e : Int) (fun q : Nat => if (fun _ : Nat => false) q = true then (e : Int) else G q) w
    rw [e2]
    exact h.at_
  · rintro en w' ⟨rfl, M', hE, hM, hJ, hD⟩
    have hi := h.inv.step (by rw [hlen]; omega) hD
    exact ⟨rfl, M', _, hE, hM, hJ, far_step hT (by rw [hlen]; omega) h.inv hi h.ok, hi⟩
end Go.Proofs.Ytgffmbdbjbhocaa
namespace Go.Proofs.Ytgffmbdbjbhocaa
open Go.RowKit Go.Lib

/-- The greatest ends from a place on. -/
def FarFrom (s : List UInt8) (T : Tr) (k : Nat) (G : Nat → Int) : Prop :=
  ∀ b : Nat, k ≤ b → b ≤ s.length → (G b = -1 ∧ ∀ a : Nat, a ≤ s.length → ¬ St s T b a) ∨ ∃ a : Nat, a ≤ s.length ∧ G b = a ∧ St s T b a ∧ ∀ a' : Nat, a < a' → a' ≤ s.length → ¬ St s T b a'
theorem FarOk.from_ {s : List UInt8} {T : Tr} {e : Int} {k : Nat} {G : Nat → Int} (h : FarOk s T e G) (hk : e < (k : Int)) : FarFrom s T k G := fun b h1 h2 => by
  rcases h b with ⟨g1, g2⟩ | ⟨a, g1, g2, g3, g4, g5⟩
  · refine .inl ⟨g1, fun a ha hs => g2 a ?_ ha hs⟩
    have := St.le s T b a hs
    omega
  · exact .inr ⟨a, g2, g3, g4, g5⟩
set_option maxHeartbeats 8000000 in
set_option maxRecDepth 20000 in
theorem far_any (b o cap : Nat) (T : Tr) (ts : List Nd) (s : ByteArray) (k : Nat) (w : World) (hts : ts = T.row 0) (hok : T.ok) (hsz : ts.length ≤ 2000) (hs : s.size ≤ 1000000) (hL : Lies (.slice (some ⟨b, o, none⟩) ts.length cap) ts w) :
    Calls Try.prog 100 #[.slice (some ⟨b, o, none⟩) ts.length cap, .string s, .int .i64 (k : Int)] w fun e w' => ∃ hr G, e = .returned (.slice (some ⟨hr, 0, none⟩) (s.size + 1) (s.size + 1)) ∧ w.heap.size ≤ hr ∧ w'.heap[hr]? = some (.cells ⟨intC s.size G⟩ 3 (0, 0)) ∧ FarFrom s.data.toList T k G ∧ Below w.heap.size w w' := by
  have hbw : b < w.heap.size := by
    obtain ⟨b', o', h1, h2, _⟩ := hL.at (List.getElem?_eq_getElem (by rw [hts, Tr.row_length]; exact T.size_pos))
    cases h1
    exact h2
  have hlen : s.data.toList.length = s.size := Array.length_toList
  have hNw : IntKind.i64.wrap ((s.size : Int) + 1) = ((s.size + 1 : Nat) : Int) := by rw [IntWalk.i64_in _ (by omega)]; omega
  obtain ⟨N, hN⟩ : ∃ N, N = s.size + 1 := ⟨_, rfl⟩
  rw [← hN] at hNw ⊢
  have hT : Tree ts (upT T) T := by rw [hts]; exact tree_of T hok
  have hst : ∀ (a : Addr) (fn : Fn) (x y : Array Value) (m : Mode) (w : World), (store a (.func fn x y) m).run Try.prog w = stored Try.prog w a (.func fn x y) m := fun a fn x y m w => run_store Try.prog w a (.func fn x y) m rfl
  have hmf : ∀ (fn : Fn) (first cap : Array Value) (w : World), (Instr.makeFunc fn first cap).run Try.prog w = .ok (.func fn first cap) w := fun _ _ _ _ => rfl
  have krep := repeat_any w.heap.size (-1) N (w.alloc (.cells #[.int .i64 (-1)] 3)) (by omega) (by omega) (by rw [cell_of_heap (heap_alloc_new w _)]; rfl)
  have kr := fun (w : World) (h : Lies (.slice (some ⟨b, o, none⟩) ts.length cap) ts w) => reacher_any b o cap T ts s true w hts hok hsz hs h
  have hb0 : Below w.heap.size w (w.alloc (.cells #[.int .i64 (-1)] 3)) := (Below.refl _ _).alloc (Nat.le_refl _) _
  have H0 := Lib.hid (And.intro hN (And.intro hT (And.intro hs (And.intro hbw (And.intro hL (And.intro hlen hb0))))))
  clear hN hT hs hbw hL hlen hb0 hts hok hsz
  go_enter Try.func100, Try.ntmps100
  go_wp2_with (first
    | (go_at_call 126; refine krep.mono ?_; rintro e w2 ⟨rfl, hr2, hb2⟩
       rw [World.size_alloc] at hr2 ⊢
       have hb2' : Below w.heap.size w w2 := H0.out.2.2.2.2.2.2.trans (hb2.mono (by simp))
       have hz2 : w.heap.size + 1 < w2.heap.size := block_lt hr2
       have hL2 := H0.out.2.2.2.2.1.below (hb2'.alloc (by omega) (.cells #[.slice (some ⟨w.heap.size + 1, 0, none⟩) N N] 42))
       have H2 := Lib.hid (And.intro hr2 (And.intro hb2' hz2))
       clear krep hr2 hb2 hb2' hz2)
    | (go_at_call 76; refine (kr _ hL2).mono ?_; rintro e w3 ⟨c, hcB, hcb, hcs, hb3, rfl, hE, hM⟩
       have H3 := Lib.hid (And.intro hcB (And.intro hcb (And.intro hcs (And.intro hb3 (And.intro hE hM)))))
       clear kr hL2 hcB hcb hcs hb3 hE hM)
    | fail)
  obtain ⟨hN, hT, hs, hbw, -, hlen, -⟩ := H0.out
  obtain ⟨hr2, hb2, hz2⟩ := H2.out
  obtain ⟨hcB, hcb, hcs, hb3, hE, hM⟩ := H3.out
  have hcB2 : c.B = w2.heap.size + 1 := by rw [hcB]; simp
  have hlt2 : w2.heap.size < w3.heap.size := by have := hb3.size; simp at this; omega
  have hbw2 : Below w.heap.size w w3 := (hb2.alloc (by omega) _).trans (hb3.mono (by simp; omega))
  have hne7 : c.bw < w3.heap.size ∧ c.bu < w3.heap.size ∧ c.bm < w3.heap.size ∧ c.bn < w3.heap.size ∧ c.bp < w3.heap.size ∧ c.bl < w3.heap.size := ⟨block_lt hE.wk, block_lt hE.up, block_lt hE.bm, block_lt hE.bn, block_lt hE.bp, block_lt hE.bl⟩
  have hba : Below w3.heap.size w3 (w3.alloc (.cells #[.int .i64 (s.size : Int)] 3)) := (Below.refl _ _).alloc (Nat.le_refl _) _
  have hfb : w3.heap[w2.heap.size]? = some (.cells #[.slice (some ⟨w.heap.size + 1, 0, none⟩) N N] 42 (0, 0)) := (hb3.block _ (by simp)).trans (heap_alloc_new w2 _)
  have hrw : w3.heap[w.heap.size + 1]? = some (.cells ⟨List.replicate N (Value.int .i64 (-1))⟩ 3 (0, 0)) := (hb3.block _ (by simp; omega)).trans ((Below.heap_alloc _ _ _ (by omega)).trans hr2)
  have hS0 : FarS c w.heap.size w3.heap.size w2.heap.size (w.heap.size + 1) s ts T w (s.size : Int) (fun _ _ => false) (fun _ => -1) (w3.alloc (.cells #[.int .i64 (s.size : Int)] 3)) := by
    refine ⟨hE.kept (Kept.of_below hba (by omega)), hM.below hba, ⟨heap_alloc_new w3 _, ?_, ?_, hbw2.alloc (by omega) _⟩, fun b => .inl ⟨rfl, fun a h1 h2 => by omega⟩, ⟨fun _ _ h => Bool.noConfusion h, fun a h1 h2 => by omega, fun _ _ _ _ _ h => Bool.noConfusion h⟩, by omega⟩
    · rw [← hN]; exact (hba.block _ hlt2).trans hfb
    · rw [← intC_rep, ← hN]; exact (hba.block _ (by omega)).trans hrw
  have HS0 := Lib.hid hS0
  have HQ := Lib.hid (And.intro hcB2 (And.intro hlt2 (And.intro hne7 (And.intro hz2 (And.intro hbw (And.intro hcb (And.intro hcs (And.intro hT (And.intro hN (And.intro hlen hs))))))))))
  clear hN hT hs hbw hlen hr2 hb2 hz2 hcB hcb hcs hb3 hE hM hcB2 hlt2 hbw2 hne7 hba hfb hrw hS0
  go_loopg [] (s.size + 1) (fun m wr => Hid (∃ (e : Int) (M : Nat → Nat → Bool) (G : Nat → Int), FarS c w.heap.size w3.heap.size w2.heap.size (w.heap.size + 1) s ts T w e M G wr ∧ m = (e + 1).toNat))
  case atStart => exact ⟨_, _, _, HS0.out, by omega⟩
  case round =>
    obtain ⟨e, M, G, h, hm⟩ := hrel.out
    obtain ⟨hcB2, hlt2, hne7, hz2, hbw, hcb, hcs, hT, hN, hlen, hs⟩ := HQ.out
    have ce : wr.cell? ⟨w3.heap.size, 0, none⟩ = some (.int .i64 e) := by rw [cell_of_heap h.at_.ebox]; rfl
    have hle := h.le
    by_cases hge : (k : Int) ≤ e
    · obtain ⟨e', rfl⟩ : ∃ e' : Nat, e = (e' : Int) := ⟨e.toNat, by omega⟩
      have kc := far_call hT hcs (by omega) (by omega) (by omega) (by omega) (by omega) (by omega) h
      have hI : IntKind.i64.wrap ((e' : Int) - 1) = (e' : Int) - 1 := IntWalk.i64_in _ (by omega)
      have HH := Lib.hid h
      have HM := Lib.hid hm
      clear h hm hrel hcB2 hlt2 hne7 hz2 hbw hcb hcs hT hN hlen hs
      go_wp2_with (first
        | (go_at_call 106; refine kc.mono ?_; rintro en w5 ⟨rfl, M', G', hE5, hM5, hA5, hO5, hI5⟩
           have ce5 : w5.cell? ⟨w3.heap.size, 0, none⟩ = some (.int .i64 (e' : Int)) := by rw [cell_of_heap hA5.ebox]; rfl
           have fe5 : w5.frozen? ⟨w3.heap.size, 0, none⟩ = false := frozen_of_heap hA5.ebox 0
           have H5 := Lib.hid (And.intro hE5 (And.intro hM5 (And.intro hA5 (And.intro hO5 hI5))))
           clear kc ce hE5 hM5 hA5 hO5 hI5)
        | fail)
      go_roundg e'
      case rel =>
        obtain ⟨hE5, hM5, hA5, hO5, hI5⟩ := H5.out
        obtain ⟨hcB2, hlt2, hne7, hz2, hbw, hcb, hcs, hT, hN, hlen, hs⟩ := HQ.out
        have hsame : ∀ j, j ≠ w3.heap.size → (w5.setCell ⟨w3.heap.size, 0, none⟩ (.int .i64 ((e' : Int) - 1))).heap[j]? = w5.heap[j]? := fun j hj => Below.heap_setCell _ _ _ _ hj
        refine ⟨(e' : Int) - 1, M', G', ⟨hE5.end (he := w3.heap.size) (by omega) hsame, hM5.end hA5.ebox hsame, ⟨?_, (hsame _ (by omega)).trans hA5.fbox, (hsame _ (by omega)).trans hA5.row, hA5.low.setCell (p := ⟨w3.heap.size, 0, none⟩) (by dsimp only; omega) _⟩, hO5, hI5, by omega⟩, by omega⟩
        have h := heap_setCell_same w5 w3.heap.size 0 _ _ (Value.int .i64 ((e' : Int) - 1)) hA5.ebox
        simpa using h
      case measure => have := HM.out; omega
    · have cf : wr.cell? ⟨w2.heap.size, 0, none⟩ = some (.slice (some ⟨w.heap.size + 1, 0, none⟩) N N) := by rw [cell_of_heap h.at_.fbox, hN]; rfl
      have HH := Lib.hid h
      clear h hm hrel hcB2 hlt2 hne7 hz2 hbw hcb hcs hT hN hlen hs
      go_wp2
      exact bodyPost_ret (results_tmp rfl _ _ _) rfl (by first | exact ⟨_, G, rfl, by omega, HH.out.at_.row, HH.out.ok.from_ (by omega), HH.out.at_.low⟩ | exact ⟨_, rfl, by omega, G, HH.out.at_.row, HH.out.ok.from_ (by omega), HH.out.at_.low⟩ | exact ⟨_, rfl, by omega, ⟨G, HH.out.at_.row, HH.out.ok.from_ (by omega)⟩, HH.out.at_.low⟩)
end Go.Proofs.Ytgffmbdbjbhocaa
namespace Go.Proofs.Ytgffmbdbjbhocaa
open Go.RowKit

/-- WHAT AN ITERATOR DOES, called at W: it hands the elements of L to yield, one behind the other, till a round says 'no more'. It lays c blocks of its own ahead of the first round, whatever c is; the rounds keep these, and those of K. -/
def SeqF {α : Type} (P : Program) (g : Nat) (lb : Array Value) (encs : α → Array Value) (L : List α) (K : Nat → Prop) (W : World) : Prop :=
  ∀ (l : Nat) (J Jx : Nat → List α → World → Prop), (∀ c, OwnC W.heap.size 0 (J c)) → (∀ c, OwnC W.heap.size 0 (Jx c)) →
    (∀ c pre x W1, W.heap.size + c ≤ W1.heap.size → J c pre W1 → (∃ rest, L = pre ++ x :: rest) → YieldAt Fence.wide 0 P l (encs x) W1 fun e W' =>
      W1.heap.size ≤ W'.heap.size ∧ Same (fun j => K j ∨ (W.heap.size ≤ j ∧ j < W.heap.size + c)) W1 W' ∧
        ((e = .returned (.bool true) ∧ J c (pre ++ [x]) W') ∨ (e = .returned (.bool false) ∧ Jx c (pre ++ [x]) W'))) →
    (∀ c, J c [] W) →
    CallsIn Fence.wide 0 P g (#[.func (.yield l) #[] #[]] ++ lb) W fun e W' => (∃ v, e = .returned v) ∧ ∃ c, J c L W' ∨ (∃ pre, Jx c pre W')

/-- How a round's body may be left: off its end, or by a return. -/
def postF {α : Type} (B c : Nat) (K : Nat → Prop) (I : List α → World → Prop) (Ix : List α → World → Prop) (xs : List α) (W : World) : Exit → Act → World → Prop
  | .normal, _, W' => W.heap.size ≤ W'.heap.size ∧ Same (fun j => K j ∨ (B ≤ j ∧ j < B + 2 + c)) W W' ∧ I xs W'
  | .ret, _, W' => W.heap.size ≤ W'.heap.size ∧ Same (fun j => K j ∨ (B ≤ j ∧ j < B + 2 + c)) W W' ∧ Ix xs W'
  | _, _, _ => False

/-- THE LOOP. -/
theorem wp_rangeF {α : Type} {P : Program} {g : Operand} {ps : Array Tmp} {assign body : Code} {Q : Exit → Act → World → Prop} {a : Act} {w : World} {gf : Nat} {lb : Array Value}
    (hg : a.eval g = .func (.func gf) #[] lb) (eg : ∀ args w, (callFunc gf args).run P w = .ok (.enter gf args) w) {encs : α → Array Value} {L : List α} {K : Nat → Prop} (hps : ∀ x, (encs x).size = ps.size)
    (hseq : ∀ W, W.heap.size = w.heap.size + 2 → (∀ j, j < w.heap.size → W.heap[j]? = w.heap[j]?) → SeqF P gf lb encs L K W) (hK : ∀ j, K j → j ≠ w.heap.size + 1)
    (I Ix : Nat → List α → World → Prop) (hI : ∀ c, OwnC w.heap.size 2 (I c)) (hIx : ∀ c, OwnC w.heap.size 2 (Ix c)) (h0 : ∀ c, I c [] w) (a₁ : α → Act)
    (hassign : ∀ (l : Nat) (x : α) (W : World) (k : Act → World → Prop), k (a₁ x) W →
      assign.wpIn (Fence.wide.inRound l) 0 P (Exit.then k (fun _ _ _ => False)) { tmps := (ps.zip (encs x)).foldl (fun t (p, v) => t.setIfInBounds p v) a.tmps, defers := [] } W)
    (hbody : ∀ (l c : Nat) (pre : List α) (x : α) (W : World), w.heap.size + 2 + c ≤ W.heap.size → I c pre W → (∃ rest, L = pre ++ x :: rest) → body.wpIn (Fence.wide.inRound l) 0 P (postF w.heap.size c K (I c) (Ix c) (pre ++ [x]) W) (a₁ x) W)
    (hdone : ∀ (c : Nat) (W : World), I c L W → W.heap[w.heap.size]? = some (.deferred (some [])) → Q .normal { a with defers := { target := .collected w.heap.size, args := #[] } :: a.defers } W)
    (hstop : ∀ (c : Nat) (pre : List α) (W : World), Ix c pre W → W.heap[w.heap.size]? = some (.deferred (some [])) → Code.ret.wpIn Fence.wide 0 P Q { a with defers := { target := .collected w.heap.size, args := #[] } :: a.defers } W) :
    (Code.rangeFunc g ps assign body).wpIn Fence.wide 0 P Q a w := by
  refine wpIn_rangeFunc fun fn hfn => ?_
  -- the two blocks of book-keeping: D for the rounds' deferred calls, D + 1 the record, in its states
  obtain ⟨D, hD⟩ : ∃ D, D = w.heap.size := ⟨_, rfl⟩
  rw [← hD] at hI hIx hK hbody hdone hstop hseq
  let st : LoopState → Option Code → Obj := fun s pe => .loop { state := s, pending := pe, fn, tmps := a.tmps, params := ps, assign, body, defers := D }
  obtain ⟨W1, hW1⟩ : ∃ W1, (w.alloc (.deferred (some []))).alloc (st .ready none) = W1 := ⟨_, rfl⟩
  have hz1 : W1.heap.size = D + 2 := by rw [← hW1, hD]; simp
  have hrec1 : W1.heap[D + 1]? = some (st .ready none) := by
    rw [← hW1, hD]
    have := World.alloc_heap_new (w.alloc (.deferred (some []))) (st .ready none)
    rwa [World.size_alloc] at this
  have hdef1 : W1.heap[D]? = some (.deferred (some [])) := by
    rw [← hW1, hD]
    exact (Below.heap_alloc _ _ _ (by simp)).trans (World.alloc_heap_new w _)
  have hold1 : ∀ j, j < D → W1.heap[j]? = w.heap[j]? := fun j hj => by
    rw [← hW1]
    exact (Below.heap_alloc _ _ _ (by simp; omega)).trans (Below.heap_alloc _ _ _ (by omega))
  have hI1 : ∀ c, I c [] W1 := fun c => by
    rw [← hW1]
    exact hI c _ _ _ none (hI c _ _ _ none (h0 c) (World.grownBy_alloc _ _ none) (fun _ e => by cases e)) (World.grownBy_alloc _ _ none) (fun _ e => by cases e)
  refine ⟨D + 1, [{ target := .collected D, args := #[] }], W1, { target := .fn (.func gf) lb, args := #[.func (.yield (D + 1)) #[] #[]] }, W1, gf, #[.func (.yield (D + 1)) #[] #[]] ++ lb, W1, ?_, ?_, fun _ _ => trivial, ?_, (fun h => by cases h), ?_⟩
  · subst hD; rw [← hW1]; exact run_enterLoop_outer _ _ _ _ _
  · simp only [resolve, hg]
    simp [go_sem]
  · simp [invoke, go_sem, eg]
  -- the record turns; what abides that goes on
  have turn : ∀ {Z : List α → World → Prop}, OwnC D 2 Z → ∀ {s : List α} {W : World} {o : Obj} (o' : Obj), Z s W → W.heap[D + 1]? = some o → o.isCells = false → Z s (W.putObj (D + 1) o') :=
    fun hZ _ _ _ o' hs ho hc => hZ _ _ _ (some (D + 1)) hs (putObj_grown _ _ _) (fun r e => by cases e; exact ⟨by omega, .inr ⟨_, ho, hc⟩⟩)
  have stay : ∀ {W W' : World} {row : Option Nat} {o : Obj} {j : Nat}, j < D + 2 → W.grownBy W' row → (∀ r, row = some r → W1.heap.size ≤ r ∧ ((r < W1.heap.size + 0 ∧ ∃ x t, W.heap[r]? = some (.cells #[x] t (0, 0))) ∨ ∃ o : Obj, W.heap[r]? = some o ∧ o.isCells = false)) → W.heap[j]? = some o → W'.heap[j]? = some o :=
    fun {W W' row o j} hj hgr hr ho => (hgr.block j (Array.getElem?_eq_some_iff.1 ho).1 (fun e => by have := (hr j e.symm).1; omega)).trans ho
  have low : ∀ {W : World} {row : Option Nat}, (∀ r, row = some r → W1.heap.size ≤ r ∧ ((r < W1.heap.size + 0 ∧ ∃ x t, W.heap[r]? = some (.cells #[x] t (0, 0))) ∨ ∃ o : Obj, W.heap[r]? = some o ∧ o.isCells = false)) → (∀ r, row = some r → D ≤ r ∧ ((r < D + 2 ∧ ∃ x t, W.heap[r]? = some (.cells #[x] t (0, 0))) ∨ ∃ o : Obj, W.heap[r]? = some o ∧ o.isCells = false)) :=
    fun hr r e => ⟨by have := (hr r e).1; omega, (hr r e).2.elim (fun h => .inl ⟨by omega, h.2⟩) .inr⟩
  refine (hseq W1 hz1 hold1 (D + 1)
    (fun c pre W => I c pre W ∧ W.heap[D + 1]? = some (st .ready none) ∧ W.heap[D]? = some (.deferred (some [])))
    (fun c pre W => Ix c pre W ∧ W.heap[D + 1]? = some (st .done (some .ret)) ∧ W.heap[D]? = some (.deferred (some [])))
    (fun c s A B row hs hgr hr => ⟨hI c s A B row hs.1 hgr (low hr), stay (by omega) hgr hr hs.2.1, stay (by omega) hgr hr hs.2.2⟩)
    (fun c s A B row hs hgr hr => ⟨hIx c s A B row hs.1 hgr (low hr), stay (by omega) hgr hr hs.2.1, stay (by omega) hgr hr hs.2.2⟩)
    ?_ (fun c => ⟨hI1 c, hrec1, hdef1⟩)).mono ?_
  · -- one round
    rintro c pre x W hsz ⟨hi, hl, hk⟩ hlen
    have hlt : D + 1 < W.heap.size := (Array.getElem?_eq_some_iff.1 hl).1
    refine ⟨fn, _, assign, body, run_yield (args := encs x) hl (hps x), roundIn_of_wpIn hfn (hassign _ x W _ ⟨_, run_beginRound hl rfl, ?_⟩)⟩
    have hl2 : (W.putObj (D + 1) (st .busy none)).heap[D + 1]? = some (st .busy none) := World.putObj_heap_same hlt
    have hk2 : (W.putObj (D + 1) (st .busy none)).heap[D]? = some (.deferred (some [])) := (World.putObj_heap_other (by omega)).trans hk
    refine wpIn_mono (hbody _ c pre x _ (by simp; omega) (turn (hI c) _ hi hl rfl) hlen) ?_
    have other : ∀ {j : Nat} (o : Obj) (V : World), K j ∨ (W1.heap.size ≤ j ∧ j < W1.heap.size + c) → (V.putObj (D + 1) o).heap[j]? = V.heap[j]? := fun {j} o V hj =>
      World.putObj_heap_other (hj.elim (hK j) (fun h => by omega))
    rintro e a3 W3 hp
    cases e with
    | normal =>
      obtain ⟨hs3, hk3, hi3⟩ := hp
      have hl3 := (hk3 (D + 1) (.inr (by omega))).trans hl2
      have hd3 := (hk3 D (.inr (by omega))).trans hk2
      refine ⟨_, _, run_endRound none hl3, by simpa using hs3, fun j hj => ?_, .inl ⟨rfl, turn (hI c) _ hi3 hl3 rfl, World.putObj_heap_same (Array.getElem?_eq_some_iff.1 hl3).1, (World.putObj_heap_other (by omega)).trans hd3⟩⟩
      rw [other _ _ hj, hk3 j (hj.elim .inl (fun h => .inr (by omega))), other _ _ hj]
    | ret =>
      obtain ⟨hs3, hk3, hi3⟩ := hp
      have hl3 := (hk3 (D + 1) (.inr (by omega))).trans hl2
      have hd3 := (hk3 D (.inr (by omega))).trans hk2
      refine ⟨_, _, run_endRound (some .ret) hl3, by simpa using hs3, fun j hj => ?_, .inr ⟨rfl, turn (hIx c) _ hi3 hl3 rfl, World.putObj_heap_same (Array.getElem?_eq_some_iff.1 hl3).1, (World.putObj_heap_other (by omega)).trans hd3⟩⟩
      rw [other _ _ hj, hk3 j (hj.elim .inl (fun h => .inr (by omega))), other _ _ hj]
    | exit id => exact hp.elim
    | goto t => exact hp.elim
    | panic ch => exact hp.elim
    | outgrown => exact hp.elim
  · -- behind the iterator
    rintro e W2 ⟨⟨v, rfl⟩, c, ⟨hi, hl, hk⟩ | ⟨pre, hi, hl, hk⟩⟩
    · exact ⟨none, _, run_endLoop hl (by simp), hdone c _ (turn (hI c) _ hi hl rfl) ((World.putObj_heap_other (by omega)).trans hk)⟩
    · exact ⟨some .ret, _, run_endLoop hl (by simp), hstop c pre _ (turn (hIx c) _ hi hl rfl) ((World.putObj_heap_other (by omega)).trans hk)⟩
end Go.Proofs.Ytgffmbdbjbhocaa
namespace Go.Proofs.Ytgffmbdbjbhocaa
open Go.RowKit Go.Lib
attribute [local go_sem] Oper.semAt_some

open Classical in
noncomputable def farG (s : List UInt8) (T : Tr) (b : Nat) : Int :=
  if h : ∃ a : Nat, a ≤ s.length ∧ St s T b a ∧ ∀ a' : Nat, a < a' → a' ≤ s.length → ¬ St s T b a' then ((Classical.choose h : Nat) : Int) else -1
theorem farG_some {s : List UInt8} {T : Tr} {b a : Nat} (h1 : a ≤ s.length) (h2 : St s T b a) (h3 : ∀ a' : Nat, a < a' → a' ≤ s.length → ¬ St s T b a') : farG s T b = a := by
  have hex : ∃ a : Nat, a ≤ s.length ∧ St s T b a ∧ ∀ a' : Nat, a < a' → a' ≤ s.length → ¬ St s T b a' := ⟨a, h1, h2, h3⟩
  unfold farG
  rw [dif_pos hex]
  have hc := Classical.choose_spec hex
  generalize Classical.choose hex = c at hc
  obtain ⟨g1, g2, g3⟩ := hc
  have : ¬ a < c := fun h => h3 c h g1 g2
  have : ¬ c < a := fun h => g3 a h h1 h2
  omega
theorem farG_none {s : List UInt8} {T : Tr} {b : Nat} (h : ∀ a : Nat, a ≤ s.length → ¬ St s T b a) : farG s T b = -1 := by
  unfold farG
  rw [dif_neg (by rintro ⟨a, h1, h2, _⟩; exact h a h1 h2)]
theorem FarFrom.eq {s : List UInt8} {T : Tr} {k : Nat} {G : Nat → Int} (h : FarFrom s T k G) {b : Nat} (h1 : k ≤ b) (h2 : b ≤ s.length) : G b = farG s T b := by
  rcases h b h1 h2 with ⟨g1, g2⟩ | ⟨a, g1, g2, g3, g4⟩
  · rw [g1, farG_none g2]
  · rw [g2, farG_some g1 g3 g4]
theorem farG_cases (s : List UInt8) (T : Tr) (b : Nat) : farG s T b = -1 ∨ ∃ a : Nat, farG s T b = a ∧ b ≤ a ∧ a ≤ s.length ∧ St s T b a := by
  by_cases hex : ∃ a : Nat, a ≤ s.length ∧ St s T b a ∧ ∀ a' : Nat, a < a' → a' ≤ s.length → ¬ St s T b a'
  · obtain ⟨a, h1, h2, h3⟩ := hex
    exact .inr ⟨a, farG_some h1 h2 h3, St.le s T b a h2, h1, h2⟩
  · left
    unfold farG
    rw [dif_neg hex]
/-- The spans from a place on, when the last one ended somewhere. -/
def goL (G : Nat → Int) (n : Nat) : Nat → Nat → Int → List (Nat × Nat)
  | 0, _, _ => []
  | f + 1, a, e => if n < a then [] else if G a = -1 ∨ (G a = a ∧ e = a) then goL G n f (a + 1) e else (a, (G a).toNat) :: goL G n f (G a).toNat (G a)
def muL (n a : Nat) (e : Int) : Nat := 2 * (n + 1 - a) + (if e = a then 0 else 1)
noncomputable def spansL (s : List UInt8) (T : Tr) (k : Nat) : List (Nat × Nat) := goL (farG s T) s.length (2 * (s.length + 1 - k) + 2) k (-1)
abbrev encP (x : Nat × Nat) : Array Value := #[.int .i64 (x.1 : Int), .int .i64 (x.2 : Int)]
/-- What lies between two rounds. -/
structure SpS (s : ByteArray) (T : Tr) (k hr sb : Nat) (W w1 : World) (G : Nat → Int) (J : Nat → List (Nat × Nat) → World → Prop) (a : Nat) (e : Int) (wr : World) : Prop where
  row : wr.heap[hr]? = some (.cells ⟨intC s.size G⟩ 3 (0, 0))
  str : wr.heap[sb]? = some (.cells #[.string s] 9 (0, 0))
  size : w1.heap.size ≤ wr.heap.size
  at_ : k ≤ a
  list : ∃ pre f, spansL s.data.toList T k = pre ++ goL (farG s.data.toList T) s.size f a e ∧ muL s.size a e < f ∧ J (w1.heap.size - W.heap.size) pre wr
theorem muL_next (n a : Nat) (e : Int) (h : a ≤ n) : muL n (a + 1) e < muL n a e := by
  unfold muL
  split <;> split <;> omega
theorem muL_take (n a b : Nat) (e : Int) (h : a ≤ n) (hb : a ≤ b) (hne : ¬ (b = a ∧ e = a)) : muL n b (b : Int) < muL n a e := by
  unfold muL
  rw [if_pos rfl]
  by_cases hab : b = a
  · subst hab
    rw [if_neg (fun he => hne ⟨rfl, he⟩)]
    omega
  · split <;> omega
section
variable {s : ByteArray} {T : Tr} {k hr sb : Nat} {W w1 : World} {G : Nat → Int} {J : Nat → List (Nat × Nat) → World → Prop} {a : Nat} {e : Int} {wr : World}
theorem SpS.skip (h : SpS s T k hr sb W w1 G J a e wr) (ha : a ≤ s.size) (hc : farG s.data.toList T a = -1 ∨ (farG s.data.toList T a = a ∧ e = a)) : SpS s T k hr sb W w1 G J (a + 1) e wr := by
  obtain ⟨pre, f, h1, h2, h3⟩ := h.list
  cases f with
  | zero => omega
  | succ f =>
    refine ⟨h.row, h.str, h.size, by have := h.at_; omega, pre, f, ?_, by have := muL_next s.size a e ha; omega, h3⟩
    rw [h1]
    show pre ++ (if s.size < a then [] else if farG s.data.toList T a = -1 ∨ (farG s.data.toList T a = a ∧ e = a) then goL (farG s.data.toList T) s.size f (a + 1) e else _) = _
    rw [if_neg (by omega), if_pos hc]
theorem SpS.done (h : SpS s T k hr sb W w1 G J a e wr) (ha : s.size < a) : J (w1.heap.size - W.heap.size) (spansL s.data.toList T k) wr := by
  obtain ⟨pre, f, h1, h2, h3⟩ := h.list
  cases f with
  | zero => omega
  | succ f =>
    have : spansL s.data.toList T k = pre := by
      rw [h1]
      show pre ++ (if s.size < a then [] else _) = _
      rw [if_pos ha, List.append_nil]
    rw [this]
    exact h3
theorem SpS.take {b : Nat} (h : SpS s T k hr sb W w1 G J a e wr) (ha : a ≤ s.size) (hb : farG s.data.toList T a = (b : Int)) (hab : a ≤ b) (hne : ¬ (b = a ∧ e = a)) :
    ∃ pre, J (w1.heap.size - W.heap.size) pre wr ∧ (∃ rest, spansL s.data.toList T k = pre ++ (a, b) :: rest) ∧ ∀ W3, wr.heap.size ≤ W3.heap.size → W3.heap[hr]? = wr.heap[hr]? → W3.heap[sb]? = wr.heap[sb]? → J (w1.heap.size - W.heap.size) (pre ++ [(a, b)]) W3 → SpS s T k hr sb W w1 G J b (b : Int) W3 := by
  obtain ⟨pre, f, h1, h2, h3⟩ := h.list
  cases f with
  | zero => omega
  | succ f =>
    have e1 : spansL s.data.toList T k = pre ++ (a, b) :: goL (farG s.data.toList T) s.size f b (b : Int) := by
      rw [h1]
      show pre ++ (if s.size < a then [] else if farG s.data.toList T a = -1 ∨ (farG s.data.toList T a = a ∧ e = a) then _ else (a, (farG s.data.toList T a).toNat) :: goL (farG s.data.toList T) s.size f (farG s.data.toList T a).toNat (farG s.data.toList T a)) = _
      rw [if_neg (by omega), if_neg (by rw [hb]; exact fun hh => hh.elim (fun h => by omega) (fun h => hne ⟨by omega, h.2⟩)), hb, Int.toNat_natCast]
    refine ⟨pre, h3, ⟨_, e1⟩, fun W3 g1 g2 g3 g4 => ⟨g2.trans h.row, g3.trans h.str, Nat.le_trans h.size g1, by have := h.at_; omega, pre ++ [(a, b)], f, ?_, by have := muL_take s.size a b e ha hab hne; omega, g4⟩⟩
    rw [e1, List.append_assoc]
    rfl
end
set_option maxHeartbeats 8000000 in
set_option maxRecDepth 20000 in
theorem spans1 (tb sb fb b o cap k : Nat) (T : Tr) (ts : List Nd) (s : ByteArray) (W : World) (hts : ts = T.row 0) (hok : T.ok) (hsz : ts.length ≤ 2000) (hs : s.size ≤ 1000000) (hL : Lies (.slice (some ⟨b, o, none⟩) ts.length cap) ts W)
    (htb : W.heap[tb]? = some (.cells #[.slice (some ⟨b, o, none⟩) ts.length cap] 22 (0, 0))) (hsb : W.heap[sb]? = some (.cells #[.string s] 9 (0, 0))) (hfb : W.heap[fb]? = some (.cells #[.int .i64 (k : Int)] 3 (0, 0))) :
    SeqF Try.prog 99 #[.pointer (some ⟨tb, 0, none⟩), .pointer (some ⟨sb, 0, none⟩), .pointer (some ⟨fb, 0, none⟩)] encP (spansL s.data.toList T k) (fun j => j = sb) W := fun l J Jx hJ hJx hY h0 => by
  have hlen : s.data.toList.length = s.size := Array.length_toList
  have k1 := callsIn_wide (n := 0).2 (far_any b o cap T ts s k W hts hok hsz hs hL)
  have ct : W.cell? ⟨tb, 0, none⟩ = some (.slice (some ⟨b, o, none⟩) ts.length cap) := by rw [cell_of_heap htb]; rfl
  have cs : W.cell? ⟨sb, 0, none⟩ = some (.string s) := by rw [cell_of_heap hsb]; rfl
  have cf : W.cell? ⟨fb, 0, none⟩ = some (.int .i64 (k : Int)) := by rw [cell_of_heap hfb]; rfl
  have HY := Lib.hid hY
  have HJ := Lib.hid (And.intro hJ h0)
  have HB := Lib.hid (And.intro hsb (And.intro hfb (And.intro hlen hs)))
  clear hY hJ hJx h0 hts hok hsz hs hL htb hsb hfb hlen
  refine callsIn_of_wp Try.func99 rfl trivial ?_ rfl
  simp only [Try.ntmps99, List.size_toArray, List.length_cons, List.length_nil, Nat.reduceAdd, Nat.reduceSub, Array.replicate_succ, Array.replicate_zero, List.push_toArray, List.append_toArray, List.nil_append, List.cons_append]
  gi_wp2_with (refine ⟨trivial, rfl, ?_⟩; gi_at_call 100; refine (k1).mono ?_; rintro e w1 ⟨hr, G, rfl, hhr, hrow, hfar, hb1⟩
               have cf1 := cell_kept hb1 cf
               have H1 := Lib.hid (And.intro hhr (And.intro hrow (And.intro hfar hb1)))
               clear k1 ct cs cf hhr hrow hfar hb1)
  gi_loopw [6, 7] (fun v6 v7 wr => ∃ (a : Nat) (e : Int), v6 = .int .i64 e ∧ v7 = .int .i64 a ∧ Hid (SpS s T k hr sb W w1 G J a e wr))
    (fun v6 v7 _ => muL s.size (RowKit.intOf v7).toNat (RowKit.intOf v6))
  case atStart =>
    obtain ⟨hhr, hrow, hfar, hb1⟩ := H1.out
    obtain ⟨hsb, hfb, hlen, hs⟩ := HB.out
    refine ⟨k, -1, rfl, rfl, ⟨hrow, (hb1.block _ (block_lt hsb)).trans hsb, Nat.le_refl _, Nat.le_refl _, [], 2 * (s.size + 1 - k) + 2, (by unfold spansL; rw [hlen]; rfl), ?_, ?_⟩⟩
    · unfold muL; split <;> omega
    · exact (HJ.out.1 _).grow (HJ.out.2 _) (grown_of_below hb1 none)
  case round =>
    obtain ⟨a, e, rfl, rfl, HS⟩ := hrel
    have cs : wr.cell? ⟨sb, 0, none⟩ = some (.string s) := by rw [cell_of_heap HS.out.str]; rfl
    obtain ⟨-, -, hlen, hs⟩ := HB.out
    obtain ⟨hhr, -, hfar, hb1⟩ := H1.out
    by_cases hlt : a ≤ s.size
    · have hka := HS.out.at_
      have hG := hfar.eq hka (by rw [hlen]; exact hlt)
      have cg : wr.cell? ⟨hr, a, none⟩ = some (.int .i64 (G a)) := by rw [cell_of_heap HS.out.row]; simpa using intC_get s.size G a hlt
      have a0 : (0 : Int) ≤ (a : Int) := by omega
      have a1 : (a : Int) ≤ (s.size : Int) := by omega
      have a2 : (a : Int) < (s.size : Int) + 1 := by omega
      have aw : IntKind.i64.wrap ((a : Int) + 1) = ((a + 1 : Nat) : Int) := by rw [IntWalk.i64_in _ (by omega)]; omega
      rw [hG] at cg
      rcases farG_cases s.data.toList T a with hc | ⟨b, hc, hab, hbn, -⟩
      · rw [hc] at cg
        have f1 : ((-1 : Int) == (a : Int)) = false := beq_eq_false_iff_ne.2 (by omega)
        have HN := Lib.hid (HS.out.skip hlt (.inl hc))
        have HM := Lib.hid (muL_next s.size a e hlt)
        clear hG hc hfar hlen hs hka hb1 hhr
        gi_wp2
        go_roundw
        case rel => exact ⟨a + 1, e, rfl, by go_num, HN.out⟩
        case measure => simpa [RowKit.intOf] using HM.out
      · rw [hc] at cg
        by_cases hag : b = a ∧ e = a
        · obtain ⟨rfl, rfl⟩ := hag
          have f1 : ((b : Int) == -1) = false := beq_eq_false_iff_ne.2 (by omega)
          have HN := Lib.hid (HS.out.skip hlt (.inr ⟨hc, rfl⟩))
          have HM := Lib.hid (muL_next s.size b (b : Int) hlt)
          clear hG hc hfar hlen hs hka hb1 hhr
          gi_wp2
          go_roundw
          case rel => exact ⟨b + 1, (b : Int), rfl, by go_num, HN.out⟩
          case measure => simpa [RowKit.intOf] using HM.out
        · obtain ⟨pre, hJp, hpre, hnext⟩ := HS.out.take hlt hc hab hag
          have hwz := HS.out.size
          have hw1 := hb1.size
          have hrl := block_lt H1.out.2.1
          obtain ⟨fn, tmps, assign, body, hy, hR⟩ := HY.out (w1.heap.size - W.heap.size) pre (a, b) wr (by omega) hJp hpre
          dsimp only [encP] at hy
          have f1 : ((b : Int) == -1) = false := beq_eq_false_iff_ne.2 (by omega)
          have HN := Lib.hid (And.intro hnext (And.intro (muL_take s.size a b e hlt hab hag) (And.intro hhr (And.intro hw1 hrl))))
          clear hG hc hfar hlen hs hka hb1 hhr hnext hJp hpre hwz hw1 hrl
          by_cases hba : b = a
          · have f2 : ((b : Int) == (a : Int)) = true := by simp; omega
            have f3 : (e == (a : Int)) = false := beq_eq_false_iff_ne.2 (fun h => hag ⟨hba, h⟩)
            clear hba hag
            gi_wp2
            refine ⟨rfl, hR.mono ?_⟩
            clear hy hR
            rintro en W3 ⟨hs3, hk3, ⟨rfl, hJ3⟩ | ⟨rfl, hJx3⟩⟩
            · have HJ3 := Lib.hid (And.intro hs3 (And.intro hk3 hJ3))
              clear hs3 hk3 hJ3
              gi_wp2
              go_roundw
              case rel => exact ⟨b, (b : Int), rfl, rfl, HN.out.1 W3 HJ3.out.1 (HJ3.out.2.1 hr (.inr (by have := HN.out.2.2; omega))) (HJ3.out.2.1 sb (.inl rfl)) HJ3.out.2.2⟩
              case measure => simpa [RowKit.intOf] using HN.out.2.1
            · have HX := Lib.hid hJx3
              clear hJx3
              gi_wp2
              refine bodyPost_ret (results_none rfl _ _ _) rfl ?_
              exact ⟨⟨_, rfl⟩, _, .inr ⟨_, HX.out⟩⟩
          · have f2 : ((b : Int) == (a : Int)) = false := beq_eq_false_iff_ne.2 (by omega)
            clear hba hag
            gi_wp2
            refine ⟨rfl, hR.mono ?_⟩
            clear hy hR
            rintro en W3 ⟨hs3, hk3, ⟨rfl, hJ3⟩ | ⟨rfl, hJx3⟩⟩
            · have HJ3 := Lib.hid (And.intro hs3 (And.intro hk3 hJ3))
              clear hs3 hk3 hJ3
              gi_wp2
              go_roundw
              case rel => exact ⟨b, (b : Int), rfl, rfl, HN.out.1 W3 HJ3.out.1 (HJ3.out.2.1 hr (.inr (by have := HN.out.2.2; omega))) (HJ3.out.2.1 sb (.inl rfl)) HJ3.out.2.2⟩
              case measure => simpa [RowKit.intOf] using HN.out.2.1
            · have HX := Lib.hid hJx3
              clear hJx3
              gi_wp2
              refine bodyPost_ret (results_none rfl _ _ _) rfl ?_
              exact ⟨⟨_, rfl⟩, _, .inr ⟨_, HX.out⟩⟩
    · gi_wp2
      go_end0
      exact ⟨⟨_, rfl⟩, _, .inl (HS.out.done (by omega))⟩
end Go.Proofs.Ytgffmbdbjbhocaa
