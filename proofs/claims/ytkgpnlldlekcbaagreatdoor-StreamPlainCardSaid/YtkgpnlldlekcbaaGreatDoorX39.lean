/- Packed texts: StOpen. What each of them proves stands above its theorems; the conditions stand in these. -/
import Derived.Test.YtkgpnlldlekcbaaGreatDoorX17
namespace Go.Proofs.YtkgpnlldlekcbaaGreatDoor
open Go.ChangeShapes Go.WideShapes Go.ChangeAt Go.RowKit Go.Deep Go.Lib
attribute [local go_sem] Oper.semAt_some

theorem weightsAll_mem {H : Type} {P : Program} {e : TypeId} {x : DataW H} {n : Nat} (hn : n ∈ DataW.weights P e x) : ∀ (l : List (DataW H)), x ∈ l → n ∈ DataW.weightsAll P e l
  | [], h => by cases h
  | y :: l, h => by
    simp only [DataW.weightsAll, List.mem_append]
    rcases List.mem_cons.1 h with rfl | h
    · exact .inl hn
    · exact .inr (weightsAll_mem hn l h)
theorem bytesStr : Tryz.prog.bytesOf 9 = 16 := by kernel_rfl
set_option maxRecDepth 20000 in
theorem open_reach {H : Type} {enc : TypeId × Value → H} {W : World} {base : Nat} {v : Value} {d : DataW H} {p : List MemPlace} (hv : Value.okWide Tryz.prog W .any base 22 v) (h : DataW.Trod enc Tryz.prog W 0 (fun _ => true) true 22 v d p)
    (hz : ∀ n ∈ DataW.weights Tryz.prog 22 d, n ≤ reachBytes) :
    ∃ (ao : Option Addr) (cap : Nat) (xs : List ByteArray), v = .slice ao xs.length cap ∧ Strs v xs W ∧ xs.length ≤ 8796093022000 ∧ ∀ x ∈ xs, x.size ≤ 140737488355328 := by
  obtain ⟨ao, N, cap, rfl⟩ : ∃ ao N cap, v = .slice ao N cap := by
    cases v <;> first | exact ⟨_, _, _, rfl⟩ | (exfalso; simp [Value.okWide, Cell.okWide, Cell.ok, Tryz.underlying22] at hv)
  obtain ⟨fuel, hf⟩ := h
  have hf : DataW.trod enc Tryz.prog W 0 (fun _ => true) true fuel 22 [.slice ao N cap] = some (d, p) := hf
  rcases open_strs Tryz.underlying22 Tryz.underlying9 cellsStr hf with ⟨h1, h2⟩ | ⟨a, len, cap', m, Sx, h1, _, hl, hm, hmm, h2, hx⟩
  · obtain ⟨rfl, rfl, rfl⟩ : ao = none ∧ N = 0 ∧ cap = 0 := by simpa using h1
    exact ⟨none, 0, [], rfl, Strs.nil W, Nat.zero_le _, fun x hx => by cases hx⟩
  · obtain ⟨rfl, rfl, rfl⟩ : ao = some a ∧ N = len ∧ cap = cap' := by simpa using h1
    have hd : d = .slice ((List.range N).map fun i => .lit (.string (Sx i).data.toList)) ((List.range (m - N)).map fun j => .lit (.string (Sx (N + j)).data.toList)) := (Prod.mk.inj h2).1
    rw [if_pos rfl] at hmm
    have hr : reachBytes = 140737488351232 := by decide
    have hN : N ≤ 8796093022000 := by
      have := hz ((((List.range N).map fun i => DataW.lit (H := H) (.string (Sx i).data.toList)).length + ((List.range (m - N)).map fun j => DataW.lit (H := H) (.string (Sx (N + j)).data.toList)).length) * Tryz.prog.bytesOf 9) (by rw [hd]; simp [DataW.weights, Tryz.underlying22])
      rw [bytesStr, hr, List.length_map, List.length_range, List.length_map, List.length_range] at this
      omega
    have hS : ∀ i, i < N → (Sx i).size ≤ 140737488355328 := fun i hi => by
      have h1 : (Sx i).data.toList.length ∈ DataW.weights Tryz.prog 22 d := by
        rw [hd]
        simp only [DataW.weights, Tryz.underlying22, List.mem_cons, List.mem_append]
        refine .inr (.inl (weightsAll_mem (x := .lit (.string (Sx i).data.toList)) (by simp [DataW.weights]) _ (List.mem_map.2 ⟨i, List.mem_range.2 hi, rfl⟩)))
      have h2 := hz _ h1
      have h3 : (Sx i).data.toList.length = (Sx i).size := Array.length_toList
      rw [hr, h3] at h2
      omega
    refine ⟨some a, cap, (List.range N).map Sx, by simp, ⟨some a, cap, by simp, by simpa using hl, by simp; omega, fun j x hj => ?_⟩, by simpa using hN, fun x hxm => ?_⟩
    · have hjN : j < N := by
        by_cases h : j < N
        · exact h
        · rw [List.getElem?_eq_none (by simp; omega)] at hj; cases hj
      have hq : Sx j = x := by simpa [hjN] using hj
      have hc := (hx j (by omega)).1
      have hc0 := (hx 0 (by omega)).1
      rw [hq] at hc
      obtain ⟨ab, aoff, asp⟩ := a
      have hsp : asp = none := by
        have e : (⟨ab, aoff, asp⟩ : Addr).add 0 = ⟨ab, aoff, asp⟩ := rfl
        rw [e] at hc0
        exact (cell_plain hc0).1
      subst hsp
      have ea : (⟨ab, aoff, none⟩ : Addr).add j = ⟨ab, aoff + j, none⟩ := by
        unfold Addr.add
        by_cases h2 : j = 0 <;> simp [h2]
      rw [ea] at hc
      exact ⟨ab, aoff, rfl, (cell_plain hc).2, hc⟩
    · obtain ⟨i, hi, rfl⟩ := List.mem_map.1 hxm
      exact hS i (List.mem_range.1 hi)
/-- What the document's own count comes to: it may come round. -/
def zzL (xs : List ByteArray) : Nat → Int
  | 0 => (xs.length : Int)
  | k + 1 => wrap64 (zzL xs k + ((xs.getD k ⟨#[]⟩).size : Int))
set_option maxHeartbeats 2000000 in
set_option maxRecDepth 20000 in
theorem refLong_zz (ao : Option Addr) (N cap : Nat) (xs : List ByteArray) (w : World) (h : Strs (.slice ao N cap) xs w) :
    Calls Tryz.prog 15 #[.slice ao N cap] w fun e w' => e = .returned (.int .i64 (zzL xs N)) ∧ w = w' := by
  have hN := h.len.1
  have hN2 := h.len.2.2
  have h0 : zzL xs 0 = (N : Int) := by rw [hN]; rfl
  have hs : ∀ k x, xs[k]? = some x → zzL xs (k + 1) = wrap64 (zzL xs k + (x.size : Int)) := fun k x hk => by
    show wrap64 (zzL xs k + ((xs.getD k ⟨#[]⟩).size : Int)) = _
    rw [List.getD_eq_getElem?_getD, hk]
    rfl
  have H := Lib.hid (And.intro h (And.intro hN (And.intro h0 hs)))
  clear h hN h0 hs
  go_enter Tryz.func15, Tryz.ntmps15
  go_wp2
  go_loop [3, 4] (fun s i => ∃ (k : Nat) (v : Int), k ≤ N ∧ s = .int .i64 v ∧ i = .int .i64 k ∧ Hid (v = zzL xs k)) (fun _ i => N - (RowKit.intOf i).toNat)
  case atStart => exact ⟨0, _, by omega, rfl, rfl, H.out.2.2.1.symm⟩
  case round =>
    obtain ⟨k, v, hk, rfl, rfl, HV⟩ := hrel
    by_cases hlt : k < N
    · have hT : (k : Int) < (N : Int) := by omega
      obtain ⟨x, hx⟩ : ∃ x, xs[k]? = some x := ⟨xs[k]'(by have := H.out.2.1; omega), List.getElem?_eq_getElem _⟩
      obtain ⟨b, o, rfl, _, cx⟩ := H.out.1.at hx
      have e := H.out.2.2.2 k x hx
      have HE := Lib.hid e
      clear hx e
      go_wp2
      go_round
      case rel => exact ⟨k + 1, _, by omega, rfl, by go_num, by show _ = _; rw [HE.out, ← HV.out]⟩
      case measure => simp [RowKit.intOf]; omega
    · obtain rfl : k = N := by omega
      go_wp2
      go_ret
      exact ⟨by rw [HV.out]; rfl, rfl⟩
end Go.Proofs.YtkgpnlldlekcbaaGreatDoor
