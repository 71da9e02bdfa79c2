/- Packed texts: SuPut. What each of them proves stands above its theorems; the conditions stand in these. -/
import Derived.Test.YtkgpnlldlekcbaaGreatDoorX14
namespace Go.Proofs.YtkgpnlldlekcbaaGreatDoor
open Go.RowKit Go.Lib

theorem ba_ext {a b : ByteArray} (h : a.data.toList = b.data.toList) : a = b := by
  cases a; cases b
  simp at h
  subst h
  rfl
/-- How many bytes texts have, and how many there are. -/
def longN (xs : List ByteArray) : Nat := xs.length + (xs.map (·.size)).sum
set_option maxHeartbeats 2000000 in
set_option maxRecDepth 20000 in
theorem refLong_walk (ao : Option Addr) (N cap M : Nat) (xs : List ByteArray) (A : Nat → Nat) (w : World) (h : Strs (.slice ao N cap) xs w) (hM : M ≤ 9223372036854775807) (hA : ∀ k, k ≤ N → A k ≤ M) (h0 : A 0 = N)
    (h2 : ∀ k x, xs[k]? = some x → A (k + 1) = A k + x.size) :
    Calls Tryz.prog 15 #[.slice ao N cap] w fun e w' => e = .returned (.int .i64 (A N : Nat)) ∧ w = w' := by
  obtain ⟨hN, _, hN2⟩ := h.len
  have H := Lib.hid (And.intro h (And.intro hA (And.intro h0 (And.intro h2 hN))))
  clear h hA h0 h2 hN
  go_enter Tryz.func15, Tryz.ntmps15
  go_wp2
  go_loop [3, 4] (fun s i => ∃ k : Nat, k ≤ N ∧ s = .int .i64 (A k : Nat) ∧ i = .int .i64 k) (fun _ i => N - (RowKit.intOf i).toNat)
  case atStart => exact ⟨0, by omega, by rw [H.out.2.2.1], rfl⟩
  case round =>
    obtain ⟨k, hk, rfl, rfl⟩ := hrel
    by_cases hlt : k < N
    · have hT : (k : Int) < (N : Int) := by omega
      obtain ⟨x, hx⟩ : ∃ x, xs[k]? = some x := ⟨xs[k]'(by have := H.out.2.2.2.2; omega), List.getElem?_eq_getElem _⟩
      obtain ⟨b, o, rfl, _, cx⟩ := H.out.1.at hx
      have s1 := H.out.2.1 k (by omega)
      have s2 := H.out.2.1 (k + 1) (by omega)
      have e := H.out.2.2.2.1 k x hx
      have s3 : A k + x.size ≤ M := by omega
      have HE := Lib.hid e
      clear e hx s2
      obtain ⟨a, ha⟩ : ∃ a, a = A k := ⟨_, rfl⟩
      rw [← ha] at HE s1 s3 ⊢
      clear ha
      go_wp2
      go_round
      case rel => exact ⟨k + 1, by omega, by rw [HE.out]; go_num, by go_num⟩
      case measure => simp [RowKit.intOf]; omega
    · obtain rfl : k = N := by omega
      go_wp2
      go_ret
      exact ⟨rfl, rfl⟩
theorem long_take {xs : List ByteArray} {k : Nat} {x : ByteArray} (h : xs[k]? = some x) : ((xs.take (k + 1)).map (·.size)).sum = ((xs.take k).map (·.size)).sum + x.size := by
  rw [List.take_add_one, h]
  simp
theorem long_le (xs : List ByteArray) : ∀ k, ((xs.take k).map (·.size)).sum ≤ (xs.map (·.size)).sum := by
  induction xs with
  | nil => simp
  | cons y r ih =>
    intro k
    cases k with
    | zero => simp
    | succ k => have := ih k; rw [List.take_succ_cons, List.map_cons, List.map_cons, List.sum_cons, List.sum_cons]; omega
/-- How many bytes texts have, and how many there are. -/
theorem refLong_any (v : Value) (xs : List ByteArray) (w : World) (h : Strs v xs w) (hl : longN xs ≤ 9223372036854775807) :
    Calls Tryz.prog 15 #[v] w fun e w' => e = .returned (.int .i64 (longN xs : Nat)) ∧ w = w' := by
  have h' := h
  obtain ⟨ao, cap, rfl, _⟩ := h
  have := refLong_walk ao xs.length cap (longN xs) xs (fun k => xs.length + ((xs.take k).map (·.size)).sum) w h' hl (fun k _ => by have := long_le xs k; unfold longN; omega) rfl (fun k x hx => by rw [long_take hx]; omega)
  rwa [List.take_of_length_le (Nat.le_refl _)] at this
theorem ba_eq (x y : ByteArray) : (x.toList == y.toList) = true ↔ x = y := by
  rw [beq_iff_eq, ByteArray.toList_eq, ByteArray.toList_eq]
  constructor
  · exact ba_ext
  · intro h; rw [h]
set_option maxHeartbeats 2000000 in
set_option maxRecDepth 20000 in
theorem refSameS_len (ao bo : Option Addr) (N M cap cap2 : Nat) (w : World) (_hN : N ≤ 140737488355328) (_hM : M ≤ 140737488355328) (h : N ≠ M) :
    Calls Tryz.prog 14 #[.slice ao N cap, .slice bo M cap2] w fun e w' => e = .returned (.bool false) ∧ Below w.heap.size w w' := by
  have h1 : ((N : Int) != (M : Int)) = true := by simp; omega
  go_enter Tryz.func14, Tryz.ntmps14
  go_wp2
  exact bodyPost_ret (results_tmp rfl _ _ _) rfl ⟨rfl, Below.refl _ _⟩
set_option maxHeartbeats 2000000 in
set_option maxRecDepth 20000 in
theorem refSameS_walk (ao bo : Option Addr) (N cap cap2 : Nat) (xs ys : List ByteArray) (w : World) (h : Strs (.slice ao N cap) xs w) (h2 : Strs (.slice bo N cap2) ys w) :
    Calls Tryz.prog 14 #[.slice ao N cap, .slice bo N cap2] w fun e w' => e = .returned (.bool (decide (xs = ys))) ∧ Below w.heap.size w w' := by
  obtain ⟨hN, _, hN2⟩ := h.len
  obtain ⟨hM, _, _⟩ := h2.len
  have H := Lib.hid h
  have H2 := Lib.hid h2
  have HN := Lib.hid (And.intro hN hM)
  have h1 : ((N : Int) != (N : Int)) = false := by simp
  clear h h2 hN hM
  go_enter Tryz.func14, Tryz.ntmps14
  go_wp2
  go_loopg [5] (N + 1) (fun k i wr => ∃ (j : Nat), i = .int .i64 j ∧ j ≤ N ∧ Hid (k = N + 1 - j) ∧ Hid (∀ q, q < j → xs[q]? = ys[q]?) ∧ Hid (Below w.heap.size w wr))
  case atStart => exact ⟨0, rfl, by omega, rfl, fun q hq => by omega, Below.refl _ _⟩
  case round =>
    obtain ⟨j, rfl, hj, HK, HS, HB⟩ := hrel
    by_cases hlt : j < N
    · obtain ⟨m, hm⟩ : ∃ n, xs[j]? = some n := ⟨xs[j]'(by have := HN.out.1; omega), List.getElem?_eq_getElem _⟩
      obtain ⟨n, hn⟩ : ∃ n, ys[j]? = some n := ⟨ys[j]'(by have := HN.out.2; omega), List.getElem?_eq_getElem _⟩
      obtain ⟨b, o, rfl, hb, ca⟩ := (H.out.below HB.out).at hm
      obtain ⟨b2, o2, rfl, hb2, cb⟩ := (H2.out.below HB.out).at hn
      have hI : IntKind.i64.wrap ((j : Int) + 1) = ((j + 1 : Nat) : Int) := by rw [IntWalk.i64_in _ (by omega)]; omega
      obtain ⟨q, hq⟩ : ∃ q, (m.toList == n.toList) = q := ⟨_, rfl⟩
      have HQ := Lib.hid (And.intro hq (And.intro hm hn))
      clear hm hn
      cases q
      · have hne : xs ≠ ys := fun e => by
          have h1 := HQ.out.2.1
          rw [e, HQ.out.2.2] at h1
          have e : n = m := Option.some.inj h1
          have h2 := HQ.out.1
          rw [(ba_eq m n).2 e.symm] at h2
          cases h2
        have HD := Lib.hid (decide_eq_false hne)
        clear hne
        go_wp2_with fail
        go_region
        all_goals
          go_wp2
          exact bodyPost_ret (results_tmp rfl _ _ _) rfl ⟨by rw [HD.out]; rfl, HB.out.drew⟩
      · have e : m = n := (ba_eq m n).1 hq
        have HE := Lib.hid e
        clear e
        go_wp2_with fail
        go_region
        all_goals
          go_wp2
          go_roundg (N - j)
          case rel => exact ⟨j + 1, by go_num, by omega, by show _ = _; omega, fun q hq => by
            by_cases hqj : q = j
            · rw [hqj, HQ.out.2.1, HQ.out.2.2, HE.out]
            · exact HS.out q (by omega), HB.out.drew⟩
          case measure => have := HK.out; omega
    · have hd : decide ((j : Int) < (N : Int)) = false := by simp; omega
      have heq : xs = ys := by
        apply List.ext_getElem?
        intro q
        by_cases hq : q < j
        · exact HS.out q hq
        · rw [List.getElem?_eq_none (by have := HN.out.1; omega), List.getElem?_eq_none (by have := HN.out.2; omega)]
      have HD := Lib.hid (decide_eq_true heq)
      clear heq
      go_wp2
      exact bodyPost_ret (results_tmp rfl _ _ _) rfl ⟨by rw [HD.out]; rfl, HB.out⟩
/-- The document's Same, of rows of texts. -/
theorem refSameS_any (u v : Value) (xs ys : List ByteArray) (w : World) (h : Strs u xs w) (h2 : Strs v ys w) :
    Calls Tryz.prog 14 #[u, v] w fun e w' => e = .returned (.bool (decide (xs = ys))) ∧ Below w.heap.size w w' := by
  have h' := h
  have h2' := h2
  obtain ⟨ao, cap, rfl, _, hl, _⟩ := h
  obtain ⟨bo, cap2, rfl, _, hl2, _⟩ := h2
  by_cases hN : xs.length = ys.length
  · rw [← hN] at h2' ⊢
    exact refSameS_walk ao bo xs.length cap cap2 xs ys w h' h2'
  · have hD : decide (xs = ys) = false := decide_eq_false fun e => hN (by rw [e])
    rw [hD]
    exact refSameS_len ao bo _ _ cap cap2 w hl hl2 hN
end Go.Proofs.YtkgpnlldlekcbaaGreatDoor
