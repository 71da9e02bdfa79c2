/- The document's Same, walked. Condition: both rows can be read. -/
import Derived.Test.YtgokkdalfkinnaaReSame
namespace Go.Proofs.Ytgokkdalfkinnaa
open Go.RowKit Go.Lib

theorem lies_none {ao : Option Addr} {N cap : Nat} {ts : List Nd} {w : World} (h : Lies (.slice ao N cap) ts w) : N = ts.length ∧ ts.length ≤ 140737488355328 := by
  obtain ⟨_, _, h1, h2, _⟩ := h
  cases h1
  exact ⟨rfl, h2⟩
set_option maxHeartbeats 2000000 in
set_option maxRecDepth 20000 in
theorem same_len (ao bo : Option Addr) (N M cap cap2 : Nat) (w : World) (hN : N ≤ 140737488355328) (hM : M ≤ 140737488355328) (h : N ≠ M) :
    Calls Try.prog 12 #[.slice ao N cap, .slice bo M cap2] w fun e w' => e = .returned (.bool false) ∧ Below w.heap.size w w' := by
  have h1 : ((N : Int) != (M : Int)) = true := by simp; omega
  go_enter Try.func12, Try.ntmps12
  go_wp2
  exact bodyPost_ret (results_tmp rfl _ _ _) rfl ⟨rfl, Below.refl _ _⟩
set_option maxHeartbeats 2000000 in
set_option maxRecDepth 20000 in
theorem same_walk (ao bo : Option Addr) (N cap cap2 : Nat) (xs ys : List Nd) (w : World) (h : Lies (.slice ao N cap) xs w) (h2 : Lies (.slice bo N cap2) ys w) :
    Calls Try.prog 12 #[.slice ao N cap, .slice bo N cap2] w fun e w' => e = .returned (.bool (decide (xs = ys))) ∧ Below w.heap.size w w' := by
  obtain ⟨hN, hNl⟩ := lies_none h
  obtain ⟨hM, _⟩ := lies_none h2
  have H := Lib.hid h
  have H2 := Lib.hid h2
  have hNl : N ≤ 140737488355328 := by omega
  have HN := Lib.hid (And.intro hN hM)
  have h1 : ((N : Int) != (N : Int)) = false := by simp
  clear h h2 hN hM
  go_enter Try.func12, Try.ntmps12
  go_wp2
  go_loopg [5] (N + 1) (fun k i wr => ∃ (j : Nat), i = .int .i64 j ∧ j ≤ N ∧ Hid (k = N + 1 - j) ∧ Hid (∀ q, q < j → xs[q]? = ys[q]?) ∧ Hid (Below w.heap.size w wr))
  case atStart => exact ⟨0, rfl, by omega, rfl, fun q hq => by omega, Below.refl _ _⟩
  case round =>
    obtain ⟨j, rfl, hj, HK, HS, HB⟩ := hrel
    by_cases hlt : j < N
    · obtain ⟨m, hm⟩ : ∃ n, xs[j]? = some n := ⟨xs[j]'(by have := HN.out.1; omega), List.getElem?_eq_getElem _⟩
      obtain ⟨n, hn⟩ : ∃ n, ys[j]? = some n := ⟨ys[j]'(by have := HN.out.2; omega), List.getElem?_eq_getElem _⟩
      obtain ⟨b, o, rfl, hb, ha⟩ := H.out.at hm
      obtain ⟨b2, o2, rfl, hb2, ha2⟩ := H2.out.at hn
      obtain ⟨a0, a1, a2, a3, a4, a5, a6⟩ := ha.below HB.out hb
      obtain ⟨c0, c1, c2, c3, c4, c5, c6⟩ := ha2.below HB.out hb2
      have hI : IntKind.i64.wrap ((j : Int) + 1) = ((j + 1 : Nat) : Int) := by rw [IntWalk.i64_in _ (by omega)]; omega
      have e := run_neq_node m n
      obtain ⟨q, hq⟩ : ∃ q, ndEq m n = q := ⟨_, rfl⟩
      rw [hq] at e
      unfold Nd.val wd at e
      unfold wd at a1 a2 a3 a4 c1 c2 c3 c4
      have HQ := Lib.hid (And.intro hq (And.intro hm hn))
      clear hq hm hn ha ha2
      cases q
      · have hne : xs ≠ ys := fun e => by
          have h1 := HQ.out.2.1
          rw [e, HQ.out.2.2] at h1
          have h2 := HQ.out.1
          rw [(ndEq_iff m n).2 (Option.some.inj h1).symm] at h2
          cases h2
        have HD := Lib.hid (decide_eq_false hne)
        clear hne
        go_wp2_with fail
        go_region
        all_goals
          go_wp2
          exact bodyPost_ret (results_tmp rfl _ _ _) rfl ⟨by rw [HD.out]; rfl, HB.out.drew⟩
      · go_wp2_with fail
        go_region
        all_goals
          go_wp2
          go_roundg (N - j)
          case rel => exact ⟨j + 1, by go_num, by omega, by show _ = _; omega, fun q hq => by
            by_cases hqj : q = j
            · rw [hqj, HQ.out.2.1, HQ.out.2.2, (ndEq_iff m n).1 HQ.out.1]
            · exact HS.out q (by omega), HB.out.drew⟩
          case measure => have := HK.out; omega
    · have hd : decide ((j : Int) < (N : Int)) = false := by simp; omega
      have heq : xs = ys := by
        apply List.ext_getElem?
        intro q
        by_cases hq : q < j
        · exact HS.out q hq
        · rw [List.getElem?_eq_none (by have := HN.out.1; omega), List.getElem?_eq_none (by have := HN.out.2; omega)]
      have HD := Lib.hid (decide_eq_true heq)
      clear heq
      go_wp2
      exact bodyPost_ret (results_tmp rfl _ _ _) rfl ⟨by rw [HD.out]; rfl, HB.out⟩
/-- The document's Same. -/
theorem same_any (u v : Value) (xs ys : List Nd) (w : World) (h : Lies u xs w) (h2 : Lies v ys w) :
    Calls Try.prog 12 #[u, v] w fun e w' => e = .returned (.bool (decide (xs = ys))) ∧ Below w.heap.size w w' := by
  have h' := h
  have h2' := h2
  obtain ⟨ao, cap, rfl, hl, _⟩ := h
  obtain ⟨bo, cap2, rfl, hl2, _⟩ := h2
  by_cases hN : xs.length = ys.length
  · rw [← hN] at h2' ⊢
    exact same_walk ao bo xs.length cap cap2 xs ys w h' h2'
  · have hD : decide (xs = ys) = false := decide_eq_false fun e => hN (by rw [e])
    rw [hD]
    exact same_len ao bo _ _ cap cap2 w hl hl2 hN
end Go.Proofs.Ytgokkdalfkinnaa
