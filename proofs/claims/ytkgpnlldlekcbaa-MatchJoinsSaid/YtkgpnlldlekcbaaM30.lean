/- Packed texts: MbFew, MaStars, MaMarks, MaInts, MaTwoRows, MaJoins. What each of them proves stands above its theorems; the conditions stand in these. -/
import Derived.BigQuiet
import Derived.Deep.LoopGhost
import Derived.Deep.QuietTactic
import Derived.Laws.AppendOwnNone
import Derived.Lib.Hide
import Derived.Lib.Join
import Derived.Test.YtkgpnlldlekcbaaShelf
import Derived.Test.YtkgpnlldlekcbaaM9
import Derived.Test.YtkgpnlldlekcbaaM17
import Derived.Test.YtkgpnlldlekcbaaM21
import Derived.Test.YtkgpnlldlekcbaaM22
import Derived.Test.YtkgpnlldlekcbaaM23
import Derived.Test.YtkgpnlldlekcbaaM24
import Derived.Test.YtkgpnlldlekcbaaM25
import Derived.Test.YtkgpnlldlekcbaaM29
namespace Go.Proofs.Ytkgpnlldlekcbaa
open Go.RowKit Go.Lib

set_option maxHeartbeats 1000000 in
set_option maxRecDepth 20000 in
theorem few06_walk (ao : Option Addr) (N cap : Nat) (s : ByteArray) (q : Bool) (w : World) (hN : N ≤ 60) (hs : s.size ≤ 30) (k : ∀ w', w = w' → Calls Try.prog 6 #[.slice ao N cap] w' fun e w'' => e = .returned (.bool q) ∧ Below w'.heap.size w' w'') :
    Calls Try.prog 16 #[.slice ao N cap, .string s] w fun e w' => e = .returned (.bool q) ∧ Below w.heap.size w w' := by
  have k := k w rfl
  have h1 : decide ((N : Int) ≤ 60) = true := by simp; omega
  have h2 : decide ((s.size : Int) ≤ 30) = true := by simp; omega
  go_enter Try.func16, Try.ntmps16
  go_wp2_with (first
    | (go_at_call 6; refine k.mono ?_; rintro e w1 ⟨rfl, hb1⟩)
    | fail)
  exact bodyPost_ret (results_tmp rfl _ _ _) rfl ⟨by cases q <;> rfl, hb1⟩
set_option maxHeartbeats 1000000 in
set_option maxRecDepth 20000 in
theorem few06_no (ao : Option Addr) (N cap : Nat) (s : ByteArray) (w : World) (h : ¬ N ≤ 60 ∨ (N ≤ 60 ∧ ¬ s.size ≤ 30)) :
    Calls Try.prog 16 #[.slice ao N cap, .string s] w fun e w' => e = .returned (.bool false) ∧ Below w.heap.size w w' := by
  rcases h with h | ⟨h, h2⟩
  · have h1 : decide ((N : Int) ≤ 60) = false := by simp; omega
    go_enter Try.func16, Try.ntmps16
    go_wp2
    exact bodyPost_ret (results_tmp rfl _ _ _) rfl ⟨rfl, Below.refl _ _⟩
  · have h1 : decide ((N : Int) ≤ 60) = true := by simp; omega
    have h3 : decide ((s.size : Int) ≤ 30) = false := by simp; omega
    go_enter Try.func16, Try.ntmps16
    go_wp2
    exact bodyPost_ret (results_tmp rfl _ _ _) rfl ⟨rfl, Below.refl _ _⟩
/-- Whether an argument is right, and short. -/
theorem few06_any (ao : Option Addr) (cap : Nat) (ts : List Nd) (s : ByteArray) (w0 : World) (hL : ts.length ≤ 140737488355328 → Lies (.slice ao ts.length cap) ts w0) : ∃ q : Bool, (q = true → ts.length ≤ 60 ∧ s.size ≤ 30 ∧ Lies (.slice ao ts.length cap) ts w0 ∧ ∃ T : Tr, T.ok ∧ ts = T.row 0) ∧
    ∀ w, Below w0.heap.size w0 w → Calls Try.prog 16 #[.slice ao ts.length cap, .string s] w fun e w' => e = .returned (.bool q) ∧ Below w.heap.size w w' := by
  by_cases hN : ts.length ≤ 60
  · by_cases hs : s.size ≤ 30
    · have hL := hL (by omega)
      obtain ⟨q, h1, h2⟩ := refRight_any _ ts w0 (by omega) hL
      exact ⟨q, fun hq => ⟨hN, hs, hL, (h1 hq).imp fun T h => ⟨h.1, h.2.1⟩⟩, fun w hb => few06_walk ao _ cap s q w hN hs fun w' e => by subst e; exact h2 w (hL.below hb)⟩
    · exact ⟨false, fun h => (by cases h), fun w _ => few06_no ao _ cap s w (.inr ⟨hN, hs⟩)⟩
  · exact ⟨false, fun h => (by cases h), fun w _ => few06_no ao _ cap s w (.inl hN)⟩
end Go.Proofs.Ytkgpnlldlekcbaa
namespace Go.Proofs.Ytkgpnlldlekcbaa
open Go.RowKit Go.Lib

theorem mem_ends {s : List UInt8} {T : Tr} {a b : Nat} (ha : a ≤ s.length) : b ∈ endsL s T (a : Int) ↔ b ≤ s.length ∧ St s T a b := by
  unfold endsL
  rw [if_neg (by omega), List.mem_filter, List.mem_range]
  refine (and_congr Iff.rfl (@decide_eq_true_iff _ (Classical.propDecidable _))).trans ?_
  show b < s.length + 1 ∧ St s T a b ↔ _
  rw [Nat.lt_succ_iff]
end Go.Proofs.Ytkgpnlldlekcbaa
namespace Go.Proofs.Ytkgpnlldlekcbaa
open Go.RowKit Go.Lib

/-- A row of n marks: made are those of A. -/
def BoX (A : List Nat) (n g : Nat) (W : World) : Prop := ∃ cs : Array Value, W.heap[g]? = some (.cells cs 4 (0, 0)) ∧ cs.size = n ∧ ∀ e, e < n → cs[e]? = some (.bool (decide (e ∈ A)))
theorem BoX.start (n : Nat) (W : World) : BoX [] n W.heap.size (W.alloc (.cells (madeCells #[.bool false] n) 4)) := ⟨_, heap_alloc_new W _, size_madeCells _ _, fun e h => by simp [madeCells, h, Nat.mod_one]⟩
theorem BoX.kept {A : List Nat} {n g : Nat} {W W' : World} (h : BoX A n g W) (hk : W'.heap[g]? = W.heap[g]?) : BoX A n g W' := by
  obtain ⟨cs, h1, h2⟩ := h
  exact ⟨cs, hk.trans h1, h2⟩
theorem BoX.below {A : List Nat} {n g : Nat} {W W' : World} (h : BoX A n g W) (hb : Below W.heap.size W W') : BoX A n g W' := by
  obtain ⟨cs, h1, h2⟩ := h
  exact ⟨cs, (hb.block _ (block_lt h1)).trans h1, h2⟩
theorem BoX.at {A : List Nat} {n g : Nat} {W : World} (h : BoX A n g W) {e : Nat} (he : e < n) : W.cell? ⟨g, e, none⟩ = some (.bool (decide (e ∈ A))) ∧ W.frozen? ⟨g, e, none⟩ = false := by
  obtain ⟨cs, h1, h2, h3⟩ := h
  refine ⟨?_, frozen_of_heap h1 e⟩
  rw [cell_of_heap h1]
  exact h3 e he
theorem BoX.put {A : List Nat} {n g : Nat} {W : World} (h : BoX A n g W) {e : Nat} (he : e < n) : BoX (A ++ [e]) n g (W.setCell ⟨g, e, none⟩ (.bool true)) := by
  obtain ⟨cs, h1, h2, h3⟩ := h
  refine ⟨_, Go.Lib.heap_setCell_same (i := e) h1 _, by simp [h2], fun x hx => ?_⟩
  by_cases c : x = e
  · subst c
    simp [h2, he]
  · rw [Array.getElem?_setIfInBounds_ne (by omega), h3 x hx]
    have : (x ∈ A ++ [e]) ↔ x ∈ A := by simp [c]
    simp [this]
theorem BoX.other {A : List Nat} {n g : Nat} {W : World} (h : BoX A n g W) {a : Addr} {v : Value} (ha : a.block ≠ g) : BoX A n g (W.setCell a v) := h.kept (Below.heap_setCell _ _ _ _ (fun e => ha e.symm))
end Go.Proofs.Ytkgpnlldlekcbaa
namespace Go.Proofs.Ytkgpnlldlekcbaa
open Go.RowKit Go.Lib

/-- A row of places that can be read. -/
def Nats (v : Value) (xs : List Nat) (w : World) : Prop :=
  ∃ ao cap, v = .slice ao xs.length cap ∧ xs.length ≤ cap ∧ xs.length ≤ 140737488355328 ∧ ∀ (j : Nat) (x : Nat), xs[j]? = some x → ∃ b o, ao = some ⟨b, o, none⟩ ∧ b < w.heap.size ∧ w.cell? ⟨b, o + j, none⟩ = some (.int .i64 (x : Int))
theorem Nats.below {v : Value} {xs : List Nat} {w w' : World} (h : Nats v xs w) (hb : Below w.heap.size w w') : Nats v xs w' := by
  obtain ⟨ao, cap, h1, hc, hl, h2⟩ := h
  refine ⟨ao, cap, h1, hc, hl, fun j x hj => ?_⟩
  obtain ⟨b, o, h3, h4, h5⟩ := h2 j x hj
  refine ⟨b, o, h3, Nat.lt_of_lt_of_le h4 hb.size, ?_⟩
  rw [← h5]
  unfold World.cell?
  rw [hb.block b h4]
theorem Nats.len {ao : Option Addr} {N cap : Nat} {xs : List Nat} {w : World} (h : Nats (.slice ao N cap) xs w) : N = xs.length ∧ N ≤ cap ∧ N ≤ 140737488355328 := by
  obtain ⟨_, _, h1, h2, h3, _⟩ := h
  cases h1
  exact ⟨rfl, h2, h3⟩
theorem Nats.at {ao : Option Addr} {N cap : Nat} {xs : List Nat} {w : World} (h : Nats (.slice ao N cap) xs w) {j : Nat} {x : Nat} (hj : xs[j]? = some x) : ∃ b o, ao = some ⟨b, o, none⟩ ∧ b < w.heap.size ∧ w.cell? ⟨b, o + j, none⟩ = some (.int .i64 (x : Int)) := by
  obtain ⟨_, _, h1, _, _, h2⟩ := h
  cases h1
  exact h2 j x hj
set_option maxHeartbeats 2000000 in
set_option maxRecDepth 20000 in
theorem refInts_len (ao bo : Option Addr) (N M cap cap2 : Nat) (w : World) (_hN : N ≤ 140737488355328) (_hM : M ≤ 140737488355328) (h : N ≠ M) :
    Calls Try.prog 18 #[.slice ao N cap, .slice bo M cap2] w fun e w' => e = .returned (.bool false) ∧ Below w.heap.size w w' := by
  have h1 : ((N : Int) != (M : Int)) = true := by simp; omega
  go_enter Try.func18, Try.ntmps18
  go_wp2
  exact bodyPost_ret (results_tmp rfl _ _ _) rfl ⟨rfl, Below.refl _ _⟩
set_option maxHeartbeats 2000000 in
set_option maxRecDepth 20000 in
theorem refInts_walk (ao bo : Option Addr) (N cap cap2 : Nat) (xs ys : List Nat) (w : World) (h : Nats (.slice ao N cap) xs w) (h2 : Nats (.slice bo N cap2) ys w) :
    Calls Try.prog 18 #[.slice ao N cap, .slice bo N cap2] w fun e w' => e = .returned (.bool (decide (xs = ys))) ∧ Below w.heap.size w w' := by
  obtain ⟨hN, _, hN2⟩ := h.len
  obtain ⟨hM, _, _⟩ := h2.len
  have H := Lib.hid h
  have H2 := Lib.hid h2
  have HN := Lib.hid (And.intro hN hM)
  have h1 : ((N : Int) != (N : Int)) = false := by simp
  clear h h2 hN hM
  go_enter Try.func18, Try.ntmps18
  go_wp2
  go_loopg [5] (N + 1) (fun k i wr => ∃ (j : Nat), i = .int .i64 j ∧ j ≤ N ∧ Hid (k = N + 1 - j) ∧ Hid (∀ q, q < j → xs[q]? = ys[q]?) ∧ Hid (Below w.heap.size w wr))
  case atStart => exact ⟨0, rfl, by omega, rfl, fun q hq => by omega, Below.refl _ _⟩
  case round =>
    obtain ⟨j, rfl, hj, HK, HS, HB⟩ := hrel
    by_cases hlt : j < N
    · obtain ⟨m, hm⟩ : ∃ n, xs[j]? = some n := ⟨xs[j]'(by have := HN.out.1; omega), List.getElem?_eq_getElem _⟩
      obtain ⟨n, hn⟩ : ∃ n, ys[j]? = some n := ⟨ys[j]'(by have := HN.out.2; omega), List.getElem?_eq_getElem _⟩
      obtain ⟨b, o, rfl, hb, ca⟩ := (H.out.below HB.out).at hm
      obtain ⟨b2, o2, rfl, hb2, cb⟩ := (H2.out.below HB.out).at hn
      have hI : IntKind.i64.wrap ((j : Int) + 1) = ((j + 1 : Nat) : Int) := by rw [IntWalk.i64_in _ (by omega)]; omega
      obtain ⟨q, hq⟩ : ∃ q, ((m : Int) != (n : Int)) = !q := ⟨decide (m = n), by
        by_cases h : m = n
        · simp [h]
        · rw [decide_eq_false h]
          simp only [Bool.not_false, bne_iff_ne]
          omega⟩
      have HQ := Lib.hid (And.intro hq (And.intro hm hn))
      clear hm hn
      cases q <;> simp only [Bool.not_false, Bool.not_true] at hq
      · have hne : xs ≠ ys := fun e => by
          have h1 := HQ.out.2.1
          rw [e, HQ.out.2.2] at h1
          have e : n = m := Option.some.inj h1
          have h2 := HQ.out.1
          rw [e] at h2
          simp at h2
        have HD := Lib.hid (decide_eq_false hne)
        clear hne
        go_wp2_with fail
        go_region
        all_goals
          go_wp2
          exact bodyPost_ret (results_tmp rfl _ _ _) rfl ⟨by rw [HD.out]; rfl, HB.out.drew⟩
      · have e : m = n := by
          have e0 : (m : Int) = (n : Int) := by simpa using hq
          omega
        have HE := Lib.hid e
        clear e
        go_wp2_with fail
        go_region
        all_goals
          go_wp2
          go_roundg (N - j)
          case rel => exact ⟨j + 1, by go_num, by omega, by show _ = _; omega, fun q hq => by
            by_cases hqj : q = j
            · rw [hqj, HQ.out.2.1, HQ.out.2.2, HE.out]
            · exact HS.out q (by omega), HB.out.drew⟩
          case measure => have := HK.out; omega
    · have hd : decide ((j : Int) < (N : Int)) = false := by simp; omega
      have heq : xs = ys := by
        apply List.ext_getElem?
        intro q
        by_cases hq : q < j
        · exact HS.out q hq
        · rw [List.getElem?_eq_none (by have := HN.out.1; omega), List.getElem?_eq_none (by have := HN.out.2; omega)]
      have HD := Lib.hid (decide_eq_true heq)
      clear heq
      go_wp2
      exact bodyPost_ret (results_tmp rfl _ _ _) rfl ⟨by rw [HD.out]; rfl, HB.out⟩
/-- The document's Ints: are two rows of places the same? -/
theorem refInts_any (u v : Value) (xs ys : List Nat) (w : World) (h : Nats u xs w) (h2 : Nats v ys w) :
    Calls Try.prog 18 #[u, v] w fun e w' => e = .returned (.bool (decide (xs = ys))) ∧ Below w.heap.size w w' := by
  have h' := h
  have h2' := h2
  obtain ⟨ao, cap, rfl, _, hl, _⟩ := h
  obtain ⟨bo, cap2, rfl, _, hl2, _⟩ := h2
  by_cases hN : xs.length = ys.length
  · rw [← hN] at h2' ⊢
    exact refInts_walk ao bo xs.length cap cap2 xs ys w h' h2'
  · have hD : decide (xs = ys) = false := decide_eq_false fun e => hN (by rw [e])
    rw [hD]
    exact refInts_len ao bo _ _ cap cap2 w hl hl2 hN
end Go.Proofs.Ytkgpnlldlekcbaa
namespace Go.Proofs.Ytkgpnlldlekcbaa
open Go.RowKit Go.Lib

theorem append_far (w : World) (ty : TypeId) (base : Nat) (v : Value) (n : Nat) (xs : List Value) (hown : w.ownsRow base 3 1 v n xs) (ad : Addr) (u : Value) (hu : ∀ j x, [u][j]? = some x → w.cell? (ad.add j) = some x) (h1 : ∀ x ∈ [u], x.oneCell' = true) (hn : n ≤ 1000000) (hbase : base ≤ w.heap.size) :
    ∃ v' w', (Builtin.append_ #[41, 41] ty #[v, .slice (some ad) 1 1]).run Try.prog w = .ok v' w' ∧ w'.ownsRow base 3 1 v' (n + 1) (xs ++ [u]) ∧ w.grownBy w' v.ownBlock ∧ (v'.ownBlock = v.ownBlock ∨ v'.ownBlock = some w.heap.size) := by
  obtain ⟨i, hi, hz, hsz, hby⟩ := info_parts Try.infoInt
  have h8 : (n + 1) * 8 ≤ 140737488355328 := by omega
  obtain ⟨v', w', hr, h2, h3, _⟩ := run_append_own (P := Try.prog) w base 41 ty 3 i (.int .i64 0) 1 8 Try.underlying41 hi hz hsz hby rfl (by decide) v n xs hown ad 1 1 [u] rfl hu h1 (by unfold maxLen; omega) h8 hbase
  refine ⟨v', w', hr, h2, h3, ?_⟩
  rcases hown.2 with ⟨rfl, rfl⟩ | ⟨g, cap, cur, rfl, hbg, hg, hnc, hcm, hcs, htake⟩
  · have hr2 := run_append_nil (P := Try.prog) w 41 ty 3 i (.int .i64 0) Try.underlying41 hi hz ad 1 1 [u] (by rw [hsz]; rfl) hu (by decide) (by decide) (by rw [hby]; decide)
    rw [hr] at hr2
    injection hr2 with e1 e2
    exact .inr (by rw [e1]; rfl)
  · by_cases hroom : n + 1 ≤ cap
    · have hr2 := run_append_room (P := Try.prog) w 41 ty 3 i Try.underlying41 hi g n cap cur hg ad 1 1 [u] (by rw [hsz]; rfl) hu h1 hroom (by rw [hsz, hcs]; show n * 1 + 1 ≤ cap * 1; omega)
      rw [hr] at hr2
      injection hr2 with e1 e2
      exact .inl (by rw [e1]; rfl)
    · have holds : ∀ j x, xs[j]? = some x → w.cell? ((⟨g, 0, none⟩ : Addr).add j) = some x := hown.cells (g := g) rfl
      have hr2 := run_append_grow (P := Try.prog) w 41 ty 3 i (.int .i64 0) Try.underlying41 hi hz ⟨g, 0, none⟩ n cap xs (by rw [hsz]; exact hown.1) holds ad 1 1 [u] (by rw [hsz]; rfl) hu (by omega) (by omega) (growslice_fits (by omega) (by rw [hby]; exact h8))
      rw [hr] at hr2
      injection hr2 with e1 e2
      exact .inr (by rw [e1]; rfl)
theorem wpList_append_far {ops : Array Oper} {rest : List Oper} {o : Oper} {a : Act} {Q : Exit → Act → World → Prop} (w : World) (hgd : o.guard = none) (s x : Operand)
    (ho : o.op = .call { callee := .builtin .append, args := #[s, x], argTypes := #[41, 41] })
    (base : Nat) (v : Value) (n : Nat) (xs : List Value) (hs : a.eval s = v) (hown : w.ownsRow base 3 1 v n xs)
    (ad : Addr) (u : Value) (hx : a.eval x = .slice (some ad) 1 1) (hu : ∀ j x, [u][j]? = some x → w.cell? (ad.add j) = some x) (h1 : ∀ x ∈ [u], x.oneCell' = true) (hn : n ≤ 1000000) (hbase : base ≤ w.heap.size)
    (h : ∀ v' w', w'.ownsRow base 3 1 v' (n + 1) (xs ++ [u]) → w.grownBy w' v.ownBlock → (v'.ownBlock = v.ownBlock ∨ v'.ownBlock = some w.heap.size) → wpList Try.prog ops Q rest (a.put o.dst v') w') : wpList Try.prog ops Q (o :: rest) a w := by
  obtain ⟨v', w', hr, h2, h3, h4⟩ := append_far w o.type base v n xs hown ad u hu h1 hn hbase
  refine wpList_plain hgd fun K hK => ?_
  unfold Oper.wp execOp
  simp only [ho, resolve, invoke, builtin, Sem.run_bind, Sem.run_pure, Result.andThen_ok, List.map_toArray, List.map_cons, List.map_nil, hs, hx, hr]
  exact hK _ _ (h v' w' h2 h3 h4)
theorem nats_of_owns {w : World} {B n : Nat} {v : Value} {xs : List Nat} (h : w.ownsRow B 3 1 v n (natsV xs)) (hn : n = xs.length) (hl : n ≤ 140737488355328) : Nats v xs w := by
  subst hn
  rcases h.2 with ⟨hv, h0⟩ | ⟨g, cap, cur, hv, _, hg, hc, _, hz, htk⟩
  · have e : xs = [] := List.eq_nil_of_length_eq_zero h0
    subst e
    subst hv
    exact ⟨none, 0, rfl, Nat.le_refl _, Nat.zero_le _, fun j x h => by simp at h⟩
  · refine ⟨some ⟨g, 0, none⟩, cap, hv, hc, hl, fun j x hj => ⟨g, 0, rfl, block_lt hg, ?_⟩⟩
    have hjl : j < xs.length := by
      by_cases h : j < xs.length
      · exact h
      · rw [List.getElem?_eq_none (by omega)] at hj; cases hj
    have e : (natsV xs)[j]? = some (.int .i64 (x : Int)) := by unfold natsV; rw [List.getElem?_map, hj]; rfl
    rw [← htk, List.getElem?_take_of_lt (by omega)] at e
    rw [cell_of_heap hg, Nat.zero_add]
    simpa using e
theorem owns_grown {w w' : World} {B n size : Nat} {e : TypeId} {v : Value} {xs : List Value} {row : Option Nat} (h : w.ownsRow B e size v n xs) (hg : w.grownBy w' row) (hne : ∀ q, v.ownBlock = some q → row ≠ some q) : w'.ownsRow B e size v n xs :=
  owns_same h fun g hq => hg.block g (own_block_lt h hq) fun e => hne g hq e.symm
/-- The marks, a row of places, and what lies below. -/
structure JoS (g n : Nat) (A1 A2 : List Nat) (w0 w : World) : Prop where
  s : BoX A1 n g w
  e : BoX A2 n (g + 1) w
  low : Below g w0 w
  big : g + 2 ≤ w.heap.size
theorem JoS.below {g n : Nat} {A1 A2 : List Nat} {w0 w w' : World} (h : JoS g n A1 A2 w0 w) (hb : Below w.heap.size w w') : JoS g n A1 A2 w0 w' :=
  ⟨h.s.below hb, h.e.below hb, h.low.trans (hb.mono (by have := h.big; omega)), Nat.le_trans h.big hb.size⟩
theorem JoS.grown {g n : Nat} {A1 A2 : List Nat} {w0 w w' : World} {row : Option Nat} (h : JoS g n A1 A2 w0 w) (hg : w.grownBy w' row) (hr : ∀ q, row = some q → g + 2 ≤ q) : JoS g n A1 A2 w0 w' := by
  have hb := h.big
  refine ⟨h.s.kept (hg.block g (by omega) fun e => ?_), h.e.kept (hg.block (g + 1) (by omega) fun e => ?_), h.low.grown hg (by omega) fun q hq => by have := hr q hq; omega, Nat.le_trans hb hg.size⟩
  · have := hr g e.symm; omega
  · have := hr (g + 1) e.symm; omega
theorem JoS.put1 {g n : Nat} {A1 A2 : List Nat} {w0 w : World} (h : JoS g n A1 A2 w0 w) {x : Nat} (hx : x < n) : JoS g n (A1 ++ [x]) A2 w0 (w.setCell ⟨g, x, none⟩ (.bool true)) :=
  ⟨h.s.put hx, h.e.other (by show g ≠ g + 1; omega), h.low.setCell (p := ⟨g, x, none⟩) (Nat.le_refl _) _, by simpa using h.big⟩
theorem JoS.put2 {g n : Nat} {A1 A2 : List Nat} {w0 w : World} (h : JoS g n A1 A2 w0 w) {x : Nat} (hx : x < n) : JoS g n A1 (A2 ++ [x]) w0 (w.setCell ⟨g + 1, x, none⟩ (.bool true)) :=
  ⟨h.s.other (by show g + 1 ≠ g; omega), h.e.put hx, h.low.setCell (p := ⟨g + 1, x, none⟩) (Nat.le_succ _) _, by simpa using h.big⟩
theorem owns_mark {w : World} {B n size g x : Nat} {e : TypeId} {v : Value} {xs : List Value} (h : w.ownsRow B e size v n xs) (hg : g < B) (u : Value) : (w.setCell ⟨g, x, none⟩ u).ownsRow B e size v n xs :=
  owns_same h fun q hq => Below.heap_setCell _ _ _ _ (by show q ≠ g; have := own_base h hq; omega)
/-- Two rows of places beside the marks. -/
structure TwoR (g n : Nat) (A1 A2 : List Nat) (v1 v2 : Value) (L1 L2 : List Nat) (w0 w : World) : Prop where
  j : JoS g n A1 A2 w0 w
  a : w.ownsRow (g + 2) 3 1 v1 L1.length (natsV L1)
  b : w.ownsRow (g + 2) 3 1 v2 L2.length (natsV L2)
  ne : ∀ q, v1.ownBlock = some q → v2.ownBlock = some q → False
theorem TwoR.start {g n : Nat} {A1 A2 : List Nat} {w0 w : World} (h : JoS g n A1 A2 w0 w) : TwoR g n A1 A2 (.slice none 0 0) (.slice none 0 0) [] [] w0 w :=
  ⟨h, World.ownsRow_nil _ _ _ _, World.ownsRow_nil _ _ _ _, fun q h => by cases h⟩
theorem TwoR.one {g n x : Nat} {A1 A2 : List Nat} {v1 v1' v2 : Value} {L1 L2 : List Nat} {w0 w w' : World} {o : Obj} (h : TwoR g n A1 A2 v1 v2 L1 L2 w0 w)
    (h2 : w'.ownsRow (g + 2) 3 1 v1' (L1.length + 1) (natsV L1 ++ [.int .i64 (x : Int)])) (h3 : (w.alloc o).grownBy w' v1.ownBlock) (h4 : v1'.ownBlock = v1.ownBlock ∨ v1'.ownBlock = some (w.alloc o).heap.size) : TwoR g n A1 A2 v1' v2 (L1 ++ [x]) L2 w0 w' := by
  have hz : (w.alloc o).heap.size = w.heap.size + 1 := by simp
  have hba : (w.alloc o).ownsRow (g + 2) 3 1 v2 L2.length (natsV L2) := h.b.alloc o
  have hj : JoS g n A1 A2 w0 (w.alloc o) := h.j.below ((Below.refl _ w).alloc (Nat.le_refl _) _)
  refine ⟨hj.grown h3 fun q hq => own_base h.a hq, by rw [natsV_snoc, List.length_append]; exact h2, owns_grown hba h3 fun q hq e => h.ne q e hq, fun q e1 e2 => ?_⟩
  rcases h4 with h4 | h4
  · exact h.ne q (h4.symm.trans e1) e2
  · have := own_block_lt h.b e2
    have e3 : w.heap.size + 1 = q := by rw [h4, hz] at e1; exact Option.some.inj e1
    omega
theorem TwoR.two {g n x : Nat} {A1 A2 : List Nat} {v1 v2 v2' : Value} {L1 L2 : List Nat} {w0 w w' : World} {o : Obj} (h : TwoR g n A1 A2 v1 v2 L1 L2 w0 w)
    (h2 : w'.ownsRow (g + 2) 3 1 v2' (L2.length + 1) (natsV L2 ++ [.int .i64 (x : Int)])) (h3 : (w.alloc o).grownBy w' v2.ownBlock) (h4 : v2'.ownBlock = v2.ownBlock ∨ v2'.ownBlock = some (w.alloc o).heap.size) : TwoR g n A1 A2 v1 v2' L1 (L2 ++ [x]) w0 w' := by
  have hz : (w.alloc o).heap.size = w.heap.size + 1 := by simp
  have haa : (w.alloc o).ownsRow (g + 2) 3 1 v1 L1.length (natsV L1) := h.a.alloc o
  have hj : JoS g n A1 A2 w0 (w.alloc o) := h.j.below ((Below.refl _ w).alloc (Nat.le_refl _) _)
  refine ⟨hj.grown h3 fun q hq => own_base h.b hq, owns_grown haa h3 fun q hq e => h.ne q hq e, by rw [natsV_snoc, List.length_append]; exact h2, fun q e1 e2 => ?_⟩
  rcases h4 with h4 | h4
  · exact h.ne q e1 (h4.symm.trans e2)
  · have := own_block_lt h.a e1
    have e3 : w.heap.size + 1 = q := by rw [h4, hz] at e2; exact Option.some.inj e2
    omega
end Go.Proofs.Ytkgpnlldlekcbaa
namespace Go.Proofs.Ytkgpnlldlekcbaa
open Go.RowKit Go.Lib

theorem mem_endsI {s : List UInt8} {T : Tr} {a : Int} {b : Nat} : b ∈ endsL s T a ↔ 0 ≤ a ∧ a ≤ (s.length : Int) ∧ b ≤ s.length ∧ St s T a.toNat b := by
  by_cases h : 0 ≤ a ∧ a ≤ (s.length : Int)
  · obtain ⟨n, rfl⟩ : ∃ n : Nat, a = (n : Int) := ⟨a.toNat, by omega⟩
    rw [mem_ends (by omega)]
    constructor
    · rintro ⟨h1, h2⟩
      exact ⟨h.1, h.2, h1, h2⟩
    · rintro ⟨_, _, h1, h2⟩
      exact ⟨h1, h2⟩
  · unfold endsL
    rw [if_pos (by omega)]
    constructor
    · intro h1; simp at h1
    · rintro ⟨h1, h2, _⟩
      exact absurd ⟨h1, h2⟩ h
theorem ends_cat {s : List UInt8} {S T : Tr} {a : Int} {c : Nat} : c ∈ endsL s (.two 2 S T) a ↔ ∃ b ∈ endsL s S a, c ∈ endsL s T (b : Int) := by
  rw [mem_endsI]
  constructor
  · rintro ⟨h1, h2, h3, b, h4, h5⟩
    have hb := St.to s S _ _ h4 (by omega)
    exact ⟨b, mem_endsI.2 ⟨h1, h2, hb, h4⟩, mem_endsI.2 ⟨by omega, by omega, h3, h5⟩⟩
  · rintro ⟨b, hb, hc⟩
    obtain ⟨h1, h2, h3, h4⟩ := mem_endsI.1 hb
    obtain ⟨_, _, h5, h6⟩ := mem_endsI.1 hc
    exact ⟨h1, h2, h5, b, h4, h6⟩
theorem ends_alt {s : List UInt8} {S T : Tr} {a : Int} {c : Nat} : c ∈ endsL s (.two 3 S T) a ↔ c ∈ endsL s S a ∨ c ∈ endsL s T a := by
  rw [mem_endsI, mem_endsI, mem_endsI]
  show _ ∧ _ ∧ _ ∧ (St s S _ c ∨ St s T _ c) ↔ _
  constructor
  · rintro ⟨h1, h2, h3, h4 | h4⟩
    · exact .inl ⟨h1, h2, h3, h4⟩
    · exact .inr ⟨h1, h2, h3, h4⟩
  · rintro (⟨h1, h2, h3, h4⟩ | ⟨h1, h2, h3, h4⟩)
    · exact ⟨h1, h2, h3, .inl h4⟩
    · exact ⟨h1, h2, h3, .inr h4⟩
/-- An ends' row is the places marked, in their order. -/
theorem ends_sorted (s : List UInt8) (T : Tr) (a : Int) (m : Nat → Bool) (h : ∀ b, b ≤ s.length → (m b = true ↔ b ∈ endsL s T a)) : endsL s T a = (List.range (s.length + 1)).filter m := by
  by_cases ha : a < 0 ∨ (s.length : Int) < a
  · have h0 : endsL s T a = [] := by unfold endsL; rw [if_pos ha]
    rw [h0]
    symm
    rw [List.filter_eq_nil_iff]
    intro b hb h1
    have := (h b (by rw [List.mem_range] at hb; omega)).1 h1
    rw [h0] at this
    simp at this
  · have e : endsL s T a = (List.range (s.length + 1)).filter fun b => @decide (St s T a.toNat b) (Classical.propDecidable _) := by unfold endsL; rw [if_neg ha]
    rw [e]
    refine List.filter_congr fun b hb => ?_
    rw [List.mem_range] at hb
    rw [Bool.eq_iff_iff, h b (by omega), mem_endsI]
    rw [@decide_eq_true_iff _ (Classical.propDecidable _)]
    constructor
    · intro h1; exact ⟨by omega, by omega, by omega, h1⟩
    · rintro ⟨_, _, _, h1⟩; exact h1
end Go.Proofs.Ytkgpnlldlekcbaa
