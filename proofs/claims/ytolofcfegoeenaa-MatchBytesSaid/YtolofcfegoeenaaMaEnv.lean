/- The search's memory as a whole; what enter, leave and next do to it. Conditions: 2000 nodes, 1000000 bytes. -/
import Derived.Test.YtolofcfegoeenaaMaLeave
import Derived.Test.YtolofcfegoeenaaMaNext
namespace Go.Proofs.Ytolofcfegoeenaa
open Go.RowKit Go.Lib

/-- Where all lies. -/
structure Cf where
  (B br bR bs bf bw bu bm bn bp bl bt o cap : Nat)
def upC (n : Nat) (f : Nat → Nat) : List Value := (List.range n).map fun q => .int .i64 (f q : Int)
theorem upC_get (n : Nat) (f : Nat → Nat) (q : Nat) (h : q < n) : (upC n f)[q]? = some (.int .i64 (f q : Int)) := by
  unfold upC
  rw [List.getElem?_map, List.getElem?_range h]
  rfl
structure Env (c : Cf) (s : ByteArray) (bk : Bool) (ts : List Nd) (up : Nat → Nat) (w : World) : Prop where
  wk : w.heap[c.bw]? = some (.cells #[.slice (some ⟨c.bt, c.o, none⟩) ts.length c.cap, .string s, .bool bk, .slice (some ⟨c.bu, 0, none⟩) ts.length ts.length, markV c.br c.bs c.bf] 121 (0, 0))
  up : w.heap[c.bu]? = some (.cells ⟨upC ts.length up⟩ 3 (0, 0))
  bm : w.heap[c.bm]? = some (.cells #[markV c.br c.bs c.bf] 69 (0, 0))
  bn : w.heap[c.bn]? = some (.cells #[.func (.func 81) #[] #[.pointer (some ⟨c.bf, 0, none⟩)]] 118 (0, 0))
  bp : w.heap[c.bp]? = some (.cells #[.pointer (some ⟨c.bw, 0, none⟩)] 119 (0, 0))
  bl : w.heap[c.bl]? = some (.cells #[.int .i64 ((ts.length - 1 : Nat) : Int)] 3 (0, 0))
  tree : ∀ (j : Nat) (n : Nd), ts[j]? = some n → NdAt c.bt (c.o + j * 7) n w
  lt : c.bt < c.B
  ge : c.B ≤ c.bw ∧ c.B ≤ c.bu ∧ c.B ≤ c.bm ∧ c.B ≤ c.bn ∧ c.B ≤ c.bp ∧ c.B ≤ c.bl
theorem Env.kept {c : Cf} {s : ByteArray} {bk : Bool} {ts : List Nd} {up : Nat → Nat} {w w' : World} (h : Env c s bk ts up w) (k : Kept c.B w w') : Env c s bk ts up w' :=
  ⟨k.other _ _ _ _ h.wk (by decide) (by decide) (by decide) (by decide), k.other _ _ _ _ h.up (by decide) (by decide) (by decide) (by decide), k.other _ _ _ _ h.bm (by decide) (by decide) (by decide) (by decide),
    k.other _ _ _ _ h.bn (by decide) (by decide) (by decide) (by decide), k.other _ _ _ _ h.bp (by decide) (by decide) (by decide) (by decide), k.other _ _ _ _ h.bl (by decide) (by decide) (by decide) (by decide),
    fun j n hj => (h.tree j n hj).below k.low h.lt, h.lt, h.ge⟩
theorem Mk.below {B br bR bs bf L : Nat} {s : ByteArray} {M : Nat → Nat → Bool} {F : List (Nat × Nat)} {w w' : World} (h : Mk B br bR bs bf L s M F w) (hb : Below w.heap.size w w') : Mk B br bR bs bf L s M F w' := by
  obtain ⟨rv, h1, h2, h3, h4⟩ := h.cells
  obtain ⟨v, h5, h6⟩ := h.fresh
  have e : ∀ {j : Nat} {x : Obj}, w.heap[j]? = some x → w'.heap[j]? = some x := fun hj => (hb.block _ (block_lt hj)).trans hj
  refine ⟨h.hB, e h.rows, ⟨rv, h1, e h2, fun g v hv => ?_, h4⟩, e h.str, ⟨v, e h5, owns_same h6 fun q hq => hb.block q (own_block_lt h6 hq)⟩, h.inb, h.cnt, h.small⟩
  rcases h3 g v hv with hh | ⟨b, e1, e2, e3⟩
  · exact .inl hh
  · exact .inr ⟨b, e1, e2, e e3⟩
def mks : List (Nat × Nat) → ((Nat → Nat → Bool) × List (Nat × Nat)) → ((Nat → Nat → Bool) × List (Nat × Nat))
  | [], S => S
  | q :: r, S => mks r (setM S.1 q.1 q.2, if S.1 q.1 q.2 = true then S.2 else S.2 ++ [q])
structure Srch (c : Cf) (s : ByteArray) (bk : Bool) (ts : List Nd) (up : Nat → Nat) (w0 : World) (S : (Nat → Nat → Bool) × List (Nat × Nat)) (w : World) : Prop where
  env : Env c s bk ts up w
  mm : Mk c.B c.br c.bR c.bs c.bf ts.length s S.1 S.2 w
  kept : Kept c.B w0 w
section
variable {c : Cf} {s : ByteArray} {bk : Bool} {ts : List Nd} {up : Nat → Nat} {w0 w w' : World} {S : (Nat → Nat → Bool) × List (Nat × Nat)}
theorem Srch.below (h : Srch c s bk ts up w0 S w) (hb : Below w.heap.size w w') : Srch c s bk ts up w0 S w' :=
  ⟨h.env.kept (Kept.of_below hb h.mm.B_le), h.mm.below hb, h.kept.trans (Kept.of_below hb h.mm.B_le)⟩
theorem Srch.mark (h : Srch c s bk ts up w0 S w) {g p : Nat} (hg : g < 2 * ts.length) (hp : p ≤ s.size) : Mark c.br c.bs c.bf g p w (Srch c s bk ts up w0 (mks [(g, p)] S)) := fun w1 hb =>
  (mk_any c.B c.br c.bR c.bs c.bf ts.length g p s S.1 S.2 w1 (h.below hb).mm hg hp).mono fun _ _ hh => ⟨hh.1, (h.below hb).env.kept hh.2.2, hh.2.1, (h.below hb).kept.trans hh.2.2⟩
theorem Srch.c4 (h : Srch c s bk ts up w0 S w) : w.cell? ⟨c.bw, 4, none⟩ = some (markV c.br c.bs c.bf) := (wk_cells h.env.wk).2.2.2.2
end
/-- A node as a tree has it. -/
def NdFit (n : Nd) (L : Nat) : Prop := (n.k = 0 ∨ n.k = 1 ∨ n.k = 2 ∨ n.k = 3 ∨ n.k = 4 ∨ n.k = 5 ∨ n.k = 6 ∨ n.k = 7 ∨ n.k = 8) ∧ ∃ x y : Nat, n.x = (x : Int) ∧ n.y = (y : Int) ∧ x < L ∧ y < L
theorem row_fit : ∀ (t : Tr) (n : Nat), t.ok → ∀ (j : Nat) (nd : Nd), (t.row n)[j]? = some nd → ∀ L, n + t.size ≤ L → NdFit nd L
  | .leaf k, n, hok, j, nd, h, L, hL => by
    have ez : (Tr.leaf k).size = 1 := rfl
    rw [ez] at hL
    have h : ([⟨(k : Int), k0, 0, 0⟩] : List Nd)[j]? = some nd := h
    have e : nd = ⟨(k : Int), k0, 0, 0⟩ := by
      cases j with
      | zero => simpa using h.symm
      | succ j => simp at h
    rw [e]
    refine ⟨?_, 0, 0, rfl, rfl, by omega, by omega⟩
    rcases hok with rfl | rfl | rfl <;> simp
  | .set K, n, hok, j, nd, h, L, hL => by
    have ez : (Tr.set K).size = 1 := rfl
    rw [ez] at hL
    have h : ([⟨1, K, 0, 0⟩] : List Nd)[j]? = some nd := h
    have e : nd = ⟨1, K, 0, 0⟩ := by
      cases j with
      | zero => simpa using h.symm
      | succ j => simp at h
    rw [e]
    exact ⟨by simp, 0, 0, rfl, rfl, by omega, by omega⟩
  | .rep k a, n, hok, j, nd, h, L, hL => by
    have ez : (Tr.rep k a).size = a.size + 1 := rfl
    have hp := a.size_pos
    rw [ez] at hL
    have h : (a.row n ++ [⟨(k : Int), k0, (n : Int) + a.size - 1, 0⟩])[j]? = some nd := h
    by_cases hj : j < a.size
    · rw [List.getElem?_append_left (by rw [Tr.row_length]; exact hj)] at h
      exact row_fit a n hok.2 j nd h L (by omega)
    · rw [List.getElem?_append_right (by rw [Tr.row_length]; omega), Tr.row_length] at h
      have e : nd = ⟨(k : Int), k0, (n : Int) + a.size - 1, 0⟩ := by
        cases hq : j - a.size with
        | zero => rw [hq] at h; simpa using h.symm
        | succ q => rw [hq] at h; simp at h
      rw [e]
      refine ⟨?_, n + a.size - 1, 0, by dsimp only; omega, rfl, by omega, by omega⟩
      rcases hok.1 with rfl | rfl | rfl <;> simp
  | .two k a b, n, hok, j, nd, h, L, hL => by
    have ez : (Tr.two k a b).size = a.size + b.size + 1 := rfl
    have hp := a.size_pos
    have hq := b.size_pos
    rw [ez] at hL
    have h : (a.row n ++ (b.row (n + a.size) ++ [⟨(k : Int), k0, (n : Int) + a.size - 1, (n : Int) + a.size + b.size - 1⟩]))[j]? = some nd := h
    by_cases hj : j < a.size
    · rw [List.getElem?_append_left (by rw [Tr.row_length]; exact hj)] at h
      exact row_fit a n hok.2.1 j nd h L (by omega)
    · rw [List.getElem?_append_right (by rw [Tr.row_length]; omega), Tr.row_length] at h
      by_cases hj2 : j - a.size < b.size
      · rw [List.getElem?_append_left (by rw [Tr.row_length]; exact hj2)] at h
        exact row_fit b (n + a.size) hok.2.2 _ nd h L (by omega)
      · rw [List.getElem?_append_right (by rw [Tr.row_length]; omega), Tr.row_length] at h
        have e : nd = ⟨(k : Int), k0, (n : Int) + a.size - 1, (n : Int) + a.size + b.size - 1⟩ := by
          cases hq : j - a.size - b.size with
          | zero => rw [hq] at h; simpa using h.symm
          | succ q => rw [hq] at h; simp at h
        rw [e]
        refine ⟨?_, n + a.size - 1, n + a.size + b.size - 1, by dsimp only; omega, by dsimp only; omega, by omega, by omega⟩
        rcases hok.1 with rfl | rfl <;> simp
theorem stepD_le {bk : Bool} {l : List UInt8} {n : Nd} {p q : Nat} (h : stepD bk l n p = some q) (hp : p ≤ l.length) : q ≤ l.length := by
  unfold stepD at h
  split at h
  · cases h; exact hp
  · split at h
    · split at h
      · cases h; exact hp
      · cases h
    · split at h
      · split at h
        · cases h; exact hp
        · cases h
      · split at h
        · split at h
          · cases h; omega
          · cases h
        · split at h
          · rename_i hin
            cases h
            have := inSet_lt hin
            omega
          · cases h
theorem spotC_len (F : List (Nat × Nat)) : (spotC F).length = 2 * F.length := by
  unfold spotC
  induction F with
  | nil => rfl
  | cons a F ih => rw [List.flatMap_cons, List.length_append, ih]; simp; omega
theorem enter_any {c : Cf} {s : ByteArray} {bk : Bool} {ts : List Nd} {up : Nat → Nat} {w0 w : World} {S : (Nat → Nat → Bool) × List (Nat × Nat)} (h : Srch c s bk ts up w0 S w) {r p : Nat} {n : Nd} (hn : ts[r]? = some n) (hf : NdFit n ts.length) (hp : p ≤ s.size) :
    Calls Try.prog 84 #[.pointer (some ⟨c.bw, 0, none⟩), .int .i64 (r : Int), .int .i64 (p : Int)] w fun e w' => e = .returned (.tuple #[]) ∧ Srch c s bk ts up w0 (mks (enterD bk s.data.toList n r p) S) w' := by
  have hL := h.mm.small
  have hr : r < ts.length := by
    by_cases hl : r < ts.length
    · exact hl
    · rw [List.getElem?_eq_none (by omega)] at hn; cases hn
  have ht := fun (w' : World) (S' : (Nat → Nat → Bool) × List (Nat × Nat)) (h' : Srch c s bk ts up w0 S' w') => h'.env.tree r n hn
  obtain ⟨hk, x, y, hx, hy, hxl, hyl⟩ := hf
  obtain ⟨k, K, x', y'⟩ := n
  dsimp only at hk hx hy
  subst hx hy
  obtain ⟨c0, c1, c2, c3, c4⟩ := wk_cells h.env.wk
  obtain ⟨a0, a1, a2, a3, a4, a5, a6⟩ := ht w S h
  dsimp only at a0 a5 a6
  have hrI : (r : Int) < (ts.length : Int) := by omega
  have leaf : (k = 0 ∨ k = 1 ∨ k = 7 ∨ k = 8) → Calls Try.prog 84 #[.pointer (some ⟨c.bw, 0, none⟩), .int .i64 (r : Int), .int .i64 (p : Int)] w fun e w' => e = .returned (.tuple #[]) ∧ Srch c s bk ts up w0 (mks (enterD bk s.data.toList (⟨k, K, (x : Int), (y : Int)⟩ : Nd) r p) S) w' := fun hk4 => by
    have ee : enterD bk s.data.toList (⟨k, K, (x : Int), (y : Int)⟩ : Nd) r p = match stepD bk s.data.toList (⟨k, K, (x : Int), (y : Int)⟩ : Nd) p with | some q => [(2 * r + 1, q)] | none => [] := by
      unfold enterD
      dsimp only
      rw [if_neg (by omega), if_neg (by omega), if_neg (by omega), if_neg (by omega)]
      cases stepD bk s.data.toList (⟨k, K, (x : Int), (y : Int)⟩ : Nd) p <;> rfl
    obtain ⟨R, hR⟩ : ∃ R, stepD bk s.data.toList (⟨k, K, (x : Int), (y : Int)⟩ : Nd) p = R := ⟨_, rfl⟩
    rw [ee, hR]
    refine enter_leafW c.bw c.bt c.o r p c.br c.bs c.bf ts.length c.cap k hk4 R w _ hrI (by omega) c0 c4 a0 ?_ ?_ ?_ (fun w' h' => h'.c4)
    · have := step_any bk c.bw c.bt (c.o + r * 7) (⟨k, K, (x : Int), (y : Int)⟩ : Nd) p s _ _ _ w hk4 hp hL.2 h.env.wk (ht w S h)
      unfold StepE at this
      rwa [hR] at this
    · rintro rfl w' hb
      exact h.below hb
    · rintro q rfl
      exact h.mark (by omega) (by have := stepD_le hR (by rw [Array.length_toList]; exact hp); rwa [Array.length_toList] at this)
  rcases hk with rfl | rfl | rfl | rfl | rfl | rfl | rfl | rfl | rfl
  · exact leaf (by omega)
  · exact leaf (by omega)
  · have ee : enterD bk s.data.toList (⟨2, K, (x : Int), (y : Int)⟩ : Nd) r p = [(2 * (if bk = true then y else x), p)] := by
      unfold enterD
      cases bk <;> simp
    rw [ee]
    refine enter_cat c.bw c.bt c.o r p x y c.br c.bs c.bf ts.length c.cap bk w _ hrI (by omega) (by omega) c0 c2 c4 a0 a5 a6 (h.mark ?_ hp) (fun w' h' => h'.c4)
    split <;> omega
  · have ee : enterD bk s.data.toList (⟨3, K, (x : Int), (y : Int)⟩ : Nd) r p = [(2 * x, p), (2 * y, p)] := by
      unfold enterD
      simp
    rw [ee]
    refine enter_alt c.bw c.bt c.o r p x y c.br c.bs c.bf ts.length c.cap w _ (Srch c s bk ts up w0 (mks [(2 * x, p)] S)) hrI (by omega) (by omega) c0 c4 a0 a5 (h.mark (by omega) hp) (fun w' h' => ?_) (fun w' h' => ⟨h'.c4, (ht w' _ h').2.2.2.2.2.2⟩)
    exact ⟨h'.c4, (ht w' _ h').2.2.2.2.2.1, (ht w' _ h').2.2.2.2.2.2, h'.mark (by omega) hp⟩
  · have ee : enterD bk s.data.toList (⟨4, K, (x : Int), (y : Int)⟩ : Nd) r p = [(2 * r + 1, p), (2 * x, p)] := by
      unfold enterD
      simp
    rw [ee]
    refine enter_rep c.bw c.bt c.o r p x c.br c.bs c.bf ts.length c.cap 4 (.inl rfl) w _ (Srch c s bk ts up w0 (mks [(2 * r + 1, p)] S)) hrI (by omega) (by omega) c0 c4 a0 (h.mark (by omega) hp) (fun w' h' => ?_) (fun w' h' => ⟨h'.c4, (ht w' _ h').2.2.2.2.2.1⟩)
    exact ⟨h'.c4, (ht w' _ h').2.2.2.2.2.1, h'.mark (by omega) hp⟩
  · have ee : enterD bk s.data.toList (⟨5, K, (x : Int), (y : Int)⟩ : Nd) r p = [(2 * x, p)] := by
      unfold enterD
      simp
    rw [ee]
    exact enter_plus c.bw c.bt c.o r p x c.br c.bs c.bf ts.length c.cap w _ hrI (by omega) c0 c4 a0 a5 (h.mark (by omega) hp) (fun w' h' => ⟨h'.c4, (ht w' _ h').2.2.2.2.2.1⟩)
  · have ee : enterD bk s.data.toList (⟨6, K, (x : Int), (y : Int)⟩ : Nd) r p = [(2 * r + 1, p), (2 * x, p)] := by
      unfold enterD
      simp
    rw [ee]
    refine enter_rep c.bw c.bt c.o r p x c.br c.bs c.bf ts.length c.cap 6 (.inr rfl) w _ (Srch c s bk ts up w0 (mks [(2 * r + 1, p)] S)) hrI (by omega) (by omega) c0 c4 a0 (h.mark (by omega) hp) (fun w' h' => ?_) (fun w' h' => ⟨h'.c4, (ht w' _ h').2.2.2.2.2.1⟩)
    exact ⟨h'.c4, (ht w' _ h').2.2.2.2.2.1, h'.mark (by omega) hp⟩
  · exact leaf (by omega)
  · exact leaf (by omega)
theorem leave_any {c : Cf} {s : ByteArray} {bk : Bool} {ts : List Nd} {up : Nat → Nat} {w0 w : World} {S : (Nat → Nat → Bool) × List (Nat × Nat)} (h : Srch c s bk ts up w0 S w) {r p : Nat} {n : Nd} (hr : r < ts.length) (hn : ts[up r]? = some n) (hf : NdFit n ts.length) (hk : n.k = 2 ∨ n.k = 3 ∨ n.k = 4 ∨ n.k = 5 ∨ n.k = 6) (hp : p ≤ s.size) :
    Calls Try.prog 85 #[.pointer (some ⟨c.bw, 0, none⟩), .int .i64 (r : Int), .int .i64 (p : Int)] w fun e w' => e = .returned (.tuple #[]) ∧ Srch c s bk ts up w0 (mks (leaveD bk n (up r) r p) S) w' := by
  have hL := h.mm.small
  have hu : up r < ts.length := by
    by_cases hl : up r < ts.length
    · exact hl
    · rw [List.getElem?_eq_none (by omega)] at hn; cases hn
  have ht := h.env.tree (up r) n hn
  obtain ⟨_, x, y, hx, hy, hxl, hyl⟩ := hf
  obtain ⟨u, hU⟩ : ∃ u, u = up r := ⟨_, rfl⟩
  obtain ⟨k, K, x', y'⟩ := n
  dsimp only at hk hx hy
  subst hx hy
  obtain ⟨c0, c1, c2, c3, c4⟩ := wk_cells h.env.wk
  obtain ⟨a0, a1, a2, a3, a4, a5, a6⟩ := ht
  dsimp only at a0 a5 a6
  have cu : w.cell? ⟨c.bu, r, none⟩ = some (.int .i64 (up r : Int)) := by rw [cell_of_heap h.env.up]; simpa using upC_get ts.length up r hr
  rw [← hU] at hu a0 a5 a6 cu ⊢
  have hrI : (r : Int) < (ts.length : Int) := by omega
  have huI : (u : Int) < (ts.length : Int) := by omega
  rcases hk with rfl | rfl | rfl | rfl | rfl
  · refine leave_cat c.bw c.bt c.o r u p x y c.br c.bs c.bf ts.length c.cap c.bu ts.length ts.length bk w _ hrI huI (by omega) (by omega) (by omega) c0 c2 c3 c4 cu a0 a5 a6 (fun he => ?_) (fun he => ?_) (fun w' h' => h'.c4)
    · have ee : leaveD bk (⟨2, K, (x : Int), (y : Int)⟩ : Nd) u r p = [(2 * (if bk = true then x else y), p)] := by
        unfold leaveD
        rw [if_pos ⟨rfl, he⟩]
        cases bk <;> simp
      rw [ee]
      refine h.mark ?_ hp
      split <;> omega
    · have ee : leaveD bk (⟨2, K, (x : Int), (y : Int)⟩ : Nd) u r p = [(2 * u + 1, p)] := by
        unfold leaveD
        rw [if_neg (fun hh => he hh.2)]
        simp
      rw [ee]
      exact h.mark (by omega) hp
  · have ee : leaveD bk (⟨3, K, (x : Int), (y : Int)⟩ : Nd) u r p = [(2 * u + 1, p)] := by
      unfold leaveD
      simp
    rw [ee]
    exact leave_up c.bw c.bt c.o r u p c.br c.bs c.bf ts.length c.cap c.bu ts.length ts.length 3 (.inl rfl) w _ hrI huI (by omega) c0 c3 c4 cu a0 (h.mark (by omega) hp) (fun w' h' => h'.c4)
  · have ee : leaveD bk (⟨4, K, (x : Int), (y : Int)⟩ : Nd) u r p = [(2 * r, p), (2 * u + 1, p)] := by
      unfold leaveD
      simp
    rw [ee]
    exact leave_loop c.bw c.bt c.o r u p c.br c.bs c.bf ts.length c.cap c.bu ts.length ts.length 4 (.inl rfl) w _ (Srch c s bk ts up w0 (mks [(2 * r, p)] S)) hrI huI (by omega) (by omega) c0 c3 c4 cu a0 (h.mark (by omega) hp) (fun w' h' => ⟨h'.c4, h'.mark (by omega) hp⟩) (fun w' h' => h'.c4)
  · have ee : leaveD bk (⟨5, K, (x : Int), (y : Int)⟩ : Nd) u r p = [(2 * r, p), (2 * u + 1, p)] := by
      unfold leaveD
      simp
    rw [ee]
    exact leave_loop c.bw c.bt c.o r u p c.br c.bs c.bf ts.length c.cap c.bu ts.length ts.length 5 (.inr rfl) w _ (Srch c s bk ts up w0 (mks [(2 * r, p)] S)) hrI huI (by omega) (by omega) c0 c3 c4 cu a0 (h.mark (by omega) hp) (fun w' h' => ⟨h'.c4, h'.mark (by omega) hp⟩) (fun w' h' => h'.c4)
  · have ee : leaveD bk (⟨6, K, (x : Int), (y : Int)⟩ : Nd) u r p = [(2 * u + 1, p)] := by
      unfold leaveD
      simp
    rw [ee]
    exact leave_up c.bw c.bt c.o r u p c.br c.bs c.bf ts.length c.cap c.bu ts.length ts.length 6 (.inr rfl) w _ hrI huI (by omega) c0 c3 c4 cu a0 (h.mark (by omega) hp) (fun w' h' => h'.c4)
theorem next_empty {c : Cf} {s : ByteArray} {bk : Bool} {ts : List Nd} {up : Nat → Nat} {w0 w : World} {M : Nat → Nat → Bool} (h : Srch c s bk ts up w0 (M, []) w) :
    Calls Try.prog 81 #[.pointer (some ⟨c.bf, 0, none⟩)] w fun e w' => e = .returned (.tuple #[.agg #[.int .i64 0, .int .i64 0], .bool false]) ∧ Srch c s bk ts up w0 (M, []) w' := by
  obtain ⟨v, hf, hown⟩ := h.mm.fresh
  obtain ⟨ao, cap, rfl⟩ : ∃ ao cap, v = .slice ao 0 cap := by
    rcases hown.2 with ⟨rfl, _⟩ | ⟨g', cap, cur, rfl, _⟩
    · exact ⟨_, _, rfl⟩
    · exact ⟨_, _, rfl⟩
  exact (next_none c.bf ao cap w hf).mono fun e w' hh => ⟨hh.1, h.below hh.2⟩
theorem next_last {c : Cf} {s : ByteArray} {bk : Bool} {ts : List Nd} {up : Nat → Nat} {w0 w : World} {M : Nat → Nat → Bool} {F : List (Nat × Nat)} {g p : Nat} (h : Srch c s bk ts up w0 (M, F ++ [(g, p)]) w) :
    Calls Try.prog 81 #[.pointer (some ⟨c.bf, 0, none⟩)] w fun e w' => e = .returned (.tuple #[.agg #[.int .i64 (g : Int), .int .i64 (p : Int)], .bool true]) ∧ Srch c s bk ts up w0 (M, F) w' := by
  obtain ⟨v, hf, hown⟩ := h.mm.fresh
  have hspot : spotC (F ++ [(g, p)]) = spotC F ++ [.int .i64 (g : Int), .int .i64 (p : Int)] := by rw [spotC_append]; rfl
  dsimp only at hown
  rw [hspot, List.length_append] at hown
  have hcnt := h.mm.cnt
  have hsm := h.mm.small
  dsimp only at hcnt
  rw [List.length_append] at hcnt
  have hyl := spotC_len F
  have hm : F.length ≤ 100000000000 := by
    have : 2 * ts.length * (s.size + 1) ≤ 4000 * 1000001 := Nat.mul_le_mul (by omega) (by omega)
    omega
  refine (next_some c.B c.bf F.length g p v (spotC F) w hf hown hyl h.mm.hB.2.2 h.mm.B_le hm).mono ?_
  rintro e w' ⟨rfl, ⟨v', h1, h2⟩, h3, h4⟩
  have ty : ∀ {i : Nat} {a : Array Value} {T : TypeId} {fz : Nat × Nat}, w.heap[i]? = some (.cells a T fz) → T ≠ 115 → w'.heap[i]? = some (.cells a T fz) := fun {i a T fz} hi hne => by
    refine (h3 i (block_lt hi) (fun e => ?_)).trans hi
    subst e
    rw [hf] at hi
    injection hi with hi
    injection hi with _ hi _
    exact hne hi.symm
  have hk : Kept c.B w w' := ⟨h4, fun j cs T fz hj _ _ t3 _ => ty hj t3⟩
  obtain ⟨rv, q1, q2, q3, q4⟩ := h.mm.cells
  refine ⟨rfl, h.env.kept hk, ⟨h.mm.hB, ty h.mm.rows (by decide), ⟨rv, q1, ty q2 (by decide), fun g v hv => ?_, q4⟩, ty h.mm.str (by decide), ⟨v', h1, h2⟩, h.mm.inb, by dsimp only; omega, hsm⟩, h.kept.trans hk⟩
  rcases q3 g v hv with hh | ⟨b, e1, e2, e3⟩
  · exact .inl hh
  · exact .inr ⟨b, e1, e2, ty e3 (by decide)⟩
end Go.Proofs.Ytolofcfegoeenaa
