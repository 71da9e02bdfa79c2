/- Packed texts: ShApp. What each of them proves stands above its theorems; the conditions stand in these. -/
import Derived.Test.YtabkmimpkoiajaaDoorA1
namespace Go.Proofs.YtabkmimpkoiajaaDoor
open Go.RowKit Go.Lib

/-- A row of one's own from B on, whose elements lie below B. -/
def AppR {X : Type} (E : ElemP X) (e : TypeId) (B : Nat) (F : Nat → Prop) (w : World) (v : Value) (xs : List X) : Prop :=
  ∃ css : List (List Value), css.length = xs.length ∧ (∀ (i : Nat) (x : X) (cs : List Value), xs[i]? = some x → css[i]? = some cs → E.q F w x cs) ∧ w.ownsRow B e E.size v xs.length css.flatten ∧ ∀ g, F g → g < B
theorem AppR.begin {X : Type} (E : ElemP X) (e : TypeId) (w : World) : AppR E e w.heap.size NoneF (w.alloc (.cells #[] e)) (.slice (some ⟨w.heap.size, 0, none⟩) 0 0) ([] : List X) :=
  ⟨[], rfl, fun i x cs hx => by simp at hx, ⟨by simp, .inr ⟨w.heap.size, 0, #[], rfl, Nat.le_refl _, heap_alloc_new w _, Nat.le_refl _, by unfold maxLen; omega, by simp, by simp⟩⟩, fun g hg => hg.elim⟩
theorem AppR.row {X : Type} {E : ElemP X} {e : TypeId} {B : Nat} {F : Nat → Prop} {w : World} {v : Value} {xs : List X} (h : AppR E e B F w v xs) (hB : B ≤ w.heap.size) : RowM E e (fun g => g < w.heap.size) w v xs := by
  obtain ⟨css, h1, h2, h3, h4⟩ := h
  exact ⟨css, h1, fun i x cs hx hc => E.mono _ _ _ _ _ (fun g hg => by have := h4 g hg; omega) (h2 i x cs hx hc), ownS_base h3 (Nat.zero_le _), fun g hg => (ownS_lt h3 hg).2⟩
section
variable {P : Program}
theorem run_append_none (w : World) (base : Nat) (t ty e : TypeId) (i : TypeInfo) (size : Nat) (ht : P.underlying t = some (.slice e)) (hi : P.info? e = some i)
    (v : Value) (n : Nat) (xs : List Value) (hown : w.ownsRow base e size v n xs) : (Builtin.append_ #[t, t] ty #[v, .slice none 0 0]).run P w = .ok v w := by
  obtain ⟨ao, cap, rfl, hc⟩ := ownS_shape hown
  cases ao with
  | none => simp [Builtin.append_, run_underlying ht, sizeOf, typeInfo, hi, Builtin.lenOf, Builtin.firstCells, Result.andThen, hc]
  | some a => simp [Builtin.append_, run_underlying ht, sizeOf, typeInfo, hi, Builtin.lenOf, Builtin.firstCells, Result.andThen, hc, storeCells]
theorem run_append_rowM {X : Type} {E : ElemP X} (hone : ∀ F w x cs, E.q F w x cs → ∀ u ∈ cs, u.oneCell' = true) {t ty e : TypeId} {i : TypeInfo} {z : Value} {bytes : Nat} (ht : P.underlying t = some (.slice e)) (hi : P.info? e = some i) (hz : i.zero = some z)
    (hsize : i.size = E.size) (hby : i.bytes = bytes) (hzs : z.cells.size = E.size) (hsz : 0 < E.size)
    {B : Nat} {F G : Nat → Prop} {w : World} {v u : Value} {xs ys : List X} (h : AppR E e B F w v xs) (k : RowM E e G w u ys) (hG : ∀ g, G g → g < B) (hB : B ≤ w.heap.size)
    (h63 : xs.length + ys.length ≤ maxLen) (hbytes : (xs.length + ys.length) * bytes ≤ 140737488355328) :
    ∃ v' w', (Builtin.append_ #[t, t] ty #[v, u]).run P w = .ok v' w' ∧ AppR E e B (fun g => F g ∨ G g) w' v' (xs ++ ys) ∧ Below B w w' := by
  obtain ⟨css, h1, h2, h3, h4⟩ := h
  obtain ⟨dss, k1, k2, k3, k4⟩ := k
  have el : ∀ w' : World, Below B w w' → ∀ (i : Nat) (x : X) (cs : List Value), (xs ++ ys)[i]? = some x → (css ++ dss)[i]? = some cs → E.q (fun g => F g ∨ G g) w' x cs := by
    intro w' hb i x cs hx hc
    by_cases hi : i < xs.length
    · rw [List.getElem?_append_left hi] at hx
      rw [List.getElem?_append_left (by omega)] at hc
      exact E.mono _ _ _ _ _ (fun g hg => .inl hg) (E.same _ _ _ _ _ (fun g hg => hb.block g (h4 g hg)) (h2 i x cs hx hc))
    · rw [List.getElem?_append_right (by omega)] at hx
      rw [List.getElem?_append_right (by omega), h1] at hc
      exact E.mono _ _ _ _ _ (fun g hg => .inr hg) (E.same _ _ _ _ _ (fun g hg => hb.block g (hG g hg)) (k2 _ x cs hx hc))
  have lt : ∀ g, (F g ∨ G g) → g < B := fun g hg => hg.elim (h4 g) (hG g)
  rcases k3.2 with ⟨hn, h0⟩ | ⟨g, cap, cur, hv, _, hg, hc, hm, hcs, htk⟩
  · have e0 : ys = [] := by
      obtain ⟨_, _, e1, _⟩ := ownS_shape k3
      rw [hn] at e1
      injection e1 with _ e2 _
      exact List.eq_nil_of_length_eq_zero e2.symm
    subst e0
    subst hn
    have ed : dss = [] := List.eq_nil_of_length_eq_zero k1
    subst ed
    refine ⟨v, w, run_append_none w B t ty e i E.size ht hi v xs.length _ h3, ⟨css ++ [], by simpa using h1, el w (Below.refl _ _), ?_, lt⟩, Below.refl _ _⟩
    simpa using h3
  · have hall : ∀ y ∈ dss, ∀ u ∈ y, u.oneCell' = true := by
      intro y hy
      obtain ⟨j, hj⟩ := List.mem_iff_getElem?.1 hy
      have hjl : j < ys.length := by have := (List.getElem?_eq_some_iff.1 hj).1; omega
      exact hone _ _ _ _ (k2 j _ _ (List.getElem?_eq_getElem hjl) hj)
    have hnews : ∀ j u, dss.flatten[j]? = some u → w.cell? ((⟨g, 0, none⟩ : Addr).add j) = some u := k3.cells (by rw [hv]; rfl)
    rw [hv]
    obtain ⟨v', w', hr, r1, r2, _⟩ := run_append_own (P := P) w B t ty e i z E.size bytes ht hi hz hsize hby hzs hsz v xs.length css.flatten h3 ⟨g, 0, none⟩ ys.length cap dss.flatten k3.1 hnews (fun u hu => by
      obtain ⟨y, hy, huy⟩ := List.mem_flatten.1 hu
      exact hall y hy u huy) h63 hbytes hB
    have hb : Below B w w' := (Below.refl B w).grown r2 hB (fun g hg => (ownS_lt h3 hg).1)
    refine ⟨v', w', hr, ⟨css ++ dss, by rw [List.length_append, List.length_append, h1, k1], el w' hb, ?_, lt⟩, hb⟩
    rw [List.length_append, List.flatten_append]
    exact r1
/-- The same of an operation that stands behind a guard which holds. -/
theorem wpList_append_rowG {X : Type} {E : ElemP X} (hone : ∀ F w x cs, E.q F w x cs → ∀ u ∈ cs, u.oneCell' = true) (w : World) {ops : Array Oper} {rest : List Oper} {o : Oper} {a : Act} {Q : Exit → Act → World → Prop} (hgd : Region.wanted o (yielded ops a.tmps) = true) (s x : Operand) (t : TypeId)
    (ho : o.op = .call { callee := .builtin .append, args := #[s, x], argTypes := #[t, t] })
    {e : TypeId} {i : TypeInfo} {z : Value} {bytes : Nat} (ht : P.underlying t = some (.slice e)) (hi : P.info? e = some i) (hz : i.zero = some z)
    (hsize : i.size = E.size) (hby : i.bytes = bytes) (hzs : z.cells.size = E.size) (hsz : 0 < E.size)
    {B : Nat} {F G : Nat → Prop} {v u : Value} {xs ys : List X} (hs : a.eval s = v) (hx : a.eval x = u) (h : AppR E e B F w v xs) (k : RowM E e G w u ys) (hG : ∀ g, G g → g < B) (hB : B ≤ w.heap.size)
    (h63 : xs.length + ys.length ≤ maxLen) (hbytes : (xs.length + ys.length) * bytes ≤ 140737488355328)
    (hK : ∀ v' w', AppR E e B (fun g => F g ∨ G g) w' v' (xs ++ ys) → Below B w w' → wpList P ops Q rest (a.put o.dst v') w') : wpList P ops Q (o :: rest) a w := by
  refine wpList_step fun K hK' => ?_
  rw [if_pos hgd]
  obtain ⟨v', w', hr, h2, h3⟩ := run_append_rowM (P := P) (ty := o.type) hone ht hi hz hsize hby hzs hsz h k hG hB h63 hbytes
  unfold Oper.wp execOp
  simp only [ho, resolve, invoke, builtin, Sem.run_bind, Sem.run_pure, Result.andThen_ok, List.map_toArray, List.map_cons, List.map_nil, hs, hx, hr]
  exact hK' _ _ (hK v' w' h2 h3)
end
theorem cmd_one (n : Nat) : ∀ F w x cs, (cmdE (cosV n)).q F w x cs → ∀ u ∈ cs, u.oneCell' = true := by
  intro F w c cs h u hu
  obtain ⟨vn, vv, vw, va, vb, vc, rfl, k1, k2, k3, k4, k5, k6⟩ := h
  obtain ⟨_, _, rfl, _⟩ := str_shape k1
  obtain ⟨_, _, rfl, _⟩ := wds_shape k2
  obtain ⟨_, _, rfl, _⟩ := wds_shape k3
  obtain ⟨_, _, rfl, _⟩ := cos_shape k4
  obtain ⟨_, _, rfl, _⟩ := cos_shape k5
  obtain ⟨_, _, rfl, _⟩ := cos_shape k6
  simp only [List.mem_cons, List.not_mem_nil, or_false] at hu
  rcases hu with rfl | rfl | rfl | rfl | rfl | rfl | rfl <;> rfl
end Go.Proofs.YtabkmimpkoiajaaDoor
