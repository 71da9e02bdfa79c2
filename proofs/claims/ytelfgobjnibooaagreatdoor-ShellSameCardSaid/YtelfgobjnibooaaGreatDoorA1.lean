/- Packed texts: ShOwn, ShTree, ShAt, ShEq, ShCnt. What each of them proves stands above its theorems; the conditions stand in these. -/
import Derived.Lib.AppendStr
import Derived.Lib.Hide
import Derived.Test.YtelfgobjnibooaaGreatDoorA0
namespace Go.Proofs.YtelfgobjnibooaaGreatDoor
open Go.RowKit Go.Lib
theorem ownS_lt {w : World} {B g n size : Nat} {e : TypeId} {v : Value} {xs : List Value} (h : w.ownsRow B e size v n xs) (hg : v.ownBlock = some g) : B ≤ g ∧ g < w.heap.size := by
 rcases h.2 with ⟨rfl, _⟩ | ⟨g', cap, cur, rfl, hB, hgg, _⟩
 ·cases hg
 ·cases hg
  refine ⟨hB, ?_⟩
  by_cases hl : g' < w.heap.size
  ·exact hl
  ·rw [Array.getElem?_eq_none (Nat.le_of_not_lt hl)] at hgg; cases hgg
theorem ownS_same {w w' : World} {base n size : Nat} {e : TypeId} {v : Value} {xs : List Value} (h : w.ownsRow base e size v n xs) (hb : ∀ g, v.ownBlock = some g → w'.heap[g]? = w.heap[g]?) : w'.ownsRow base e size v n xs := by
 refine ⟨h.1, ?_⟩
 rcases h.2 with hn | ⟨g, cap, cur, rfl, hB, hg, rest⟩
 ·exact .inl hn
 ·exact .inr ⟨g, cap, cur, rfl, hB, (hb g rfl).trans hg, rest⟩
theorem ownS_base {w : World} {B B' n size : Nat} {e : TypeId} {v : Value} {xs : List Value} (h : w.ownsRow B e size v n xs) (hB : B' ≤ B) : w.ownsRow B' e size v n xs := by
 refine ⟨h.1, ?_⟩
 rcases h.2 with hn | ⟨g, cap, cur, rfl, hb, rest⟩
 ·exact .inl hn
 ·exact .inr ⟨g, cap, cur, rfl, by omega, rest⟩
theorem ownS_shape {w : World} {B k : Nat} {e : TypeId} {v : Value} {xs : List Value} {n : Nat} (h : w.ownsRow B e k v n xs) : ∃ ao cap, v = .slice ao n cap ∧ n ≤ cap := by
 rcases h.2 with ⟨rfl, rfl⟩ | ⟨g, cap, cur, rfl, _, _, hc, _⟩
 ·exact ⟨none, 0, rfl, Nat.le_refl _⟩
 ·exact ⟨_, cap, rfl, hc⟩
section
variable {P : Program}
theorem run_append_farG (w : World) (base : Nat) (t ty e : TypeId) (i : TypeInfo) (z : Value) (size bytes : Nat) (ht : P.underlying t = some (.slice e)) (hi : P.info? e = some i) (hz : i.zero = some z)
  (hsize : i.size = size) (hby : i.bytes = bytes) (hzs : z.cells.size = size) (hsz : 0 < size)
  (v : Value) (n : Nat) (xs : List Value) (hown : w.ownsRow base e size v n xs)
  (ad : Addr) (c : Nat) (news : List Value) (hl : news.length = size) (hnews : ∀ j u, news[j]? = some u → w.cell? (ad.add j) = some u) (h1 : ∀ u ∈ news, u.oneCell' = true)
  (h63 : n + 1 ≤ maxLen) (hbytes : (n + 1) * bytes ≤ 140737488355328) (hbase : base ≤ w.heap.size) :
  ∃ v' w', (Builtin.append_ #[t, t] ty #[v, .slice (some ad) 1 c]).run P w = .ok v' w' ∧ w'.ownsRow base e size v' (n + 1) (xs ++ news) ∧ w.grownBy w' v.ownBlock ∧ (v'.ownBlock = v.ownBlock ∨ v'.ownBlock = some w.heap.size) := by
 have hl1 : news.length = 1 * size := by omega
 obtain ⟨v', w', hr, h2, h3, _⟩ := run_append_own (P := P) w base t ty e i z size bytes ht hi hz hsize hby hzs hsz v n xs hown ad 1 c news hl1 hnews h1 h63 hbytes hbase
 refine ⟨v', w', hr, h2, h3, ?_⟩
 have hb1 : bytes ≤ 140737488355328 := by
  have : 1 * bytes ≤ (n + 1) * bytes := Nat.mul_le_mul_right _ (by omega)
  omega
 have h64 : n + 1 ≤ 9223372036854775807 := by unfold maxLen at h63; omega
 rcases hown.2 with ⟨rfl, rfl⟩ | ⟨g, cap, cur, rfl, hbg, hg, hnc, hcm, hcs, htake⟩
 ·have hr2 := run_append_nil (P := P) w t ty e i z ht hi hz ad 1 c news (by rw [hsize]; exact hl1) hnews (by decide) (by decide) (by rw [hby]; omega)
  rw [hr] at hr2
  injection hr2 with e1 e2
  exact .inr (by rw [e1]; rfl)
 ·by_cases hroom : n + 1 ≤ cap
  ·have hfit : n * i.size + news.length ≤ cur.size := by
    rw [hsize, hcs, hl]
    have : (n + 1) * size ≤ cap * size := Nat.mul_le_mul_right _ hroom
    rw [Nat.add_mul] at this
    omega
   have hr2 := run_append_room (P := P) w t ty e i ht hi g n cap cur hg ad 1 c news (by rw [hsize]; exact hl1) hnews h1 hroom hfit
   rw [hr] at hr2
   injection hr2 with e1 e2
   exact .inl (by rw [e1]; rfl)
  ·have holds : ∀ j x, xs[j]? = some x → w.cell? ((⟨g, 0, none⟩ : Addr).add j) = some x := hown.cells (g := g) rfl
   have hr2 := run_append_grow (P := P) w t ty e i z ht hi hz ⟨g, 0, none⟩ n cap xs (by rw [hsize]; exact hown.1) holds ad 1 c news (by rw [hsize]; exact hl1) hnews (by omega) (by omega) (growslice_fits (by omega) (by rw [hby]; exact hbytes))
   rw [hr] at hr2
   injection hr2 with e1 e2
   exact .inr (by rw [e1]; rfl)
theorem wp_append_farG (w : World) {o : Oper} {a : Act} {K : Act → World → Prop} {Q : Exit → Act → World → Prop} (s x : Operand) (t : TypeId)
  (ho : o.op = .call { callee := .builtin .append, args := #[s, x], argTypes := #[t, t] })
  (base : Nat) (e : TypeId) (i : TypeInfo) (z : Value) (size bytes : Nat) (ht : P.underlying t = some (.slice e)) (hi : P.info? e = some i) (hz : i.zero = some z)
  (hsize : i.size = size) (hby : i.bytes = bytes) (hzs : z.cells.size = size) (hsz : 0 < size)
  (v : Value) (n : Nat) (xs : List Value) (hs : a.eval s = v) (hown : w.ownsRow base e size v n xs)
  (ad : Addr) (c : Nat) (news : List Value) (hx : a.eval x = .slice (some ad) 1 c) (hl : news.length = size) (hnews : ∀ j u, news[j]? = some u → w.cell? (ad.add j) = some u) (h1 : ∀ u ∈ news, u.oneCell' = true)
  (h63 : n + 1 ≤ maxLen) (hbytes : (n + 1) * bytes ≤ 140737488355328) (hbase : base ≤ w.heap.size)
  (h : ∀ v' w', w'.ownsRow base e size v' (n + 1) (xs ++ news) → w.grownBy w' v.ownBlock → (v'.ownBlock = v.ownBlock ∨ v'.ownBlock = some w.heap.size) → K (a.put o.dst v') w') : o.wp P a w K Q := by
 obtain ⟨v', w', hr, h2, h3, h4⟩ := run_append_farG (P := P) w base t o.type e i z size bytes ht hi hz hsize hby hzs hsz v n xs hown ad c news hl hnews h1 h63 hbytes hbase
 unfold Oper.wp execOp
 simp only [ho, resolve, invoke, builtin, Sem.run_bind, Sem.run_pure, Result.andThen_ok, List.map_toArray, List.map_cons, List.map_nil, hs, hx, hr]
 exact h v' w' h2 h3 h4
theorem wpList_append_farG (w : World) {ops : Array Oper} {rest : List Oper} {o : Oper} {a : Act} {Q : Exit → Act → World → Prop} (hgd : o.guard = none) (s x : Operand) (t : TypeId)
  (ho : o.op = .call { callee := .builtin .append, args := #[s, x], argTypes := #[t, t] })
  (base : Nat) (e : TypeId) (i : TypeInfo) (z : Value) (size bytes : Nat) (ht : P.underlying t = some (.slice e)) (hi : P.info? e = some i) (hz : i.zero = some z)
  (hsize : i.size = size) (hby : i.bytes = bytes) (hzs : z.cells.size = size) (hsz : 0 < size)
  (v : Value) (n : Nat) (xs : List Value) (hs : a.eval s = v) (hown : w.ownsRow base e size v n xs)
  (ad : Addr) (c : Nat) (news : List Value) (hx : a.eval x = .slice (some ad) 1 c) (hl : news.length = size) (hnews : ∀ j u, news[j]? = some u → w.cell? (ad.add j) = some u) (h1 : ∀ u ∈ news, u.oneCell' = true)
  (h63 : n + 1 ≤ maxLen) (hbytes : (n + 1) * bytes ≤ 140737488355328) (hbase : base ≤ w.heap.size)
  (h : ∀ v' w', w'.ownsRow base e size v' (n + 1) (xs ++ news) → w.grownBy w' v.ownBlock → (v'.ownBlock = v.ownBlock ∨ v'.ownBlock = some w.heap.size) → wpList P ops Q rest (a.put o.dst v') w') : wpList P ops Q (o :: rest) a w :=
 wpList_plain hgd fun _ hK => wp_append_farG w s x t ho base e i z size bytes ht hi hz hsize hby hzs hsz v n xs hs hown ad c news hx hl hnews h1 h63 hbytes hbase fun v' w' h2 h3 h4 => hK _ _ (h v' w' h2 h3 h4)
theorem step_append_farG {ops : Array Oper} {o : Oper} {a : Act} {w : World} {K : Act → World → Prop} {Q : Exit → Act → World → Prop} {E : Prop}
  (hg : o.guard = none) (s x : Operand) (t : TypeId) (ho : o.op = .call { callee := .builtin .append, args := #[s, x], argTypes := #[t, t] })
  (base : Nat) (e : TypeId) (i : TypeInfo) (z : Value) (size bytes : Nat) (ht : P.underlying t = some (.slice e)) (hi : P.info? e = some i) (hz : i.zero = some z)
  (hsize : i.size = size) (hby : i.bytes = bytes) (hzs : z.cells.size = size) (hsz : 0 < size)
  (v : Value) (n : Nat) (xs : List Value) (hs : a.eval s = v) (hown : w.ownsRow base e size v n xs)
  (ad : Addr) (c : Nat) (news : List Value) (hx : a.eval x = .slice (some ad) 1 c) (hl : news.length = size) (hnews : ∀ j u, news[j]? = some u → w.cell? (ad.add j) = some u) (h1 : ∀ u ∈ news, u.oneCell' = true)
  (h63 : n + 1 ≤ maxLen) (hbytes : (n + 1) * bytes ≤ 140737488355328) (hbase : base ≤ w.heap.size)
  (h : ∀ v' w', w'.ownsRow base e size v' (n + 1) (xs ++ news) → w.grownBy w' v.ownBlock → (v'.ownBlock = v.ownBlock ∨ v'.ownBlock = some w.heap.size) → K (a.put o.dst v') w') :
  if Region.wanted o (yielded ops a.tmps) = true then Oper.wp P o a w K Q else E := by
 have hw : Region.wanted o (yielded ops a.tmps) = true := by simp [Region.wanted, hg]
 rw [if_pos hw]
 exact wp_append_farG w s x t ho base e i z size bytes ht hi hz hsize hby hzs hsz v n xs hs hown ad c news hx hl hnews h1 h63 hbytes hbase h
theorem run_append_farS (w : World) (base : Nat) (t u ty e : TypeId) (i : TypeInfo) (ht : P.underlying t = some (.slice e)) (hu : P.underlying u = some .string) (hi : P.info? e = some i) (hz : i.zero = some (.int .u8 0))
  (hsize : i.size = 1) (hby : i.bytes = 1)
  (v : Value) (n : Nat) (xs : List Value) (hown : w.ownsRow base e 1 v n xs) (s : ByteArray)
  (h63 : n + s.size ≤ maxLen) (hbytes : n + s.size ≤ 140737488355328) (hbase : base ≤ w.heap.size) :
  ∃ v' w', (Builtin.append_ #[t, u] ty #[v, .string s]).run P w = .ok v' w' ∧ w'.ownsRow base e 1 v' (n + s.size) (xs ++ strCells s) ∧ w.grownBy w' v.ownBlock ∧ (v'.ownBlock = v.ownBlock ∨ v'.ownBlock = some w.heap.size) := by
 obtain ⟨v', w', hr, h2, h3, h4⟩ := run_append_own_string (P := P) w base t u ty e i ht hu hi hz hsize hby v n xs hown s h63 hbytes hbase
 refine ⟨v', w', hr, h2, h3, ?_⟩
 have hxl : xs.length = n := by simpa using hown.1
 have h64 : n + s.size ≤ 9223372036854775807 := by unfold maxLen at h63; omega
 rcases hown.2 with ⟨rfl, rfl⟩ | ⟨g, cap, cur, rfl, hbg, hg, hnc, hcm, hcs, htake⟩
 ·by_cases hm : s.size = 0
  ·exact .inl (by rw [h4.2 ⟨rfl, hm⟩])
  ·have hr2 := run_append_nil_string (P := P) w t u ty e i (.int .u8 0) ht hu hi hz s (by omega) (by omega) (by rw [hby]; omega)
   rw [hr] at hr2
   injection hr2 with e1 e2
   exact .inr (by rw [e1]; rfl)
 ·by_cases hroom : n + s.size ≤ cap
  ·have hcs' : cur.size = cap := by simpa using hcs
   have hr2 := run_append_room_string (P := P) w t u ty e i ht hu hi hsize g n cap cur hg s hroom (by omega)
   rw [hr] at hr2
   injection hr2 with e1 e2
   exact .inl (by rw [e1]; rfl)
  ·have holds : ∀ j x, xs[j]? = some x → w.cell? ((⟨g, 0, none⟩ : Addr).add j) = some x := hown.cells (g := g) rfl
   have hr2 := run_append_grow_string (P := P) w t u ty e i (.int .u8 0) ht hu hi hz ⟨g, 0, none⟩ n cap xs (by rw [hsize]; simpa using hxl) holds s (by omega) (by omega) (by rw [hby]; exact growslice_fits (by omega) (by omega))
   rw [hr] at hr2
   injection hr2 with e1 e2
   exact .inr (by rw [e1]; rfl)
theorem wpList_append_farS (w : World) {ops : Array Oper} {rest : List Oper} {o : Oper} {a : Act} {Q : Exit → Act → World → Prop} (hgd : o.guard = none) (sl x : Operand) (t u : TypeId)
  (ho : o.op = .call { callee := .builtin .append, args := #[sl, x], argTypes := #[t, u] })
  (base : Nat) (e : TypeId) (i : TypeInfo) (ht : P.underlying t = some (.slice e)) (hu : P.underlying u = some .string) (hi : P.info? e = some i) (hz : i.zero = some (.int .u8 0))
  (hsize : i.size = 1) (hby : i.bytes = 1)
  (v : Value) (n : Nat) (xs : List Value) (hs : a.eval sl = v) (hown : w.ownsRow base e 1 v n xs) (s : ByteArray) (hx : a.eval x = .string s)
  (h63 : n + s.size ≤ maxLen) (hbytes : n + s.size ≤ 140737488355328) (hbase : base ≤ w.heap.size)
  (h : ∀ v' w', w'.ownsRow base e 1 v' (n + s.size) (xs ++ strCells s) → w.grownBy w' v.ownBlock → (v'.ownBlock = v.ownBlock ∨ v'.ownBlock = some w.heap.size) → wpList P ops Q rest (a.put o.dst v') w') : wpList P ops Q (o :: rest) a w := by
 refine wpList_plain hgd fun K hK => ?_
 obtain ⟨v', w', hr, h2, h3, h4⟩ := run_append_farS (P := P) w base t u o.type e i ht hu hi hz hsize hby v n xs hown s h63 hbytes hbase
 unfold Oper.wp execOp
 simp only [ho, resolve, invoke, builtin, Sem.run_bind, Sem.run_pure, Result.andThen_ok, List.map_toArray, List.map_cons, List.map_nil, hs, hx, hr]
 exact hK _ _ (h v' w' h2 h3 h4)
end
structure ElemP (X : Type) where
 q : (Nat → Prop) → World → X → List Value → Prop
 size : Nat
 len : ∀ F w x cs, q F w x cs → cs.length = size
 mono : ∀ (F F' : Nat → Prop) w x cs, (∀ g, F g → F' g) → q F w x cs → q F' w x cs
 same : ∀ (F : Nat → Prop) w w' x cs, (∀ g, F g → w'.heap[g]? = w.heap[g]?) → q F w x cs → q F w' x cs
def RowM {X : Type} (E : ElemP X) (e : TypeId) (F : Nat → Prop) (w : World) (v : Value) (xs : List X) : Prop :=
 ∃ css : List (List Value), css.length = xs.length ∧ (∀ (i : Nat) (x : X) (cs : List Value), xs[i]? = some x → css[i]? = some cs → E.q F w x cs) ∧ w.ownsRow 0 e E.size v xs.length css.flatten ∧ ∀ g, v.ownBlock = some g → F g
theorem RowM.mono {X : Type} {E : ElemP X} {e : TypeId} {F F' : Nat → Prop} {w : World} {v : Value} {xs : List X} (h : RowM E e F w v xs) (hF : ∀ g, F g → F' g) : RowM E e F' w v xs := by
 obtain ⟨css, h1, h2, h3, h4⟩ := h
 exact ⟨css, h1, fun i x cs hx hc => E.mono _ _ _ _ _ hF (h2 i x cs hx hc), h3, fun g hg => hF g (h4 g hg)⟩
theorem RowM.same {X : Type} {E : ElemP X} {e : TypeId} {F : Nat → Prop} {w w' : World} {v : Value} {xs : List X} (h : RowM E e F w v xs) (hF : ∀ g, F g → w'.heap[g]? = w.heap[g]?) : RowM E e F w' v xs := by
 obtain ⟨css, h1, h2, h3, h4⟩ := h
 exact ⟨css, h1, fun i x cs hx hc => E.same _ _ _ _ _ hF (h2 i x cs hx hc), ownS_same h3 fun g hg => hF g (h4 g hg), h4⟩
theorem RowM.nil {X : Type} (E : ElemP X) (e : TypeId) (F : Nat → Prop) (w : World) : RowM E e F w (.slice none 0 0) ([] : List X) :=
 ⟨[], rfl, fun i x cs hx => by simp at hx, World.ownsRow_nil _ _ _ _, fun g hg => by cases hg⟩
theorem RowM.shape {X : Type} {E : ElemP X} {e : TypeId} {F : Nat → Prop} {w : World} {v : Value} {xs : List X} (h : RowM E e F w v xs) : ∃ ao cap, v = .slice ao xs.length cap ∧ xs.length ≤ cap := by
 obtain ⟨css, h1, h2, h3, h4⟩ := h
 exact ownS_shape h3
def NewF (lo hi : Nat) : Nat → Prop := fun g => lo ≤ g ∧ g < hi
theorem ownS_one {w : World} {B B' n size : Nat} {e : TypeId} {v : Value} {xs ys : List Value} (h : w.ownsRow B e size v n xs) (k : w.ownsRow B' e size v n ys) : xs = ys := by
 rcases h.2 with ⟨rfl, rfl⟩ | ⟨g, cap, cur, rfl, _, hg, _, _, _, ht⟩
 ·have h1 := h.1
  have k1 := k.1
  rw [Nat.zero_mul] at h1 k1
  rw [List.eq_nil_of_length_eq_zero h1, List.eq_nil_of_length_eq_zero k1]
 ·rcases k.2 with ⟨e0, _⟩ | ⟨g', cap', cur', hv, _, hg', _, _, _, ht'⟩
  ·cases e0
  ·cases hv
   rw [hg] at hg'
   cases hg'
   rw [← ht, ← ht']
def BldA {X : Type} (E : ElemP X) (e : TypeId) (B : Nat) (A : Nat → Prop) (w : World) (v : Value) (xs : List X) : Prop :=
 ∃ (css : List (List Value)) (F : Nat → Prop), css.length = xs.length ∧ (∀ (i : Nat) (x : X) (cs : List Value), xs[i]? = some x → css[i]? = some cs → E.q F w x cs) ∧ w.ownsRow B e E.size v xs.length css.flatten ∧ (∀ g, F g → B ≤ g ∧ g < w.heap.size) ∧ (∀ g, v.ownBlock = some g → ¬ F g) ∧ ∀ g, A g → ¬ F g ∧ v.ownBlock ≠ some g
def NoneF : Nat → Prop := fun _ => False
abbrev BldM {X : Type} (E : ElemP X) (e : TypeId) (B : Nat) (w : World) (v : Value) (xs : List X) : Prop := BldA E e B NoneF w v xs
theorem BldA.nil {X : Type} (E : ElemP X) (e : TypeId) (B : Nat) (A : Nat → Prop) (w : World) : BldA E e B A w (.slice none 0 0) ([] : List X) :=
 ⟨[], fun _ => False, rfl, fun i x cs hx => by simp at hx, World.ownsRow_nil _ _ _ _, fun g hg => hg.elim, fun g hg => (by cases hg), fun g _ => ⟨fun h => h, fun h => (by cases h)⟩⟩
theorem BldM.nil {X : Type} (E : ElemP X) (e : TypeId) (B : Nat) (w : World) : BldM E e B w (.slice none 0 0) ([] : List X) := BldA.nil E e B _ w
theorem BldA.same {X : Type} {E : ElemP X} {e : TypeId} {B : Nat} {A : Nat → Prop} {w w' : World} {v : Value} {xs : List X} (h : BldA E e B A w v xs) (hs : w.heap.size ≤ w'.heap.size) (hb : ∀ g, B ≤ g → g < w.heap.size → ¬ A g → w'.heap[g]? = w.heap[g]?) : BldA E e B A w' v xs := by
 obtain ⟨css, F, h1, h2, h3, h4, h5, h6⟩ := h
 exact ⟨css, F, h1, fun i x cs hx hc => E.same _ _ _ _ _ (fun g hg => hb g (h4 g hg).1 (h4 g hg).2 fun ha => (h6 g ha).1 hg) (h2 i x cs hx hc), ownS_same h3 fun g hg => hb g (ownS_lt h3 hg).1 (ownS_lt h3 hg).2 (fun ha => (h6 g ha).2 hg), fun g hg => ⟨(h4 g hg).1, Nat.lt_of_lt_of_le (h4 g hg).2 hs⟩, h5, h6⟩
theorem BldA.avoid {X : Type} {E : ElemP X} {e : TypeId} {B : Nat} {A A' : Nat → Prop} {w : World} {v : Value} {xs : List X} (h : BldA E e B A w v xs) (hA : ∀ g, A' g → A g ∨ w.heap.size ≤ g) : BldA E e B A' w v xs := by
 obtain ⟨css, F, h1, h2, h3, h4, h5, h6⟩ := h
 refine ⟨css, F, h1, h2, h3, h4, h5, fun g ha => ?_⟩
 rcases hA g ha with h | h
 ·exact h6 g h
 ·exact ⟨fun hf => by have := (h4 g hf).2; omega, fun hv => by have := (ownS_lt h3 hv).2; omega⟩
theorem BldA.row {X : Type} {E : ElemP X} {e : TypeId} {B : Nat} {A : Nat → Prop} {w : World} {v : Value} {xs : List X} (h : BldA E e B A w v xs) : RowM E e (NewF B w.heap.size) w v xs := by
 obtain ⟨css, F, h1, h2, h3, h4, h5, h6⟩ := h
 exact ⟨css, h1, fun i x cs hx hc => E.mono _ _ _ _ _ (fun g hg => h4 g hg) (h2 i x cs hx hc), ownS_base h3 (Nat.zero_le _), fun g hg => ownS_lt h3 hg⟩
theorem BldA.own {X : Type} {E : ElemP X} {e : TypeId} {B : Nat} {A : Nat → Prop} {w : World} {v : Value} {xs : List X} (h : BldA E e B A w v xs) : ∃ ys, w.ownsRow B e E.size v xs.length ys := by
 obtain ⟨css, F, h1, h2, h3, h4, h5, h6⟩ := h
 exact ⟨_, h3⟩
theorem BldA.lt {X : Type} {E : ElemP X} {e : TypeId} {B : Nat} {A : Nat → Prop} {w : World} {v : Value} {xs : List X} (h : BldA E e B A w v xs) : ∀ g, v.ownBlock = some g → B ≤ g ∧ g < w.heap.size := by
 obtain ⟨css, F, h1, h2, h3, h4, h5, h6⟩ := h
 exact fun g hg => ownS_lt h3 hg
theorem BldA.snoc {X : Type} {E : ElemP X} {e : TypeId} {B : Nat} {A Fx : Nat → Prop} {w w6 : World} {v v6 : Value} {xs : List X} {ys cs : List Value} {x : X} (h : BldA E e B A w v xs) (hx : E.q Fx w x cs) (hF : ∀ g, Fx g → B ≤ g ∧ g < w.heap.size) (hv : ∀ g, Fx g → v.ownBlock ≠ some g) (hA : ∀ g, A g → ¬ Fx g ∧ g < w.heap.size)
  (hy : w.ownsRow B e E.size v xs.length ys) (h6 : w6.ownsRow B e E.size v6 (xs.length + 1) (ys ++ cs)) (hg : w.grownBy w6 v.ownBlock) (hf : v6.ownBlock = v.ownBlock ∨ v6.ownBlock = some w.heap.size) : BldA E e B A w6 v6 (xs ++ [x]) := by
 obtain ⟨css, F, h1, h2, h3, h4, h5, hAF⟩ := h
 have eys := ownS_one hy h3
 subst eys
 have keep : ∀ g, (F g ∨ Fx g) → w6.heap[g]? = w.heap[g]? := fun g h => hg.block g (by
  rcases h with h | h
  ·exact (h4 g h).2
  ·exact (hF g h).2) (fun e' => by
   rcases h with h | h
   ·exact h5 g e'.symm h
   ·exact hv g h e'.symm)
 refine ⟨css ++ [cs], fun g => F g ∨ Fx g, by rw [List.length_append, List.length_append, h1]; rfl, ?_, ?_, ?_, ?_, ?_⟩
 ·intro i y ds hy hd
  by_cases hi : i < xs.length
  ·rw [List.getElem?_append_left hi] at hy
   rw [List.getElem?_append_left (by omega)] at hd
   exact E.same _ _ _ _ _ keep (E.mono _ _ _ _ _ (fun g h => .inl h) (h2 i y ds hy hd))
  ·rw [List.getElem?_append_right (by omega)] at hy
   rw [List.getElem?_append_right (by omega)] at hd
   have hi0 : i - xs.length = 0 := by
    by_cases h : i - xs.length = 0
    ·exact h
    ·rw [List.getElem?_eq_none (by simp; omega)] at hy; cases hy
   rw [hi0] at hy
   rw [h1, hi0] at hd
   cases hy; cases hd
   exact E.same _ _ _ _ _ keep (E.mono _ _ _ _ _ (fun g h => .inr h) hx)
 ·rw [List.length_append, List.flatten_append]
  simpa using h6
 ·intro g h
  have hs := hg.size
  rcases h with h | h
  ·exact ⟨(h4 g h).1, Nat.lt_of_lt_of_le (h4 g h).2 hs⟩
  ·exact ⟨(hF g h).1, Nat.lt_of_lt_of_le (hF g h).2 hs⟩
 ·intro g hg6 h
  rcases hf with hf | hf
  ·rw [hf] at hg6
   rcases h with h | h
   ·exact h5 g hg6 h
   ·exact hv g h hg6
  ·rw [hf] at hg6
   cases hg6
   rcases h with h | h
   ·have h7 := (h4 _ h).2; omega
   ·have h7 := (hF _ h).2; omega
 ·intro g ha
  obtain ⟨a1, a2⟩ := hAF g ha
  obtain ⟨a3, a4⟩ := hA g ha
  refine ⟨fun h => ?_, fun h => ?_⟩
  ·rcases h with h | h
   ·exact a1 h
   ·exact a3 h
  ·rcases hf with hf | hf
   ·rw [hf] at h; exact a2 h
   ·rw [hf] at h; cases h; omega
end Go.Proofs.YtelfgobjnibooaaGreatDoor
namespace Go.Proofs.YtelfgobjnibooaaGreatDoor
open Go.RowKit Go.Lib
structure ValP (X : Type) where
 q : (Nat → Prop) → World → Value → X → Prop
 mono : ∀ (F F' : Nat → Prop) w v x, (∀ g, F g → F' g) → q F w v x → q F' w v x
 same : ∀ (F : Nat → Prop) w w' v x, (∀ g, F g → w'.heap[g]? = w.heap[g]?) → q F w v x → q F w' v x
def RowV {X : Type} (E : ElemP X) (e : TypeId) : ValP (List X) := ⟨RowM E e, fun _ _ _ _ _ h k => RowM.mono k h, fun _ _ _ _ _ h k => RowM.same k h⟩
def strE : ElemP (List UInt8) where
 q _ _ x cs := cs = [.string ⟨x.toArray⟩]
 size := 1
 len _ _ x cs h := by rw [h]; rfl
 mono _ _ _ _ _ _ h := h
 same _ _ _ _ _ _ h := h
def partE (L : ValP (List Co)) : ElemP Pt where
 q F w x cs := ∃ vl, cs = [.int .i64 (x.k : Int), .bool x.q, .string ⟨x.s.toArray⟩, .string ⟨x.t.toArray⟩, vl] ∧ L.q F w vl x.l
 size := 5
 len _ _ x cs h := by obtain ⟨vl, rfl, _⟩ := h; rfl
 mono F F' w x cs hF h := by obtain ⟨vl, h1, h2⟩ := h; exact ⟨vl, h1, L.mono _ _ _ _ _ hF h2⟩
 same F w w' x cs hF h := by obtain ⟨vl, h1, h2⟩ := h; exact ⟨vl, h1, L.same _ _ _ _ _ hF h2⟩
def wordE (V : ValP (List Pt)) : ElemP (List Pt) where
 q F w x cs := ∃ u, cs = [u] ∧ V.q F w u x
 size := 1
 len _ _ x cs h := by obtain ⟨vl, rfl, _⟩ := h; rfl
 mono F F' w x cs hF h := by obtain ⟨vl, h1, h2⟩ := h; exact ⟨vl, h1, V.mono _ _ _ _ _ hF h2⟩
 same F w w' x cs hF h := by obtain ⟨vl, h1, h2⟩ := h; exact ⟨vl, h1, V.same _ _ _ _ _ hF h2⟩
def StrV : ValP (List (List UInt8)) := RowV strE 9
def PtsV (L : ValP (List Co)) : ValP (List Pt) := RowV (partE L) 42
def WdsV (L : ValP (List Co)) : ValP (List (List Pt)) := RowV (wordE (PtsV L)) 40
def cmdE (L : ValP (List Co)) : ElemP Co where
 q F w c cs := ∃ vn vv vw va vb vc, cs = [.int .i64 (c.k : Int), vn, vv, vw, va, vb, vc] ∧ StrV.q F w vn c.n ∧ (WdsV L).q F w vv c.v ∧ (WdsV L).q F w vw c.w ∧ L.q F w va c.a ∧ L.q F w vb c.b ∧ L.q F w vc c.c
 size := 7
 len _ _ x cs h := by obtain ⟨_, _, _, _, _, _, rfl, _⟩ := h; rfl
 mono F F' w x cs hF h := by
  obtain ⟨vn, vv, vw, va, vb, vc, h0, h1, h2, h3, h4, h5, h6⟩ := h
  exact ⟨vn, vv, vw, va, vb, vc, h0, StrV.mono _ _ _ _ _ hF h1, (WdsV L).mono _ _ _ _ _ hF h2, (WdsV L).mono _ _ _ _ _ hF h3, L.mono _ _ _ _ _ hF h4, L.mono _ _ _ _ _ hF h5, L.mono _ _ _ _ _ hF h6⟩
 same F w w' x cs hF h := by
  obtain ⟨vn, vv, vw, va, vb, vc, h0, h1, h2, h3, h4, h5, h6⟩ := h
  exact ⟨vn, vv, vw, va, vb, vc, h0, StrV.same _ _ _ _ _ hF h1, (WdsV L).same _ _ _ _ _ hF h2, (WdsV L).same _ _ _ _ _ hF h3, L.same _ _ _ _ _ hF h4, L.same _ _ _ _ _ hF h5, L.same _ _ _ _ _ hF h6⟩
def cosV : Nat → ValP (List Co)
 | 0 => ⟨fun _ _ v l => v = .slice none 0 0 ∧ l = [], fun _ _ _ _ _ _ h => h, fun _ _ _ _ _ _ h => h⟩
 | n + 1 => RowV (cmdE (cosV n)) 37
def Ups {X : Type} (L M : ValP X) : Prop := ∀ F w v x, L.q F w v x → M.q F w v x
theorem row_ups {X : Type} {E E' : ElemP X} {e : TypeId} (hs : E.size = E'.size) (h : ∀ F w x cs, E.q F w x cs → E'.q F w x cs) : Ups (RowV E e) (RowV E' e) := by
 intro F w v x hr
 obtain ⟨css, h1, h2, h3, h4⟩ := hr
 exact ⟨css, h1, fun i x cs hx hc => h _ _ _ _ (h2 i x cs hx hc), by rw [← hs]; exact h3, h4⟩
theorem pts_ups {L M : ValP (List Co)} (h : Ups L M) : Ups (PtsV L) (PtsV M) := row_ups rfl fun F w x cs hq => by
 obtain ⟨vl, h1, h2⟩ := hq; exact ⟨vl, h1, h _ _ _ _ h2⟩
theorem wds_ups {L M : ValP (List Co)} (h : Ups L M) : Ups (WdsV L) (WdsV M) := row_ups rfl fun F w x cs hq => by
 obtain ⟨vl, h1, h2⟩ := hq; exact ⟨vl, h1, pts_ups h _ _ _ _ h2⟩
theorem cmd_ups {L M : ValP (List Co)} (h : Ups L M) (F : Nat → Prop) (w : World) (c : Co) (cs : List Value) (hq : (cmdE L).q F w c cs) : (cmdE M).q F w c cs := by
 obtain ⟨vn, vv, vw, va, vb, vc, h0, h1, h2, h3, h4, h5, h6⟩ := hq
 exact ⟨vn, vv, vw, va, vb, vc, h0, h1, wds_ups h _ _ _ _ h2, wds_ups h _ _ _ _ h3, h _ _ _ _ h4, h _ _ _ _ h5, h _ _ _ _ h6⟩
theorem cos_succ : ∀ n, Ups (cosV n) (cosV (n + 1))
 | 0 => fun F w v x h => by
  obtain ⟨rfl, rfl⟩ := h
  exact RowM.nil _ _ _ _
 | n + 1 => row_ups rfl (cmd_ups (cos_succ n))
theorem cos_ups {m n : Nat} (h : m ≤ n) : Ups (cosV m) (cosV n) := by
 induction h with
 | refl => exact fun _ _ _ _ h => h
 | step _ ih => exact fun F w v x h => cos_succ _ _ _ _ _ (ih F w v x h)
theorem cos_nil (n : Nat) (F : Nat → Prop) (w : World) : (cosV n).q F w (.slice none 0 0) [] := cos_ups (Nat.zero_le n) F w _ _ ⟨rfl, rfl⟩
theorem cos_shape {n : Nat} {F : Nat → Prop} {w : World} {v : Value} {l : List Co} (h : (cosV n).q F w v l) : ∃ ao cap, v = .slice ao l.length cap ∧ l.length ≤ cap := RowM.shape (cos_succ n F w v l h)
theorem wds_shape {L : ValP (List Co)} {F : Nat → Prop} {w : World} {v : Value} {l : List (List Pt)} (h : (WdsV L).q F w v l) : ∃ ao cap, v = .slice ao l.length cap ∧ l.length ≤ cap := RowM.shape h
theorem pts_shape {L : ValP (List Co)} {F : Nat → Prop} {w : World} {v : Value} {l : List Pt} (h : (PtsV L).q F w v l) : ∃ ao cap, v = .slice ao l.length cap ∧ l.length ≤ cap := RowM.shape h
theorem str_shape {F : Nat → Prop} {w : World} {v : Value} {l : List (List UInt8)} (h : StrV.q F w v l) : ∃ ao cap, v = .slice ao l.length cap ∧ l.length ≤ cap := RowM.shape h
end Go.Proofs.YtelfgobjnibooaaGreatDoor
namespace Go.Proofs.YtelfgobjnibooaaGreatDoor
open Go.RowKit Go.Lib
theorem flat_eq {k : Nat} : ∀ (xss : List (List Value)) (i j : Nat) (x : List Value), (∀ y ∈ xss, y.length = k) → xss[i]? = some x → j < k → xss.flatten[i * k + j]? = x[j]?
 | [], i, j, x, _, h, _ => by simp at h
 | y :: r, 0, j, x, ha, h, hj => by
  cases h
  have hy := ha y (by simp)
  rw [List.flatten_cons, Nat.zero_mul, Nat.zero_add, List.getElem?_append_left (by omega)]
 | y :: r, i + 1, j, x, ha, h, hj => by
  have hy := ha y (by simp)
  have h' : r[i]? = some x := by simpa using h
  have e1 : (i + 1) * k = i * k + k := by rw [Nat.add_mul, Nat.one_mul]
  rw [List.flatten_cons, List.getElem?_append_right (by omega), hy]
  have : (i + 1) * k + j - k = i * k + j := by omega
  rw [this]
  exact flat_eq r i j x (fun z hz => ha z (by simp [hz])) h' hj
theorem RowM.at {X : Type} {E : ElemP X} {e : TypeId} {F : Nat → Prop} {w : World} {v : Value} {xs : List X} (h : RowM E e F w v xs) {i : Nat} {x : X} (hx : xs[i]? = some x) :
  ∃ g cap cs, v = .slice (some ⟨g, 0, none⟩) xs.length cap ∧ xs.length ≤ cap ∧ g < w.heap.size ∧ F g ∧ E.q F w x cs ∧ ∀ j u, j < E.size → cs[j]? = some u → w.cell? ⟨g, i * E.size + j, none⟩ = some u := by
 obtain ⟨css, h1, h2, h3, h4⟩ := h
 have hi : i < xs.length := (List.getElem?_eq_some_iff.1 hx).1
 obtain ⟨cs, hc⟩ : ∃ cs, css[i]? = some cs := ⟨css[i], List.getElem?_eq_getElem (by omega)⟩
 have hall : ∀ y ∈ css, y.length = E.size := by
  intro y hy
  obtain ⟨k, hk⟩ := List.mem_iff_getElem?.1 hy
  have hkl : k < xs.length := by have := (List.getElem?_eq_some_iff.1 hk).1; omega
  exact E.len _ _ _ _ (h2 k _ _ (List.getElem?_eq_getElem hkl) hk)
 rcases h3.2 with ⟨hn, _⟩ | ⟨g, cap, cur, rfl, hB, hg, hcap, _⟩
 ·exfalso
  obtain ⟨_, _, e1, _⟩ := ownS_shape h3
  rw [hn] at e1
  injection e1 with _ e2 _
  omega
 ·refine ⟨g, cap, cs, rfl, hcap, (ownS_lt h3 rfl).2, h4 g rfl, h2 i x cs hx hc, fun j u hj hu => ?_⟩
  have := h3.cells (g := g) rfl (i * E.size + j) u (by rw [flat_eq css i j cs hall hc hj]; exact hu)
  have hadd : (⟨g, 0, none⟩ : Addr).add (i * E.size + j) = ⟨g, i * E.size + j, none⟩ := by unfold Addr.add; split <;> simp_all
  rw [hadd] at this
  exact this
theorem RowM.short {X : Type} {E : ElemP X} {e : TypeId} {F : Nat → Prop} {w : World} {v : Value} {xs : List X} (h : RowM E e F w v xs) : xs.length ≤ maxLen := by
 obtain ⟨css, h1, h2, h3, h4⟩ := h
 rcases h3.2 with ⟨hn, _⟩ | ⟨g, cap, cur, rfl, hB, hg, hcap, hcm, _⟩
 ·obtain ⟨_, _, e1, _⟩ := ownS_shape h3
  rw [hn] at e1
  injection e1 with _ e2 _
  rw [← e2]
  exact Nat.zero_le _
 ·omega
theorem cos_short {n : Nat} {F : Nat → Prop} {w : World} {v : Value} {l : List Co} (h : (cosV n).q F w v l) : l.length ≤ maxLen := RowM.short (cos_succ n F w v l h)
theorem cmd_at {n : Nat} {F : Nat → Prop} {w : World} {v : Value} {cs : List Co} (h : (cosV (n + 1)).q F w v cs) {i : Nat} {c : Co} (hc : cs[i]? = some c) :
  ∃ g cap an nn cn av nv cv aw nw cw aa na ca ab nb cb ac nc cc, v = .slice (some ⟨g, 0, none⟩) cs.length cap ∧ cs.length ≤ cap ∧ g < w.heap.size ∧
   (w.cell? ⟨g, i * 7, none⟩ = some (.int .i64 (c.k : Int)) ∧ w.cell? ⟨g, i * 7 + 1, none⟩ = some (.slice an nn cn) ∧ w.cell? ⟨g, i * 7 + 2, none⟩ = some (.slice av nv cv) ∧ w.cell? ⟨g, i * 7 + 3, none⟩ = some (.slice aw nw cw) ∧ w.cell? ⟨g, i * 7 + 4, none⟩ = some (.slice aa na ca) ∧ w.cell? ⟨g, i * 7 + 5, none⟩ = some (.slice ab nb cb) ∧ w.cell? ⟨g, i * 7 + 6, none⟩ = some (.slice ac nc cc)) ∧
   (nn = c.n.length ∧ nn ≤ cn) ∧ (nv = c.v.length ∧ nv ≤ cv) ∧ (nw = c.w.length ∧ nw ≤ cw) ∧ (na = c.a.length ∧ na ≤ ca) ∧ (nb = c.b.length ∧ nb ≤ cb) ∧ (nc = c.c.length ∧ nc ≤ cc) ∧
   StrV.q F w (.slice an nn cn) c.n ∧ (WdsV (cosV n)).q F w (.slice av nv cv) c.v ∧ (WdsV (cosV n)).q F w (.slice aw nw cw) c.w ∧ (cosV n).q F w (.slice aa na ca) c.a ∧ (cosV n).q F w (.slice ab nb cb) c.b ∧ (cosV n).q F w (.slice ac nc cc) c.c := by
 obtain ⟨g, cap, ds, rfl, h2, h3, h4, h5, h6⟩ := RowM.at h hc
 obtain ⟨vn, vv, vw, va, vb, vc, rfl, k1, k2, k3, k4, k5, k6⟩ := h5
 obtain ⟨an, cn, rfl, l1⟩ := str_shape k1
 obtain ⟨av, cv, rfl, l2⟩ := wds_shape k2
 obtain ⟨aw, cw, rfl, l3⟩ := wds_shape k3
 obtain ⟨aa, ca, rfl, l4⟩ := cos_shape k4
 obtain ⟨ab, cb, rfl, l5⟩ := cos_shape k5
 obtain ⟨ac, cc, rfl, l6⟩ := cos_shape k6
 have hz : (cmdE (cosV n)).size = 7 := rfl
 rw [hz] at h6
 have h60 := h6 0 _ (by omega) rfl
 rw [Nat.add_zero] at h60
 exact ⟨g, cap, an, _, cn, av, _, cv, aw, _, cw, aa, _, ca, ab, _, cb, ac, _, cc, rfl, h2, h3, ⟨h60, h6 1 _ (by omega) rfl, h6 2 _ (by omega) rfl, h6 3 _ (by omega) rfl, h6 4 _ (by omega) rfl, h6 5 _ (by omega) rfl, h6 6 _ (by omega) rfl⟩, ⟨rfl, l1⟩, ⟨rfl, l2⟩, ⟨rfl, l3⟩, ⟨rfl, l4⟩, ⟨rfl, l5⟩, ⟨rfl, l6⟩, k1, k2, k3, k4, k5, k6⟩
theorem wd_at {L : ValP (List Co)} {F : Nat → Prop} {w : World} {v : Value} {ws : List (List Pt)} (h : (WdsV L).q F w v ws) {i : Nat} {x : List Pt} (hx : ws[i]? = some x) :
  ∃ g cap ao m cp, v = .slice (some ⟨g, 0, none⟩) ws.length cap ∧ ws.length ≤ cap ∧ g < w.heap.size ∧ w.cell? ⟨g, i, none⟩ = some (.slice ao m cp) ∧ m = x.length ∧ m ≤ cp ∧ (PtsV L).q F w (.slice ao m cp) x := by
 obtain ⟨g, cap, ds, rfl, h2, h3, h4, h5, h6⟩ := RowM.at h hx
 obtain ⟨u, rfl, k1⟩ := h5
 obtain ⟨ao, cp, rfl, l1⟩ := pts_shape k1
 have h60 := h6 0 _ (by show 0 < 1; omega) rfl
 have hz : (wordE (PtsV L)).size = 1 := rfl
 rw [hz, Nat.mul_one, Nat.add_zero] at h60
 exact ⟨g, cap, ao, _, cp, rfl, h2, h3, h60, rfl, l1, k1⟩
theorem pt_at {n : Nat} {F : Nat → Prop} {w : World} {v : Value} {ps : List Pt} (h : (PtsV (cosV n)).q F w v ps) {i : Nat} {x : Pt} (hx : ps[i]? = some x) :
  ∃ g cap ao m cp, v = .slice (some ⟨g, 0, none⟩) ps.length cap ∧ ps.length ≤ cap ∧ g < w.heap.size ∧
   (w.cell? ⟨g, i * 5, none⟩ = some (.int .i64 (x.k : Int)) ∧ w.cell? ⟨g, i * 5 + 1, none⟩ = some (.bool x.q) ∧ w.cell? ⟨g, i * 5 + 2, none⟩ = some (.string ⟨x.s.toArray⟩) ∧ w.cell? ⟨g, i * 5 + 3, none⟩ = some (.string ⟨x.t.toArray⟩) ∧ w.cell? ⟨g, i * 5 + 4, none⟩ = some (.slice ao m cp)) ∧
   m = x.l.length ∧ m ≤ cp ∧ (cosV n).q F w (.slice ao m cp) x.l := by
 obtain ⟨g, cap, ds, rfl, h2, h3, h4, h5, h6⟩ := RowM.at h hx
 obtain ⟨vl, rfl, k1⟩ := h5
 obtain ⟨ao, cp, rfl, l1⟩ := cos_shape k1
 have hz : (partE (cosV n)).size = 5 := rfl
 rw [hz] at h6
 have h60 := h6 0 _ (by omega) rfl
 rw [Nat.add_zero] at h60
 exact ⟨g, cap, ao, _, cp, rfl, h2, h3, ⟨h60, h6 1 _ (by omega) rfl, h6 2 _ (by omega) rfl, h6 3 _ (by omega) rfl, h6 4 _ (by omega) rfl⟩, rfl, l1, k1⟩
theorem nm_at {F : Nat → Prop} {w : World} {v : Value} {ns : List (List UInt8)} (h : StrV.q F w v ns) {i : Nat} {x : List UInt8} (hx : ns[i]? = some x) :
  ∃ g cap, v = .slice (some ⟨g, 0, none⟩) ns.length cap ∧ ns.length ≤ cap ∧ g < w.heap.size ∧ w.cell? ⟨g, i, none⟩ = some (.string ⟨x.toArray⟩) := by
 obtain ⟨g, cap, ds, rfl, h2, h3, h4, h5, h6⟩ := RowM.at h hx
 have h5 : ds = [.string ⟨x.toArray⟩] := h5
 subst h5
 have h60 := h6 0 _ (by show 0 < 1; omega) rfl
 have hz : strE.size = 1 := rfl
 rw [hz, Nat.mul_one, Nat.add_zero] at h60
 exact ⟨g, cap, rfl, h2, h3, h60⟩
theorem val_below {X : Type} {V : ValP X} {F : Nat → Prop} {w w' : World} {v : Value} {x : X} (h : V.q F w v x) (hF : ∀ g, F g → g < w.heap.size) (hb : Below w.heap.size w w') : V.q F w' v x := V.same _ _ _ _ _ (fun g hg => hb.block g (hF g hg)) h
end Go.Proofs.YtelfgobjnibooaaGreatDoor
namespace Go.Proofs.YtelfgobjnibooaaGreatDoor
open Go.RowKit Go.Lib
noncomputable def eqB {α : Type} (a b : α) : Bool := @decide (a = b) (Classical.propDecidable _)
theorem eqB_true {α : Type} {a b : α} : eqB a b = true ↔ a = b := by unfold eqB; simp
theorem eqB_false {α : Type} {a b : α} : eqB a b = false ↔ a ≠ b := by unfold eqB; simp
theorem eqB_self {α : Type} (a : α) : eqB a a = true := eqB_true.2 rfl
theorem eqB_len {α : Type} {a b : List α} (h : a.length ≠ b.length) : eqB a b = false := eqB_false.2 fun e => h (by rw [e])
theorem pt_eq (x y : Pt) : x = y ↔ x.l = y.l ∧ x.k = y.k ∧ x.q = y.q ∧ x.s = y.s ∧ x.t = y.t := by
 cases x; cases y
 simp only [PtX.mk.injEq]
 constructor
 ·rintro ⟨a, b, c, d, e⟩; exact ⟨e, a, b, c, d⟩
 ·rintro ⟨e, a, b, c, d⟩; exact ⟨a, b, c, d, e⟩
theorem co_eq (x y : Co) : x = y ↔ x.n = y.n ∧ (x.v = y.v ∧ x.w = y.w) ∧ (x.a = y.a ∧ x.b = y.b ∧ x.c = y.c) ∧ x.k = y.k := by
 cases x; cases y
 simp only [Co.mk.injEq, Co.k, Co.n, Co.v, Co.w, Co.a, Co.b, Co.c]
 constructor
 ·rintro ⟨a, b, c, d, e, f, g⟩; exact ⟨b, ⟨c, d⟩, ⟨e, f, g⟩, a⟩
 ·rintro ⟨b, ⟨c, d⟩, ⟨e, f, g⟩, a⟩; exact ⟨a, b, c, d, e, f, g⟩
theorem row_eq {α : Type} {a b : List α} {N : Nat} (ha : a.length = N) (hb : b.length = N) (h : ∀ q, q < N → a[q]? = b[q]?) : a = b := by
 apply List.ext_getElem?
 intro q
 by_cases hq : q < N
 ·exact h q hq
 ·rw [List.getElem?_eq_none (by omega), List.getElem?_eq_none (by omega)]
theorem row_ne {α : Type} {a b : List α} {j : Nat} {x y : α} (ha : a[j]? = some x) (hb : b[j]? = some y) (h : x ≠ y) : eqB a b = false := eqB_false.2 fun e => h (by rw [e, hb] at ha; exact (Option.some.inj ha).symm)
theorem str_eqS (x y : List UInt8) : ((⟨x.toArray⟩ : ByteArray).toList == (⟨y.toArray⟩ : ByteArray).toList) = eqB x y := by
 have e : ∀ l : List UInt8, (⟨l.toArray⟩ : ByteArray).toList = l := fun l => by rw [toList_data]
 rw [e, e]
 rw [Bool.eq_iff_iff, beq_iff_eq, eqB_true]
theorem row_short {α : Type} {a : List α} {N : Nat} (h : a.length = N) {j : Nat} (hj : j < N) : ∃ x, a[j]? = some x := ⟨a[j]'(by omega), List.getElem?_eq_getElem _⟩
theorem below_cellS {w w' : World} {g i : Nat} {u : Value} (hb : Below w.heap.size w w') (hg : g < w.heap.size) (h : w.cell? ⟨g, i, none⟩ = some u) : w'.cell? ⟨g, i, none⟩ = some u := (World.cell?_of_block (hb.block g hg)).trans h
end Go.Proofs.YtelfgobjnibooaaGreatDoor
namespace Go.Proofs.YtelfgobjnibooaaGreatDoor
open Go.RowKit Go.Lib
mutual
def cntC : Co → Nat
 | .mk _ _ v w a b c => 1 + cntCs a + cntCs b + cntCs c + cntWs v + cntWs w
def cntCs : List Co → Nat
 | [] => 0
 | c :: r => cntC c + cntCs r
def cntP : PtX Co → Nat
 | ⟨_, _, _, _, l⟩ => cntCs l
def cntPs : List (PtX Co) → Nat
 | [] => 0
 | p :: r => cntP p + cntPs r
def cntWs : List (List (PtX Co)) → Nat
 | [] => 0
 | w :: r => cntPs w + cntWs r
end
theorem cntCs_app (a b : List Co) : cntCs (a ++ b) = cntCs a + cntCs b := by
 induction a with
 | nil => simp [cntCs]
 | cons c r ih => simp only [List.cons_append, cntCs, ih]; omega
theorem cntWs_app (a b : List (List Pt)) : cntWs (a ++ b) = cntWs a + cntWs b := by
 induction a with
 | nil => simp [cntWs]
 | cons c r ih => simp only [List.cons_append, cntWs, ih]; omega
theorem cntPs_app (a b : List Pt) : cntPs (a ++ b) = cntPs a + cntPs b := by
 induction a with
 | nil => simp [cntPs]
 | cons c r ih => simp only [List.cons_append, cntPs, ih]; omega
theorem cntC_pos (c : Co) : 1 ≤ cntC c := by
 cases c
 simp only [cntC]
 omega
theorem cntCs_len (l : List Co) : l.length ≤ cntCs l := by
 induction l with
 | nil => simp [cntCs]
 | cons c r ih =>
  have := cntC_pos c
  simp only [List.length_cons, cntCs]
  omega
theorem cntC_eq (c : Co) : cntC c = 1 + cntCs c.a + cntCs c.b + cntCs c.c + cntWs c.v + cntWs c.w := by
 cases c
 simp only [cntC]
 rfl
theorem cntP_eq (p : Pt) : cntP p = cntCs p.l := by
 cases p
 simp only [cntP]
theorem cnt_take (l : List Co) (i : Nat) (c : Co) (h : l[i]? = some c) : cntCs (l.take (i + 1)) = cntCs (l.take i) + cntC c := by
 rw [List.take_add_one, h, cntCs_app]
 simp [cntCs]
theorem cntW_take (l : List (List Pt)) (i : Nat) (c : List Pt) (h : l[i]? = some c) : cntWs (l.take (i + 1)) = cntWs (l.take i) + cntPs c := by
 rw [List.take_add_one, h, cntWs_app]
 simp [cntWs]
theorem cntP_take (l : List Pt) (i : Nat) (c : Pt) (h : l[i]? = some c) : cntPs (l.take (i + 1)) = cntPs (l.take i) + cntP c := by
 rw [List.take_add_one, h, cntPs_app]
 simp [cntPs]
theorem cntCs_le (l : List Co) (i : Nat) : cntCs (l.take i) ≤ cntCs l := by
 conv => rhs; rw [← List.take_append_drop i l]
 rw [cntCs_app]
 omega
theorem cntWs_le (l : List (List Pt)) (i : Nat) : cntWs (l.take i) ≤ cntWs l := by
 conv => rhs; rw [← List.take_append_drop i l]
 rw [cntWs_app]
 omega
theorem cntPs_le (l : List Pt) (i : Nat) : cntPs (l.take i) ≤ cntPs l := by
 conv => rhs; rw [← List.take_append_drop i l]
 rw [cntPs_app]
 omega
theorem cnt_len (l : List Co) : ∀ i, i ≤ l.length → l.length + cntCs (l.take i) - i ≤ cntCs l ∧ i ≤ cntCs (l.take i) := by
 intro i hi
 have h1 := cntCs_len (l.take i)
 have h2 := cntCs_len (l.drop i)
 rw [List.length_take, Nat.min_eq_left hi] at h1
 rw [List.length_drop] at h2
 have h3 : cntCs l = cntCs (l.take i) + cntCs (l.drop i) := by rw [← cntCs_app, List.take_append_drop]
 omega
end Go.Proofs.YtelfgobjnibooaaGreatDoor
