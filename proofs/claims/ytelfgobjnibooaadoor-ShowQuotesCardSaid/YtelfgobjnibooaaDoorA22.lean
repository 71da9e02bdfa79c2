/- Packed texts: SwAcc, SwSimple, SwCom, SwRefQuote, ShowLengthsWalk, ShowQuotesWalk. What each of them proves stands above its theorems; the conditions stand in these. -/
import Derived.Test.YtelfgobjnibooaaDoorA5
import Derived.Test.YtelfgobjnibooaaDoorA20
import Derived.Test.YtelfgobjnibooaaDoorA21
namespace Go.Proofs.YtelfgobjnibooaaDoor
open Go.RowKit Go.Lib

/-- Texts that have been laid since W0. -/
def Acc (w0 : World) (b : Nat) (W0 W : World) (vs : List Value) (xs : List (List UInt8)) : Prop :=
  vs.length = xs.length ∧ (∀ (i : Nat) (u : Value) (x : List UInt8), vs[i]? = some u → xs[i]? = some x → TxtQ w0 b (NwF b W0.heap.size W) W u x) ∧ Below W0.heap.size W0 W
theorem Acc.nil (w0 : World) (b : Nat) (W0 : World) : Acc w0 b W0 W0 [] [] := ⟨rfl, fun i u x h => by simp at h, Below.refl _ _⟩
theorem Acc.drop {w0 : World} {b : Nat} {W0 W : World} {vs : List Value} {xs : List (List UInt8)} (h : Acc w0 b W0 W vs xs) : Acc w0 b W0 W [] [] := ⟨rfl, fun i u x h => by simp at h, h.2.2⟩
theorem Acc.swap {w0 : World} {b : Nat} {W0 W : World} {u v : Value} {x y : List UInt8} (h : Acc w0 b W0 W [u, v] [x, y]) : Acc w0 b W0 W [v, u] [y, x] := by
  refine ⟨rfl, fun i u' x' hu hx => ?_, h.2.2⟩
  match i with
  | 0 => exact h.2.1 1 u' x' (by simpa using hu) (by simpa using hx)
  | 1 => exact h.2.1 0 u' x' (by simpa using hu) (by simpa using hx)
  | i + 2 => simp at hu
theorem Acc.snoc {w0 : World} {b : Nat} {W0 W w1 : World} {vs : List Value} {xs : List (List UInt8)} {x : List UInt8} {k : FuncId} {caps : Array Value} (h : Acc w0 b W0 W vs xs) (g : GetT w0 b NoneF W x (.returned (.func (.func k) #[] caps)) w1) : Acc w0 b W0 w1 (vs ++ [.func (.func k) #[] caps]) (xs ++ [x]) := by
  obtain ⟨h1, h2, h4⟩ := h
  obtain ⟨k', caps', e, hk, hF, hp, hb⟩ := g
  injection e with e
  injection e with e1 _ e2
  injection e1 with e1
  subst e1
  subst e2
  refine ⟨by simp [h1], fun i u y hu hy => ?_, h4.trans (hb.mono h4.size)⟩
  by_cases hi : i < vs.length
  · rw [List.getElem?_append_left hi] at hu
    rw [List.getElem?_append_left (by omega)] at hy
    exact ((h2 i u y hu hy).same fun g hg => hb.block g hg.2.1).mono fun g hg => hg.on hb
  · have hi2 : i = vs.length := by
      have := (List.getElem?_eq_some_iff.1 hu).1
      simp at this
      omega
    subst hi2
    rw [List.getElem?_append_right (by omega), Nat.sub_self] at hu
    rw [List.getElem?_append_right (by omega), h1, Nat.sub_self] at hy
    cases hu
    cases hy
    exact TxtQ.mono (F := fun g => NoneF g ∨ NwF b W.heap.size w1 g) ⟨k, caps, rfl, hk, hp⟩ fun g hg => hg.elim (fun h => h.elim) fun hg => hg.low h4.size
theorem lit_ne {a g n c : Nat} (h : g < a) (e : (Value.slice (some ⟨a, 0, none⟩) n c).ownBlock = some g) : False := by
  have h8 : a = g := by simpa [Value.ownBlock] using e
  omega
/-- The literal row of them. -/
theorem Acc.lit {w0 : World} {b : Nat} {W0 W : World} {vs : List Value} {xs : List (List UInt8)} (h : Acc w0 b W0 W vs xs) (_h0 : Base w0 W0) (_hb : b < W0.heap.size) (hn : xs.length ≤ 1000000000) :
    MakI w0 b W0 (W.alloc (.cells vs.toArray 49)) (.slice (some ⟨W.heap.size, 0, none⟩) xs.length xs.length) xs := by
  obtain ⟨h1, h2, h4⟩ := h
  have hal := alloc_below W (.cells vs.toArray 49)
  have hnew := heap_alloc_new W (.cells vs.toArray 49)
  exact ⟨vs, h1, ⟨by rw [h1]; exact (Nat.mul_one _).symm, .inr ⟨W.heap.size, xs.length, vs.toArray, rfl, h4.size, hnew, Nat.le_refl _, by unfold maxLen; omega, by rw [List.size_toArray, h1]; exact (Nat.mul_one _).symm, by
    show vs.toArray.toList.take (xs.length * 1) = vs
    rw [Nat.mul_one, ← h1, List.take_length]⟩⟩, fun i u x hu hx => ((h2 i u x hu hx).same fun g hg => hal.block g hg.2.1).mono fun g hg => ⟨hg.on hal, fun e => lit_ne hg.2.1 e⟩, h4.trans (hal.mono h4.size)⟩
theorem get_since {w0 : World} {b : Nat} {W0 W w1 : World} {x : List UInt8} {e : Ending} (h0 : w0.heap.size ≤ W0.heap.size) (h : Below W0.heap.size W0 W) (g : GetT w0 b (NwF b W0.heap.size W) W x e w1) : GetT w0 b NoneF W0 x e w1 := by
  obtain ⟨k, caps, rfl, hk, hF, hp, hb⟩ := g
  have hin2 : ∀ g, (NwF b W0.heap.size W g ∨ NwF b W.heap.size w1 g) → (NoneF g ∨ NwF b W0.heap.size w1 g) := fun g hg => by
    rcases hg with hg | hg
    · exact .inr (hg.on hb)
    · exact .inr (hg.low h.size)
  exact ⟨k, caps, rfl, hk, fun g hg => hg.elim (fun h => h.elim) (NwF.far h0 g), fun W out hB hs => hp W out hB (fun g hg => hs g (hin2 g hg)), h.trans (hb.mono h.size)⟩
/-- show.row of a row in the making. -/
theorem mak_row {w0 : World} {b : Nat} {W0 w : World} {a : Option Addr} {n c : Nat} {xs : List (List UInt8)} (mk : List UInt8) (h : MakI w0 b W0 w (.slice a n c) xs) (h0 : Base w0 W0) (hb : b < W0.heap.size) : Calls Tryd.prog 31 #[.string ⟨mk.toArray⟩, .slice a n c] w (GetT w0 b NoneF W0 (sepB mk xs)) := by
  have hr := h.row hb
  obtain ⟨vs, h1, h2, h3, h5⟩ := h
  refine (rowM_any w0 b _ mk xs a n c w (h0.new h5) (Nat.lt_of_lt_of_le hb h5.size) (NwF.far h0.1) hr).mono ?_
  intro e w' hg
  exact get_since h0.1 h5 hg
theorem GetT.out {w0 : World} {b : Nat} {w w' : World} {x : List UInt8} {e : Ending} (h : GetT w0 b NoneF w x e w') : ∃ k caps, e = .returned (.func (.func k) #[] caps) ∧ GetT w0 b NoneF w x (.returned (.func (.func k) #[] caps)) w' := by
  obtain ⟨k, caps, rfl, h⟩ := h
  exact ⟨k, caps, rfl, k, caps, rfl, h⟩
theorem GetT.below {w0 : World} {b : Nat} {F : Nat → Prop} {w w' : World} {x : List UInt8} {e : Ending} (h : GetT w0 b F w x e w') : Below w.heap.size w w' := by
  obtain ⟨k, caps, _, _, _, _, h⟩ := h
  exact h
/-- A text more for a row in the making. -/
def MoreI (w0 : World) (b : Nat) (wr w5 : World) (k : FuncId) (caps : Array Value) (x : List UInt8) : Prop := GetT w0 b NoneF wr x (.returned (.func (.func k) #[] caps)) w5
/-- A name with its value: the calls, one behind the other. -/
theorem name_chain (w0 : World) (b : Nat) (wr : World) (h0 : Base w0 wr) (hb : b < wr.heap.size) (name val : List UInt8) (p : Addr) (KV : ∀ W, Base w0 W → b < W.heap.size → Calls Tryd.prog 20 #[.pointer (some p)] W (GetT w0 b NoneF W val)) :
    Calls Tryd.prog 53 #[.string ⟨#[]⟩] wr fun e w1 => ∃ k1 c1, e = .returned (.func (.func k1) #[] c1) ∧ Below wr.heap.size wr w1 ∧
      Calls Tryd.prog 20 #[.pointer (some p)] w1 fun e w2 => ∃ k2 c2, e = .returned (.func (.func k2) #[] c2) ∧
        Calls Tryd.prog 53 #[.string ⟨name.toArray⟩] w2 fun e w3 => ∃ k3 c3, e = .returned (.func (.func k3) #[] c3) ∧
          Calls Tryd.prog 31 #[.string ⟨#[61]⟩, .slice (some ⟨w3.heap.size, 0, none⟩) 2 2] (w3.alloc (.cells #[.func (.func k3) #[] c3, .func (.func k2) #[] c2] 49)) fun e w5 => ∃ k5 c5, e = .returned (.func (.func k5) #[] c5) ∧ MoreI w0 b wr w5 k5 c5 (sepB [61] [name, val]) := by
  refine (as_get w0 b [] wr h0 (by omega)).mono fun e w1 g1 => ?_
  obtain ⟨k1, c1, rfl, g1⟩ := g1.out
  have A1 := ((Acc.nil w0 b wr).snoc g1).drop
  have b1 := g1.below
  refine ⟨k1, c1, rfl, b1, (KV w1 (h0.new b1) (by have := b1.size; omega)).mono fun e w2 g2 => ?_⟩
  obtain ⟨k2, c2, rfl, g2⟩ := g2.out
  have A2 := A1.snoc g2
  have b2 := b1.trans (g2.below.mono b1.size)
  refine ⟨k2, c2, rfl, (as_get w0 b name w2 (h0.new b2) (by have := b2.size; omega)).mono fun e w3 g3 => ?_⟩
  obtain ⟨k3, c3, rfl, g3⟩ := g3.out
  have A3 := (A2.snoc g3).swap
  refine ⟨k3, c3, rfl, (mak_row [61] (A3.lit h0 hb (by simp)) h0 hb).mono fun e w5 g5 => ?_⟩
  obtain ⟨k5, c5, rfl, g5⟩ := g5.out
  exact ⟨k5, c5, rfl, g5⟩
/-- A name with no value. -/
theorem bare_chain (w0 : World) (b : Nat) (wr : World) (h0 : Base w0 wr) (hb : b < wr.heap.size) (name : List UInt8) :
    Calls Tryd.prog 53 #[.string ⟨#[]⟩] wr fun e w1 => ∃ k1 c1, e = .returned (.func (.func k1) #[] c1) ∧ Below wr.heap.size wr w1 ∧
      Calls Tryd.prog 53 #[.string ⟨name.toArray⟩] w1 fun e w3 => ∃ k3 c3, e = .returned (.func (.func k3) #[] c3) ∧
        Calls Tryd.prog 31 #[.string ⟨#[61]⟩, .slice (some ⟨w3.heap.size, 0, none⟩) 2 2] (w3.alloc (.cells #[.func (.func k3) #[] c3, .func (.func k1) #[] c1] 49)) fun e w5 => ∃ k5 c5, e = .returned (.func (.func k5) #[] c5) ∧ MoreI w0 b wr w5 k5 c5 (sepB [61] [name, []]) := by
  refine (as_get w0 b [] wr h0 (by omega)).mono fun e w1 g1 => ?_
  obtain ⟨k1, c1, rfl, g1⟩ := g1.out
  have A1 := (Acc.nil w0 b wr).snoc g1
  have b1 := g1.below
  refine ⟨k1, c1, rfl, b1, (as_get w0 b name w1 (h0.new b1) (by have := b1.size; omega)).mono fun e w3 g3 => ?_⟩
  obtain ⟨k3, c3, rfl, g3⟩ := g3.out
  have A3 := (A1.snoc g3).swap
  refine ⟨k3, c3, rfl, (mak_row [61] (A3.lit h0 hb (by simp)) h0 hb).mono fun e w5 g5 => ?_⟩
  obtain ⟨k5, c5, rfl, g5⟩ := g5.out
  exact ⟨k5, c5, rfl, g5⟩
/-- Behind it: append of the one text. -/
theorem more_app (ty : TypeId) {w0 : World} {b : Nat} {W0 wr w5 : World} {v : Value} {xs : List (List UInt8)} {x : List UInt8} {k : FuncId} {caps : Array Value} (h : MakI w0 b W0 wr v xs) (m : MoreI w0 b wr w5 k caps x) (h0 : Base w0 W0) (hb : b < W0.heap.size) (hn : xs.length + 1 ≤ 1000000000) :
    ∃ v' w', (Builtin.append_ #[66, 66] ty #[v, .slice (some ⟨w5.heap.size, 0, none⟩) 1 1]).run Tryd.prog (w5.alloc (.cells #[.func (.func k) #[] caps] 49)) = .ok v' w' ∧ MakI w0 b W0 w' v' (xs ++ [x]) := by
  have hwr : Below W0.heap.size W0 wr := by obtain ⟨_, _, _, _, h5⟩ := h; exact h5
  have hown : ∀ g, v.ownBlock = some g → g < wr.heap.size := by obtain ⟨_, _, h2, _⟩ := h; exact fun g hg => (ownS_lt h2 hg).2
  have A := ((Acc.nil w0 b wr).snoc m).lit (h0.new hwr) (by have := hwr.size; omega) (by simp)
  have hb6 : Below wr.heap.size wr (w5.alloc (.cells #[.func (.func k) #[] caps] 49)) := by obtain ⟨_, _, _, _, h5⟩ := A; exact h5
  exact run_append_mak ty (G := NwF b wr.heap.size (w5.alloc (.cells #[.func (.func k) #[] caps] 49))) (h.move hb6) (A.row (by have := hwr.size; omega)) (fun g hg => ⟨hg.low hwr.size, fun e => by have := hown g e; have := hg.1; omega⟩) hn
end Go.Proofs.YtelfgobjnibooaaDoor
namespace Go.Proofs.YtelfgobjnibooaaDoor
open Go.RowKit Go.Lib

/-- Names with their values, as texts. -/
def zipN : List (List UInt8) → List (List UInt8) → List (List UInt8)
  | [], _ => []
  | n :: r, vs => sepB [61] [n, vs.head?.getD []] :: zipN r vs.tail
theorem zipN_length : ∀ ns vs, (zipN ns vs).length = ns.length
  | [], _ => rfl
  | n :: r, vs => by rw [zipN, List.length_cons, List.length_cons, zipN_length r]
theorem zipN_at : ∀ (ns vs : List (List UInt8)) (j : Nat) (n : List UInt8), ns[j]? = some n → (zipN ns vs)[j]? = some (sepB [61] [n, (vs[j]?).getD []])
  | [], _, _, _, h => by simp at h
  | n :: r, vs, 0, m, h => by
    cases h
    cases vs <;> rfl
  | n :: r, vs, j + 1, m, h => by
    have h' : r[j]? = some m := by simpa using h
    have := zipN_at r vs.tail j m h'
    cases vs with
    | nil => simpa [zipN] using this
    | cons v t => simpa [zipN] using this
/-- append, by its equation. -/
theorem wpList_app_eq {P : Program} {w : World} {ops : Array Oper} {rest : List Oper} {o : Oper} {a : Act} {Q : Exit → Act → World → Prop} (hgd : o.guard = none) (s x : Operand) (t : TypeId)
    (ho : o.op = .call { callee := .builtin .append, args := #[s, x], argTypes := #[t, t] }) {v u v' : Value} {w' : World} (hs : a.eval s = v) (hx : a.eval x = u) (hr : (Builtin.append_ #[t, t] o.type #[v, u]).run P w = .ok v' w') (h : wpList P ops Q rest (a.put o.dst v') w') : wpList P ops Q (o :: rest) a w := by
  refine wpList_plain hgd fun K hK => ?_
  unfold Oper.wp execOp
  simp only [ho, resolve, invoke, builtin, Sem.run_bind, Sem.run_pure, Result.andThen_ok, List.map_toArray, List.map_cons, List.map_nil, hs, hx, hr]
  exact hK _ _ h
theorem MakI.shape {w0 : World} {b : Nat} {W0 w : World} {v : Value} {xs : List (List UInt8)} (h : MakI w0 b W0 w v xs) : ∃ a c, v = .slice a xs.length c := by
  obtain ⟨vs, h1, h2, _⟩ := h
  obtain ⟨a, c, h, _⟩ := ownS_shape h2
  exact ⟨a, c, h⟩
theorem MakI.shp {w0 : World} {b : Nat} {W0 w : World} {v : Value} {xs : List (List UInt8)} (h : MakI w0 b W0 w v xs) : ∃ a n c, v = .slice a n c := by
  obtain ⟨a, c, h⟩ := h.shape
  exact ⟨a, _, c, h⟩
/-- Words can be told. -/
def WordsT (w0 : World) (b : Nat) (ao : Option Addr) (xs : List (List UInt8)) : Prop :=
  ∀ (i : Nat) (x : List UInt8), xs[i]? = some x → ∃ g, ao = some ⟨g, 0, none⟩ ∧ ∀ W, Base w0 W → b < W.heap.size → Calls Tryd.prog 20 #[.pointer (some ⟨g, i, none⟩)] W (GetT w0 b NoneF W x)
/-- The end: the words, the append, the row. -/
theorem simple_end (w0 : World) (b : Nat) (W0 wr : World) (v : Value) (xs ws : List (List UInt8)) (aw : Option Addr) (cw : Nat) (h : MakI w0 b W0 wr v xs) (h0 : Base w0 W0) (hb : b < W0.heap.size) (hcw : ws.length ≤ cw) (hn : xs.length + ws.length ≤ 1000000000) (HW : WordsT w0 b aw ws) (mk : List UInt8) :
    Calls Tryd.prog 64 #[.slice aw ws.length cw, .func (.func 20) #[] #[]] wr fun e w1 => ∃ a n c, e = .returned (.slice a n c) ∧ ∃ a2 n2 c2 w2, (Builtin.append_ #[66, 66] 66 #[v, .slice a n c]).run Tryd.prog w1 = .ok (.slice a2 n2 c2) w2 ∧
      Calls Tryd.prog 31 #[.string ⟨mk.toArray⟩, .slice a2 n2 c2] w2 fun e w3 => ∃ k3 c3, e = .returned (.func (.func k3) #[] c3) ∧ GetT w0 b NoneF W0 (sepB mk (xs ++ ws)) (.returned (.func (.func k3) #[] c3)) w3 := by
  have hbl : Below W0.heap.size W0 wr := by obtain ⟨_, _, _, _, h5⟩ := h; exact h5
  have hown : ∀ g, v.ownBlock = some g → g < wr.heap.size := by obtain ⟨_, _, h2, _⟩ := h; exact fun g hg => (ownS_lt h2 hg).2
  refine (eachWord_any w0 b aw cw 20 enters_word ws wr (h0.new hbl) (by have := hbl.size; omega) hcw (by omega) fun i x W hx hB hbw => ?_).mono fun e w1 hq => ?_
  · obtain ⟨g, h1, h2⟩ := HW i x hx
    refine ⟨g, h1, ?_⟩
    rw [Nat.mul_one]
    exact h2 W hB (by have := hbl.size; have := hbw.size; omega)
  · obtain ⟨a, n, c, rfl, q1, q2, q3⟩ := hq
    obtain ⟨v', w2, r1, r2⟩ := run_append_mak 66 (h.move q3) q1 (fun g hg => ⟨hg.low hbl.size, fun e => by have := hown g e; have := hg.1; omega⟩) hn
    obtain ⟨a2, c2, rfl⟩ := r2.shape
    exact ⟨a, n, c, rfl, a2, _, c2, w2, r1, (mak_row mk r2 h0 hb).mono fun e w3 g => g.out⟩
set_option maxHeartbeats 4000000 in
set_option maxRecDepth 20000 in
theorem simple_sw (w0 : World) (b gc o : Nat) (F : Nat → Prop) (an : Option Addr) (cn : Nat) (av : Option Addr) (cv : Nat) (aw : Option Addr) (cw : Nat) (ns vs ws : List (List UInt8)) (W : World) (h0 : Base w0 W) (hb : b < W.heap.size) (hg : gc < w0.heap.size)
    (d1 : w0.cell? ⟨gc, o + 1, none⟩ = some (.slice an ns.length cn)) (d2 : w0.cell? ⟨gc, o + 2, none⟩ = some (.slice av vs.length cv)) (d3 : w0.cell? ⟨gc, o + 3, none⟩ = some (.slice aw ws.length cw)) (_hcn : ns.length ≤ cn) (_hcv : vs.length ≤ cv) (hcw : ws.length ≤ cw)
    (HN : StrV.q F w0 (.slice an ns.length cn) ns) (HV : WordsT w0 b av vs) (HW : WordsT w0 b aw ws) (hn : ns.length + ws.length ≤ 1000000000) :
    Calls Tryd.prog 50 #[.pointer (some ⟨gc, o, none⟩)] W (GetT w0 b NoneF W (sepB [32] (zipN ns vs ++ ws))) := by
  have hzl := zipN_length ns vs
  have END := Lib.hid (fun wr v (h : MakI w0 b W wr v (zipN ns vs)) => simple_end w0 b W wr v _ ws aw cw h h0 hb hcw (by omega) HW [32])
  have HQ := Lib.hid (And.intro h0 (And.intro hb (And.intro HN HV)))
  have CL := Lib.hid (fun wr (h : Below W.heap.size W wr) k v (hk : w0.cell? ⟨gc, k, none⟩ = some v) => (World.cell?_of_block ((h.block gc (by have := h0.1; omega)).trans (h0.2 gc hg))).trans hk)
  have c1 := CL.out W (Below.refl _ _) _ _ d1
  have D23 := Lib.hid (And.intro d2 d3)
  obtain ⟨N, hN⟩ : ∃ N, N = ns.length := ⟨_, rfl⟩
  obtain ⟨V, hV⟩ : ∃ V, V = vs.length := ⟨_, rfl⟩
  obtain ⟨M, hM⟩ : ∃ M, M = ws.length := ⟨_, rfl⟩
  have HL := Lib.hid (And.intro hN (And.intro hV hzl))
  rw [← hN] at c1 hn
  rw [← hV] at D23
  rw [← hM] at D23 hn END
  have hNb : (N : Int) ≤ 9223372036854775807 := by omega
  clear h0 hb hg d1 d2 d3 HN HV HW hN hV hM hcw hzl
  go_enter Tryd.func50, Tryd.ntmps50
  go_wp2
  go_loopg [3, 12] (N + 1) (fun k v i wr => ∃ (j : Nat), i = .int .i64 j ∧ j ≤ N ∧ Hid (k = N + 1 - j) ∧ ∃ a m c, v = .slice a m c ∧ Hid (MakI w0 b W wr (.slice a m c) ((zipN ns vs).take j)))
  case atStart => exact ⟨0, rfl, by omega, rfl, _, _, _, rfl, by rw [List.take_zero]; exact MakI.nil w0 b W⟩
  case round =>
    obtain ⟨j, rfl, hj, HK, a, m, c, rfl, HM⟩ := hrel
    have hbl : Below W.heap.size W wr := by obtain ⟨_, _, _, _, h5⟩ := HM.out; exact h5
    obtain ⟨h0, hb, HN, HV⟩ := HQ.out
    by_cases hlt : j < N
    · obtain ⟨x, hx⟩ : ∃ x, ns[j]? = some x := ⟨ns[j]'(by have := HL.out.1; omega), List.getElem?_eq_getElem _⟩
      obtain ⟨g, cp, e, -, hg2, cg⟩ := nm_at HN hx
      cases e
      have cx : wr.cell? ⟨g, j, none⟩ = some (.string ⟨x.toArray⟩) := (World.cell?_of_block ((hbl.block g (by have := h0.1; omega)).trans (h0.2 g hg2))).trans cg
      have hz := zipN_at ns vs j x hx
      have hT : (zipN ns vs).take (j + 1) = (zipN ns vs).take j ++ [sepB [61] [x, (vs[j]?).getD []]] := by rw [List.take_add_one, hz]; rfl
      have hlz : ((zipN ns vs).take j).length + 1 ≤ 1000000000 := by rw [List.length_take, HL.out.2.2, ← HL.out.1]; omega
      have hI2 : IntKind.i64.wrap ((j : Int) + 1) = ((j + 1 : Nat) : Int) := by rw [IntWalk.i64_in _ (by omega)]; omega
      have APP := Lib.hid (fun w5 k caps (m5 : MoreI w0 b wr w5 k caps (sepB [61] [x, (vs[j]?).getD []])) => more_app 66 HM.out m5 h0 hb hlz)
      rw [← hT] at APP
      have HBL := Lib.hid (fun w1 (hb1 : Below wr.heap.size wr w1) => hbl.trans (hb1.mono hbl.size))
      by_cases hv : j < V
      · obtain ⟨y, hy⟩ : ∃ y, vs[j]? = some y := ⟨vs[j]'(by have := HL.out.2.1; omega), List.getElem?_eq_getElem _⟩
        obtain ⟨gv, rfl, kv⟩ := HV j y hy
        rw [hy, Option.getD_some] at APP
        have k1 := name_chain w0 b wr (h0.new hbl) (by have := hbl.size; omega) x y ⟨gv, j, none⟩ kv
        clear hbl h0 hb HN HV hx cg hg2 hz hT hlz hy kv
        generalize (⟨x.toArray⟩ : ByteArray) = X at *
        go_wp2_with (first
          | (go_at_call 53; (with_reducible refine k1.mono ?_); rintro e w1 ⟨q1, p1, rfl, b1, k2⟩; have e2 := CL.out w1 (HBL.out w1 b1) _ _ D23.out.1; clear k1 b1)
          | (go_at_call 20; (with_reducible refine k2.mono ?_); rintro e w2 ⟨q2, p2, rfl, k3⟩; clear k2)
          | (go_at_call 53; (with_reducible refine k3.mono ?_); rintro e w3 ⟨q3, p3, rfl, k4⟩; clear k3)
          | (go_at_call 31; (with_reducible refine k4.mono ?_); rintro e w5 ⟨q5, p5, rfl, m5⟩; obtain ⟨v6, w6, r6, m6⟩ := APP.out _ _ _ m5; obtain ⟨a6, n6, c6, rfl⟩ := m6.shp; have M6 := Lib.hid m6; clear k4 m5 m6)
          | (at_builtin; refine wpList_app_eq rfl _ _ _ rfl rfl rfl r6 ?_; clear r6))
        go_roundg (N - j)
        case measure => have := HK.out; omega
        case rel => exact ⟨j + 1, by go_num, by omega, by show _ = _; omega, _, _, _, rfl, M6.out⟩
      · have hdv : decide ((j : Int) < (V : Int)) = false := by simp; omega
        have hy : vs[j]? = none := List.getElem?_eq_none (by have := HL.out.2.1; omega)
        rw [hy, Option.getD_none] at APP
        have k1 := bare_chain w0 b wr (h0.new hbl) (by have := hbl.size; omega) x
        clear hbl h0 hb HN HV hx cg hg2 hz hT hlz hy
        generalize (⟨x.toArray⟩ : ByteArray) = X at *
        go_wp2_with (first
          | (go_at_call 53; (with_reducible refine k1.mono ?_); rintro e w1 ⟨q1, p1, rfl, b1, k3⟩; have e2 := CL.out w1 (HBL.out w1 b1) _ _ D23.out.1; clear k1 b1)
          | (go_at_call 53; (with_reducible refine k3.mono ?_); rintro e w3 ⟨q3, p3, rfl, k4⟩; clear k3)
          | (go_at_call 31; (with_reducible refine k4.mono ?_); rintro e w5 ⟨q5, p5, rfl, m5⟩; obtain ⟨v6, w6, r6, m6⟩ := APP.out _ _ _ m5; obtain ⟨a6, n6, c6, rfl⟩ := m6.shp; have M6 := Lib.hid m6; clear k4 m5 m6)
          | (at_builtin; refine wpList_app_eq rfl _ _ _ rfl rfl rfl r6 ?_; clear r6))
        go_roundg (N - j)
        case measure => have := HK.out; omega
        case rel => exact ⟨j + 1, by go_num, by omega, by show _ = _; omega, _, _, _, rfl, M6.out⟩
    · have hd : decide ((j : Int) < (N : Int)) = false := by simp; omega
      have e3 := CL.out wr hbl _ _ D23.out.2
      have hM := HM.out
      have hall : (zipN ns vs).take j = zipN ns vs := List.take_of_length_le (by rw [HL.out.2.2, ← HL.out.1]; omega)
      rw [hall] at hM
      have k1 := END.out wr _ hM
      clear hbl h0 hb HN HV hM hall
      go_wp2_with (first
        | (go_at_call 64; (with_reducible refine k1.mono ?_); rintro e w1 ⟨a1, n1, c1, rfl, a2, n2, c2, w2, r6, k2⟩; clear k1)
        | (at_builtin; refine wpList_app_eq rfl _ _ _ rfl rfl rfl r6 ?_; clear r6)
        | (go_at_call 31; (with_reducible refine k2.mono ?_); rintro e w3 ⟨k3, c3, rfl, g3⟩; have G3 := Lib.hid g3; clear k2 g3))
      refine bodyPost_ret (results_tmp rfl _ _ _) rfl ?_
      exact G3.out
end Go.Proofs.YtelfgobjnibooaaDoor
namespace Go.Proofs.YtelfgobjnibooaaDoor
open Go.RowKit Go.Lib

theorem enters_command1 : ∀ args w, (callFunc 49 args).run Tryd.prog w = .ok (.enter 49 args) w := enters_of Tryd.func49 (by kernel_rfl) rfl
set_option maxHeartbeats 2000000 in
set_option maxRecDepth 20000 in
theorem com_simple (w0 : World) (b g gc o : Nat) (out x : List UInt8) (W : World) (hB : Base w0 W) (hg : gc < w0.heap.size) (hk : w0.cell? ⟨gc, o, none⟩ = some (.int .i64 1)) (hc : W.cell? ⟨g, 0, none⟩ = some (.pointer (some ⟨gc, o, none⟩))) (hI : BldI w0 b out W) (hn : out.length + x.length ≤ 1000000000)
    (KS : Calls Tryd.prog 50 #[.pointer (some ⟨gc, o, none⟩)] W (GetT w0 b NoneF W x)) :
    Calls Tryd.prog 49 #[.pointer (some ⟨b, 0, none⟩), .pointer (some ⟨g, 0, none⟩)] W (RunT w0 b out x W) := by
  have c0 : W.cell? ⟨gc, o, none⟩ = some (.int .i64 1) := (World.cell?_of_block (hB.2 gc hg)).trans hk
  have k1 := KS.mono (fun e w1 h => (show ∃ k caps, e = .returned (.func (.func k) #[] caps) ∧ (∀ args w, (callFunc k args).run Tryd.prog w = .ok (.enter k args) w) ∧ Calls Tryd.prog k (#[.pointer (some ⟨b, 0, none⟩)] ++ caps) w1 fun e w' => e = .returned (.tuple #[]) ∧ BldI w0 b (out ++ x) w' ∧ Kp w0 b W w' from by
    obtain ⟨k, caps, rfl, hk2, hF, hp, hb⟩ := h
    exact ⟨k, caps, rfl, hk2, put_get (W := W) (F := NoneF) hB hI (Below.refl _ _) hF hp hb hn⟩))
  clear KS hB hg hk hI hn
  go_enter Tryd.func49, Tryd.ntmps49
  go_wp2_with (first
    | (go_at_call 50; (with_reducible refine k1.mono ?_); rintro e w1 ⟨kk, caps, rfl, hkk, k2⟩; clear k1)
    | (go_at_fn kk; (with_reducible refine k2.mono ?_); rintro e w3 ⟨rfl, h3⟩; have HH := Lib.hid h3; clear h3 k2))
  go_end0
  exact ⟨rfl, HH.out⟩
theorem parts_nil (b : Nat) (w0 : World) : PartsOk b w0 (.slice none 0 0) [] := by
  intro W hB hb
  exact eachPart_any w0 b none 0 37 enters_part [] W hB hb (Nat.le_refl _) (by simp) (fun i x W hx => by simp at hx)
/-- The memory of the document's example: x=. -/
def ShW (w : World) : World := ((w.alloc (.cells #[.string ⟨#[120]⟩] 9)).alloc (.cells #[.slice none 0 0] 35)).alloc (.cells #[.int .i64 1, .slice (some ⟨w.heap.size, 0, none⟩) 1 1, .slice (some ⟨w.heap.size + 1, 0, none⟩) 1 1, .slice none 0 0, .slice none 0 0, .slice none 0 0, .slice none 0 0] 32)
theorem shW_facts (w : World) : (ShW w).heap.size = w.heap.size + 3 ∧ (ShW w).heap[w.heap.size]? = some (.cells #[.string ⟨#[120]⟩] 9 (0, 0)) ∧ (ShW w).heap[w.heap.size + 1]? = some (.cells #[.slice none 0 0] 35 (0, 0)) ∧
    (ShW w).heap[w.heap.size + 2]? = some (.cells #[.int .i64 1, .slice (some ⟨w.heap.size, 0, none⟩) 1 1, .slice (some ⟨w.heap.size + 1, 0, none⟩) 1 1, .slice none 0 0, .slice none 0 0, .slice none 0 0, .slice none 0 0] 32 (0, 0)) ∧ Below w.heap.size w (ShW w) := by
  unfold ShW
  obtain ⟨w1, h1⟩ : ∃ w1, w1 = w.alloc (.cells #[.string ⟨#[120]⟩] 9) := ⟨_, rfl⟩
  rw [← h1]
  obtain ⟨w2, h2⟩ : ∃ w2, w2 = w1.alloc (.cells #[.slice none 0 0] 35) := ⟨_, rfl⟩
  rw [← h2]
  generalize hX : Obj.cells #[.int .i64 1, .slice (some ⟨w.heap.size, 0, none⟩) 1 1, .slice (some ⟨w.heap.size + 1, 0, none⟩) 1 1, .slice none 0 0, .slice none 0 0, .slice none 0 0, .slice none 0 0] 32 = X
  have s1 : w1.heap.size = w.heap.size + 1 := by rw [h1]; simp
  have s2 : w2.heap.size = w.heap.size + 2 := by rw [h2]; simp [s1]
  refine ⟨by simp [s2], ?_, ?_, ?_, ?_⟩
  · rw [alloc_old w2 _ _ (by omega), h2, alloc_old w1 _ _ (by omega), h1]
    exact heap_alloc_new w _
  · rw [alloc_old w2 _ _ (by omega), h2, ← s1]
    exact heap_alloc_new w1 _
  · rw [← s2, ← hX]
    exact heap_alloc_new w2 _
  · rw [h2, h1]
    exact ((alloc_below w _).alloc (by simp) _).alloc (by simp; omega) _
set_option maxHeartbeats 1000000 in
theorem shown_each (w : World) (b : Nat) : EachOk b (ShW w) (.slice (some ⟨w.heap.size + 2, 0, none⟩) 1 1) [sepB [32] (zipN [[120]] [[]] ++ [])] := by
  obtain ⟨hs, f0, f1, f2, _⟩ := shW_facts w
  intro W hB hb
  refine eachCmd_any (ShW w) b (some ⟨w.heap.size + 2, 0, none⟩) 1 33 enters_command [sepB [32] (zipN [[120]] [[]] ++ [])] W hB hb (by simp) (by simp) fun i x W' hx hB' hbw => ?_
  have hi : i = 0 := by
    have := (List.getElem?_eq_some_iff.1 hx).1
    simp at this
    exact this
  subst hi
  cases hx
  refine ⟨_, rfl, ?_⟩
  rw [Nat.zero_mul]
  refine (command_new ⟨w.heap.size + 2, 0, none⟩ W').mono ?_
  rintro e w' ⟨rfl, rfl⟩
  refine get_box (ShW w) b W' _ _ (by decide) _ enters_command1 _ hB' (by have := hbw.size; omega) fun W2 out hB2 hc hI hn => ?_
  refine com_simple (ShW w) b _ (w.heap.size + 2) 0 out _ W2 hB2 (by omega) (by rw [cell_of_heap f2]; rfl) hc hI hn ?_
  refine simple_sw (ShW w) b (w.heap.size + 2) 0 (fun _ => True) (some ⟨w.heap.size, 0, none⟩) 1 (some ⟨w.heap.size + 1, 0, none⟩) 1 none 0 [[120]] [[]] [] W2 hB2 hI.lt (by omega) (by rw [cell_of_heap f2]; rfl) (by rw [cell_of_heap f2]; rfl) (by rw [cell_of_heap f2]; rfl) (by simp) (by simp) (by simp) ?_ ?_ ?_ (by simp)
  · refine ⟨[[.string ⟨#[120]⟩]], rfl, fun i x cs hx hc => ?_, ⟨rfl, .inr ⟨w.heap.size, 1, _, rfl, Nat.zero_le _, f0, Nat.le_refl _, by unfold maxLen; omega, rfl, rfl⟩⟩, fun _ _ => trivial⟩
    match i with
    | 0 => cases hx; cases hc; rfl
    | i + 1 => simp at hx
  · intro i x hx
    have hi : i = 0 := by
      have := (List.getElem?_eq_some_iff.1 hx).1
      simp at this
      exact this
    subst hi
    cases hx
    refine ⟨_, rfl, fun W3 hB3 hb3 => ?_⟩
    exact word_get (ShW w) b (w.heap.size + 1) 0 none 0 0 [] (parts_nil b _) (by omega) (by rw [cell_of_heap f1]; rfl) W3 hB3 (by omega)
  · intro i x hx
    simp at hx
theorem shown_text (w : World) : Calls Tryd.prog 10 #[.slice (some ⟨w.heap.size + 2, 0, none⟩) 1 1] (ShW w) fun e w' => e = .returned (.string ⟨#[120, 61]⟩) ∧ Below w.heap.size w w' := by
  obtain ⟨hs, _, _, _, hb⟩ := shW_facts w
  refine (text_any (ShW w) (some ⟨w.heap.size + 2, 0, none⟩) 1 1 _ (shown_each w _) (by decide)).mono ?_
  rintro e w' ⟨rfl, h2⟩
  exact ⟨rfl, hb.trans (h2.mono (by omega))⟩
end Go.Proofs.YtelfgobjnibooaaDoor
namespace Go.Proofs.YtelfgobjnibooaaDoor
open Go.RowKit Go.Lib

set_option maxHeartbeats 2000000 in
set_option maxRecDepth 20000 in
/-- The document's example. -/
theorem shownSw_any (w : World) (hm : Mx12 w) : Calls Tryd.prog 6 #[] w fun e w' => e = .returned (.bool true) ∧ Below w.heap.size w w' := by
  have k1 := quote_any [97, 39, 98] w (by simp) hm
  have e1 : (⟨(quoteL [97, 39, 98]).toArray⟩ : ByteArray) = ⟨#[39, 97, 39, 92, 39, 39, 98, 39]⟩ := rfl
  have e2 : (⟨[97, 39, 98].toArray⟩ : ByteArray) = ⟨#[97, 39, 98]⟩ := rfl
  rw [e1, e2] at k1
  have k2 := fun w1 : World => shown_text w1
  unfold ShW at k2
  clear e1 e2 hm
  go_enter Tryd.func6, Tryd.ntmps6
  go_wp2_with (first
    | (go_at_call 8; (with_reducible refine k1.mono ?_); rintro e w1 ⟨rfl, h1⟩; have H1 := Lib.hid h1; clear h1 k1)
    | (go_at_call 10; (with_reducible refine (k2 _).mono ?_); rintro e w2 ⟨rfl, h2⟩; have H2 := Lib.hid h2; clear h2 k2))
  exact bodyPost_ret (results_tmp rfl _ _ _) rfl ⟨rfl, H1.out.trans (H2.out.mono H1.out.size)⟩
end Go.Proofs.YtelfgobjnibooaaDoor
namespace Go.Proofs.YtelfgobjnibooaaDoor
open Go.RowKit Go.Lib

theorem back_list (s : ByteArray) : (⟨s.data.toList.toArray⟩ : ByteArray) = s := ByteArray.ext (by simp)
theorem quoteB_any (s : ByteArray) (w : World) (hl : s.size ≤ 1000000) (hm : Mx12 w) :
    Calls Tryd.prog 8 #[.string s] w fun e w' => e = .returned (.string ⟨(quoteL s.data.toList).toArray⟩) ∧ Below w.heap.size w w' := by
  have := quote_any s.data.toList w (by rw [Array.length_toList]; exact hl) hm
  rwa [back_list] at this
end Go.Proofs.YtelfgobjnibooaaDoor
namespace Go.Proofs.YtelfgobjnibooaaDoor
open Go.RowKit Go.Lib

theorem quote_size (l : List UInt8) : (quoteL l).length ≤ 4 * l.length + 2 := by
  rw [quote_len]
  have : l.count 39 ≤ l.length := List.count_le_length
  omega
theorem arr_app2 (a b : List UInt8) : (⟨a.toArray⟩ : ByteArray) ++ ⟨b.toArray⟩ = ⟨(a ++ b).toArray⟩ := arr_app a b
set_option maxHeartbeats 8000000 in
set_option maxRecDepth 20000 in
theorem showQuotes_walk (s : ByteArray) (hs : s.size ≤ 140737488351232) (t : ByteArray) (ht : t.size ≤ 140737488351232) (w : World) (hm : Mx12 w) :
    Calls Tryd.prog 4 #[.string s, .string t] w fun e w' => e = .returned (.bool true) ∧ Below w.heap.size w w' := by
  have k0 := shownSw_any w hm
  have hI : IntKind.i64.wrap ((s.size : Int) + (t.size : Int)) = ((s.size + t.size : Nat) : Int) := by rw [IntWalk.i64_in _ (by omega)]; omega
  by_cases hz : s.size + t.size ≤ 2000
  · have hzI : ¬ (2000 : Int) < ((s.size + t.size : Nat) : Int) := by omega
    have hzd : decide ((2000 : Int) < ((s.size + t.size : Nat) : Int)) = false := decide_eq_false hzI
    have K1 := Lib.hid (fun w1 (hb : Below w.heap.size w w1) => quoteB_any s w1 (by omega) (hm.below hb))
    have K2 := Lib.hid (fun w1 (hb : Below w.heap.size w w1) => quoteB_any t w1 (by omega) (hm.below hb))
    have z1 : (quoteL s.data.toList).length ≤ 8002 := by
      have := quote_size s.data.toList
      have h3 : s.data.toList.length = s.size := by rw [Array.length_toList]; rfl
      omega
    have z2 : (quoteL t.data.toList).length ≤ 8002 := by
      have := quote_size t.data.toList
      have h3 : t.data.toList.length = t.size := by rw [Array.length_toList]; rfl
      omega
    obtain ⟨Q1, hQ1⟩ : ∃ Q : ByteArray, ⟨(quoteL s.data.toList).toArray⟩ = Q := ⟨_, rfl⟩
    obtain ⟨Q2, hQ2⟩ : ∃ Q : ByteArray, ⟨(quoteL t.data.toList).toArray⟩ = Q := ⟨_, rfl⟩
    have s1 : Q1.size ≤ 8002 := by rw [← hQ1, arr_size]; exact z1
    have s2 : Q2.size ≤ 8002 := by rw [← hQ2, arr_size]; exact z2
    obtain ⟨X1, hX1⟩ : ∃ X : ByteArray, (⟨#[101, 99, 104, 111, 32]⟩ : ByteArray) ++ Q1 = X := ⟨_, rfl⟩
    obtain ⟨X2, hX2⟩ : ∃ X : ByteArray, X1 ++ (⟨#[32]⟩ : ByteArray) = X := ⟨_, rfl⟩
    obtain ⟨X3, hX3⟩ : ∃ X : ByteArray, X2 ++ Q2 = X := ⟨_, rfl⟩
    have sX1 : X1.size ≤ 8007 := by rw [← hX1, ByteArray.size_append]; have : (⟨#[101, 99, 104, 111, 32]⟩ : ByteArray).size = 5 := rfl; omega
    have sX2 : X2.size ≤ 8008 := by rw [← hX2, ByteArray.size_append]; have : (⟨#[32]⟩ : ByteArray).size = 1 := rfl; omega
    have E1 : ∀ w, (Op.stringOp .add (⟨#[101, 99, 104, 111, 32]⟩ : ByteArray) Q1).run Tryd.prog w = .ok (.string X1) w := fun w => by
      rw [← hX1]; exact run_string_add_sum w _ _ (by have : (⟨#[101, 99, 104, 111, 32]⟩ : ByteArray).size = 5 := rfl; omega)
    have E2 : ∀ w, (Op.stringOp .add X1 (⟨#[32]⟩ : ByteArray)).run Tryd.prog w = .ok (.string X2) w := fun w => by
      rw [← hX2]; exact run_string_add_sum w _ _ (by have : (⟨#[32]⟩ : ByteArray).size = 1 := rfl; omega)
    have E3 : ∀ w, (Op.stringOp .add X2 Q2).run Tryd.prog w = .ok (.string X3) w := fun w => by
      rw [← hX3]; exact run_string_add_sum w _ _ (by omega)
    have hX : X3.data.toList = tQ2 s.data.toList t.data.toList := by
      rw [← hX3, ← hX2, ← hX1, ← hQ1, ← hQ2]
      rw [show (⟨#[101, 99, 104, 111, 32]⟩ : ByteArray) = ⟨[101, 99, 104, 111, 32].toArray⟩ from rfl, show (⟨#[32]⟩ : ByteArray) = ⟨[32].toArray⟩ from rfl, arr_app2, arr_app2, arr_app2]
      rfl
    have hRd := readSh_quotes2 s.data.toList t.data.toList (by
      show ([101, 99, 104, 111, 32] ++ quoteL s.data.toList ++ [32] ++ quoteL t.data.toList).length ≤ _
      simp only [List.length_append, List.length_cons, List.length_nil]; omega)
    rw [← hX] at hRd
    have kr : ∀ w1, Calls Tryd.prog 7 #[.string X3] w1 fun e w' => ∃ (al : Option Addr) (cl : Nat), e = .returned (.tuple #[.slice al 1 cl, .int .i64 0]) ∧ (cosV 93).q (NewF w1.heap.size w'.heap.size) w' (.slice al 1 cl) [.mk 1 [] [] [[litP false [101, 99, 104, 111]], [litP true s.data.toList], [litP true t.data.toList]] [] [] []] ∧ Below w1.heap.size w1 w' := fun w1 => by
      have := refRead11_any X3 w1
      unfold RdF at this
      rw [hRd] at this
      exact this
    have KR := Lib.hid kr
    rw [hQ1] at K1
    rw [hQ2] at K2
    clear hm hs ht hz kr hRd hX hX1 hX2 hX3 hQ1 hQ2 z1 z2
    go_enter Tryd.func4, Tryd.ntmps4
    go_wp2_with (first
      | (go_at_call 6; (with_reducible refine k0.mono ?_); rintro e w1 ⟨rfl, h1⟩; have H1 := Lib.hid h1; have k1 := K1.out w1 h1; clear h1 k0)
      | (go_at_call 8; (with_reducible refine k1.mono ?_); rintro e w2 ⟨rfl, b2⟩; have H2 := Lib.hid (H1.out.trans (b2.mono H1.out.size)); have k2 := K2.out w2 (H1.out.trans (b2.mono H1.out.size)); clear b2 k1)
      | (go_at_call 8; (with_reducible refine k2.mono ?_); rintro e w3 ⟨rfl, b3⟩; have H3 := Lib.hid (H2.out.trans (b3.mono H2.out.size)); have k3 := KR.out w3; clear b3 k2)
      | (go_at_call 7; (with_reducible refine k3.mono ?_); rintro e w4 ⟨ao, cap, rfl, hq, hb⟩; obtain ⟨g1, p1, an, nn, cn, av, nv, cv, aw, nw, cw, aa, na, ca, ab, nb, cb, ac, nc, cc, e1, hp1, hg1, ⟨a0, a1, a2, a3, a4, a5, a6⟩, -, -, ⟨z3, y3⟩, -, -, -, -, -, q3, -, -, -⟩ := cmd_at hq (i := 0) rfl; injection e1 with e1 e1b e1c; subst e1; clear e1b e1c; obtain rfl : nw = 3 := z3; obtain ⟨g3, p3, bo3, m3, c3, e3, hp3, hg3, b3, z6, y6, q6⟩ := wd_at q3 (i := 1) rfl; injection e3 with e3 e3b e3c; subst e3; clear e3b e3c; obtain rfl : m3 = 1 := z6; obtain ⟨g4, p4, bo4, m4, c4, e4, hp4, hg4, b4, z7, y7, q7⟩ := wd_at q3 (i := 2) rfl; injection e4 with e4 e4b e4c; obtain rfl : m4 = 1 := z7; have e4' : g3 = g4 := (by cases e4; rfl); subst e4'; clear e4 e4b e4c; obtain ⟨g5, p5, lo, m5, c5, e5, hp5, hg5, ⟨d0, d1, d2, d3, d4⟩, z5, y5, q5⟩ := pt_at q6 (i := 0) rfl; injection e5 with e5 e5b e5c; subst e5; clear e5b e5c; obtain ⟨g7, p7, lo7, m7, c7, e7, hp7, hg7, ⟨f0, f1, f2, f3, f4⟩, z8, y8, q8⟩ := pt_at q7 (i := 0) rfl; injection e7 with e7 e7b e7c; subst e7; clear e7b e7c; have D0 : w4.cell? ⟨g5, 0 * 5, none⟩ = some (.int .i64 1) := d0; have D1 : w4.cell? ⟨g5, 0 * 5 + 1, none⟩ = some (.bool true) := d1; have D2 : w4.cell? ⟨g5, 0 * 5 + 2, none⟩ = some (.string s) := (by have u := d2; rw [show (⟨(litP true s.data.toList).s.toArray⟩ : ByteArray) = s from back_list s] at u; exact u); have F1 : w4.cell? ⟨g7, 0 * 5 + 1, none⟩ = some (.bool true) := f1; have F2 : w4.cell? ⟨g7, 0 * 5 + 2, none⟩ = some (.string t) := (by have u := f2; rw [show (⟨(litP true t.data.toList).s.toArray⟩ : ByteArray) = t from back_list t] at u; exact u); have HB4 := Lib.hid (H3.out.trans (hb.mono H3.out.size)); clear hb hq q3 q5 q6 q7 q8 a0 a1 a2 a4 a5 a6 d0 d1 d2 d3 d4 f0 f1 f2 f3 f4 k3))
    exact bodyPost_ret (results_tmp rfl _ _ _) rfl ⟨rfl, HB4.out⟩
  · have hzI : (2000 : Int) < ((s.size + t.size : Nat) : Int) := by omega
    have hzd : decide ((2000 : Int) < ((s.size + t.size : Nat) : Int)) = true := decide_eq_true hzI
    clear hm hs ht
    go_enter Tryd.func4, Tryd.ntmps4
    go_wp2_with (go_at_call 6; (with_reducible refine k0.mono ?_); rintro e w1 ⟨rfl, h1⟩; have H1 := Lib.hid h1; clear h1 k0)
    exact bodyPost_ret (results_tmp rfl _ _ _) rfl ⟨rfl, H1.out⟩
end Go.Proofs.YtelfgobjnibooaaDoor
