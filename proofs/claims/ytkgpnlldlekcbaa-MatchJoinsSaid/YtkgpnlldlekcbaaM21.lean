/- Packed texts: MaSpans, MaSpan. What each of them proves stands above its theorems; the conditions stand in these. -/
import Derived.Test.YtkgpnlldlekcbaaM5
import Derived.Test.YtkgpnlldlekcbaaM19
import Derived.Test.YtkgpnlldlekcbaaM20
namespace Go.Proofs.Ytkgpnlldlekcbaa
open Go.RowKit Go.Lib
attribute [local go_sem] Oper.semAt_some

open Classical in
noncomputable def farG (s : List UInt8) (T : Tr) (b : Nat) : Int :=
  if h : ∃ a : Nat, a ≤ s.length ∧ St s T b a ∧ ∀ a' : Nat, a < a' → a' ≤ s.length → ¬ St s T b a' then ((Classical.choose h : Nat) : Int) else -1
theorem farG_some {s : List UInt8} {T : Tr} {b a : Nat} (h1 : a ≤ s.length) (h2 : St s T b a) (h3 : ∀ a' : Nat, a < a' → a' ≤ s.length → ¬ St s T b a') : farG s T b = a := by
  have hex : ∃ a : Nat, a ≤ s.length ∧ St s T b a ∧ ∀ a' : Nat, a < a' → a' ≤ s.length → ¬ St s T b a' := ⟨a, h1, h2, h3⟩
  unfold farG
  rw [dif_pos hex]
  have hc := Classical.choose_spec hex
  generalize Classical.choose hex = c at hc
  obtain ⟨g1, g2, g3⟩ := hc
  have : ¬ a < c := fun h => h3 c h g1 g2
  have : ¬ c < a := fun h => g3 a h h1 h2
  omega
theorem farG_none {s : List UInt8} {T : Tr} {b : Nat} (h : ∀ a : Nat, a ≤ s.length → ¬ St s T b a) : farG s T b = -1 := by
  unfold farG
  rw [dif_neg (by rintro ⟨a, h1, h2, _⟩; exact h a h1 h2)]
theorem FarFrom.eq {s : List UInt8} {T : Tr} {k : Nat} {G : Nat → Int} (h : FarFrom s T k G) {b : Nat} (h1 : k ≤ b) (h2 : b ≤ s.length) : G b = farG s T b := by
  rcases h b h1 h2 with ⟨g1, g2⟩ | ⟨a, g1, g2, g3, g4⟩
  · rw [g1, farG_none g2]
  · rw [g2, farG_some g1 g3 g4]
theorem farG_cases (s : List UInt8) (T : Tr) (b : Nat) : farG s T b = -1 ∨ ∃ a : Nat, farG s T b = a ∧ b ≤ a ∧ a ≤ s.length ∧ St s T b a := by
  by_cases hex : ∃ a : Nat, a ≤ s.length ∧ St s T b a ∧ ∀ a' : Nat, a < a' → a' ≤ s.length → ¬ St s T b a'
  · obtain ⟨a, h1, h2, h3⟩ := hex
    exact .inr ⟨a, farG_some h1 h2 h3, St.le s T b a h2, h1, h2⟩
  · left
    unfold farG
    rw [dif_neg hex]
/-- The spans from a place on, when the last one ended somewhere. -/
def goL (G : Nat → Int) (n : Nat) : Nat → Nat → Int → List (Nat × Nat)
  | 0, _, _ => []
  | f + 1, a, e => if n < a then [] else if G a = -1 ∨ (G a = a ∧ e = a) then goL G n f (a + 1) e else (a, (G a).toNat) :: goL G n f (G a).toNat (G a)
def muL (n a : Nat) (e : Int) : Nat := 2 * (n + 1 - a) + (if e = a then 0 else 1)
noncomputable def spansL (s : List UInt8) (T : Tr) (k : Nat) : List (Nat × Nat) := goL (farG s T) s.length (2 * (s.length + 1 - k) + 2) k (-1)
abbrev encP (x : Nat × Nat) : Array Value := #[.int .i64 (x.1 : Int), .int .i64 (x.2 : Int)]
/-- What lies between two rounds. -/
structure SpS (s : ByteArray) (T : Tr) (k hr sb : Nat) (W w1 : World) (G : Nat → Int) (J : Nat → List (Nat × Nat) → World → Prop) (a : Nat) (e : Int) (wr : World) : Prop where
  row : wr.heap[hr]? = some (.cells ⟨intC s.size G⟩ 3 (0, 0))
  str : wr.heap[sb]? = some (.cells #[.string s] 9 (0, 0))
  size : w1.heap.size ≤ wr.heap.size
  at_ : k ≤ a
  list : ∃ pre f, spansL s.data.toList T k = pre ++ goL (farG s.data.toList T) s.size f a e ∧ muL s.size a e < f ∧ J (w1.heap.size - W.heap.size) pre wr
theorem muL_next (n a : Nat) (e : Int) (h : a ≤ n) : muL n (a + 1) e < muL n a e := by
  unfold muL
  split <;> split <;> omega
theorem muL_take (n a b : Nat) (e : Int) (h : a ≤ n) (hb : a ≤ b) (hne : ¬ (b = a ∧ e = a)) : muL n b (b : Int) < muL n a e := by
  unfold muL
  rw [if_pos rfl]
  by_cases hab : b = a
  · subst hab
    rw [if_neg (fun he => hne ⟨rfl, he⟩)]
    omega
  · split <;> omega
section
variable {s : ByteArray} {T : Tr} {k hr sb : Nat} {W w1 : World} {G : Nat → Int} {J : Nat → List (Nat × Nat) → World → Prop} {a : Nat} {e : Int} {wr : World}
theorem SpS.skip (h : SpS s T k hr sb W w1 G J a e wr) (ha : a ≤ s.size) (hc : farG s.data.toList T a = -1 ∨ (farG s.data.toList T a = a ∧ e = a)) : SpS s T k hr sb W w1 G J (a + 1) e wr := by
  obtain ⟨pre, f, h1, h2, h3⟩ := h.list
  cases f with
  | zero => omega
  | succ f =>
    refine ⟨h.row, h.str, h.size, by have := h.at_; omega, pre, f, ?_, by have := muL_next s.size a e ha; omega, h3⟩
    rw [h1]
    show pre ++ (if s.size < a then [] else if farG s.data.toList T a = -1 ∨ (farG s.data.toList T a = a ∧ e = a) then goL (farG s.data.toList T) s.size f (a + 1) e else _) = _
    rw [if_neg (by omega), if_pos hc]
theorem SpS.done (h : SpS s T k hr sb W w1 G J a e wr) (ha : s.size < a) : J (w1.heap.size - W.heap.size) (spansL s.data.toList T k) wr := by
  obtain ⟨pre, f, h1, h2, h3⟩ := h.list
  cases f with
  | zero => omega
  | succ f =>
    have : spansL s.data.toList T k = pre := by
      rw [h1]
      show pre ++ (if s.size < a then [] else _) = _
      rw [if_pos ha, List.append_nil]
    rw [this]
    exact h3
theorem SpS.take {b : Nat} (h : SpS s T k hr sb W w1 G J a e wr) (ha : a ≤ s.size) (hb : farG s.data.toList T a = (b : Int)) (hab : a ≤ b) (hne : ¬ (b = a ∧ e = a)) :
    ∃ pre, J (w1.heap.size - W.heap.size) pre wr ∧ (∃ rest, spansL s.data.toList T k = pre ++ (a, b) :: rest) ∧ ∀ W3, wr.heap.size ≤ W3.heap.size → W3.heap[hr]? = wr.heap[hr]? → W3.heap[sb]? = wr.heap[sb]? → J (w1.heap.size - W.heap.size) (pre ++ [(a, b)]) W3 → SpS s T k hr sb W w1 G J b (b : Int) W3 := by
  obtain ⟨pre, f, h1, h2, h3⟩ := h.list
  cases f with
  | zero => omega
  | succ f =>
    have e1 : spansL s.data.toList T k = pre ++ (a, b) :: goL (farG s.data.toList T) s.size f b (b : Int) := by
      rw [h1]
      show pre ++ (if s.size < a then [] else if farG s.data.toList T a = -1 ∨ (farG s.data.toList T a = a ∧ e = a) then _ else (a, (farG s.data.toList T a).toNat) :: goL (farG s.data.toList T) s.size f (farG s.data.toList T a).toNat (farG s.data.toList T a)) = _
      rw [if_neg (by omega), if_neg (by rw [hb]; exact fun hh => hh.elim (fun h => by omega) (fun h => hne ⟨by omega, h.2⟩)), hb, Int.toNat_natCast]
    refine ⟨pre, h3, ⟨_, e1⟩, fun W3 g1 g2 g3 g4 => ⟨g2.trans h.row, g3.trans h.str, Nat.le_trans h.size g1, by have := h.at_; omega, pre ++ [(a, b)], f, ?_, by have := muL_take s.size a b e ha hab hne; omega, g4⟩⟩
    rw [e1, List.append_assoc]
    rfl
end
set_option maxHeartbeats 8000000 in
set_option maxRecDepth 20000 in
theorem spans1 (tb sb fb b o cap k : Nat) (T : Tr) (ts : List Nd) (s : ByteArray) (W : World) (hts : ts = T.row 0) (hok : T.ok) (hsz : ts.length ≤ 2000) (hs : s.size ≤ 1000000) (hL : Lies (.slice (some ⟨b, o, none⟩) ts.length cap) ts W)
    (htb : W.heap[tb]? = some (.cells #[.slice (some ⟨b, o, none⟩) ts.length cap] 22 (0, 0))) (hsb : W.heap[sb]? = some (.cells #[.string s] 9 (0, 0))) (hfb : W.heap[fb]? = some (.cells #[.int .i64 (k : Int)] 3 (0, 0))) :
    SeqF Try.prog 84 #[.pointer (some ⟨tb, 0, none⟩), .pointer (some ⟨sb, 0, none⟩), .pointer (some ⟨fb, 0, none⟩)] encP (spansL s.data.toList T k) (fun j => j = sb) W := fun l J Jx hJ hJx hY h0 => by
  have hlen : s.data.toList.length = s.size := Array.length_toList
  have k1 := callsIn_wide (n := 0).2 (far_any b o cap T ts s k W hts hok hsz hs hL)
  have ct : W.cell? ⟨tb, 0, none⟩ = some (.slice (some ⟨b, o, none⟩) ts.length cap) := by rw [cell_of_heap htb]; rfl
  have cs : W.cell? ⟨sb, 0, none⟩ = some (.string s) := by rw [cell_of_heap hsb]; rfl
  have cf : W.cell? ⟨fb, 0, none⟩ = some (.int .i64 (k : Int)) := by rw [cell_of_heap hfb]; rfl
  have HY := Lib.hid hY
  have HJ := Lib.hid (And.intro hJ h0)
  have HB := Lib.hid (And.intro hsb (And.intro hfb (And.intro hlen hs)))
  clear hY hJ hJx h0 hts hok hsz hs hL htb hsb hfb hlen
  refine callsIn_of_wp Try.func84 rfl trivial ?_ rfl
  simp only [Try.ntmps84, List.size_toArray, List.length_cons, List.length_nil, Nat.reduceAdd, Nat.reduceSub, Array.replicate_succ, Array.replicate_zero, List.push_toArray, List.append_toArray, List.nil_append, List.cons_append]
  gi_wp2_with (refine ⟨trivial, rfl, ?_⟩; gi_at_call 85; refine (k1).mono ?_; rintro e w1 ⟨hr, G, rfl, hhr, hrow, hfar, hb1⟩
               have cf1 := cell_kept hb1 cf
               have H1 := Lib.hid (And.intro hhr (And.intro hrow (And.intro hfar hb1)))
               clear k1 ct cs cf hhr hrow hfar hb1)
  gi_loopw [6, 7] (fun v6 v7 wr => ∃ (a : Nat) (e : Int), v6 = .int .i64 e ∧ v7 = .int .i64 a ∧ Hid (SpS s T k hr sb W w1 G J a e wr))
    (fun v6 v7 _ => muL s.size (RowKit.intOf v7).toNat (RowKit.intOf v6))
  case atStart =>
    obtain ⟨hhr, hrow, hfar, hb1⟩ := H1.out
    obtain ⟨hsb, hfb, hlen, hs⟩ := HB.out
    refine ⟨k, -1, rfl, rfl, ⟨hrow, (hb1.block _ (block_lt hsb)).trans hsb, Nat.le_refl _, Nat.le_refl _, [], 2 * (s.size + 1 - k) + 2, (by unfold spansL; rw [hlen]; rfl), ?_, ?_⟩⟩
    · unfold muL; split <;> omega
    · exact (HJ.out.1 _).grow (HJ.out.2 _) (grown_of_below hb1 none)
  case round =>
    obtain ⟨a, e, rfl, rfl, HS⟩ := hrel
    have cs : wr.cell? ⟨sb, 0, none⟩ = some (.string s) := by rw [cell_of_heap HS.out.str]; rfl
    obtain ⟨-, -, hlen, hs⟩ := HB.out
    obtain ⟨hhr, -, hfar, hb1⟩ := H1.out
    by_cases hlt : a ≤ s.size
    · have hka := HS.out.at_
      have hG := hfar.eq hka (by rw [hlen]; exact hlt)
      have cg : wr.cell? ⟨hr, a, none⟩ = some (.int .i64 (G a)) := by rw [cell_of_heap HS.out.row]; simpa using intC_get s.size G a hlt
      have a0 : (0 : Int) ≤ (a : Int) := by omega
      have a1 : (a : Int) ≤ (s.size : Int) := by omega
      have a2 : (a : Int) < (s.size : Int) + 1 := by omega
      have aw : IntKind.i64.wrap ((a : Int) + 1) = ((a + 1 : Nat) : Int) := by rw [IntWalk.i64_in _ (by omega)]; omega
      rw [hG] at cg
      rcases farG_cases s.data.toList T a with hc | ⟨b, hc, hab, hbn, -⟩
      · rw [hc] at cg
        have f1 : ((-1 : Int) == (a : Int)) = false := beq_eq_false_iff_ne.2 (by omega)
        have HN := Lib.hid (HS.out.skip hlt (.inl hc))
        have HM := Lib.hid (muL_next s.size a e hlt)
        clear hG hc hfar hlen hs hka hb1 hhr
        gi_wp2
        go_roundw
        case rel => exact ⟨a + 1, e, rfl, by go_num, HN.out⟩
        case measure => simpa [RowKit.intOf] using HM.out
      · rw [hc] at cg
        by_cases hag : b = a ∧ e = a
        · obtain ⟨rfl, rfl⟩ := hag
          have f1 : ((b : Int) == -1) = false := beq_eq_false_iff_ne.2 (by omega)
          have HN := Lib.hid (HS.out.skip hlt (.inr ⟨hc, rfl⟩))
          have HM := Lib.hid (muL_next s.size b (b : Int) hlt)
          clear hG hc hfar hlen hs hka hb1 hhr
          gi_wp2
          go_roundw
          case rel => exact ⟨b + 1, (b : Int), rfl, by go_num, HN.out⟩
          case measure => simpa [RowKit.intOf] using HM.out
        · obtain ⟨pre, hJp, hpre, hnext⟩ := HS.out.take hlt hc hab hag
          have hwz := HS.out.size
          have hw1 := hb1.size
          have hrl := block_lt H1.out.2.1
          obtain ⟨fn, tmps, assign, body, hy, hR⟩ := HY.out (w1.heap.size - W.heap.size) pre (a, b) wr (by omega) hJp hpre
          dsimp only [encP] at hy
          have f1 : ((b : Int) == -1) = false := beq_eq_false_iff_ne.2 (by omega)
          have HN := Lib.hid (And.intro hnext (And.intro (muL_take s.size a b e hlt hab hag) (And.intro hhr (And.intro hw1 hrl))))
          clear hG hc hfar hlen hs hka hb1 hhr hnext hJp hpre hwz hw1 hrl
          by_cases hba : b = a
          · have f2 : ((b : Int) == (a : Int)) = true := by simp; omega
            have f3 : (e == (a : Int)) = false := beq_eq_false_iff_ne.2 (fun h => hag ⟨hba, h⟩)
            clear hba hag
            gi_wp2
            refine ⟨rfl, hR.mono ?_⟩
            clear hy hR
            rintro en W3 ⟨hs3, hk3, ⟨rfl, hJ3⟩ | ⟨rfl, hJx3⟩⟩
            · have HJ3 := Lib.hid (And.intro hs3 (And.intro hk3 hJ3))
              clear hs3 hk3 hJ3
              gi_wp2
              go_roundw
              case rel => exact ⟨b, (b : Int), rfl, rfl, HN.out.1 W3 HJ3.out.1 (HJ3.out.2.1 hr (.inr (by have := HN.out.2.2; omega))) (HJ3.out.2.1 sb (.inl rfl)) HJ3.out.2.2⟩
              case measure => simpa [RowKit.intOf] using HN.out.2.1
            · have HX := Lib.hid hJx3
              clear hJx3
              gi_wp2
              refine bodyPost_ret (results_none rfl _ _ _) rfl ?_
              exact ⟨⟨_, rfl⟩, _, .inr ⟨_, HX.out⟩⟩
          · have f2 : ((b : Int) == (a : Int)) = false := beq_eq_false_iff_ne.2 (by omega)
            clear hba hag
            gi_wp2
            refine ⟨rfl, hR.mono ?_⟩
            clear hy hR
            rintro en W3 ⟨hs3, hk3, ⟨rfl, hJ3⟩ | ⟨rfl, hJx3⟩⟩
            · have HJ3 := Lib.hid (And.intro hs3 (And.intro hk3 hJ3))
              clear hs3 hk3 hJ3
              gi_wp2
              go_roundw
              case rel => exact ⟨b, (b : Int), rfl, rfl, HN.out.1 W3 HJ3.out.1 (HJ3.out.2.1 hr (.inr (by have := HN.out.2.2; omega))) (HJ3.out.2.1 sb (.inl rfl)) HJ3.out.2.2⟩
              case measure => simpa [RowKit.intOf] using HN.out.2.1
            · have HX := Lib.hid hJx3
              clear hJx3
              gi_wp2
              refine bodyPost_ret (results_none rfl _ _ _) rfl ?_
              exact ⟨⟨_, rfl⟩, _, .inr ⟨_, HX.out⟩⟩
    · gi_wp2
      go_end0
      exact ⟨⟨_, rfl⟩, _, .inl (HS.out.done (by omega))⟩
end Go.Proofs.Ytkgpnlldlekcbaa
namespace Go.Proofs.Ytkgpnlldlekcbaa
open Go.RowKit Go.Lib
attribute [local go_sem] Oper.semAt_some

set_option maxHeartbeats 1000000 in
theorem spans_make (v : Value) (s : ByteArray) (k : Int) (w : World) (hv : ∃ ao n c, v = .slice ao n c) :
    Calls Try.prog 63 #[v, .string s, .int .i64 k] w fun e w' => e = .returned (.func (.func 84) #[] #[.pointer (some ⟨w.heap.size, 0, none⟩), .pointer (some ⟨w.heap.size + 1, 0, none⟩), .pointer (some ⟨w.heap.size + 1 + 1, 0, none⟩)]) ∧
      w' = ((w.alloc (.cells #[v] 22)).alloc (.cells #[.string s] 9)).alloc (.cells #[.int .i64 k] 3) := by
  obtain ⟨ao, n, c, rfl⟩ := hv
  have hmf : ∀ (fn : Fn) (first cap : Array Value) (w : World), (Instr.makeFunc fn first cap).run Try.prog w = .ok (.func fn first cap) w := fun _ _ _ _ => rfl
  go_enter Try.func63, Try.ntmps63
  go_wp2
  go_ret
  exact ⟨rfl, rfl⟩
theorem load_int {w : World} {g : Nat} {x : Int} (hc : w.cell? ⟨g, 0, none⟩ = some (.int .i64 x)) : (loadVar 3 ⟨g, 0, none⟩).run Try.prog w = .ok (.int .i64 x) w := by
  go_simp
theorem load_bool {w : World} {g : Nat} {x : Bool} (hc : w.cell? ⟨g, 0, none⟩ = some (.bool x)) : (loadVar 4 ⟨g, 0, none⟩).run Try.prog w = .ok (.bool x) w := by
  go_simp
theorem results_three {fn : Func} {p q r : Tmp} {t1 t2 t3 : TypeId} (h : fn.results = #[.cell p t1, .cell q t2, .cell r t3]) (tmps : Array Value) (w : World) (g1 g2 g3 : Nat) (x y z : Value)
    (hp : tmps.getD p undef = .pointer (some ⟨g1, 0, none⟩)) (hq : tmps.getD q undef = .pointer (some ⟨g2, 0, none⟩)) (hr : tmps.getD r undef = .pointer (some ⟨g3, 0, none⟩))
    (h1 : (loadVar t1 ⟨g1, 0, none⟩).run Try.prog w = .ok x w) (h2 : (loadVar t2 ⟨g2, 0, none⟩).run Try.prog w = .ok y w) (h3 : (loadVar t3 ⟨g3, 0, none⟩).run Try.prog w = .ok z w) :
    (results fn tmps).run Try.prog w = .ok (.tuple #[x, y, z]) w := by
  simp only [results, h]
  simp at hp hq hr
  simp [Sem.run_bind, Result.andThen, hp, hq, hr, asAddr, h1, h2, h3]
/-- Three named results. -/
structure R3 (h : Nat) (w : World) (x y : Int) (t : Bool) (Z : World) : Prop where
  c0 : Z.heap[h]? = some (.cells #[.int .i64 x] 3 (0, 0))
  c1 : Z.heap[h + 1]? = some (.cells #[.int .i64 y] 3 (0, 0))
  c2 : Z.heap[h + 2]? = some (.cells #[.bool t] 4 (0, 0))
  low : Below h w Z
theorem R3.grown {h : Nat} {w A B : World} {x y : Int} {t : Bool} {row : Option Nat} {D : Nat} (r : R3 h w x y t A) (hD : h + 3 ≤ D) (hg : A.grownBy B row) (hr : ∀ q, row = some q → D ≤ q) : R3 h w x y t B := by
  have e : ∀ {j : Nat} {o : Obj}, A.heap[j]? = some o → j < D → B.heap[j]? = some o := fun {j o} hj hl => (hg.block j (block_lt hj) (fun e => by have := hr j e.symm; omega)).trans hj
  exact ⟨e r.c0 (by omega), e r.c1 (by omega), e r.c2 (by omega), r.low.grown hg (by have := block_lt r.c0; omega) (fun q hq => by have := hr q hq; omega)⟩
theorem R3.set {h : Nat} {w Z : World} {x y : Int} {t : Bool} (r : R3 h w x y t Z) (x' y' : Int) (t' : Bool) : R3 h w x' y' t' (((Z.setCell ⟨h, 0, none⟩ (.int .i64 x')).setCell ⟨h + 1, 0, none⟩ (.int .i64 y')).setCell ⟨h + 2, 0, none⟩ (.bool t')) := by
  refine ⟨?_, ?_, ?_, ((r.low.setCell (p := ⟨h, 0, none⟩) (Nat.le_refl _) _).setCell (p := ⟨h + 1, 0, none⟩) (by dsimp only; omega) _).setCell (p := ⟨h + 2, 0, none⟩) (by dsimp only; omega) _⟩
  · refine (Below.heap_setCell _ _ _ _ (by dsimp only; omega)).trans ((Below.heap_setCell _ _ _ _ (by dsimp only; omega)).trans ?_)
    simpa using heap_setCell_same Z h 0 _ _ (Value.int .i64 x') r.c0
  · refine (Below.heap_setCell _ _ _ _ (by dsimp only; omega)).trans ?_
    simpa using heap_setCell_same _ (h + 1) 0 _ _ (Value.int .i64 y') ((Below.heap_setCell _ _ _ _ (by dsimp only; omega)).trans r.c1)
  · simpa using heap_setCell_same _ (h + 2) 0 _ _ (Value.bool t') ((Below.heap_setCell _ _ _ _ (by dsimp only; omega)).trans ((Below.heap_setCell _ _ _ _ (by dsimp only; omega)).trans r.c2))
theorem R3.facts {h : Nat} {w Z : World} {x y : Int} {t : Bool} (r : R3 h w x y t Z) : (Z.cell? ⟨h, 0, none⟩ = some (.int .i64 x) ∧ Z.cell? ⟨h + 1, 0, none⟩ = some (.int .i64 y) ∧ Z.cell? ⟨h + 2, 0, none⟩ = some (.bool t)) ∧ Z.frozen? ⟨h, 0, none⟩ = false ∧ Z.frozen? ⟨h + 1, 0, none⟩ = false ∧ Z.frozen? ⟨h + 2, 0, none⟩ = false :=
  ⟨⟨by rw [cell_of_heap r.c0]; rfl, by rw [cell_of_heap r.c1]; rfl, by rw [cell_of_heap r.c2]; rfl⟩, frozen_of_heap r.c0 0, frozen_of_heap r.c1 0, frozen_of_heap r.c2 0⟩
def spanV : List (Nat × Nat) → Value
  | [] => .tuple #[.int .i64 0, .int .i64 0, .bool false]
  | x :: _ => .tuple #[.int .i64 (x.1 : Int), .int .i64 (x.2 : Int), .bool true]
set_option maxHeartbeats 2000000 in
set_option maxRecDepth 100000 in
theorem first_walk (b o cap k : Nat) (a : Int) (T : Tr) (ts : List Nd) (s : ByteArray) (w : World) (hk : max a 0 = (k : Int)) (hts : ts = T.row 0) (hok : T.ok) (hsz : ts.length ≤ 2000) (hs : s.size ≤ 1000000) (hL : Lies (.slice (some ⟨b, o, none⟩) ts.length cap) ts w) :
    CallsIn Fence.wide 0 Try.prog 42 #[.slice (some ⟨b, o, none⟩) ts.length cap, .string s, .int .i64 a] w fun e w' => e = .returned (spanV (spansL s.data.toList T k)) ∧ Below w.heap.size w w' := by
  have k1 := fun w => callsIn_wide (n := 0).2 (spans_make (.slice (some ⟨b, o, none⟩) ts.length cap) s (k : Int) w ⟨_, _, _, rfl⟩)
  have H := Lib.hid (And.intro hts (And.intro hok (And.intro hsz (And.intro hs hL))))
  clear hts hok hsz hs hL
  refine callsIn_of_wp_marks Try.func42 rfl trivial ?_ rfl
  simp only [Try.ntmps42, List.size_toArray, List.length_cons, List.length_nil, Nat.reduceAdd, Nat.reduceSub, Array.replicate_succ, Array.replicate_zero, List.push_toArray, List.append_toArray, List.nil_append, List.cons_append]
  gi_wp2_with (first
    | (refine ⟨trivial, rfl, ?_⟩; gi_at_call 63; refine (k1 _).mono ?_; rintro e w2 ⟨rfl, rfl⟩)
    | fail)
  obtain ⟨h, hh⟩ : ∃ h, h = w.heap.size := ⟨_, rfl⟩
  rw [← hh]
  obtain ⟨V, hV⟩ : ∃ V, V = (((((w.alloc (.cells #[.int .i64 0] 3)).alloc (.cells #[.int .i64 0] 3)).alloc (.cells #[.bool false] 4)).alloc (.cells #[.slice (some ⟨b, o, none⟩) ts.length cap] 22)).alloc (.cells #[.string s] 9)).alloc (.cells #[.int .i64 (k : Int)] 3) := ⟨_, rfl⟩
  rw [← hV]
  have z1 : (w.alloc (.cells #[.int .i64 0] 3)).heap.size = h + 1 := by rw [hh]; simp
  have z2 : ((w.alloc (.cells #[.int .i64 0] 3)).alloc (.cells #[.int .i64 0] 3)).heap.size = h + 2 := by rw [hh]; simp
  have z3 : (((w.alloc (.cells #[.int .i64 0] 3)).alloc (.cells #[.int .i64 0] 3)).alloc (.cells #[.bool false] 4)).heap.size = h + 3 := by rw [hh]; simp
  have z4 : ((((w.alloc (.cells #[.int .i64 0] 3)).alloc (.cells #[.int .i64 0] 3)).alloc (.cells #[.bool false] 4)).alloc (.cells #[.slice (some ⟨b, o, none⟩) ts.length cap] 22)).heap.size = h + 4 := by rw [hh]; simp
  have z5 : (((((w.alloc (.cells #[.int .i64 0] 3)).alloc (.cells #[.int .i64 0] 3)).alloc (.cells #[.bool false] 4)).alloc (.cells #[.slice (some ⟨b, o, none⟩) ts.length cap] 22)).alloc (.cells #[.string s] 9)).heap.size = h + 5 := by rw [hh]; simp
  have z6 : V.heap.size = h + 6 := by rw [hV, hh]; simp
  have v5 : V.heap[h + 5]? = some (.cells #[.int .i64 (k : Int)] 3 (0, 0)) := by rw [hV, ← z5]; exact heap_alloc_new _ _
  have v4 : V.heap[h + 4]? = some (.cells #[.string s] 9 (0, 0)) := by rw [hV]; refine (Below.heap_alloc _ _ _ (by rw [z5]; omega)).trans ?_; rw [← z4]; exact heap_alloc_new _ _
  have v3 : V.heap[h + 3]? = some (.cells #[.slice (some ⟨b, o, none⟩) ts.length cap] 22 (0, 0)) := by rw [hV]; refine (Below.heap_alloc _ _ _ (by rw [z5]; omega)).trans ((Below.heap_alloc _ _ _ (by rw [z4]; omega)).trans ?_); rw [← z3]; exact heap_alloc_new _ _
  have vl : ∀ j, j < h + 3 → V.heap[j]? = (((w.alloc (.cells #[.int .i64 0] 3)).alloc (.cells #[.int .i64 0] 3)).alloc (.cells #[.bool false] 4)).heap[j]? := fun j hj => by rw [hV]; exact (Below.heap_alloc _ _ _ (by rw [z5]; omega)).trans ((Below.heap_alloc _ _ _ (by rw [z4]; omega)).trans (Below.heap_alloc _ _ _ (by rw [z3]; omega)))
  have vB : Below h w V := by rw [hV, hh]; exact ((((((Below.refl _ w).alloc (Nat.le_refl _) _).alloc (by simp) _).alloc (by simp; omega) _).alloc (by simp; omega) _).alloc (by simp; omega) _).alloc (by simp; omega) _
  have hR : R3 h w 0 0 false V := by
    refine ⟨(vl _ (by omega)).trans ?_, (vl _ (by omega)).trans ?_, (vl _ (by omega)).trans ?_, vB⟩
    · exact (Below.heap_alloc _ _ _ (by rw [z2]; omega)).trans ((Below.heap_alloc _ _ _ (by rw [z1]; omega)).trans (by rw [hh]; exact heap_alloc_new _ _))
    · exact (Below.heap_alloc _ _ _ (by rw [z2]; omega)).trans (by rw [← z1]; exact heap_alloc_new _ _)
    · rw [← z2]; exact heap_alloc_new _ _
  obtain ⟨hts, hok, hsz, hs, hL⟩ := H.out
  have hLV := hL.below (w' := V) (by rw [← hh]; exact vB)
  have HV := Lib.hid (And.intro v5 (And.intro v4 (And.intro v3 hLV)))
  have HR := Lib.hid hR
  have HH := Lib.hid hh
  clear hV z1 z2 z3 z4 z5 v5 v4 v3 vl vB hR hts hok hsz hs hL hLV k1 hh
  refine wp_rangeF (gf := 84) (lb := #[.pointer (some ⟨h + 3, 0, none⟩), .pointer (some ⟨h + 4, 0, none⟩), .pointer (some ⟨h + 5, 0, none⟩)]) (encs := encP) (L := spansL s.data.toList T k) (K := fun j => j = h + 4) rfl (enters_of Try.func84 (by kernel_rfl) rfl) (fun _ => rfl)
    (fun Z hz ho => by
      obtain ⟨hts, hok, hsz, hs, _⟩ := H.out
      have hbl : Below V.heap.size V Z → True := fun _ => trivial
      exact spans1 (h + 3) (h + 4) (h + 5) b o cap k T ts s Z hts hok hsz hs (by
        obtain ⟨ao, cp, e1, e2, e3⟩ := HV.out.2.2.2
        refine ⟨ao, cp, e1, e2, fun j n hj => ?_⟩
        obtain ⟨b', o', g1, g2, g3⟩ := e3 j n hj
        refine ⟨b', o', g1, by omega, ?_⟩
        have e : ∀ i, Z.cell? ⟨b', i, none⟩ = V.cell? ⟨b', i, none⟩ := fun i => by unfold World.cell?; rw [ho b' g2]
        unfold NdAt at g3 ⊢
        rw [e, e, e, e, e, e, e]
        exact g3) ((ho _ (by omega)).trans HV.out.2.2.1) ((ho _ (by omega)).trans HV.out.2.1) ((ho _ (by omega)).trans HV.out.1)) (fun j hj => by omega)
    (fun _ pre Z => pre = [] ∧ R3 h w 0 0 false Z) (fun _ pre Z => ∃ x rest, spansL s.data.toList T k = x :: rest ∧ R3 h w (x.1 : Int) (x.2 : Int) true Z)
    (fun _ pre A B row hs hg hr => ⟨hs.1, hs.2.grown (D := V.heap.size) (by omega) hg (fun q hq => (hr q hq).1)⟩)
    (fun _ pre A B row hs hg hr => by obtain ⟨x, rest, h1, h2⟩ := hs; exact ⟨x, rest, h1, h2.grown (D := V.heap.size) (by omega) hg (fun q hq => (hr q hq).1)⟩)
    (fun _ => ⟨rfl, HR.out⟩)
    (fun x => { tmps := #[.slice (some ⟨b, o, none⟩) ts.length cap, .string s, .int .i64 a, undef, undef, undef, .pointer (some ⟨h, 0, none⟩), .pointer (some ⟨h + 1, 0, none⟩), .pointer (some ⟨h + 1 + 1, 0, none⟩), .int .i64 (x.1 : Int), .int .i64 (x.2 : Int),
      .slice (some ⟨b, o, none⟩) ts.length cap, .string s, .int .i64 a, .int .i64 (k : Int), .func (.func 84) #[] #[.pointer (some ⟨h + 1 + 1 + 1, 0, none⟩), .pointer (some ⟨h + 1 + 1 + 1 + 1, 0, none⟩), .pointer (some ⟨h + 1 + 1 + 1 + 1 + 1, 0, none⟩)], .int .i64 (x.1 : Int), .int .i64 (x.2 : Int), undef, undef], defers := [] })
    ?assign ?body ?done ?stop
  case assign =>
    intro l2 x Z kk hK
    gi_wp2
    exact hK
  case body =>
    rintro l2 c pre x Z hsz ⟨rfl, hR⟩ ⟨rest, hpre⟩
    obtain ⟨⟨c0, c1, c2⟩, f0, f1, f2⟩ := hR.facts
    have HR2 := Lib.hid (hR.set (x.1 : Int) (x.2 : Int) true)
    have HP := Lib.hid hpre
    clear hR hpre
    gi_wp2
    refine ⟨by simp [World.setCell], fun j hj => ?_, x, rest, HP.out, HR2.out⟩
    exact (Below.heap_setCell _ _ _ _ (by dsimp only; omega)).trans ((Below.heap_setCell _ _ _ _ (by dsimp only; omega)).trans (Below.heap_setCell _ _ _ _ (by dsimp only; omega)))
  case done =>
    rintro c Z ⟨hnil, hR⟩ hK
    obtain ⟨⟨c0, c1, c2⟩, f0, f1, f2⟩ := hR.facts
    have HR2 := Lib.hid (hR.set 0 0 false)
    have hK2 : (((Z.setCell ⟨h, 0, none⟩ (.int .i64 0)).setCell ⟨h + 1, 0, none⟩ (.int .i64 0)).setCell ⟨h + 2, 0, none⟩ (.bool false)).heap[V.heap.size]? = some (.deferred (some [])) :=
      (Below.heap_setCell _ _ _ _ (by dsimp only; omega)).trans ((Below.heap_setCell _ _ _ _ (by dsimp only; omega)).trans ((Below.heap_setCell _ _ _ _ (by dsimp only; omega)).trans hK))
    have HK := Lib.hid hK2
    have HN := Lib.hid hnil
    clear hR hK hK2 hnil
    gi_wp2
    refine ⟨by simp, .inl ⟨_, _, rfl, run_takeDeferred HK.out, ?_⟩⟩
    have hr3 := HR2.out.grown (D := V.heap.size) (by omega) (putObj_grown _ _ (.deferred none)) (fun q e => by cases e; exact Nat.le_refl _)
    obtain ⟨⟨d0, d1, d2⟩, _⟩ := hr3.facts
    exact ⟨_, results_three (p := 6) (q := 7) (r := 8) rfl _ _ h (h + 1) (h + 2) _ _ _ rfl rfl rfl (load_int d0) (load_int d1) (load_bool d2), by rw [HN.out]; rfl, by rw [← HH.out]; exact hr3.low⟩
  case stop =>
    rintro c pre Z ⟨x, rest, hpre, hR⟩ hK
    have HR2 := Lib.hid hR
    have HK := Lib.hid hK
    have HN := Lib.hid hpre
    clear hR hK hpre
    gi_wp2
    refine ⟨by simp, .inl ⟨_, _, rfl, run_takeDeferred HK.out, ?_⟩⟩
    have hr3 := HR2.out.grown (D := V.heap.size) (by omega) (putObj_grown _ _ (.deferred none)) (fun q e => by cases e; exact Nat.le_refl _)
    obtain ⟨⟨d0, d1, d2⟩, _⟩ := hr3.facts
    exact ⟨_, results_three (p := 6) (q := 7) (r := 8) rfl _ _ h (h + 1) (h + 2) _ _ _ rfl rfl rfl (load_int d0) (load_int d1) (load_bool d2), by rw [HN.out]; rfl, by rw [← HH.out]; exact hr3.low⟩
theorem lies_ptr {v : Value} {ts : List Nd} {w : World} {T : Tr} (hts : ts = T.row 0) (hL : Lies v ts w) : ∃ b o cap, v = .slice (some ⟨b, o, none⟩) ts.length cap := by
  obtain ⟨ao, cap, rfl, _, hq⟩ := hL
  obtain ⟨b, o, rfl, _, _⟩ := hq 0 _ (List.getElem?_eq_getElem (by rw [hts, Tr.row_length]; exact T.size_pos))
  exact ⟨b, o, cap, rfl⟩
/-- Package match's Span, of a tree's row. -/
theorem span_first (v : Value) (a : Int) (T : Tr) (ts : List Nd) (s : ByteArray) (w : World) (hts : ts = T.row 0) (hok : T.ok) (hsz : ts.length ≤ 2000) (hs : s.size ≤ 1000000) (hL : Lies v ts w) :
    Calls Try.prog 42 #[v, .string s, .int .i64 a] w fun e w' => e = .returned (spanV (spansL s.data.toList T a.toNat)) ∧ Below w.heap.size w w' := by
  obtain ⟨b, o, cap, rfl⟩ := lies_ptr hts hL
  exact callsIn_wide.1 (first_walk b o cap a.toNat a T ts s w (by omega) hts hok hsz hs hL)
end Go.Proofs.Ytkgpnlldlekcbaa
