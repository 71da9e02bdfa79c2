/- Spans, one behind the other: package match's iterator over them. Conditions: 2000 nodes, 1000000 bytes. -/
import Derived.Test.YtolofcfegoeenaaMaFar2
import Derived.Test.YtolofcfegoeenaaMaRange
import Derived.Test.YtolofcfegoeenaaClsEach
namespace Go.Proofs.Ytolofcfegoeenaa
open Go.RowKit Go.Lib
attribute [local go_sem] Oper.semAt_some

open Classical in
noncomputable def farG (s : List UInt8) (T : Tr) (b : Nat) : Int :=
  if h : ∃ a : Nat, a ≤ s.length ∧ St s T b a ∧ ∀ a' : Nat, a < a' → a' ≤ s.length → ¬ St s T b a' then ((Classical.choose h : Nat) : Int) else -1
theorem farG_some {s : List UInt8} {T : Tr} {b a : Nat} (h1 : a ≤ s.length) (h2 : St s T b a) (h3 : ∀ a' : Nat, a < a' → a' ≤ s.length → ¬ St s T b a') : farG s T b = a := by
  have hex : ∃ a : Nat, a ≤ s.length ∧ St s T b a ∧ ∀ a' : Nat, a < a' → a' ≤ s.length → ¬ St s T b a' := ⟨a, h1, h2, h3⟩
  unfold farG
  rw [dif_pos hex]
  have hc := Classical.choose_spec hex
  generalize Classical.choose hex = c at hc
  obtain ⟨g1, g2, g3⟩ := hc
  have : ¬ a < c := fun h => h3 c h g1 g2
  have : ¬ c < a := fun h => g3 a h h1 h2
  omega
theorem farG_none {s : List UInt8} {T : Tr} {b : Nat} (h : ∀ a : Nat, a ≤ s.length → ¬ St s T b a) : farG s T b = -1 := by
  unfold farG
  rw [dif_neg (by rintro ⟨a, h1, h2, _⟩; exact h a h1 h2)]
theorem FarFrom.eq {s : List UInt8} {T : Tr} {k : Nat} {G : Nat → Int} (h : FarFrom s T k G) {b : Nat} (h1 : k ≤ b) (h2 : b ≤ s.length) : G b = farG s T b := by
  rcases h b h1 h2 with ⟨g1, g2⟩ | ⟨a, g1, g2, g3, g4⟩
  · rw [g1, farG_none g2]
  · rw [g2, farG_some g1 g3 g4]
theorem farG_cases (s : List UInt8) (T : Tr) (b : Nat) : farG s T b = -1 ∨ ∃ a : Nat, farG s T b = a ∧ b ≤ a ∧ a ≤ s.length ∧ St s T b a := by
  by_cases hex : ∃ a : Nat, a ≤ s.length ∧ St s T b a ∧ ∀ a' : Nat, a < a' → a' ≤ s.length → ¬ St s T b a'
  · obtain ⟨a, h1, h2, h3⟩ := hex
    exact .inr ⟨a, farG_some h1 h2 h3, St.le s T b a h2, h1, h2⟩
  · left
    unfold farG
    rw [dif_neg hex]
/-- The spans from a place on, when the last one ended somewhere. -/
def goL (G : Nat → Int) (n : Nat) : Nat → Nat → Int → List (Nat × Nat)
  | 0, _, _ => []
  | f + 1, a, e => if n < a then [] else if G a = -1 ∨ (G a = a ∧ e = a) then goL G n f (a + 1) e else (a, (G a).toNat) :: goL G n f (G a).toNat (G a)
def muL (n a : Nat) (e : Int) : Nat := 2 * (n + 1 - a) + (if e = a then 0 else 1)
noncomputable def spansL (s : List UInt8) (T : Tr) (k : Nat) : List (Nat × Nat) := goL (farG s T) s.length (2 * (s.length + 1 - k) + 2) k (-1)
abbrev encP (x : Nat × Nat) : Array Value := #[.int .i64 (x.1 : Int), .int .i64 (x.2 : Int)]
/-- What lies between two rounds. -/
structure SpS (s : ByteArray) (T : Tr) (k hr sb : Nat) (W w1 : World) (G : Nat → Int) (J : Nat → List (Nat × Nat) → World → Prop) (a : Nat) (e : Int) (wr : World) : Prop where
  row : wr.heap[hr]? = some (.cells ⟨intC s.size G⟩ 3 (0, 0))
  str : wr.heap[sb]? = some (.cells #[.string s] 9 (0, 0))
  size : w1.heap.size ≤ wr.heap.size
  at_ : k ≤ a
  list : ∃ pre f, spansL s.data.toList T k = pre ++ goL (farG s.data.toList T) s.size f a e ∧ muL s.size a e < f ∧ J (w1.heap.size - W.heap.size) pre wr
theorem muL_next (n a : Nat) (e : Int) (h : a ≤ n) : muL n (a + 1) e < muL n a e := by
  unfold muL
  split <;> split <;> omega
theorem muL_take (n a b : Nat) (e : Int) (h : a ≤ n) (hb : a ≤ b) (hne : ¬ (b = a ∧ e = a)) : muL n b (b : Int) < muL n a e := by
  unfold muL
  rw [if_pos rfl]
  by_cases hab : b = a
  · subst hab
    rw [if_neg (fun he => hne ⟨rfl, he⟩)]
    omega
  · split <;> omega
section
variable {s : ByteArray} {T : Tr} {k hr sb : Nat} {W w1 : World} {G : Nat → Int} {J : Nat → List (Nat × Nat) → World → Prop} {a : Nat} {e : Int} {wr : World}
theorem SpS.skip (h : SpS s T k hr sb W w1 G J a e wr) (ha : a ≤ s.size) (hc : farG s.data.toList T a = -1 ∨ (farG s.data.toList T a = a ∧ e = a)) : SpS s T k hr sb W w1 G J (a + 1) e wr := by
  obtain ⟨pre, f, h1, h2, h3⟩ := h.list
  cases f with
  | zero => omega
  | succ f =>
    refine ⟨h.row, h.str, h.size, by have := h.at_; omega, pre, f, ?_, by have := muL_next s.size a e ha; omega, h3⟩
    rw [h1]
    show pre ++ (if s.size < a then [] else if farG s.data.toList T a = -1 ∨ (farG s.data.toList T a = a ∧ e = a) then goL (farG s.data.toList T) s.size f (a + 1) e else _) = _
    rw [if_neg (by omega), if_pos hc]
theorem SpS.done (h : SpS s T k hr sb W w1 G J a e wr) (ha : s.size < a) : J (w1.heap.size - W.heap.size) (spansL s.data.toList T k) wr := by
  obtain ⟨pre, f, h1, h2, h3⟩ := h.list
  cases f with
  | zero => omega
  | succ f =>
    have : spansL s.data.toList T k = pre := by
      rw [h1]
      show pre ++ (if s.size < a then [] else _) = _
      rw [if_pos ha, List.append_nil]
    rw [this]
    exact h3
theorem SpS.take {b : Nat} (h : SpS s T k hr sb W w1 G J a e wr) (ha : a ≤ s.size) (hb : farG s.data.toList T a = (b : Int)) (hab : a ≤ b) (hne : ¬ (b = a ∧ e = a)) :
    ∃ pre, J (w1.heap.size - W.heap.size) pre wr ∧ (∃ rest, spansL s.data.toList T k = pre ++ (a, b) :: rest) ∧ ∀ W3, wr.heap.size ≤ W3.heap.size → W3.heap[hr]? = wr.heap[hr]? → W3.heap[sb]? = wr.heap[sb]? → J (w1.heap.size - W.heap.size) (pre ++ [(a, b)]) W3 → SpS s T k hr sb W w1 G J b (b : Int) W3 := by
  obtain ⟨pre, f, h1, h2, h3⟩ := h.list
  cases f with
  | zero => omega
  | succ f =>
    have e1 : spansL s.data.toList T k = pre ++ (a, b) :: goL (farG s.data.toList T) s.size f b (b : Int) := by
      rw [h1]
      show pre ++ (if s.size < a then [] else if farG s.data.toList T a = -1 ∨ (farG s.data.toList T a = a ∧ e = a) then _ else (a, (farG s.data.toList T a).toNat) :: goL (farG s.data.toList T) s.size f (farG s.data.toList T a).toNat (farG s.data.toList T a)) = _
      rw [if_neg (by omega), if_neg (by rw [hb]; exact fun hh => hh.elim (fun h => by omega) (fun h => hne ⟨by omega, h.2⟩)), hb, Int.toNat_natCast]
    refine ⟨pre, h3, ⟨_, e1⟩, fun W3 g1 g2 g3 g4 => ⟨g2.trans h.row, g3.trans h.str, Nat.le_trans h.size g1, by have := h.at_; omega, pre ++ [(a, b)], f, ?_, by have := muL_take s.size a b e ha hab hne; omega, g4⟩⟩
    rw [e1, List.append_assoc]
    rfl
end
set_option maxHeartbeats 8000000 in
set_option maxRecDepth 20000 in
theorem spans1 (tb sb fb b o cap k : Nat) (T : Tr) (ts : List Nd) (s : ByteArray) (W : World) (hts : ts = T.row 0) (hok : T.ok) (hsz : ts.length ≤ 2000) (hs : s.size ≤ 1000000) (hL : Lies (.slice (some ⟨b, o, none⟩) ts.length cap) ts W)
    (htb : W.heap[tb]? = some (.cells #[.slice (some ⟨b, o, none⟩) ts.length cap] 22 (0, 0))) (hsb : W.heap[sb]? = some (.cells #[.string s] 9 (0, 0))) (hfb : W.heap[fb]? = some (.cells #[.int .i64 (k : Int)] 3 (0, 0))) :
    SeqF Try.prog 75 #[.pointer (some ⟨tb, 0, none⟩), .pointer (some ⟨sb, 0, none⟩), .pointer (some ⟨fb, 0, none⟩)] encP (spansL s.data.toList T k) (fun j => j = sb) W := fun l J Jx hJ hJx hY h0 => by
  have hlen : s.data.toList.length = s.size := Array.length_toList
  have k1 := callsIn_wide (n := 0).2 (far_any b o cap T ts s k W hts hok hsz hs hL)
  have ct : W.cell? ⟨tb, 0, none⟩ = some (.slice (some ⟨b, o, none⟩) ts.length cap) := by rw [cell_of_heap htb]; rfl
  have cs : W.cell? ⟨sb, 0, none⟩ = some (.string s) := by rw [cell_of_heap hsb]; rfl
  have cf : W.cell? ⟨fb, 0, none⟩ = some (.int .i64 (k : Int)) := by rw [cell_of_heap hfb]; rfl
  have HY := Lib.hid hY
  have HJ := Lib.hid (And.intro hJ h0)
  have HB := Lib.hid (And.intro hsb (And.intro hfb (And.intro hlen hs)))
  clear hY hJ hJx h0 hts hok hsz hs hL htb hsb hfb hlen
  refine callsIn_of_wp Try.func75 rfl trivial ?_ rfl
  simp only [Try.ntmps75, List.size_toArray, List.length_cons, List.length_nil, Nat.reduceAdd, Nat.reduceSub, Array.replicate_succ, Array.replicate_zero, List.push_toArray, List.append_toArray, List.nil_append, List.cons_append]
  gi_wp2_with (refine ⟨trivial, rfl, ?_⟩; gi_at_call 76; refine (k1).mono ?_; rintro e w1 ⟨hr, G, rfl, hhr, hrow, hfar, hb1⟩
               have cf1 := cell_kept hb1 cf
               have H1 := Lib.hid (And.intro hhr (And.intro hrow (And.intro hfar hb1)))
               clear k1 ct cs cf hhr hrow hfar hb1)
  gi_loopw [6, 7] (fun v6 v7 wr => ∃ (a : Nat) (e : Int), v6 = .int .i64 e ∧ v7 = .int .i64 a ∧ Hid (SpS s T k hr sb W w1 G J a e wr))
    (fun v6 v7 _ => muL s.size (RowKit.intOf v7).toNat (RowKit.intOf v6))
  case atStart =>
    obtain ⟨hhr, hrow, hfar, hb1⟩ := H1.out
    obtain ⟨hsb, hfb, hlen, hs⟩ := HB.out
    refine ⟨k, -1, rfl, rfl, ⟨hrow, (hb1.block _ (block_lt hsb)).trans hsb, Nat.le_refl _, Nat.le_refl _, [], 2 * (s.size + 1 - k) + 2, (by unfold spansL; rw [hlen]; rfl), ?_, ?_⟩⟩
    · unfold muL; split <;> omega
    · exact (HJ.out.1 _).grow (HJ.out.2 _) (grown_of_below hb1 none)
  case round =>
    obtain ⟨a, e, rfl, rfl, HS⟩ := hrel
    have cs : wr.cell? ⟨sb, 0, none⟩ = some (.string s) := by rw [cell_of_heap HS.out.str]; rfl
    obtain ⟨-, -, hlen, hs⟩ := HB.out
    obtain ⟨hhr, -, hfar, hb1⟩ := H1.out
    by_cases hlt : a ≤ s.size
    · have hka := HS.out.at_
      have hG := hfar.eq hka (by rw [hlen]; exact hlt)
      have cg : wr.cell? ⟨hr, a, none⟩ = some (.int .i64 (G a)) := by rw [cell_of_heap HS.out.row]; simpa using intC_get s.size G a hlt
      have a0 : (0 : Int) ≤ (a : Int) := by omega
      have a1 : (a : Int) ≤ (s.size : Int) := by omega
      have a2 : (a : Int) < (s.size : Int) + 1 := by omega
      have aw : IntKind.i64.wrap ((a : Int) + 1) = ((a + 1 : Nat) : Int) := by rw [IntWalk.i64_in _ (by omega)]; omega
      rw [hG] at cg
      rcases farG_cases s.data.toList T a with hc | ⟨b, hc, hab, hbn, -⟩
      · rw [hc] at cg
        have f1 : ((-1 : Int) == (a : Int)) = false := beq_eq_false_iff_ne.2 (by omega)
        have HN := Lib.hid (HS.out.skip hlt (.inl hc))
        have HM := Lib.hid (muL_next s.size a e hlt)
        clear hG hc hfar hlen hs hka hb1 hhr
        gi_wp2
        go_roundw
        case rel => exact ⟨a + 1, e, rfl, by go_num, HN.out⟩
        case measure => simpa [RowKit.intOf] using HM.out
      · rw [hc] at cg
        by_cases hag : b = a ∧ e = a
        · obtain ⟨rfl, rfl⟩ := hag
          have f1 : ((b : Int) == -1) = false := beq_eq_false_iff_ne.2 (by omega)
          have HN := Lib.hid (HS.out.skip hlt (.inr ⟨hc, rfl⟩))
          have HM := Lib.hid (muL_next s.size b (b : Int) hlt)
          clear hG hc hfar hlen hs hka hb1 hhr
          gi_wp2
          go_roundw
          case rel => exact ⟨b + 1, (b : Int), rfl, by go_num, HN.out⟩
          case measure => simpa [RowKit.intOf] using HM.out
        · obtain ⟨pre, hJp, hpre, hnext⟩ := HS.out.take hlt hc hab hag
          have hwz := HS.out.size
          have hw1 := hb1.size
          have hrl := block_lt H1.out.2.1
          obtain ⟨fn, tmps, assign, body, hy, hR⟩ := HY.out (w1.heap.size - W.heap.size) pre (a, b) wr (by omega) hJp hpre
          dsimp only [encP] at hy
          have f1 : ((b : Int) == -1) = false := beq_eq_false_iff_ne.2 (by omega)
          have HN := Lib.hid (And.intro hnext (And.intro (muL_take s.size a b e hlt hab hag) (And.intro hhr (And.intro hw1 hrl))))
          clear hG hc hfar hlen hs hka hb1 hhr hnext hJp hpre hwz hw1 hrl
          by_cases hba : b = a
          · have f2 : ((b : Int) == (a : Int)) = true := by simp; omega
            have f3 : (e == (a : Int)) = false := beq_eq_false_iff_ne.2 (fun h => hag ⟨hba, h⟩)
            clear hba hag
            gi_wp2
            refine ⟨rfl, hR.mono ?_⟩
            clear hy hR
            rintro en W3 ⟨hs3, hk3, ⟨rfl, hJ3⟩ | ⟨rfl, hJx3⟩⟩
            · have HJ3 := Lib.hid (And.intro hs3 (And.intro hk3 hJ3))
              clear hs3 hk3 hJ3
              gi_wp2
              go_roundw
              case rel => exact ⟨b, (b : Int), rfl, rfl, HN.out.1 W3 HJ3.out.1 (HJ3.out.2.1 hr (.inr (by have := HN.out.2.2; omega))) (HJ3.out.2.1 sb (.inl rfl)) HJ3.out.2.2⟩
              case measure => simpa [RowKit.intOf] using HN.out.2.1
            · have HX := Lib.hid hJx3
              clear hJx3
              gi_wp2
              refine bodyPost_ret (results_none rfl _ _ _) rfl ?_
              exact ⟨⟨_, rfl⟩, _, .inr ⟨_, HX.out⟩⟩
          · have f2 : ((b : Int) == (a : Int)) = false := beq_eq_false_iff_ne.2 (by omega)
            clear hba hag
            gi_wp2
            refine ⟨rfl, hR.mono ?_⟩
            clear hy hR
            rintro en W3 ⟨hs3, hk3, ⟨rfl, hJ3⟩ | ⟨rfl, hJx3⟩⟩
            · have HJ3 := Lib.hid (And.intro hs3 (And.intro hk3 hJ3))
              clear hs3 hk3 hJ3
              gi_wp2
              go_roundw
              case rel => exact ⟨b, (b : Int), rfl, rfl, HN.out.1 W3 HJ3.out.1 (HJ3.out.2.1 hr (.inr (by have := HN.out.2.2; omega))) (HJ3.out.2.1 sb (.inl rfl)) HJ3.out.2.2⟩
              case measure => simpa [RowKit.intOf] using HN.out.2.1
            · have HX := Lib.hid hJx3
              clear hJx3
              gi_wp2
              refine bodyPost_ret (results_none rfl _ _ _) rfl ?_
              exact ⟨⟨_, rfl⟩, _, .inr ⟨_, HX.out⟩⟩
    · gi_wp2
      go_end0
      exact ⟨⟨_, rfl⟩, _, .inl (HS.out.done (by omega))⟩
end Go.Proofs.Ytolofcfegoeenaa
