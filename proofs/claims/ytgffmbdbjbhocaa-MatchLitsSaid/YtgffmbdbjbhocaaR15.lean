/- Packed texts: MaLits, MatchLitsWalk. What each of them proves stands above its theorems; the conditions stand in these. -/
import Derived.Test.YtgffmbdbjbhocaaR1
import Derived.Test.YtgffmbdbjbhocaaR6
import Derived.Test.YtgffmbdbjbhocaaR8
import Derived.Test.YtgffmbdbjbhocaaR10
import Derived.Test.YtgffmbdbjbhocaaR11
namespace Go.Proofs.Ytgffmbdbjbhocaa
open Go.RowKit Go.Lib

theorem st_litG {s l : List UInt8} (a b : Nat) : St s (litT l) a b ↔ b = a + l.length ∧ OccW s l a := by
  by_cases hl : l = []
  · subst hl
    show (a = b ∧ (0 = 7 → a = 0) ∧ (0 = 8 → a = s.length)) ↔ _
    constructor
    · rintro ⟨rfl, _⟩
      exact ⟨rfl, fun i hi => absurd hi (Nat.not_lt_zero _)⟩
    · rintro ⟨h, _⟩
      exact ⟨h.symm, fun h => absurd h (by decide), fun h => absurd h (by decide)⟩
  · exact st_lit hl a b
theorem far_occG {s w : List UInt8} {a : Nat} (ha : a + w.length ≤ s.length) (h : OccW s w a) : farG s (litT w) a = ((a + w.length : Nat) : Int) :=
  farG_some ha ((st_litG _ _).2 ⟨rfl, h⟩) fun c h1 _ h3 => by have := ((st_litG _ _).1 h3).1; omega
theorem far_noG {s w : List UInt8} {a : Nat} (h : ¬ OccW s w a) : farG s (litT w) a = -1 :=
  farG_none fun _ _ hs => h ((st_litG _ _).1 hs).2
theorem occ_mid (p w q : List UInt8) : OccW (p ++ w ++ q) w p.length := fun i hi => by
  rw [List.append_assoc, List.getElem?_append_right (by omega), List.getElem?_append_left (by omega)]
  congr 1
  omega
theorem occ_first (s w : List UInt8) : ∀ m, OccW s w m → ∃ a, a ≤ m ∧ OccW s w a ∧ ∀ a', a' < a → ¬ OccW s w a' := by
  intro m
  induction m using Nat.strongRecOn with
  | _ m ih =>
    intro h
    by_cases hx : ∃ a', a' < m ∧ OccW s w a'
    · obtain ⟨a', h1, h2⟩ := hx
      obtain ⟨a, g1, g2, g3⟩ := ih a' h1 h2
      exact ⟨a, by omega, g2, g3⟩
    · exact ⟨m, Nat.le_refl _, h, fun a' h1 h2 => hx ⟨a', h1, h2⟩⟩
theorem occ_take {s w : List UInt8} {a : Nat} (h : OccW s w a) : (s.drop a).take w.length = w := by
  apply List.ext_getElem?
  intro i
  rw [List.getElem?_take]
  by_cases hi : i < w.length
  · rw [if_pos hi, List.getElem?_drop]
    exact h i hi
  · rw [if_neg hi, List.getElem?_eq_none (by omega)]
theorem spans_mid (p w q : List UInt8) : ∃ a rest, a ≤ p.length ∧ spansL (p ++ w ++ q) (litT w) 0 = (a, a + w.length) :: rest ∧ ((p ++ w ++ q).drop a).take w.length = w := by
  obtain ⟨a, h1, h2, h3⟩ := occ_first _ _ _ (occ_mid p w q)
  have hl : (p ++ w ++ q).length = p.length + w.length + q.length := by rw [List.length_append, List.length_append]
  obtain ⟨rest, hr⟩ := spans_first (s := p ++ w ++ q) (T := litT w) (k := 0) (a := a) (b := a + w.length) (fun a' _ h => far_noG (h3 a' h)) (Nat.zero_le _) (by omega) (far_occG (by omega) h2)
  exact ⟨a, rest, h1, hr, occ_take h2⟩
theorem whole_lit (l w : List UInt8) : (endsL l (litT w) 0).contains l.length = (w == l) := by
  rw [Bool.eq_iff_iff, List.contains_iff_mem, beq_iff_eq]
  unfold endsL
  rw [if_neg (by omega), List.mem_filter, List.mem_range]
  refine (and_congr Iff.rfl (@decide_eq_true_iff _ (Classical.propDecidable _))).trans ?_
  show l.length < l.length + 1 ∧ St l (litT w) 0 l.length ↔ _
  rw [st_litG]
  constructor
  · rintro ⟨_, h1, h2⟩
    have h := occ_take h2
    rw [List.drop_zero, List.take_of_length_le (by omega)] at h
    exact h.symm
  · rintro rfl
    exact ⟨by omega, by omega, fun i _ => by rw [Nat.zero_add]⟩
end Go.Proofs.Ytgffmbdbjbhocaa
namespace Go.Proofs.Ytgffmbdbjbhocaa
open Go.RowKit Go.Lib

set_option maxHeartbeats 1000000 in
set_option maxRecDepth 20000 in
theorem refLit_none (w : World) : Calls Try.prog 19 #[.string ⟨#[]⟩] w fun e w' => (∃ v, e = .returned (.tuple #[v, .int .i64 0]) ∧ Lies v ((litT []).row 0) w') ∧ Below w.heap.size w w' := by
  go_enter Try.func19, Try.ntmps19
  go_wp2
  go_loopg [4, 5] 1 (fun g v4 v5 wr => v5 = .int .i64 0 ∧ Hid (Lies v4 ((litT []).row 0) wr ∧ Below w.heap.size w wr))
  case atStart => exact ⟨rfl, lies_newS 0 k0 w, (Below.refl _ w).alloc (Nat.le_refl _) _⟩
  case round =>
    obtain ⟨rfl, HS⟩ := hrel
    go_wp2
    refine bodyPost_ret (results_tmp2 rfl _ _ _) rfl ⟨⟨_, rfl, HS.out.1⟩, HS.out.2⟩
theorem litT_pos0 {l : List UInt8} (h : 0 < l.length) : litT l = litF l (l.length - 1) := by
  unfold litT
  rw [if_neg (by omega)]
theorem refLit_any (s : ByteArray) (w : World) (hs : s.size ≤ 900) : Calls Try.prog 19 #[.string s] w fun e w' => (∃ v, e = .returned (.tuple #[v, .int .i64 0]) ∧ Lies v ((litT s.data.toList).row 0) w') ∧ Below w.heap.size w w' := by
  have hlen : s.data.toList.length = s.size := Array.length_toList
  by_cases h0 : s.size = 0
  · have e : s = ⟨#[]⟩ := ba_ext (by rw [List.eq_nil_of_length_eq_zero (hlen.trans h0)])
    subst e
    exact refLit_none w
  · have := refLit_walk s w (by omega) hs
    rwa [← hlen, ← litT_pos0 (by omega)] at this
set_option maxHeartbeats 1000000 in
set_option maxRecDepth 20000 in
theorem lits_out (s t mo : ByteArray) (w : World) (_hs : s.size ≤ 140737488351232) (_ht : t.size ≤ 140737488351232) (_hm : mo.size ≤ 140737488351232) (h : 25 < s.size ∨ (s.size ≤ 25 ∧ 25 < t.size) ∨ (s.size ≤ 25 ∧ t.size ≤ 25 ∧ 25 < mo.size)) :
    Calls Try.prog 7 #[.string s, .string t, .string mo] w fun e w' => e = .returned (.bool true) ∧ Below w.heap.size w w' := by
  have ks := fun w => shownM_any w
  rcases h with h | ⟨h, h2⟩ | ⟨h, h2, h3⟩
  · have t1 : decide ((25 : Int) < (s.size : Int)) = true := by simp; omega
    go_enter Try.func7, Try.ntmps7
    go_wp2_with (first
      | (go_at_call 26; refine (ks _).mono ?_; rintro e w1 ⟨rfl, hb1⟩; have H1 := Lib.hid hb1; clear hb1 ks)
      | fail)
    exact bodyPost_ret (results_tmp rfl _ _ _) rfl ⟨rfl, H1.out⟩
  · have t1 : decide ((25 : Int) < (s.size : Int)) = false := by simp; omega
    have t2 : decide ((25 : Int) < (t.size : Int)) = true := by simp; omega
    go_enter Try.func7, Try.ntmps7
    go_wp2_with (first
      | (go_at_call 26; refine (ks _).mono ?_; rintro e w1 ⟨rfl, hb1⟩; have H1 := Lib.hid hb1; clear hb1 ks)
      | fail)
    exact bodyPost_ret (results_tmp rfl _ _ _) rfl ⟨rfl, H1.out⟩
  · have t1 : decide ((25 : Int) < (s.size : Int)) = false := by simp; omega
    have t2 : decide ((25 : Int) < (t.size : Int)) = false := by simp; omega
    have t3 : decide ((25 : Int) < (mo.size : Int)) = true := by simp; omega
    go_enter Try.func7, Try.ntmps7
    go_wp2_with (first
      | (go_at_call 26; refine (ks _).mono ?_; rintro e w1 ⟨rfl, hb1⟩; have H1 := Lib.hid hb1; clear hb1 ks)
      | fail)
    exact bodyPost_ret (results_tmp rfl _ _ _) rfl ⟨rfl, H1.out⟩
theorem lit_mid (mo s t : ByteArray) : ∃ a : Nat, a ≤ mo.size ∧ (mo ++ s ++ t).extract a (a + s.size) = s ∧ ∃ rest, spansL (mo ++ s ++ t).data.toList (litT s.data.toList) 0 = (a, a + s.size) :: rest := by
  have hl : s.data.toList.length = s.size := Array.length_toList
  have hm : mo.data.toList.length = mo.size := Array.length_toList
  obtain ⟨a, rest, h1, h2, h3⟩ := spans_mid mo.data.toList s.data.toList t.data.toList
  have e : (mo ++ s ++ t).data.toList = mo.data.toList ++ s.data.toList ++ t.data.toList := by rw [ByteArray.data_append, Array.toList_append, ByteArray.data_append, Array.toList_append]
  rw [← e, hl] at h2 h3
  refine ⟨a, by omega, ba_ext ?_, rest, h2⟩
  rw [Lib.extract_data, Nat.add_sub_cancel_left]
  exact h3
set_option maxHeartbeats 4000000 in
set_option maxRecDepth 100000 in
theorem lits_in (s t mo : ByteArray) (w : World) (hs : s.size ≤ 25) (ht : t.size ≤ 25) (hm : mo.size ≤ 25) :
    Calls Try.prog 7 #[.string s, .string t, .string mo] w fun e w' => e = .returned (.bool true) ∧ Below w.heap.size w w' := by
  have ks := fun w => shownM_any w
  have kl := fun w => refLit_any s w (by omega)
  have hl : s.data.toList.length = s.size := Array.length_toList
  have htl : t.data.toList.length = t.size := Array.length_toList
  obtain ⟨a, ha, hE, rest, hr⟩ := lit_mid mo s t
  have hrow : ((litT s.data.toList).row 0).length ≤ 2000 := by
    rw [(litT s.data.toList).row_length 0]
    exact litT_size _ (by omega)
  have hsz : (mo ++ s ++ t).size = mo.size + s.size + t.size := by rw [ByteArray.size_append, ByteArray.size_append]
  have kS := fun v w h => span_first v 0 (litT s.data.toList) _ (mo ++ s ++ t) w rfl (litT_ok _) hrow (by omega) h
  have kW1 := fun v w h => whole_any v (litT s.data.toList) _ s w rfl (litT_ok _) hrow (by omega) h
  have kW2 := fun v w h => whole_any v (litT s.data.toList) _ t w rfl (litT_ok _) hrow (by omega) h
  have q1 : (endsL s.data.toList (litT s.data.toList) 0).contains s.size = true := by rw [← hl, whole_lit]; simp
  have q2 : (endsL t.data.toList (litT s.data.toList) 0).contains t.size = (s.data.toList == t.data.toList) := by rw [← htl, whole_lit]
  have q3 : (s.toList == t.toList) = (s.data.toList == t.data.toList) := by
    rw [Bool.eq_iff_iff, ba_eq, beq_iff_eq]
    exact ⟨fun h => by rw [h], fun h => ba_ext h⟩
  rw [show ((0 : Int).toNat) = 0 from rfl, hr] at kS
  replace kS : ∀ (v : Value) (w : World), Lies v ((litT s.data.toList).row 0) w → Calls Try.prog 34 #[v, .string (mo ++ s ++ t), .int .i64 0] w fun e w' => e = .returned (.tuple #[.int .i64 (a : Int), .int .i64 ((a + s.size : Nat) : Int), .bool true]) ∧ Below w.heap.size w w' := kS
  rw [q1] at kW1
  rw [q2] at kW2
  obtain ⟨q, hq⟩ : ∃ q, q = (s.data.toList == t.data.toList) := ⟨_, rfl⟩
  rw [← hq] at kW2 q3
  obtain ⟨rw0, hrw0⟩ : ∃ r, r = (litT s.data.toList).row 0 := ⟨_, rfl⟩
  rw [← hrw0] at kl kS kW1 kW2
  clear hl htl hr hrow q1 q2 hq hrw0
  have t1 : decide ((25 : Int) < (s.size : Int)) = false := by simp; omega
  have t2 : decide ((25 : Int) < (t.size : Int)) = false := by simp; omega
  have t3 : decide ((25 : Int) < (mo.size : Int)) = false := by simp; omega
  have n1 : ¬ 9223372036854775807 < mo.size + s.size := by omega
  have n2 : ¬ 9223372036854775807 < mo.size + s.size + t.size := by omega
  have t4 : decide ((mo.size : Int) < (a : Int)) = false := by simp; omega
  have hI : IntKind.i64.wrap ((a : Int) + (s.size : Int)) = ((a + s.size : Nat) : Int) := by rw [IntWalk.i64_in _ (by omega)]; omega
  have hab : (a : Int) ≤ ((a + s.size : Nat) : Int) := by omega
  have hbs : ((a + s.size : Nat) : Int) ≤ ((mo ++ s ++ t).size : Int) := by omega
  have q5 : (s.toList == s.toList) = true := by simp
  have HE := Lib.hid hE
  clear hE
  go_enter Try.func7, Try.ntmps7
  go_wp2_with (first
    | (go_at_call 26; refine (ks _).mono ?_; rintro e w1 ⟨rfl, hb1⟩; have H1 := Lib.hid hb1; clear hb1 ks)
    | (go_at_call 19; refine (kl _).mono ?_; rintro e w2 ⟨⟨v2, rfl, hl2⟩, hb2⟩; have H2 := Lib.hid (And.intro hl2 (H1.out.trans (hb2.mono H1.out.size))); clear hl2 hb2 kl)
    | (go_at_call 34; refine (kS _ _ H2.out.1).mono ?_; rintro e w3 ⟨rfl, hb3⟩; have H3 := Lib.hid (And.intro (H2.out.1.below hb3) (H2.out.2.trans (hb3.mono H2.out.2.size))); clear hb3 kS)
    | (go_at_call 35; first
        | (with_reducible refine (kW1 _ _ H3.out.1).mono ?_; rintro e w4 ⟨rfl, hb4⟩; have H4 := Lib.hid (And.intro (H3.out.1.below hb4) (H3.out.2.trans (hb4.mono H3.out.2.size))); clear hb4 kW1)
        | (with_reducible refine (kW2 _ _ H4.out.1).mono ?_; rintro e w5 ⟨rfl, hb5⟩; have H5 := Lib.hid (H4.out.2.trans (hb5.mono H4.out.2.size)); clear hb5 kW2))
    | fail)
  exact bodyPost_ret (results_tmp rfl _ _ _) rfl ⟨by rw [HE.out]; simp, H5.out⟩
/-- The statement's function, at every input. -/
theorem matchLits_walk (w : World) (s : ByteArray) (hs : s.size ≤ 140737488351232) (t : ByteArray) (ht : t.size ≤ 140737488351232) (mo : ByteArray) (hm : mo.size ≤ 140737488351232) :
    Calls Try.prog 7 #[.string s, .string t, .string mo] w fun e w' => e = .returned (.bool true) ∧ Below w.heap.size w w' := by
  by_cases h1 : s.size ≤ 25
  · by_cases h2 : t.size ≤ 25
    · by_cases h3 : mo.size ≤ 25
      · exact lits_in s t mo w h1 h2 h3
      · exact lits_out s t mo w hs ht hm (.inr (.inr ⟨h1, h2, by omega⟩))
    · exact lits_out s t mo w hs ht hm (.inr (.inl ⟨h1, by omega⟩))
  · exact lits_out s t mo w hs ht hm (.inl (by omega))
end Go.Proofs.Ytgffmbdbjbhocaa
