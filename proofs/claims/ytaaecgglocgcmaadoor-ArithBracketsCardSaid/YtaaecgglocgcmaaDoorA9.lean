/- Packed texts: ArithBracketsWalk. What each of them proves stands above its theorems; the conditions stand in these. -/
import Derived.Test.YtaaecgglocgcmaaDoorA3
import Derived.Test.YtaaecgglocgcmaaDoorA4
import Derived.Test.YtaaecgglocgcmaaDoorA8
namespace Go.Proofs.YtaaecgglocgcmaaDoor
open Go.RowKit Go.Lib

theorem read_ne0 (l : List UInt8) : readA l ≠ .bad 0 := by
  intro h
  unfold readA at h
  cases hp : pF (8 * l.length + 8) (.row 0) 0 l with
  | bad x => rw [hp] at h; injection h with h; subst h; exact readA_fuel l hp
  | ok e r =>
    rw [hp] at h
    have h : (if r = [] then Pr.ok e [] else .bad 9) = .bad 0 := h
    split at h
    · cases h
    · injection h with h; exact absurd h (by decide)
theorem num_ne0 (v : List UInt8) (x : Int) (h : numA v = .no x) : x ≠ 0 := by
  unfold numA at h
  split at h
  · cases h
  · split at h
    · cases h
    · cases h; decide
theorem val_ne0 (vs : List Vr) (s : List UInt8) (x : Int) (h : valA vs s = .no x) : x ≠ 0 := by
  unfold valA at h
  split at h
  · exact num_ne0 _ _ h
  · cases h
theorem op_ne0 (m : Mk) (a b x : Int) (h : opD m a b = .no x) : x ≠ 0 := by
  cases m <;> simp only [opD] at h
  all_goals first | (cases h; done) | skip
  · split at h
    · cases h; decide
    · cases h
  · split at h
    · cases h; decide
    · cases h
theorem ev_ne0 (V : List UInt8 → Cm) (hV : ∀ s x, V s = .no x → x ≠ 0) : ∀ (e : Ex) (x : Int), ev V e = .no x → x ≠ 0
  | .num n, x, h => by cases h
  | .name s, x, h => hV s x h
  | .neg e, x, h => by
    cases he : ev V e with
    | is n => simp only [ev, he] at h; cases h
    | no y => simp only [ev, he] at h; cases h; exact ev_ne0 V hV e _ he
  | .bang e, x, h => by
    cases he : ev V e with
    | is n => simp only [ev, he] at h; cases h
    | no y => simp only [ev, he] at h; cases h; exact ev_ne0 V hV e _ he
  | .bin m a b, x, h => by
    cases ha : ev V a with
    | no y => simp only [ev, ha] at h; cases h; exact ev_ne0 V hV a _ ha
    | is n =>
      simp only [ev, ha] at h
      split at h
      · exact op_ne0 _ _ _ _ h
      · cases hb : ev V b with
        | no y => simp only [hb] at h; cases h; exact ev_ne0 V hV b _ hb
        | is k => simp only [hb] at h; exact op_ne0 _ _ _ _ h
theorem eval_good {vs : List Vr} {l : List UInt8} (h : (evalA vs l).2 = 0) : ∃ e n, readA l = .ok e [] ∧ ev (valA vs) e = .is n ∧ evalA vs l = (n, 0) := by
  unfold evalA at h ⊢
  cases hr : readA l with
  | bad x => rw [hr] at h; exact absurd (show readA l = .bad 0 by rw [hr, show x = 0 from h]) (read_ne0 l)
  | ok e r =>
    rw [hr] at h
    obtain rfl := ok_rest hr
    simp only [] at h ⊢
    cases hv : ev (valA vs) e with
    | no x => rw [hv] at h; exact absurd (show x = 0 from h) (ev_ne0 _ (val_ne0 vs) e x hv)
    | is n => exact ⟨e, n, rfl, hv, rfl⟩
theorem brack_cases (vs : List Vr) (l : List UInt8) : (evalA vs l).2 ≠ 0 ∨ (evalA vs (40 :: l ++ [41])).2 = 7 ∨ (evalA vs (33 :: 33 :: 40 :: l ++ [41])).2 = 7 ∨ ∃ n, evalA vs l = (n, 0) ∧ evalA vs (40 :: l ++ [41]) = (n, 0) ∧ evalA vs (33 :: 33 :: 40 :: l ++ [41]) = (tellA (n != 0), 0) ∧ evalA vs (40 :: l ++ 41 :: 45 :: 40 :: l ++ [41]) = (0, 0) := by
  by_cases h0 : (evalA vs l).2 = 0
  · obtain ⟨e, n, hr, hv, he⟩ := eval_good h0
    rcases read_round l e hr with h1 | h1
    · rcases read_bangs l e hr with h2 | h2
      · refine .inr (.inr (.inr ⟨n, he, ?_, ?_, ?_⟩))
        · unfold evalA; rw [h1]; simp only []; rw [hv]
        · have hb : ev (valA vs) (.bang (.bang e)) = .is (tellA (n != 0)) := by
            simp only [ev, hv]
            by_cases hn : n = 0
            · subst hn; rfl
            · have e1 : (n == 0) = false := by simpa using hn
              have e2 : (n != 0) = true := by simpa using hn
              rw [e1, e2]; rfl
          unfold evalA; rw [h2]; simp only []; rw [hb]
        · have hs : ev (valA vs) (.bin .sub e e) = .is 0 := by
            simp only [ev, hv, idleA]
            show Cm.is (wrap64 (n - n)) = .is 0
            rw [Int.sub_self, show wrap64 0 = 0 by unfold wrap64; omega]
          unfold evalA; rw [read_less l e hr h1]; simp only []; rw [hs]
      · refine .inr (.inr (.inl ?_)); unfold evalA; rw [h2]
    · refine .inr (.inl ?_); unfold evalA; rw [h1]
  · exact .inl h0
set_option maxHeartbeats 4000000 in
set_option maxRecDepth 100000 in
theorem arithBrackets_walk (w : World) (S : ByteArray) (hS : S.size ≤ 140737488351232) (ao : Option Addr) (cap : Nat) (vs : List Vr) (hV : Vars w.heap.size (.slice ao vs.length cap) vs w) (_hno : vs.length ≤ 4398046511000 ∧ (ao = none → cap = 0)) (hsz : ∀ x ∈ vs, x.n.size ≤ 140737488351232 ∧ x.v.size ≤ 140737488351232) (hM : Marks w.heap.size w) :
    Calls Tryd.prog 6 #[.string S, .slice ao vs.length cap] w fun e w' => e = .returned (.bool true) ∧ Below w.heap.size w w' := by
  have kS := shownA_any w hM
  have kF : ∀ w1, Below w.heap.size w w1 → Calls Tryd.prog 12 #[.slice ao vs.length cap] w1 fun e w' => e = .returned (.bool (fewA vs)) ∧ Below w.heap.size w w' := fun w1 hb =>
    (fewA_any _ vs w1 ((hV.below hb).mono hb.size) (fun x hx => by have := hsz x hx; omega)).mono fun e w' ⟨he, hb2⟩ => ⟨he, hb.trans (hb2.mono hb.size)⟩
  have kE : fewA vs = true → ∀ (T : ByteArray) (l : List UInt8) (r : Int × Int), T.data.toList = l → evalA vs l = r → T.size ≤ 70000000000000 → ∀ w1, Below w.heap.size w w1 → Calls Tryd.prog 13 #[.string T, .slice ao vs.length cap] w1 fun e w' => e = .returned (.tuple #[.int .i64 r.1, .int .i64 r.2]) ∧ Below w.heap.size w w' := fun hf T l r hT hr hTz w1 hb => by
    obtain ⟨_, hsh, hri⟩ := few_facts hf
    subst hT hr
    have := evalA_any T.data.toList _ vs w1 ((hM.below hb).mono hb.size) ((hV.below hb).mono hb.size) (by rw [Array.length_toList]; exact hTz) (right_name hri).2 (fun x hx => by have := hsh x hx; omega)
    refine this.mono fun e w' ⟨he, hb2⟩ => ⟨?_, hb.trans (hb2.mono hb.size)⟩
    rw [he]; rfl
  clear hV hsz hM
  generalize vs.length = N at *
  cases hf : fewA vs
  · rw [hf] at kF
    clear kE hf
    have KF := Lib.hid kF
    clear kF
    go_enter Tryd.func6, Tryd.ntmps6
    go_wp2_with (first
      | (go_at_call 11; (with_reducible refine kS.mono ?_); rintro e w1 ⟨rfl, hbl⟩; have kf := KF.out w1 hbl; clear hbl kS)
      | (go_at_call 12; (with_reducible refine kf.mono ?_); rintro e w2 ⟨rfl, hbl⟩; have HB := Lib.hid hbl; clear hbl kf))
    go_ret
    exact ⟨rfl, HB.out⟩
  · rw [hf] at kF
    have KF := Lib.hid kF
    clear kF
    by_cases h400 : S.size ≤ 400
    · have hbc := brack_cases vs S.data.toList
      obtain ⟨T2, hT2⟩ : ∃ T : ByteArray, T = (⟨#[40]⟩ ++ S) ++ ⟨#[41]⟩ := ⟨_, rfl⟩
      obtain ⟨T3, hT3⟩ : ∃ T : ByteArray, T = (⟨#[33, 33, 40]⟩ ++ S) ++ ⟨#[41]⟩ := ⟨_, rfl⟩
      obtain ⟨T4, hT4⟩ : ∃ T : ByteArray, T = (((⟨#[40]⟩ ++ S) ++ ⟨#[41, 45, 40]⟩) ++ S) ++ ⟨#[41]⟩ := ⟨_, rfl⟩
      have d2 : T2.data.toList = 40 :: S.data.toList ++ [41] := by rw [hT2]; simp [ByteArray.data_append]
      have d3 : T3.data.toList = 33 :: 33 :: 40 :: S.data.toList ++ [41] := by rw [hT3]; simp [ByteArray.data_append]
      have d4 : T4.data.toList = 40 :: S.data.toList ++ 41 :: 45 :: 40 :: S.data.toList ++ [41] := by rw [hT4]; simp [ByteArray.data_append]
      have z2 : T2.size ≤ 70000000000000 := by rw [hT2, ByteArray.size_append, ByteArray.size_append]; show 1 + S.size + 1 ≤ _; omega
      have z3 : T3.size ≤ 70000000000000 := by rw [hT3, ByteArray.size_append, ByteArray.size_append]; show 3 + S.size + 1 ≤ _; omega
      have z4 : T4.size ≤ 70000000000000 := by rw [hT4, ByteArray.size_append, ByteArray.size_append, ByteArray.size_append, ByteArray.size_append]; show 1 + S.size + 3 + S.size + 1 ≤ _; omega
      obtain ⟨⟨a, e⟩, hr1⟩ : ∃ r, evalA vs S.data.toList = r := ⟨_, rfl⟩
      obtain ⟨⟨b, f⟩, hr2⟩ : ∃ r, evalA vs (40 :: S.data.toList ++ [41]) = r := ⟨_, rfl⟩
      obtain ⟨⟨c, g⟩, hr3⟩ : ∃ r, evalA vs (33 :: 33 :: 40 :: S.data.toList ++ [41]) = r := ⟨_, rfl⟩
      obtain ⟨⟨d, h⟩, hr4⟩ : ∃ r, evalA vs (40 :: S.data.toList ++ 41 :: 45 :: 40 :: S.data.toList ++ [41]) = r := ⟨_, rfl⟩
      have k1 := kE hf S _ _ rfl hr1 (by omega)
      have k2 := kE hf T2 _ _ d2 hr2 z2
      have k3 := kE hf T3 _ _ d3 hr3 z3
      have k4 := kE hf T4 _ _ d4 hr4 z4
      rw [hr1, hr2, hr3, hr4] at hbc
      simp only [] at hbc
      rw [hT2] at k2
      rw [hT3] at k3
      rw [hT4] at k4
      clear hr1 hr2 hr3 hr4 d2 d3 d4 z2 z3 z4 hT2 hT3 hT4 kE hf
      have hz : (S.size : Int) ≤ 400 := by omega
      have K1 := Lib.hid k1
      have K2 := Lib.hid k2
      have K3 := Lib.hid k3
      have K4 := Lib.hid k4
      have HBC := Lib.hid hbc
      clear k1 k2 k3 k4 hbc
      have tests : (e ≠ 0) ∨ (e = 0 ∧ f = 7) ∨ (e = 0 ∧ f ≠ 7 ∧ g = 7) ∨ (e = 0 ∧ f = 0 ∧ g = 0 ∧ h = 0 ∧ b = a ∧ d = 0 ∧ ((a = 0 ∧ c = 0) ∨ (a ≠ 0 ∧ c = 1))) := by
        by_cases e0 : e = 0
        · by_cases f7 : f = 7
          · exact .inr (.inl ⟨e0, f7⟩)
          · by_cases g7 : g = 7
            · exact .inr (.inr (.inl ⟨e0, f7, g7⟩))
            · rcases HBC.out with h1 | h1 | h1 | ⟨n, h1, h2, h3, h4⟩
              · exact absurd e0 h1
              · exact absurd h1 f7
              · exact absurd h1 g7
              · simp only [Prod.mk.injEq] at h1 h2 h3 h4
                refine .inr (.inr (.inr ⟨e0, h2.2, h3.2, h4.2, by rw [h1.1, h2.1], h4.1, ?_⟩))
                by_cases hn : n = 0
                · exact .inl ⟨by rw [h1.1, hn], by rw [h3.1, hn]; rfl⟩
                · have e2 : (n != 0) = true := by simpa using hn
                  exact .inr ⟨by rw [h1.1]; exact hn, by rw [h3.1, e2]; rfl⟩
        · exact .inl e0
      clear HBC
      rcases tests with h1 | ⟨h1, h2⟩ | ⟨h1, h2, h3⟩ | ⟨h1, h2, h3, h4, h5, h6, ⟨h7, h8⟩ | ⟨h7, h8⟩⟩
      all_goals
        first
        | (have t1 : (e != 0) = true := by simpa using h1
           clear h1)
        | (subst h1; subst h2; subst h3; subst h4; subst h5; subst h6; subst h7; subst h8)
        | (subst h1; subst h2; subst h3; subst h4; subst h5; subst h6; subst h8
           have t7 : (b != 0) = true := by simpa using h7
           clear h7)
        | (subst h1
           subst h3
           have t2 : (f == 7) = false := by simpa using h2
           clear h2)
        | (subst h1; subst h2)
        go_enter Tryd.func6, Tryd.ntmps6
        go_wp2_with (first
          | (go_at_call 11; (with_reducible refine kS.mono ?_); rintro ee w1 ⟨rfl, hbl⟩; have kf := KF.out w1 hbl; clear hbl kS)
          | (go_at_call 12; (with_reducible refine kf.mono ?_); rintro ee w2 ⟨rfl, hbl⟩; have kk := K1.out w2 hbl; clear hbl kf)
          | (go_at_call 13; first
            | ((with_reducible refine kk.mono ?_); rintro ee w3 ⟨rfl, hbl⟩; have kk2 := K2.out w3 hbl; clear hbl kk)
            | ((with_reducible refine kk2.mono ?_); rintro ee w4 ⟨rfl, hbl⟩; have kk3 := K3.out w4 hbl; clear hbl kk2)
            | ((with_reducible refine kk3.mono ?_); rintro ee w5 ⟨rfl, hbl⟩; have kk4 := K4.out w5 hbl; clear hbl kk3)
            | ((with_reducible refine kk4.mono ?_); rintro ee w6 ⟨rfl, hbl⟩; have HB := Lib.hid hbl; clear hbl kk4)))
        go_ret
        exact ⟨rfl, HB.out⟩
    · have hz : 400 < (S.size : Int) := by omega
      clear kE hf
      go_enter Tryd.func6, Tryd.ntmps6
      go_wp2_with (first
        | (go_at_call 11; (with_reducible refine kS.mono ?_); rintro e w1 ⟨rfl, hbl⟩; have kf := KF.out w1 hbl; clear hbl kS)
        | (go_at_call 12; (with_reducible refine kf.mono ?_); rintro e w2 ⟨rfl, hbl⟩; have HB := Lib.hid hbl; clear hbl kf))
      go_ret
      exact ⟨rfl, HB.out⟩
end Go.Proofs.YtaaecgglocgcmaaDoor
