/- Packed texts: MatchJoinsWalk. What each of them proves stands above its theorems; the conditions stand in these. -/
import Derived.Test.YtkgpnlldlekcbaaM21
import Derived.Test.YtkgpnlldlekcbaaM29
import Derived.Test.YtkgpnlldlekcbaaM30
import Derived.Test.YtkgpnlldlekcbaaM31
namespace Go.Proofs.Ytkgpnlldlekcbaa
open Go.RowKit Go.Lib

theorem box4 (w : World) (a b c d : Value) : Below w.heap.size w (w.alloc (.cells #[a, b, c, d] 38)) := (Below.refl _ w).alloc (Nat.le_refl _) _
set_option maxHeartbeats 2000000 in
set_option maxRecDepth 20000 in
theorem joins_few1 (u v : Value) (s : ByteArray) (f : Int) (w : World)
    (k1 : ∀ w', Below w.heap.size w w' → Calls Try.prog 16 #[u, .string s] w' fun e w'' => e = .returned (.bool false) ∧ Below w'.heap.size w' w'') :
    Calls Try.prog 4 #[.agg #[u, v, .string s, .int .i64 f]] w fun e w' => e = .returned (.bool true) ∧ Below w.heap.size w w' := by
  have ks := fun w => shownM_any w
  have hb0 := Lib.hid (box4 w u v (.string s) (.int .i64 f))
  go_enter Try.func4, Try.ntmps4
  go_wp2_with (first
    | (go_at_call 15; refine (ks _).mono ?_; rintro e w1 ⟨rfl, hb1⟩; have H1 := Lib.hid (hb0.out.trans (hb1.mono hb0.out.size)); clear hb1 ks)
    | (go_at_call 16; refine (k1 _ H1.out).mono ?_; rintro e w2 ⟨rfl, hb2⟩; have H2 := Lib.hid (H1.out.trans (hb2.mono H1.out.size)); clear hb2)
    | fail)
  exact bodyPost_ret (results_tmp rfl _ _ _) rfl ⟨rfl, H2.out⟩
set_option maxHeartbeats 2000000 in
set_option maxRecDepth 20000 in
theorem joins_few2 (u v : Value) (s : ByteArray) (f : Int) (w : World)
    (k1 : ∀ w', Below w.heap.size w w' → Calls Try.prog 16 #[u, .string s] w' fun e w'' => e = .returned (.bool true) ∧ Below w'.heap.size w' w'')
    (k2 : ∀ w', Below w.heap.size w w' → Calls Try.prog 16 #[v, .string s] w' fun e w'' => e = .returned (.bool false) ∧ Below w'.heap.size w' w'') :
    Calls Try.prog 4 #[.agg #[u, v, .string s, .int .i64 f]] w fun e w' => e = .returned (.bool true) ∧ Below w.heap.size w w' := by
  have ks := fun w => shownM_any w
  have hb0 := Lib.hid (box4 w u v (.string s) (.int .i64 f))
  go_enter Try.func4, Try.ntmps4
  go_wp2_with (first
    | (go_at_call 15; refine (ks _).mono ?_; rintro e w1 ⟨rfl, hb1⟩; have H1 := Lib.hid (hb0.out.trans (hb1.mono hb0.out.size)); clear hb1 ks)
    | (go_at_call 16; refine (k1 _ H1.out).mono ?_; rintro e w2 ⟨rfl, hb2⟩; have H2 := Lib.hid (H1.out.trans (hb2.mono H1.out.size)); clear hb2 k1)
    | (go_at_call 16; refine (k2 _ H2.out).mono ?_; rintro e w3 ⟨rfl, hb3⟩; have H3 := Lib.hid (H2.out.trans (hb3.mono H2.out.size)); clear hb3 k2)
    | fail)
  exact bodyPost_ret (results_tmp rfl _ _ _) rfl ⟨rfl, H3.out⟩
theorem len_ends (s : List UInt8) (T : Tr) (a : Int) : (endsL s T a).length ≤ s.length + 1 := by
  unfold endsL
  split
  · exact Nat.zero_le _
  · exact Nat.le_trans (List.length_filter_le _ _) (by rw [List.length_range]; exact Nat.le_refl _)
theorem cat_filter (s : List UInt8) (S T : Tr) (a : Int) : endsL s (.two 2 S T) a = (List.range (s.length + 1)).filter fun j => decide (j ∈ (endsL s S a).flatMap fun e : Nat => endsL s T (e : Int)) :=
  ends_sorted _ _ _ _ fun b _ => by rw [decide_eq_true_iff, List.mem_flatMap, ends_cat]
theorem alt_filter (s : List UInt8) (S T : Tr) (a : Int) : endsL s (.two 3 S T) a = (List.range (s.length + 1)).filter fun j => decide (j ∈ endsL s S a ++ endsL s T a) :=
  ends_sorted _ _ _ _ fun b _ => by rw [decide_eq_true_iff, List.mem_append, ends_alt]
theorem le_ends {s : List UInt8} {T : Tr} {a : Int} {b : Nat} (h : b ∈ endsL s T a) : b < s.length + 1 := by
  have := (mem_endsI.1 h).2.2.1
  omega
theorem JoS.start (n : Nat) (w : World) : JoS w.heap.size n [] [] w ((w.alloc (.cells (madeCells #[.bool false] n) 4)).alloc (.cells (madeCells #[.bool false] n) 4)) := by
  have hz : (w.alloc (.cells (madeCells #[.bool false] n) 4)).heap.size = w.heap.size + 1 := by simp
  refine ⟨(BoX.start n w).below ((Below.refl _ _).alloc (Nat.le_refl _) _), ?_, ((Below.refl _ w).alloc (Nat.le_refl _) _).alloc (by simp) _, by simp⟩
  have := BoX.start n (w.alloc (.cells (madeCells #[.bool false] n) 4))
  rw [hz] at this
  exact this
set_option maxHeartbeats 16000000 in
set_option maxRecDepth 100000 in
theorem joins_in (ao1 ao2 : Option Addr) (N1 c1 N2 c2 : Nat) (S T : Tr) (s : ByteArray) (f : Int) (w : World) (hN1 : N1 ≤ 60) (hN2 : N2 ≤ 60) (hs : s.size ≤ 30) (hS : S.ok) (hT : T.ok)
    (e1 : N1 = (S.row 0).length) (e2 : N2 = (T.row 0).length) (hL1 : Lies (.slice ao1 N1 c1) (S.row 0) w) (hL2 : Lies (.slice ao2 N2 c2) (T.row 0) w)
    (k1 : ∀ w', Below w.heap.size w w' → Calls Try.prog 16 #[.slice ao1 N1 c1, .string s] w' fun e w'' => e = .returned (.bool true) ∧ Below w'.heap.size w' w'')
    (k2 : ∀ w', Below w.heap.size w w' → Calls Try.prog 16 #[.slice ao2 N2 c2, .string s] w' fun e w'' => e = .returned (.bool true) ∧ Below w'.heap.size w' w'') :
    Calls Try.prog 4 #[.agg #[.slice ao1 N1 c1, .slice ao2 N2 c2, .string s, .int .i64 f]] w fun e w' => e = .returned (.bool true) ∧ Below w.heap.size w w' := by
  have ks := fun w => shownM_any w
  have hl : s.data.toList.length = s.size := Array.length_toList
  have r1 := S.row_length 0
  have r2 := T.row_length 0
  have kC := fun W (h1 : Lies (.slice ao1 N1 c1) (S.row 0) W) (h2 : Lies (.slice ao2 N2 c2) (T.row 0) W) => refJoinC_trees _ _ S T W hT (by omega) h1 h2
  have kD := fun W (h1 : Lies (.slice ao1 N1 c1) (S.row 0) W) (h2 : Lies (.slice ao2 N2 c2) (T.row 0) W) => refJoin_trees _ _ S T W hT (by omega) h1 h2
  have kS := fun W (h : Lies (.slice ao1 N1 c1) (S.row 0) W) => ends_any _ S (S.row 0) s f W rfl hS (by omega) (by omega) h
  have kT := fun (a : Int) W (h : Lies (.slice ao2 N2 c2) (T.row 0) W) => ends_any _ T (T.row 0) s a W rfl hT (by omega) (by omega) h
  have z2 : ((Tr.two 2 S T).row 0).length ≤ 2000 := by rw [Tr.row_length]; show S.size + T.size + 1 ≤ _; omega
  have z3 : ((Tr.two 3 S T).row 0).length ≤ 2000 := by rw [Tr.row_length]; show S.size + T.size + 1 ≤ _; omega
  have kE2 := fun r W (h : Lies r ((Tr.two 2 S T).row 0) W) => ends_any r (.two 2 S T) _ s f W rfl ⟨.inl rfl, hS, hT⟩ z2 (by omega) h
  have kE3 := fun r W (h : Lies r ((Tr.two 3 S T).row 0) W) => ends_any r (.two 3 S T) _ s f W rfl ⟨.inr rfl, hS, hT⟩ z3 (by omega) h
  obtain ⟨P1, hP1⟩ : ∃ P, P = S.row 0 := ⟨_, rfl⟩
  obtain ⟨P2, hP2⟩ : ∃ P, P = T.row 0 := ⟨_, rfl⟩
  obtain ⟨P3, hP3⟩ : ∃ P, P = (Tr.two 2 S T).row 0 := ⟨_, rfl⟩
  obtain ⟨P4, hP4⟩ : ∃ P, P = (Tr.two 3 S T).row 0 := ⟨_, rfl⟩
  rw [← hP1] at kC kD kS hL1
  rw [← hP2] at kC kD kT hL2
  rw [← hP3] at kC kE2
  rw [← hP4] at kD kE3
  have hcat := cat_filter s.data.toList S T f
  have halt := alt_filter s.data.toList S T f
  rw [hl] at hcat halt
  obtain ⟨E1, hE1⟩ : ∃ E, E = endsL s.data.toList S f := ⟨_, rfl⟩
  obtain ⟨E2, hE2⟩ : ∃ E, E = endsL s.data.toList T f := ⟨_, rfl⟩
  obtain ⟨E3, hE3⟩ : ∃ E, E = endsL s.data.toList (.two 2 S T) f := ⟨_, rfl⟩
  obtain ⟨E4, hE4⟩ : ∃ E, E = endsL s.data.toList (.two 3 S T) f := ⟨_, rfl⟩
  obtain ⟨FT, hFT⟩ : ∃ F : Nat → List Nat, F = fun e : Nat => endsL s.data.toList T (e : Int) := ⟨_, rfl⟩
  rw [← hE1] at kS hcat halt
  rw [← hE3] at kE2 hcat
  rw [← hE4] at kE3 halt
  rw [← hFT] at hcat
  rw [← hE2] at halt
  have kF := kT f
  rw [← hE2] at kF
  have kN : ∀ (e : Nat) W, Lies (.slice ao2 N2 c2) P2 W → Calls Try.prog 17 #[.slice ao2 N2 c2, .string s, .int .i64 (e : Int)] W fun e' w' => ∃ v', e' = .returned v' ∧ w'.ownsRow W.heap.size 3 1 v' (FT e).length (natsV (FT e)) ∧ Below W.heap.size W w' := fun e W h => by rw [hFT]; exact kT (e : Int) W h
  obtain ⟨n, hn⟩ : ∃ n, n = s.size + 1 := ⟨_, rfl⟩
  rw [← hn] at hcat halt
  have b1 : ∀ x ∈ E1, x < n := fun x hx => by rw [hE1] at hx; have := le_ends hx; omega
  have b2 : ∀ x ∈ E2, x < n := fun x hx => by rw [hE2] at hx; have := le_ends hx; omega
  have bF : ∀ e, ∀ x ∈ FT e, x < n := fun e x hx => by rw [hFT] at hx; have := le_ends hx; omega
  have l1 : E1.length ≤ 31 := by have := len_ends s.data.toList S f; rw [hE1]; omega
  have l2 : E2.length ≤ 31 := by have := len_ends s.data.toList T f; rw [hE2]; omega
  have lF : ∀ e, (FT e).length ≤ 31 := fun e => by have := len_ends s.data.toList T (e : Int); rw [hFT]; show (endsL s.data.toList T (e : Int)).length ≤ _; omega
  have l3 : E3.length ≤ 31 := by have := len_ends s.data.toList (.two 2 S T) f; rw [hE3]; omega
  have l4 : E4.length ≤ 31 := by have := len_ends s.data.toList (.two 3 S T) f; rw [hE4]; omega
  obtain ⟨K1, hK1⟩ : ∃ K, K = E1.length := ⟨_, rfl⟩
  obtain ⟨K2, hK2⟩ : ∃ K, K = E2.length := ⟨_, rfl⟩
  rw [← hK1] at kS l1
  rw [← hK2] at kF l2
  have hI1 : IntKind.i64.wrap ((s.size : Int) + 1) = (n : Int) := by rw [IntWalk.i64_in _ (by omega)]; omega
  have kmk := fun (w : World) => run_make_row' (P := Try.prog) 40 4 (.bool false) 1 Try.underlying40 Try.infoBool rfl .i64 .i64 n (by omega) (by omega) w
  have hS1 : ((n : Nat) : Int) = (s.size : Int) + 1 := by omega
  have hn31 : n ≤ 31 := by omega
  have HNs := Lib.hid hn
  have hsz : s.size < n := by omega
  obtain ⟨X, hX⟩ : ∃ X, X = Obj.cells (madeCells #[.bool false] n) 4 := ⟨_, rfl⟩
  rw [← hX] at kmk
  have HX := Lib.hid hX
  have HL := Lib.hid (And.intro hL1 hL2)
  have HB := Lib.hid (And.intro b1 (And.intro b2 bF))
  have HC := Lib.hid (And.intro hcat halt)
  have HK := Lib.hid (And.intro hK1 hK2)
  have HZ := Lib.hid (And.intro l3 (And.intro l4 lF))
  have hb0 := Lib.hid (box4 w (.slice ao1 N1 c1) (.slice ao2 N2 c2) (.string s) (.int .i64 f))
  clear hX hL1 hL2 b1 b2 bF hcat halt hK1 hK2 l3 l4 lF hE1 hE2 hE3 hE4 hFT hP1 hP2 hP3 hP4 z2 z3 kT r1 r2 e1 e2 hl hS1 hN1 hN2 hS hT hn
  go_enter Try.func4, Try.ntmps4
  go_wp2_with (first
    | (go_at_call 15; refine (ks _).mono ?_; rintro e w1 ⟨rfl, hb1⟩; have H1 := Lib.hid (hb0.out.trans (hb1.mono hb0.out.size)); clear hb1 ks)
    | (go_at_call 16; refine (k1 _ H1.out).mono ?_; rintro e w2 ⟨rfl, hb2⟩; have H2 := Lib.hid (H1.out.trans (hb2.mono H1.out.size)); clear hb2 k1)
    | (go_at_call 16; refine (k2 _ H2.out).mono ?_; rintro e w3 ⟨rfl, hb3⟩; have H3 := Lib.hid (H2.out.trans (hb3.mono H2.out.size)); clear hb3 k2)
    | (go_at_call 12; refine (kC _ (HL.out.1.below H3.out) (HL.out.2.below H3.out)).mono ?_; rintro e w4 ⟨⟨rc, rfl, hrc⟩, hb4⟩; have H4 := Lib.hid (And.intro hrc (H3.out.trans (hb4.mono H3.out.size))); clear hrc hb4 kC)
    | (go_at_call 12; refine (kD _ (HL.out.1.below H4.out.2) (HL.out.2.below H4.out.2)).mono ?_; rintro e w5 ⟨⟨rd, rfl, hrd⟩, hb5⟩; have H5 := Lib.hid (And.intro hrd (And.intro (H4.out.1.below hb5) (H4.out.2.trans (hb5.mono H4.out.2.size)))); clear hrd hb5 kD
       have hj0 := JoS.start n w5
       rw [← HX.out] at hj0
       have HJ0 := Lib.hid hj0
       clear hj0)
    | (go_at_call 17; refine (kS _ (HL.out.1.below (H5.out.2.2.trans (HJ0.out.low.mono H5.out.2.2.size)))).mono ?_; rintro e w6 ⟨v6, rfl, ho6, hb6⟩; obtain ⟨a6, c6, rfl⟩ := own_zeroB ho6
       have ho6' := owns_baseM (B' := w5.heap.size + 2) ho6 (by simp)
       have H6 := Lib.hid (And.intro ho6' (HJ0.out.below hb6))
       clear ho6 ho6' hb6 kS)
    | fail)
  obtain ⟨g, hg⟩ : ∃ g, g = w5.heap.size := ⟨_, rfl⟩
  rw [← hg] at H6 ⊢
  have HW := Lib.hid (show Below g w5 w5 ∧ w.heap.size ≤ g from ⟨by rw [hg]; exact Below.refl _ _, by rw [hg]; exact H5.out.2.2.size⟩)
  have HG := Lib.hid hg
  clear HJ0 hg
  go_loopg [16] (K1 + 1) (fun m v16 wr => ∃ i : Nat, v16 = .int .i64 i ∧ i ≤ K1 ∧ Hid (m = K1 + 1 - i) ∧ Hid (JoS g n ((E1.take i).flatMap FT) (E1.take i) w5 wr ∧ wr.ownsRow (g + 2) 3 1 (.slice a6 K1 c6) K1 (natsV E1)))
  case atStart => exact ⟨0, rfl, by omega, rfl, H6.out.2, H6.out.1⟩
  case round =>
    obtain ⟨i, rfl, hi, HM, HS⟩ := hrel
    by_cases hlt : i < K1
    · have hltI : (i : Int) < (K1 : Int) := by omega
      obtain ⟨e, he⟩ : ∃ e, E1[i]? = some e := ⟨E1[i]'(by have := HK.out.1; omega), List.getElem?_eq_getElem _⟩
      have hen := HB.out.1 e (List.mem_of_getElem? he)
      obtain ⟨g6, cc6, e6⟩ := owned_slice HS.out.2 (by omega)
      cases e6
      have hne := own_base HS.out.2 (g := g6) rfl
      have ce := owns_cell2 HS.out.2 (j := i) (v := .int .i64 (e : Int)) (by unfold natsV; rw [List.getElem?_map, he]; rfl)
      have ce2 := owns_cell2 (owns_mark (g := g + 1) (x := e) HS.out.2 (by omega) (.bool true)) (j := i) (v := .int .i64 (e : Int)) (by unfold natsV; rw [List.getElem?_map, he]; rfl)
      obtain ⟨cu, fu⟩ := HS.out.1.e.at hen
      have e0 : (0 : Int) ≤ (e : Int) := by omega
      have e1 : (e : Int) < (n : Int) := by omega
      have hIi : IntKind.i64.wrap ((i : Int) + 1) = ((i + 1 : Nat) : Int) := by rw [IntWalk.i64_in _ (by omega)]; omega
      have hj2 := HS.out.1.put2 hen
      have hr2 := owns_mark (g := g + 1) (x := e) HS.out.2 (by omega) (.bool true)
      have HJ2 := Lib.hid (And.intro hj2 hr2)
      have kNe := kN e
      obtain ⟨M, hM⟩ : ∃ M, M = FT e := ⟨_, rfl⟩
      obtain ⟨m, hm⟩ : ∃ m, m = M.length := ⟨_, rfl⟩
      have hm31 : m ≤ 31 := by rw [hm, hM]; exact HZ.out.2.2 e
      have hMn : ∀ x ∈ M, x < n := by rw [hM]; exact HB.out.2.2 e
      rw [← hM, ← hm] at kNe
      have HE := Lib.hid (And.intro he (And.intro hM (And.intro hm hMn)))
      clear he hen hM hm hMn hj2 hr2 hne
      go_wp2_with (first
        | (go_at_call 17; refine (kNe _ (HL.out.2.below (H5.out.2.2.trans (HJ2.out.1.low.mono HW.out.2)))).mono ?_; rintro e' w7 ⟨v7, rfl, ho7, hb7⟩; obtain ⟨a7, c7, rfl⟩ := own_zeroB ho7
           have ho7' := owns_baseM (B' := g + 2) ho7 HJ2.out.1.big
           have H7 := Lib.hid (And.intro (HJ2.out.1.below hb7) (And.intro (owns_below HJ2.out.2 hb7) ho7'))
           clear ho7 ho7' hb7 kNe)
        | fail)
      clear ce ce2 cu fu
      go_loopg [18] (m + 1) (fun q v18 wt => ∃ k : Nat, v18 = .int .i64 k ∧ k ≤ m ∧ Hid (q = m + 1 - k) ∧ Hid (JoS g n ((E1.take i).flatMap FT ++ M.take k) (E1.take i ++ [e]) w5 wt ∧ wt.ownsRow (g + 2) 3 1 (.slice (some ⟨g6, 0, none⟩) K1 c6) K1 (natsV E1) ∧ wt.ownsRow (g + 2) 3 1 (.slice a7 m c7) m (natsV M)))
      case atStart => exact ⟨0, rfl, by omega, rfl, by rw [List.take_zero, List.append_nil]; exact H7.out.1, H7.out.2⟩
      case round =>
        obtain ⟨k, rfl, hk, HQ, HT⟩ := hrel
        by_cases hkl : k < m
        · have hkI : (k : Int) < (m : Int) := by omega
          obtain ⟨x, hx⟩ : ∃ x, M[k]? = some x := ⟨M[k]'(by have := HE.out.2.2.1; omega), List.getElem?_eq_getElem _⟩
          have hxn := HE.out.2.2.2 x (List.mem_of_getElem? hx)
          obtain ⟨g7, cc7, e7⟩ := owned_slice HT.out.2.2 (by omega)
          cases e7
          have cx := owns_cell2 HT.out.2.2 (j := k) (v := .int .i64 (x : Int)) (by unfold natsV; rw [List.getElem?_map, hx]; rfl)
          obtain ⟨cu, fu⟩ := HT.out.1.s.at hxn
          have x0 : (0 : Int) ≤ (x : Int) := by omega
          have x1 : (x : Int) < (n : Int) := by omega
          have hIk : IntKind.i64.wrap ((k : Int) + 1) = ((k + 1 : Nat) : Int) := by rw [IntWalk.i64_in _ (by omega)]; omega
          have HR := Lib.hid (And.intro hx hxn)
          clear hx hxn
          go_wp2
          go_roundg (m - k)
          case rel =>
            refine ⟨k + 1, by go_num, by omega, by show _ = _; omega, ?_, owns_mark HT.out.2.1 (by omega) _, owns_mark HT.out.2.2 (by omega) _⟩
            have := HT.out.1.put1 HR.out.2
            rw [List.append_assoc] at this
            rw [List.take_add_one, HR.out.1]
            exact this
          case measure => have := HQ.out; omega
        · obtain rfl : k = m := by omega
          have hd1 : decide ((k : Int) < (k : Int)) = false := by simp
          go_wp2
          go_roundg (K1 - i)
          case rel =>
            refine ⟨i + 1, by go_num, by omega, by show _ = _; omega, ?_, HT.out.2.1⟩
            have h := HT.out.1
            rw [show M.take k = M from List.take_of_length_le (by rw [← HE.out.2.2.1]; exact Nat.le_refl _), HE.out.2.1] at h
            rw [List.take_add_one, HE.out.1, List.flatMap_append]
            have e9 : List.flatMap FT (some e).toList = FT e := by simp
            rw [e9]
            exact h
          case measure => have := HM.out; omega
    · obtain rfl : i = K1 := by omega
      have hd0 : decide ((i : Int) < (i : Int)) = false := by simp
      have hj := HS.out.1
      rw [List.take_of_length_le (by rw [← HK.out.1]; exact Nat.le_refl _)] at hj
      have HJ := Lib.hid hj
      clear hj
      obtain ⟨A1, hA1⟩ : ∃ A, A = E1.flatMap FT := ⟨_, rfl⟩
      have HA1 := Lib.hid hA1
      rw [← hA1] at HJ
      clear hA1
      go_wp2_with (first
        | (go_at_call 17; refine (kF _ (HL.out.2.below (H5.out.2.2.trans (HJ.out.low.mono HW.out.2)))).mono ?_; rintro e' w8 ⟨v8, rfl, ho8, hb8⟩; obtain ⟨a8, c8, rfl⟩ := own_zeroB ho8
           have ho8' := owns_baseM (B' := g + 2) ho8 HJ.out.big
           have H8 := Lib.hid (And.intro (HJ.out.below hb8) ho8')
           clear ho8 ho8' hb8 kF)
        | fail)
      go_loopg [20] (K2 + 1) (fun q v20 wt => ∃ k : Nat, v20 = .int .i64 k ∧ k ≤ K2 ∧ Hid (q = K2 + 1 - k) ∧ Hid (JoS g n A1 (E1 ++ E2.take k) w5 wt ∧ wt.ownsRow (g + 2) 3 1 (.slice a8 K2 c8) K2 (natsV E2)))
      case atStart => exact ⟨0, rfl, by omega, rfl, by rw [List.take_zero, List.append_nil]; exact H8.out.1, H8.out.2⟩
      case round =>
        obtain ⟨k, rfl, hk, HQ, HT⟩ := hrel
        by_cases hkl : k < K2
        · have hkI : (k : Int) < (K2 : Int) := by omega
          obtain ⟨x, hx⟩ : ∃ x, E2[k]? = some x := ⟨E2[k]'(by have := HK.out.2; omega), List.getElem?_eq_getElem _⟩
          have hxn := HB.out.2.1 x (List.mem_of_getElem? hx)
          obtain ⟨g8, cc8, e8⟩ := owned_slice HT.out.2 (by omega)
          cases e8
          have cx := owns_cell2 HT.out.2 (j := k) (v := .int .i64 (x : Int)) (by unfold natsV; rw [List.getElem?_map, hx]; rfl)
          obtain ⟨cu, fu⟩ := HT.out.1.e.at hxn
          have x0 : (0 : Int) ≤ (x : Int) := by omega
          have x1 : (x : Int) < (n : Int) := by omega
          have hIk : IntKind.i64.wrap ((k : Int) + 1) = ((k + 1 : Nat) : Int) := by rw [IntWalk.i64_in _ (by omega)]; omega
          have HR := Lib.hid (And.intro hx hxn)
          clear hx hxn
          go_wp2
          go_roundg (K2 - k)
          case rel =>
            refine ⟨k + 1, by go_num, by omega, by show _ = _; omega, ?_, owns_mark HT.out.2 (by omega) _⟩
            have := HT.out.1.put2 HR.out.2
            rw [List.append_assoc] at this
            rw [List.take_add_one, HR.out.1]
            exact this
          case measure => have := HQ.out; omega
        · obtain rfl : k = K2 := by omega
          have hd1 : decide ((k : Int) < (k : Int)) = false := by simp
          have hj := HT.out.1
          rw [List.take_of_length_le (by rw [← HK.out.2]; exact Nat.le_refl _)] at hj
          obtain ⟨A2, hA2⟩ : ∃ A, A = E1 ++ E2 := ⟨_, rfl⟩
          rw [← hA2] at hj
          have HA2 := Lib.hid hA2
          have HJ9 := Lib.hid hj
          clear hj hA2
          go_wp2
          go_loopg [21, 22, 23] (n + 1) (fun q v21 v22 v23 wq => ∃ (j : Nat) (L1 L2 : List Nat) (va vb : Value) (wz : World), va = v21 ∧ vb = v22 ∧ wz = wq ∧ v23 = .int .i64 j ∧ Hid (j ≤ n) ∧ Hid (q = n + 1 - j) ∧ Hid (L1 = (List.range j).filter fun x => decide (x ∈ A1)) ∧ Hid (L2 = (List.range j).filter fun x => decide (x ∈ A2)) ∧ Hid (TwoR g n A1 A2 va vb L1 L2 w5 wz))
          case atStart => exact ⟨0, [], [], _, _, _, rfl, rfl, rfl, rfl, Nat.zero_le _, rfl, rfl, rfl, TwoR.start HJ9.out⟩
          case round =>
            obtain ⟨j, L1, L2, va, vb, wz, h21, h22, hwz, rfl, HJn, HQj, HL1, HL2, HT2⟩ := hrel
            rw [← h21, ← h22, ← hwz]
            clear h21 h22 hwz
            by_cases hlt : j < n
            · have hjs : (j : Int) ≤ (s.size : Int) := by have := HNs.out; omega
              have j0 : (0 : Int) ≤ (j : Int) := by omega
              have j1 : (j : Int) < (n : Int) := by omega
              have hjd : decide ((j : Int) ≤ (s.size : Int)) = true := decide_eq_true hjs
              have hjn : j ≤ s.size := by omega
              have hjnd : decide (j ≤ s.size) = true := decide_eq_true hjn
              obtain ⟨c1, f1⟩ := HT2.out.j.s.at hlt
              obtain ⟨c2, f2⟩ := HT2.out.j.e.at hlt
              obtain ⟨d1, hd1⟩ : ∃ d, d = decide (j ∈ A1) := ⟨_, rfl⟩
              obtain ⟨d2, hd2⟩ : ∃ d, d = decide (j ∈ A2) := ⟨_, rfl⟩
              rw [← hd1] at c1
              rw [← hd2] at c2
              have hln1 : ((List.range (j + 1)).filter fun x => decide (x ∈ A1)) = L1 ++ (if d1 = true then [j] else []) := by
                rw [List.range_succ, List.filter_append, ← HL1.out]
                congr 1
                rw [hd1]
                by_cases h : j ∈ A1
                · rw [decide_eq_true h]; simp [h]
                · rw [decide_eq_false h]; simp [h]
              have hln2 : ((List.range (j + 1)).filter fun x => decide (x ∈ A2)) = L2 ++ (if d2 = true then [j] else []) := by
                rw [List.range_succ, List.filter_append, ← HL2.out]
                congr 1
                rw [hd2]
                by_cases h : j ∈ A2
                · rw [decide_eq_true h]; simp [h]
                · rw [decide_eq_false h]; simp [h]
              have hl1 : L1.length ≤ j := by rw [HL1.out]; exact Nat.le_trans (List.length_filter_le _ _) (by simp)
              have hl2 : L2.length ≤ j := by rw [HL2.out]; exact Nat.le_trans (List.length_filter_le _ _) (by simp)
              have hIj : IntKind.i64.wrap ((j : Int) + 1) = ((j + 1 : Nat) : Int) := by rw [IntWalk.i64_in _ (by omega)]; omega
              have HLN1 := Lib.hid hln1
              have HLN2 := Lib.hid hln2
              have HD2 := Lib.hid hd2
              clear hln1 hln2 hd1 hd2
              cases d1 with
              | false =>
                cases d2 with
                | false =>
                  go_wp2
                  go_roundg (n - j)
                  case rel => exact ⟨j + 1, L1, L2, _, _, _, rfl, rfl, rfl, by go_num, by show _ ≤ _; omega, by show _ = _; omega, by show _ = _; rw [HLN1.out]; simp, by show _ = _; rw [HLN2.out]; simp, HT2⟩
                  case measure => have := HQj.out; omega
                | true =>
                  go_wp2_with (first
                    | (at_builtin; refine wpList_append_far _ rfl (.tmp 133) (.tmp 135) rfl (g + 2) vb L2.length (natsV L2) rfl (HT2.out.b.alloc _) ⟨wz.heap.size, 0, none⟩ (.int .i64 (j : Int)) rfl (cell_one' _ _ _) (by simp [Value.oneCell']) (by omega) (by have := HT2.out.j.big; simp; omega) ?_; intro v10 w10 hown hgrow hfar; have HT10 := Lib.hid (HT2.out.two hown hgrow hfar); clear hown hgrow hfar)
                    | fail)
                  go_roundg (n - j)
                  case rel => exact ⟨j + 1, L1, L2 ++ [j], _, _, _, rfl, rfl, rfl, by go_num, by show _ ≤ _; omega, by show _ = _; omega, by show _ = _; rw [HLN1.out]; simp, by show _ = _; rw [HLN2.out]; simp, HT10⟩
                  case measure => have := HQj.out; omega
              | true =>
                cases d2 with
                | false =>
                  go_wp2_with (first
                    | (at_builtin; refine wpList_append_far _ rfl (.tmp 125) (.tmp 127) rfl (g + 2) va L1.length (natsV L1) rfl (HT2.out.a.alloc _) ⟨wz.heap.size, 0, none⟩ (.int .i64 (j : Int)) rfl (cell_one' _ _ _) (by simp [Value.oneCell']) (by omega) (by have := HT2.out.j.big; simp; omega) ?_; intro v9 w9 hown hgrow hfar; have HT9 := Lib.hid (HT2.out.one hown hgrow hfar); clear hown hgrow hfar; clear c2 f2; obtain ⟨c2, f2⟩ := HT9.out.j.e.at hlt; rw [← HD2.out] at c2)
                    | fail)
                  go_roundg (n - j)
                  case rel => exact ⟨j + 1, L1 ++ [j], L2, _, _, _, rfl, rfl, rfl, by go_num, by show _ ≤ _; omega, by show _ = _; omega, by show _ = _; rw [HLN1.out]; simp, by show _ = _; rw [HLN2.out]; simp, HT9⟩
                  case measure => have := HQj.out; omega
                | true =>
                  go_wp2_with (first
                    | (at_builtin; refine wpList_append_far _ rfl (.tmp 125) (.tmp 127) rfl (g + 2) va L1.length (natsV L1) rfl (HT2.out.a.alloc _) ⟨wz.heap.size, 0, none⟩ (.int .i64 (j : Int)) rfl (cell_one' _ _ _) (by simp [Value.oneCell']) (by omega) (by have := HT2.out.j.big; simp; omega) ?_; intro v9 w9 hown hgrow hfar; have HT9 := Lib.hid (HT2.out.one hown hgrow hfar); clear hown hgrow hfar; clear c2 f2; obtain ⟨c2, f2⟩ := HT9.out.j.e.at hlt; rw [← HD2.out] at c2)
                    | (at_builtin; refine wpList_append_far _ rfl (.tmp 133) (.tmp 135) rfl (g + 2) vb L2.length (natsV L2) rfl (HT9.out.b.alloc _) ⟨w9.heap.size, 0, none⟩ (.int .i64 (j : Int)) rfl (cell_one' _ _ _) (by simp [Value.oneCell']) (by omega) (by have := HT9.out.j.big; simp; omega) ?_; intro v10 w10 hown hgrow hfar; have HT10 := Lib.hid (HT9.out.two hown hgrow hfar); clear hown hgrow hfar)
                    | fail)
                  go_roundg (n - j)
                  case rel => exact ⟨j + 1, L1 ++ [j], L2 ++ [j], _, _, _, rfl, rfl, rfl, by go_num, by show _ ≤ _; omega, by show _ = _; omega, by show _ = _; rw [HLN1.out]; simp, by show _ = _; rw [HLN2.out]; simp, HT10⟩
                  case measure => have := HQj.out; omega
            · obtain rfl : j = n := by have := HJn.out; omega
              have hjd : decide ((j : Int) ≤ (s.size : Int)) = false := by have := HNs.out; simp; omega
              have hjn : ¬ j ≤ s.size := by have := HNs.out; omega
              have hjnd : decide (j ≤ s.size) = false := decide_eq_false hjn
              have e3 : L1 = E3 := by rw [HL1.out, HC.out.1, HA1.out]
              have e4 : L2 = E4 := by rw [HL2.out, HC.out.2, HA2.out]
              have HE3 := Lib.hid (And.intro (decide_eq_true e3) (And.intro (decide_eq_true e4) (And.intro (show L1.length ≤ 31 by rw [e3]; exact HZ.out.1) (show L2.length ≤ 31 by rw [e4]; exact HZ.out.2.1))))
              have hw5 : Below w5.heap.size w5 wz := by rw [← HG.out]; exact HT2.out.j.low
              have HW5 := Lib.hid (And.intro (H5.out.2.1.below hw5) (And.intro (H5.out.1.below hw5) (H5.out.2.2.trans (HT2.out.j.low.mono HW.out.2))))
              clear e3 e4 hw5
              go_wp2_with (first
                | (go_at_call 17; refine (kE2 _ _ HW5.out.1).mono ?_; rintro e' w11 ⟨v11, rfl, ho11, hb11⟩
                   have ki := refInts_any va v11 L1 E3 w11 (nats_of_owns (owns_below HT2.out.a hb11) rfl (by have := HE3.out.2.2.1; omega)) (nats_of_owns ho11 rfl (by have := HZ.out.1; omega))
                   rw [HE3.out.1] at ki
                   have KI := Lib.hid ki
                   have HB11 := Lib.hid hb11
                   clear ki ho11 hb11 kE2)
                | (go_at_call 18; refine KI.out.mono ?_; rintro e' w12 ⟨rfl, hb12⟩
                   have HB12 := Lib.hid (show Below wz.heap.size wz w12 from HB11.out.trans (hb12.mono HB11.out.size))
                   clear hb12 KI HB11)
                | (go_at_call 17; refine (kE3 _ _ (HW5.out.2.1.below HB12.out)).mono ?_; rintro e' w13 ⟨v13, rfl, ho13, hb13⟩
                   have hb13' : Below wz.heap.size wz w13 := HB12.out.trans (hb13.mono HB12.out.size)
                   have ki := refInts_any vb v13 L2 E4 w13 (nats_of_owns (owns_below HT2.out.b hb13') rfl (by have := HE3.out.2.2.2; omega)) (nats_of_owns ho13 rfl (by have := HZ.out.2.1; omega))
                   rw [HE3.out.2.1] at ki
                   have KJ := Lib.hid ki
                   have HB13 := Lib.hid hb13'
                   clear ki ho13 hb13 hb13' kE3)
                | (go_at_call 18; refine KJ.out.mono ?_; rintro e' w14 ⟨rfl, hb14⟩
                   have HB14 := Lib.hid (show Below wz.heap.size wz w14 from HB13.out.trans (hb14.mono HB13.out.size))
                   clear hb14 KJ)
                | fail)
              exact bodyPost_ret (results_tmp rfl _ _ _) rfl ⟨rfl, HW5.out.2.2.trans (HB14.out.mono HW5.out.2.2.size)⟩
/-- The statement's function, at every input. -/
theorem matchJoins_walk (w : World) (ao1 : Option Addr) (cap1 : Nat) (ts1 : List Nd) (hL1 : ts1.length ≤ 140737488355328 → Lies (.slice ao1 ts1.length cap1) ts1 w) (ao2 : Option Addr) (cap2 : Nat) (ts2 : List Nd) (hL2 : ts2.length ≤ 140737488355328 → Lies (.slice ao2 ts2.length cap2) ts2 w) (s : ByteArray) (f : Int) :
    Calls Try.prog 4 #[.agg #[.slice ao1 ts1.length cap1, .slice ao2 ts2.length cap2, .string s, .int .i64 f]] w fun e w' => e = .returned (.bool true) ∧ Below w.heap.size w w' := by
  obtain ⟨q1, hq1, kf1⟩ := few06_any ao1 cap1 ts1 s w hL1
  obtain ⟨q2, hq2, kf2⟩ := few06_any ao2 cap2 ts2 s w hL2
  cases q1
  · exact joins_few1 _ _ s f w kf1
  · cases q2
    · exact joins_few2 _ _ s f w kf1 kf2
    · obtain ⟨hN1, hs, hl1, S, hS, rfl⟩ := hq1 rfl
      obtain ⟨hN2, _, hl2, T, hT, rfl⟩ := hq2 rfl
      exact joins_in ao1 ao2 _ cap1 _ cap2 S T s f w hN1 hN2 hs hS hT rfl rfl hl1 hl2 kf1 kf2
end Go.Proofs.Ytkgpnlldlekcbaa
