/- Packed texts: MbFew, MaWhole, MatchApartWalk, SuAll, SuWords. What each of them proves stands above its theorems; the conditions stand in these. -/
import Derived.Deep.LoopGhost
import Derived.Test.YtgffmbdbjbhocaaShelf
import Derived.Test.YtgffmbdbjbhocaaR0
import Derived.Test.YtgffmbdbjbhocaaR1
import Derived.Test.YtgffmbdbjbhocaaR6
import Derived.Test.YtgffmbdbjbhocaaR8
import Derived.Test.YtgffmbdbjbhocaaR10
namespace Go.Proofs.Ytgffmbdbjbhocaa
open Go.RowKit Go.Lib

theorem own_zeroB {w : World} {B k : Nat} {e : TypeId} {v : Value} {xs : List Value} {n : Nat} (h : w.ownsRow B e k v n xs) : ∃ ao cap, v = .slice ao n cap := by
  rcases h.2 with ⟨hv, h0⟩ | ⟨g, cap, cur, hv, _⟩
  · exact ⟨_, _, by rw [hv, h0]⟩
  · exact ⟨_, _, hv⟩
theorem pairC_get : ∀ (L : List (Nat × Nat)) (j i : Nat) (x : Nat × Nat), L[j]? = some x → i < 2 → (pairC L)[j * 2 + i]? = [Value.int .i64 (x.1 : Int), .int .i64 (x.2 : Int)][i]?
  | [], j, i, x, h, _ => by simp at h
  | t :: L, 0, i, x, h, hi => by
    simp at h
    subst h
    show ([Value.int .i64 (t.1 : Int), .int .i64 (t.2 : Int)] ++ pairC L)[0 * 2 + i]? = _
    rw [List.getElem?_append_left (by show 0 * 2 + i < 2; omega)]
    congr 1
    omega
  | t :: L, j + 1, i, x, h, hi => by
    have h : L[j]? = some x := by simpa using h
    show ([Value.int .i64 (t.1 : Int), .int .i64 (t.2 : Int)] ++ pairC L)[(j + 1) * 2 + i]? = _
    rw [List.getElem?_append_right (by show 2 ≤ _; omega)]
    have e : (j + 1) * 2 + i - [Value.int .i64 (t.1 : Int), .int .i64 (t.2 : Int)].length = j * 2 + i := by show (j + 1) * 2 + i - 2 = _; omega
    rw [e, pairC_get L j i x h hi]
/-- A span of a row of spans, read. -/
theorem span_cells {w : World} {B N g cap : Nat} {L : List (Nat × Nat)} (h : w.ownsRow B 41 2 (.slice (some ⟨g, 0, none⟩) N cap) N (pairC L)) {j : Nat} {x : Nat × Nat} (hx : L[j]? = some x) : w.cell? ⟨g, j * 2, none⟩ = some (.int .i64 (x.1 : Int)) ∧ w.cell? ⟨g, j * 2 + 1, none⟩ = some (.int .i64 (x.2 : Int)) :=
  ⟨owns_cell2 h (by have := pairC_get L j 0 x hx (by omega); simpa using this), owns_cell2 h (by have := pairC_get L j 1 x hx (by omega); simpa using this)⟩
end Go.Proofs.Ytgffmbdbjbhocaa
namespace Go.Proofs.Ytgffmbdbjbhocaa
open Go.RowKit Go.Lib

theorem contains_nat (L : List Nat) (n : Nat) : (L.map fun k : Nat => (k : Int)).contains (n : Int) = L.contains n := by
  rw [Bool.eq_iff_iff, List.contains_iff_mem, List.contains_iff_mem, List.mem_map]
  constructor
  · rintro ⟨k, hk, e⟩
    have e : k = n := Int.ofNat_inj.1 e
    exact e ▸ hk
  · exact fun h => ⟨n, h, rfl⟩
/-- A row of places of one's own: is a place one of them? -/
theorem contains_own {L : List Nat} {B n : Nat} {v : Value} {w : World} (h : w.ownsRow B 3 1 v L.length (natsV L)) :
    Calls Try.prog 65 #[v, .int .i64 (n : Int)] w fun e w' => e = .returned (.bool (L.contains n)) ∧ w' = w := by
  rcases h.2 with ⟨rfl, h0⟩ | ⟨g, cap, cur, rfl, _⟩
  · have e : L = [] := List.eq_nil_of_length_eq_zero h0
    subst e
    exact Try.slices_Contains_int_empty none 0 (n : Int) w
  · have hcap := (owns_cap h)
    have hc := Try.slices_Contains_int g 0 L.length cap (L.map fun k : Nat => (k : Int)) (n : Int) w (by rw [List.length_map]; exact Nat.le_refl _) (Nat.le_trans hcap.1 hcap.2) (fun j hj => by
      rw [Nat.zero_add]
      rw [List.length_map] at hj
      refine owns_cell h ?_
      unfold natsV
      rw [List.getElem?_map, List.getElem?_eq_getElem hj, List.getD_eq_getElem?_getD, List.getElem?_map, List.getElem?_eq_getElem hj]
      rfl)
    rw [List.take_of_length_le (by rw [List.length_map]; exact Nat.le_refl _), contains_nat] at hc
    exact hc
set_option maxHeartbeats 1000000 in
set_option maxRecDepth 20000 in
theorem whole_any (v : Value) (T : Tr) (ts : List Nd) (s : ByteArray) (w : World) (hts : ts = T.row 0) (hok : T.ok) (hsz : ts.length ≤ 2000) (hs : s.size ≤ 1000000) (hL : Lies v ts w) :
    Calls Try.prog 35 #[v, .string s] w fun e w' => e = .returned (.bool ((endsL s.data.toList T 0).contains s.size)) ∧ Below w.heap.size w w' := by
  have k := ends_any v T ts s 0 w hts hok hsz hs hL
  obtain ⟨b, o, cap, rfl⟩ := lies_ptr hts hL
  generalize endsL s.data.toList T 0 = L at k ⊢
  have k2 := fun (v' : Value) (w' : World) (h : w'.ownsRow w.heap.size 3 1 v' L.length (natsV L)) => contains_own (n := s.size) h
  clear hL hts hok hsz hs
  go_enter Try.func35, Try.ntmps35
  go_wp2_with (first
    | (go_at_call 31; refine k.mono ?_; rintro e w1 ⟨v', rfl, ho, hb⟩; have HO := Lib.hid ho; clear ho)
    | (go_at_call 65; refine (k2 _ _ HO.out).mono ?_; rintro e w2 ⟨rfl, rfl⟩)
    | fail)
  exact bodyPost_ret (results_tmp rfl _ _ _) rfl ⟨by show Ending.returned (.bool _) = _; rw [List.contains_eq_mem], hb⟩
end Go.Proofs.Ytgffmbdbjbhocaa
namespace Go.Proofs.Ytgffmbdbjbhocaa
open Go.RowKit Go.Lib

/-- Spans that stand one behind the other. -/
def Apart (s : List UInt8) (T : Tr) : Nat → Int → List (Nat × Nat) → Prop
  | _, _, [] => True
  | lo, e, (a, b) :: r => lo ≤ a ∧ a ≤ s.length ∧ farG s T a = ((b : Nat) : Int) ∧ a ≤ b ∧ b ≤ s.length ∧ ¬ (b = a ∧ e = a) ∧ Apart s T b b r
theorem Apart.mono {s : List UInt8} {T : Tr} {lo lo' : Nat} {e : Int} {l : List (Nat × Nat)} (h : Apart s T lo e l) (hlo : lo' ≤ lo) : Apart s T lo' e l := by
  cases l with
  | nil => trivial
  | cons x r => exact ⟨Nat.le_trans hlo h.1, h.2⟩
theorem goL_apart (s : List UInt8) (T : Tr) : ∀ (f a : Nat) (e : Int), Apart s T a e (goL (farG s T) s.length f a e)
  | 0, _, _ => trivial
  | f + 1, a, e => by
    unfold goL
    split
    · trivial
    · rename_i h1
      split
      · exact (goL_apart s T f (a + 1) e).mono (Nat.le_succ a)
      · rename_i h2
        rcases farG_cases s T a with h3 | ⟨b, h3, h4, h5, _⟩
        · exact absurd (.inl h3) h2
        · rw [h3, Int.toNat_natCast]
          exact ⟨Nat.le_refl _, by omega, h3, h4, h5, fun h => h2 (.inr ⟨by rw [h3, h.1], h.2⟩), goL_apart s T f b b⟩
theorem apart_at {s : List UInt8} {T : Tr} : ∀ (l : List (Nat × Nat)) (lo : Nat) (e : Int), Apart s T lo e l → ∀ x r, l = x :: r → lo ≤ x.1 ∧ x.1 ≤ s.length ∧ farG s T x.1 = ((x.2 : Nat) : Int) ∧ x.1 ≤ x.2 ∧ x.2 ≤ s.length ∧ ¬ (x.2 = x.1 ∧ e = x.1) ∧ Apart s T x.2 x.2 r := by
  rintro l lo e h ⟨a, b⟩ r rfl
  exact h
end Go.Proofs.Ytgffmbdbjbhocaa
namespace Go.Proofs.Ytgffmbdbjbhocaa
open Go.RowKit Go.Lib
attribute [local go_sem] Oper.semAt_some

theorem Try.infoStrU : (Try.prog.info? 9).map (fun i => (i.zero, i.size, i.bytes)) = some (some (.string ByteArray.empty), 1, 16) := by kernel_rfl
def strC (xs : List ByteArray) : List Value := xs.map Value.string
theorem strC_append (a b : List ByteArray) : strC (a ++ b) = strC a ++ strC b := List.map_append
/-- A row of texts of one's own can be read. -/
theorem strs_of_owns {w : World} {B n : Nat} {v : Value} {xs : List ByteArray} (h : w.ownsRow B 9 1 v n (strC xs)) (hn : n = xs.length) (hl : n ≤ 140737488355328) : Strs v xs w := by
  subst hn
  rcases h.2 with ⟨hv, h0⟩ | ⟨g, cap, cur, hv, _, hg, hc, _, hz, htk⟩
  · have e : xs = [] := List.eq_nil_of_length_eq_zero h0
    subst e
    subst hv
    exact Strs.nil w
  · refine ⟨some ⟨g, 0, none⟩, cap, hv, hc, hl, fun j x hj => ⟨g, 0, rfl, block_lt hg, ?_⟩⟩
    have hjl : j < xs.length := by
      by_cases h : j < xs.length
      · exact h
      · rw [List.getElem?_eq_none (by omega)] at hj; cases hj
    have e : (strC xs)[j]? = some (.string x) := by unfold strC; rw [List.getElem?_map, hj]; rfl
    rw [← htk, List.getElem?_take_of_lt (by omega)] at e
    rw [cell_of_heap hg, Nat.zero_add]
    simpa using e
/-- What a text is made of, from a place on: what stays, and what is put in. -/
def piecesB (s : ByteArray) (xs : List ByteArray) : Nat → List (Nat × Nat) → List ByteArray
  | d, [] => [s.extract d s.size]
  | d, (a, b) :: r => s.extract d a :: joinB xs (s.extract a b) :: piecesB s xs b r
def allB (s : ByteArray) (xs : List ByteArray) (L : List (Nat × Nat)) : ByteArray := joinB (piecesB s xs 0 L) ⟨#[]⟩
theorem cells_twoS (w : World) (h : Nat) (hw : w.heap.size = h) (t : TypeId) (p q : Value) : ∀ j x, [p, q][j]? = some x → (w.alloc (.cells #[p, q] t)).cell? ((⟨h, 0, none⟩ : Addr).add j) = some x := cells_twoM w h hw t p q
/-- What holds between two rounds. -/
structure AllS (s : ByteArray) (T : Tr) (xs : List ByteArray) (L : List (Nat × Nat)) (B : Nat) (w : World) (v : Value) (d i : Nat) (W : World) : Prop where
  list : ∃ zs e, piecesB s xs 0 L = zs ++ piecesB s xs d (L.drop i) ∧ zs.length = 2 * i ∧ W.ownsRow B 9 1 v (2 * i) (strC zs) ∧ Apart s.data.toList T d e (L.drop i)
  low : Below B w W
  dn : d ≤ s.size
set_option maxHeartbeats 8000000 in
set_option maxRecDepth 100000 in
theorem suAll_walk (vt : Value) (al : Option Addr) (M cl K _Bd : Nat) (ts : List Nd) (T : Tr) (xs : List ByteArray) (L : List (Nat × Nat)) (s : ByteArray) (w : World) (hvt : ∃ ao N cap, vt = .slice ao N cap) (_hs : s.size ≤ 1000000) (hK : K = L.length) (hK2 : K ≤ 2000010) (hA : Apart s.data.toList T 0 (-1) L)
    (hL : Lies vt ts w) (hx : Strs (.slice al M cl) xs w) (hBd : ∀ a b, (joinB xs (s.extract a b)).size ≤ 140737488355328) (hAll : (allB s xs L).size ≤ 140737488355328)
    (k1 : ∀ w, Lies vt ts w → Calls Try.prog 29 #[vt, .string s] w fun e w' => ∃ v', e = .returned v' ∧ w'.ownsRow w.heap.size 41 2 v' K (pairC L) ∧ Below w.heap.size w w') :
    Calls Try.prog 49 #[vt, .string s, .slice al M cl] w fun e w' => e = .returned (.tuple #[.string (allB s xs L), .int .i64 (K : Int)]) ∧ Below w.heap.size w w' := by
  obtain ⟨ao, N, cap, rfl⟩ := hvt
  have hlen : s.data.toList.length = s.size := Array.length_toList
  have kP := fun a b w h => putS_any (.slice al M cl) xs (s.extract a b) w h (hBd a b)
  have kL := fun v w h => layS_any v (piecesB s xs 0 L) ⟨#[]⟩ w h hAll
  have kL : ∀ v w, Strs v (piecesB s xs 0 L) w → Calls Try.prog 83 #[.string ⟨#[]⟩, v] w fun e w' => e = .returned (.string (allB s xs L)) ∧ Below w.heap.size w w' := kL
  obtain ⟨i0, hi, hz0, hz1, hz2⟩ := info_parts Try.infoStrU
  obtain ⟨R, hR⟩ : ∃ R, R = allB s xs L := ⟨_, rfl⟩
  rw [← hR] at kL ⊢
  have H := Lib.hid (And.intro hlen (And.intro hL (And.intro hx (And.intro hA hK))))
  have HI0 := Lib.hid (And.intro hi (And.intro hz0 (And.intro hz1 hz2)))
  clear hlen hL hx hA hK hi hz0 hz1 hz2 hBd hAll hR
  go_enter Try.func49, Try.ntmps49
  go_wp2_with (first
    | (go_at_call 29; refine (k1 _ H.out.2.1).mono ?_; rintro e w1 ⟨v1, rfl, ho1, hb1⟩; obtain ⟨a1, c1, rfl⟩ := own_zeroB ho1; have H1 := Lib.hid (And.intro ho1 hb1); clear hb1 k1 ho1)
    | fail)
  go_loopg [9, 10, 20] (K + 1) (fun g v9 v10 v20 wr => ∃ (d i : Nat), v10 = .int .i64 d ∧ v20 = .int .i64 i ∧ i ≤ K ∧ Hid (g = K + 1 - i) ∧ Hid (AllS s T xs L w1.heap.size w1 v9 d i wr))
  case atStart => exact ⟨0, 0, rfl, rfl, by omega, rfl, ⟨[], -1, rfl, rfl, World.ownsRow_nil _ _ _ _, H.out.2.2.2.1⟩, Below.refl _ _, Nat.zero_le _⟩
  case round =>
    obtain ⟨d, i, rfl, rfl, hi, HK, HS⟩ := hrel
    by_cases hlt : i < K
    · obtain ⟨⟨x, y⟩, hx⟩ : ∃ x, L[i]? = some x := ⟨L[i]'(by have := H.out.2.2.2.2; omega), List.getElem?_eq_getElem _⟩
      have hd : L.drop i = (x, y) :: L.drop (i + 1) := by
        have hil : i < L.length := by have := H.out.2.2.2.2; omega
        rw [List.getElem?_eq_getElem hil] at hx
        rw [List.drop_eq_getElem_cons hil, Option.some.inj hx]
      obtain ⟨zs, e, hp, hzl, hown, hap⟩ := HS.out.list
      obtain ⟨h1, h2, h3, h4, h5, h6, h7⟩ := apart_at _ _ _ hap _ _ hd
      dsimp only at h1 h2 h3 h4 h5 h6 h7
      rw [H.out.1] at h2 h5
      have hlow := HS.out.low
      obtain ⟨g1, c1, e1⟩ := owned_slice H1.out.1 (by omega)
      cases e1
      have kk := owns_same H1.out.1 fun q hq => hlow.block q (own_block_lt H1.out.1 hq)
      obtain ⟨a0, a1⟩ := span_cells kk hx
      dsimp only at a0 a1
      have hB1 : Below w.heap.size w wr := H1.out.2.trans (hlow.mono H1.out.2.size)
      have hltI : (i : Int) < (K : Int) := by omega
      have hI : IntKind.i64.wrap ((i : Int) + 1) = ((i + 1 : Nat) : Int) := by rw [IntWalk.i64_in _ (by omega)]; omega
      have d0 : (0 : Int) ≤ (d : Int) := by omega
      have d1 : (d : Int) ≤ (x : Int) := by omega
      have d2 : (x : Int) ≤ (s.size : Int) := by omega
      have x0 : (0 : Int) ≤ (x : Int) := by omega
      have x1 : (x : Int) ≤ (y : Int) := by omega
      have x2 : (y : Int) ≤ (s.size : Int) := by omega
      have hi2 : 2 * i ≤ 5000000 := by omega
      have hpn : piecesB s xs 0 L = (zs ++ [s.extract d x, joinB xs (s.extract x y)]) ++ piecesB s xs y (L.drop (i + 1)) := by
        rw [hp, hd, List.append_assoc]
        rfl
      obtain ⟨m, hm⟩ : ∃ m, m = 2 * i := ⟨_, rfl⟩
      rw [← hm] at hown hzl hi2
      have HP := Lib.hid (And.intro hpn (And.intro h7 (And.intro hzl (And.intro hB1 (And.intro hlow hm)))))
      have HO := Lib.hid hown
      obtain ⟨b9, c9, hv9⟩ := own_zeroB hown
      subst hv9
      clear hpn h7 hzl hB1 hlow hd hx hp hown hap kk h1 h2 h3 h4 h5 h6 hm
      go_upto_region 8 with (first | go_region | fail)
      obtain ⟨W, hW⟩ : ∃ W, W = (wr.alloc (.cells #[.int .i64 (x : Int), .int .i64 (y : Int)] 41)).drew := ⟨_, rfl⟩
      rw [← hW]
      have hWb : Below wr.heap.size wr W := by rw [hW]; exact ((Below.refl _ wr).alloc (Nat.le_refl _) _).drew
      have hWz : W.heap.size = wr.heap.size + 1 := by rw [hW]; simp
      obtain ⟨P, hP⟩ : ∃ P, P = joinB xs (s.extract x y) := ⟨_, rfl⟩
      have kP1 := kP x y
      rw [← hP] at kP1
      obtain ⟨E, hE⟩ : ∃ E, E = s.extract d x := ⟨_, rfl⟩
      have hxW : Strs (.slice al M cl) xs W := H.out.2.2.1.below (HP.out.2.2.2.1.trans (hWb.mono HP.out.2.2.2.1.size))
      have hownW := owns_same HO.out fun q hq => hWb.block q (own_block_lt HO.out hq)
      have hBW : w1.heap.size ≤ W.heap.size := by have := HP.out.2.2.2.2.1.size; omega
      have HW := Lib.hid (And.intro hxW (And.intro hownW (And.intro hWb (And.intro hP hE))))
      clear hW hWb hWz hP hxW hownW a0 a1
      go_region_law
        (first
          | (go_simp; go_at_call 44; refine (kP1 _ (by first | exact HW.out.1 | exact HW.out.1.below ((Below.refl _ W).drew))).mono ?_; rintro e w5 ⟨rfl, hb5⟩
             have hb5' : Below W.heap.size W w5 := by first | exact hb5 | exact (Below.refl _ W).drew.trans hb5
             have own5 := owns_same HW.out.2.1 fun q hq => hb5'.block q (own_block_lt HW.out.2.1 hq)
             have hz5 := hb5'.size
             have H5 := Lib.hid (And.intro hb5' own5)
             clear hb5 hb5' own5)
          | (refine step_append_own rfl (.tmp 28) (.tmp 39) 59 rfl w1.heap.size 9 i0 (.string ByteArray.empty) 1 16 Try.underlying59 HI0.out.1 HI0.out.2.1 HI0.out.2.2.1 HI0.out.2.2.2 rfl (by decide) _ m (strC zs) (by simp [Act.eval]) (owns_alloc H5.out.2) ⟨w5.heap.size, 0, none⟩ 2 2 [.string (s.extract d x), .string P] (by simp [Act.eval]) rfl (cells_twoS _ _ rfl _ _ _) (by simp [Value.oneCell']) (by unfold maxLen; omega) (by omega) (by simp; omega) ?_; intro v2 w6 hown6 hgrow6
             obtain ⟨g6, cap6, rfl⟩ := owned_slice hown6 (by omega)
             have hb6 : Below w1.heap.size w1 w6 := (((HP.out.2.2.2.2.1.trans (HW.out.2.2.1.mono HP.out.2.2.2.2.1.size)).trans (H5.out.1.mono hBW)).alloc (by omega) _).grown hgrow6 (by simp; omega) (fun r hr => own_base HO.out hr)
             have H6 := Lib.hid (And.intro hown6 hb6)
             clear hown6 hgrow6 hb6))
      all_goals
        go_wp2
        go_roundg (K - i)
        case rel =>
          refine ⟨y, i + 1, rfl, by go_num, by omega, by show _ = _; omega, ⟨zs ++ [s.extract d x, joinB xs (s.extract x y)], y, HP.out.1, ?_, ?_, HP.out.2.1⟩, H6.out.2, by omega⟩
          · have := HP.out.2.2.1
            have := HP.out.2.2.2.2.2
            rw [List.length_append]
            simp
            omega
          · rw [strC_append, show 2 * (i + 1) = m + 2 by have := HP.out.2.2.2.2.2; omega, ← HW.out.2.2.2.1]
            exact H6.out.1
        case measure => have := HK.out; omega
    · have hd0 : decide ((i : Int) < (K : Int)) = false := by simp; omega
      obtain ⟨zs, e, hp, hzl, hown, hap⟩ := HS.out.list
      have hlow := HS.out.low
      have hdn := HS.out.dn
      have hiK : L.drop i = [] := List.drop_eq_nil_of_le (by have := H.out.2.2.2.2; omega)
      rw [hiK] at hp
      have hpe : piecesB s xs 0 L = zs ++ [s.extract d s.size] := hp
      have d0 : (0 : Int) ≤ (d : Int) := by omega
      have d2 : (d : Int) ≤ (s.size : Int) := by omega
      have hB1 : Below w.heap.size w wr := H1.out.2.trans (hlow.mono H1.out.2.size)
      obtain ⟨m, hm⟩ : ∃ m, m = 2 * i := ⟨_, rfl⟩
      rw [← hm] at hown hzl
      obtain ⟨b9, c9, hv9⟩ := own_zeroB hown
      subst hv9
      have hmb : m ≤ 5000000 := by omega
      have HP := Lib.hid (And.intro hpe (And.intro hlow (And.intro hB1 (And.intro hown (And.intro hzl hm)))))
      have hsz := hlow.size
      clear hpe hp hiK hlow hB1 hown hap hzl hm
      go_wp2_with (first
        | (at_builtin; refine wpList_append_own _ rfl (.tmp 43) (.tmp 47) 59 rfl w1.heap.size 9 i0 (.string ByteArray.empty) 1 16 Try.underlying59 HI0.out.1 HI0.out.2.1 HI0.out.2.2.1 HI0.out.2.2.2 rfl (by decide) _ m (strC zs) rfl (owns_alloc HP.out.2.2.2.1) ⟨wr.heap.size, 0, none⟩ 1 1 [.string (s.extract d s.size)] rfl rfl (cell_one' _ _ _) (by simp [Value.oneCell']) (by unfold maxLen; omega) (by omega) (by simp; omega) ?_; intro v4 w4 hown4 hgrow4 _
           obtain ⟨g4, cap4, rfl⟩ := owned_slice hown4 (by omega)
           have hst : Strs (.slice (some ⟨g4, 0, none⟩) (m + 1) cap4) (piecesB s xs 0 L) w4 := strs_of_owns (by rw [HP.out.1, strC_append]; exact hown4) (by rw [HP.out.1, List.length_append, HP.out.2.2.2.2.1]; rfl) (by omega)
           have hb4 : Below w1.heap.size w1 w4 := (HP.out.2.1.alloc (by omega) _).grown hgrow4 (by simp; omega) (fun r hr => own_base HP.out.2.2.2.1 hr)
           have H4 := Lib.hid (And.intro hst hb4)
           clear hown4 hgrow4 hst hb4)
        | (go_at_call 83; refine (kL _ _ H4.out.1).mono ?_; rintro e w5 ⟨rfl, hb5⟩; have H5 := Lib.hid hb5; clear hb5 kL)
        | fail)
      have hB4 := H1.out.2.trans (H4.out.2.mono H1.out.2.size)
      exact bodyPost_ret (results_tmp2 rfl _ _ _) rfl ⟨rfl, hB4.trans (H5.out.mono hB4.size)⟩
end Go.Proofs.Ytgffmbdbjbhocaa
namespace Go.Proofs.Ytgffmbdbjbhocaa
open Go.RowKit Go.Lib

/-- A word stands at a place. -/
def OccW (s w : List UInt8) (a : Nat) : Prop := ∀ i, i < w.length → s[a + i]? = w[i]?
theorem inSet_occ {s : List UInt8} {c : UInt8} {p : Nat} : inSet s (k4 (oneK c.toNat)) p = true ↔ s[p]? = some c := by
  unfold inSet
  cases h : s[p]? with
  | none => simp
  | some d =>
    dsimp only
    rw [has_k4 _ d.toNat_lt, has_one, decide_eq_true_eq]
    constructor
    · intro h
      rw [UInt8.toNat_inj.1 h]
    · intro h
      rw [Option.some.inj h]
theorem st_litF (s l : List UInt8) : ∀ (j a b : Nat), St s (litF l j) a b ↔ b = a + j + 1 ∧ ∀ i, i < j + 1 → s[a + i]? = some (l.getD i 0)
  | 0, a, b => by
    show b = a + 1 ∧ inSet s (k4 (oneK (l.getD 0 0).toNat)) a = true ↔ _
    rw [inSet_occ]
    constructor
    · rintro ⟨h1, h2⟩
      refine ⟨by omega, fun i hi => ?_⟩
      obtain rfl : i = 0 := by omega
      exact h2
    · rintro ⟨h1, h2⟩
      exact ⟨by omega, h2 0 (by omega)⟩
  | j + 1, a, b => by
    show (∃ c, St s (litF l j) a c ∧ (b = c + 1 ∧ inSet s (k4 (oneK (l.getD (j + 1) 0).toNat)) c = true)) ↔ _
    constructor
    · rintro ⟨c, h1, h2, h3⟩
      obtain ⟨h4, h5⟩ := (st_litF s l j a c).1 h1
      rw [inSet_occ] at h3
      refine ⟨by omega, fun i hi => ?_⟩
      by_cases e : i = j + 1
      · rw [e, show a + (j + 1) = c by omega]
        exact h3
      · exact h5 i (by omega)
    · rintro ⟨h1, h2⟩
      refine ⟨a + j + 1, (st_litF s l j a _).2 ⟨rfl, fun i hi => h2 i (by omega)⟩, by omega, ?_⟩
      rw [inSet_occ]
      exact h2 (j + 1) (by omega)
theorem st_lit {s l : List UInt8} (hl : l ≠ []) (a b : Nat) : St s (litT l) a b ↔ b = a + l.length ∧ OccW s l a := by
  have hp : 0 < l.length := List.length_pos_iff.2 hl
  unfold litT
  rw [if_neg (by omega), st_litF]
  have e : ∀ i, i < l.length → l[i]? = some (l.getD i 0) := fun i hi => by
    rw [List.getD_eq_getElem?_getD, List.getElem?_eq_getElem hi]
    rfl
  constructor
  · rintro ⟨h1, h2⟩
    refine ⟨by omega, fun i hi => ?_⟩
    rw [e i hi]
    exact h2 i (by omega)
  · rintro ⟨h1, h2⟩
    refine ⟨by omega, fun i hi => ?_⟩
    rw [← e i (by omega)]
    exact h2 i (by omega)
theorem occ_le {s w : List UInt8} {a : Nat} (hw : w ≠ []) (h : OccW s w a) : a + w.length ≤ s.length := by
  have hp : 0 < w.length := List.length_pos_iff.2 hw
  have h1 := h (w.length - 1) (by omega)
  rw [List.getElem?_eq_getElem (show w.length - 1 < w.length by omega)] at h1
  by_cases hc : a + (w.length - 1) < s.length
  · omega
  · rw [List.getElem?_eq_none (by omega)] at h1
    cases h1
theorem far_occ {s w : List UInt8} {a : Nat} (hw : w ≠ []) (h : OccW s w a) : farG s (litT w) a = ((a + w.length : Nat) : Int) :=
  farG_some (occ_le hw h) ((st_lit hw _ _).2 ⟨rfl, h⟩) fun c h1 _ h3 => by have := ((st_lit hw _ _).1 h3).1; omega
theorem far_no {s w : List UInt8} {a : Nat} (hw : w ≠ []) (h : ¬ OccW s w a) : farG s (litT w) a = -1 :=
  farG_none fun _ _ hs => h ((st_lit hw _ _).1 hs).2
/-- Places of a word, one behind the other, and none between. -/
def Good (s w : List UInt8) : Nat → List (Nat × Nat) → Prop
  | d, [] => ∀ a, d ≤ a → ¬ OccW s w a
  | d, (x, y) :: r => d ≤ x ∧ y = x + w.length ∧ y ≤ s.length ∧ (∀ a, d ≤ a → a < x → ¬ OccW s w a) ∧ Good s w y r
theorem good_back {s w : List UInt8} {d : Nat} (h : ¬ OccW s w d) : ∀ {l : List (Nat × Nat)}, Good s w (d + 1) l → Good s w d l
  | [], hg => fun a ha => by
    by_cases e : a = d
    · rw [e]; exact h
    · exact hg a (by omega)
  | (x, y) :: r, ⟨h1, h2, h3, h4, h5⟩ => ⟨by omega, h2, h3, fun a ha hx => by
    by_cases e : a = d
    · rw [e]; exact h
    · exact h4 a (by omega) hx, h5⟩
theorem goL_good (s w : List UInt8) (hw : w ≠ []) : ∀ (f a : Nat) (e : Int), s.length + 2 ≤ f + a → Good s w a (goL (farG s (litT w)) s.length f a e)
  | 0, a, e, hf => fun a' ha ho => by have := occ_le hw ho; omega
  | f + 1, a, e, hf => by
    have hp : 0 < w.length := List.length_pos_iff.2 hw
    unfold goL
    by_cases hn : s.length < a
    · rw [if_pos hn]
      exact fun a' ha ho => by have := occ_le hw ho; omega
    · rw [if_neg hn]
      by_cases ho : OccW s w a
      · rw [far_occ hw ho, if_neg (by omega)]
        exact ⟨Nat.le_refl _, by omega, by have := occ_le hw ho; omega, fun a' h1 h2 => by omega, goL_good s w hw f _ _ (by omega)⟩
      · rw [far_no hw ho, if_pos (.inl rfl)]
        exact good_back ho (goL_good s w hw f _ _ (by omega))
theorem spans_good (s w : List UInt8) (hw : w ≠ []) : Good s w 0 (spansL s (litT w) 0) := goL_good s w hw _ _ _ (by omega)
/-- What comes of replacing. -/
def putL (s what : List UInt8) : Nat → List (Nat × Nat) → List UInt8
  | d, [] => s.drop d
  | d, (x, y) :: r => (s.drop d).take (x - d) ++ (what ++ putL s what y r)
theorem put_none {s w what : List UInt8} (hw : w ≠ []) (hv : what ≠ []) (hd : ∀ c ∈ what, c ∉ w) : ∀ (L : List (Nat × Nat)) (d : Nat), d ≤ s.length → Good s w d L → ∀ a, ¬ OccW (putL s what d L) w a
  | [], d, hds, hg, a, ho => hg (d + a) (by omega) fun i hi => by
    have h := ho i hi
    unfold putL at h
    rw [List.getElem?_drop] at h
    rw [show d + a + i = d + (a + i) by omega]
    exact h
  | (x, y) :: r, d, hds, ⟨h1, h2, h3, h4, h5⟩, a, ho => by
    have hp : 0 < w.length := List.length_pos_iff.2 hw
    have hpv : 0 < what.length := List.length_pos_iff.2 hv
    have hP : ((s.drop d).take (x - d)).length = x - d := by rw [List.length_take, List.length_drop]; omega
    have e : putL s what d ((x, y) :: r) = (s.drop d).take (x - d) ++ (what ++ putL s what y r) := rfl
    rw [e] at ho
    obtain ⟨P, hPd⟩ : ∃ P, P = (s.drop d).take (x - d) := ⟨_, rfl⟩
    rw [← hPd] at ho hP
    by_cases c1 : a + w.length ≤ x - d
    · refine h4 (d + a) (by omega) (by omega) fun i hi => ?_
      have h := ho i hi
      rw [List.getElem?_append_left (by omega), hPd, List.getElem?_take, if_pos (by omega), List.getElem?_drop] at h
      rw [show d + a + i = d + (a + i) by omega]
      exact h
    · by_cases c2 : a < (x - d) + what.length
      · -- a byte of what lies in the word
        obtain ⟨p, p1, p2, p3, p4⟩ : ∃ p, a ≤ p ∧ p < a + w.length ∧ x - d ≤ p ∧ p < (x - d) + what.length := by
          by_cases c3 : x - d ≤ a
          · exact ⟨a, by omega, by omega, by omega, by omega⟩
          · exact ⟨x - d, by omega, by omega, by omega, by omega⟩
        have h := ho (p - a) (by omega)
        rw [show a + (p - a) = p by omega, List.getElem?_append_right (by omega), hP, List.getElem?_append_left (by omega), List.getElem?_eq_getElem (show p - (x - d) < what.length by omega), List.getElem?_eq_getElem (show p - a < w.length by omega)] at h
        have hm := Option.some.inj h
        exact hd _ (List.getElem_mem (show p - (x - d) < what.length by omega)) (by rw [hm]; exact List.getElem_mem _)
      · refine put_none hw hv hd r y h3 h5 (a - (x - d) - what.length) fun i hi => ?_
        have h := ho i hi
        rw [List.getElem?_append_right (by omega), hP, List.getElem?_append_right (by omega)] at h
        rw [← h]
        congr 1
        omega
theorem put_len {s w what : List UInt8} : ∀ (L : List (Nat × Nat)) (d : Nat), d ≤ s.length → Good s w d L → (putL s what d L).length + L.length * w.length + d = s.length + L.length * what.length
  | [], d, hds, _ => by
    show (s.drop d).length + 0 * _ + d = _
    rw [List.length_drop]
    simp
    omega
  | (x, y) :: r, d, hds, ⟨h1, h2, h3, h4, h5⟩ => by
    have ih := put_len (what := what) r y h3 h5
    show ((s.drop d).take (x - d) ++ (what ++ putL s what y r)).length + (r.length + 1) * w.length + d = s.length + (r.length + 1) * what.length
    rw [List.length_append, List.length_append, List.length_take, List.length_drop, Nat.add_mul, Nat.add_mul]
    omega
theorem spans_none {s w what : List UInt8} (hw : w ≠ []) (hv : what ≠ []) (hd : ∀ c ∈ what, c ∉ w) : spansL (putL s what 0 (spansL s (litT w) 0)) (litT w) 0 = [] := by
  have h := put_none hw hv hd _ 0 (Nat.zero_le _) (spans_good s w hw)
  have hg := spans_good (putL s what 0 (spansL s (litT w) 0)) w hw
  cases hL : spansL (putL s what 0 (spansL s (litT w) 0)) (litT w) 0 with
  | nil => rfl
  | cons p r =>
    have hA := goL_apart (putL s what 0 (spansL s (litT w) 0)) (litT w) (2 * ((putL s what 0 (spansL s (litT w) 0)).length + 1 - 0) + 2) 0 (-1)
    have e : goL (farG (putL s what 0 (spansL s (litT w) 0)) (litT w)) (putL s what 0 (spansL s (litT w) 0)).length (2 * ((putL s what 0 (spansL s (litT w) 0)).length + 1 - 0) + 2) 0 (-1) = p :: r := hL
    rw [e] at hA
    obtain ⟨x, y⟩ := p
    have h3 := hA.2.2.1
    rw [far_no hw (h x)] at h3
    omega
end Go.Proofs.Ytgffmbdbjbhocaa
