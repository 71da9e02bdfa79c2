/- Packed texts: SuAll, SuRead, SuRefRead, SuPlain, SuText, ReClass, HexHexRef. What each of them proves stands above its theorems; the conditions stand in these. -/
import Derived.Deep.RegionWith
import Derived.Test.YtgffmbdbjbhocaaShelf
import Derived.WalkMore
import Derived.Test.YtgffmbdbjbhocaaQ0
import Derived.Test.YtgffmbdbjbhocaaQ1
import Derived.Test.YtgffmbdbjbhocaaQ8
namespace Go.Proofs.Ytgffmbdbjbhocaa
open Go.RowKit Go.Lib
attribute [local go_sem] Oper.semAt_some

theorem Try.infoStrU : (Try.prog.info? 9).map (fun i => (i.zero, i.size, i.bytes)) = some (some (.string ByteArray.empty), 1, 16) := by kernel_rfl
def strC (xs : List ByteArray) : List Value := xs.map Value.string
theorem strC_append (a b : List ByteArray) : strC (a ++ b) = strC a ++ strC b := List.map_append
/-- A row of texts of one's own can be read. -/
theorem strs_of_owns {w : World} {B n : Nat} {v : Value} {xs : List ByteArray} (h : w.ownsRow B 9 1 v n (strC xs)) (hn : n = xs.length) (hl : n ≤ 140737488355328) : Strs v xs w := by
  subst hn
  rcases h.2 with ⟨hv, h0⟩ | ⟨g, cap, cur, hv, _, hg, hc, _, hz, htk⟩
  · have e : xs = [] := List.eq_nil_of_length_eq_zero h0
    subst e
    subst hv
    exact Strs.nil w
  · refine ⟨some ⟨g, 0, none⟩, cap, hv, hc, hl, fun j x hj => ⟨g, 0, rfl, block_lt hg, ?_⟩⟩
    have hjl : j < xs.length := by
      by_cases h : j < xs.length
      · exact h
      · rw [List.getElem?_eq_none (by omega)] at hj; cases hj
    have e : (strC xs)[j]? = some (.string x) := by unfold strC; rw [List.getElem?_map, hj]; rfl
    rw [← htk, List.getElem?_take_of_lt (by omega)] at e
    rw [cell_of_heap hg, Nat.zero_add]
    simpa using e
/-- What a text is made of, from a place on: what stays, and what is put in. -/
def piecesB (s : ByteArray) (xs : List ByteArray) : Nat → List (Nat × Nat) → List ByteArray
  | d, [] => [s.extract d s.size]
  | d, (a, b) :: r => s.extract d a :: joinB xs (s.extract a b) :: piecesB s xs b r
def allB (s : ByteArray) (xs : List ByteArray) (L : List (Nat × Nat)) : ByteArray := joinB (piecesB s xs 0 L) ⟨#[]⟩
theorem cells_twoS (w : World) (h : Nat) (hw : w.heap.size = h) (t : TypeId) (p q : Value) : ∀ j x, [p, q][j]? = some x → (w.alloc (.cells #[p, q] t)).cell? ((⟨h, 0, none⟩ : Addr).add j) = some x := cells_twoM w h hw t p q
/-- What holds between two rounds. -/
structure AllS (s : ByteArray) (T : Tr) (xs : List ByteArray) (L : List (Nat × Nat)) (B : Nat) (w : World) (v : Value) (d i : Nat) (W : World) : Prop where
  list : ∃ zs e, piecesB s xs 0 L = zs ++ piecesB s xs d (L.drop i) ∧ zs.length = 2 * i ∧ W.ownsRow B 9 1 v (2 * i) (strC zs) ∧ Apart s.data.toList T d e (L.drop i)
  low : Below B w W
  dn : d ≤ s.size
set_option maxHeartbeats 8000000 in
set_option maxRecDepth 100000 in
theorem suAll_walk (vt : Value) (al : Option Addr) (M cl K _Bd : Nat) (ts : List Nd) (T : Tr) (xs : List ByteArray) (L : List (Nat × Nat)) (s : ByteArray) (w : World) (hvt : ∃ ao N cap, vt = .slice ao N cap) (_hs : s.size ≤ 1000000) (hK : K = L.length) (hK2 : K ≤ 2000010) (hA : Apart s.data.toList T 0 (-1) L)
    (hL : Lies vt ts w) (hx : Strs (.slice al M cl) xs w) (hBd : ∀ a b, (joinB xs (s.extract a b)).size ≤ 140737488355328) (hAll : (allB s xs L).size ≤ 140737488355328)
    (k1 : ∀ w, Lies vt ts w → Calls Try.prog 29 #[vt, .string s] w fun e w' => ∃ v', e = .returned v' ∧ w'.ownsRow w.heap.size 41 2 v' K (pairC L) ∧ Below w.heap.size w w') :
    Calls Try.prog 49 #[vt, .string s, .slice al M cl] w fun e w' => e = .returned (.tuple #[.string (allB s xs L), .int .i64 (K : Int)]) ∧ Below w.heap.size w w' := by
  obtain ⟨ao, N, cap, rfl⟩ := hvt
  have hlen : s.data.toList.length = s.size := Array.length_toList
  have kP := fun a b w h => putS_any (.slice al M cl) xs (s.extract a b) w h (hBd a b)
  have kL := fun v w h => layS_any v (piecesB s xs 0 L) ⟨#[]⟩ w h hAll
  have kL : ∀ v w, Strs v (piecesB s xs 0 L) w → Calls Try.prog 83 #[.string ⟨#[]⟩, v] w fun e w' => e = .returned (.string (allB s xs L)) ∧ Below w.heap.size w w' := kL
  obtain ⟨i0, hi, hz0, hz1, hz2⟩ := info_parts Try.infoStrU
  obtain ⟨R, hR⟩ : ∃ R, R = allB s xs L := ⟨_, rfl⟩
  rw [← hR] at kL ⊢
  have H := Lib.hid (And.intro hlen (And.intro hL (And.intro hx (And.intro hA hK))))
  have HI0 := Lib.hid (And.intro hi (And.intro hz0 (And.intro hz1 hz2)))
  clear hlen hL hx hA hK hi hz0 hz1 hz2 hBd hAll hR
  go_enter Try.func49, Try.ntmps49
  go_wp2_with (first
    | (go_at_call 29; refine (k1 _ H.out.2.1).mono ?_; rintro e w1 ⟨v1, rfl, ho1, hb1⟩; obtain ⟨a1, c1, rfl⟩ := own_zeroB ho1; have H1 := Lib.hid (And.intro ho1 hb1); clear hb1 k1 ho1)
    | fail)
  go_loopg [9, 10, 20] (K + 1) (fun g v9 v10 v20 wr => ∃ (d i : Nat), v10 = .int .i64 d ∧ v20 = .int .i64 i ∧ i ≤ K ∧ Hid (g = K + 1 - i) ∧ Hid (AllS s T xs L w1.heap.size w1 v9 d i wr))
  case atStart => exact ⟨0, 0, rfl, rfl, by omega, rfl, ⟨[], -1, rfl, rfl, World.ownsRow_nil _ _ _ _, H.out.2.2.2.1⟩, Below.refl _ _, Nat.zero_le _⟩
  case round =>
    obtain ⟨d, i, rfl, rfl, hi, HK, HS⟩ := hrel
    by_cases hlt : i < K
    · obtain ⟨⟨x, y⟩, hx⟩ : ∃ x, L[i]? = some x := ⟨L[i]'(by have := H.out.2.2.2.2; omega), List.getElem?_eq_getElem _⟩
      have hd : L.drop i = (x, y) :: L.drop (i + 1) := by
        have hil : i < L.length := by have := H.out.2.2.2.2; omega
        rw [List.getElem?_eq_getElem hil] at hx
        rw [List.drop_eq_getElem_cons hil, Option.some.inj hx]
      obtain ⟨zs, e, hp, hzl, hown, hap⟩ := HS.out.list
      obtain ⟨h1, h2, h3, h4, h5, h6, h7⟩ := apart_at _ _ _ hap _ _ hd
      dsimp only at h1 h2 h3 h4 h5 h6 h7
      rw [H.out.1] at h2 h5
      have hlow := HS.out.low
      obtain ⟨g1, c1, e1⟩ := owned_slice H1.out.1 (by omega)
      cases e1
      have kk := owns_same H1.out.1 fun q hq => hlow.block q (own_block_lt H1.out.1 hq)
      obtain ⟨a0, a1⟩ := span_cells kk hx
      dsimp only at a0 a1
      have hB1 : Below w.heap.size w wr := H1.out.2.trans (hlow.mono H1.out.2.size)
      have hltI : (i : Int) < (K : Int) := by omega
      have hI : IntKind.i64.wrap ((i : Int) + 1) = ((i + 1 : Nat) : Int) := by rw [IntWalk.i64_in _ (by omega)]; omega
      have d0 : (0 : Int) ≤ (d : Int) := by omega
      have d1 : (d : Int) ≤ (x : Int) := by omega
      have d2 : (x : Int) ≤ (s.size : Int) := by omega
      have x0 : (0 : Int) ≤ (x : Int) := by omega
      have x1 : (x : Int) ≤ (y : Int) := by omega
      have x2 : (y : Int) ≤ (s.size : Int) := by omega
      have hi2 : 2 * i ≤ 5000000 := by omega
      have hpn : piecesB s xs 0 L = (zs ++ [s.extract d x, joinB xs (s.extract x y)]) ++ piecesB s xs y (L.drop (i + 1)) := by
        rw [hp, hd, List.append_assoc]
        rfl
      obtain ⟨m, hm⟩ : ∃ m, m = 2 * i := ⟨_, rfl⟩
      rw [← hm] at hown hzl hi2
      have HP := Lib.hid (And.intro hpn (And.intro h7 (And.intro hzl (And.intro hB1 (And.intro hlow hm)))))
      have HO := Lib.hid hown
      obtain ⟨b9, c9, hv9⟩ := own_zeroB hown
      subst hv9
      clear hpn h7 hzl hB1 hlow hd hx hp hown hap kk h1 h2 h3 h4 h5 h6 hm
      go_upto_region 8 with (first | go_region | fail)
      obtain ⟨W, hW⟩ : ∃ W, W = (wr.alloc (.cells #[.int .i64 (x : Int), .int .i64 (y : Int)] 41)).drew := ⟨_, rfl⟩
      rw [← hW]
      have hWb : Below wr.heap.size wr W := by rw [hW]; exact ((Below.refl _ wr).alloc (Nat.le_refl _) _).drew
      have hWz : W.heap.size = wr.heap.size + 1 := by rw [hW]; simp
      obtain ⟨P, hP⟩ : ∃ P, P = joinB xs (s.extract x y) := ⟨_, rfl⟩
      have kP1 := kP x y
      rw [← hP] at kP1
      obtain ⟨E, hE⟩ : ∃ E, E = s.extract d x := ⟨_, rfl⟩
      have hxW : Strs (.slice al M cl) xs W := H.out.2.2.1.below (HP.out.2.2.2.1.trans (hWb.mono HP.out.2.2.2.1.size))
      have hownW := owns_same HO.out fun q hq => hWb.block q (own_block_lt HO.out hq)
      have hBW : w1.heap.size ≤ W.heap.size := by have := HP.out.2.2.2.2.1.size; omega
      have HW := Lib.hid (And.intro hxW (And.intro hownW (And.intro hWb (And.intro hP hE))))
      clear hW hWb hWz hP hxW hownW a0 a1
      go_region_law
        (first
          | (go_simp; go_at_call 44; refine (kP1 _ (by first | exact HW.out.1 | exact HW.out.1.below ((Below.refl _ W).drew))).mono ?_; rintro e w5 ⟨rfl, hb5⟩
             have hb5' : Below W.heap.size W w5 := by first | exact hb5 | exact (Below.refl _ W).drew.trans hb5
             have own5 := owns_same HW.out.2.1 fun q hq => hb5'.block q (own_block_lt HW.out.2.1 hq)
             have hz5 := hb5'.size
             have H5 := Lib.hid (And.intro hb5' own5)
             clear hb5 hb5' own5)
          | (refine step_append_own rfl (.tmp 28) (.tmp 39) 59 rfl w1.heap.size 9 i0 (.string ByteArray.empty) 1 16 Try.underlying59 HI0.out.1 HI0.out.2.1 HI0.out.2.2.1 HI0.out.2.2.2 rfl (by decide) _ m (strC zs) (by simp [Act.eval]) (owns_alloc H5.out.2) ⟨w5.heap.size, 0, none⟩ 2 2 [.string (s.extract d x), .string P] (by simp [Act.eval]) rfl (cells_twoS _ _ rfl _ _ _) (by simp [Value.oneCell']) (by unfold maxLen; omega) (by omega) (by simp; omega) ?_; intro v2 w6 hown6 hgrow6
             obtain ⟨g6, cap6, rfl⟩ := owned_slice hown6 (by omega)
             have hb6 : Below w1.heap.size w1 w6 := (((HP.out.2.2.2.2.1.trans (HW.out.2.2.1.mono HP.out.2.2.2.2.1.size)).trans (H5.out.1.mono hBW)).alloc (by omega) _).grown hgrow6 (by simp; omega) (fun r hr => own_base HO.out hr)
             have H6 := Lib.hid (And.intro hown6 hb6)
             clear hown6 hgrow6 hb6))
      all_goals
        go_wp2
        go_roundg (K - i)
        case rel =>
          refine ⟨y, i + 1, rfl, by go_num, by omega, by show _ = _; omega, ⟨zs ++ [s.extract d x, joinB xs (s.extract x y)], y, HP.out.1, ?_, ?_, HP.out.2.1⟩, H6.out.2, by omega⟩
          · have := HP.out.2.2.1
            have := HP.out.2.2.2.2.2
            rw [List.length_append]
            simp
            omega
          · rw [strC_append, show 2 * (i + 1) = m + 2 by have := HP.out.2.2.2.2.2; omega, ← HW.out.2.2.2.1]
            exact H6.out.1
        case measure => have := HK.out; omega
    · have hd0 : decide ((i : Int) < (K : Int)) = false := by simp; omega
      obtain ⟨zs, e, hp, hzl, hown, hap⟩ := HS.out.list
      have hlow := HS.out.low
      have hdn := HS.out.dn
      have hiK : L.drop i = [] := List.drop_eq_nil_of_le (by have := H.out.2.2.2.2; omega)
      rw [hiK] at hp
      have hpe : piecesB s xs 0 L = zs ++ [s.extract d s.size] := hp
      have d0 : (0 : Int) ≤ (d : Int) := by omega
      have d2 : (d : Int) ≤ (s.size : Int) := by omega
      have hB1 : Below w.heap.size w wr := H1.out.2.trans (hlow.mono H1.out.2.size)
      obtain ⟨m, hm⟩ : ∃ m, m = 2 * i := ⟨_, rfl⟩
      rw [← hm] at hown hzl
      obtain ⟨b9, c9, hv9⟩ := own_zeroB hown
      subst hv9
      have hmb : m ≤ 5000000 := by omega
      have HP := Lib.hid (And.intro hpe (And.intro hlow (And.intro hB1 (And.intro hown (And.intro hzl hm)))))
      have hsz := hlow.size
      clear hpe hp hiK hlow hB1 hown hap hzl hm
      go_wp2_with (first
        | (at_builtin; refine wpList_append_own _ rfl (.tmp 43) (.tmp 47) 59 rfl w1.heap.size 9 i0 (.string ByteArray.empty) 1 16 Try.underlying59 HI0.out.1 HI0.out.2.1 HI0.out.2.2.1 HI0.out.2.2.2 rfl (by decide) _ m (strC zs) rfl (owns_alloc HP.out.2.2.2.1) ⟨wr.heap.size, 0, none⟩ 1 1 [.string (s.extract d s.size)] rfl rfl (cell_one' _ _ _) (by simp [Value.oneCell']) (by unfold maxLen; omega) (by omega) (by simp; omega) ?_; intro v4 w4 hown4 hgrow4 _
           obtain ⟨g4, cap4, rfl⟩ := owned_slice hown4 (by omega)
           have hst : Strs (.slice (some ⟨g4, 0, none⟩) (m + 1) cap4) (piecesB s xs 0 L) w4 := strs_of_owns (by rw [HP.out.1, strC_append]; exact hown4) (by rw [HP.out.1, List.length_append, HP.out.2.2.2.2.1]; rfl) (by omega)
           have hb4 : Below w1.heap.size w1 w4 := (HP.out.2.1.alloc (by omega) _).grown hgrow4 (by simp; omega) (fun r hr => own_base HP.out.2.2.2.1 hr)
           have H4 := Lib.hid (And.intro hst hb4)
           clear hown4 hgrow4 hst hb4)
        | (go_at_call 83; refine (kL _ _ H4.out.1).mono ?_; rintro e w5 ⟨rfl, hb5⟩; have H5 := Lib.hid hb5; clear hb5 kL)
        | fail)
      have hB4 := H1.out.2.trans (H4.out.2.mono H1.out.2.size)
      exact bodyPost_ret (results_tmp2 rfl _ _ _) rfl ⟨rfl, hB4.trans (H5.out.mono hB4.size)⟩
end Go.Proofs.Ytgffmbdbjbhocaa
namespace Go.Proofs.Ytgffmbdbjbhocaa
open Go.RowKit Go.Lib
attribute [local go_sem] Oper.semAt_some

def mkB (l : List UInt8) : ByteArray := ⟨l.toArray⟩
theorem readR_place {f : Nat} {l : List UInt8} {acc : List (List UInt8)} {now : List UInt8} {n : Nat} (hl : l ≠ []) (h : stepR l = some (none, n)) : readR (f + 1) l acc now = readR f (l.drop n) (acc ++ [now]) [] := by
  show (if l = [] then _ else match stepR l with | none => none | some (none, n) => readR f (l.drop n) (acc ++ [now]) [] | some (some c, n) => readR f (l.drop n) acc (now ++ [c])) = _
  rw [if_neg hl, h]
theorem readR_byte {f : Nat} {l : List UInt8} {acc : List (List UInt8)} {now : List UInt8} {c : UInt8} {n : Nat} (hl : l ≠ []) (h : stepR l = some (some c, n)) : readR (f + 1) l acc now = readR f (l.drop n) acc (now ++ [c]) := by
  show (if l = [] then _ else match stepR l with | none => none | some (none, n) => readR f (l.drop n) (acc ++ [now]) [] | some (some c, n) => readR f (l.drop n) acc (now ++ [c])) = _
  rw [if_neg hl, h]
theorem readR_bad {f : Nat} {l : List UInt8} {acc : List (List UInt8)} {now : List UInt8} (hl : l ≠ []) (h : stepR l = none) : readR (f + 1) l acc now = none := by
  show (if l = [] then _ else match stepR l with | none => none | some (none, n) => readR f (l.drop n) (acc ++ [now]) [] | some (some c, n) => readR f (l.drop n) acc (now ++ [c])) = _
  rw [if_neg hl, h]
theorem readR_end {f : Nat} {acc : List (List UInt8)} {now : List UInt8} : readR (f + 1) [] acc now = some (acc ++ [now]) := rfl
/-- What holds between two rounds. -/
structure RdS (s : List UInt8) (B : Nat) (w : World) (v4 v5 : Value) (k : Nat) (W : World) : Prop where
  list : ∃ acc now f, readD' s = readR f (s.drop k) acc now ∧ s.length - k < f ∧ acc.length ≤ k ∧ now.length ≤ k ∧ W.ownsRow B 9 1 v4 acc.length (strC (acc.map mkB)) ∧ W.ownsRow B 5 1 v5 now.length (byteCells now)
  low : Below B w W
theorem rows_apart {w : World} {B n1 n2 s1 s2 : Nat} {e1 e2 : TypeId} {v1 v2 : Value} {xs ys : List Value} (h1 : w.ownsRow B e1 s1 v1 n1 xs) (h2 : w.ownsRow B e2 s2 v2 n2 ys) (hne : e2 ≠ e1) {q : Nat} (hq : v2.ownBlock = some q) : v1.ownBlock ≠ some q := by
  rcases h2.2 with ⟨hv, _⟩ | ⟨g, cap, cur, hv, _, hg, _⟩
  · rw [hv] at hq; cases hq
  · rw [hv] at hq
    cases hq
    exact owns_kind h1 hg hne
/-- What Read answers. -/
def ReadA (B : Nat) (o : Option (List (List UInt8))) (e : Ending) (w' : World) : Prop := match o with
  | none => e = .returned (.tuple #[.slice none 0 0, .int .i64 2])
  | some xs => ∃ v, e = .returned (.tuple #[v, .int .i64 0]) ∧ w'.ownsRow B 9 1 v xs.length (strC (xs.map mkB))
theorem Try.infoU8R : (Try.prog.info? 5).map (fun i => (i.zero, i.size, i.bytes)) = some (some (.int .u8 0), 1, 1) := by kernel_rfl
set_option maxHeartbeats 8000000 in
set_option maxRecDepth 100000 in
theorem suRead_walk (s : ByteArray) (w : World) (hs : s.size ≤ 1000000000) :
    Calls Try.prog 39 #[.string s] w fun e w' => ReadA w.heap.size (readD' s.data.toList) e w' ∧ Below w.heap.size w w' := by
  have hlen : s.data.toList.length = s.size := Array.length_toList
  obtain ⟨i0, hi, hz0, hz1, hz2⟩ := info_parts Try.infoStrU
  obtain ⟨j0, gi, gz0, gz1, gz2⟩ := info_parts Try.infoU8R
  have HI0 := Lib.hid (And.intro hi (And.intro hz0 (And.intro hz1 hz2)))
  have HJ0 := Lib.hid (And.intro gi (And.intro gz0 (And.intro gz1 gz2)))
  have HL := Lib.hid hlen
  clear hlen hi hz0 hz1 hz2 gi gz0 gz1 gz2
  go_enter Try.func39, Try.ntmps39
  go_wp2_with fail
  go_step3
  go_wp2_with fail
  go_step3
  go_wp2_with fail
  go_loopg [4, 5, 6] (s.size + 1) (fun g v4 v5 v6 wr => ∃ k : Nat, v6 = .int .i64 k ∧ k ≤ s.size ∧ Hid (g = s.size + 1 - k) ∧ Hid (RdS s.data.toList w.heap.size w v4 v5 k wr))
  case atStart =>
    refine ⟨0, rfl, by omega, rfl, ⟨[], [], _, rfl, by rw [HL.out]; omega, Nat.le_refl _, Nat.le_refl _, World.ownsRow_nil _ _ _ _, World.ownsRow_nil _ _ _ _⟩, Below.refl _ _⟩
  case round =>
    obtain ⟨k, rfl, hk, HK, HS⟩ := hrel
    obtain ⟨acc, now, f, hrd, hf, hac, hno, hown4, hown5⟩ := HS.out.list
    have hlow := HS.out.low
    obtain ⟨a4, c4, rfl⟩ := own_zeroB hown4
    obtain ⟨a5, c5, rfl⟩ := own_zeroB hown5
    obtain ⟨m4, hm4⟩ : ∃ m4, m4 = acc.length := ⟨_, rfl⟩
    obtain ⟨m5, hm5⟩ : ∃ m5, m5 = now.length := ⟨_, rfl⟩
    rw [← hm4] at hown4 hac ⊢
    rw [← hm5] at hown5 hno ⊢
    have hsz := hlow.size
    by_cases hlt : k < s.size
    · have hltI : (k : Int) < (s.size : Int) := by omega
      obtain ⟨c, hc⟩ : ∃ c, s[k] = c := ⟨_, rfl⟩
      have hd : s.data.toList.drop k = c :: s.data.toList.drop (k + 1) := by
        rw [List.drop_eq_getElem_cons (by rw [HL.out]; exact hlt)]
        congr 1
      have hne : s.data.toList.drop k ≠ [] := by rw [hd]; simp
      obtain ⟨f', rfl⟩ : ∃ f', f = f' + 1 := ⟨f - 1, by omega⟩
      have hln : (s.data.toList.drop k).length = s.size - k := by rw [List.length_drop, HL.out]
      -- behind a byte
      have hbyte : ∀ (c' : UInt8) (n : Nat), stepR (s.data.toList.drop k) = some (some c', n) → 1 ≤ n ∧ k + n ≤ s.size ∧ ∀ (v : Value) (W : World), W.ownsRow w.heap.size 5 1 v (m5 + 1) (byteCells now ++ [.int .u8 (c'.toNat : Int)]) → W.ownsRow w.heap.size 9 1 (.slice a4 m4 c4) m4 (strC (acc.map mkB)) → Below w.heap.size w W → RdS s.data.toList w.heap.size w (.slice a4 m4 c4) v (k + n) W := fun c' n hst => by
        obtain ⟨h1, h2⟩ := stepR_fit hst
        rw [hln] at h2
        refine ⟨h1, by omega, fun v W ho5 ho4 hb => ⟨⟨acc, now ++ [c'], f', ?_, by have := HL.out; omega, by omega, by rw [List.length_append]; simp; omega, by rw [← hm4]; exact ho4, ?_⟩, hb⟩⟩
        · rw [hrd, readR_byte hne hst, List.drop_drop]
        · rw [List.length_append, ← hm5, bc_append]
          exact ho5
      have hplace : ∀ n, stepR (s.data.toList.drop k) = some (none, n) → 1 ≤ n ∧ k + n ≤ s.size ∧ ∀ (v u : Value) (W : World), W.ownsRow w.heap.size 9 1 v (m4 + 1) (strC (acc.map mkB) ++ [.string ⟨now.toArray⟩]) → W.ownsRow w.heap.size 5 1 u 0 [] → Below w.heap.size w W → RdS s.data.toList w.heap.size w v u (k + n) W := fun n hst => by
        obtain ⟨h1, h2⟩ := stepR_fit hst
        rw [hln] at h2
        refine ⟨h1, by omega, fun v u W ho4 ho5 hb => ⟨⟨acc ++ [now], [], f', ?_, by have := HL.out; omega, by rw [List.length_append]; simp; omega, Nat.zero_le _, ?_, ho5⟩, hb⟩⟩
        · rw [hrd, readR_place hne hst, List.drop_drop]
        · rw [List.length_append, List.map_append, strC_append, ← hm4]
          exact ho4
      have hbad : stepR (s.data.toList.drop k) = none → readD' s.data.toList = none := fun hst => by rw [hrd, readR_bad hne hst]
      have HF := Lib.hid (And.intro hbyte (And.intro hplace hbad))
      have HO := Lib.hid (And.intro hown4 (And.intro hown5 hlow))
      have m4b : m4 ≤ 1000000000 := by omega
      have m5b : m5 ≤ 1000000000 := by omega
      have k0 : (0 : Int) ≤ (k : Int) := by omega
      have hke : (k : Int) ≤ (s.size : Int) := by omega
      have hcl := c.toNat_lt
      have cx : ∀ (d : UInt8), ((c.toNat : Int) == (d.toNat : Int)) = decide (c = d) := fun d => by
        rw [Bool.eq_iff_iff]
        simp only [beq_iff_eq, decide_eq_true_eq]
        constructor
        · intro h; exact UInt8.toNat_inj.1 (by omega)
        · intro h; rw [h]
      have c38 : ((c.toNat : Int) == 38) = decide (c = 38) := cx 38
      have c47 : ((c.toNat : Int) == 47) = decide (c = 47) := cx 47
      have c10 : ((c.toNat : Int) == 10) = decide (c = 10) := cx 10
      have c92 : ((c.toNat : Int) == 92) = decide (c = 92) := cx 92
      have hstep : stepR (s.data.toList.drop k) = (if c = 38 then some (none, 1) else if c = 47 ∨ c = 10 then none else if c ≠ 92 then some (some c, 1)
        else if (s.data.toList.drop (k + 1)).head? = some 38 then some (some 38, 2) else (signU (c :: s.data.toList.drop (k + 1))).map fun p => (some p.1, p.2)) := by rw [hd]; rfl
      have HST := Lib.hid (And.intro hstep hd)
      clear hbyte hplace hbad hown4 hown5 hlow hrd hf hac hno hm4 hm5 hd hne hln hcl cx hstep
      by_cases e38 : c = 38
      · rw [decide_eq_true e38] at c38
        have hI : IntKind.i64.wrap ((k : Int) + 1) = ((k + 1 : Nat) : Int) := by rw [IntWalk.i64_in _ (by omega)]; omega
        have hcv := conv_owned (P := Try.prog) (w := wr.drew) (src := 88) (dst := 9) Try.underlying88 Try.underlying5 Try.underlying9 (show wr.drew.ownsRow w.heap.size 5 1 (.slice a5 m5 c5) m5 (byteCells now) from HO.out.2.1)
        have hcv2 := conv_owned (P := Try.prog) (w := wr) (src := 88) (dst := 9) Try.underlying88 Try.underlying5 Try.underlying9 HO.out.2.1
        obtain ⟨hn1, hn2, hF⟩ := HF.out.2.1 1 (by rw [HST.out.1, if_pos e38])
        have HFF := Lib.hid hF
        have m5c : (0 : Int) ≤ (c5 : Int) := by omega
        have ha5 : (a5 = none ∧ m5 = 0 ∧ c5 = 0) ∨ ∃ g5, a5 = some ⟨g5, 0, none⟩ := by
          rcases HO.out.2.1.2 with ⟨hv, h0⟩ | ⟨g, cap, cur, hv, _⟩
          · cases hv; exact .inl ⟨rfl, h0, rfl⟩
          · cases hv; exact .inr ⟨g, rfl⟩
        have hu : ∀ W : World, wr.drew.grownBy W (Value.slice a4 m4 c4).ownBlock → True := fun _ _ => trivial
        clear c47 c10 c92 e38 hF hn1 hn2 hu
        rcases ha5 with ⟨rfl, rfl, rfl⟩ | ⟨g5, rfl⟩
        · go_wp2_with fail
          go_region_law
            (first
              | (refine step_append_own rfl (.tmp 24) (.tmp 27) 59 rfl w.heap.size 9 i0 (.string ByteArray.empty) 1 16 Try.underlying59 HI0.out.1 HI0.out.2.1 HI0.out.2.2.1 HI0.out.2.2.2 rfl (by decide) _ m4 (strC (acc.map mkB)) (by simp [Act.eval]) (owns_alloc (show wr.drew.ownsRow w.heap.size 9 1 (.slice a4 m4 c4) m4 (strC (acc.map mkB)) from HO.out.1)) ⟨wr.heap.size, 0, none⟩ 1 1 [.string ⟨now.toArray⟩] (by simp [Act.eval]) rfl (cell_one' _ _ _) (by simp [Value.oneCell']) (by unfold maxLen; omega) (by omega) (by simp; omega) ?_; intro v6 w6 hown6 hgrow6
                 obtain ⟨g6, cap6, rfl⟩ := owned_slice hown6 (by omega)
                 have hb6 : Below w.heap.size w w6 := ((HO.out.2.2.drew).alloc (by simp; omega) _).grown hgrow6 (by simp; omega) (fun r hr => own_base HO.out.1 hr)
                 have ht6 := owns_same HO.out.2.1 fun q hq => (hgrow6.block q (by have := own_block_lt HO.out.2.1 hq; simp; omega) (fun e => rows_apart HO.out.1 HO.out.2.1 (by decide) hq e.symm)).trans (Below.heap_alloc _ _ _ (own_block_lt HO.out.2.1 hq))
                 have H6 := Lib.hid (And.intro hown6 (And.intro hb6 ht6))
                 clear hown6 hb6 hgrow6 ht6))
          all_goals
            go_wp2
            go_roundg (s.size - k)
            case rel =>
              refine ⟨k + 1, by go_num, by omega, by show _ = _; omega, HFF.out _ _ _ H6.out.1 (World.ownsRow_nil _ _ _ _) H6.out.2.1⟩
            case measure => have := HK.out; omega
        · go_wp2_with fail
          go_region_law
            (first
              | (refine step_append_own rfl (.tmp 24) (.tmp 27) 59 rfl w.heap.size 9 i0 (.string ByteArray.empty) 1 16 Try.underlying59 HI0.out.1 HI0.out.2.1 HI0.out.2.2.1 HI0.out.2.2.2 rfl (by decide) _ m4 (strC (acc.map mkB)) (by simp [Act.eval]) (owns_alloc (show wr.drew.ownsRow w.heap.size 9 1 (.slice a4 m4 c4) m4 (strC (acc.map mkB)) from HO.out.1)) ⟨wr.heap.size, 0, none⟩ 1 1 [.string ⟨now.toArray⟩] (by simp [Act.eval]) rfl (cell_one' _ _ _) (by simp [Value.oneCell']) (by unfold maxLen; omega) (by omega) (by simp; omega) ?_; intro v6 w6 hown6 hgrow6
                 obtain ⟨g6, cap6, rfl⟩ := owned_slice hown6 (by omega)
                 have hb6 : Below w.heap.size w w6 := ((HO.out.2.2.drew).alloc (by simp; omega) _).grown hgrow6 (by simp; omega) (fun r hr => own_base HO.out.1 hr)
                 have ht6 := owns_same HO.out.2.1 fun q hq => (hgrow6.block q (by have := own_block_lt HO.out.2.1 hq; simp; omega) (fun e => rows_apart HO.out.1 HO.out.2.1 (by decide) hq e.symm)).trans (Below.heap_alloc _ _ _ (own_block_lt HO.out.2.1 hq))
                 have H6 := Lib.hid (And.intro hown6 (And.intro hb6 ht6))
                 clear hown6 hb6 hgrow6 ht6))
          all_goals
            go_wp2
            go_roundg (s.size - k)
            case rel =>
              refine ⟨k + 1, by go_num, by omega, by show _ = _; omega, HFF.out _ _ _ H6.out.1 (owns_take H6.out.2.2 (Nat.zero_le _)) H6.out.2.1⟩
            case measure => have := HK.out; omega
      · rw [decide_eq_false e38] at c38
        by_cases e47 : c = 47 ∨ c = 10
        · have hb := HF.out.2.2 (by rw [HST.out.1, if_neg e38, if_pos e47])
          have HB := Lib.hid hb
          have hcase : ((c.toNat : Int) == 92) = false ∧ (((c.toNat : Int) == 47) = true ∨ (((c.toNat : Int) == 47) = false ∧ ((c.toNat : Int) == 10) = true)) := by
            rcases e47 with rfl | rfl
            · exact ⟨by decide, .inl (by decide)⟩
            · exact ⟨by decide, .inr ⟨by decide, by decide⟩⟩
          clear c47 c10 c92 e47 e38 hb
          obtain ⟨c92, hcase⟩ := hcase
          rcases hcase with c47 | ⟨c47, c10⟩
          all_goals
            go_wp2
            try rw [Exit.noGoto_ret]
            refine bodyPost_ret (results_tmp2 rfl _ _ _) rfl ⟨?_, HO.out.2.2⟩
            rw [HB.out]
            rfl
        · rw [decide_eq_false (fun h => e47 (.inl h))] at c47
          rw [decide_eq_false (fun h => e47 (.inr h))] at c10
          by_cases e92 : c = 92
          · rw [decide_eq_true e92] at c92
            have kE := escaped_any (s.extract k s.size) wr
            have hex : (s.extract k s.size).data.toList = s.data.toList.drop k := by
              rw [Lib.extract_data, List.take_of_length_le (by rw [List.length_drop, HL.out]; exact Nat.le_refl _)]
            have hes : escV (s.data.toList.drop k) = (if (s.data.toList.drop (k + 1)).head? = some 38 then .returned (.tuple #[.int .u8 38, .int .i64 2]) else match signU (s.data.toList.drop k) with
                | some (c, n) => .returned (.tuple #[.int .u8 (c.toNat : Int), .int .i64 (n : Int)])
                | none => .returned (.tuple #[.int .u8 0, .int .i64 0])) := by
              unfold escV
              rw [HST.out.2]
              show (if (s.data.toList.drop (k + 1)).head? = some 38 ∧ some c = some 92 then _ else _) = _
              by_cases h : (s.data.toList.drop (k + 1)).head? = some 38
              · rw [if_pos ⟨h, by rw [e92]⟩, if_pos h]
              · rw [if_neg (fun g : _ ∧ _ => h g.1), if_neg h]
                all_goals (cases signU (c :: s.data.toList.drop (k + 1)) <;> rfl)
            rw [hex, hes] at kE
            have hst2 : stepR (s.data.toList.drop k) = if (s.data.toList.drop (k + 1)).head? = some 38 then some (some 38, 2) else (signU (s.data.toList.drop k)).map fun p => (some p.1, p.2) := by
              rw [HST.out.1, if_neg e38, if_neg e47, if_neg (by simp [e92]), HST.out.2]
            have key : (stepR (s.data.toList.drop k) = none ∧ Calls Try.prog 80 #[.string (s.extract k s.size)] wr fun e w' => e = .returned (.tuple #[.int .u8 0, .int .i64 0]) ∧ Below wr.heap.size wr w') ∨
                ∃ (c' : UInt8) (n : Nat), stepR (s.data.toList.drop k) = some (some c', n) ∧ Calls Try.prog 80 #[.string (s.extract k s.size)] wr fun e w' => e = .returned (.tuple #[.int .u8 (c'.toNat : Int), .int .i64 (n : Int)]) ∧ Below wr.heap.size wr w' := by
              by_cases h38 : (s.data.toList.drop (k + 1)).head? = some 38
              · rw [if_pos h38] at kE hst2
                exact .inr ⟨38, 2, hst2, kE⟩
              · rw [if_neg h38] at kE hst2
                cases hsu : signU (s.data.toList.drop k) with
                | none =>
                  rw [hsu] at kE hst2
                  exact .inl ⟨hst2, kE⟩
                | some p =>
                  rw [hsu] at kE hst2
                  exact .inr ⟨p.1, p.2, hst2, kE⟩
            clear kE hex hes hst2 c47 c10 e38 e47 e92
            rcases key with ⟨hst, kE⟩ | ⟨c', n, hst, kE⟩
            · have HB := Lib.hid (HF.out.2.2 hst)
              clear hst
              go_wp2_with (first
                | (go_at_call 80; refine kE.mono ?_; rintro e w5 ⟨rfl, hb5⟩; have H5 := Lib.hid hb5; clear hb5 kE)
                | fail)
              try rw [Exit.noGoto_ret]
              refine bodyPost_ret (results_tmp2 rfl _ _ _) rfl ⟨?_, HO.out.2.2.trans (H5.out.mono HO.out.2.2.size)⟩
              rw [HB.out]
              rfl
            · obtain ⟨hn1, hn2, hF⟩ := HF.out.1 c' n hst
              have HFF := Lib.hid hF
              have hN : IntKind.i64.wrap ((k : Int) + (n : Int)) = ((k + n : Nat) : Int) := by rw [IntWalk.i64_in _ (by omega)]; omega
              have hn0 : decide (0 < n) = true := by simp; omega
              have hn3 : (n : Int) ≤ 1000000000 := by omega
              have hn4 : (0 : Int) < (n : Int) := by omega
              clear hst hF
              go_wp2_with (first
                | (go_at_call 80; refine kE.mono ?_; rintro e w5 ⟨rfl, hb5⟩
                   have h4 := owns_same HO.out.1 fun q hq => hb5.block q (own_block_lt HO.out.1 hq)
                   have h5 := owns_same HO.out.2.1 fun q hq => hb5.block q (own_block_lt HO.out.2.1 hq)
                   have H5 := Lib.hid (And.intro h4 (And.intro h5 (HO.out.2.2.trans (hb5.mono HO.out.2.2.size))))
                   clear hb5 kE h4 h5)
                | (at_builtin; refine wpList_append_own _ rfl (.tmp 42) (.tmp 44) 88 rfl w.heap.size 5 j0 (.int .u8 0) 1 1 Try.underlying88 HJ0.out.1 HJ0.out.2.1 HJ0.out.2.2.1 HJ0.out.2.2.2 rfl (by decide) _ m5 (byteCells now) rfl (owns_alloc H5.out.2.1) ⟨w5.heap.size, 0, none⟩ 1 1 [.int .u8 (c'.toNat : Int)] rfl rfl (cell_one' _ _ _) (by simp [Value.oneCell']) (by unfold maxLen; omega) (by omega) (by have := H5.out.2.2.size; simp; omega) ?_; intro v6 w6 hown6 hgrow6 _
                   have hb6 : Below w.heap.size w w6 := (H5.out.2.2.alloc (by have := H5.out.2.2.size; omega) _).grown hgrow6 (by have := H5.out.2.2.size; simp; omega) (fun r hr => own_base H5.out.2.1 hr)
                   have ht6 := owns_same H5.out.1 fun q hq => (hgrow6.block q (by have := own_block_lt H5.out.1 hq; simp; omega) (fun e => rows_apart H5.out.2.1 H5.out.1 (by decide) hq e.symm)).trans (Below.heap_alloc _ _ _ (own_block_lt H5.out.1 hq))
                   obtain ⟨g6, cap6, rfl⟩ := owned_slice hown6 (by omega)
                   have H6 := Lib.hid (And.intro hown6 (And.intro hb6 ht6))
                   clear hown6 hb6 hgrow6 ht6)
                | fail)
              go_roundg (s.size + 1 - (k + n))
              case rel => exact ⟨k + n, by go_num, by omega, by show _ = _; omega, HFF.out _ _ H6.out.1 H6.out.2.2 H6.out.2.1⟩
              case measure => have := HK.out; omega
          · rw [decide_eq_false e92] at c92
            obtain ⟨hn1, hn2, hF⟩ := HF.out.1 c 1 (by rw [HST.out.1, if_neg e38, if_neg e47, if_pos e92])
            have HFF := Lib.hid hF
            have hI : IntKind.i64.wrap ((k : Int) + 1) = ((k + 1 : Nat) : Int) := by rw [IntWalk.i64_in _ (by omega)]; omega
            clear e38 e47 e92 hF hn1 hn2
            go_wp2_with (first
              | (at_builtin; refine wpList_append_own _ rfl (.tmp 42) (.tmp 44) 88 rfl w.heap.size 5 j0 (.int .u8 0) 1 1 Try.underlying88 HJ0.out.1 HJ0.out.2.1 HJ0.out.2.2.1 HJ0.out.2.2.2 rfl (by decide) _ m5 (byteCells now) rfl (owns_alloc HO.out.2.1) ⟨wr.heap.size, 0, none⟩ 1 1 [.int .u8 (c.toNat : Int)] rfl rfl (cell_one' _ _ _) (by simp [Value.oneCell']) (by unfold maxLen; omega) (by omega) (by simp; omega) ?_; intro v6 w6 hown6 hgrow6 _
                 have hb6 : Below w.heap.size w w6 := (HO.out.2.2.alloc (by omega) _).grown hgrow6 (by simp; omega) (fun r hr => own_base HO.out.2.1 hr)
                 have ht6 := owns_same HO.out.1 fun q hq => (hgrow6.block q (by have := own_block_lt HO.out.1 hq; simp; omega) (fun e => rows_apart HO.out.2.1 HO.out.1 (by decide) hq e.symm)).trans (Below.heap_alloc _ _ _ (own_block_lt HO.out.1 hq))
                 obtain ⟨g6, cap6, rfl⟩ := owned_slice hown6 (by omega)
                 have H6 := Lib.hid (And.intro hown6 (And.intro hb6 ht6))
                 clear hown6 hb6 hgrow6 ht6)
              | fail)
            go_roundg (s.size - k)
            case rel => exact ⟨k + 1, by go_num, by omega, by show _ = _; omega, HFF.out _ _ H6.out.1 H6.out.2.2 H6.out.2.1⟩
            case measure => have := HK.out; omega
    · obtain rfl : k = s.size := by omega
      have hd : s.data.toList.drop s.size = [] := List.drop_eq_nil_of_le (by rw [HL.out]; exact Nat.le_refl _)
      rw [hd] at hrd
      have hrd : readD' s.data.toList = some (acc ++ [now]) := by
        cases f with
        | zero => omega
        | succ f => rw [hrd, readR_end]
      have hcv := conv_owned (P := Try.prog) (w := wr) (src := 88) (dst := 9) Try.underlying88 Try.underlying5 Try.underlying9 hown5
      have hdec : decide ((s.size : Int) < (s.size : Int)) = false := by simp
      have HR := Lib.hid (And.intro hrd (And.intro hown4 (And.intro hlow hm4)))
      clear hrd hf hown4 hown5 hlow hm4 hm5 hd
      go_wp2_with (first
        | (at_builtin; refine wpList_append_own _ rfl (.tmp 53) (.tmp 56) 59 rfl w.heap.size 9 i0 (.string ByteArray.empty) 1 16 Try.underlying59 HI0.out.1 HI0.out.2.1 HI0.out.2.2.1 HI0.out.2.2.2 rfl (by decide) _ m4 (strC (acc.map mkB)) rfl (owns_alloc HR.out.2.1) ⟨wr.heap.size, 0, none⟩ 1 1 [.string ⟨now.toArray⟩] rfl rfl (cell_one' _ _ _) (by simp [Value.oneCell']) (by unfold maxLen; omega) (by omega) (by simp; omega) ?_; intro v6 w6 hown6 hgrow6 _
           have hb6 : Below w.heap.size w w6 := (HR.out.2.2.1.alloc (by omega) _).grown hgrow6 (by simp; omega) (fun r hr => own_base HR.out.2.1 hr)
           obtain ⟨g6, cap6, rfl⟩ := owned_slice hown6 (by omega)
           have H6 := Lib.hid (And.intro hown6 hb6)
           clear hown6 hgrow6 hb6)
        | fail)
      try rw [Exit.noGoto_ret]
      refine bodyPost_ret (results_tmp2 rfl _ _ _) rfl ⟨?_, H6.out.2⟩
      rw [HR.out.1]
      refine ⟨_, rfl, ?_⟩
      rw [List.length_append, List.map_append, strC_append, ← HR.out.2.2.2]
      exact H6.out.1
end Go.Proofs.Ytgffmbdbjbhocaa
namespace Go.Proofs.Ytgffmbdbjbhocaa
open Go.RowKit Go.Lib
attribute [local go_sem] Oper.semAt_some

/-- What holds between two rounds. -/
structure RfS (s : List UInt8) (B : Nat) (w : World) (v4 : Value) (t : ByteArray) (k : Nat) (W : World) : Prop where
  list : ∃ acc now f, t = mkB now ∧ readD' s = readR f (s.drop k) acc now ∧ s.length - k < f ∧ acc.length ≤ k ∧ now.length ≤ k ∧ W.ownsRow B 9 1 v4 acc.length (strC (acc.map mkB))
  low : Below B w W
theorem mkB_size (l : List UInt8) : (mkB l).size = l.length := List.size_toArray
theorem mkB_snoc (l : List UInt8) (c : UInt8) : mkB l ++ ⟨[c].toArray⟩ = mkB (l ++ [c]) := by
  apply ba_ext
  rw [ByteArray.data_append, Array.toList_append]
  rfl
set_option maxHeartbeats 8000000 in
set_option maxRecDepth 100000 in
theorem refRead7_walk (s : ByteArray) (w : World) (hs : s.size ≤ 1000000000) :
    Calls Try.prog 40 #[.string s] w fun e w' => ReadA w.heap.size (readD' s.data.toList) e w' ∧ Below w.heap.size w w' := by
  have hlen : s.data.toList.length = s.size := Array.length_toList
  obtain ⟨i0, hi, hz0, hz1, hz2⟩ := info_parts Try.infoStrU
  have HI0 := Lib.hid (And.intro hi (And.intro hz0 (And.intro hz1 hz2)))
  have HL := Lib.hid hlen
  clear hlen hi hz0 hz1 hz2
  go_enter Try.func40, Try.ntmps40
  go_wp2_with fail
  go_loopg [4, 5, 6] (s.size + 1) (fun g v4 v5 v6 wr => ∃ (k : Nat) (t : ByteArray), v5 = .string t ∧ v6 = .int .i64 k ∧ k ≤ s.size ∧ Hid (g = s.size + 1 - k) ∧ Hid (RfS s.data.toList w.heap.size w v4 t k wr))
  case atStart =>
    refine ⟨0, ⟨#[]⟩, rfl, rfl, by omega, rfl, ⟨[], [], _, rfl, rfl, by rw [HL.out]; omega, Nat.le_refl _, Nat.le_refl _, World.ownsRow_nil _ _ _ _⟩, Below.refl _ _⟩
  case round =>
    obtain ⟨k, t, rfl, rfl, hk, HK, HS⟩ := hrel
    obtain ⟨acc, now, f, ht, hrd, hf, hac, hno, hown4⟩ := HS.out.list
    have hlow := HS.out.low
    obtain ⟨a4, c4, rfl⟩ := own_zeroB hown4
    obtain ⟨m4, hm4⟩ : ∃ m4, m4 = acc.length := ⟨_, rfl⟩
    rw [← hm4] at hown4 hac ⊢
    have htz : t.size = now.length := by rw [ht, mkB_size]
    have HT := Lib.hid ht
    have hsz := hlow.size
    clear ht
    by_cases hlt : k < s.size
    · have hltI : (k : Int) < (s.size : Int) := by omega
      obtain ⟨c, hc⟩ : ∃ c, s[k] = c := ⟨_, rfl⟩
      have hd : s.data.toList.drop k = c :: s.data.toList.drop (k + 1) := by
        rw [List.drop_eq_getElem_cons (by rw [HL.out]; exact hlt)]
        congr 1
      have hne : s.data.toList.drop k ≠ [] := by rw [hd]; simp
      obtain ⟨f', rfl⟩ : ∃ f', f = f' + 1 := ⟨f - 1, by omega⟩
      have hln : (s.data.toList.drop k).length = s.size - k := by rw [List.length_drop, HL.out]
      -- behind a byte
      have hbyte : ∀ (c' : UInt8) (n : Nat), stepR (s.data.toList.drop k) = some (some c', n) → 1 ≤ n ∧ k + n ≤ s.size ∧ ∀ (W : World), W.ownsRow w.heap.size 9 1 (.slice a4 m4 c4) m4 (strC (acc.map mkB)) → Below w.heap.size w W → RfS s.data.toList w.heap.size w (.slice a4 m4 c4) (t ++ ⟨[c'].toArray⟩) (k + n) W := fun c' n hst => by
        obtain ⟨h1, h2⟩ := stepR_fit hst
        rw [hln] at h2
        refine ⟨h1, by omega, fun W ho4 hb => ⟨⟨acc, now ++ [c'], f', ?_, ?_, by have := HL.out; omega, by omega, by rw [List.length_append]; simp; omega, by rw [← hm4]; exact ho4⟩, hb⟩⟩
        · rw [HT.out, mkB_snoc]
        · rw [hrd, readR_byte hne hst, List.drop_drop]
      have hplace : ∀ n, stepR (s.data.toList.drop k) = some (none, n) → 1 ≤ n ∧ k + n ≤ s.size ∧ ∀ (v : Value) (W : World), W.ownsRow w.heap.size 9 1 v (m4 + 1) (strC (acc.map mkB) ++ [.string t]) → Below w.heap.size w W → RfS s.data.toList w.heap.size w v ⟨#[]⟩ (k + n) W := fun n hst => by
        obtain ⟨h1, h2⟩ := stepR_fit hst
        rw [hln] at h2
        refine ⟨h1, by omega, fun v W ho4 hb => ⟨⟨acc ++ [now], [], f', rfl, ?_, by have := HL.out; omega, by rw [List.length_append]; simp; omega, Nat.zero_le _, ?_⟩, hb⟩⟩
        · rw [hrd, readR_place hne hst, List.drop_drop]
        · rw [List.length_append, List.map_append, strC_append, ← hm4]
          rw [HT.out] at ho4
          exact ho4
      have hbad : stepR (s.data.toList.drop k) = none → readD' s.data.toList = none := fun hst => by rw [hrd, readR_bad hne hst]
      have HF := Lib.hid (And.intro hbyte (And.intro hplace hbad))
      have HO := Lib.hid (And.intro hown4 hlow)
      have m4b : m4 ≤ 1000000000 := by omega
      have tb : t.size ≤ 1000000000 := by omega
      have k0 : (0 : Int) ≤ (k : Int) := by omega
      have hke : (k : Int) ≤ (s.size : Int) := by omega
      have hcl := c.toNat_lt
      have cx : ∀ (d : UInt8), ((c.toNat : Int) == (d.toNat : Int)) = decide (c = d) := fun d => by
        rw [Bool.eq_iff_iff]
        simp only [beq_iff_eq, decide_eq_true_eq]
        constructor
        · intro h; exact UInt8.toNat_inj.1 (by omega)
        · intro h; rw [h]
      have c38 : ((c.toNat : Int) == 38) = decide (c = 38) := cx 38
      have c47 : ((c.toNat : Int) == 47) = decide (c = 47) := cx 47
      have c10 : ((c.toNat : Int) == 10) = decide (c = 10) := cx 10
      have c92 : ((c.toNat : Int) != 92) = !decide (c = 92) := congrArg (!·) (cx 92)
      have hstep : stepR (s.data.toList.drop k) = (if c = 38 then some (none, 1) else if c = 47 ∨ c = 10 then none else if c ≠ 92 then some (some c, 1)
        else if (s.data.toList.drop (k + 1)).head? = some 38 then some (some 38, 2) else (signU (c :: s.data.toList.drop (k + 1))).map fun p => (some p.1, p.2)) := by rw [hd]; rfl
      have HST := Lib.hid (And.intro hstep hd)
      clear hbyte hplace hbad hown4 hlow hrd hf hac hno hm4 hd hne hln hcl cx hstep
      have hI : IntKind.i64.wrap ((k : Int) + 1) = ((k + 1 : Nat) : Int) := by rw [IntWalk.i64_in _ (by omega)]; omega
      by_cases e38 : c = 38
      · rw [decide_eq_true e38] at c38
        obtain ⟨hn1, hn2, hF⟩ := HF.out.2.1 1 (by rw [HST.out.1, if_pos e38])
        have HFF := Lib.hid hF
        clear c47 c10 c92 e38 hF hn1 hn2
        go_wp2_with (first
          | (at_builtin; refine wpList_append_own _ rfl (.tmp 20) (.tmp 22) 59 rfl w.heap.size 9 i0 (.string ByteArray.empty) 1 16 Try.underlying59 HI0.out.1 HI0.out.2.1 HI0.out.2.2.1 HI0.out.2.2.2 rfl (by decide) _ m4 (strC (acc.map mkB)) rfl (owns_alloc HO.out.1) ⟨wr.heap.size, 0, none⟩ 1 1 [.string t] rfl rfl (cell_one' _ _ _) (by simp [Value.oneCell']) (by unfold maxLen; omega) (by omega) (by simp; omega) ?_; intro v6 w6 hown6 hgrow6 _
             have hb6 : Below w.heap.size w w6 := (HO.out.2.alloc (by omega) _).grown hgrow6 (by simp; omega) (fun r hr => own_base HO.out.1 hr)
             obtain ⟨g6, cap6, rfl⟩ := owned_slice hown6 (by omega)
             have H6 := Lib.hid (And.intro hown6 hb6)
             clear hown6 hgrow6 hb6)
          | fail)
        go_roundg (s.size - k)
        case rel => exact ⟨k + 1, ⟨#[]⟩, rfl, by go_num, by omega, by show _ = _; omega, HFF.out _ _ H6.out.1 H6.out.2⟩
        case measure => have := HK.out; omega
      · rw [decide_eq_false e38] at c38
        by_cases e47 : c = 47 ∨ c = 10
        · have hb := HF.out.2.2 (by rw [HST.out.1, if_neg e38, if_pos e47])
          have HB := Lib.hid hb
          have hcase : (((c.toNat : Int) == 47) = true ∨ (((c.toNat : Int) == 47) = false ∧ ((c.toNat : Int) == 10) = true)) := by
            rcases e47 with rfl | rfl
            · exact .inl (by decide)
            · exact .inr ⟨by decide, by decide⟩
          clear c47 c10 c92 e47 e38 hb
          rcases hcase with c47 | ⟨c47, c10⟩
          all_goals
            go_wp2
            refine bodyPost_ret (results_tmp2 rfl _ _ _) rfl ⟨?_, HO.out.2⟩
            rw [HB.out]
            rfl
        · rw [decide_eq_false (fun h => e47 (.inl h))] at c47
          rw [decide_eq_false (fun h => e47 (.inr h))] at c10
          by_cases e92 : c = 92
          · rw [decide_eq_true e92] at c92
            have kS := refSign_any (s.extract k s.size) wr
            have hex : (s.extract k s.size).data.toList = s.data.toList.drop k := by
              rw [Lib.extract_data, List.take_of_length_le (by rw [List.length_drop, HL.out]; exact Nat.le_refl _)]
            rw [hex] at kS
            have hst2 : stepR (s.data.toList.drop k) = if (s.data.toList.drop (k + 1)).head? = some 38 then some (some 38, 2) else (signU (s.data.toList.drop k)).map fun p => (some p.1, p.2) := by
              rw [HST.out.1, if_neg e38, if_neg e47, if_neg (by simp [e92]), HST.out.2]
            have keyB : (s.data.toList.drop (k + 1)).head? ≠ some 38 → (stepR (s.data.toList.drop k) = none ∧ Calls Try.prog 81 #[.string (s.extract k s.size)] wr fun e w' => e = .returned (.tuple #[.int .u8 0, .int .i64 0, .int .i64 2]) ∧ Below wr.heap.size wr w') ∨
                ∃ (c' : UInt8) (n : Nat), stepR (s.data.toList.drop k) = some (some c', n) ∧ Calls Try.prog 81 #[.string (s.extract k s.size)] wr fun e w' => e = .returned (.tuple #[.int .u8 (c'.toNat : Int), .int .i64 (n : Int), .int .i64 0]) ∧ Below wr.heap.size wr w' := fun h38 => by
              rw [if_neg h38] at hst2
              cases hsu : signU (s.data.toList.drop k) with
              | none =>
                rw [hsu] at hst2
                rw [signU_none hsu] at kS
                exact .inl ⟨hst2, kS⟩
              | some p =>
                rw [hsu] at hst2
                obtain ⟨p1, p2⟩ := p
                rw [(signU_some hsu).1] at kS
                exact .inr ⟨p1, p2, hst2, kS⟩
            clear kS hex e38 e47 e92
            by_cases hk1 : k + 1 < s.size
            · have hk1I : ((k + 1 : Nat) : Int) < (s.size : Int) := by omega
              obtain ⟨d, hd⟩ : ∃ d, s[k + 1] = d := ⟨_, rfl⟩
              have hhd : (s.data.toList.drop (k + 1)).head? = some d := by
                rw [List.drop_eq_getElem_cons (by rw [HL.out]; exact hk1), ← hd]
                rfl
              by_cases d38 : d = 38
              · rw [if_pos (by rw [hhd, d38])] at hst2
                obtain ⟨hn1, hn2, hF⟩ := HF.out.1 38 2 hst2
                have HFF := Lib.hid hF
                have dd : ((d.toNat : Int) == 38) = true := by rw [d38]; decide
                have hI2 : IntKind.i64.wrap ((k : Int) + 2) = ((k + 2 : Nat) : Int) := by rw [IntWalk.i64_in _ (by omega)]; omega
                have n1 : ¬ 9223372036854775807 < t.size + 1 := by omega
                clear hF hst2 keyB hhd d38
                go_wp2
                go_roundg (s.size - (k + 1))
                case rel => exact ⟨k + 2, _, rfl, by go_num, by omega, by show _ = _; omega, HFF.out _ (by first | exact HO.out.1 | exact owns_alloc HO.out.1 | exact owns_alloc (owns_alloc HO.out.1)) (by first | exact HO.out.2 | exact HO.out.2.alloc (by omega) _ | exact (HO.out.2.alloc (by omega) _).alloc (by simp; omega) _)⟩
                case measure => have := HK.out; omega
              have key := keyB (by rw [hhd]; intro h; exact d38 (Option.some.inj h))
              have dd : ((d.toNat : Int) == 38) = false := by
                rw [beq_eq_false_iff_ne]
                intro h
                exact d38 (UInt8.toNat_inj.1 (by show d.toNat = 38; omega))
              clear keyB hhd d38 hst2
              rcases key with ⟨hst, kE⟩ | ⟨c', n, hst, kE⟩
              · have HB := Lib.hid (HF.out.2.2 hst)
                clear hst
                go_wp2_with (first
                  | (go_at_call 81; refine kE.mono ?_; rintro e w5 ⟨rfl, hb5⟩; have H5 := Lib.hid hb5; clear hb5 kE)
                  | fail)
                refine bodyPost_ret (results_tmp2 rfl _ _ _) rfl ⟨?_, HO.out.2.trans (H5.out.mono HO.out.2.size)⟩
                rw [HB.out]
                rfl
              · obtain ⟨hn1, hn2, hF⟩ := HF.out.1 c' n hst
                have HFF := Lib.hid hF
                have hN : IntKind.i64.wrap ((k : Int) + (n : Int)) = ((k + n : Nat) : Int) := by rw [IntWalk.i64_in _ (by omega)]; omega
                have hn3 : (n : Int) ≤ 1000000000 := by omega
                have kc := fun w => conv_new1 (P := Try.prog) 88 9 5 Try.underlying88 Try.underlying5 Try.underlying9 w (c'.toNat : Int) c' rfl
                have n1 : ¬ 9223372036854775807 < t.size + 1 := by omega
                clear hst hF
                go_wp2_with (first
                  | (go_at_call 81; refine kE.mono ?_; rintro e w5 ⟨rfl, hb5⟩
                     have h4 := owns_same HO.out.1 fun q hq => hb5.block q (own_block_lt HO.out.1 hq)
                     have H5 := Lib.hid (And.intro h4 (HO.out.2.trans (hb5.mono HO.out.2.size)))
                     clear hb5 kE h4)
                  | fail)
                go_roundg (s.size + 1 - (k + n))
                case rel => exact ⟨k + n, _, rfl, by go_num, by omega, by show _ = _; omega, HFF.out _ (by first | exact H5.out.1 | exact owns_alloc H5.out.1) (by first | exact H5.out.2 | exact H5.out.2.alloc (by have := H5.out.2.size; omega) _)⟩
                case measure => have := HK.out; omega
            · have hdec : decide (((k + 1 : Nat) : Int) < (s.size : Int)) = false := decide_eq_false (by omega)
              have key := keyB (by rw [List.drop_eq_nil_of_le (by rw [HL.out]; omega)]; simp)
              clear keyB hst2
              rcases key with ⟨hst, kE⟩ | ⟨c', n, hst, kE⟩
              · have HB := Lib.hid (HF.out.2.2 hst)
                clear hst
                go_wp2_with (first
                  | (go_at_call 81; refine kE.mono ?_; rintro e w5 ⟨rfl, hb5⟩; have H5 := Lib.hid hb5; clear hb5 kE)
                  | fail)
                refine bodyPost_ret (results_tmp2 rfl _ _ _) rfl ⟨?_, HO.out.2.trans (H5.out.mono HO.out.2.size)⟩
                rw [HB.out]
                rfl
              · obtain ⟨hn1, hn2, hF⟩ := HF.out.1 c' n hst
                have HFF := Lib.hid hF
                have hN : IntKind.i64.wrap ((k : Int) + (n : Int)) = ((k + n : Nat) : Int) := by rw [IntWalk.i64_in _ (by omega)]; omega
                have hn3 : (n : Int) ≤ 1000000000 := by omega
                have kc := fun w => conv_new1 (P := Try.prog) 88 9 5 Try.underlying88 Try.underlying5 Try.underlying9 w (c'.toNat : Int) c' rfl
                have n1 : ¬ 9223372036854775807 < t.size + 1 := by omega
                clear hst hF
                go_wp2_with (first
                  | (go_at_call 81; refine kE.mono ?_; rintro e w5 ⟨rfl, hb5⟩
                     have h4 := owns_same HO.out.1 fun q hq => hb5.block q (own_block_lt HO.out.1 hq)
                     have H5 := Lib.hid (And.intro h4 (HO.out.2.trans (hb5.mono HO.out.2.size)))
                     clear hb5 kE h4)
                  | fail)
                go_roundg (s.size + 1 - (k + n))
                case rel => exact ⟨k + n, _, rfl, by go_num, by omega, by show _ = _; omega, HFF.out _ (by first | exact H5.out.1 | exact owns_alloc H5.out.1) (by first | exact H5.out.2 | exact H5.out.2.alloc (by have := H5.out.2.size; omega) _)⟩
                case measure => have := HK.out; omega
          · rw [decide_eq_false e92] at c92
            obtain ⟨hn1, hn2, hF⟩ := HF.out.1 c 1 (by rw [HST.out.1, if_neg e38, if_neg e47, if_pos e92])
            have HFF := Lib.hid hF
            have kc := fun w => conv_new1 (P := Try.prog) 88 9 5 Try.underlying88 Try.underlying5 Try.underlying9 w (c.toNat : Int) c rfl
            have n1 : ¬ 9223372036854775807 < t.size + 1 := by omega
            clear e38 e47 e92 hF hn1 hn2
            go_wp2
            go_roundg (s.size - k)
            case rel => exact ⟨k + 1, _, rfl, by go_num, by omega, by show _ = _; omega, HFF.out _ (by first | exact HO.out.1 | exact owns_alloc HO.out.1 | exact owns_alloc (owns_alloc HO.out.1)) (by first | exact HO.out.2 | exact HO.out.2.alloc (by omega) _ | exact (HO.out.2.alloc (by omega) _).alloc (by simp; omega) _)⟩
            case measure => have := HK.out; omega
    · obtain rfl : k = s.size := by omega
      have hd : s.data.toList.drop s.size = [] := List.drop_eq_nil_of_le (by rw [HL.out]; exact Nat.le_refl _)
      rw [hd] at hrd
      have hrd : readD' s.data.toList = some (acc ++ [now]) := by
        cases f with
        | zero => omega
        | succ f => rw [hrd, readR_end]
      have hdec : decide ((s.size : Int) < (s.size : Int)) = false := by simp
      have HR := Lib.hid (And.intro hrd (And.intro hown4 (And.intro hlow hm4)))
      clear hrd hf hown4 hlow hm4 hd
      go_wp2_with (first
        | (at_builtin; refine wpList_append_own _ rfl (.tmp 75) (.tmp 77) 59 rfl w.heap.size 9 i0 (.string ByteArray.empty) 1 16 Try.underlying59 HI0.out.1 HI0.out.2.1 HI0.out.2.2.1 HI0.out.2.2.2 rfl (by decide) _ m4 (strC (acc.map mkB)) rfl (owns_alloc HR.out.2.1) ⟨wr.heap.size, 0, none⟩ 1 1 [.string t] rfl rfl (cell_one' _ _ _) (by simp [Value.oneCell']) (by unfold maxLen; omega) (by omega) (by simp; omega) ?_; intro v6 w6 hown6 hgrow6 _
           have hb6 : Below w.heap.size w w6 := (HR.out.2.2.1.alloc (by omega) _).grown hgrow6 (by simp; omega) (fun r hr => own_base HR.out.2.1 hr)
           obtain ⟨g6, cap6, rfl⟩ := owned_slice hown6 (by omega)
           have H6 := Lib.hid (And.intro hown6 hb6)
           clear hown6 hgrow6 hb6)
        | fail)
      refine bodyPost_ret (results_tmp2 rfl _ _ _) rfl ⟨?_, H6.out.2⟩
      rw [HR.out.1]
      refine ⟨_, rfl, ?_⟩
      rw [List.length_append, List.map_append, strC_append, ← HR.out.2.2.2]
      have h6 := H6.out.1
      rw [HT.out] at h6
      exact h6
end Go.Proofs.Ytgffmbdbjbhocaa
namespace Go.Proofs.Ytgffmbdbjbhocaa
open Go.RowKit Go.Lib

/-- Each byte as it is written. -/
def flatP (l : List UInt8) : List UInt8 := l.flatMap plainL
theorem flatP_len : ∀ l : List UInt8, l.length ≤ (flatP l).length ∧ (flatP l).length ≤ 4 * l.length
  | [] => by simp [flatP]
  | c :: l => by
    have h1 := flatP_len l
    have h2 := plain_length c
    unfold flatP at h1 ⊢
    rw [List.flatMap_cons, List.length_append, List.length_cons]
    omega
theorem flatP_next (s : ByteArray) {k : Nat} (h : k < s.size) : flatP (s.data.toList.take (k + 1)) = flatP (s.data.toList.take k) ++ plainL s[k] := by
  rw [take_snoc s k h]
  simp [flatP]
theorem isBuilder_below {T e : TypeId} {B b : Nat} {bs : List Value} {w w' : World} (h : IsBuilderF T e B b bs w) (hb : Below w.heap.size w w') : IsBuilderF T e B b bs w' := by
  have go : ∀ p, BuilderAtF T e B b p bs w → BuilderAtF T e B b p bs w' := fun p ⟨h1, v, h2, h3, h4⟩ => by
    refine ⟨h1, v, (hb.block b (block_lt h2)).trans h2, h3.kept (grown_of_below hb none) ?_, h4⟩
    cases v.ownBlock with
    | none => exact .inl rfl
    | some g => exact .inr (by simp)
  exact h.imp (go _) (go _)
/-- What lies between two rounds of the loop over the bytes. -/
def PlS (l : List UInt8) (w : World) (k : Nat) (wr : World) : Prop := IsBuilderF 90 5 w.heap.size w.heap.size (byteCells (flatP (l.take k))) wr ∧ Below w.heap.size w wr
theorem PlS.start (l : List UInt8) (w : World) : PlS l w 0 (w.alloc (.cells #[.pointer none, .slice none 0 0] 90)) :=
  ⟨.inl ⟨Nat.le_refl _, _, heap_alloc_new w _, ⟨rfl, .inl ⟨rfl, rfl⟩⟩, by simp [Value.ownBlock]⟩, (Below.refl _ w).alloc (Nat.le_refl _) _⟩
theorem PlS.below {l : List UInt8} {w wr w' : World} {k : Nat} (h : PlS l w k wr) (hb : Below wr.heap.size wr w') : PlS l w k w' := ⟨isBuilder_below h.1 hb, h.2.trans (hb.mono h.2.size)⟩

theorem PlS.write {s : ByteArray} {w wr : World} {k : Nat} {c : UInt8} (hlt : k < s.size) (hc : s[k] = c) (hs : s.size ≤ 1000000000) (h : PlS s.data.toList w k wr) :
    Calls Try.prog 68 #[.pointer (some ⟨w.heap.size, 0, none⟩), .string ⟨(plainL c).toArray⟩] wr fun e w' => e = .returned (.tuple #[.int .i64 (⟨(plainL c).toArray⟩ : ByteArray).size, .nilIface]) ∧ PlS s.data.toList w (k + 1) w' := by
  refine (writeString_any w.heap.size w.heap.size (byteCells (flatP (s.data.toList.take k))) ⟨(plainL c).toArray⟩ _ h.1 ?_ h.2.size).mono ?_
  · rw [byteCells_length]
    have h1 := (flatP_len (s.data.toList.take k)).2
    have h2 := (plain_length c).2
    have h3 : s.data.toList.length = s.size := Array.length_toList
    rw [List.length_take, h3] at h1
    show _ + (plainL c).toArray.size ≤ _
    rw [List.size_toArray]
    omega
  · rintro e w2 ⟨rfl, h2, hb2, _⟩
    refine ⟨rfl, .inr ?_, h.2.trans hb2⟩
    rw [flatP_next s hlt, hc, bc_append]
    exact h2

set_option maxHeartbeats 2000000 in
set_option maxRecDepth 20000 in
theorem plain7_any (s : ByteArray) (w : World) (hs : s.size ≤ 1000000000) :
    Calls Try.prog 82 #[.string s] w fun e w' => e = .returned (.string ⟨(flatP s.data.toList).toArray⟩) ∧ Below w.heap.size w w' := by
  have hlen : s.data.toList.length = s.size := Array.length_toList
  have HL := Lib.hid hlen
  clear hlen
  go_enter Try.func82, Try.ntmps82
  go_wp2
  go_loopg [7] (s.size + 1) (fun g v7 wr => ∃ k : Nat, v7 = .int .i64 k ∧ k ≤ s.size ∧ Hid (g = s.size + 1 - k) ∧ Hid (PlS s.data.toList w k wr))
  case atStart => exact ⟨0, rfl, by omega, rfl, PlS.start _ _⟩
  case round =>
    obtain ⟨k, rfl, hk, HK, HS⟩ := hrel
    by_cases hlt : k < s.size
    · have hltI : (k : Int) < (s.size : Int) := by omega
      obtain ⟨c, hc⟩ : ∃ c, s[k] = c := ⟨_, rfl⟩
      have hI : IntKind.i64.wrap ((k : Int) + 1) = ((k + 1 : Nat) : Int) := by rw [IntWalk.i64_in _ (by omega)]; omega
      go_wp2_with (first
        | (go_at_call 113; refine (plain_any c _).mono ?_; rintro e w1 ⟨rfl, hb1⟩; have H1 := Lib.hid (PlS.below (k := k) HS.out hb1); clear hb1)
        | (go_at_call 68; refine (PlS.write hlt hc hs H1.out).mono ?_; rintro e w2 ⟨rfl, h2⟩; have H2 := Lib.hid h2; clear h2))
      go_roundg (s.size - k)
      case rel => exact ⟨k + 1, by go_num, by omega, by show _ = _; omega, H2⟩
      case measure => have := HK.out; omega
    · obtain rfl : k = s.size := by omega
      have hall : s.data.toList.take s.size = s.data.toList := List.take_of_length_le (by rw [HL.out]; omega)
      have hS := HS.out
      unfold PlS at hS
      rw [hall] at hS
      have HS2 := Lib.hid hS
      clear hall hS
      go_wp2_with (first
        | (go_at_call 71
           refine (Try.Builder_String_any_k w.heap.size w.heap.size (flatP s.data.toList) _ HS2.out.1 HS2.out.2.size).mono ?_
           rintro e w3 ⟨rfl, _, hb3, _⟩))
      go_ret
      exact ⟨rfl, HS2.out.2.trans hb3⟩
end Go.Proofs.Ytgffmbdbjbhocaa
namespace Go.Proofs.Ytgffmbdbjbhocaa
open Go.RowKit Go.Lib

def flatB (x : ByteArray) : ByteArray := ⟨(flatP x.data.toList).toArray⟩
/-- How a row of texts is written. -/
def textB (xs : List ByteArray) : ByteArray := joinB (xs.map flatB) ⟨#[38]⟩
/-- What lies between two rounds of the loop over the texts. -/
def TxS (xs : List ByteArray) (w : World) (k : Nat) (wr : World) : Prop :=
  Below w.heap.size w wr ∧ ∃ cs : Array Value, wr.heap[w.heap.size]? = some (.cells cs 9 (0, 0)) ∧ cs.size = xs.length ∧ ∀ j x, j < k → xs[j]? = some x → cs[j]? = some (.string (flatB x))
theorem TxS.start (xs : List ByteArray) (w : World) : TxS xs w 0 (w.alloc (.cells (madeCells #[.string ByteArray.empty] xs.length) 9)) :=
  ⟨(Below.refl _ w).alloc (Nat.le_refl _) _, _, heap_alloc_new w _, size_madeCells _ _, fun _ _ h => absurd h (Nat.not_lt_zero _)⟩
theorem TxS.below {xs : List ByteArray} {w wr w' : World} {k : Nat} (h : TxS xs w k wr) (hb : Below wr.heap.size wr w') : TxS xs w k w' := by
  obtain ⟨h1, cs, h2, h3⟩ := h
  exact ⟨h1.trans (hb.mono h1.size), cs, (hb.block _ (block_lt h2)).trans h2, h3⟩
theorem TxS.cell {xs : List ByteArray} {w wr : World} {k : Nat} (h : TxS xs w k wr) (hk : k < xs.length) : (∃ u, wr.cell? ⟨w.heap.size, k, none⟩ = some u) ∧ wr.frozen? ⟨w.heap.size, k, none⟩ = false := by
  obtain ⟨h1, cs, h2, h3, h4⟩ := h
  refine ⟨⟨cs[k]'(by omega), ?_⟩, frozen_of_heap h2 k⟩
  rw [cell_of_heap h2]
  simp [h3, hk]
theorem TxS.put {xs : List ByteArray} {w wr : World} {k : Nat} {x : ByteArray} (h : TxS xs w k wr) (hx : xs[k]? = some x) : TxS xs w (k + 1) (wr.setCell ⟨w.heap.size, k, none⟩ (.string (flatB x))) := by
  have hk : k < xs.length := by
    by_cases h : k < xs.length
    · exact h
    · rw [List.getElem?_eq_none (by omega)] at hx; cases hx
  obtain ⟨h1, cs, h2, h3, h4⟩ := h
  refine ⟨h1.setCell (p := ⟨w.heap.size, k, none⟩) (Nat.le_refl _) _, _, Go.Lib.heap_setCell_same (i := k) h2 _, by simp [h3], fun j y hj hy => ?_⟩
  by_cases e : j = k
  · subst e
    rw [hx] at hy
    cases hy
    simp [h3, hk]
  · rw [Array.getElem?_setIfInBounds_ne (by omega)]
    exact h4 j y (by omega) hy
theorem TxS.strs {xs : List ByteArray} {w wr : World} (h : TxS xs w xs.length wr) (hl : xs.length ≤ 140737488355328) : Strs (.slice (some ⟨w.heap.size, 0, none⟩) xs.length xs.length) (xs.map flatB) wr := by
  obtain ⟨h1, cs, h2, h3, h4⟩ := h
  refine ⟨some ⟨w.heap.size, 0, none⟩, xs.length, by rw [List.length_map], by rw [List.length_map]; exact Nat.le_refl _, by rw [List.length_map]; exact hl, fun j x hj => ⟨_, 0, rfl, block_lt h2, ?_⟩⟩
  rw [List.getElem?_map] at hj
  obtain ⟨y, hy, rfl⟩ := Option.map_eq_some_iff.1 hj
  have hk : j < xs.length := by
    by_cases h : j < xs.length
    · exact h
    · rw [List.getElem?_eq_none (by omega)] at hy; cases hy
  rw [Nat.zero_add, cell_of_heap h2]
  exact h4 j y hk hy

set_option maxHeartbeats 2000000 in
set_option maxRecDepth 20000 in
theorem text7_walk (ao : Option Addr) (N cap : Nat) (xs : List ByteArray) (w : World) (h : Strs (.slice ao N cap) xs w) (hN6 : N ≤ 1000000000) (hs : ∀ x ∈ xs, x.size ≤ 1000000000) (hl : (textB xs).size ≤ 140737488355328) :
    Calls Try.prog 42 #[.slice ao N cap] w fun e w' => e = .returned (.string (textB xs)) ∧ Below w.heap.size w w' := by
  obtain ⟨hN, hcap, hN2⟩ := h.len
  have kmk := fun (w : World) => run_make_row' (P := Try.prog) 59 9 (.string ByteArray.empty) 16 Try.underlying59 Try.infoStrU rfl .i64 .i64 N (by omega) (by omega) w
  have kl := fun (W : World) (hS : Strs (.slice (some ⟨w.heap.size, 0, none⟩) N N) (xs.map flatB) W) => layS_any _ (xs.map flatB) ⟨#[38]⟩ W hS hl
  have k0 : TxS xs w 0 (w.alloc (.cells (madeCells #[.string ByteArray.empty] N) 9)) := by rw [hN]; exact TxS.start xs w
  have H := Lib.hid (And.intro h (And.intro hN hs))
  have K0 := Lib.hid k0
  have hXw : ∃ X, X = Obj.cells (madeCells #[.string ByteArray.empty] N) 9 := ⟨_, rfl⟩
  obtain ⟨X, hX⟩ := hXw
  rw [← hX] at kmk k0
  replace K0 := Lib.hid k0
  obtain ⟨T, hT⟩ : ∃ T, T = textB xs := ⟨_, rfl⟩
  rw [show joinB (xs.map flatB) ⟨#[38]⟩ = T from hT.symm] at kl
  rw [← hT]
  clear h hN hs hl k0 hX hT
  go_enter Try.func42, Try.ntmps42
  go_wp2
  go_loopg [11] (N + 1) (fun g v11 wr => ∃ k : Nat, v11 = .int .i64 k ∧ k ≤ N ∧ Hid (g = N + 1 - k) ∧ Hid (TxS xs w k wr))
  case atStart => exact ⟨0, rfl, by omega, rfl, K0.out⟩
  case round =>
    obtain ⟨k, rfl, hk, HK, HS⟩ := hrel
    by_cases hlt : k < N
    · have hltI : (k : Int) < (N : Int) := by omega
      obtain ⟨x, hx⟩ : ∃ x, xs[k]? = some x := ⟨xs[k]'(by have := H.out.2.1; omega), List.getElem?_eq_getElem _⟩
      obtain ⟨b, o, rfl, _, cx⟩ := (H.out.1.below HS.out.1).at hx
      have kp := fun w => plain7_any x w (H.out.2.2 x (List.mem_of_getElem? hx))
      have hI : IntKind.i64.wrap ((k : Int) + 1) = ((k + 1 : Nat) : Int) := by rw [IntWalk.i64_in _ (by omega)]; omega
      have HX := Lib.hid hx
      clear hx
      go_wp2_with (first
        | (go_at_call 82; refine (kp _).mono ?_; rintro e w1 ⟨rfl, hb1⟩
           have h1 := TxS.below (k := k) HS.out hb1
           obtain ⟨⟨u, hu⟩, hf⟩ := h1.cell (by have := H.out.2.1; omega)
           have H1 := Lib.hid (h1.put HX.out)
           clear hb1 h1))
      go_roundg (N - k)
      case rel => exact ⟨k + 1, by go_num, by omega, by show _ = _; omega, H1⟩
      case measure => have := HK.out; omega
    · obtain rfl : k = N := by omega
      have hS : Strs (.slice (some ⟨w.heap.size, 0, none⟩) k k) (xs.map flatB) wr := by
        have h1 := HS.out
        have h2 := H.out.2.1
        rw [h2] at h1 ⊢
        exact h1.strs (by omega)
      have HS2 := Lib.hid (And.intro hS HS.out.1)
      clear hS
      go_wp2_with (first
        | (go_at_call 83; refine (kl _ HS2.out.1).mono ?_; rintro e w3 ⟨rfl, hb3⟩))
      go_ret
      exact ⟨rfl, HS2.out.2.trans (hb3.mono HS2.out.2.size)⟩
theorem text7_any (v : Value) (xs : List ByteArray) (w : World) (h : Strs v xs w) (hN6 : xs.length ≤ 1000000000) (hs : ∀ x ∈ xs, x.size ≤ 1000000000) (hl : (textB xs).size ≤ 140737488355328) :
    Calls Try.prog 42 #[v] w fun e w' => e = .returned (.string (textB xs)) ∧ Below w.heap.size w w' := by
  have h' := h
  obtain ⟨ao, cap, rfl, _⟩ := h
  exact text7_walk ao xs.length cap xs w h' hN6 hs hl
end Go.Proofs.Ytgffmbdbjbhocaa
namespace Go.Proofs.Ytgffmbdbjbhocaa
open Go.RowKit Go.Lib

theorem back_256 (c : UInt8) : c.toNat.toUInt8 = c := by simp
theorem told_digs : ∀ n : Fin 256, restOk n.val.toUInt8 = false → (n.val.toUInt8 == 32) = false → toldD (hexL [n.val.toUInt8]) = some ((n.val : Int), 4) := by decide +kernel
theorem rest_plains : ∀ n : Fin 256, restOk n.val.toUInt8 = true ∨ n.val.toUInt8 = 32 → (n.val.toUInt8 ≠ 92 ∧ ¬ (n.val.toUInt8 = 10 ∨ heldL.contains n.val.toUInt8 = true)) := by decide +kernel
theorem plain_sign (c : UInt8) (x : List UInt8) : signD (plainL c ++ x) = some ((c.toNat : Int), ((plainL c).length : Int)) := by
  have h1 := told_digs ⟨c.toNat, c.toNat_lt⟩
  have h2 := rest_plains ⟨c.toNat, c.toNat_lt⟩
  dsimp only at h1 h2
  rw [back_256] at h1 h2
  unfold plainL
  by_cases hc : c = 32 ∨ restOk c = true
  · rw [if_pos hc]
    obtain ⟨h3, h4⟩ := h2 (hc.symm)
    show signD (c :: x) = _
    simp only [signD, if_neg h3, if_neg h4]
    rfl
  · rw [if_neg hc]
    have hr : restOk c = false := by cases h : restOk c with
      | false => rfl
      | true => exact absurd (.inr h) hc
    have h32 : (c == 32) = false := by rw [beq_eq_false_iff_ne]; exact fun e => hc (.inl e)
    have h5 := h1 hr h32
    show signD (92 :: 120 :: (hexL [c] ++ x)) = _
    have hl : ∃ p q, hexL [c] = [p, q] := ⟨_, _, rfl⟩
    obtain ⟨p, q, hpq⟩ := hl
    have hlen : ((92 :: hexT [c]).length : Int) = 4 := by unfold hexT; rw [hpq]; rfl
    rw [hlen]
    rw [hpq] at h5 ⊢
    exact h5
/- The runs of a class, and what reading them comes to. -/
end Go.Proofs.Ytgffmbdbjbhocaa
namespace Go.Proofs.Ytgffmbdbjbhocaa
open Go.RowKit Go.Lib

set_option maxHeartbeats 400000 in
theorem refDig_any (n : Int) (w : World) (h0 : 0 ≤ n) (h1 : n < 16) :
    Calls Try.prog 141 #[.int .u8 n] w fun e w' => e = .returned (.string ⟨[hexDg n.toNat].toArray⟩) ∧ Below w.heap.size w w' := by
  have hn : n = (n.toNat : Int) := by omega
  have HN := Lib.hid hn
  clear hn
  by_cases h : n < 10
  · have hc := conv_new1 (P := Try.prog) 88 9 5 Try.underlying88 Try.underlying5 Try.underlying9 w (48 + n) (hexDg n.toNat) (by rw [hexDg_lo _ (by omega)]; have := HN.out; omega)
    go_enter Try.func141, Try.ntmps141
    go_wp2
    go_ret
    exact ⟨rfl, (Below.refl _ _).alloc (Nat.le_refl _) _⟩
  · have hc := conv_new1 (P := Try.prog) 88 9 5 Try.underlying88 Try.underlying5 Try.underlying9 w (87 + n) (hexDg n.toNat) (by rw [hexDg_hi _ (by omega) (by omega)]; have := HN.out; omega)
    go_enter Try.func141, Try.ntmps141
    go_wp2
    go_ret
    exact ⟨rfl, (Below.refl _ _).alloc (Nat.le_refl _) _⟩

set_option maxHeartbeats 400000 in
theorem refHex_any (s : ByteArray) (w : World) (hs : s.size ≤ 35000000000000) :
    Calls Try.prog 115 #[.string s] w fun e w' => e = .returned (.string ⟨(hexT s.data.toList).toArray⟩) ∧ Below w.heap.size w w' := by
  go_enter Try.func115, Try.ntmps115
  go_wp2
  go_loopw [3, 4] (fun t i wr => ∃ (k : Nat) (T : ByteArray), k ≤ s.size ∧ i = .int .i64 k ∧ t = .string T ∧ Hid (T.data.toList = hexT (s.data.toList.take k)) ∧ Below w.heap.size w wr) (fun _ i _ => s.size - (RowKit.intOf i).toNat)
  case atStart => exact ⟨0, ⟨#[120]⟩, Nat.zero_le _, rfl, rfl, rfl, Below.refl _ _⟩
  case round =>
    obtain ⟨k, T, hk, rfl, rfl, HT, hbel⟩ := hrel
    have hTs : T.size = 1 + 2 * k := by
      have := congrArg List.length HT.out
      rw [hexT_length, List.length_take, Nat.min_eq_left (by rw [Array.length_toList]; exact hk), Array.length_toList] at this
      exact this
    by_cases hlt : k < s.size
    · have hsn := hexT_snoc s k hlt
      have HSN := Lib.hid hsn
      clear hsn
      obtain ⟨x, hx⟩ : ∃ x : Int, (s[k].toNat : Int) = x := ⟨_, rfl⟩
      have hx0 : 0 ≤ x := by omega
      have hx1 : x ≤ 255 := by have := u8_lt s[k]; omega
      have HX := Lib.hid hx
      have hw1 : IntKind.u8.wrap (x.tdiv 16) = x / 16 := IntWalk.u8_quo x 16 (by omega)
      have hw2 : x.tmod 16 = x % 16 := IntWalk.rem_in x 16 hx0
      obtain ⟨D1, hD1⟩ : ∃ D : ByteArray, D = ⟨[hexDg (x / 16).toNat].toArray⟩ := ⟨_, rfl⟩
      obtain ⟨D2, hD2⟩ : ∃ D : ByteArray, D = ⟨[hexDg (x % 16).toNat].toArray⟩ := ⟨_, rfl⟩
      have c1 := fun w => refDig_any (x / 16) w (by omega) (by omega)
      have c2 := fun w => refDig_any (x % 16) w (by omega) (by omega)
      rw [← hD1] at c1
      rw [← hD2] at c2
      have s1 : D1.size = 1 := by rw [hD1]; rfl
      have s2 : D2.size = 1 := by rw [hD2]; rfl
      have HD1 := Lib.hid hD1
      have HD2 := Lib.hid hD2
      have hn1 : (9223372036854775807 < T.size + D1.size) = False := by simp only [eq_iff_iff, iff_false]; omega
      have hn2 : (9223372036854775807 < T.size + D1.size + D2.size) = False := by simp only [eq_iff_iff, iff_false]; omega
      clear hD1 hD2 s1 s2 hTs
      go_wp2_with fail
      go_region_with (go_at_call 141; (first | with_reducible refine (c1 _).mono ?_ | with_reducible refine (c2 _).mono ?_); rintro e w' ⟨rfl, hb⟩)
      all_goals
        rename_i w1 hb1
        have hs1 := hbel.size
        have hs2 : wr.heap.size ≤ w1.heap.size := hb1.size
        have hbel2 : Below w.heap.size w w' := (hbel.drew.trans (hb1.mono hs1)).trans (hb.mono (by omega))
        have HR : Hid ((T ++ D1 ++ D2).data.toList = hexT (s.data.toList.take (k + 1))) := by
          show (T ++ D1 ++ D2).data.toList = _
          rw [HSN.out, HD1.out, HD2.out, ByteArray.data_append, ByteArray.data_append, Array.toList_append, Array.toList_append, HT.out]
          have e1 : (x / 16).toNat = s[k].toNat / 16 := by have := HX.out; omega
          have e2 : (x % 16).toNat = s[k].toNat % 16 := by have := HX.out; omega
          rw [e1, e2]
          simp
        clear hb hb1 hbel hw1 hw2 hn1 hn2 c1 c2 hx HT HSN HD1 HD2
        obtain ⟨R, hR⟩ : ∃ R, R = T ++ D1 ++ D2 := ⟨_, rfl⟩
        rw [← hR] at HR ⊢
        clear hR
        go_wp2
        go_roundw
        case rel => exact ⟨k + 1, R, by omega, by go_num, rfl, HR, hbel2⟩
        case measure => simp [RowKit.intOf]; omega
    · have hkk : k = s.size := by omega
      have hall : s.data.toList.take k = s.data.toList := by rw [List.take_of_length_le]; rw [Array.length_toList, hkk]; exact Nat.le_refl _
      have HA := Lib.hid (show (⟨(hexT s.data.toList).toArray⟩ : ByteArray) = T by rw [← hall, ← HT.out])
      clear hkk hall hTs
      go_wp2
      go_ret
      rw [HA.out]
      exact ⟨rfl, hbel⟩
end Go.Proofs.Ytgffmbdbjbhocaa
