/- Packed texts: ReMem, ReOwn, SuMem, SuPut, SuRow, UtRefF. What each of them proves stands above its theorems; the conditions stand in these. -/
import Derived.BigQuiet
import Derived.Deep.LoopGhost
import Derived.Deep.QuietTactic
import Derived.Deep.RegionHeld3
import Derived.Deep.RegionLaw
import Derived.Laws.CopyOwn
import Derived.Laws.Rows
import Derived.Lib.Hide
import Derived.Lib.Join
import Derived.LoopN
import Derived.Test.YtjdollmfjflkoaaGreatDoorShelf
import Derived.WalkLawsBesides
import Derived.WalkSpells
import Derived.Test.YtjdollmfjflkoaaGreatDoorB4
import Derived.Test.YtjdollmfjflkoaaGreatDoorB5
import Derived.Test.YtjdollmfjflkoaaGreatDoorB10
import Derived.Test.YtjdollmfjflkoaaGreatDoorB16
namespace Go.Proofs.YtjdollmfjflkoaaGreatDoor
open Go.RowKit Go.Lib

theorem own_block_lt {w : World} {B g n size : Nat} {e : TypeId} {v : Value} {xs : List Value} (h : w.ownsRow B e size v n xs) (hg : v.ownBlock = some g) : g < w.heap.size := by
  rcases h.2 with ⟨rfl, _⟩ | ⟨g', _, _, rfl, _, hh, _⟩
  · cases hg
  · cases hg; exact block_lt hh
theorem owns_same {w w' : World} {base n size : Nat} {e : TypeId} {v : Value} {xs : List Value} (h : w.ownsRow base e size v n xs) (hb : ∀ g, v.ownBlock = some g → w'.heap[g]? = w.heap[g]?) : w'.ownsRow base e size v n xs := by
  obtain ⟨h1, h2⟩ := h
  refine ⟨h1, ?_⟩
  rcases h2 with h2 | ⟨g, cap, cur, hv, hg, hh, r⟩
  · exact .inl h2
  · exact .inr ⟨g, cap, cur, hv, hg, (hb g (by rw [hv]; rfl)).trans hh, r⟩
end Go.Proofs.YtjdollmfjflkoaaGreatDoor
namespace Go.Proofs.YtjdollmfjflkoaaGreatDoor
open Go.RowKit Go.Lib

theorem own_zeroB {w : World} {B k : Nat} {e : TypeId} {v : Value} {xs : List Value} {n : Nat} (h : w.ownsRow B e k v n xs) : ∃ ao cap, v = .slice ao n cap := by
  rcases h.2 with ⟨hv, h0⟩ | ⟨g, cap, cur, hv, _⟩
  · exact ⟨_, _, by rw [hv, h0]⟩
  · exact ⟨_, _, hv⟩
theorem owns_alloc {w : World} {B n size : Nat} {e : TypeId} {v : Value} {xs : List Value} {o : Obj} (h : w.ownsRow B e size v n xs) : (w.alloc o).ownsRow B e size v n xs := owns_same h fun _g hg => Below.heap_alloc _ _ _ (own_block_lt h hg)
theorem cell_one' (w : World) (t : TypeId) (p : Value) : ∀ j x, [p][j]? = some x → (w.alloc (.cells #[p] t)).cell? ((⟨w.heap.size, 0, none⟩ : Addr).add j) = some x := by
  intro j x hj
  have h := heap_alloc_new w (.cells #[p] t)
  have e : (⟨w.heap.size, 0, none⟩ : Addr).add j = ⟨w.heap.size, j, none⟩ := by simp [Addr.add]; intro h; exact h.symm
  rw [e, cell_of_heap h]
  simpa using hj
end Go.Proofs.YtjdollmfjflkoaaGreatDoor
namespace Go.Proofs.YtjdollmfjflkoaaGreatDoor
open Go.RowKit Go.Lib

/-- A row of texts that can be read. -/
def Strs (v : Value) (xs : List ByteArray) (w : World) : Prop :=
  ∃ ao cap, v = .slice ao xs.length cap ∧ xs.length ≤ cap ∧ xs.length ≤ 140737488355328 ∧ ∀ j x, xs[j]? = some x → ∃ b o, ao = some ⟨b, o, none⟩ ∧ b < w.heap.size ∧ w.cell? ⟨b, o + j, none⟩ = some (.string x)
theorem Strs.below {v : Value} {xs : List ByteArray} {w w' : World} (h : Strs v xs w) (hb : Below w.heap.size w w') : Strs v xs w' := by
  obtain ⟨ao, cap, h1, hc, hl, h2⟩ := h
  refine ⟨ao, cap, h1, hc, hl, fun j x hj => ?_⟩
  obtain ⟨b, o, h3, h4, h5⟩ := h2 j x hj
  refine ⟨b, o, h3, Nat.lt_of_lt_of_le h4 hb.size, ?_⟩
  rw [← h5]
  unfold World.cell?
  rw [hb.block b h4]
theorem Strs.len {ao : Option Addr} {N cap : Nat} {xs : List ByteArray} {w : World} (h : Strs (.slice ao N cap) xs w) : N = xs.length ∧ N ≤ cap ∧ N ≤ 140737488355328 := by
  obtain ⟨_, _, h1, h2, h3, _⟩ := h
  cases h1
  exact ⟨rfl, h2, h3⟩
theorem Strs.at {ao : Option Addr} {N cap : Nat} {xs : List ByteArray} {w : World} (h : Strs (.slice ao N cap) xs w) {j : Nat} {x : ByteArray} (hj : xs[j]? = some x) : ∃ b o, ao = some ⟨b, o, none⟩ ∧ b < w.heap.size ∧ w.cell? ⟨b, o + j, none⟩ = some (.string x) := by
  obtain ⟨_, _, h1, _, _, h2⟩ := h
  cases h1
  exact h2 j x hj
theorem Strs.nil (w : World) : Strs (.slice none 0 0) [] w := ⟨none, 0, rfl, Nat.le_refl _, Nat.zero_le _, fun j x h => by simp at h⟩
end Go.Proofs.YtjdollmfjflkoaaGreatDoor
namespace Go.Proofs.YtjdollmfjflkoaaGreatDoor
open Go.RowKit Go.Lib

theorem ba_eq (x y : ByteArray) : (x.toList == y.toList) = true ↔ x = y := by
  rw [beq_iff_eq, ByteArray.toList_eq, ByteArray.toList_eq]
  constructor
  · exact ba_ext
  · intro h; rw [h]
set_option maxHeartbeats 2000000 in
set_option maxRecDepth 20000 in
theorem refSameS_len (ao bo : Option Addr) (N M cap cap2 : Nat) (w : World) (_hN : N ≤ 140737488355328) (_hM : M ≤ 140737488355328) (h : N ≠ M) :
    Calls Tryz.prog 10 #[.slice ao N cap, .slice bo M cap2] w fun e w' => e = .returned (.bool false) ∧ Below w.heap.size w w' := by
  have h1 : ((N : Int) != (M : Int)) = true := by simp; omega
  go_enter Tryz.func10, Tryz.ntmps10
  go_wp2
  exact bodyPost_ret (results_tmp rfl _ _ _) rfl ⟨rfl, Below.refl _ _⟩
set_option maxHeartbeats 2000000 in
set_option maxRecDepth 20000 in
theorem refSameS_walk (ao bo : Option Addr) (N cap cap2 : Nat) (xs ys : List ByteArray) (w : World) (h : Strs (.slice ao N cap) xs w) (h2 : Strs (.slice bo N cap2) ys w) :
    Calls Tryz.prog 10 #[.slice ao N cap, .slice bo N cap2] w fun e w' => e = .returned (.bool (decide (xs = ys))) ∧ Below w.heap.size w w' := by
  obtain ⟨hN, _, hN2⟩ := h.len
  obtain ⟨hM, _, _⟩ := h2.len
  have H := Lib.hid h
  have H2 := Lib.hid h2
  have HN := Lib.hid (And.intro hN hM)
  have h1 : ((N : Int) != (N : Int)) = false := by simp
  clear h h2 hN hM
  go_enter Tryz.func10, Tryz.ntmps10
  go_wp2
  go_loopg [5] (N + 1) (fun k i wr => ∃ (j : Nat), i = .int .i64 j ∧ j ≤ N ∧ Hid (k = N + 1 - j) ∧ Hid (∀ q, q < j → xs[q]? = ys[q]?) ∧ Hid (Below w.heap.size w wr))
  case atStart => exact ⟨0, rfl, by omega, rfl, fun q hq => by omega, Below.refl _ _⟩
  case round =>
    obtain ⟨j, rfl, hj, HK, HS, HB⟩ := hrel
    by_cases hlt : j < N
    · obtain ⟨m, hm⟩ : ∃ n, xs[j]? = some n := ⟨xs[j]'(by have := HN.out.1; omega), List.getElem?_eq_getElem _⟩
      obtain ⟨n, hn⟩ : ∃ n, ys[j]? = some n := ⟨ys[j]'(by have := HN.out.2; omega), List.getElem?_eq_getElem _⟩
      obtain ⟨b, o, rfl, hb, ca⟩ := (H.out.below HB.out).at hm
      obtain ⟨b2, o2, rfl, hb2, cb⟩ := (H2.out.below HB.out).at hn
      have hI : IntKind.i64.wrap ((j : Int) + 1) = ((j + 1 : Nat) : Int) := by rw [IntWalk.i64_in _ (by omega)]; omega
      obtain ⟨q, hq⟩ : ∃ q, (m.toList == n.toList) = q := ⟨_, rfl⟩
      have HQ := Lib.hid (And.intro hq (And.intro hm hn))
      clear hm hn
      cases q
      · have hne : xs ≠ ys := fun e => by
          have h1 := HQ.out.2.1
          rw [e, HQ.out.2.2] at h1
          have e : n = m := Option.some.inj h1
          have h2 := HQ.out.1
          rw [(ba_eq m n).2 e.symm] at h2
          cases h2
        have HD := Lib.hid (decide_eq_false hne)
        clear hne
        go_wp2_with fail
        go_region
        all_goals
          go_wp2
          exact bodyPost_ret (results_tmp rfl _ _ _) rfl ⟨by rw [HD.out]; rfl, HB.out.drew⟩
      · have e : m = n := (ba_eq m n).1 hq
        have HE := Lib.hid e
        clear e
        go_wp2_with fail
        go_region
        all_goals
          go_wp2
          go_roundg (N - j)
          case rel => exact ⟨j + 1, by go_num, by omega, by show _ = _; omega, fun q hq => by
            by_cases hqj : q = j
            · rw [hqj, HQ.out.2.1, HQ.out.2.2, HE.out]
            · exact HS.out q (by omega), HB.out.drew⟩
          case measure => have := HK.out; omega
    · have hd : decide ((j : Int) < (N : Int)) = false := by simp; omega
      have heq : xs = ys := by
        apply List.ext_getElem?
        intro q
        by_cases hq : q < j
        · exact HS.out q hq
        · rw [List.getElem?_eq_none (by have := HN.out.1; omega), List.getElem?_eq_none (by have := HN.out.2; omega)]
      have HD := Lib.hid (decide_eq_true heq)
      clear heq
      go_wp2
      exact bodyPost_ret (results_tmp rfl _ _ _) rfl ⟨by rw [HD.out]; rfl, HB.out⟩
/-- The document's Same, of rows of texts. -/
theorem refSameS_any (u v : Value) (xs ys : List ByteArray) (w : World) (h : Strs u xs w) (h2 : Strs v ys w) :
    Calls Tryz.prog 10 #[u, v] w fun e w' => e = .returned (.bool (decide (xs = ys))) ∧ Below w.heap.size w w' := by
  have h' := h
  have h2' := h2
  obtain ⟨ao, cap, rfl, _, hl, _⟩ := h
  obtain ⟨bo, cap2, rfl, _, hl2, _⟩ := h2
  by_cases hN : xs.length = ys.length
  · rw [← hN] at h2' ⊢
    exact refSameS_walk ao bo xs.length cap cap2 xs ys w h' h2'
  · have hD : decide (xs = ys) = false := decide_eq_false fun e => hN (by rw [e])
    rw [hD]
    exact refSameS_len ao bo _ _ cap cap2 w hl hl2 hN
end Go.Proofs.YtjdollmfjflkoaaGreatDoor
namespace Go.Proofs.YtjdollmfjflkoaaGreatDoor
open Go.RowKit Go.Lib
attribute [local go_sem] Oper.semAt_some

theorem Tryz.infoStrU : (Tryz.prog.info? 9).map (fun i => (i.zero, i.size, i.bytes)) = some (some (.string ByteArray.empty), 1, 16) := by kernel_rfl
def strC (xs : List ByteArray) : List Value := xs.map Value.string
theorem strC_append (a b : List ByteArray) : strC (a ++ b) = strC a ++ strC b := List.map_append
/-- A row of texts of one's own can be read. -/
theorem strs_of_owns {w : World} {B n : Nat} {v : Value} {xs : List ByteArray} (h : w.ownsRow B 9 1 v n (strC xs)) (hn : n = xs.length) (hl : n ≤ 140737488355328) : Strs v xs w := by
  subst hn
  rcases h.2 with ⟨hv, h0⟩ | ⟨g, cap, cur, hv, _, hg, hc, _, hz, htk⟩
  · have e : xs = [] := List.eq_nil_of_length_eq_zero h0
    subst e
    subst hv
    exact Strs.nil w
  · refine ⟨some ⟨g, 0, none⟩, cap, hv, hc, hl, fun j x hj => ⟨g, 0, rfl, block_lt hg, ?_⟩⟩
    have hjl : j < xs.length := by
      by_cases h : j < xs.length
      · exact h
      · rw [List.getElem?_eq_none (by omega)] at hj; cases hj
    have e : (strC xs)[j]? = some (.string x) := by unfold strC; rw [List.getElem?_map, hj]; rfl
    rw [← htk, List.getElem?_take_of_lt (by omega)] at e
    rw [cell_of_heap hg, Nat.zero_add]
    simpa using e
end Go.Proofs.YtjdollmfjflkoaaGreatDoor
namespace Go.Proofs.YtjdollmfjflkoaaGreatDoor
open Go.RowKit Go.Lib
attribute [local go_sem] Oper.semAt_some

/-- What holds between two rounds: acc are done, now is open, the row v holds acc. -/
structure RfF (l : List UInt8) (B : Nat) (w : World) (v : Value) (now : List UInt8) (k : Nat) (acc : List (List UInt8)) (W : World) : Prop where
  eq : fieldsU l = acc ++ fieldsA now (l.drop k)
  own : W.ownsRow B 9 1 v acc.length (strC (acc.map ba))
  low : Below B w W
  la : acc.length ≤ k
  ln : now.length ≤ k
set_option maxHeartbeats 4000000 in
set_option maxRecDepth 100000 in
theorem refFieldsU_any (s : ByteArray) (w : World) (hs : s.size ≤ 1000000) :
    Calls Tryz.prog 12 #[.string s] w fun e w' => ∃ v, e = .returned v ∧ Strs v ((fieldsU s.data.toList).map ba) w' ∧ Below w.heap.size w w' := by
  have hlen : s.data.toList.length = s.size := Array.length_toList
  obtain ⟨i0, hi, hz0, hz1, hz2⟩ := info_parts Tryz.infoStrU
  have HI0 := Lib.hid (And.intro hi (And.intro hz0 (And.intro hz1 hz2)))
  have HL := Lib.hid hlen
  clear hlen hi hz0 hz1 hz2
  go_enter Tryz.func12, Tryz.ntmps12
  go_wp2_with fail
  go_loopg [3, 4, 5] (s.size + 1) (fun g v3 v4 v5 wr => ∃ (k : Nat) (t : ByteArray), v4 = .string t ∧ v5 = .int .i64 k ∧ k ≤ s.size ∧ Hid (g = s.size + 1 - k) ∧ Hid (∃ acc, RfF s.data.toList w.heap.size w v3 t.data.toList k acc wr))
  case atStart => exact ⟨0, ⟨#[]⟩, rfl, rfl, by omega, rfl, [], rfl, World.ownsRow_nil _ _ _ _, Below.refl _ _, Nat.le_refl _, Nat.le_refl _⟩
  case round =>
    obtain ⟨k, t, rfl, rfl, hk, HK, HS⟩ := hrel
    obtain ⟨acc, HA⟩ := HS.out
    have hown := HA.own
    have hlow := HA.low
    obtain ⟨a4, c4, rfl⟩ := own_zeroB hown
    obtain ⟨m4, hm4⟩ : ∃ m4, m4 = acc.length := ⟨_, rfl⟩
    rw [← hm4] at hown ⊢
    have hac := HA.la
    rw [← hm4] at hac
    have htn := HA.ln
    rw [← size_eq] at htn
    have m4b : m4 ≤ 1000000 := by omega
    have tb : t.size ≤ 1000000 := by omega
    have hsz := hlow.size
    have HO := Lib.hid (And.intro hown hlow)
    have HAA := Lib.hid HA
    have HM := Lib.hid hm4
    clear hown hlow hm4 htn hac HS
    have z0 : t.toList.isEmpty = decide (t.data.toList = []) := by rw [ByteArray.toList_eq]; cases t.data.toList <;> simp
    by_cases hlt : k < s.size
    · have hltI : (k : Int) < (s.size : Int) := by omega
      obtain ⟨c, hc⟩ : ∃ c, s[k] = c := ⟨_, rfl⟩
      have hd : s.data.toList.drop k = c :: s.data.toList.drop (k + 1) := by
        rw [List.drop_eq_getElem_cons (by rw [HL.out]; exact hlt)]
        congr 1
      have HD := Lib.hid hd
      have hcl := c.toNat_lt
      have cx : ∀ (d : UInt8), ((c.toNat : Int) == (d.toNat : Int)) = decide (c = d) := fun d => by
        rw [Bool.eq_iff_iff]
        simp only [beq_iff_eq, decide_eq_true_eq]
        constructor
        · intro h; exact UInt8.toNat_inj.1 (by omega)
        · intro h; rw [h]
      have c32 : ((c.toNat : Int) == 32) = decide (c = 32) := cx 32
      have c9 : ((c.toNat : Int) == 9) = decide (c = 9) := cx 9
      clear cx hd
      cases hb : blankU c with
      | true =>
        have hb' : (((c.toNat : Int) == 32) = true) ∨ (((c.toNat : Int) == 32) = false ∧ ((c.toNat : Int) == 9) = true) := by
          unfold blankU at hb
          rw [c32, c9]
          by_cases h : c = 32
          · exact .inl (decide_eq_true h)
          · refine .inr ⟨decide_eq_false h, decide_eq_true ?_⟩
            simpa [h] using hb
        have HBK := Lib.hid hb
        clear c32 c9 hb
        by_cases ht : t.data.toList = []
        · rw [decide_eq_true ht] at z0
          have HT := Lib.hid ht
          clear ht
          rcases hb' with c32 | ⟨c32, c9⟩
          all_goals
            go_wp2_with fail
            go_roundg (s.size - k)
            case rel =>
              refine ⟨k + 1, ⟨#[]⟩, rfl, by go_num, by omega, by show _ = _; omega, acc, ?_, by rw [← HM.out]; exact HO.out.1, HO.out.2, by have := HAA.out.la; omega, Nat.zero_le _⟩
              have := HAA.out.eq
              rw [HD.out, HT.out, fieldsA, HBK.out, if_pos rfl, if_pos rfl] at this
              exact this
            case measure => have := HK.out; omega
        · rw [decide_eq_false ht] at z0
          have HT := Lib.hid ht
          clear ht
          rcases hb' with c32 | ⟨c32, c9⟩
          all_goals
            go_wp2_with (first
              | (at_builtin; refine wpList_append_own _ rfl (.tmp 24) (.tmp 26) 26 rfl w.heap.size 9 i0 (.string ByteArray.empty) 1 16 Tryz.underlying26 HI0.out.1 HI0.out.2.1 HI0.out.2.2.1 HI0.out.2.2.2 rfl (by decide) _ m4 (strC (acc.map ba)) rfl (owns_alloc HO.out.1) ⟨wr.heap.size, 0, none⟩ 1 1 [.string t] rfl rfl (cell_one' _ _ _) (by simp [Value.oneCell']) (by unfold maxLen; omega) (by omega) (by simp; omega) ?_; intro v6 w6 hown6 hgrow6 _
                 have hb6 : Below w.heap.size w w6 := (HO.out.2.alloc (by omega) _).grown hgrow6 (by simp; omega) (fun r hr => own_base HO.out.1 hr)
                 have H6 := Lib.hid (And.intro hown6 hb6)
                 clear hown6 hgrow6 hb6)
              | fail)
            go_roundg (s.size - k)
            case rel =>
              refine ⟨k + 1, ⟨#[]⟩, rfl, by go_num, by omega, by show _ = _; omega, acc ++ [t.data.toList], ?_, ?_, H6.out.2, by rw [List.length_append]; simp; have := HAA.out.la; omega, Nat.zero_le _⟩
              · have := HAA.out.eq
                rw [HD.out, fieldsA, HBK.out, if_pos rfl, if_neg HT.out] at this
                rw [this, List.append_assoc]
                rfl
              · have := H6.out.1
                rw [List.length_append, List.map_append, strC_append, ← HM.out]
                exact this
            case measure => have := HK.out; omega
      | false =>
        have hb' : ((c.toNat : Int) == 32) = false ∧ ((c.toNat : Int) == 9) = false := by
          unfold blankU at hb
          rw [Bool.or_eq_false_iff, beq_eq_false_iff_ne, beq_eq_false_iff_ne] at hb
          rw [c32, c9]
          exact ⟨decide_eq_false hb.1, decide_eq_false hb.2⟩
        obtain ⟨e32, e9⟩ := hb'
        have HBK := Lib.hid hb
        clear c32 c9 hb z0
        have hI : IntKind.i64.wrap ((k : Int) + 1) = (k : Int) + 1 := IntWalk.i64_in _ (by omega)
        have hpl : (s.extract k (k + 1)).data.toList = [c] := by
          rw [extract_piece]
          unfold pieceU
          rw [HD.out]
          simp
        have hps : (s.extract k (k + 1)).size = 1 := by rw [size_eq, hpl]; rfl
        have HP := Lib.hid hpl
        clear hpl
        go_wp2_with fail
        go_roundg (s.size - k)
        case rel =>
          refine ⟨k + 1, t ++ s.extract k (k + 1), rfl, by go_num, by omega, by show _ = _; omega, acc, ?_, by rw [← HM.out]; exact HO.out.1, HO.out.2, by have := HAA.out.la; omega, ?_⟩
          · have := HAA.out.eq
            rw [HD.out, fieldsA, HBK.out, if_neg (by simp)] at this
            rw [this, ByteArray.data_append, Array.toList_append, HP.out]
          · rw [ByteArray.data_append, Array.toList_append, HP.out, List.length_append]
            have := HAA.out.ln
            rw [List.length_singleton]
            omega
        case measure => have := HK.out; omega
    · obtain rfl : k = s.size := by omega
      have hend : s.data.toList.drop s.size = [] := List.drop_eq_nil_of_le (by rw [HL.out]; exact Nat.le_refl _)
      have hfin := HAA.out.eq
      rw [hend, fieldsA] at hfin
      clear hend
      by_cases ht : t.data.toList = []
      · rw [decide_eq_true ht] at z0
        rw [if_pos ht, List.append_nil] at hfin
        have HFIN := Lib.hid hfin
        clear hfin ht
        go_wp2_with fail
        go_ret
        refine ⟨_, rfl, ?_, HO.out.2⟩
        have := strs_of_owns HO.out.1 (by rw [List.length_map]; exact HM.out) (by omega)
        rw [HFIN.out]
        exact this
      · rw [decide_eq_false ht] at z0
        rw [if_neg ht] at hfin
        have HFIN := Lib.hid hfin
        clear hfin ht
        go_wp2_with (first
          | (at_builtin; refine wpList_append_own _ rfl (.tmp 37) (.tmp 39) 26 rfl w.heap.size 9 i0 (.string ByteArray.empty) 1 16 Tryz.underlying26 HI0.out.1 HI0.out.2.1 HI0.out.2.2.1 HI0.out.2.2.2 rfl (by decide) _ m4 (strC (acc.map ba)) rfl (owns_alloc HO.out.1) ⟨wr.heap.size, 0, none⟩ 1 1 [.string t] rfl rfl (cell_one' _ _ _) (by simp [Value.oneCell']) (by unfold maxLen; omega) (by omega) (by simp; omega) ?_; intro v6 w6 hown6 hgrow6 _
             have hb6 : Below w.heap.size w w6 := (HO.out.2.alloc (by omega) _).grown hgrow6 (by simp; omega) (fun r hr => own_base HO.out.1 hr)
             have H6 := Lib.hid (And.intro hown6 hb6)
             clear hown6 hgrow6 hb6)
          | fail)
        go_ret
        refine ⟨_, rfl, ?_, H6.out.2⟩
        have h := H6.out.1
        have hx : strC (acc.map ba) ++ [.string t] = strC ((acc ++ [t.data.toList]).map ba) := by rw [List.map_append, strC_append]; rfl
        rw [hx] at h
        have := strs_of_owns h (by rw [List.length_map, List.length_append, HM.out]; rfl) (by omega)
        rw [HFIN.out]
        exact this
end Go.Proofs.YtjdollmfjflkoaaGreatDoor
