/- Packed texts: SeBound, SeRead. What each of them proves stands above its theorems; the conditions stand in these. -/
import Derived.Maps.Own
import Derived.Maps.OwnOps
import Derived.Maps.OwnSet
import Derived.Maps.Views
import Derived.StringKeys
import Derived.WalkArith
import Derived.Test.YtgceckejchdnlaaGreatDoorB30
namespace Go.Proofs.YtgceckejchdnlaaGreatDoor
open Go.RowKit Go.Lib Go.Maps

theorem flat13 : ∀ (xss : List (List Value)) (i j : Nat) (x : List Value), (∀ y ∈ xss, y.length = 13) → xss[i]? = some x → j < 13 → xss.flatten[i * 13 + j]? = x[j]?
  | [], i, j, x, _, h, _ => by simp at h
  | y :: r, 0, j, x, ha, h, hj => by
    cases h
    have hy := ha y (by simp)
    rw [List.flatten_cons, Nat.zero_mul, Nat.zero_add, List.getElem?_append_left (by omega)]
  | y :: r, i + 1, j, x, ha, h, hj => by
    have hy := ha y (by simp)
    have h' : r[i]? = some x := by simpa using h
    rw [List.flatten_cons, List.getElem?_append_right (by omega), hy]
    have : (i + 1) * 13 + j - 13 = i * 13 + j := by omega
    rw [this]
    exact flat13 r i j x (fun z hz => ha z (by simp [hz])) h' hj
/-- A command of a row, cell by cell. -/
theorem ScrS.row {B n cap : Nat} {ao : Option Addr} {cs : List Cm} {w : World} (h : ScrS B cs (.slice ao n cap) w) {k : Nat} {c : Cm} (hk : cs[k]? = some c) :
    ∃ g a1 a2 a3 b1 b2 b3 d1 d2 d3 q1 q2 q3, ao = some ⟨g, 0, none⟩ ∧ g < w.heap.size ∧ CmS B c [.int .u8 (c.op.toNat : Int), .int .i64 (c.a.k : Int), .int .i64 (c.a.n : Int), .slice a1 a2 a3, .int .i64 (c.b.k : Int), .int .i64 (c.b.n : Int), .slice b1 b2 b3, .bool c.neg, .slice d1 d2 d3, .slice q1 q2 q3, .bool c.all, .bool c.prt, .string ⟨c.label.toArray⟩] w ∧
      (w.cell? ⟨g, k * 13, none⟩ = some (.int .u8 (c.op.toNat : Int)) ∧ w.cell? ⟨g, k * 13 + 1, none⟩ = some (.int .i64 (c.a.k : Int)) ∧ w.cell? ⟨g, k * 13 + 2, none⟩ = some (.int .i64 (c.a.n : Int)) ∧ w.cell? ⟨g, k * 13 + 3, none⟩ = some (.slice a1 a2 a3) ∧ w.cell? ⟨g, k * 13 + 4, none⟩ = some (.int .i64 (c.b.k : Int)) ∧ w.cell? ⟨g, k * 13 + 5, none⟩ = some (.int .i64 (c.b.n : Int)) ∧ w.cell? ⟨g, k * 13 + 6, none⟩ = some (.slice b1 b2 b3) ∧ w.cell? ⟨g, k * 13 + 7, none⟩ = some (.bool c.neg) ∧ w.cell? ⟨g, k * 13 + 8, none⟩ = some (.slice d1 d2 d3) ∧ w.cell? ⟨g, k * 13 + 9, none⟩ = some (.slice q1 q2 q3) ∧ w.cell? ⟨g, k * 13 + 10, none⟩ = some (.bool c.all) ∧ w.cell? ⟨g, k * 13 + 11, none⟩ = some (.bool c.prt) ∧ w.cell? ⟨g, k * 13 + 12, none⟩ = some (.string ⟨c.label.toArray⟩)) := by
  obtain ⟨xss, h1, h2, h3⟩ := h
  have hlt : k < cs.length := by
    by_cases h : k < cs.length
    · exact h
    · rw [List.getElem?_eq_none (by omega)] at hk; cases hk
  have hx : xss[k]? = some xss[k] := List.getElem?_eq_getElem (by omega)
  have hcm := h3 k c _ hk hx
  have hlen : ∀ y ∈ xss, y.length = 13 := fun y hy => by
    obtain ⟨i, hi⟩ := List.getElem?_of_mem hy
    have hil : i < xss.length := by
      by_cases h : i < xss.length
      · exact h
      · rw [List.getElem?_eq_none (by omega)] at hi; cases hi
    exact (h3 i _ y (List.getElem?_eq_getElem (by omega)) hi).len
  rcases h2.2 with ⟨hv, h0⟩ | ⟨g, cap', cur, hv, hB, hg, hc, hm, hz, htk⟩
  · omega
  · have hn : n = cs.length := by
      have := congrArg (fun v => match v with | Value.slice _ n _ => n | _ => 0) hv
      simpa using this
    have hcell : ∀ j v, j < 13 → xss[k][j]? = some v → w.cell? ⟨g, k * 13 + j, none⟩ = some v := fun j v hj hv => by
      have h4 := flat13 xss k j _ hlen hx hj
      rw [hv] at h4
      rw [cell_of_heap hg]
      rw [← htk, List.getElem?_take_of_lt (by omega)] at h4
      simpa using h4
    have hcm' := hcm
    obtain ⟨va, vb, v, u, he, hva, hvb, hv', hu⟩ := hcm
    obtain ⟨a1, a2, a3, rfl⟩ := ads_slice hva
    obtain ⟨b1, b2, b3, rfl⟩ := ads_slice hvb
    obtain ⟨d1, d2, d3, rfl⟩ := res_slice hv'
    obtain ⟨q1, q2, rfl⟩ := own_zeroB hu
    rw [he] at hcm' hcell
    refine ⟨g, a1, a2, a3, b1, b2, b3, d1, d2, d3, q1, _, q2, ?_, block_lt hg, hcm', ⟨hcell 0 _ (by omega) rfl, hcell 1 _ (by omega) rfl, hcell 2 _ (by omega) rfl, hcell 3 _ (by omega) rfl, hcell 4 _ (by omega) rfl, hcell 5 _ (by omega) rfl, hcell 6 _ (by omega) rfl, hcell 7 _ (by omega) rfl, hcell 8 _ (by omega) rfl, hcell 9 _ (by omega) rfl, hcell 10 _ (by omega) rfl, hcell 11 _ (by omega) rfl, hcell 12 _ (by omega) rfl⟩⟩
    have := congrArg (fun v => match v with | Value.slice a _ _ => a | _ => none) hv
    simpa using this
theorem ScrS.shape {B : Nat} {cs : List Cm} {v : Value} {w : World} (h : ScrS B cs v w) : ∃ ao cap, v = .slice ao cs.length cap := by
  obtain ⟨xss, h1, h2, h3⟩ := h
  exact own_zeroB h2
theorem str_law : Keyed Tryz.prog 9 := string_keyed Tryz.underlying9
theorem zeroI (w : World) : (zeroValue 3).run Tryz.prog w = .ok (.int .i64 0) w := by kernel_rfl
/-- What the map holds: how often each label stands. -/
def CntD (D : DataW Unit) (cs : List Cm) : Prop := ∀ x : List UInt8, D.atKey (.string x) (.lit (.int .i64 0)) = .lit (.int .i64 (standsN cs x : Int))
theorem cnt_nil : CntD (.map []) [] := fun _ => rfl
theorem stands_snoc (cs : List Cm) (c : Cm) (x : List UInt8) : standsN (cs ++ [c]) x = standsN cs x + (if c.op == 58 && c.label == x then 1 else 0) := by
  unfold standsN
  rw [List.filter_append, List.length_append]
  by_cases h : (c.op == 58 && c.label == x) = true
  · simp [List.filter, h]
  · simp only [Bool.not_eq_true] at h
    simp [List.filter, h]
theorem cnt_skip {D : DataW Unit} {cs : List Cm} {c : Cm} (h : CntD D cs) (hc : c.op ≠ 58) : CntD D (cs ++ [c]) := fun x => by
  rw [h x, stands_snoc]
  have : (c.op == 58) = false := by rw [beq_eq_false_iff_ne]; exact hc
  rw [this]
  simp
theorem cnt_more {D : DataW Unit} {cs : List Cm} {c : Cm} (h : CntD D cs) (hm : IsMap D) (hc : c.op = 58) : CntD (D.put (.string c.label) (.lit (.int .i64 ((standsN cs c.label : Int) + 1)))) (cs ++ [c]) := fun x => by
  rw [stands_snoc, hc]
  by_cases hx : x = c.label
  · subst hx
    rw [atKey_put_same (k := .string c.label) hm (by unfold WideAt.IsKeyLit; trivial)]
    simp
  · rw [atKey_put_other (fun e => hx (Lit.string.inj e)), h x]
    have : (c.label == x) = false := by rw [beq_eq_false_iff_ne]; exact fun e => hx e.symm
    rw [this]
    simp
theorem stands_le (cs : List Cm) (x : List UInt8) : standsN cs x ≤ cs.length := List.length_filter_le _ _
/-- The first loop. -/
structure BdI (w : World) (cs : List Cm) (k : Nat) (wr : World) : Prop where
  low : Below w.heap.size w wr
  own : ∃ D : DataW Unit, wr.ownsMap Tryz.prog 9 (plainElem Tryz.prog 3) w.heap.size k D ∧ CntD D (cs.take k)
set_option maxHeartbeats 8000000 in
set_option maxRecDepth 20000 in
theorem bound_any (B : Nat) (cs : List Cm) (v : Value) (w : World) (h : ScrS B cs v w) (hl : cs.length ≤ 1000000000) (hla : ∀ c ∈ cs, c.label.length ≤ 1000000000) :
    Calls Tryz.prog 12 #[v] w fun e w' => e = .returned (.bool (boundD cs)) ∧ Below w.heap.size w w' := by
  obtain ⟨ao, cap, rfl⟩ := h.shape
  obtain ⟨n, hn⟩ : ∃ n, n = cs.length := ⟨_, rfl⟩
  rw [← hn] at h hl ⊢
  have HS := Lib.hid h
  have HN := Lib.hid hn
  have HLA := Lib.hid hla
  clear h hn hla
  have hmm := @run_makeMap Tryz.prog
  have HB0 : Hid (BdI w cs 0 (w.alloc (.map #[] 0))) := ⟨(Below.refl _ w).alloc (Nat.le_refl _) _, _, World.ownsMap_made w Tryz.prog 9 _, by rw [List.take_zero]; exact cnt_nil⟩
  go_enter Tryz.func12, Tryz.ntmps12
  go_wp2_with fail
  go_loopw [11] (fun i wr => ∃ k : Nat, k ≤ n ∧ i = .int .i64 k ∧ Hid (BdI w cs k wr)) (fun i _ => n - (RowKit.intOf i).toNat)
  case atStart => exact ⟨0, Nat.zero_le _, rfl, HB0⟩
  case round =>
    obtain ⟨k, hk, rfl, HB⟩ := hrel
    have hsr := HS.out.below HB.out.low
    by_cases hlt : k < n
    · have hltI : (k : Int) < (n : Int) := by omega
      obtain ⟨c, hc⟩ : ∃ c, cs[k]? = some c := ⟨cs[k]'(by have := HN.out; omega), List.getElem?_eq_getElem _⟩
      obtain ⟨g, p1, p2, p3, b1, b2, b3, d1, d2, d3, q1, q2, q3, rfl, hgl, hcm, ⟨a0, a1, a2, a3, a4, a5, a6, a7, a8, a9, a10, a11, a12⟩⟩ := hsr.row hc
      have HC := Lib.hid hc
      have hz := HB.out.low.size
      have hlc : c.label.length ≤ 1000000000 := HLA.out c (List.mem_of_getElem? hc)
      have htk : cs.take (k + 1) = cs.take k ++ [c] := by rw [List.take_add_one, hc]; rfl
      have HT := Lib.hid htk
      clear hcm hc hsr htk
      obtain ⟨X, hX⟩ : ∃ X : ByteArray, X = ⟨c.label.toArray⟩ := ⟨_, rfl⟩
      rw [← hX] at a12
      have hXz : X.size ≤ 1000000000 := by rw [hX]; show c.label.toArray.size ≤ _; rw [List.size_toArray]; exact hlc
      have hXl : X.data.toList = c.label := by rw [hX]
      have HX := Lib.hid hXl
      clear hX hXl
      by_cases h58 : c.op = 58
      · have e58 : ((c.op.toNat : Int) == 58) = true := by rw [h58]; rfl
        obtain ⟨D, hD, hCnt⟩ := HB.out.own
        have hmap := hD.isMap
        have HD := Lib.hid hD
        have HCn := Lib.hid (And.intro hCnt hmap)
        have hst := stands_le (cs.take k) c.label
        have hkey : keyOf Tryz.prog 9 (.string X) = some (.string c.label) := by rw [← HX.out]; exact WideMaps.keyOf_string_mk Tryz.underlying9 (by unfold maxLen; omega)
        have HK := Lib.hid hkey
        have hstk : standsN (cs.take k) c.label ≤ 1000000000 := by have := List.length_take_le k cs; omega
        have HST := Lib.hid hstk
        clear hD hCnt hmap hst hkey hstk
        have hown1 : ∀ o, (wr.alloc o).ownsMap Tryz.prog 9 (plainElem (H := Unit) Tryz.prog 3) w.heap.size k D := fun o => by
          obtain ⟨es, cl, hb, r⟩ := HD.out
          exact ⟨es, cl, (Below.heap_alloc _ _ _ (block_lt hb)).trans hb, r⟩
        have HO1 := Lib.hid hown1
        clear hown1
        go_wp2_with (first
          | (at_lookup; refine wpList_lookup_own_int _ rfl _ _ 51 rfl 9 3 .i64 str_law Tryz.underlying51 Tryz.underlying3 (zeroI _) w.heap.size k _ rfl (HO1.out _) _ _ rfl HK.out ?_; intro cn hat hwc
             have hcn : cn = (standsN (cs.take k) c.label : Int) := (by have h1 := HCn.out.1 c.label; rw [hat] at h1; exact (Lit.int.inj (DataW.lit.inj h1)).2)
             have hcn0 : 0 ≤ cn ∧ cn ≤ 1000000000 := (by have := HST.out; omega)
             have HCN := Lib.hid hcn
             clear hat hwc hcn)
          | (at_mapUpdate; refine wpList_mapUpdate_own _ rfl _ _ _ 51 rfl 9 3 str_law Tryz.underlying51 _ w.heap.size k _ rfl (HO1.out _) (by unfold maxLen; omega) _ _ _ rfl rfl HK.out _ [] (plainElem_int (a := cn + 1) Tryz.underlying3 (WalkArith.wf_i64 (by omega))) ?_; intro w1 hown1 hgrow1
             have HG1 := Lib.hid (And.intro hown1 hgrow1)
             clear hown1 hgrow1))
        go_roundw
        case rel =>
          refine ⟨k + 1, by omega, by go_num, ⟨(HB.out.low.alloc hz _).grown HG1.out.2 (by simp; omega) (fun r hr => by cases hr; exact Nat.le_refl _), _, HG1.out.1, ?_⟩⟩
          rw [HT.out, HCN.out]
          exact cnt_more HCn.out.1 HCn.out.2 h58
        case measure => simp [RowKit.intOf]; omega
      · have e58 : ((c.op.toNat : Int) == 58) = false := ne_byte (d := 58) h58
        have hown1 : ∀ o, BdI w cs (k + 1) (wr.alloc o) := fun o => by
          obtain ⟨D, ⟨es, cl, hb, r1, r2, r3⟩, hCnt⟩ := HB.out.own
          exact ⟨HB.out.low.alloc hz _, D, ⟨es, cl, (Below.heap_alloc _ _ _ (block_lt hb)).trans hb, r1, by omega, r3⟩, by rw [HT.out]; exact cnt_skip hCnt h58⟩
        have HO1 := Lib.hid hown1
        clear hown1
        go_wp2_with fail
        go_roundw
        case rel => exact ⟨k + 1, by omega, by go_num, HO1.out _⟩
        case measure => simp [RowKit.intOf]; omega
    · have hkn : k = n := by omega
      subst hkn
      go_wp2_with fail
      go_loopw [26] (fun i WR2 => ∃ j : Nat, j ≤ k ∧ i = .int .i64 j ∧ Hid (BdI w cs k WR2) ∧ Hid (∀ r, r < j → ∀ c, cs[r]? = some c → (c.label == [] || standsN cs c.label == 1) = true)) (fun i _ => k - (RowKit.intOf i).toNat)
      case atStart => exact ⟨0, Nat.zero_le _, rfl, HB, fun r hr => by omega⟩
      case round =>
        obtain ⟨j, hj, rfl, HB2, HA⟩ := hrel
        have hsr2 := HS.out.below HB2.out.low
        by_cases hlt : j < k
        · have hltI : (j : Int) < (k : Int) := by omega
          obtain ⟨c, hc⟩ : ∃ c, cs[j]? = some c := ⟨cs[j]'(by have := HN.out; omega), List.getElem?_eq_getElem _⟩
          obtain ⟨g, p1, p2, p3, b1, b2, b3, d1, d2, d3, q1, q2, q3, rfl, hgl, hcm, ⟨a0, a1, a2, a3, a4, a5, a6, a7, a8, a9, a10, a11, a12⟩⟩ := hsr2.row hc
          have hz2 := HB2.out.low.size
          have hlc : c.label.length ≤ 1000000000 := HLA.out c (List.mem_of_getElem? hc)
          have HMem := Lib.hid (List.mem_of_getElem? hc)
          have HC := Lib.hid hc
          clear hcm hc hsr2
          obtain ⟨X, hX⟩ : ∃ X : ByteArray, X = ⟨c.label.toArray⟩ := ⟨_, rfl⟩
          rw [← hX] at a12
          have hXz : X.size ≤ 1000000000 := by rw [hX]; show c.label.toArray.size ≤ _; rw [List.size_toArray]; exact hlc
          have hXl : X.data.toList = c.label := by rw [hX]
          have hXe : X.toList.isEmpty = (c.label == []) := by rw [hX, toList_data]; cases c.label <;> rfl
          have HX := Lib.hid hXl
          clear hX hXl
          have hkp : ∀ o, BdI w cs k (wr.alloc o) := fun o => by
            obtain ⟨D, ⟨es, cl, hb, r1, r2, r3⟩, hCnt⟩ := HB2.out.own
            exact ⟨HB2.out.low.alloc hz2 _, D, ⟨es, cl, (Below.heap_alloc _ _ _ (block_lt hb)).trans hb, r1, r2, r3⟩, hCnt⟩
          have HKp := Lib.hid hkp
          clear hkp
          cases he : (c.label == []) with
          | true =>
            rw [he] at hXe
            have HE := Lib.hid he
            clear he
            go_wp2_with fail
            go_roundw
            case rel =>
              refine ⟨j + 1, by omega, by go_num, HKp.out _, fun r hr c' hc' => ?_⟩
              by_cases hrj : r = j
              · subst hrj
                have := HC.out
                rw [this] at hc'
                cases hc'
                rw [HE.out]; rfl
              · exact HA.out r (by omega) c' hc'
            case measure => simp [RowKit.intOf]; omega
          | false =>
            rw [he] at hXe
            have HE := Lib.hid he
            clear he
            obtain ⟨D, hD, hCnt⟩ := HB2.out.own
            have HD := Lib.hid hD
            have HCn := Lib.hid (show CntD D cs by rw [List.take_of_length_le (by have := HN.out; omega)] at hCnt; exact hCnt)
            have hkey : keyOf Tryz.prog 9 (.string X) = some (.string c.label) := by rw [← HX.out]; exact WideMaps.keyOf_string_mk Tryz.underlying9 (by unfold maxLen; omega)
            have HK := Lib.hid hkey
            have hown1 : ∀ o, (wr.alloc o).ownsMap Tryz.prog 9 (plainElem (H := Unit) Tryz.prog 3) w.heap.size k D := fun o => by
              obtain ⟨es, cl, hb, r⟩ := HD.out
              exact ⟨es, cl, (Below.heap_alloc _ _ _ (block_lt hb)).trans hb, r⟩
            have HO1 := Lib.hid hown1
            clear hown1 hD hCnt hkey
            have hrun : ∀ o, (Instr.lookup 51 (.map (some w.heap.size)) (.string X) false).run Tryz.prog (wr.alloc o) = .ok (.int .i64 (standsN cs c.label : Int)) (wr.alloc o) := fun o => by
              obtain ⟨cn, hr, hat, _⟩ := (HO1.out o).lookup_int str_law Tryz.underlying51 Tryz.underlying3 (zeroI _) HK.out
              have h2 := HCn.out c.label
              rw [hat] at h2
              rw [hr, (Lit.int.inj (DataW.lit.inj h2)).2]
            by_cases h1 : standsN cs c.label = 1
            · have hrun1 : ∀ o, (Instr.lookup 51 (.map (some w.heap.size)) (.string X) false).run Tryz.prog (wr.alloc o) = .ok (.int .i64 1) (wr.alloc o) := fun o => by
                rw [hrun o, h1]; rfl
              have H1 := Lib.hid h1
              clear h1 hrun
              go_wp2_with fail
              go_roundw
              case rel =>
                refine ⟨j + 1, by omega, by go_num, HKp.out _, fun r hr c' hc' => ?_⟩
                by_cases hrj : r = j
                · subst hrj
                  have := HC.out
                  rw [this] at hc'
                  cases hc'
                  rw [H1.out]; simp
                · exact HA.out r (by omega) c' hc'
              case measure => simp [RowKit.intOf]; omega
            · have hbd : boundD cs = false := by
                unfold boundD
                rw [List.all_eq_false]
                refine ⟨c, HMem.out, ?_⟩
                rw [HE.out]
                simpa using h1
              have HBd := Lib.hid hbd
              clear hbd
              have hcn : ((standsN cs c.label : Int) == 1) = false := by rw [beq_eq_false_iff_ne]; omega
              clear h1
              generalize (standsN cs c.label : Int) = cn at hcn hrun
              go_wp2_with fail
              try rw [Exit.noGoto_ret]
              refine bodyPost_ret (results_tmp rfl _ _ _) rfl ⟨by rw [HBd.out]; rfl, (HKp.out _).low⟩
        · have hbd : boundD cs = true := by
            unfold boundD
            rw [List.all_eq_true]
            intro c hc
            obtain ⟨r, hr⟩ := List.getElem?_of_mem hc
            have hrl : r < cs.length := by
              by_cases h : r < cs.length
              · exact h
              · rw [List.getElem?_eq_none (by omega)] at hr; cases hr
            exact HA.out r (by have := HN.out; omega) c hr
          have HBd := Lib.hid hbd
          clear hbd hsr2
          go_wp2_with fail
          exact bodyPost_ret (results_tmp rfl _ _ _) rfl ⟨by rw [HBd.out]; rfl, HB2.out.low⟩
end Go.Proofs.YtgceckejchdnlaaGreatDoor
namespace Go.Proofs.YtgceckejchdnlaaGreatDoor
open Go.RowKit Go.Lib

theorem read8_idle (p q : Addr) (w : World) :
    CallsD Tryz.prog 10 #[.pointer (some p), .pointer (some q)] .returning w fun e u' w' => e = .returned (.tuple #[]) ∧ u' = .returning ∧ w' = w := by
  refine callsD_of_wpS Tryz.func10 rfl fun c₀ cs hu => ?_
  apply wpS_seq
  apply wpS_region
  simp [wpOpsS, go_sem, recoverD, hu, Tryz.ntmps10, Exit.thenS]
  apply wpS_seq
  apply wpS_region
  simp [wpOpsS, go_sem, Exit.thenS]
  refine wpS_cond (t := false) (by simp [Act.eval, Array.replicate]) ?_
  simp only [Bool.false_eq_true, if_false]
  refine wpS_of_wp (wp_skip ?_)
  cases c₀
  simp_all [bodyPostS, results, Tryz.results10]
theorem read8_panics (g : Nat) (a : Value) (b e : Int) (t1 t2 : TypeId) (w : World)
    (ha : w.heap[g]? = some (.cells #[a] t1 (0, 0))) (hb : w.heap[g + 1]? = some (.cells #[.int .i64 b] t2 (0, 0))) :
    CallsD Tryz.prog 10 #[.pointer (some ⟨g, 0, none⟩), .pointer (some ⟨g + 1, 0, none⟩)] (.panicking [{ v := .iface 24 (.int .i64 e), recovered := false }]) w fun e' u' w' =>
      e' = .returned (.tuple #[]) ∧ u' = .panicking [{ v := .iface 24 (.int .i64 e), recovered := true }] ∧ w' = ((w.setCell ⟨g, 0, none⟩ (.slice none 0 0)).setCell ⟨g + 1, 0, none⟩ (.int .i64 e)).drew := by
  have hca : w.cell? ⟨g, 0, none⟩ = some a := by simp [World.cell?, ha]
  have hfa : w.frozen? ⟨g, 0, none⟩ = false := by simp [World.frozen?, ha]
  have hcb : w.cell? ⟨g + 1, 0, none⟩ = some (.int .i64 b) := by simp [World.cell?, hb]
  have hfb : w.frozen? ⟨g + 1, 0, none⟩ = false := by simp [World.frozen?, hb]
  have hta := assert_errno e
  refine callsD_of_wpS Tryz.func10 rfl fun c₀ cs hu => ?_
  apply wpS_seq
  apply wpS_region
  simp [wpOpsS, go_sem, recoverD, hu, Tryz.ntmps10, Exit.thenS]
  apply wpS_seq
  apply wpS_region
  simp [wpOpsS, go_sem, Exit.thenS]
  refine wpS_cond (t := true) (by simp [Act.eval, Array.replicate]) ?_
  simp only [if_true]
  refine wpS_of_wp ?_
  go_region_law (fail)
  all_goals
    simp [bodyPostS, results, Tryz.results10]
/-- The three blocks: the two answers', the reader's. -/
theorem three_new (w : World) (S : ByteArray) : ∃ W, W = ((w.alloc (.cells #[.slice none 0 0] 23)).alloc (.cells #[.int .i64 0] 24)).alloc (.cells #[.string S] 38) ∧
    W.heap[w.heap.size]? = some (.cells #[.slice none 0 0] 23 (0, 0)) ∧ W.heap[w.heap.size + 1]? = some (.cells #[.int .i64 0] 24 (0, 0)) ∧ W.heap[w.heap.size + 2]? = some (.cells #[.string S] 38 (0, 0)) ∧ W.heap.size = w.heap.size + 3 ∧ Below w.heap.size w W := by
  obtain ⟨T1, T2, T3, T4⟩ := two_new w (.cells #[.slice none 0 0] 23) (.cells #[.int .i64 0] 24)
  have h3 := heap_alloc_new ((w.alloc (.cells #[.slice none 0 0] 23)).alloc (.cells #[.int .i64 0] 24)) (.cells #[.string S] 38)
  rw [T3] at h3
  exact ⟨_, rfl, (Below.heap_alloc _ _ _ (by rw [T3]; omega)).trans T1, (Below.heap_alloc _ _ _ (by rw [T3]; omega)).trans T2, h3, by simp, T4.alloc (by rw [T3]; omega) _⟩
/-- What Read answers. -/
def Rd8 (B : Nat) (r : All) (e : Ending) (w' : World) : Prop := match r with
  | .ok cs => ∃ v, e = .returned (.tuple #[v, .int .i64 0]) ∧ ScrS B cs v w'
  | .bad x => e = .returned (.tuple #[.slice none 0 0, .int .i64 x])
set_option maxHeartbeats 2000000 in
set_option maxRecDepth 20000 in
theorem read8_long (S : ByteArray) (w : World) (hs : 8192 < S.size) (hs2 : S.size ≤ 140737488355328) :
    Calls Tryz.prog 6 #[.string S] w fun e w' => e = .returned (.tuple #[.slice none 0 0, .int .i64 6]) ∧ Below w.heap.size w w' := by
  have hd : decide ((8192 : Int) < (S.size : Int)) = true := by simpa using (by omega : (8192 : Int) < (S.size : Int))
  go_enter Tryz.func6, Tryz.ntmps6
  go_wp2_with fail
  refine bodyPost_ret (v := .tuple #[.slice none 0 0, .int .i64 6]) (by simp [results, Tryz.results6, go_sem]) rfl ⟨rfl, ?_⟩
  exact ((Below.refl _ w).alloc (Nat.le_refl _) _).alloc (by simp) _
/-- What lies where the commands have been read. -/
theorem read8_at {w W w2 : World} {S : ByteArray} (hW : W.heap[w.heap.size]? = some (.cells #[.slice none 0 0] 23 (0, 0)) ∧ W.heap[w.heap.size + 1]? = some (.cells #[.int .i64 0] 24 (0, 0)) ∧ W.heap[w.heap.size + 2]? = some (.cells #[.string S] 38 (0, 0)) ∧ W.heap.size = w.heap.size + 3 ∧ Below w.heap.size w W) (hb : Below (w.heap.size + 2) W w2) :
    w2.heap[w.heap.size]? = some (.cells #[.slice none 0 0] 23 (0, 0)) ∧ w2.heap[w.heap.size + 1]? = some (.cells #[.int .i64 0] 24 (0, 0)) ∧ w.heap.size + 3 ≤ w2.heap.size ∧ Below w.heap.size w w2 :=
  ⟨(hb.block _ (by omega)).trans hW.1, (hb.block _ (by omega)).trans hW.2.1, by have := hb.size; omega, hW.2.2.2.2.trans (hb.mono (by omega))⟩
set_option maxHeartbeats 4000000 in
set_option maxRecDepth 20000 in
theorem read8_bad (l : List UInt8) (S : ByteArray) (hS : S = ⟨l.toArray⟩) (x : Int) (w : World) (hs : l.length ≤ 8192)
    (k1 : ∀ w1 : World, Rd (w.heap.size + 2) l w1 → Calls Tryz.prog 11 #[.pointer (some ⟨w.heap.size + 2, 0, none⟩)] w1 fun e w2 => e = errV x ∧ Below (w.heap.size + 2) w1 w2) :
    Calls Tryz.prog 6 #[.string S] w fun e w' => e = .returned (.tuple #[.slice none 0 0, .int .i64 x]) ∧ Below w.heap.size w w' := by
  have hmf : ∀ (fn : Fn) (first cap : Array Value) (w : World), (Instr.makeFunc fn first cap).run Tryz.prog w = .ok (.func fn first cap) w := fun _ _ _ _ => rfl
  have hz : S.size = l.length := by rw [hS]; simp [ByteArray.size]
  have hd : decide ((8192 : Int) < (S.size : Int)) = false := by simp; omega
  obtain ⟨W, hW, hT⟩ := three_new w S
  have hr : Rd (w.heap.size + 2) l W := by have := hT.2.2.1; rw [hS] at this; exact this
  have k2 := k1 W hr
  rw [hW] at k2
  have HT := Lib.hid hT
  have HW := Lib.hid hW
  clear hT hr k1 hS hz hW
  unfold errV at k2
  go_enter_defers Tryz.func6, Tryz.ntmps6
  go_wp2_with (go_at_call 11; refine k2.mono ?_; rintro e w2 ⟨rfl, hb2⟩; rw [← HW.out] at hb2; obtain ⟨T1, T2, T3, T4⟩ := read8_at HT.out hb2)
  obtain ⟨c3, c4⟩ := cell_one T1
  obtain ⟨c5, c6⟩ := cell_one T2
  refine leaves_cons (f := 10) (args := #[.pointer (some ⟨w.heap.size, 0, none⟩), .pointer (some ⟨w.heap.size + 1, 0, none⟩)]) (by simp) (by simp [go_sem]) ?_
  refine (read8_panics w.heap.size _ 0 x _ _ _ T1 T2).mono ?_
  rintro e u' w'' ⟨rfl, rfl, rfl⟩
  simp [Leaves, settle, results, Tryz.results6, go_sem, c3, c5]
  exact ((T4.setCell (by simp) _).setCell (by simp) _).drew
/-- Behind the commands: they stand in the first answer's block. -/
theorem read8_put {w w2 : World} {cs : List Cm} {v : Value} (T1 : w2.heap[w.heap.size]? = some (.cells #[.slice none 0 0] 23 (0, 0))) (T2 : w2.heap[w.heap.size + 1]? = some (.cells #[.int .i64 0] 24 (0, 0))) (T3 : w.heap.size + 3 ≤ w2.heap.size) (T4 : Below w.heap.size w w2) (hs : ScrS (w.heap.size + 3) cs v w2) :
    (w2.setCell ⟨w.heap.size, 0, none⟩ v).heap[w.heap.size]? = some (.cells #[v] 23 (0, 0)) ∧ (w2.setCell ⟨w.heap.size, 0, none⟩ v).heap[w.heap.size + 1]? = some (.cells #[.int .i64 0] 24 (0, 0)) ∧ w.heap.size + 3 ≤ (w2.setCell ⟨w.heap.size, 0, none⟩ v).heap.size ∧ Below w.heap.size w (w2.setCell ⟨w.heap.size, 0, none⟩ v) ∧ ScrS (w.heap.size + 3) cs v (w2.setCell ⟨w.heap.size, 0, none⟩ v) :=
  ⟨heap_setCell_same w2 w.heap.size 0 _ _ v T1, (Below.heap_setCell _ _ _ _ (by show w.heap.size + 1 ≠ w.heap.size; omega)).trans T2, by simpa using T3, T4.setCell (Nat.le_refl _) _, hs.moved (p := w.heap.size) (by omega) (.set _ _ _ _)⟩
set_option maxHeartbeats 4000000 in
set_option maxRecDepth 20000 in
theorem read8_ok (l : List UInt8) (S : ByteArray) (hS : S = ⟨l.toArray⟩) (cs : List Cm) (w : World) (hs : l.length ≤ 8192) (hcs : cs.length ≤ 1000000000) (hla : ∀ c ∈ cs, c.label.length ≤ 1000000000) (hbd : boundD cs = true)
    (k1 : ∀ w1 : World, Rd (w.heap.size + 2) l w1 → Calls Tryz.prog 11 #[.pointer (some ⟨w.heap.size + 2, 0, none⟩)] w1 fun e w2 => ∃ v, e = .returned v ∧ ScrS w1.heap.size cs v w2 ∧ cs.length ≤ 2000 ∧ Below (w.heap.size + 2) w1 w2) :
    Calls Tryz.prog 6 #[.string S] w fun e w' => (∃ v, e = .returned (.tuple #[v, .int .i64 0]) ∧ ScrS w.heap.size cs v w') ∧ Below w.heap.size w w' := by
  have hmf : ∀ (fn : Fn) (first cap : Array Value) (w : World), (Instr.makeFunc fn first cap).run Tryz.prog w = .ok (.func fn first cap) w := fun _ _ _ _ => rfl
  have hz : S.size = l.length := by rw [hS]; simp [ByteArray.size]
  have hd : decide ((8192 : Int) < (S.size : Int)) = false := by simp; omega
  obtain ⟨W, hW, hT⟩ := three_new w S
  have hr : Rd (w.heap.size + 2) l W := by have := hT.2.2.1; rw [hS] at this; exact this
  have k2 := k1 W hr
  have hWz := hT.2.2.2.1
  rw [hWz] at k2
  rw [hW] at k2
  have kb := fun v w3 (h : ScrS (w.heap.size + 3) cs v w3) => bound_any _ cs v w3 h hcs hla
  rw [hbd] at kb
  have HT := Lib.hid hT
  have HW := Lib.hid hW
  clear hT hr k1 hS hz hW hWz hbd hla
  go_enter_defers Tryz.func6, Tryz.ntmps6
  go_wp2_with (first
    | (go_at_call 11; refine k2.mono ?_; rintro e w2 ⟨v, rfl, hsc, _, hb2⟩; rw [← HW.out] at hb2
       obtain ⟨T1, T2, T3, T4⟩ := read8_at HT.out hb2
       obtain ⟨ao, cap, rfl⟩ := hsc.shape
       obtain ⟨U1, U2, U3, U4, U5⟩ := read8_put T1 T2 T3 T4 hsc
       obtain ⟨c3, c4⟩ := cell_one T1
       have c5 := (cell_one U1).1
       have k3 := kb _ _ U5
       have HU := Lib.hid (And.intro U1 (And.intro U2 (And.intro U3 (And.intro U4 U5))))
       clear k2 kb T1 T2 T3 T4 hsc hb2 U1 U2 U3 U4 U5)
    | (go_at_call 12; refine k3.mono ?_; rintro e w4 ⟨rfl, hb4⟩
       have V1 := (hb4.block w.heap.size (by have := HU.out.2.2.1; omega)).trans HU.out.1
       have V2 := (hb4.block (w.heap.size + 1) (by have := HU.out.2.2.1; omega)).trans HU.out.2.1
       obtain ⟨e3, e4⟩ := cell_one V1
       obtain ⟨e5, e6⟩ := cell_one V2
       have HV := Lib.hid (And.intro (HU.out.2.2.2.1.trans (hb4.mono (by have := HU.out.2.2.1; omega))) (HU.out.2.2.2.2.below hb4))
       clear V1 V2 hb4 k3))
  refine leaves_cons (f := 10) (args := #[.pointer (some ⟨w.heap.size, 0, none⟩), .pointer (some ⟨w.heap.size + 1, 0, none⟩)]) (by simp) (by simp [go_sem]) ?_
  refine (read8_idle ⟨w.heap.size, 0, none⟩ ⟨w.heap.size + 1, 0, none⟩ _).mono ?_
  rintro e u' w'' ⟨rfl, rfl, rfl⟩
  simp [Leaves, settle, results, Tryz.results6, go_sem, e3, e5]
  refine ⟨?_, (HV.out.1.setCell (by simp) _).setCell (by simp) _⟩
  exact ((HV.out.2.moved (p := w.heap.size) (by omega) (.set _ _ _ _)).moved (p := w.heap.size + 1) (by omega) (.set _ _ _ _)).base (by omega)
set_option maxHeartbeats 4000000 in
set_option maxRecDepth 20000 in
theorem read8_name (l : List UInt8) (S : ByteArray) (hS : S = ⟨l.toArray⟩) (cs : List Cm) (w : World) (hs : l.length ≤ 8192) (hcs : cs.length ≤ 1000000000) (hla : ∀ c ∈ cs, c.label.length ≤ 1000000000) (hbd : boundD cs = false)
    (k1 : ∀ w1 : World, Rd (w.heap.size + 2) l w1 → Calls Tryz.prog 11 #[.pointer (some ⟨w.heap.size + 2, 0, none⟩)] w1 fun e w2 => ∃ v, e = .returned v ∧ ScrS w1.heap.size cs v w2 ∧ cs.length ≤ 2000 ∧ Below (w.heap.size + 2) w1 w2) :
    Calls Tryz.prog 6 #[.string S] w fun e w' => e = .returned (.tuple #[.slice none 0 0, .int .i64 8]) ∧ Below w.heap.size w w' := by
  have hmf : ∀ (fn : Fn) (first cap : Array Value) (w : World), (Instr.makeFunc fn first cap).run Tryz.prog w = .ok (.func fn first cap) w := fun _ _ _ _ => rfl
  have hz : S.size = l.length := by rw [hS]; simp [ByteArray.size]
  have hd : decide ((8192 : Int) < (S.size : Int)) = false := by simp; omega
  obtain ⟨W, hW, hT⟩ := three_new w S
  have hr : Rd (w.heap.size + 2) l W := by have := hT.2.2.1; rw [hS] at this; exact this
  have k2 := k1 W hr
  have hWz := hT.2.2.2.1
  rw [hWz] at k2
  rw [hW] at k2
  have kb := fun v w3 (h : ScrS (w.heap.size + 3) cs v w3) => bound_any _ cs v w3 h hcs hla
  rw [hbd] at kb
  have HT := Lib.hid hT
  have HW := Lib.hid hW
  clear hT hr k1 hS hz hW hWz hbd hla
  go_enter_defers Tryz.func6, Tryz.ntmps6
  go_wp2_with (first
    | (go_at_call 11; refine k2.mono ?_; rintro e w2 ⟨v, rfl, hsc, _, hb2⟩; rw [← HW.out] at hb2
       obtain ⟨T1, T2, T3, T4⟩ := read8_at HT.out hb2
       obtain ⟨ao, cap, rfl⟩ := hsc.shape
       obtain ⟨U1, U2, U3, U4, U5⟩ := read8_put T1 T2 T3 T4 hsc
       obtain ⟨c3, c4⟩ := cell_one T1
       have c5 := (cell_one U1).1
       have k3 := kb _ _ U5
       have HU := Lib.hid (And.intro U1 (And.intro U2 (And.intro U3 (And.intro U4 U5))))
       clear k2 kb T1 T2 T3 T4 hsc hb2 U1 U2 U3 U4 U5)
    | (go_at_call 12; refine k3.mono ?_; rintro e w4 ⟨rfl, hb4⟩
       have V1 := (hb4.block w.heap.size (by have := HU.out.2.2.1; omega)).trans HU.out.1
       have V2 := (hb4.block (w.heap.size + 1) (by have := HU.out.2.2.1; omega)).trans HU.out.2.1
       have HV := Lib.hid (HU.out.2.2.2.1.trans (hb4.mono (by have := HU.out.2.2.1; omega)))
       clear hb4 k3))
  obtain ⟨e3, e4⟩ := cell_one V1
  obtain ⟨e5, e6⟩ := cell_one V2
  refine leaves_cons (f := 10) (args := #[.pointer (some ⟨w.heap.size, 0, none⟩), .pointer (some ⟨w.heap.size + 1, 0, none⟩)]) (by simp) (by simp [go_sem]) ?_
  refine (read8_panics w.heap.size _ 0 8 _ _ _ V1 V2).mono ?_
  rintro e u' w'' ⟨rfl, rfl, rfl⟩
  simp [Leaves, settle, results, Tryz.results6, go_sem, e3, e5]
  exact ((HV.out.setCell (by simp) _).setCell (by simp) _).drew
theorem labP_lab {l r y : List UInt8} (h : labP l = .ok y r) : y.length ≤ l.length := by
  cases l with
  | nil => cases h
  | cons c l =>
    unfold labP at h
    dsimp only at h
    split at h
    · cases h
      have : (l.takeWhile restOk).length ≤ l.length := (List.takeWhile_sublist restOk).length_le
      simp only [List.length_cons]
      omega
    · cases h
theorem letP_lab {R : List UInt8 → Res} {a b : Ad} {neg : Bool} {l r : List UInt8} {c : Cm} (h : letP R a b neg l = .ok c r) : c.label.length ≤ l.length := by
  cases l with
  | nil => cases h
  | cons o l =>
    unfold letP at h
    dsimp only at h
    have hb := blk_len l
    simp only [List.length_cons]
    split at h
    · cases l with
      | nil => cases h
      | cons d l1 =>
        dsimp only at h
        split at h
        · obtain ⟨t, l2, ht, h⟩ := got_bind h
          obtain ⟨ys, l3, hy, h⟩ := got_bind h
          cases h
          simp
        · cases h
    · split at h
      · split at h
        · cases h; simp
        · obtain ⟨y, r', hy, h⟩ := got_bind h
          have := labP_lab hy
          cases h
          show y.length ≤ _
          omega
      · split at h
        · split at h
          · obtain ⟨y, r', hy, h⟩ := got_bind h
            have := labP_lab hy
            cases h
            show y.length ≤ _
            omega
          · cases h
        · split at h
          · cases h; simp
          · cases h
theorem comP_lab {R : List UInt8 → Res} {l r : List UInt8} {c : Cm} (h : comP R l = .ok c r) : c.label.length ≤ l.length := by
  unfold comP at h
  obtain ⟨a, l1, ha, h⟩ := got_bind h
  obtain ⟨b, l2, hb, h⟩ := got_bind h
  obtain ⟨c', l3, hc, h⟩ := got_bind h
  have h1 := adP_len ha
  have h2 := secP_len hb
  have h3 := letP_lab hc
  have h4 := notL_len l2
  split at h
  · cases h; omega
  · cases h
theorem scr_lab {R : List UInt8 → Res} (m : Nat) : ∀ (k : Nat) (l : List UInt8) (cs ds : List Cm), l.length = k → l.length ≤ m → scr R l cs = .ok ds → (∀ c ∈ cs, c.label.length ≤ m) → ∀ c ∈ ds, c.label.length ≤ m := by
  intro k
  induction k using Nat.strongRecOn with
  | ind k ih =>
    intro l cs ds hk hm h hc
    rw [scr_eq] at h
    rcases scrS_ok h with ⟨he, rfl⟩ | ⟨c, l1, d, l2, he, h1, h2, h3, h4⟩
    · exact hc
    · have hd := dw_len sepS l
      rw [he] at hd
      have hl := comP_len h3
      have hb := comP_lab h3
      refine ih l2.length (by omega) l2 _ _ rfl (by omega) h4 fun c' hc' => ?_
      rcases List.mem_append.mp hc' with h | h
      · exact hc c' h
      · rw [List.mem_singleton] at h; subst h; omega
/-- What a text comes to. -/
noncomputable def sedR (l : List UInt8) : All := if 8192 < l.length then .bad 6 else readSd reR l
/-- Package sed's Read: what the rules say. -/
theorem read8_any (S : ByteArray) (w : World) (hl : S.size ≤ 140737488355328) :
    Calls Tryz.prog 6 #[.string S] w fun e w' => Rd8 w.heap.size (sedR S.data.toList) e w' ∧ Below w.heap.size w w' := by
  have hS : S = ⟨S.data.toList.toArray⟩ := by cases S; rfl
  have hz : S.data.toList.length = S.size := Array.length_toList
  generalize S.data.toList = l at hS hz
  unfold sedR
  by_cases hlong : 8192 < l.length
  · rw [if_pos hlong]
    exact read8_long S w (by omega) hl
  · rw [if_neg hlong]
    have k1 := fun w1 (h1 : Rd (w.heap.size + 2) l w1) => script_any (w.heap.size + 2) l w1 h1 (by omega)
    unfold ScE at k1
    unfold readSd
    have hsc : scrP reR (l.length + 1) l [] = scr reR l [] := rfl
    rw [hsc]
    cases hs : scr reR l [] with
    | bad x =>
      rw [hs] at k1
      exact read8_bad l S hS x w (by omega) k1
    | ok cs =>
      rw [hs] at k1
      have hla := scr_lab 1000000000 l.length l [] cs rfl (by omega) hs (by simp)
      have hcl := (scr_len l.length l [] cs rfl hs).2
      simp only [List.length_nil] at hcl
      dsimp only
      cases hb : boundD cs with
      | true => exact read8_ok l S hS cs w (by omega) (by omega) hla hb k1
      | false => exact read8_name l S hS cs w (by omega) (by omega) hla hb k1
end Go.Proofs.YtgceckejchdnlaaGreatDoor
