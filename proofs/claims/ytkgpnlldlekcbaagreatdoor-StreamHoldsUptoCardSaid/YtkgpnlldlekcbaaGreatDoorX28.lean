/- Packed texts: SeBound, SeJump, StSpec, StMem, StLeaf. What each of them proves stands above its theorems; the conditions stand in these. -/
import Derived.BigQuiet
import Derived.Deep.QuietTactic
import Derived.Deep.RegionLaw
import Derived.Maps.Own
import Derived.Maps.OwnOps
import Derived.Maps.OwnSet
import Derived.Maps.Views
import Derived.StringKeys
import Derived.WalkArith
import Derived.Test.YtkgpnlldlekcbaaGreatDoorX16
import Derived.Test.YtkgpnlldlekcbaaGreatDoorX18
import Derived.Test.YtkgpnlldlekcbaaGreatDoorX27
namespace Go.Proofs.YtkgpnlldlekcbaaGreatDoor
open Go.RowKit Go.Lib Go.Maps

theorem flat13 : ∀ (xss : List (List Value)) (i j : Nat) (x : List Value), (∀ y ∈ xss, y.length = 13) → xss[i]? = some x → j < 13 → xss.flatten[i * 13 + j]? = x[j]?
  | [], i, j, x, _, h, _ => by simp at h
  | y :: r, 0, j, x, ha, h, hj => by
    cases h
    have hy := ha y (by simp)
    rw [List.flatten_cons, Nat.zero_mul, Nat.zero_add, List.getElem?_append_left (by omega)]
  | y :: r, i + 1, j, x, ha, h, hj => by
    have hy := ha y (by simp)
    have h' : r[i]? = some x := by simpa using h
    rw [List.flatten_cons, List.getElem?_append_right (by omega), hy]
    have : (i + 1) * 13 + j - 13 = i * 13 + j := by omega
    rw [this]
    exact flat13 r i j x (fun z hz => ha z (by simp [hz])) h' hj
/-- A command of a row, cell by cell. -/
theorem ScrS.row {B n cap : Nat} {ao : Option Addr} {cs : List Cm} {w : World} (h : ScrS B cs (.slice ao n cap) w) {k : Nat} {c : Cm} (hk : cs[k]? = some c) :
    ∃ g a1 a2 a3 b1 b2 b3 d1 d2 d3 q1 q2 q3, ao = some ⟨g, 0, none⟩ ∧ g < w.heap.size ∧ CmS B c [.int .u8 (c.op.toNat : Int), .int .i64 (c.a.k : Int), .int .i64 (c.a.n : Int), .slice a1 a2 a3, .int .i64 (c.b.k : Int), .int .i64 (c.b.n : Int), .slice b1 b2 b3, .bool c.neg, .slice d1 d2 d3, .slice q1 q2 q3, .bool c.all, .bool c.prt, .string ⟨c.label.toArray⟩] w ∧
      (w.cell? ⟨g, k * 13, none⟩ = some (.int .u8 (c.op.toNat : Int)) ∧ w.cell? ⟨g, k * 13 + 1, none⟩ = some (.int .i64 (c.a.k : Int)) ∧ w.cell? ⟨g, k * 13 + 2, none⟩ = some (.int .i64 (c.a.n : Int)) ∧ w.cell? ⟨g, k * 13 + 3, none⟩ = some (.slice a1 a2 a3) ∧ w.cell? ⟨g, k * 13 + 4, none⟩ = some (.int .i64 (c.b.k : Int)) ∧ w.cell? ⟨g, k * 13 + 5, none⟩ = some (.int .i64 (c.b.n : Int)) ∧ w.cell? ⟨g, k * 13 + 6, none⟩ = some (.slice b1 b2 b3) ∧ w.cell? ⟨g, k * 13 + 7, none⟩ = some (.bool c.neg) ∧ w.cell? ⟨g, k * 13 + 8, none⟩ = some (.slice d1 d2 d3) ∧ w.cell? ⟨g, k * 13 + 9, none⟩ = some (.slice q1 q2 q3) ∧ w.cell? ⟨g, k * 13 + 10, none⟩ = some (.bool c.all) ∧ w.cell? ⟨g, k * 13 + 11, none⟩ = some (.bool c.prt) ∧ w.cell? ⟨g, k * 13 + 12, none⟩ = some (.string ⟨c.label.toArray⟩)) := by
  obtain ⟨xss, h1, h2, h3⟩ := h
  have hlt : k < cs.length := by
    by_cases h : k < cs.length
    · exact h
    · rw [List.getElem?_eq_none (by omega)] at hk; cases hk
  have hx : xss[k]? = some xss[k] := List.getElem?_eq_getElem (by omega)
  have hcm := h3 k c _ hk hx
  have hlen : ∀ y ∈ xss, y.length = 13 := fun y hy => by
    obtain ⟨i, hi⟩ := List.getElem?_of_mem hy
    have hil : i < xss.length := by
      by_cases h : i < xss.length
      · exact h
      · rw [List.getElem?_eq_none (by omega)] at hi; cases hi
    exact (h3 i _ y (List.getElem?_eq_getElem (by omega)) hi).len
  rcases h2.2 with ⟨hv, h0⟩ | ⟨g, cap', cur, hv, hB, hg, hc, hm, hz, htk⟩
  · omega
  · have hn : n = cs.length := by
      have := congrArg (fun v => match v with | Value.slice _ n _ => n | _ => 0) hv
      simpa using this
    have hcell : ∀ j v, j < 13 → xss[k][j]? = some v → w.cell? ⟨g, k * 13 + j, none⟩ = some v := fun j v hj hv => by
      have h4 := flat13 xss k j _ hlen hx hj
      rw [hv] at h4
      rw [cell_of_heap hg]
      rw [← htk, List.getElem?_take_of_lt (by omega)] at h4
      simpa using h4
    have hcm' := hcm
    obtain ⟨va, vb, v, u, he, hva, hvb, hv', hu⟩ := hcm
    obtain ⟨a1, a2, a3, rfl⟩ := ads_slice hva
    obtain ⟨b1, b2, b3, rfl⟩ := ads_slice hvb
    obtain ⟨d1, d2, d3, rfl⟩ := res_slice hv'
    obtain ⟨q1, q2, rfl⟩ := own_zeroB hu
    rw [he] at hcm' hcell
    refine ⟨g, a1, a2, a3, b1, b2, b3, d1, d2, d3, q1, _, q2, ?_, block_lt hg, hcm', ⟨hcell 0 _ (by omega) rfl, hcell 1 _ (by omega) rfl, hcell 2 _ (by omega) rfl, hcell 3 _ (by omega) rfl, hcell 4 _ (by omega) rfl, hcell 5 _ (by omega) rfl, hcell 6 _ (by omega) rfl, hcell 7 _ (by omega) rfl, hcell 8 _ (by omega) rfl, hcell 9 _ (by omega) rfl, hcell 10 _ (by omega) rfl, hcell 11 _ (by omega) rfl, hcell 12 _ (by omega) rfl⟩⟩
    have := congrArg (fun v => match v with | Value.slice a _ _ => a | _ => none) hv
    simpa using this
theorem ScrS.shape {B : Nat} {cs : List Cm} {v : Value} {w : World} (h : ScrS B cs v w) : ∃ ao cap, v = .slice ao cs.length cap := by
  obtain ⟨xss, h1, h2, h3⟩ := h
  exact own_zeroB h2
theorem str_law : Keyed Tryz.prog 9 := string_keyed Tryz.underlying9
theorem zeroI (w : World) : (zeroValue 3).run Tryz.prog w = .ok (.int .i64 0) w := by kernel_rfl
/-- What the map holds: how often each label stands. -/
def CntD (D : DataW Unit) (cs : List Cm) : Prop := ∀ x : List UInt8, D.atKey (.string x) (.lit (.int .i64 0)) = .lit (.int .i64 (standsN cs x : Int))
theorem cnt_nil : CntD (.map []) [] := fun _ => rfl
theorem stands_snoc (cs : List Cm) (c : Cm) (x : List UInt8) : standsN (cs ++ [c]) x = standsN cs x + (if c.op == 58 && c.label == x then 1 else 0) := by
  unfold standsN
  rw [List.filter_append, List.length_append]
  by_cases h : (c.op == 58 && c.label == x) = true
  · simp [List.filter, h]
  · simp only [Bool.not_eq_true] at h
    simp [List.filter, h]
theorem cnt_skip {D : DataW Unit} {cs : List Cm} {c : Cm} (h : CntD D cs) (hc : c.op ≠ 58) : CntD D (cs ++ [c]) := fun x => by
  rw [h x, stands_snoc]
  have : (c.op == 58) = false := by rw [beq_eq_false_iff_ne]; exact hc
  rw [this]
  simp
theorem cnt_more {D : DataW Unit} {cs : List Cm} {c : Cm} (h : CntD D cs) (hm : IsMap D) (hc : c.op = 58) : CntD (D.put (.string c.label) (.lit (.int .i64 ((standsN cs c.label : Int) + 1)))) (cs ++ [c]) := fun x => by
  rw [stands_snoc, hc]
  by_cases hx : x = c.label
  · subst hx
    rw [atKey_put_same (k := .string c.label) hm (by unfold WideAt.IsKeyLit; trivial)]
    simp
  · rw [atKey_put_other (fun e => hx (Lit.string.inj e)), h x]
    have : (c.label == x) = false := by rw [beq_eq_false_iff_ne]; exact fun e => hx e.symm
    rw [this]
    simp
theorem stands_le (cs : List Cm) (x : List UInt8) : standsN cs x ≤ cs.length := List.length_filter_le _ _
/-- The first loop. -/
structure BdI (w : World) (cs : List Cm) (k : Nat) (wr : World) : Prop where
  low : Below w.heap.size w wr
  own : ∃ D : DataW Unit, wr.ownsMap Tryz.prog 9 (plainElem Tryz.prog 3) w.heap.size k D ∧ CntD D (cs.take k)
set_option maxHeartbeats 8000000 in
set_option maxRecDepth 20000 in
theorem bound_any (B : Nat) (cs : List Cm) (v : Value) (w : World) (h : ScrS B cs v w) (hl : cs.length ≤ 1000000000) (hla : ∀ c ∈ cs, c.label.length ≤ 1000000000) :
    Calls Tryz.prog 48 #[v] w fun e w' => e = .returned (.bool (boundD cs)) ∧ Below w.heap.size w w' := by
  obtain ⟨ao, cap, rfl⟩ := h.shape
  obtain ⟨n, hn⟩ : ∃ n, n = cs.length := ⟨_, rfl⟩
  rw [← hn] at h hl ⊢
  have HS := Lib.hid h
  have HN := Lib.hid hn
  have HLA := Lib.hid hla
  clear h hn hla
  have hmm := @run_makeMap Tryz.prog
  have HB0 : Hid (BdI w cs 0 (w.alloc (.map #[] 0))) := ⟨(Below.refl _ w).alloc (Nat.le_refl _) _, _, World.ownsMap_made w Tryz.prog 9 _, by rw [List.take_zero]; exact cnt_nil⟩
  go_enter Tryz.func48, Tryz.ntmps48
  go_wp2_with fail
  go_loopw [11] (fun i wr => ∃ k : Nat, k ≤ n ∧ i = .int .i64 k ∧ Hid (BdI w cs k wr)) (fun i _ => n - (RowKit.intOf i).toNat)
  case atStart => exact ⟨0, Nat.zero_le _, rfl, HB0⟩
  case round =>
    obtain ⟨k, hk, rfl, HB⟩ := hrel
    have hsr := HS.out.below HB.out.low
    by_cases hlt : k < n
    · have hltI : (k : Int) < (n : Int) := by omega
      obtain ⟨c, hc⟩ : ∃ c, cs[k]? = some c := ⟨cs[k]'(by have := HN.out; omega), List.getElem?_eq_getElem _⟩
      obtain ⟨g, p1, p2, p3, b1, b2, b3, d1, d2, d3, q1, q2, q3, rfl, hgl, hcm, ⟨a0, a1, a2, a3, a4, a5, a6, a7, a8, a9, a10, a11, a12⟩⟩ := hsr.row hc
      have HC := Lib.hid hc
      have hz := HB.out.low.size
      have hlc : c.label.length ≤ 1000000000 := HLA.out c (List.mem_of_getElem? hc)
      have htk : cs.take (k + 1) = cs.take k ++ [c] := by rw [List.take_add_one, hc]; rfl
      have HT := Lib.hid htk
      clear hcm hc hsr htk
      obtain ⟨X, hX⟩ : ∃ X : ByteArray, X = ⟨c.label.toArray⟩ := ⟨_, rfl⟩
      rw [← hX] at a12
      have hXz : X.size ≤ 1000000000 := by rw [hX]; show c.label.toArray.size ≤ _; rw [List.size_toArray]; exact hlc
      have hXl : X.data.toList = c.label := by rw [hX]
      have HX := Lib.hid hXl
      clear hX hXl
      by_cases h58 : c.op = 58
      · have e58 : ((c.op.toNat : Int) == 58) = true := by rw [h58]; rfl
        obtain ⟨D, hD, hCnt⟩ := HB.out.own
        have hmap := hD.isMap
        have HD := Lib.hid hD
        have HCn := Lib.hid (And.intro hCnt hmap)
        have hst := stands_le (cs.take k) c.label
        have hkey : keyOf Tryz.prog 9 (.string X) = some (.string c.label) := by rw [← HX.out]; exact WideMaps.keyOf_string_mk Tryz.underlying9 (by unfold maxLen; omega)
        have HK := Lib.hid hkey
        have hstk : standsN (cs.take k) c.label ≤ 1000000000 := by have := List.length_take_le k cs; omega
        have HST := Lib.hid hstk
        clear hD hCnt hmap hst hkey hstk
        have hown1 : ∀ o, (wr.alloc o).ownsMap Tryz.prog 9 (plainElem (H := Unit) Tryz.prog 3) w.heap.size k D := fun o => by
          obtain ⟨es, cl, hb, r⟩ := HD.out
          exact ⟨es, cl, (Below.heap_alloc _ _ _ (block_lt hb)).trans hb, r⟩
        have HO1 := Lib.hid hown1
        clear hown1
        go_wp2_with (first
          | (at_lookup; refine wpList_lookup_own_int _ rfl _ _ 56 rfl 9 3 .i64 str_law Tryz.underlying56 Tryz.underlying3 (zeroI _) w.heap.size k _ rfl (HO1.out _) _ _ rfl HK.out ?_; intro cn hat hwc
             have hcn : cn = (standsN (cs.take k) c.label : Int) := (by have h1 := HCn.out.1 c.label; rw [hat] at h1; exact (Lit.int.inj (DataW.lit.inj h1)).2)
             have hcn0 : 0 ≤ cn ∧ cn ≤ 1000000000 := (by have := HST.out; omega)
             have HCN := Lib.hid hcn
             clear hat hwc hcn)
          | (at_mapUpdate; refine wpList_mapUpdate_own _ rfl _ _ _ 56 rfl 9 3 str_law Tryz.underlying56 _ w.heap.size k _ rfl (HO1.out _) (by unfold maxLen; omega) _ _ _ rfl rfl HK.out _ [] (plainElem_int (a := cn + 1) Tryz.underlying3 (WalkArith.wf_i64 (by omega))) ?_; intro w1 hown1 hgrow1
             have HG1 := Lib.hid (And.intro hown1 hgrow1)
             clear hown1 hgrow1))
        go_roundw
        case rel =>
          refine ⟨k + 1, by omega, by go_num, ⟨(HB.out.low.alloc hz _).grown HG1.out.2 (by simp; omega) (fun r hr => by cases hr; exact Nat.le_refl _), _, HG1.out.1, ?_⟩⟩
          rw [HT.out, HCN.out]
          exact cnt_more HCn.out.1 HCn.out.2 h58
        case measure => simp [RowKit.intOf]; omega
      · have e58 : ((c.op.toNat : Int) == 58) = false := ne_byte (d := 58) h58
        have hown1 : ∀ o, BdI w cs (k + 1) (wr.alloc o) := fun o => by
          obtain ⟨D, ⟨es, cl, hb, r1, r2, r3⟩, hCnt⟩ := HB.out.own
          exact ⟨HB.out.low.alloc hz _, D, ⟨es, cl, (Below.heap_alloc _ _ _ (block_lt hb)).trans hb, r1, by omega, r3⟩, by rw [HT.out]; exact cnt_skip hCnt h58⟩
        have HO1 := Lib.hid hown1
        clear hown1
        go_wp2_with fail
        go_roundw
        case rel => exact ⟨k + 1, by omega, by go_num, HO1.out _⟩
        case measure => simp [RowKit.intOf]; omega
    · have hkn : k = n := by omega
      subst hkn
      go_wp2_with fail
      go_loopw [26] (fun i WR2 => ∃ j : Nat, j ≤ k ∧ i = .int .i64 j ∧ Hid (BdI w cs k WR2) ∧ Hid (∀ r, r < j → ∀ c, cs[r]? = some c → (c.label == [] || standsN cs c.label == 1) = true)) (fun i _ => k - (RowKit.intOf i).toNat)
      case atStart => exact ⟨0, Nat.zero_le _, rfl, HB, fun r hr => by omega⟩
      case round =>
        obtain ⟨j, hj, rfl, HB2, HA⟩ := hrel
        have hsr2 := HS.out.below HB2.out.low
        by_cases hlt : j < k
        · have hltI : (j : Int) < (k : Int) := by omega
          obtain ⟨c, hc⟩ : ∃ c, cs[j]? = some c := ⟨cs[j]'(by have := HN.out; omega), List.getElem?_eq_getElem _⟩
          obtain ⟨g, p1, p2, p3, b1, b2, b3, d1, d2, d3, q1, q2, q3, rfl, hgl, hcm, ⟨a0, a1, a2, a3, a4, a5, a6, a7, a8, a9, a10, a11, a12⟩⟩ := hsr2.row hc
          have hz2 := HB2.out.low.size
          have hlc : c.label.length ≤ 1000000000 := HLA.out c (List.mem_of_getElem? hc)
          have HMem := Lib.hid (List.mem_of_getElem? hc)
          have HC := Lib.hid hc
          clear hcm hc hsr2
          obtain ⟨X, hX⟩ : ∃ X : ByteArray, X = ⟨c.label.toArray⟩ := ⟨_, rfl⟩
          rw [← hX] at a12
          have hXz : X.size ≤ 1000000000 := by rw [hX]; show c.label.toArray.size ≤ _; rw [List.size_toArray]; exact hlc
          have hXl : X.data.toList = c.label := by rw [hX]
          have hXe : X.toList.isEmpty = (c.label == []) := by rw [hX, toList_data]; cases c.label <;> rfl
          have HX := Lib.hid hXl
          clear hX hXl
          have hkp : ∀ o, BdI w cs k (wr.alloc o) := fun o => by
            obtain ⟨D, ⟨es, cl, hb, r1, r2, r3⟩, hCnt⟩ := HB2.out.own
            exact ⟨HB2.out.low.alloc hz2 _, D, ⟨es, cl, (Below.heap_alloc _ _ _ (block_lt hb)).trans hb, r1, r2, r3⟩, hCnt⟩
          have HKp := Lib.hid hkp
          clear hkp
          cases he : (c.label == []) with
          | true =>
            rw [he] at hXe
            have HE := Lib.hid he
            clear he
            go_wp2_with fail
            go_roundw
            case rel =>
              refine ⟨j + 1, by omega, by go_num, HKp.out _, fun r hr c' hc' => ?_⟩
              by_cases hrj : r = j
              · subst hrj
                have := HC.out
                rw [this] at hc'
                cases hc'
                rw [HE.out]; rfl
              · exact HA.out r (by omega) c' hc'
            case measure => simp [RowKit.intOf]; omega
          | false =>
            rw [he] at hXe
            have HE := Lib.hid he
            clear he
            obtain ⟨D, hD, hCnt⟩ := HB2.out.own
            have HD := Lib.hid hD
            have HCn := Lib.hid (show CntD D cs by rw [List.take_of_length_le (by have := HN.out; omega)] at hCnt; exact hCnt)
            have hkey : keyOf Tryz.prog 9 (.string X) = some (.string c.label) := by rw [← HX.out]; exact WideMaps.keyOf_string_mk Tryz.underlying9 (by unfold maxLen; omega)
            have HK := Lib.hid hkey
            have hown1 : ∀ o, (wr.alloc o).ownsMap Tryz.prog 9 (plainElem (H := Unit) Tryz.prog 3) w.heap.size k D := fun o => by
              obtain ⟨es, cl, hb, r⟩ := HD.out
              exact ⟨es, cl, (Below.heap_alloc _ _ _ (block_lt hb)).trans hb, r⟩
            have HO1 := Lib.hid hown1
            clear hown1 hD hCnt hkey
            have hrun : ∀ o, (Instr.lookup 56 (.map (some w.heap.size)) (.string X) false).run Tryz.prog (wr.alloc o) = .ok (.int .i64 (standsN cs c.label : Int)) (wr.alloc o) := fun o => by
              obtain ⟨cn, hr, hat, _⟩ := (HO1.out o).lookup_int str_law Tryz.underlying56 Tryz.underlying3 (zeroI _) HK.out
              have h2 := HCn.out c.label
              rw [hat] at h2
              rw [hr, (Lit.int.inj (DataW.lit.inj h2)).2]
            by_cases h1 : standsN cs c.label = 1
            · have hrun1 : ∀ o, (Instr.lookup 56 (.map (some w.heap.size)) (.string X) false).run Tryz.prog (wr.alloc o) = .ok (.int .i64 1) (wr.alloc o) := fun o => by
                rw [hrun o, h1]; rfl
              have H1 := Lib.hid h1
              clear h1 hrun
              go_wp2_with fail
              go_roundw
              case rel =>
                refine ⟨j + 1, by omega, by go_num, HKp.out _, fun r hr c' hc' => ?_⟩
                by_cases hrj : r = j
                · subst hrj
                  have := HC.out
                  rw [this] at hc'
                  cases hc'
                  rw [H1.out]; simp
                · exact HA.out r (by omega) c' hc'
              case measure => simp [RowKit.intOf]; omega
            · have hbd : boundD cs = false := by
                unfold boundD
                rw [List.all_eq_false]
                refine ⟨c, HMem.out, ?_⟩
                rw [HE.out]
                simpa using h1
              have HBd := Lib.hid hbd
              clear hbd
              have hcn : ((standsN cs c.label : Int) == 1) = false := by rw [beq_eq_false_iff_ne]; omega
              clear h1
              generalize (standsN cs c.label : Int) = cn at hcn hrun
              go_wp2_with fail
              try rw [Exit.noGoto_ret]
              refine bodyPost_ret (results_tmp rfl _ _ _) rfl ⟨by rw [HBd.out]; rfl, (HKp.out _).low⟩
        · have hbd : boundD cs = true := by
            unfold boundD
            rw [List.all_eq_true]
            intro c hc
            obtain ⟨r, hr⟩ := List.getElem?_of_mem hc
            have hrl : r < cs.length := by
              by_cases h : r < cs.length
              · exact h
              · rw [List.getElem?_eq_none (by omega)] at hr; cases hr
            exact HA.out r (by have := HN.out; omega) c hr
          have HBd := Lib.hid hbd
          clear hbd hsr2
          go_wp2_with fail
          exact bodyPost_ret (results_tmp rfl _ _ _) rfl ⟨by rw [HBd.out]; rfl, HB2.out.low⟩
end Go.Proofs.YtkgpnlldlekcbaaGreatDoor
namespace Go.Proofs.YtkgpnlldlekcbaaGreatDoor
open Go.RowKit Go.Lib

def isLab (x : List UInt8) (c : Cm) : Bool := c.op == 58 && c.label == x
def jumpB (cs : List Cm) (x : List UInt8) : Bool := cs.any (isLab x)
def jumpK (cs : List Cm) (x : List UInt8) : Nat := if cs.any (isLab x) then cs.findIdx (isLab x) else 0
theorem at_lt {α : Type} {l : List α} {k : Nat} {a : α} (h : l[k]? = some a) : k < l.length := by
  by_cases h2 : k < l.length
  · exact h2
  · rw [List.getElem?_eq_none (by omega)] at h; cases h
theorem jump_at {cs : List Cm} {x : List UInt8} {k : Nat} {c : Cm} (hc : cs[k]? = some c) (h : isLab x c = true) (hn : ∀ r, r < k → ∀ d, cs[r]? = some d → isLab x d = false) : jumpB cs x = true ∧ jumpK cs x = k := by
  have h1 : cs.any (isLab x) = true := List.any_eq_true.2 ⟨c, List.mem_of_getElem? hc, h⟩
  have hk := at_lt hc
  refine ⟨h1, ?_⟩
  unfold jumpK
  rw [if_pos h1, List.findIdx_eq hk]
  refine ⟨?_, fun j hj => ?_⟩
  · rw [List.getElem?_eq_getElem hk] at hc
    cases hc
    exact h
  · exact hn j hj _ (List.getElem?_eq_getElem (by omega))
theorem jump_none {cs : List Cm} {x : List UInt8} (hn : ∀ r, r < cs.length → ∀ d, cs[r]? = some d → isLab x d = false) : jumpB cs x = false ∧ jumpK cs x = 0 := by
  have h1 : cs.any (isLab x) = false := by
    rw [List.any_eq_false]
    intro c hc
    obtain ⟨r, hr⟩ := List.getElem?_of_mem hc
    rw [hn r (at_lt hr) c hr]
    simp
  refine ⟨h1, ?_⟩
  unfold jumpK
  rw [if_neg (by rw [h1]; simp)]
theorem label_eq (c : Cm) (X : ByteArray) : ((⟨c.label.toArray⟩ : ByteArray).toList == X.toList) = (c.label == X.data.toList) := by
  rw [ByteArray.toList_eq, ByteArray.toList_eq]
set_option maxHeartbeats 4000000 in
set_option maxRecDepth 20000 in
theorem jump_any (B : Nat) (cs : List Cm) (v : Value) (X : ByteArray) (w : World) (h : ScrS B cs v w) (hl : cs.length ≤ 1000000000) :
    Calls Tryz.prog 115 #[v, .string X] w fun e w' => e = .returned (.tuple #[.int .i64 (jumpK cs X.data.toList : Int), .bool (jumpB cs X.data.toList)]) ∧ Below w.heap.size w w' := by
  obtain ⟨ao, cap, rfl⟩ := h.shape
  obtain ⟨n, hn⟩ : ∃ n, n = cs.length := ⟨_, rfl⟩
  rw [← hn] at h hl ⊢
  obtain ⟨x, hx⟩ : ∃ x, x = X.data.toList := ⟨_, rfl⟩
  rw [← hx]
  have HX := Lib.hid hx
  have HS := Lib.hid h
  have HN := Lib.hid hn
  clear h hn hx
  go_enter Tryz.func115, Tryz.ntmps115
  go_wp2_with fail
  go_loopw [10] (fun i wr => ∃ k : Nat, k ≤ n ∧ i = .int .i64 k ∧ Hid (Below w.heap.size w wr) ∧ Hid (∀ r, r < k → ∀ d, cs[r]? = some d → isLab x d = false)) (fun i _ => n - (RowKit.intOf i).toNat)
  case atStart => exact ⟨0, Nat.zero_le _, rfl, Below.refl _ _, fun r hr => by omega⟩
  case round =>
    obtain ⟨k, hk, rfl, HB, HA⟩ := hrel
    have hsr := HS.out.below HB.out
    by_cases hlt : k < n
    · have hltI : (k : Int) < (n : Int) := by omega
      obtain ⟨c, hc⟩ : ∃ c, cs[k]? = some c := ⟨cs[k]'(by have := HN.out; omega), List.getElem?_eq_getElem _⟩
      obtain ⟨g, p1, p2, p3, b1, b2, b3, d1, d2, d3, q1, q2, q3, rfl, hgl, hcm, ⟨a0, a1, a2, a3, a4, a5, a6, a7, a8, a9, a10, a11, a12⟩⟩ := hsr.row hc
      have hz := HB.out.size
      have HC := Lib.hid hc
      have hle := label_eq c X
      rw [← HX.out] at hle
      obtain ⟨Y, hY⟩ : ∃ Y : ByteArray, Y = ⟨c.label.toArray⟩ := ⟨_, rfl⟩
      rw [← hY] at a12 hle
      clear hcm hc hsr hY
      obtain ⟨q, hq⟩ : ∃ q, (Y.toList == X.toList) = q := ⟨_, rfl⟩
      rw [hq] at hle
      have HQ := Lib.hid hle
      clear hle
      by_cases h58 : c.op = 58
      · have e58 : ((c.op.toNat : Int) == 58) = true := by rw [h58]; rfl
        cases q with
        | true =>
          have hj : jumpB cs x = true ∧ jumpK cs x = k := jump_at HC.out (by unfold isLab; rw [h58, ← HQ.out]; rfl) HA.out
          have HJ := Lib.hid hj
          clear hj h58
          go_wp2_with fail
          refine bodyPost_ret (results_tmp2 rfl _ _ _) rfl ⟨by rw [HJ.out.1, HJ.out.2]; rfl, HB.out.alloc hz _⟩
        | false =>
          have hno : isLab x c = false := by unfold isLab; rw [h58, ← HQ.out]; rfl
          have HNo := Lib.hid hno
          clear hno h58
          go_wp2_with fail
          go_roundw
          case rel =>
            refine ⟨k + 1, by omega, by go_num, HB.out.alloc hz _, fun r hr d hd => ?_⟩
            by_cases hrk : r = k
            · subst hrk
              rw [HC.out] at hd
              cases hd
              exact HNo.out
            · exact HA.out r (by omega) d hd
          case measure => simp [RowKit.intOf]; omega
      · have e58 : ((c.op.toNat : Int) == 58) = false := ne_byte (d := 58) h58
        have hno : isLab x c = false := by unfold isLab; rw [show (c.op == 58) = false from by rw [beq_eq_false_iff_ne]; exact h58]; rfl
        have HNo := Lib.hid hno
        clear hno h58
        go_wp2_with fail
        go_roundw
        case rel =>
          refine ⟨k + 1, by omega, by go_num, HB.out.alloc hz _, fun r hr d hd => ?_⟩
          by_cases hrk : r = k
          · subst hrk
            rw [HC.out] at hd
            cases hd
            exact HNo.out
          · exact HA.out r (by omega) d hd
        case measure => simp [RowKit.intOf]; omega
    · have hj : jumpB cs x = false ∧ jumpK cs x = 0 := jump_none (fun r hr d hd => HA.out r (by have := HN.out; omega) d hd)
      have HJ := Lib.hid hj
      clear hj hsr
      go_wp2_with fail
      refine bodyPost_ret (results_tmp2 rfl _ _ _) rfl ⟨by rw [HJ.out.1, HJ.out.2]; rfl, HB.out⟩
end Go.Proofs.YtkgpnlldlekcbaaGreatDoor
namespace Go.Proofs.YtkgpnlldlekcbaaGreatDoor
open Go.RowKit Go.Lib

/-- How a run stands between two steps: inc: within a cycle. -/
structure Sn where
  pat : ByteArray
  hold : ByteArray
  num : Nat
  pos : Nat
  chg : Bool
  out : List ByteArray
  on : List Bool
  inc : Bool
/-- Where a label leads. -/
def placeD (cs : List Cm) (x : List UInt8) : Nat := if x = [] then cs.length else if jumpB cs x then jumpK cs x else cs.length
/-- What stands outside: does an expression stand in a text; what a substitution makes of a text, and how many it replaces; how long a text may be for either; how many lines may be put out. -/
structure Ora where
  I : Tr → ByteArray → Bool
  S : Cm → ByteArray → ByteArray × Nat
  L : Nat
  C : Nat
section
variable (O : Ora) (cs : List Cm) (xs : List ByteArray) (q : Bool)
def tellsD (s : Sn) : Ad → Bool
  | .none => false
  | .line n => n == s.num
  | .last => s.num == xs.length
  | .re t => O.I t s.pat
def pastD (s : Sn) : Ad → Bool
  | .line n => decide (n ≤ s.num)
  | _ => false
def isRe : Ad → Bool
  | .re _ => true
  | _ => false
/-- Is the command meant by its addresses, and is it on behind that (of one with two)? -/
def addrD (s : Sn) (k : Nat) (c : Cm) : Bool × List Bool :=
  if c.a.k = 0 then (true, s.on)
  else if c.b.k = 0 then (tellsD O xs s c.a, s.on)
  else if s.on.getD k false then (true, s.on.set k (!tellsD O xs s c.b && !pastD s c.b))
  else (tellsD O xs s c.a, s.on.set k (tellsD O xs s c.a && !pastD s c.b))
/-- Is an expression looked for? -/
def lookD (s : Sn) (k : Nat) (c : Cm) : Bool :=
  if c.a.k = 0 then false
  else if c.b.k = 0 then isRe c.a
  else if s.on.getD k false then isRe c.b else isRe c.a
def outD (s : Sn) : Sn := { s with out := s.out ++ [s.pat] }
def endD (s : Sn) : Sn := if q then s else outD s
/-- The next line. -/
def takeD (s : Sn) : Sn := { s with pat := xs.getD s.num ⟨#[]⟩, num := s.num + 1 }
inductive Fl where
  | further | cut | stop | burst
def Fl.n : Fl → Int
  | .further => 0
  | .cut => 1
  | .stop => 2
  | .burst => 3
def lineB : ByteArray := ⟨#[10]⟩
/-- A command that is meant. -/
def doD (c : Cm) (s : Sn) : Fl × Sn :=
  if c.op = 112 then (.further, outD s)
  else if c.op = 100 then (.cut, s)
  else if c.op = 113 then (.stop, endD q s)
  else if c.op = 110 then (if s.num = xs.length then (.stop, endD q s) else (.further, takeD xs (endD q s)))
  else if c.op = 104 then (.further, { s with hold := s.pat })
  else if c.op = 72 then (if 65536 < s.hold.size + 1 + s.pat.size then (.burst, s) else (.further, { s with hold := s.hold ++ (lineB ++ s.pat) }))
  else if c.op = 103 then (.further, { s with pat := s.hold })
  else if c.op = 71 then (if 65536 < s.pat.size + 1 + s.hold.size then (.burst, s) else (.further, { s with pat := s.pat ++ (lineB ++ s.hold) }))
  else if c.op = 120 then (.further, { s with pat := s.hold, hold := s.pat })
  else if c.op = 115 then
    (if (O.S c s.pat).2 = 0 then (.further, s) else if 65536 < (O.S c s.pat).1.size then (.burst, s)
      else (.further, if c.prt then outD { s with pat := (O.S c s.pat).1, chg := true } else { s with pat := (O.S c s.pat).1, chg := true }))
  else if c.op = 98 then (.further, { s with pos := placeD cs c.label })
  else if c.op = 116 then (.further, if s.chg then { s with chg := false, pos := placeD cs c.label } else s)
  else (.further, s)
def opsL : List UInt8 := [112, 100, 113, 110, 104, 72, 103, 71, 120, 115, 98, 116]
/-- A command that is come to. -/
def comeD (c : Cm) (s : Sn) : Fl × Sn :=
  if opsL.contains c.op then
    (if (addrD O xs s s.pos c).1 = c.neg then (.further, { s with on := (addrD O xs s s.pos c).2, pos := s.pos + 1 })
      else doD O cs xs q c { s with on := (addrD O xs s s.pos c).2, pos := s.pos + 1 })
  else (.further, { s with pos := s.pos + 1 })
/-- Is an expression looked for in a text that is too long? -/
def farD (c : Cm) (s : Sn) : Bool :=
  decide (O.L < s.pat.size) && opsL.contains c.op && (lookD s s.pos c || (c.op == 115 && (addrD O xs s s.pos c).1 != c.neg))
/-- At the commands' end the cycle ends. -/
def normD (s : Sn) : Sn := if s.inc && decide (cs.length ≤ s.pos) then { endD q s with inc := false } else s
def overD (s : Sn) : Bool := !s.inc && decide (xs.length ≤ s.num)
inductive Nx where
  | go (s : Sn)
  | stop (s : Sn) (e : Int)
  | far
def cycD (s : Sn) : Sn := { takeD xs s with pos := 0, chg := false, inc := true }
def flowD : Fl × Sn → Nx
  | (.further, s) => .go s
  | (.cut, s) => .go { s with inc := false }
  | (.stop, s) => .stop s 0
  | (.burst, s) => .stop s 6
/-- What one of fuel does. -/
def oneD (s : Sn) : Nx :=
  if s.inc then (match cs[s.pos]? with
    | some c => if farD O xs c s then .far else flowD (comeD O cs xs q c s)
    | none => .far)
  else .go (cycD xs s)
def runD : Nat → Sn → Option (List ByteArray × Nat × Int)
  | 0, s => if O.C ≤ (normD cs q s).out.length then none else if overD xs (normD cs q s) then some ((normD cs q s).out, 0, 0) else some ((normD cs q s).out, 0, 10)
  | n + 1, s => if O.C ≤ (normD cs q s).out.length then none else if overD xs (normD cs q s) then some ((normD cs q s).out, n + 1, 0) else match oneD O cs xs q (normD cs q s) with
    | .go s' => runD n s'
    | .stop s' e => some (s'.out, n, e)
    | .far => none
def startD : Sn := { pat := ⟨#[]⟩, hold := ⟨#[]⟩, num := 0, pos := 0, chg := false, out := [], on := List.replicate cs.length false, inc := false }
theorem norm_out {s : Sn} (h : s.inc = false) : normD cs q s = s := by unfold normD; rw [h]; rfl
theorem norm_in {s : Sn} (_h : s.inc = true) (hp : s.pos < cs.length) : normD cs q s = s := by
  unfold normD
  rw [show decide (cs.length ≤ s.pos) = false from by simpa using hp, Bool.and_false]
  rfl
theorem norm_end {s : Sn} (h : s.inc = true) (hp : cs.length ≤ s.pos) : normD cs q s = { endD q s with inc := false } := by
  unfold normD
  rw [h, show decide (cs.length ≤ s.pos) = true from by simpa using hp]
  rfl
/-- There is room for what is put out. -/
theorem run_room (n : Nat) {s : Sn} {r : List ByteArray × Nat × Int} (h : runD O cs xs q n s = some r) : (normD cs q s).out.length < O.C := by
  by_cases hC : O.C ≤ (normD cs q s).out.length
  · cases n with
    | zero => unfold runD at h; rw [if_pos hC] at h; cases h
    | succ n => unfold runD at h; rw [if_pos hC] at h; cases h
  · omega
theorem norm_le (s : Sn) : s.out.length ≤ (normD cs q s).out.length := by
  unfold normD endD outD
  split
  · split <;> simp
  · exact Nat.le_refl _
/-- All lines were taken. -/
theorem run_over (n : Nat) {s : Sn} (hC : s.out.length < O.C) (h : s.inc = false) (hn : xs.length ≤ s.num) : runD O cs xs q n s = some (s.out, n, 0) := by
  have h1 := norm_out cs q h
  have h2 : overD xs s = true := by unfold overD; rw [h]; simpa using hn
  cases n with
  | zero => unfold runD; rw [h1, if_neg (by omega), h2]; rfl
  | succ n => unfold runD; rw [h1, if_neg (by omega), h2]; rfl
theorem run_none {s : Sn} (hC : s.out.length < O.C) (h : s.inc = false) (hn : s.num < xs.length) : runD O cs xs q 0 s = some (s.out, 0, 10) := by
  have h1 := norm_out cs q h
  have h2 : overD xs s = false := by unfold overD; rw [h]; simpa using hn
  unfold runD
  rw [h1, if_neg (by omega), h2]
  rfl
theorem run_cyc (n : Nat) {s : Sn} (hC : s.out.length < O.C) (h : s.inc = false) (hn : s.num < xs.length) : runD O cs xs q (n + 1) s = runD O cs xs q n (cycD xs s) := by
  have h1 := norm_out cs q h
  have h2 : overD xs s = false := by unfold overD; rw [h]; simpa using hn
  have h3 : oneD O cs xs q s = .go (cycD xs s) := by unfold oneD; rw [h]; rfl
  conv => lhs; unfold runD
  rw [h1, if_neg (by omega), h2, h3]
  rfl
theorem run_end (n : Nat) {s : Sn} (h : s.inc = true) (hp : cs.length ≤ s.pos) : runD O cs xs q n s = runD O cs xs q n { endD q s with inc := false } := by
  have h1 := norm_end cs q h hp
  have h2 : normD cs q { endD q s with inc := false } = { endD q s with inc := false } := norm_out cs q rfl
  cases n with
  | zero => unfold runD; rw [h1, h2]
  | succ n => unfold runD; rw [h1, h2]
theorem run_dry {s : Sn} (hC : s.out.length < O.C) (h : s.inc = true) (hp : s.pos < cs.length) : runD O cs xs q 0 s = some (s.out, 0, 10) := by
  have h1 := norm_in cs q h hp
  have h2 : overD xs s = false := by unfold overD; rw [h]; rfl
  unfold runD
  rw [h1, if_neg (by omega), h2]
  rfl
theorem run_step (n : Nat) {s : Sn} {c : Cm} (hC : s.out.length < O.C) (h : s.inc = true) (hc : cs[s.pos]? = some c) : runD O cs xs q (n + 1) s = if farD O xs c s then none else match flowD (comeD O cs xs q c s) with
    | .go s' => runD O cs xs q n s'
    | .stop s' e => some (s'.out, n, e)
    | .far => none := by
  have hp : s.pos < cs.length := by
    by_cases h : s.pos < cs.length
    · exact h
    · rw [List.getElem?_eq_none (by omega)] at hc; cases hc
  have h1 := norm_in cs q h hp
  have h2 : overD xs s = false := by unfold overD; rw [h]; rfl
  have h3 : oneD O cs xs q s = if farD O xs c s then .far else flowD (comeD O cs xs q c s) := by unfold oneD; rw [h, hc]; rfl
  conv => lhs; unfold runD
  rw [h1, if_neg (by omega), h2, h3]
  by_cases hf : farD O xs c s = true
  · rw [if_pos hf, if_pos hf]; rfl
  · rw [if_neg hf, if_neg hf]; rfl
end
end Go.Proofs.YtkgpnlldlekcbaaGreatDoor
namespace Go.Proofs.YtkgpnlldlekcbaaGreatDoor
open Go.RowKit Go.Lib Go.Maps

/-- What a run has, that no step changes: its blocks (the run's own, that of what is on, the map of places), the arguments, the world in which it began, how many lines may be put out, a block that stays (the map of commands). -/
structure RC where
  B : Nat
  p : Nat
  g : Nat
  m : Nat
  vl : Value
  vx : Value
  q : Bool
  cs : List Cm
  xs : List ByteArray
  w0 : World
  C : Nat
  ko : Option Nat
  kp : Obj → Prop
/-- What holds of them. -/
structure RC.Ok (E : RC) : Prop where
  eB : E.B = E.w0.heap.size
  pB : E.B ≤ E.p
  gB : E.B ≤ E.g
  mB : E.B ≤ E.m
  scr : ∃ B', ScrS B' E.cs E.vl E.w0
  str : Strs E.vx E.xs E.w0
  xsz : ∀ x ∈ E.xs, x.size ≤ 140737488355328
  csl : E.cs.length ≤ 1000000000
  lab : ∀ c ∈ E.cs, c.label.length ≤ 1000000000
  cap : E.C * 16 ≤ 140737488355328
  koM : ∀ b, E.ko = some b → b ≠ E.m
/-- The cells of a run's block. -/
def rowR (E : RC) (s : Sn) (n : Nat) (vo : Value) : List Value := [.string s.pat, .string s.hold, E.vl, E.vx, .bool E.q, .int .i64 (n : Int), vo, .int .i64 (s.num : Int), .int .i64 (s.pos : Int), .bool s.chg, .slice (some ⟨E.g, 0, none⟩) E.cs.length E.cs.length, .map (some E.m)]
/-- What the map of places holds. -/
def PlcD (cs : List Cm) (D : DataW Unit) : Prop := ∀ x : List UInt8, (Maps.has D (.string x) = true → ∀ z, D.atKey (.string x) z = .lit (.int .i64 (placeD cs x : Int))) ∧ (x = [] → Maps.has D (.string x) = true)
/-- A run as it stands: n of fuel is left, d more entries than that may come into the map. -/
structure RunM (E : RC) (s : Sn) (n d : Nat) (w : World) : Prop where
  low : Below E.B E.w0 w
  row : ∃ vo, w.heap[E.p]? = some (.cells ⟨rowR E s n vo⟩ 60 (0, 0)) ∧ w.ownsRow E.B 9 1 vo s.out.length (strC s.out)
  on : w.heap[E.g]? = some (.cells ⟨s.on.map Value.bool⟩ 4 (0, 0))
  onl : s.on.length = E.cs.length
  map : ∃ k D, w.ownsMap Tryz.prog 9 (plainElem (H := Unit) Tryz.prog 3) E.m k D ∧ k + n + d ≤ 1152921504606846976 ∧ PlcD E.cs D
  ps : s.pat.size ≤ 140737488355328
  hs : s.hold.size ≤ 140737488355328
  nm : s.num ≤ E.xs.length
  ou : s.out.length ≤ E.C
  po : s.pos ≤ E.cs.length
  kb : ∀ b, E.ko = some b → ∃ es cl, w.heap[b]? = some (.map es cl) ∧ E.kp (.map es cl)
theorem RunM.fewer {E : RC} {s : Sn} {n d d' : Nat} {w : World} (h : RunM E s n d w) (hd : d' ≤ d) : RunM E s n d' w := by
  obtain ⟨k, D, h1, h2, h3⟩ := h.map
  exact { h with map := ⟨k, D, h1, by omega, h3⟩ }
theorem RunM.low' {E : RC} {s : Sn} {n d : Nat} {w : World} (hE : E.Ok) (h : RunM E s n d w) : Below E.w0.heap.size E.w0 w := by
  have := h.low
  rw [hE.eB] at this
  exact this
theorem RunM.plt {E : RC} {s : Sn} {n d : Nat} {w : World} (h : RunM E s n d w) : E.p < w.heap.size := by
  obtain ⟨vo, h1, _⟩ := h.row
  exact block_lt h1
theorem RunM.Blt {E : RC} {s : Sn} {n d : Nat} {w : World} (hE : E.Ok) (h : RunM E s n d w) : E.B ≤ w.heap.size := by
  have := h.plt
  have := hE.pB
  omega
theorem RunM.cells {E : RC} {s : Sn} {n d : Nat} {w : World} (h : RunM E s n d w) : ∃ ao cap, 
    w.cell? ⟨E.p, 0, none⟩ = some (.string s.pat) ∧ w.cell? ⟨E.p, 1, none⟩ = some (.string s.hold) ∧ w.cell? ⟨E.p, 2, none⟩ = some E.vl ∧ w.cell? ⟨E.p, 3, none⟩ = some E.vx ∧ w.cell? ⟨E.p, 4, none⟩ = some (.bool E.q) ∧ w.cell? ⟨E.p, 5, none⟩ = some (.int .i64 (n : Int)) ∧ w.cell? ⟨E.p, 6, none⟩ = some (.slice ao s.out.length cap) ∧ w.cell? ⟨E.p, 7, none⟩ = some (.int .i64 (s.num : Int)) ∧ w.cell? ⟨E.p, 8, none⟩ = some (.int .i64 (s.pos : Int)) ∧ w.cell? ⟨E.p, 9, none⟩ = some (.bool s.chg) ∧ w.cell? ⟨E.p, 10, none⟩ = some (.slice (some ⟨E.g, 0, none⟩) E.cs.length E.cs.length) ∧ w.cell? ⟨E.p, 11, none⟩ = some (.map (some E.m)) := by
  obtain ⟨vo, h1, h2⟩ := h.row
  obtain ⟨ao, cap, rfl⟩ := own_zeroB h2
  exact ⟨ao, cap, by rw [cell_of_heap h1]; rfl, by rw [cell_of_heap h1]; rfl, by rw [cell_of_heap h1]; rfl, by rw [cell_of_heap h1]; rfl, by rw [cell_of_heap h1]; rfl, by rw [cell_of_heap h1]; rfl, by rw [cell_of_heap h1]; rfl, by rw [cell_of_heap h1]; rfl, by rw [cell_of_heap h1]; rfl, by rw [cell_of_heap h1]; rfl, by rw [cell_of_heap h1]; rfl, by rw [cell_of_heap h1]; rfl⟩
theorem RunM.frozen {E : RC} {s : Sn} {n d : Nat} {w : World} (h : RunM E s n d w) (i : Nat) : w.frozen? ⟨E.p, i, none⟩ = false := by
  obtain ⟨vo, h1, h2⟩ := h.row
  exact frozen_of_heap h1 i
theorem cell_stays {w w' : World} {a : Addr} {v : Value} (hb : Below w.heap.size w w') (h : w.cell? a = some v) : w'.cell? a = some v := (World.cell?_of_block (hb.block a.block (World.block_lt_of_cell? _ _ h))).trans h
/-- A world in which the run's blocks are as they were. -/
theorem RunM.kept {E : RC} {s : Sn} {n d : Nat} {w w' : World} (h : RunM E s n d w) (hb : Below w.heap.size w w') (hB : E.B ≤ w.heap.size) : RunM E s n d w' := by
  obtain ⟨vo, h1, h2⟩ := h.row
  obtain ⟨k, D, ⟨es, cl, h3, r⟩, h4⟩ := h.map
  exact { h with
    low := h.low.trans (hb.mono hB)
    row := ⟨vo, (hb.block _ (block_lt h1)).trans h1, owns_same h2 fun q hq => hb.block q (own_block_lt h2 hq)⟩
    on := (hb.block _ (block_lt h.on)).trans h.on
    map := ⟨k, D, ⟨es, cl, (hb.block _ (block_lt h3)).trans h3, r⟩, h4⟩
    kb := fun b e => by
      obtain ⟨es, cl, g1, g2⟩ := h.kb b e
      exact ⟨es, cl, (hb.block _ (block_lt g1)).trans g1, g2⟩ }
theorem RunM.below {E : RC} {s : Sn} {n d : Nat} {w w' : World} (hE : E.Ok) (h : RunM E s n d w) (hb : Below w.heap.size w w') : RunM E s n d w' := h.kept hb (h.Blt hE)
/-- One cell of the run's block stored. -/
theorem RunM.set {E : RC} {s : Sn} {n d : Nat} {w : World} (hE : E.Ok) (h : RunM E s n d w) (i : Nat) (v : Value) (s' : Sn) (n' d' : Nat) (hr : ∀ vo, (rowR E s n vo).set i v = rowR E s' n' vo) (ho : s'.out = s.out) (hon : s'.on = s.on) (hk : n' + d' ≤ n + d)
    (hp : s'.pat.size ≤ 140737488355328) (hh : s'.hold.size ≤ 140737488355328) (hn : s'.num ≤ E.xs.length) (hpo : s'.pos ≤ E.cs.length) : RunM E s' n' d' (w.setCell ⟨E.p, i, none⟩ v) := by
  obtain ⟨vo, h1, h2⟩ := h.row
  obtain ⟨k, D, ⟨es, cl, h3, r⟩, h4, h5⟩ := h.map
  have hne : vo.ownBlock ≠ some E.p := owns_kind h2 h1 (by decide)
  have hg : E.g ≠ E.p := fun e => by
    have := h.on
    rw [e, h1] at this
    injection this with this
    injection this with _ this _
    exact absurd this (by decide)
  have hm : E.m ≠ E.p := fun e => by
    rw [e, h1] at h3
    injection h3 with h3
    cases h3
  refine ⟨h.low.setCell (p := ⟨E.p, i, none⟩) hE.pB v, ⟨vo, ?_, ?_⟩, ?_, by rw [hon]; exact h.onl, ⟨k, D, ⟨es, cl, ?_, r⟩, by omega, h5⟩, hp, hh, hn, by rw [ho]; exact h.ou, hpo, fun b e => ?_⟩
  · have := Go.heap_setCell_same w E.p i _ _ v h1
    rw [← hr vo]
    simpa using this
  · rw [ho]
    exact owns_same h2 fun q hq => Below.heap_setCell _ _ _ _ (fun e => hne (by rw [hq]; simp [e]))
  · rw [hon]
    exact (Below.heap_setCell _ _ _ _ hg).trans h.on
  · exact (Below.heap_setCell _ _ _ _ hm).trans h3
  · obtain ⟨es', cl', g1, g2⟩ := h.kb b e
    refine ⟨es', cl', (Below.heap_setCell _ _ _ _ (fun eb => ?_)).trans g1, g2⟩
    rw [show b = E.p from eb, h1] at g1
    cases g1
end Go.Proofs.YtkgpnlldlekcbaaGreatDoor
namespace Go.Proofs.YtkgpnlldlekcbaaGreatDoor
open Go.RowKit Go.Lib Go.Maps
attribute [local go_sem] Oper.semAt_some

set_option maxHeartbeats 1000000 in
set_option maxRecDepth 20000 in
theorem pay_yes (E : RC) (hE : E.Ok) (s : Sn) (n : Nat) (w : World) (h : RunM E s (n + 1) 0 w) :
    Calls Tryz.prog 40 #[.pointer (some ⟨E.p, 0, none⟩)] w fun e w' => e = .returned (.bool true) ∧ RunM E s n 1 w' := by
  obtain ⟨ao, cap, c0, c1, c2, c3, c4, c5, c6, c7, c8, c9, c10, c11⟩ := h.cells
  have f5 := h.frozen 5
  have h2 := h.set hE 5 (.int .i64 (n : Int)) s n 1 (fun vo => rfl) rfl rfl (by omega) h.ps h.hs h.nm h.po
  have hb : (n : Int) ≤ 1152921504606846976 := by obtain ⟨k, D, _, h1, _⟩ := h.map; omega
  have hn0 : (0 : Int) ≤ (n : Int) := by omega
  have c5' : w.cell? ⟨E.p, 5, none⟩ = some (.int .i64 ((n : Int) + 1)) := by rw [c5]; rfl
  have hne : ((n : Int) + 1 == 0) = false := by rw [beq_eq_false_iff_ne]; omega
  have H2 := Lib.hid h2
  clear h2 h c5 c0 c1 c2 c3 c4 c6 c7 c8 c9 c10 c11
  go_enter Tryz.func40, Tryz.ntmps40
  go_wp2
  exact bodyPost_ret (results_tmp rfl _ _ _) rfl ⟨rfl, H2.out⟩
set_option maxHeartbeats 1000000 in
set_option maxRecDepth 20000 in
theorem pay_no (E : RC) (s : Sn) (d : Nat) (w : World) (h : RunM E s 0 d w) :
    Calls Tryz.prog 40 #[.pointer (some ⟨E.p, 0, none⟩)] w fun e w' => e = .returned (.bool false) ∧ w' = w := by
  obtain ⟨ao, cap, c0, c1, c2, c3, c4, c5, c6, c7, c8, c9, c10, c11⟩ := h.cells
  have c5' : w.cell? ⟨E.p, 5, none⟩ = some (.int .i64 0) := c5
  clear h c5 c0 c1 c2 c3 c4 c6 c7 c8 c9 c10 c11
  go_enter Tryz.func40, Tryz.ntmps40
  go_wp2
  exact bodyPost_ret (results_tmp rfl _ _ _) rfl ⟨rfl, rfl⟩

theorem getD_of {α : Type} {l : List α} {k : Nat} {a d : α} (h : l[k]? = some a) : l.getD k d = a := by rw [List.getD_eq_getElem?_getD, h]; rfl
set_option maxHeartbeats 2000000 in
set_option maxRecDepth 20000 in
theorem take9_any (E : RC) (hE : E.Ok) (s : Sn) (n d : Nat) (w : World) (h : RunM E s n d w) (hlt : s.num < E.xs.length) :
    Calls Tryz.prog 41 #[.pointer (some ⟨E.p, 0, none⟩)] w fun e w' => e = .returned (.tuple #[]) ∧ RunM E (takeD E.xs s) n d w' := by
  obtain ⟨ao, cap, c0, c1, c2, c3, c4, c5, c6, c7, c8, c9, c10, c11⟩ := h.cells
  have f0 := h.frozen 0
  have f7 := h.frozen 7
  have hx : E.xs[s.num]? = some (E.xs[s.num]'hlt) := List.getElem?_eq_getElem hlt
  have hxz := hE.xsz _ (List.getElem_mem hlt)
  have hst := hE.str.below (h.low' hE)
  generalize E.xs[s.num]'hlt = x at hx hxz
  have hv : ∃ b o c, E.vx = .slice (some ⟨b, o, none⟩) E.xs.length c ∧ w.cell? ⟨b, o + s.num, none⟩ = some (.string x) ∧ E.xs.length ≤ 140737488355328 := by
    obtain ⟨a0, c, hv, _, hl, hc⟩ := hst
    obtain ⟨b, o, rfl, _, hh⟩ := hc _ _ hx
    exact ⟨b, o, c, hv, hh, hl⟩
  obtain ⟨b, o, c, hv, hcell, hxl⟩ := hv
  have h1 := h.set hE 0 (.string x) { s with pat := x } n d (fun vo => rfl) rfl rfl (Nat.le_refl _) hxz h.hs h.nm h.po
  have h2 := h1.set hE 7 (.int .i64 ((s.num : Int) + 1)) { s with pat := x, num := s.num + 1 } n d (fun vo => rfl) rfl rfl (Nat.le_refl _) hxz h.hs hlt h.po
  have ht : takeD E.xs s = { s with pat := x, num := s.num + 1 } := by unfold takeD; rw [getD_of hx]
  rw [← ht] at h2
  rw [hv] at c3
  obtain ⟨N, hN⟩ : ∃ N, N = E.xs.length := ⟨_, rfl⟩
  rw [← hN] at c3 hlt hxl
  obtain ⟨K, hK⟩ : ∃ K, K = s.num := ⟨_, rfl⟩
  rw [← hK] at c7 hcell hlt h2
  obtain ⟨y, hy⟩ : ∃ y, y = s.pat := ⟨_, rfl⟩
  rw [← hy] at c0
  have hltI : (K : Int) < (N : Int) := by omega
  have hb : (K : Int) ≤ 140737488355328 := by omega
  have hk0 : (0 : Int) ≤ (K : Int) := by omega
  have H2 := Lib.hid h2
  have hpb : b ≠ E.p := fun e => by
    obtain ⟨a0, c, hv', _, hl, hc⟩ := hE.str
    rw [hv] at hv'
    injection hv' with hv' _ _
    obtain ⟨b', o', hb', hlt', _⟩ := hc _ _ hx
    rw [← hv'] at hb'
    cases hb'
    have := hE.pB
    have := hE.eB
    omega
  clear h2 h1 h c1 c2 c4 c5 c6 c8 c9 c10 c11 hx hst ht hN hK hy hv
  go_enter Tryz.func41, Tryz.ntmps41
  go_wp2_with fail
  go_region_law (fail)
  all_goals
    go_wp2
    go_end0
    exact ⟨rfl, H2.out.below hE ((Below.refl _ _).drew)⟩
end Go.Proofs.YtkgpnlldlekcbaaGreatDoor
