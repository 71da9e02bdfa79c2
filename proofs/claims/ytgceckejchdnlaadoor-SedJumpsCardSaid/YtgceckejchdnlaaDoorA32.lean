/- Packed texts: SeJump, SeNamed. What each of them proves stands above its theorems; the conditions stand in these. -/
import Derived.Test.YtgceckejchdnlaaDoorA13
import Derived.Test.YtgceckejchdnlaaDoorA24
namespace Go.Proofs.YtgceckejchdnlaaDoor
open Go.RowKit Go.Lib

def isLab (x : List UInt8) (c : Cm) : Bool := c.op == 58 && c.label == x
def jumpB (cs : List Cm) (x : List UInt8) : Bool := cs.any (isLab x)
def jumpK (cs : List Cm) (x : List UInt8) : Nat := if cs.any (isLab x) then cs.findIdx (isLab x) else 0
theorem at_lt {α : Type} {l : List α} {k : Nat} {a : α} (h : l[k]? = some a) : k < l.length := by
  by_cases h2 : k < l.length
  · exact h2
  · rw [List.getElem?_eq_none (by omega)] at h; cases h
theorem jump_at {cs : List Cm} {x : List UInt8} {k : Nat} {c : Cm} (hc : cs[k]? = some c) (h : isLab x c = true) (hn : ∀ r, r < k → ∀ d, cs[r]? = some d → isLab x d = false) : jumpB cs x = true ∧ jumpK cs x = k := by
  have h1 : cs.any (isLab x) = true := List.any_eq_true.2 ⟨c, List.mem_of_getElem? hc, h⟩
  have hk := at_lt hc
  refine ⟨h1, ?_⟩
  unfold jumpK
  rw [if_pos h1, List.findIdx_eq hk]
  refine ⟨?_, fun j hj => ?_⟩
  · rw [List.getElem?_eq_getElem hk] at hc
    cases hc
    exact h
  · exact hn j hj _ (List.getElem?_eq_getElem (by omega))
theorem jump_none {cs : List Cm} {x : List UInt8} (hn : ∀ r, r < cs.length → ∀ d, cs[r]? = some d → isLab x d = false) : jumpB cs x = false ∧ jumpK cs x = 0 := by
  have h1 : cs.any (isLab x) = false := by
    rw [List.any_eq_false]
    intro c hc
    obtain ⟨r, hr⟩ := List.getElem?_of_mem hc
    rw [hn r (at_lt hr) c hr]
    simp
  refine ⟨h1, ?_⟩
  unfold jumpK
  rw [if_neg (by rw [h1]; simp)]
theorem stands_lab (cs : List Cm) (x : List UInt8) : standsN cs x = (cs.filter (isLab x)).length := rfl
theorem one_only {α : Type} {p : α → Bool} : ∀ {l : List α} {i j : Nat} {a b : α}, (l.filter p).length = 1 → l[i]? = some a → p a = true → l[j]? = some b → p b = true → i = j
  | [], i, j, a, b, h, _, _, _, _ => by simp at h
  | c :: r, i, j, a, b, h, ha, pa, hb, pb => by
    cases hc : p c with
    | true =>
      rw [List.filter_cons_of_pos hc, List.length_cons] at h
      have hr : ∀ d ∈ r, p d = false := fun d hd => by
        have h0 : r.filter p = [] := List.eq_nil_of_length_eq_zero (by omega)
        have h1 := List.filter_eq_nil_iff.1 h0 d hd
        simpa using h1
      cases i with
      | zero =>
        cases j with
        | zero => rfl
        | succ j =>
          have hb : r[j]? = some b := by simpa using hb
          rw [hr b (List.mem_of_getElem? hb)] at pb; cases pb
      | succ i =>
        have ha : r[i]? = some a := by simpa using ha
        rw [hr a (List.mem_of_getElem? ha)] at pa; cases pa
    | false =>
      rw [List.filter_cons_of_neg (by rw [hc]; simp)] at h
      cases i with
      | zero => simp at ha; subst ha; rw [hc] at pa; cases pa
      | succ i =>
        cases j with
        | zero => simp at hb; subst hb; rw [hc] at pb; cases pb
        | succ j =>
          have := one_only h (by simpa using ha) pa (by simpa using hb) pb
          omega
theorem bound_one {cs : List Cm} {c : Cm} (hb : boundD cs = true) (hc : c ∈ cs) (hl : c.label ≠ []) : standsN cs c.label = 1 := by
  have := (List.all_eq_true.1 hb) c hc
  simpa [hl] using this
/-- A label that is told is found, once. -/
theorem jump_found {cs : List Cm} {c : Cm} (hb : boundD cs = true) (hc : c ∈ cs) (hl : c.label ≠ []) : jumpB cs c.label = true ∧ ∃ d, cs[jumpK cs c.label]? = some d ∧ d.op = 58 ∧ d.label = c.label := by
  have h1 := bound_one hb hc hl
  have h2 : cs.any (isLab c.label) = true := by
    rw [stands_lab] at h1
    obtain ⟨d, hd⟩ : ∃ d, d ∈ cs.filter (isLab c.label) := List.exists_mem_of_length_pos (by omega)
    rw [List.mem_filter] at hd
    exact List.any_eq_true.2 ⟨d, hd⟩
  refine ⟨h2, ?_⟩
  unfold jumpK
  rw [if_pos h2]
  obtain ⟨d, hd1, hd2⟩ := List.any_eq_true.1 h2
  have hlt : cs.findIdx (isLab c.label) < cs.length := List.findIdx_lt_length_of_exists ⟨d, hd1, hd2⟩
  refine ⟨cs[cs.findIdx (isLab c.label)], List.getElem?_eq_getElem hlt, ?_⟩
  have h3 : isLab c.label cs[cs.findIdx (isLab c.label)] = true := List.findIdx_getElem
  generalize cs[cs.findIdx (isLab c.label)] = d at h3 ⊢
  unfold isLab at h3
  simpa using h3
theorem jump_self {cs : List Cm} {c : Cm} {i : Nat} (hb : boundD cs = true) (hc : cs[i]? = some c) (hl : c.label ≠ []) (ho : c.op = 58) : jumpK cs c.label = i := by
  have hm := List.mem_of_getElem? hc
  obtain ⟨_, d, hd, h1, h2⟩ := jump_found hb hm hl
  have h3 := bound_one hb hm hl
  rw [stands_lab] at h3
  exact one_only h3 hd (by unfold isLab; rw [h1, h2]; simp) hc (by unfold isLab; rw [ho]; simp)
theorem label_eq (c : Cm) (X : ByteArray) : ((⟨c.label.toArray⟩ : ByteArray).toList == X.toList) = (c.label == X.data.toList) := by
  rw [ByteArray.toList_eq, ByteArray.toList_eq]
theorem lab_empty (l : List UInt8) : (⟨l.toArray⟩ : ByteArray).toList.isEmpty = (l == []) := by rw [toList_data]; cases l <;> rfl
set_option maxHeartbeats 4000000 in
set_option maxRecDepth 20000 in
theorem jump_any (B : Nat) (cs : List Cm) (v : Value) (X : ByteArray) (w : World) (h : ScrS B cs v w) (hl : cs.length ≤ 1000000000) :
    Calls Tryd.prog 9 #[v, .string X] w fun e w' => e = .returned (.tuple #[.int .i64 (jumpK cs X.data.toList : Int), .bool (jumpB cs X.data.toList)]) ∧ Below w.heap.size w w' := by
  obtain ⟨ao, cap, rfl⟩ := h.shape
  obtain ⟨n, hn⟩ : ∃ n, n = cs.length := ⟨_, rfl⟩
  rw [← hn] at h hl ⊢
  obtain ⟨x, hx⟩ : ∃ x, x = X.data.toList := ⟨_, rfl⟩
  rw [← hx]
  have HX := Lib.hid hx
  have HS := Lib.hid h
  have HN := Lib.hid hn
  clear h hn hx
  go_enter Tryd.func9, Tryd.ntmps9
  go_wp2_with fail
  go_loopw [10] (fun i wr => ∃ k : Nat, k ≤ n ∧ i = .int .i64 k ∧ Hid (Below w.heap.size w wr) ∧ Hid (∀ r, r < k → ∀ d, cs[r]? = some d → isLab x d = false)) (fun i _ => n - (RowKit.intOf i).toNat)
  case atStart => exact ⟨0, Nat.zero_le _, rfl, Below.refl _ _, fun r hr => by omega⟩
  case round =>
    obtain ⟨k, hk, rfl, HB, HA⟩ := hrel
    have hsr := HS.out.below HB.out
    by_cases hlt : k < n
    · have hltI : (k : Int) < (n : Int) := by omega
      obtain ⟨c, hc⟩ : ∃ c, cs[k]? = some c := ⟨cs[k]'(by have := HN.out; omega), List.getElem?_eq_getElem _⟩
      obtain ⟨g, p1, p2, p3, b1, b2, b3, d1, d2, d3, q1, q2, q3, rfl, hgl, hcm, ⟨a0, a1, a2, a3, a4, a5, a6, a7, a8, a9, a10, a11, a12⟩⟩ := hsr.row hc
      have hz := HB.out.size
      have HC := Lib.hid hc
      have hle := label_eq c X
      rw [← HX.out] at hle
      obtain ⟨Y, hY⟩ : ∃ Y : ByteArray, Y = ⟨c.label.toArray⟩ := ⟨_, rfl⟩
      rw [← hY] at a12 hle
      clear hcm hc hsr hY
      obtain ⟨q, hq⟩ : ∃ q, (Y.toList == X.toList) = q := ⟨_, rfl⟩
      rw [hq] at hle
      have HQ := Lib.hid hle
      clear hle
      by_cases h58 : c.op = 58
      · have e58 : ((c.op.toNat : Int) == 58) = true := by rw [h58]; rfl
        cases q with
        | true =>
          have hj : jumpB cs x = true ∧ jumpK cs x = k := jump_at HC.out (by unfold isLab; rw [h58, ← HQ.out]; rfl) HA.out
          have HJ := Lib.hid hj
          clear hj h58
          go_wp2_with fail
          refine bodyPost_ret (results_tmp2 rfl _ _ _) rfl ⟨by rw [HJ.out.1, HJ.out.2]; rfl, HB.out.alloc hz _⟩
        | false =>
          have hno : isLab x c = false := by unfold isLab; rw [h58, ← HQ.out]; rfl
          have HNo := Lib.hid hno
          clear hno h58
          go_wp2_with fail
          go_roundw
          case rel =>
            refine ⟨k + 1, by omega, by go_num, HB.out.alloc hz _, fun r hr d hd => ?_⟩
            by_cases hrk : r = k
            · subst hrk
              rw [HC.out] at hd
              cases hd
              exact HNo.out
            · exact HA.out r (by omega) d hd
          case measure => simp [RowKit.intOf]; omega
      · have e58 : ((c.op.toNat : Int) == 58) = false := ne_byte (d := 58) h58
        have hno : isLab x c = false := by unfold isLab; rw [show (c.op == 58) = false from by rw [beq_eq_false_iff_ne]; exact h58]; rfl
        have HNo := Lib.hid hno
        clear hno h58
        go_wp2_with fail
        go_roundw
        case rel =>
          refine ⟨k + 1, by omega, by go_num, HB.out.alloc hz _, fun r hr d hd => ?_⟩
          by_cases hrk : r = k
          · subst hrk
            rw [HC.out] at hd
            cases hd
            exact HNo.out
          · exact HA.out r (by omega) d hd
        case measure => simp [RowKit.intOf]; omega
    · have hj : jumpB cs x = false ∧ jumpK cs x = 0 := jump_none (fun r hr d hd => HA.out r (by have := HN.out; omega) d hd)
      have HJ := Lib.hid hj
      clear hj hsr
      go_wp2_with fail
      refine bodyPost_ret (results_tmp2 rfl _ _ _) rfl ⟨by rw [HJ.out.1, HJ.out.2]; rfl, HB.out⟩
end Go.Proofs.YtgceckejchdnlaaDoor
namespace Go.Proofs.YtgceckejchdnlaaDoor
open Go.RowKit Go.Lib

theorem stands_step {cs : List Cm} {j : Nat} {d : Cm} (hd : cs[j]? = some d) (x : List UInt8) : standsN (cs.take (j + 1)) x = standsN (cs.take j) x + (if isLab x d then 1 else 0) := by
  rw [List.take_add_one, hd]
  exact stands_snoc _ _ _
set_option maxHeartbeats 8000000 in
set_option maxRecDepth 20000 in
theorem named_any (B : Nat) (cs : List Cm) (v : Value) (w : World) (h : ScrS B cs v w) (hl : cs.length ≤ 1000000000) :
    Calls Tryd.prog 24 #[v] w fun e w' => e = .returned (.bool (boundD cs)) ∧ Below w.heap.size w w' := by
  obtain ⟨ao, cap, rfl⟩ := h.shape
  obtain ⟨n, hn⟩ : ∃ n, n = cs.length := ⟨_, rfl⟩
  rw [← hn] at h hl ⊢
  have HS := Lib.hid h
  have HN := Lib.hid hn
  clear h hn
  go_enter Tryd.func24, Tryd.ntmps24
  go_wp2_with fail
  go_loopw [3] (fun i wr => ∃ k : Nat, k ≤ n ∧ i = .int .i64 k ∧ Hid (Below w.heap.size w wr) ∧ Hid (∀ r, r < k → ∀ c, cs[r]? = some c → (c.label == [] || standsN cs c.label == 1) = true)) (fun i _ => n - (RowKit.intOf i).toNat)
  case atStart => exact ⟨0, Nat.zero_le _, rfl, Below.refl _ _, fun r hr => by omega⟩
  case round =>
    obtain ⟨k, hk, rfl, HB, HA⟩ := hrel
    have hsr := HS.out.below HB.out
    by_cases hlt : k < n
    · have hltI : (k : Int) < (n : Int) := by omega
      obtain ⟨c, hc⟩ : ∃ c, cs[k]? = some c := ⟨cs[k]'(by have := HN.out; omega), List.getElem?_eq_getElem _⟩
      obtain ⟨g, p1, p2, p3, b1, b2, b3, d1, d2, d3, q1, q2, q3, rfl, hgl, hcm, ⟨a0, a1, a2, a3, a4, a5, a6, a7, a8, a9, a10, a11, a12⟩⟩ := hsr.row hc
      have HC := Lib.hid hc
      have HMem := Lib.hid (List.mem_of_getElem? hc)
      obtain ⟨X, hX⟩ : ∃ X : ByteArray, X = ⟨c.label.toArray⟩ := ⟨_, rfl⟩
      rw [← hX] at a12
      have hXl : X.data.toList = c.label := by rw [hX]
      have hXe : X.toList.isEmpty = (c.label == []) := by rw [hX, toList_data]; cases c.label <;> rfl
      have HX := Lib.hid (And.intro hX hXl)
      clear hX hXl hcm hc hsr a0 a1 a2 a3 a4 a5 a6 a7 a8 a9 a10 a11
      cases he : (c.label == []) with
      | true =>
        rw [he] at hXe
        have HE := Lib.hid he
        clear he
        go_wp2_with fail
        go_roundw
        case rel =>
          refine ⟨k + 1, by omega, by go_num, HB.out, fun r hr c' hc' => ?_⟩
          by_cases hrj : r = k
          · subst hrj
            have := HC.out
            rw [this] at hc'
            cases hc'
            rw [HE.out]; rfl
          · exact HA.out r (by omega) c' hc'
        case measure => simp [RowKit.intOf]; omega
      | false =>
        rw [he] at hXe
        have HE := Lib.hid he
        clear he
        go_wp2_with fail
        go_loopw [4, 5] (fun m i wr2 => ∃ j : Nat, j ≤ n ∧ m = .int .i64 (standsN (cs.take j) c.label : Nat) ∧ i = .int .i64 j ∧ Hid (Below w.heap.size w wr2)) (fun _ i _ => n - (RowKit.intOf i).toNat)
        case atStart => exact ⟨0, Nat.zero_le _, rfl, rfl, HB.out⟩
        case round =>
          obtain ⟨j, hj, rfl, rfl, HB2⟩ := hrel
          by_cases hlt2 : j < n
          · have hltJ : (j : Int) < (n : Int) := by omega
            obtain ⟨d, hd⟩ : ∃ d, cs[j]? = some d := ⟨cs[j]'(by have := HN.out; omega), List.getElem?_eq_getElem _⟩
            have hst := stands_step hd c.label
            have hle := label_eq d X
            rw [HX.out.2] at hle
            have hsl : standsN (cs.take j) c.label ≤ j := by have := stands_le (cs.take j) c.label; have := List.length_take_le j cs; omega
            obtain ⟨m, hm⟩ : ∃ m, m = standsN (cs.take j) c.label := ⟨_, rfl⟩
            rw [← hm] at hst hsl ⊢
            obtain ⟨g1, _, _, _, _, _, _, _, _, _, _, _, _, hg1, _, _, ⟨_, _, _, _, _, _, _, _, _, _, _, _, y12⟩⟩ := (HS.out.below HB2.out).row HC.out
            cases hg1
            obtain ⟨g2, _, _, _, _, _, _, _, _, _, _, _, _, hg2, _, _, ⟨z0, _, _, _, _, _, _, _, _, _, _, _, z12⟩⟩ := (HS.out.below HB2.out).row hd
            cases hg2
            obtain ⟨Y, hY⟩ : ∃ Y : ByteArray, Y = ⟨d.label.toArray⟩ := ⟨_, rfl⟩
            rw [← HX.out.1] at y12
            rw [← hY] at z12 hle
            obtain ⟨q, hq⟩ : ∃ q, (Y.toList == X.toList) = q := ⟨_, rfl⟩
            rw [hq] at hle
            clear a12 hd hY hm
            by_cases h58 : d.op = 58
            · have e58 : ((d.op.toNat : Int) == 58) = true := by rw [h58]; rfl
              have hil : isLab c.label d = q := by unfold isLab; rw [h58, ← hle]; rfl
              rw [hil] at hst
              clear hil hle h58
              cases q with
              | true =>
                have HST := Lib.hid hst
                clear hst
                go_wp2_with fail
                go_region
                all_goals
                  go_wp2_with fail
                  go_roundw
                  case rel => exact ⟨j + 1, by omega, by rw [HST.out]; go_num, by go_num, HB2.out.drew⟩
                  case measure => simp [RowKit.intOf]; omega
              | false =>
                have HST := Lib.hid hst
                clear hst
                go_wp2_with fail
                go_region
                all_goals
                  go_wp2_with fail
                  go_roundw
                  case rel => exact ⟨j + 1, by omega, by rw [HST.out]; rfl, by go_num, HB2.out.drew⟩
                  case measure => simp [RowKit.intOf]; omega
            · have e58 : ((d.op.toNat : Int) == 58) = false := ne_byte (d := 58) h58
              have hil : isLab c.label d = false := by unfold isLab; rw [show (d.op == 58) = false from by rw [beq_eq_false_iff_ne]; exact h58]; rfl
              rw [hil] at hst
              have HST := Lib.hid hst
              clear hil hle h58 hst
              go_wp2_with fail
              go_region
              all_goals
                go_wp2_with fail
                go_roundw
                case rel => exact ⟨j + 1, by omega, by rw [HST.out]; rfl, by go_num, HB2.out.drew⟩
                case measure => simp [RowKit.intOf]; omega
          · obtain rfl : j = n := by omega
            have htk : cs.take j = cs := List.take_of_length_le (by have := HN.out; omega)
            rw [htk]
            by_cases h1 : standsN cs c.label = 1
            · have h1I : ((standsN cs c.label : Nat) : Int) = 1 := by omega
              have H1 := Lib.hid h1
              rw [h1I]
              clear h1 h1I htk
              go_wp2_with fail
              go_roundw
              case rel =>
                refine ⟨k + 1, by omega, by go_num, HB2.out, fun r hr c' hc' => ?_⟩
                by_cases hrj : r = k
                · subst hrj
                  have := HC.out
                  rw [this] at hc'
                  cases hc'
                  rw [H1.out]; simp
                · exact HA.out r (by omega) c' hc'
              case measure => simp [RowKit.intOf]; omega
            · have hbd : boundD cs = false := by
                unfold boundD
                rw [List.all_eq_false]
                refine ⟨c, HMem.out, ?_⟩
                rw [HE.out]
                simpa using h1
              have HBd := Lib.hid hbd
              have hcn : (((standsN cs c.label : Nat) : Int) != 1) = true := by rw [bne_iff_ne]; omega
              clear h1 hbd htk
              generalize ((standsN cs c.label : Nat) : Int) = cn at hcn
              go_wp2_with fail
              try rw [Exit.noGoto_ret]
              refine bodyPost_ret (results_tmp rfl _ _ _) rfl ⟨by rw [HBd.out]; rfl, HB2.out⟩
    · have hbd : boundD cs = true := by
        unfold boundD
        rw [List.all_eq_true]
        intro c hc
        obtain ⟨r, hr⟩ := List.getElem?_of_mem hc
        exact HA.out r (by have := HN.out; have := at_lt hr; omega) c hr
      have HBd := Lib.hid hbd
      clear hbd hsr
      go_wp2_with fail
      exact bodyPost_ret (results_tmp rfl _ _ _) rfl ⟨by rw [HBd.out]; rfl, HB.out⟩
end Go.Proofs.YtgceckejchdnlaaDoor
