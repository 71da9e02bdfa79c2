/- Packed texts: SeNamed. What each of them proves stands above its theorems; the conditions stand in these. -/
import Derived.Test.YtgceckejchdnlaaGreatDoorB43
namespace Go.Proofs.YtgceckejchdnlaaGreatDoor
open Go.RowKit Go.Lib

theorem stands_step {cs : List Cm} {j : Nat} {d : Cm} (hd : cs[j]? = some d) (x : List UInt8) : standsN (cs.take (j + 1)) x = standsN (cs.take j) x + (if isLab x d then 1 else 0) := by
  rw [List.take_add_one, hd]
  exact stands_snoc _ _ _
set_option maxHeartbeats 8000000 in
set_option maxRecDepth 20000 in
theorem named_any (B : Nat) (cs : List Cm) (v : Value) (w : World) (h : ScrS B cs v w) (hl : cs.length ≤ 1000000000) :
    Calls Tryz.prog 19 #[v] w fun e w' => e = .returned (.bool (boundD cs)) ∧ Below w.heap.size w w' := by
  obtain ⟨ao, cap, rfl⟩ := h.shape
  obtain ⟨n, hn⟩ : ∃ n, n = cs.length := ⟨_, rfl⟩
  rw [← hn] at h hl ⊢
  have HS := Lib.hid h
  have HN := Lib.hid hn
  clear h hn
  go_enter Tryz.func19, Tryz.ntmps19
  go_wp2_with fail
  go_loopw [3] (fun i wr => ∃ k : Nat, k ≤ n ∧ i = .int .i64 k ∧ Hid (Below w.heap.size w wr) ∧ Hid (∀ r, r < k → ∀ c, cs[r]? = some c → (c.label == [] || standsN cs c.label == 1) = true)) (fun i _ => n - (RowKit.intOf i).toNat)
  case atStart => exact ⟨0, Nat.zero_le _, rfl, Below.refl _ _, fun r hr => by omega⟩
  case round =>
    obtain ⟨k, hk, rfl, HB, HA⟩ := hrel
    have hsr := HS.out.below HB.out
    by_cases hlt : k < n
    · have hltI : (k : Int) < (n : Int) := by omega
      obtain ⟨c, hc⟩ : ∃ c, cs[k]? = some c := ⟨cs[k]'(by have := HN.out; omega), List.getElem?_eq_getElem _⟩
      obtain ⟨g, p1, p2, p3, b1, b2, b3, d1, d2, d3, q1, q2, q3, rfl, hgl, hcm, ⟨a0, a1, a2, a3, a4, a5, a6, a7, a8, a9, a10, a11, a12⟩⟩ := hsr.row hc
      have HC := Lib.hid hc
      have HMem := Lib.hid (List.mem_of_getElem? hc)
      obtain ⟨X, hX⟩ : ∃ X : ByteArray, X = ⟨c.label.toArray⟩ := ⟨_, rfl⟩
      rw [← hX] at a12
      have hXl : X.data.toList = c.label := by rw [hX]
      have hXe : X.toList.isEmpty = (c.label == []) := by rw [hX, toList_data]; cases c.label <;> rfl
      have HX := Lib.hid (And.intro hX hXl)
      clear hX hXl hcm hc hsr a0 a1 a2 a3 a4 a5 a6 a7 a8 a9 a10 a11
      cases he : (c.label == []) with
      | true =>
        rw [he] at hXe
        have HE := Lib.hid he
        clear he
        go_wp2_with fail
        go_roundw
        case rel =>
          refine ⟨k + 1, by omega, by go_num, HB.out, fun r hr c' hc' => ?_⟩
          by_cases hrj : r = k
          · subst hrj
            have := HC.out
            rw [this] at hc'
            cases hc'
            rw [HE.out]; rfl
          · exact HA.out r (by omega) c' hc'
        case measure => simp [RowKit.intOf]; omega
      | false =>
        rw [he] at hXe
        have HE := Lib.hid he
        clear he
        go_wp2_with fail
        go_loopw [4, 5] (fun m i wr2 => ∃ j : Nat, j ≤ n ∧ m = .int .i64 (standsN (cs.take j) c.label : Nat) ∧ i = .int .i64 j ∧ Hid (Below w.heap.size w wr2)) (fun _ i _ => n - (RowKit.intOf i).toNat)
        case atStart => exact ⟨0, Nat.zero_le _, rfl, rfl, HB.out⟩
        case round =>
          obtain ⟨j, hj, rfl, rfl, HB2⟩ := hrel
          by_cases hlt2 : j < n
          · have hltJ : (j : Int) < (n : Int) := by omega
            obtain ⟨d, hd⟩ : ∃ d, cs[j]? = some d := ⟨cs[j]'(by have := HN.out; omega), List.getElem?_eq_getElem _⟩
            have hst := stands_step hd c.label
            have hle := label_eq d X
            rw [HX.out.2] at hle
            have hsl : standsN (cs.take j) c.label ≤ j := by have := stands_le (cs.take j) c.label; have := List.length_take_le j cs; omega
            obtain ⟨m, hm⟩ : ∃ m, m = standsN (cs.take j) c.label := ⟨_, rfl⟩
            rw [← hm] at hst hsl ⊢
            obtain ⟨g1, _, _, _, _, _, _, _, _, _, _, _, _, hg1, _, _, ⟨_, _, _, _, _, _, _, _, _, _, _, _, y12⟩⟩ := (HS.out.below HB2.out).row HC.out
            cases hg1
            obtain ⟨g2, _, _, _, _, _, _, _, _, _, _, _, _, hg2, _, _, ⟨z0, _, _, _, _, _, _, _, _, _, _, _, z12⟩⟩ := (HS.out.below HB2.out).row hd
            cases hg2
            obtain ⟨Y, hY⟩ : ∃ Y : ByteArray, Y = ⟨d.label.toArray⟩ := ⟨_, rfl⟩
            rw [← HX.out.1] at y12
            rw [← hY] at z12 hle
            obtain ⟨q, hq⟩ : ∃ q, (Y.toList == X.toList) = q := ⟨_, rfl⟩
            rw [hq] at hle
            clear a12 hd hY hm
            by_cases h58 : d.op = 58
            · have e58 : ((d.op.toNat : Int) == 58) = true := by rw [h58]; rfl
              have hil : isLab c.label d = q := by unfold isLab; rw [h58, ← hle]; rfl
              rw [hil] at hst
              clear hil hle h58
              cases q with
              | true =>
                have HST := Lib.hid hst
                clear hst
                go_wp2_with fail
                go_region
                all_goals
                  go_wp2_with fail
                  go_roundw
                  case rel => exact ⟨j + 1, by omega, by rw [HST.out]; go_num, by go_num, HB2.out.drew⟩
                  case measure => simp [RowKit.intOf]; omega
              | false =>
                have HST := Lib.hid hst
                clear hst
                go_wp2_with fail
                go_region
                all_goals
                  go_wp2_with fail
                  go_roundw
                  case rel => exact ⟨j + 1, by omega, by rw [HST.out]; rfl, by go_num, HB2.out.drew⟩
                  case measure => simp [RowKit.intOf]; omega
            · have e58 : ((d.op.toNat : Int) == 58) = false := ne_byte (d := 58) h58
              have hil : isLab c.label d = false := by unfold isLab; rw [show (d.op == 58) = false from by rw [beq_eq_false_iff_ne]; exact h58]; rfl
              rw [hil] at hst
              have HST := Lib.hid hst
              clear hil hle h58 hst
              go_wp2_with fail
              go_region
              all_goals
                go_wp2_with fail
                go_roundw
                case rel => exact ⟨j + 1, by omega, by rw [HST.out]; rfl, by go_num, HB2.out.drew⟩
                case measure => simp [RowKit.intOf]; omega
          · obtain rfl : j = n := by omega
            have htk : cs.take j = cs := List.take_of_length_le (by have := HN.out; omega)
            rw [htk]
            by_cases h1 : standsN cs c.label = 1
            · have h1I : ((standsN cs c.label : Nat) : Int) = 1 := by omega
              have H1 := Lib.hid h1
              rw [h1I]
              clear h1 h1I htk
              go_wp2_with fail
              go_roundw
              case rel =>
                refine ⟨k + 1, by omega, by go_num, HB2.out, fun r hr c' hc' => ?_⟩
                by_cases hrj : r = k
                · subst hrj
                  have := HC.out
                  rw [this] at hc'
                  cases hc'
                  rw [H1.out]; simp
                · exact HA.out r (by omega) c' hc'
              case measure => simp [RowKit.intOf]; omega
            · have hbd : boundD cs = false := by
                unfold boundD
                rw [List.all_eq_false]
                refine ⟨c, HMem.out, ?_⟩
                rw [HE.out]
                simpa using h1
              have HBd := Lib.hid hbd
              have hcn : (((standsN cs c.label : Nat) : Int) != 1) = true := by rw [bne_iff_ne]; omega
              clear h1 hbd htk
              generalize ((standsN cs c.label : Nat) : Int) = cn at hcn
              go_wp2_with fail
              try rw [Exit.noGoto_ret]
              refine bodyPost_ret (results_tmp rfl _ _ _) rfl ⟨by rw [HBd.out]; rfl, HB2.out⟩
    · have hbd : boundD cs = true := by
        unfold boundD
        rw [List.all_eq_true]
        intro c hc
        obtain ⟨r, hr⟩ := List.getElem?_of_mem hc
        exact HA.out r (by have := HN.out; have := at_lt hr; omega) c hr
      have HBd := Lib.hid hbd
      clear hbd hsr
      go_wp2_with fail
      exact bodyPost_ret (results_tmp rfl _ _ _) rfl ⟨by rw [HBd.out]; rfl, HB.out⟩
end Go.Proofs.YtgceckejchdnlaaGreatDoor
