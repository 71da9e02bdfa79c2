/- Packed texts: HexUn. What each of them proves stands above its theorems; the conditions stand in these. -/
import Derived.BigQuiet
import Derived.Deep.QuietTactic
import Derived.Test.YtjdollmfjflkoaaGreatDoorA11
import Derived.Test.YtjdollmfjflkoaaGreatDoorA15
namespace Go.Proofs.YtjdollmfjflkoaaGreatDoor
open Go.RowKit Go.Lib

/-- What Unhex answers. -/
def unhexE (t : List UInt8) : Ending :=
  match unhexO t with
  | some l => .returned (.tuple #[.string ⟨l.toArray⟩, .int .i64 0])
  | none => .returned (.tuple #[.string ⟨#[]⟩, .int .i64 2])

set_option maxHeartbeats 400000 in
set_option maxRecDepth 20000 in
theorem unhex_any (s : ByteArray) (w : World) (hs : s.size ≤ 70000000000000) :
    Calls Tryz.prog 41 #[.string s] w fun e w' => e = unhexE s.data.toList ∧ Below w.heap.size w w' := by
  obtain ⟨i0, hi, hz0, hz1, hz2⟩ := info_parts Tryz.info5
  by_cases hev : s.size % 2 = 0
  · -- an even number of bytes
    have hno : unhexE s.data.toList = .returned (.tuple #[.string ⟨#[]⟩, .int .i64 2]) := by
      unfold unhexE
      cases hl : s.data.toList with
      | nil => rfl
      | cons c r =>
        have hlen : s.size = r.length + 1 := by have := congrArg List.length hl; rw [Array.length_toList] at this; exact this
        simp only [unhexO, pairs_odd r (by omega), ite_self]
    rw [hno]
    have HN := Lib.hid hno
    clear hno
    have h2 : (((s.size : Int) % 2) == 0) = true := by simp; omega
    go_enter Tryz.func41, Tryz.ntmps41
    go_wp2
    go_ret2
    exact ⟨rfl, Below.refl _ _⟩
  · have h2 : (((s.size : Int) % 2) == 0) = false := by simp; omega
    have hpos : 0 < s.size := by omega
    by_cases hx : s[0] = 120
    · have hx2 : ((s[0].toNat : Int) != 120) = false := by rw [hx]; rfl
      have HX := Lib.hid hx
      clear hx
      obtain ⟨m, hm⟩ : ∃ m, s.size = 2 * m + 1 := ⟨s.size / 2, by omega⟩
      have HM := Lib.hid hm
      clear hm
      have hq : (s.size : Int) / 2 = (m : Int) := by have := HM.out; omega
      have hmb : m ≤ 35000000000000 := by have := HM.out; omega
      go_enter Tryz.func41, Tryz.ntmps41
      go_wp2_with (first | (at_make; refine wpList_make_full _ rfl _ _ 41 rfl w.heap.size 5 i0 (.int .u8 0) 1 Tryz.underlying41 hi hz0 hz1 .i64 .i64 _ _ m rfl rfl rfl rfl (by rw [hz2]; omega) (by unfold maxLen; omega) (Nat.le_refl _) ?_))
      intro w1 hown1 hgrow1
      have hb1 : Below w.heap.size w w1 := (Below.refl _ _).grown hgrow1 (Nat.le_refl _) (by simp)
      obtain ⟨r, hr⟩ : ∃ r, s.data.toList = 120 :: r := by
        cases hl : s.data.toList with
        | nil => have := congrArg List.length hl; rw [Array.length_toList] at this; have h0 : s.size = 0 := this; omega
        | cons c r =>
          have : s.data.toList[0]? = some s[0] := by rw [List.getElem?_eq_getElem (by rw [Array.length_toList]; exact hpos)]; rfl
          rw [hl] at this
          exact ⟨r, by rw [Option.some.inj this, HX.out]⟩
      have HR := Lib.hid hr
      clear hr
      have hrl : r.length = 2 * m := by
        have := congrArg List.length HR.out
        rw [Array.length_toList] at this
        have h1 : s.size = r.length + 1 := this
        have := HM.out; omega
      have HRL := Lib.hid hrl
      clear hrl
      have hown2 : w1.ownsRow w.heap.size 5 1 (.slice (some ⟨w.heap.size, 0, none⟩) m m) m (byteCells ([] ++ List.replicate (m - 0) 0)) := by
        rw [madeN] at hown1; exact hown1
      clear hown1 hgrow1
      go_wp2
      go_loopw [23] (fun i wr => ∃ (k : Nat) (out : List UInt8), k ≤ m ∧ i = .int .i64 k ∧ Hid (pairs (r.take (2 * k)) = some out) ∧ Hid (out.length = k) ∧ wr.ownsRow w.heap.size 5 1 (.slice (some ⟨w.heap.size, 0, none⟩) m m) m (byteCells (out ++ List.replicate (m - k) 0)) ∧ Below w.heap.size w wr)
        (fun i _ => m - (RowKit.intOf i).toNat)
      case atStart => exact ⟨0, [], Nat.zero_le _, rfl, rfl, rfl, hown2, hb1⟩
      case round =>
        obtain ⟨k, out, hk, rfl, HP, HO, hown, hbel⟩ := hrel
        clear hown2 hb1
        by_cases hlt : k < m
        · obtain ⟨j, hj⟩ : ∃ j, j = 2 * k + 1 := ⟨_, rfl⟩
          obtain ⟨j2, hj2⟩ : ∃ j, j = 2 * k + 2 := ⟨_, rfl⟩
          have hjs : j < s.size := by have := HM.out; omega
          have hj2s : j2 < s.size := by have := HM.out; omega
          have hw1 : IntKind.i64.wrap (2 * (k : Int)) = 2 * (k : Int) := IntWalk.i64_in _ (by omega)
          have hw2 : IntKind.i64.wrap (2 * (k : Int) + 1) = (j : Int) := by rw [IntWalk.i64_in _ (by omega)]; omega
          have hw3 : IntKind.i64.wrap (2 * (k : Int) + 2) = (j2 : Int) := by rw [IntWalk.i64_in _ (by omega)]; omega
          have HJ := Lib.hid hj
          have HJ2 := Lib.hid hj2
          clear hj hj2
          obtain ⟨a, ha⟩ : ∃ a, s[j] = a := ⟨_, rfl⟩
          obtain ⟨b, hb⟩ : ∃ b, s[j2] = b := ⟨_, rfl⟩
          have c1 := fun w => (told_any a w).mono (fun e w' h => (⟨h.1, h.2.symm⟩ : e = .returned (.int .i64 (toldN a)) ∧ w' = w))
          have c2 := fun w => (told_any b w).mono (fun e w' h => (⟨h.1, h.2.symm⟩ : e = .returned (.int .i64 (toldN b)) ∧ w' = w))
          obtain ⟨x, hxx⟩ : ∃ x, toldN a = x := ⟨_, rfl⟩
          obtain ⟨y, hyy⟩ : ∃ y, toldN b = y := ⟨_, rfl⟩
          have hxb := toldN_bounds a
          have hyb := toldN_bounds b
          rw [hxx] at c1 hxb
          rw [hyy] at c2 hyb
          have HXX := Lib.hid hxx
          have HYY := Lib.hid hyy
          clear hxx hyy
          obtain ⟨hx0, hx1⟩ := hxb
          obtain ⟨hy0, hy1⟩ := hyb
          go_wp2_with fail
          go_quiet ((go_at_call 57; first | with_reducible exact Calls.quiet_of_same (c1 _) | with_reducible exact Calls.quiet_of_same (c2 _)))
          clear c1 c2 hw1 hw2 hw3
          have HT : Hid (r.take (2 * (k + 1)) = r.take (2 * k) ++ [a, b]) := by
            show r.take (2 * (k + 1)) = _
            have e1 := HJ.out
            have e2 := HJ2.out
            subst e1 e2
            rw [take_two s r k HR.out (by omega), ← ha, ← hb]
          have HE : Hid ((r.take (2 * k)).length % 2 = 0) := by
            show (r.take (2 * k)).length % 2 = 0
            rw [List.length_take, HRL.out, Nat.min_eq_left (by omega)]; omega
          have HE2 : Hid ((r.take (2 * (k + 1))).length % 2 = 0) := by
            show (r.take (2 * (k + 1))).length % 2 = 0
            rw [List.length_take, HRL.out, Nat.min_eq_left (by omega)]; omega
          clear ha hb hjs hj2s HJ HJ2
          by_cases hgood : 0 ≤ x ∧ 0 ≤ y
          · obtain ⟨hxn, hyn⟩ := hgood
            obtain ⟨c, hc⟩ : ∃ c, c = pairB x y := ⟨_, rfl⟩
            have hcz : (c.toNat : Int) = 16 * x + y := by rw [hc]; unfold pairB; simp; omega
            have HC := Lib.hid hc
            clear hc
            obtain ⟨z, hz⟩ : ∃ z : Int, z = (c.toNat : Int) := ⟨_, rfl⟩
            rw [← hz] at hcz
            have HZ := Lib.hid hz
            clear hz
            have hor := or16 x y hxn hx1 hyn hy1
            rw [← hcz] at hor
            have hz0 : 0 ≤ z := by omega
            have hz1 : z ≤ 255 := by omega
            clear hcz
            have hcell : wr.cell? ⟨w.heap.size, k, none⟩ = some (.int .u8 0) := by
              rw [hown.cellAt k (by omega)]; exact row_cell out k m HO.out hlt
            have hfr : wr.frozen? ⟨w.heap.size, k, none⟩ = false := hown.frozenAt k
            have HOW := Lib.hid hown
            clear hown
            go_wp2
            go_roundw
            case rel =>
              refine ⟨k + 1, out ++ [c], by omega, by go_num, ?_, ?_, ?_, ?_⟩
              · show pairs _ = _
                rw [HT.out, pairs_snoc _ _ _ _ HE.out HP.out, HXX.out, HYY.out, if_neg (by omega), HC.out]
              · show (out ++ [c]).length = _
                rw [List.length_append, HO.out]; rfl
              · have h3 : (wr.drewN nq).ownsRow w.heap.size 5 1 (.slice (some ⟨w.heap.size, 0, none⟩) m m) m (byteCells (out ++ List.replicate (m - k) 0)) := HOW.out
                have h4 := (h3.stored k (.int .u8 z)).1
                rw [HZ.out, row_set out k m c HO.out hlt, ← HZ.out] at h4
                exact h4
              · exact (hbel.trans (⟨rfl, rfl, rfl, Nat.le_refl _, fun _ _ => rfl⟩ : Below w.heap.size wr (wr.drewN nq))).setCell (Nat.le_refl _) _
            case measure => simp [RowKit.intOf]; omega
          · have HG : Hid (unhexE s.data.toList = .returned (.tuple #[.string ⟨#[]⟩, .int .i64 2])) := by
              show unhexE s.data.toList = _
              have h0 : pairs (r.take (2 * (k + 1))) = none := by
                rw [HT.out, pairs_snoc _ _ _ _ HE.out HP.out, HXX.out, HYY.out, if_pos (by omega)]
              have h1 := pairs_none _ (r.drop (2 * (k + 1))) HE2.out h0
              rw [List.take_append_drop] at h1
              unfold unhexE
              rw [HR.out]
              simp only [unhexO, h1, ite_self]
            by_cases hxn : x < 0
            · go_wp2
              go_ret2
              exact ⟨HG.out.symm, below_draws hbel _⟩
            · have hyn : y < 0 := by omega
              clear hgood
              go_wp2
              go_ret2
              exact ⟨HG.out.symm, below_draws hbel _⟩
        · have hkm : k = m := by omega
          have HG : Hid (unhexE s.data.toList = .returned (.tuple #[.string ⟨out.toArray⟩, .int .i64 0])) := by
            show unhexE s.data.toList = _
            have h1 := HP.out
            rw [List.take_of_length_le (by rw [HRL.out]; omega)] at h1
            unfold unhexE
            rw [HR.out]
            simp only [unhexO, if_true, h1]
          have hown3 : wr.ownsRow w.heap.size 5 1 (.slice (some ⟨w.heap.size, 0, none⟩) m m) m (byteCells out) := by
            rw [hkm, Nat.sub_self, List.replicate_zero, List.append_nil] at hown; exact hown
          have hcv := conv_owned (P := Tryz.prog) (src := 41) (dst := 9) Tryz.underlying41 Tryz.underlying5 Tryz.underlying9 hown3
          clear hkm hown hown3
          go_wp2
          go_ret2
          exact ⟨HG.out.symm, hbel⟩
    · have hx2 : ((s[0].toNat : Int) != 120) = true := by
        simp; intro h; exact hx (UInt8.toNat_inj.1 (by simp; omega))
      have hno : unhexE s.data.toList = .returned (.tuple #[.string ⟨#[]⟩, .int .i64 2]) := by
        unfold unhexE
        cases hl : s.data.toList with
        | nil => rfl
        | cons c r =>
          have hc : s[0] = c := by
            have : s.data.toList[0]? = some s[0] := by rw [List.getElem?_eq_getElem (by rw [Array.length_toList]; exact hpos)]; rfl
            rw [hl] at this
            exact (Option.some.inj this).symm
          rw [hc] at hx
          simp only [unhexO, if_neg hx]
      rw [hno]
      have HN := Lib.hid hno
      clear hno hx
      go_enter Tryz.func41, Tryz.ntmps41
      go_wp2
      go_ret2
      exact ⟨rfl, Below.refl _ _⟩
end Go.Proofs.YtjdollmfjflkoaaGreatDoor
