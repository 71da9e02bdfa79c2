/- Packed texts: HexHex. What each of them proves stands above its theorems; the conditions stand in these. -/
import Derived.BigQuiet
import Derived.StillTailTactics
import Derived.Test.YtjdollmfjflkoaaGreatDoorA3
namespace Go.Proofs.YtjdollmfjflkoaaGreatDoor
open Go.RowKit Go.Lib

theorem Tryz.info5 : (Tryz.prog.info? 5).map (fun i => (i.zero, i.size, i.bytes)) = some (some (.int .u8 0), 1, 1) := by kernel_rfl

set_option maxHeartbeats 400000 in
theorem hex_any (s : ByteArray) (w : World) (hs : s.size ≤ 70000000000000) :
    Calls Tryz.prog 38 #[.string s] w fun e w' => e = .returned (.string ⟨(hexT s.data.toList).toArray⟩) ∧ Below w.heap.size w w' := by
  obtain ⟨i0, hi, hz0, hz1, hz2⟩ := info_parts Tryz.info5
  go_enter Tryz.func38, Tryz.ntmps38
  go_wp2_with (first | (at_make; refine wpList_make_lc _ rfl _ _ 41 rfl w.heap.size 5 i0 (.int .u8 0) 1 Tryz.underlying41 hi hz0 hz1 .i64 .i64 _ _ 1 (1 + 2 * s.size) rfl rfl rfl (by omega) (by omega) (by rw [hz2]; omega) (by unfold maxLen; omega) (Nat.le_refl _) ?_))
  intro w1 hown1 hgrow1
  have hb1 : Below w.heap.size w w1 := (Below.refl _ _).grown hgrow1 (Nat.le_refl _) (by simp)
  have hc1 : w1.cell? ⟨w.heap.size, 0, none⟩ = some (.int .u8 0) := by rw [hown1.cellAt 0 (by omega), made1]; rfl
  have hf1 : w1.frozen? ⟨w.heap.size, 0, none⟩ = false := hown1.frozenAt 0
  obtain ⟨hown2, hgrow2⟩ := hown1.stored 0 (.int .u8 120)
  have hb2 : Below w.heap.size w (w1.setCell ⟨w.heap.size, 0, none⟩ (.int .u8 120)) := hb1.setCell (Nat.le_refl _) _
  clear hown1 hgrow1 hgrow2 hb1
  have hown3 : (w1.setCell ⟨w.heap.size, 0, none⟩ (.int .u8 120)).ownsRow w.heap.size 5 1 (.slice (some ⟨w.heap.size, 0, none⟩) 1 (1 + 2 * s.size)) 1 (byteCells (hexT (s.data.toList.take 0))) := by
    rw [made1] at hown2; exact hown2
  clear hown2
  go_wp2
  go_loopw [3, 14] (fun v i wr => ∃ k : Nat, k ≤ s.size ∧ i = .int .i64 k ∧ wr.ownsRow w.heap.size 5 1 v (1 + 2 * k) (byteCells (hexT (s.data.toList.take k))) ∧ Below w.heap.size w wr)
    (fun _ i _ => s.size - (RowKit.intOf i).toNat)
  case atStart => exact ⟨0, Nat.zero_le _, rfl, hown3, hb2⟩
  case round =>
    obtain ⟨k, hk, rfl, hown, hbel⟩ := hrel
    clear hown3 hb2 hc1 hf1
    by_cases hlt : k < s.size
    · obtain ⟨c, hc⟩ : ∃ c, s[k] = c := ⟨_, rfl⟩
      have hd1 : 0 ≤ (c.toNat : Int) / 16 ∧ (c.toNat : Int) / 16 < 16 := by have := u8_lt c; omega
      have hd2 : 0 ≤ (c.toNat : Int) % 16 ∧ (c.toNat : Int) % 16 < 16 := by omega
      have hd3 := and15 c
      have hd4 := dig_at ((c.toNat : Int) / 16) (c.toNat / 16) (by omega) (by have := hd1; omega)
      have hd5 := dig_at ((c.toNat : Int) % 16) (c.toNat % 16) (by omega) (by omega)
      go_wp2
      go_region_law (refine step_append_own rfl (.tmp 17) (.tmp 28) 41 rfl w.heap.size 5 i0 (.int .u8 0) 1 1 Tryz.underlying41 hi hz0 hz1 hz2 rfl (by decide) _ (1 + 2 * k) (byteCells (hexT (s.data.toList.take k))) (by simp [Act.eval]) (hown.drew.alloc _) ⟨wr.heap.size, 0, none⟩ 2 2 (byteCells [hexDg (c.toNat / 16), hexDg (c.toNat % 16)]) (by simp [Act.eval]) rfl (cells_two _ _ _ _) (bc_one _) (by unfold maxLen; omega) (by omega) (by have := hbel.size; simp; omega) ?_; intro v2 w2 hown2 hgrow2)
      all_goals
        have hown3 : w2.ownsRow w.heap.size 5 1 v2 (1 + 2 * (k + 1)) (byteCells (hexT (s.data.toList.take (k + 1)))) := by
          rw [hexT_snoc s k hlt, bc_append, hc]; exact hown2
        have hbel2 : Below w.heap.size w w2 := (hbel.drew.alloc hbel.size _).grown hgrow2 (by have := hbel.size; simp; omega) (fun g hg => own_base hown hg)
        clear hown2 hgrow2 hd1 hd2 hd3 hd4 hd5 hc
        go_wp2
        go_roundw
        case rel => exact ⟨k + 1, by omega, by go_num, hown3, hbel2⟩
        case measure => simp [RowKit.intOf]; omega
    · have hkk : k = s.size := by omega
      have hall : hexT (s.data.toList.take k) = hexT s.data.toList := by rw [List.take_of_length_le (by simp; omega)]
      rw [hall] at hown
      have hcv := conv_owned (P := Tryz.prog) (src := 41) (dst := 9) Tryz.underlying41 Tryz.underlying5 Tryz.underlying9 hown
      have HK := Lib.hid hkk
      clear hkk hall
      go_wp2
      go_ret
      exact ⟨rfl, hbel⟩
end Go.Proofs.YtjdollmfjflkoaaGreatDoor
