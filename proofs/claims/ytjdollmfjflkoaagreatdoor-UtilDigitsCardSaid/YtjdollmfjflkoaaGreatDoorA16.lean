/- Packed texts: UtCase. What each of them proves stands above its theorems; the conditions stand in these. -/
import Derived.Laws.IdiomStrings
import Derived.Test.YtjdollmfjflkoaaGreatDoorA7
import Derived.Test.YtjdollmfjflkoaaGreatDoorA9
namespace Go.Proofs.YtjdollmfjflkoaaGreatDoor
open Go.RowKit Go.Lib

/-- The row of bytes in the making: k of them are turned. -/
structure CI (w0 : World) (B : Nat) (up : Bool) (l : List UInt8) (k : Nat) (w : World) : Prop where
  below : Below w0.heap.size w0 w
  low : w0.heap.size ≤ B
  cell : ∀ (j : Nat) c, l[j]? = some c → w.cell? ⟨B, j, none⟩ = some (.int .u8 (((if j < k then caseB up c else c).toNat : Nat) : Int))
  free : ∀ (j : Nat) c, l[j]? = some c → w.frozen? ⟨B, j, none⟩ = false
theorem CI.put {w0 w : World} {B : Nat} {up : Bool} {l : List UInt8} {k : Nat} (h : CI w0 B up l k w) {c : UInt8} (hc : l[k]? = some c) : CI w0 B up l (k + 1) (w.setCell ⟨B, k, none⟩ (.int .u8 (((caseB up c).toNat : Nat) : Int))) := by
  have h0 := h.cell k c hc
  refine ⟨h.below.setCell (p := ⟨B, k, none⟩) h.low _, h.low, fun j d hj => ?_, fun j d hj => ?_⟩
  · by_cases hjk : j = k
    · subst hjk
      rw [hc] at hj
      obtain rfl := Option.some.inj hj
      rw [if_pos (Nat.lt_succ_self _)]
      exact World.cell?_setCell_same _ _ _ h0
    · rw [World.cell?_setCell_other _ _ _ _ (by intro h; injection h with _ h2 _; exact hjk h2.symm), h.cell j d hj]
      by_cases hlt : j < k
      · rw [if_pos hlt, if_pos (by omega)]
      · rw [if_neg hlt, if_neg (by omega)]
  · rw [World.frozen?_setCell]
    exact h.free j d hj
theorem CI.skip {w0 w : World} {B : Nat} {up : Bool} {l : List UInt8} {k : Nat} (h : CI w0 B up l k w) {c : UInt8} (hc : l[k]? = some c) (hs : caseB up c = c) : CI w0 B up l (k + 1) w := by
  refine ⟨h.below, h.low, fun j d hj => ?_, h.free⟩
  rw [h.cell j d hj]
  by_cases hjk : j = k
  · subst hjk
    rw [hc] at hj
    obtain rfl := Option.some.inj hj
    rw [if_pos (Nat.lt_succ_self _), if_neg (Nat.lt_irrefl _), hs]
  · by_cases hlt : j < k
    · rw [if_pos hlt, if_pos (by omega)]
    · rw [if_neg hlt, if_neg (by omega)]
theorem case_start (up : Bool) (s : ByteArray) (w : World) : CI w w.heap.size up s.data.toList 0 (w.drew.alloc (.cells (bytesRow s (grownCap w s.size 0 5)) 5 ((bytesRow s (grownCap w s.size 0 5)).size, (bytesRow s (grownCap w s.size 0 5)).size + 1))) := by
  refine ⟨((Below.refl _ w).drew).alloc (Nat.le_refl _) _, Nat.le_refl _, fun j c hj => ?_, fun j c hj => ?_⟩
  · have hlt : j < s.data.toList.length := (List.getElem?_eq_some_iff.1 hj).1
    rw [show w.heap.size = w.drew.heap.size from rfl, World.cell?_alloc_mark, if_neg (Nat.not_lt_zero _)]
    unfold bytesRow
    rw [Array.getElem?_append_left (by rw [Array.size_map]; rw [Array.length_toList] at hlt; exact hlt), Array.getElem?_map, ← Array.getElem?_toList, hj]
    rfl
  · have hlt : j < s.data.toList.length := (List.getElem?_eq_some_iff.1 hj).1
    rw [Array.length_toList] at hlt
    have hh : (w.drew.alloc (.cells (bytesRow s (grownCap w s.size 0 5)) 5 ((bytesRow s (grownCap w s.size 0 5)).size, (bytesRow s (grownCap w s.size 0 5)).size + 1))).heap[w.heap.size]? = some (.cells (bytesRow s (grownCap w s.size 0 5)) 5 ((bytesRow s (grownCap w s.size 0 5)).size, (bytesRow s (grownCap w s.size 0 5)).size + 1)) := heap_alloc_new w.drew _
    unfold World.frozen?
    rw [hh]
    have hsz : s.data.size ≤ (bytesRow s (grownCap w s.size 0 5)).size := by unfold bytesRow; rw [Array.size_append, Array.size_map]; omega
    simp
    omega
theorem ci_back {w0 w : World} {B cp : Nat} {up : Bool} {s : ByteArray} (h : CI w0 B up s.data.toList s.size w) : (convert 41 9 (.slice (some ⟨B, 0, none⟩) s.size cp)).run Tryz.prog w = .ok (.string (ba (caseU up s.data.toList))) w := by
  have hl : (caseU up s.data.toList).length = s.size := by unfold caseU; rw [List.length_map, ← size_eq]
  have := run_convert_bytes_back (P := Tryz.prog) w 41 9 5 ⟨B, 0, none⟩ cp (caseU up s.data.toList) Tryz.underlying41 Tryz.underlying5 Tryz.underlying9 (fun j hj => by
    have hj2 : j < s.data.toList.length := by unfold caseU at hj; rw [List.length_map] at hj; exact hj
    have hadd : (⟨B, 0, none⟩ : Addr).add j = ⟨B, j, none⟩ := by unfold Addr.add; split <;> simp_all
    rw [hadd, h.cell j _ (List.getElem?_eq_getElem hj2), if_pos (by rw [← size_eq] at hj2; exact hj2)]
    simp [caseU])
  rw [hl] at this
  exact this
theorem case_byte_up (c : UInt8) : (97 ≤ (c.toNat : Int) ∧ (c.toNat : Int) ≤ 122 → bits .xor .u8 (bits .xor .u8 (c.toNat : Int) 97) 65 = (((caseB true c).toNat : Nat) : Int)) ∧ (¬ (97 ≤ (c.toNat : Int) ∧ (c.toNat : Int) ≤ 122) → caseB true c = c) := by
  have h : ∀ d : Fin 256, (97 ≤ (d.val : Int) ∧ (d.val : Int) ≤ 122 → bits .xor .u8 (bits .xor .u8 (d.val : Int) 97) 65 = (((caseB true (UInt8.ofNat d.val)).toNat : Nat) : Int)) ∧ (¬ (97 ≤ (d.val : Int) ∧ (d.val : Int) ≤ 122) → caseB true (UInt8.ofNat d.val) = UInt8.ofNat d.val) := by decide +kernel
  have := h ⟨c.toNat, UInt8.toNat_lt c⟩
  simpa using this
theorem case_byte_down (c : UInt8) : (65 ≤ (c.toNat : Int) ∧ (c.toNat : Int) ≤ 90 → bits .xor .u8 (bits .xor .u8 (c.toNat : Int) 97) 65 = (((caseB false c).toNat : Nat) : Int)) ∧ (¬ (65 ≤ (c.toNat : Int) ∧ (c.toNat : Int) ≤ 90) → caseB false c = c) := by
  have h : ∀ d : Fin 256, (65 ≤ (d.val : Int) ∧ (d.val : Int) ≤ 90 → bits .xor .u8 (bits .xor .u8 (d.val : Int) 97) 65 = (((caseB false (UInt8.ofNat d.val)).toNat : Nat) : Int)) ∧ (¬ (65 ≤ (d.val : Int) ∧ (d.val : Int) ≤ 90) → caseB false (UInt8.ofNat d.val) = UInt8.ofNat d.val) := by decide +kernel
  have := h ⟨c.toNat, UInt8.toNat_lt c⟩
  simpa using this
set_option maxHeartbeats 1000000 in
set_option maxRecDepth 20000 in
theorem case_up (s : ByteArray) (w : World) (hs : s.size ≤ 70368744177664) :
    Calls Tryz.prog 19 #[.string s, .bool true] w fun e w' => e = .returned (.string (ba (caseU true s.data.toList))) ∧ Below w.heap.size w w' := by
  have hcv := run_bytes_of_string (P := Tryz.prog) w 9 41 5 s Tryz.underlying9 Tryz.underlying41 Tryz.underlying5
  obtain ⟨W1, hW1⟩ : ∃ W1, W1 = (w.drew.alloc (.cells (bytesRow s (grownCap w s.size 0 5)) 5 ((bytesRow s (grownCap w s.size 0 5)).size, (bytesRow s (grownCap w s.size 0 5)).size + 1))) := ⟨_, rfl⟩
  rw [← hW1] at hcv
  have HI0 : Hid (CI w w.heap.size true s.data.toList 0 W1) := Lib.hid (by subst hW1; exact case_start true s w)
  clear hW1
  generalize grownCap w s.size 0 5 = cp at hcv
  go_enter Tryz.func19, Tryz.ntmps19
  go_wp2_with fail
  go_loopw [15] (fun i wr => ∃ k : Nat, k ≤ s.size ∧ i = .int .i64 k ∧ CI w w.heap.size true s.data.toList k wr) (fun i _ => s.size - (RowKit.intOf i).toNat)
  case atStart => exact ⟨0, Nat.zero_le _, rfl, HI0.out⟩
  case round =>
    obtain ⟨k, hk, rfl, hI⟩ := hrel
    have HI := Lib.hid hI
    clear hI HI0 hcv
    by_cases hlt : k < s.size
    · have hc : s.data.toList[k]? = some s[k] := data_getElem? s k hlt
      have hcell := HI.out.cell k _ hc
      rw [if_neg (Nat.lt_irrefl _)] at hcell
      have hfr := HI.out.free k _ hc
      obtain ⟨c, hcc⟩ : ∃ c, s[k] = c := ⟨_, rfl⟩
      rw [hcc] at hc hcell
      have hx := case_byte_up c
      obtain ⟨x, hxx⟩ : ∃ x : Int, x = (c.toNat : Int) := ⟨_, rfl⟩
      have hb := UInt8.toNat_lt c
      have hx0 : 0 ≤ x := by omega
      have hx1 : x ≤ 255 := by omega
      rw [← hxx] at hcell hx
      have HC := Lib.hid hc
      have HX := Lib.hid hxx
      clear hc hxx hcc hb
      by_cases hr : 97 ≤ x ∧ x ≤ 122
      · obtain ⟨r1, r2⟩ := hr
        have hbits := (hx.1 ⟨r1, r2⟩)
        clear hx
        go_wp2
        go_roundw
        case rel => exact ⟨k + 1, by omega, by go_num, HI.out.put HC.out⟩
        case measure => simp [RowKit.intOf]; omega
      · have hsm := (hx.2 hr)
        clear hx
        have hr' : x < 97 ∨ 122 < x := by omega
        clear hr
        rcases hr' with hr | hr
        · go_wp2
          go_roundw
          case rel => exact ⟨k + 1, by omega, by go_num, HI.out.skip HC.out hsm⟩
          case measure => simp [RowKit.intOf]; omega
        · have hr3 : 97 ≤ x := by omega
          go_wp2
          go_roundw
          case rel => exact ⟨k + 1, by omega, by go_num, HI.out.skip HC.out hsm⟩
          case measure => simp [RowKit.intOf]; omega
    · obtain rfl : k = s.size := by omega
      have hcv := ci_back (cp := cp) HI.out
      go_wp2
      go_ret
      exact ⟨rfl, HI.out.below⟩
set_option maxHeartbeats 1000000 in
set_option maxRecDepth 20000 in
theorem case_down (s : ByteArray) (w : World) (hs : s.size ≤ 70368744177664) :
    Calls Tryz.prog 19 #[.string s, .bool false] w fun e w' => e = .returned (.string (ba (caseU false s.data.toList))) ∧ Below w.heap.size w w' := by
  have hcv := run_bytes_of_string (P := Tryz.prog) w 9 41 5 s Tryz.underlying9 Tryz.underlying41 Tryz.underlying5
  obtain ⟨W1, hW1⟩ : ∃ W1, W1 = (w.drew.alloc (.cells (bytesRow s (grownCap w s.size 0 5)) 5 ((bytesRow s (grownCap w s.size 0 5)).size, (bytesRow s (grownCap w s.size 0 5)).size + 1))) := ⟨_, rfl⟩
  rw [← hW1] at hcv
  have HI0 : Hid (CI w w.heap.size false s.data.toList 0 W1) := Lib.hid (by subst hW1; exact case_start false s w)
  clear hW1
  generalize grownCap w s.size 0 5 = cp at hcv
  go_enter Tryz.func19, Tryz.ntmps19
  go_wp2_with fail
  go_loopw [15] (fun i wr => ∃ k : Nat, k ≤ s.size ∧ i = .int .i64 k ∧ CI w w.heap.size false s.data.toList k wr) (fun i _ => s.size - (RowKit.intOf i).toNat)
  case atStart => exact ⟨0, Nat.zero_le _, rfl, HI0.out⟩
  case round =>
    obtain ⟨k, hk, rfl, hI⟩ := hrel
    have HI := Lib.hid hI
    clear hI HI0 hcv
    by_cases hlt : k < s.size
    · have hc : s.data.toList[k]? = some s[k] := data_getElem? s k hlt
      have hcell := HI.out.cell k _ hc
      rw [if_neg (Nat.lt_irrefl _)] at hcell
      have hfr := HI.out.free k _ hc
      obtain ⟨c, hcc⟩ : ∃ c, s[k] = c := ⟨_, rfl⟩
      rw [hcc] at hc hcell
      have hx := case_byte_down c
      obtain ⟨x, hxx⟩ : ∃ x : Int, x = (c.toNat : Int) := ⟨_, rfl⟩
      have hb := UInt8.toNat_lt c
      have hx0 : 0 ≤ x := by omega
      have hx1 : x ≤ 255 := by omega
      rw [← hxx] at hcell hx
      have HC := Lib.hid hc
      have HX := Lib.hid hxx
      clear hc hxx hcc hb
      by_cases hr : 65 ≤ x ∧ x ≤ 90
      · obtain ⟨r1, r2⟩ := hr
        have hbits := (hx.1 ⟨r1, r2⟩)
        clear hx
        go_wp2
        go_roundw
        case rel => exact ⟨k + 1, by omega, by go_num, HI.out.put HC.out⟩
        case measure => simp [RowKit.intOf]; omega
      · have hsm := (hx.2 hr)
        clear hx
        have hr' : x < 65 ∨ 90 < x := by omega
        clear hr
        rcases hr' with hr | hr
        · go_wp2
          go_roundw
          case rel => exact ⟨k + 1, by omega, by go_num, HI.out.skip HC.out hsm⟩
          case measure => simp [RowKit.intOf]; omega
        · have hr3 : 65 ≤ x := by omega
          go_wp2
          go_roundw
          case rel => exact ⟨k + 1, by omega, by go_num, HI.out.skip HC.out hsm⟩
          case measure => simp [RowKit.intOf]; omega
    · obtain rfl : k = s.size := by omega
      have hcv := ci_back (cp := cp) HI.out
      go_wp2
      go_ret
      exact ⟨rfl, HI.out.below⟩
theorem caseU_any (up : Bool) (s : ByteArray) (w : World) (hs : s.size ≤ 70368744177664) :
    Calls Tryz.prog 19 #[.string s, .bool up] w fun e w' => e = .returned (.string (ba (caseU up s.data.toList))) ∧ Below w.heap.size w w' := by
  cases up
  · exact case_down s w hs
  · exact case_up s w hs
end Go.Proofs.YtjdollmfjflkoaaGreatDoor
