/- Packed texts: UtCase, UtOthers, UtRef3. What each of them proves stands above its theorems; the conditions stand in these. -/
import Derived.Laws.IdiomStrings
import Derived.Test.YtjdollmfjflkoaaGreatDoorShelf
import Derived.Test.YtjdollmfjflkoaaGreatDoorB10
import Derived.Test.YtjdollmfjflkoaaGreatDoorB13
import Derived.Test.YtjdollmfjflkoaaGreatDoorB15
namespace Go.Proofs.YtjdollmfjflkoaaGreatDoor
open Go.RowKit Go.Lib

/-- The row of bytes in the making: k of them are turned. -/
structure CI (w0 : World) (B : Nat) (up : Bool) (l : List UInt8) (k : Nat) (w : World) : Prop where
  below : Below w0.heap.size w0 w
  low : w0.heap.size ≤ B
  cell : ∀ (j : Nat) c, l[j]? = some c → w.cell? ⟨B, j, none⟩ = some (.int .u8 (((if j < k then caseB up c else c).toNat : Nat) : Int))
  free : ∀ (j : Nat) c, l[j]? = some c → w.frozen? ⟨B, j, none⟩ = false
theorem CI.put {w0 w : World} {B : Nat} {up : Bool} {l : List UInt8} {k : Nat} (h : CI w0 B up l k w) {c : UInt8} (hc : l[k]? = some c) : CI w0 B up l (k + 1) (w.setCell ⟨B, k, none⟩ (.int .u8 (((caseB up c).toNat : Nat) : Int))) := by
  have h0 := h.cell k c hc
  refine ⟨h.below.setCell (p := ⟨B, k, none⟩) h.low _, h.low, fun j d hj => ?_, fun j d hj => ?_⟩
  · by_cases hjk : j = k
    · subst hjk
      rw [hc] at hj
      obtain rfl := Option.some.inj hj
      rw [if_pos (Nat.lt_succ_self _)]
      exact World.cell?_setCell_same _ _ _ h0
    · rw [World.cell?_setCell_other _ _ _ _ (by intro h; injection h with _ h2 _; exact hjk h2.symm), h.cell j d hj]
      by_cases hlt : j < k
      · rw [if_pos hlt, if_pos (by omega)]
      · rw [if_neg hlt, if_neg (by omega)]
  · rw [World.frozen?_setCell]
    exact h.free j d hj
theorem CI.skip {w0 w : World} {B : Nat} {up : Bool} {l : List UInt8} {k : Nat} (h : CI w0 B up l k w) {c : UInt8} (hc : l[k]? = some c) (hs : caseB up c = c) : CI w0 B up l (k + 1) w := by
  refine ⟨h.below, h.low, fun j d hj => ?_, h.free⟩
  rw [h.cell j d hj]
  by_cases hjk : j = k
  · subst hjk
    rw [hc] at hj
    obtain rfl := Option.some.inj hj
    rw [if_pos (Nat.lt_succ_self _), if_neg (Nat.lt_irrefl _), hs]
  · by_cases hlt : j < k
    · rw [if_pos hlt, if_pos (by omega)]
    · rw [if_neg hlt, if_neg (by omega)]
theorem case_start (up : Bool) (s : ByteArray) (w : World) : CI w w.heap.size up s.data.toList 0 (w.drew.alloc (.cells (bytesRow s (grownCap w s.size 0 5)) 5 ((bytesRow s (grownCap w s.size 0 5)).size, (bytesRow s (grownCap w s.size 0 5)).size + 1))) := by
  refine ⟨((Below.refl _ w).drew).alloc (Nat.le_refl _) _, Nat.le_refl _, fun j c hj => ?_, fun j c hj => ?_⟩
  · have hlt : j < s.data.toList.length := (List.getElem?_eq_some_iff.1 hj).1
    rw [show w.heap.size = w.drew.heap.size from rfl, World.cell?_alloc_mark, if_neg (Nat.not_lt_zero _)]
    unfold bytesRow
    rw [Array.getElem?_append_left (by rw [Array.size_map]; rw [Array.length_toList] at hlt; exact hlt), Array.getElem?_map, ← Array.getElem?_toList, hj]
    rfl
  · have hlt : j < s.data.toList.length := (List.getElem?_eq_some_iff.1 hj).1
    rw [Array.length_toList] at hlt
    have hh : (w.drew.alloc (.cells (bytesRow s (grownCap w s.size 0 5)) 5 ((bytesRow s (grownCap w s.size 0 5)).size, (bytesRow s (grownCap w s.size 0 5)).size + 1))).heap[w.heap.size]? = some (.cells (bytesRow s (grownCap w s.size 0 5)) 5 ((bytesRow s (grownCap w s.size 0 5)).size, (bytesRow s (grownCap w s.size 0 5)).size + 1)) := heap_alloc_new w.drew _
    unfold World.frozen?
    rw [hh]
    have hsz : s.data.size ≤ (bytesRow s (grownCap w s.size 0 5)).size := by unfold bytesRow; rw [Array.size_append, Array.size_map]; omega
    simp
    omega
theorem ci_back {w0 w : World} {B cp : Nat} {up : Bool} {s : ByteArray} (h : CI w0 B up s.data.toList s.size w) : (convert 41 9 (.slice (some ⟨B, 0, none⟩) s.size cp)).run Tryz.prog w = .ok (.string (ba (caseU up s.data.toList))) w := by
  have hl : (caseU up s.data.toList).length = s.size := by unfold caseU; rw [List.length_map, ← size_eq]
  have := run_convert_bytes_back (P := Tryz.prog) w 41 9 5 ⟨B, 0, none⟩ cp (caseU up s.data.toList) Tryz.underlying41 Tryz.underlying5 Tryz.underlying9 (fun j hj => by
    have hj2 : j < s.data.toList.length := by unfold caseU at hj; rw [List.length_map] at hj; exact hj
    have hadd : (⟨B, 0, none⟩ : Addr).add j = ⟨B, j, none⟩ := by unfold Addr.add; split <;> simp_all
    rw [hadd, h.cell j _ (List.getElem?_eq_getElem hj2), if_pos (by rw [← size_eq] at hj2; exact hj2)]
    simp [caseU])
  rw [hl] at this
  exact this
theorem case_byte_up (c : UInt8) : (97 ≤ (c.toNat : Int) ∧ (c.toNat : Int) ≤ 122 → bits .xor .u8 (bits .xor .u8 (c.toNat : Int) 97) 65 = (((caseB true c).toNat : Nat) : Int)) ∧ (¬ (97 ≤ (c.toNat : Int) ∧ (c.toNat : Int) ≤ 122) → caseB true c = c) := by
  have h : ∀ d : Fin 256, (97 ≤ (d.val : Int) ∧ (d.val : Int) ≤ 122 → bits .xor .u8 (bits .xor .u8 (d.val : Int) 97) 65 = (((caseB true (UInt8.ofNat d.val)).toNat : Nat) : Int)) ∧ (¬ (97 ≤ (d.val : Int) ∧ (d.val : Int) ≤ 122) → caseB true (UInt8.ofNat d.val) = UInt8.ofNat d.val) := by decide +kernel
  have := h ⟨c.toNat, UInt8.toNat_lt c⟩
  simpa using this
theorem case_byte_down (c : UInt8) : (65 ≤ (c.toNat : Int) ∧ (c.toNat : Int) ≤ 90 → bits .xor .u8 (bits .xor .u8 (c.toNat : Int) 97) 65 = (((caseB false c).toNat : Nat) : Int)) ∧ (¬ (65 ≤ (c.toNat : Int) ∧ (c.toNat : Int) ≤ 90) → caseB false c = c) := by
  have h : ∀ d : Fin 256, (65 ≤ (d.val : Int) ∧ (d.val : Int) ≤ 90 → bits .xor .u8 (bits .xor .u8 (d.val : Int) 97) 65 = (((caseB false (UInt8.ofNat d.val)).toNat : Nat) : Int)) ∧ (¬ (65 ≤ (d.val : Int) ∧ (d.val : Int) ≤ 90) → caseB false (UInt8.ofNat d.val) = UInt8.ofNat d.val) := by decide +kernel
  have := h ⟨c.toNat, UInt8.toNat_lt c⟩
  simpa using this
set_option maxHeartbeats 1000000 in
set_option maxRecDepth 20000 in
theorem case_up (s : ByteArray) (w : World) (hs : s.size ≤ 70368744177664) :
    Calls Tryz.prog 19 #[.string s, .bool true] w fun e w' => e = .returned (.string (ba (caseU true s.data.toList))) ∧ Below w.heap.size w w' := by
  have hcv := run_bytes_of_string (P := Tryz.prog) w 9 41 5 s Tryz.underlying9 Tryz.underlying41 Tryz.underlying5
  obtain ⟨W1, hW1⟩ : ∃ W1, W1 = (w.drew.alloc (.cells (bytesRow s (grownCap w s.size 0 5)) 5 ((bytesRow s (grownCap w s.size 0 5)).size, (bytesRow s (grownCap w s.size 0 5)).size + 1))) := ⟨_, rfl⟩
  rw [← hW1] at hcv
  have HI0 : Hid (CI w w.heap.size true s.data.toList 0 W1) := Lib.hid (by subst hW1; exact case_start true s w)
  clear hW1
  generalize grownCap w s.size 0 5 = cp at hcv
  go_enter Tryz.func19, Tryz.ntmps19
  go_wp2_with fail
  go_loopw [15] (fun i wr => ∃ k : Nat, k ≤ s.size ∧ i = .int .i64 k ∧ CI w w.heap.size true s.data.toList k wr) (fun i _ => s.size - (RowKit.intOf i).toNat)
  case atStart => exact ⟨0, Nat.zero_le _, rfl, HI0.out⟩
  case round =>
    obtain ⟨k, hk, rfl, hI⟩ := hrel
    have HI := Lib.hid hI
    clear hI HI0 hcv
    by_cases hlt : k < s.size
    · have hc : s.data.toList[k]? = some s[k] := data_getElem? s k hlt
      have hcell := HI.out.cell k _ hc
      rw [if_neg (Nat.lt_irrefl _)] at hcell
      have hfr := HI.out.free k _ hc
      obtain ⟨c, hcc⟩ : ∃ c, s[k] = c := ⟨_, rfl⟩
      rw [hcc] at hc hcell
      have hx := case_byte_up c
      obtain ⟨x, hxx⟩ : ∃ x : Int, x = (c.toNat : Int) := ⟨_, rfl⟩
      have hb := UInt8.toNat_lt c
      have hx0 : 0 ≤ x := by omega
      have hx1 : x ≤ 255 := by omega
      rw [← hxx] at hcell hx
      have HC := Lib.hid hc
      have HX := Lib.hid hxx
      clear hc hxx hcc hb
      by_cases hr : 97 ≤ x ∧ x ≤ 122
      · obtain ⟨r1, r2⟩ := hr
        have hbits := (hx.1 ⟨r1, r2⟩)
        clear hx
        go_wp2
        go_roundw
        case rel => exact ⟨k + 1, by omega, by go_num, HI.out.put HC.out⟩
        case measure => simp [RowKit.intOf]; omega
      · have hsm := (hx.2 hr)
        clear hx
        have hr' : x < 97 ∨ 122 < x := by omega
        clear hr
        rcases hr' with hr | hr
        · go_wp2
          go_roundw
          case rel => exact ⟨k + 1, by omega, by go_num, HI.out.skip HC.out hsm⟩
          case measure => simp [RowKit.intOf]; omega
        · have hr3 : 97 ≤ x := by omega
          go_wp2
          go_roundw
          case rel => exact ⟨k + 1, by omega, by go_num, HI.out.skip HC.out hsm⟩
          case measure => simp [RowKit.intOf]; omega
    · obtain rfl : k = s.size := by omega
      have hcv := ci_back (cp := cp) HI.out
      go_wp2
      go_ret
      exact ⟨rfl, HI.out.below⟩
set_option maxHeartbeats 1000000 in
set_option maxRecDepth 20000 in
theorem case_down (s : ByteArray) (w : World) (hs : s.size ≤ 70368744177664) :
    Calls Tryz.prog 19 #[.string s, .bool false] w fun e w' => e = .returned (.string (ba (caseU false s.data.toList))) ∧ Below w.heap.size w w' := by
  have hcv := run_bytes_of_string (P := Tryz.prog) w 9 41 5 s Tryz.underlying9 Tryz.underlying41 Tryz.underlying5
  obtain ⟨W1, hW1⟩ : ∃ W1, W1 = (w.drew.alloc (.cells (bytesRow s (grownCap w s.size 0 5)) 5 ((bytesRow s (grownCap w s.size 0 5)).size, (bytesRow s (grownCap w s.size 0 5)).size + 1))) := ⟨_, rfl⟩
  rw [← hW1] at hcv
  have HI0 : Hid (CI w w.heap.size false s.data.toList 0 W1) := Lib.hid (by subst hW1; exact case_start false s w)
  clear hW1
  generalize grownCap w s.size 0 5 = cp at hcv
  go_enter Tryz.func19, Tryz.ntmps19
  go_wp2_with fail
  go_loopw [15] (fun i wr => ∃ k : Nat, k ≤ s.size ∧ i = .int .i64 k ∧ CI w w.heap.size false s.data.toList k wr) (fun i _ => s.size - (RowKit.intOf i).toNat)
  case atStart => exact ⟨0, Nat.zero_le _, rfl, HI0.out⟩
  case round =>
    obtain ⟨k, hk, rfl, hI⟩ := hrel
    have HI := Lib.hid hI
    clear hI HI0 hcv
    by_cases hlt : k < s.size
    · have hc : s.data.toList[k]? = some s[k] := data_getElem? s k hlt
      have hcell := HI.out.cell k _ hc
      rw [if_neg (Nat.lt_irrefl _)] at hcell
      have hfr := HI.out.free k _ hc
      obtain ⟨c, hcc⟩ : ∃ c, s[k] = c := ⟨_, rfl⟩
      rw [hcc] at hc hcell
      have hx := case_byte_down c
      obtain ⟨x, hxx⟩ : ∃ x : Int, x = (c.toNat : Int) := ⟨_, rfl⟩
      have hb := UInt8.toNat_lt c
      have hx0 : 0 ≤ x := by omega
      have hx1 : x ≤ 255 := by omega
      rw [← hxx] at hcell hx
      have HC := Lib.hid hc
      have HX := Lib.hid hxx
      clear hc hxx hcc hb
      by_cases hr : 65 ≤ x ∧ x ≤ 90
      · obtain ⟨r1, r2⟩ := hr
        have hbits := (hx.1 ⟨r1, r2⟩)
        clear hx
        go_wp2
        go_roundw
        case rel => exact ⟨k + 1, by omega, by go_num, HI.out.put HC.out⟩
        case measure => simp [RowKit.intOf]; omega
      · have hsm := (hx.2 hr)
        clear hx
        have hr' : x < 65 ∨ 90 < x := by omega
        clear hr
        rcases hr' with hr | hr
        · go_wp2
          go_roundw
          case rel => exact ⟨k + 1, by omega, by go_num, HI.out.skip HC.out hsm⟩
          case measure => simp [RowKit.intOf]; omega
        · have hr3 : 65 ≤ x := by omega
          go_wp2
          go_roundw
          case rel => exact ⟨k + 1, by omega, by go_num, HI.out.skip HC.out hsm⟩
          case measure => simp [RowKit.intOf]; omega
    · obtain rfl : k = s.size := by omega
      have hcv := ci_back (cp := cp) HI.out
      go_wp2
      go_ret
      exact ⟨rfl, HI.out.below⟩
theorem caseU_any (up : Bool) (s : ByteArray) (w : World) (hs : s.size ≤ 70368744177664) :
    Calls Tryz.prog 19 #[.string s, .bool up] w fun e w' => e = .returned (.string (ba (caseU up s.data.toList))) ∧ Below w.heap.size w w' := by
  cases up
  · exact case_down s w hs
  · exact case_up s w hs
end Go.Proofs.YtjdollmfjflkoaaGreatDoor
namespace Go.Proofs.YtjdollmfjflkoaaGreatDoor
open Go.RowKit Go.Lib

/-! ### All names -/
def namesU : List (List UInt8) := [[101, 99, 104, 111], [58], [116, 114, 117, 101], [102, 97, 108, 115, 101], [104, 101, 120], [117, 110, 104, 101, 120], [100, 101, 99], [115, 116, 114], [116, 101, 115, 116], [115, 101, 100]]
def knownU (l : List UInt8) : Bool := decide (l ∈ namesU)
theorem look_none {l : List UInt8} (h : knownU l = false) (a b c d e f : Nat) : look (utEs a b c d e f) l = none := by
  have h1 : l ∉ namesU := of_decide_eq_false h
  simp only [namesU, List.mem_cons, List.not_mem_nil, or_false, not_or] at h1
  obtain ⟨n1, n2, n3, n4, n5, n6, n7, n8, n9, n10⟩ := h1
  unfold look utEs
  simp only [List.foldl_cons, List.foldl_nil, lookE]
  rw [if_neg n10, if_neg n9, if_neg n8, if_neg n7, if_neg n6, if_neg n5, if_neg n4, if_neg n3, if_neg n2, if_neg n1]
theorem look_some {l : List UInt8} (h : knownU l = true) (a b c d e f : Nat) : ∃ v, look (utEs a b c d e f) l = some v := by
  have h1 : l ∈ namesU := of_decide_eq_true h
  simp only [namesU, List.mem_cons, List.not_mem_nil, or_false] at h1
  rcases h1 with rfl | rfl | rfl | rfl | rfl | rfl | rfl | rfl | rfl | rfl
  all_goals exact ⟨_, rfl⟩
theorem knownU_any (s : ByteArray) (w : World) (hs : s.size ≤ maxLen) : Calls Tryz.prog 21 #[.string s] w fun e w' => e = .returned (.bool (knownU s.data.toList)) ∧ Below w.heap.size w w' := by
  have HS := Lib.hid hs
  clear hs
  obtain ⟨y, hy⟩ : ∃ y, y = knownU s.data.toList := ⟨_, rfl⟩
  rw [← hy]
  have HY := Lib.hid (fun (a b c d e f : Nat) => show ∃ v, (match look (utEs a b c d e f) s.data.toList with | some u => (u, true) | none => (Value.nilFunc, false)) = (v, y) by
    rw [hy]
    cases h : knownU s.data.toList with
    | false => exact ⟨_, by rw [look_none h]⟩
    | true =>
      obtain ⟨v, hv⟩ := look_some h a b c d e f
      exact ⟨v, by rw [hv]⟩)
  clear hy
  go_enter Tryz.func21, Tryz.ntmps21
  go_wp2_with (first
    | (go_at_call 27; refine (utilities_any _ _ _).mono ?_; rintro e w1 ⟨m, h, u, d, t, i, f, rfl, hU⟩; have HU := Lib.hid hU; clear hU; obtain ⟨v, hv⟩ := HY.out h u d t i f; have HV := Lib.hid hv; clear hv)
    | (refine wpList_lookup_U rfl _ _ rfl _ _ _ _ HU.out rfl _ rfl HS.out _ _ HV.out ?_))
  go_ret
  exact ⟨rfl, HU.out.below⟩
end Go.Proofs.YtjdollmfjflkoaaGreatDoor
namespace Go.Proofs.YtjdollmfjflkoaaGreatDoor
open Go.RowKit Go.Lib

theorem byte_back1 (w : World) (z : Int) (d : UInt8) (h : z = (d.toNat : Int)) :
    (convert 41 9 (.slice (some ⟨w.heap.size, 0, none⟩) 1 1)).run Tryz.prog (w.alloc (.cells #[.int .u8 z] 5)) = .ok (.string ⟨#[d]⟩) (w.alloc (.cells #[.int .u8 z] 5)) := by
  subst h
  refine run_convert_bytes_back (P := Tryz.prog) _ 41 9 5 ⟨w.heap.size, 0, none⟩ 1 [d] Tryz.underlying41 Tryz.underlying5 Tryz.underlying9 (fun j hj => ?_)
  obtain rfl : j = 0 := by simpa using hj
  rw [show (⟨w.heap.size, 0, none⟩ : Addr).add 0 = ⟨w.heap.size, 0, none⟩ from rfl, World.cell?_alloc_at _ _ _ _ rfl]
  rfl
theorem caseU_snoc (up : Bool) (x : List UInt8) (c : UInt8) : ba (caseU up (x ++ [c])) = ba (caseU up x) ++ ⟨#[caseB up c]⟩ := by
  unfold caseU
  rw [List.map_append]
  exact (ba_append _ _).symm
theorem case_val_true (c : UInt8) : (97 ≤ (c.toNat : Int) ∧ (c.toNat : Int) ≤ 122 → (c.toNat : Int) - 32 = (((caseB true c).toNat : Nat) : Int)) := by
  have h : ∀ d : Fin 256, (97 ≤ (d.val : Int) ∧ (d.val : Int) ≤ 122 → (d.val : Int) - 32 = (((caseB true (UInt8.ofNat d.val)).toNat : Nat) : Int)) := by decide +kernel
  have := h ⟨c.toNat, UInt8.toNat_lt c⟩
  simpa using this
theorem case_val_false (c : UInt8) : (65 ≤ (c.toNat : Int) ∧ (c.toNat : Int) ≤ 90 → (c.toNat : Int) + 32 = (((caseB false c).toNat : Nat) : Int)) := by
  have h : ∀ d : Fin 256, (65 ≤ (d.val : Int) ∧ (d.val : Int) ≤ 90 → (d.val : Int) + 32 = (((caseB false (UInt8.ofNat d.val)).toNat : Nat) : Int)) := by decide +kernel
  have := h ⟨c.toNat, UInt8.toNat_lt c⟩
  simpa using this
set_option maxHeartbeats 2000000 in
set_option maxRecDepth 20000 in
theorem refCase_true (s : ByteArray) (w : World) (hs : s.size ≤ 1000000) :
    Calls Tryz.prog 20 #[.string s, .bool true] w fun e w' => e = .returned (.string (ba (caseU true s.data.toList))) ∧ Below w.heap.size w w' := by
  have HL := Lib.hid (size_eq s)
  go_enter Tryz.func20, Tryz.ntmps20
  go_wp2_with fail
  go_loopw [5, 6] (fun t i wr => ∃ (k : Nat) (T : ByteArray), k ≤ s.size ∧ t = .string T ∧ i = .int .i64 k ∧ T.size ≤ k ∧ Hid (T = ba (caseU true (s.data.toList.take k))) ∧ Hid (Below w.heap.size w wr)) (fun _ i _ => s.size - (RowKit.intOf i).toNat)
  case atStart => exact ⟨0, ⟨#[]⟩, Nat.zero_le _, rfl, rfl, Nat.le_refl _, rfl, Below.refl _ _⟩
  case round =>
    obtain ⟨k, T, hk, rfl, rfl, hT, HT, HB⟩ := hrel
    by_cases hlt : k < s.size
    · have hltI : (k : Int) < (s.size : Int) := by omega
      obtain ⟨c, hc⟩ : ∃ c, s[k] = c := ⟨_, rfl⟩
      have htk : s.data.toList.take (k + 1) = s.data.toList.take k ++ [c] := by
        rw [List.take_add_one, data_getElem? s k hlt, hc]
        rfl
      have HTK := Lib.hid htk
      have hv := case_val_true c
      have hsm := (case_byte_up c).2
      have hb := UInt8.toNat_lt c
      have z1 : (⟨#[caseB true c]⟩ : ByteArray).size = 1 := rfl
      obtain ⟨x, hxx⟩ : ∃ x : Int, (c.toNat : Int) = x := ⟨_, rfl⟩
      rw [hxx] at hv hsm
      have hx0 : 0 ≤ x := by omega
      have hx1 : x ≤ 255 := by omega
      clear htk hb
      by_cases hr : 97 ≤ x ∧ x ≤ 122
      · have hcv := byte_back1 wr (x - 32) (caseB true c) (hv hr)
        obtain ⟨r1, r2⟩ := hr
        clear hv hsm
        go_wp2_with fail
        go_roundw
        case rel => exact ⟨k + 1, T ++ ⟨#[caseB true c]⟩, by omega, rfl, by go_num, by rw [ByteArray.size_append, z1]; omega, Lib.hid (by rw [HTK.out, caseU_snoc, HT.out]), Lib.hid (HB.out.alloc HB.out.size _)⟩
        case measure => simp [RowKit.intOf]; omega
      · have hcv := byte_back1 wr x (caseB true c) (by rw [hsm hr]; exact hxx.symm)
        have hr' : x < 97 ∨ 97 ≤ x ∧ 122 < x := by omega
        clear hr hv hsm
        rcases hr' with hr | ⟨hr, hr2⟩
        all_goals
          go_wp2_with fail
          go_roundw
          case rel => exact ⟨k + 1, T ++ ⟨#[caseB true c]⟩, by omega, rfl, by go_num, by rw [ByteArray.size_append, z1]; omega, Lib.hid (by rw [HTK.out, caseU_snoc, HT.out]), Lib.hid (HB.out.alloc HB.out.size _)⟩
          case measure => simp [RowKit.intOf]; omega
    · obtain rfl : k = s.size := by omega
      go_wp2_with fail
      go_ret
      refine ⟨?_, HB.out⟩
      have h := HT.out
      rw [List.take_of_length_le (by rw [← HL.out]; exact Nat.le_refl _)] at h
      rw [← h]
      rfl
set_option maxHeartbeats 2000000 in
set_option maxRecDepth 20000 in
theorem refCase_false (s : ByteArray) (w : World) (hs : s.size ≤ 1000000) :
    Calls Tryz.prog 20 #[.string s, .bool false] w fun e w' => e = .returned (.string (ba (caseU false s.data.toList))) ∧ Below w.heap.size w w' := by
  have HL := Lib.hid (size_eq s)
  go_enter Tryz.func20, Tryz.ntmps20
  go_wp2_with fail
  go_loopw [5, 6] (fun t i wr => ∃ (k : Nat) (T : ByteArray), k ≤ s.size ∧ t = .string T ∧ i = .int .i64 k ∧ T.size ≤ k ∧ Hid (T = ba (caseU false (s.data.toList.take k))) ∧ Hid (Below w.heap.size w wr)) (fun _ i _ => s.size - (RowKit.intOf i).toNat)
  case atStart => exact ⟨0, ⟨#[]⟩, Nat.zero_le _, rfl, rfl, Nat.le_refl _, rfl, Below.refl _ _⟩
  case round =>
    obtain ⟨k, T, hk, rfl, rfl, hT, HT, HB⟩ := hrel
    by_cases hlt : k < s.size
    · have hltI : (k : Int) < (s.size : Int) := by omega
      obtain ⟨c, hc⟩ : ∃ c, s[k] = c := ⟨_, rfl⟩
      have htk : s.data.toList.take (k + 1) = s.data.toList.take k ++ [c] := by
        rw [List.take_add_one, data_getElem? s k hlt, hc]
        rfl
      have HTK := Lib.hid htk
      have hv := case_val_false c
      have hsm := (case_byte_down c).2
      have hb := UInt8.toNat_lt c
      have z1 : (⟨#[caseB false c]⟩ : ByteArray).size = 1 := rfl
      obtain ⟨x, hxx⟩ : ∃ x : Int, (c.toNat : Int) = x := ⟨_, rfl⟩
      rw [hxx] at hv hsm
      have hx0 : 0 ≤ x := by omega
      have hx1 : x ≤ 255 := by omega
      clear htk hb
      by_cases hr : 65 ≤ x ∧ x ≤ 90
      · have hcv := byte_back1 wr (x + 32) (caseB false c) (hv hr)
        obtain ⟨r1, r2⟩ := hr
        clear hv hsm
        go_wp2_with fail
        go_roundw
        case rel => exact ⟨k + 1, T ++ ⟨#[caseB false c]⟩, by omega, rfl, by go_num, by rw [ByteArray.size_append, z1]; omega, Lib.hid (by rw [HTK.out, caseU_snoc, HT.out]), Lib.hid (HB.out.alloc HB.out.size _)⟩
        case measure => simp [RowKit.intOf]; omega
      · have hcv := byte_back1 wr x (caseB false c) (by rw [hsm hr]; exact hxx.symm)
        have hr' : x < 65 ∨ 65 ≤ x ∧ 90 < x := by omega
        clear hr hv hsm
        rcases hr' with hr | ⟨hr, hr2⟩
        all_goals
          go_wp2_with fail
          go_roundw
          case rel => exact ⟨k + 1, T ++ ⟨#[caseB false c]⟩, by omega, rfl, by go_num, by rw [ByteArray.size_append, z1]; omega, Lib.hid (by rw [HTK.out, caseU_snoc, HT.out]), Lib.hid (HB.out.alloc HB.out.size _)⟩
          case measure => simp [RowKit.intOf]; omega
    · obtain rfl : k = s.size := by omega
      go_wp2_with fail
      go_ret
      refine ⟨?_, HB.out⟩
      have h := HT.out
      rw [List.take_of_length_le (by rw [← HL.out]; exact Nat.le_refl _)] at h
      rw [← h]
      rfl
theorem refCaseU_any (up : Bool) (s : ByteArray) (w : World) (hs : s.size ≤ 1000000) :
    Calls Tryz.prog 20 #[.string s, .bool up] w fun e w' => e = .returned (.string (ba (caseU up s.data.toList))) ∧ Below w.heap.size w w' := by
  cases up
  · exact refCase_false s w hs
  · exact refCase_true s w hs
theorem ba_neK {s : ByteArray} {l : List UInt8} (h : s.data.toList ≠ l) : (s.toList == l) = false ∧ ¬ s.toList = l := by
  rw [ByteArray.toList_eq]
  exact ⟨beq_eq_false_iff_ne.2 h, h⟩
set_option maxHeartbeats 4000000 in
set_option maxRecDepth 20000 in
theorem refKnownU_any (s : ByteArray) (w : World) : Calls Tryz.prog 22 #[.string s] w fun e w' => e = .returned (.bool (knownU s.data.toList)) ∧ w' = w := by
  cases hk : knownU s.data.toList with
  | false =>
    have h1 : s.data.toList ∉ namesU := of_decide_eq_false hk
    simp only [namesU, List.mem_cons, List.not_mem_nil, or_false, not_or] at h1
    obtain ⟨n1, n2, n3, n4, n5, n6, n7, n8, n9, n10⟩ := h1
    obtain ⟨p1, q1⟩ := ba_neK n1
    obtain ⟨p2, q2⟩ := ba_neK n2
    obtain ⟨p3, q3⟩ := ba_neK n3
    obtain ⟨p4, q4⟩ := ba_neK n4
    obtain ⟨p5, q5⟩ := ba_neK n5
    obtain ⟨p6, q6⟩ := ba_neK n6
    obtain ⟨p7, q7⟩ := ba_neK n7
    obtain ⟨p8, q8⟩ := ba_neK n8
    obtain ⟨p9, q9⟩ := ba_neK n9
    obtain ⟨p10, q10⟩ := ba_neK n10
    clear n1 n2 n3 n4 n5 n6 n7 n8 n9 n10 hk
    go_enter Tryz.func22, Tryz.ntmps22
    go_wp2
    go_ret
    exact ⟨rfl, rfl⟩
  | true =>
    have h1 : s.data.toList ∈ namesU := of_decide_eq_true hk
    simp only [namesU, List.mem_cons, List.not_mem_nil, or_false] at h1
    have hall : ∀ l : List UInt8, s.data.toList = l → s = ⟨l.toArray⟩ := fun l h => ba_ext h
    rcases h1 with h | h | h | h | h | h | h | h | h | h
    all_goals
      have hs := hall _ h
      clear h hall hk
      subst hs
      go_enter Tryz.func22, Tryz.ntmps22
      go_wp2
      go_ret
      exact ⟨rfl, rfl⟩
end Go.Proofs.YtjdollmfjflkoaaGreatDoor
