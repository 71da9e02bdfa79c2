/- Packed texts: ShIdx, ShMem, ShLeaf. What each of them proves stands above its theorems; the conditions stand in these. -/
import Derived.BigQuiet
import Derived.Deep.Cut
import Derived.Deep.CutBlock
import Derived.Deep.QuietTactic
import Derived.Deep.RegionHeld3
import Derived.Deep.RegionLaw
import Derived.Laws.RangeAny
import Derived.Laws.Runes
import Derived.Lib.Hide
import Derived.Lib.OthersKept
import Derived.Shelf.Strings.IndexAny
import Derived.Shelf.Strings.IndexAnyAll
import Derived.Shelf.Strings.SlTrimAscii
import Derived.Test.YtelfgobjnibooaaGreatDoorShelf
import Derived.WalkMore
import Derived.Test.YtelfgobjnibooaaGreatDoorA0
namespace Go.Proofs.YtelfgobjnibooaaGreatDoor
open Go.RowKit Go.Lib
def AsciiB (s : ByteArray) : Prop := ∀ (j : Nat) b, s.data.toList[j]? = some b → b.toNat < 128
theorem indexByte_no {l : List UInt8} {c : UInt8} (h : ∀ b ∈ l, b ≠ c) : indexByte l c = -1 := by
 have hg := indexByte_ge l c
 by_cases hn : 0 ≤ indexByte l c
 ·obtain ⟨o, ho⟩ := Int.eq_ofNat_of_zero_le hn
  exact absurd rfl (h c (List.mem_of_getElem? (indexByte_some ho).1))
 ·omega
set_option maxHeartbeats 4000000 in
set_option maxRecDepth 100000 in
theorem indexRune_err (s : ByteArray) (w : World) (ha : AsciiB s) (_hs : s.size ≤ 1000) :
  Calls Tryz.prog 158 #[.string s, .int .i32 65533] w fun e w' => e = .returned (.int .i64 (-1)) ∧ Below w.heap.size w w' := by
 have HA := Lib.hid ha
 clear ha
 have FIN : ∀ i, Below w.heap.size w (w.iter s i) := fun i => (Below.refl _ w).alloc (Nat.le_refl _) _
 have HF := Lib.hid FIN
 clear FIN
 go_enter Tryz.func158, Tryz.ntmps158
 go_wp2_with fail
 go_loopg [5, 6] s.size (fun g _ _ wx => ∃ i : Nat, i + g = s.size ∧ wx = w.iter s i)
 case atStart => exact ⟨0, by omega, rfl⟩
 case round =>
  obtain ⟨i, hig, rfl⟩ := hrel
  cases gk with
  | zero =>
   obtain rfl : i = s.size := by omega
   have hnx := run_next_end (P := Tryz.prog) w s s.size
   go_wp2
   go_ret
   exact ⟨rfl, HF.out _⟩
  | succ g =>
   have hi : i < s.size := by omega
   obtain ⟨x, hx⟩ : ∃ x : UInt8, s[i]'hi = x := ⟨_, rfl⟩
   have hxl : s.data.toList[i]? = some x := by rw [← hx]; exact Lib.data_getElem? s i hi
   have hx128 : x.toNat < 128 := HA.out i x hxl
   have hnx := fun ty => run_next_ascii (P := Tryz.prog) w s i ty hi (by rw [hx]; exact hx128)
   rw [hx] at hnx
   clear hxl hx
   obtain ⟨z, hz⟩ : ∃ z : Int, (x.toNat : Int) = z := ⟨_, rfl⟩
   have hz1 : z < 128 := by omega
   rw [hz] at hnx
   clear hx128 hz
   go_wp2
   go_roundg g
   case measure => omega
   case rel => exact ⟨i + 1, by omega, rfl⟩
set_option maxHeartbeats 4000000 in
set_option maxRecDepth 100000 in
theorem indexRune_invalid (s : ByteArray) (r : Int) (w : World) (h0 : 128 ≤ r) (h1 : r ≤ 2147483647) (h2 : (r == 65533) = false) (hv : Lib.validRune r = false) :
  Calls Tryz.prog 158 #[.string s, .int .i32 r] w fun e w' => e = .returned (.int .i64 (-1)) ∧ Below w.heap.size w w' := by
 have k := fun w => Tryz.utf8_ValidRune r w
 rw [hv] at k
 have h128 : ¬ r < 128 := by omega
 clear hv
 go_enter Tryz.func158, Tryz.ntmps158
 go_wp2_with (go_at_call 175; refine (k _).mono ?_; rintro e w1 ⟨rfl, rfl⟩)
 go_ret
 exact ⟨rfl, Below.refl _ _⟩
set_option maxHeartbeats 4000000 in
set_option maxRecDepth 100000 in
theorem indexRune_valid (s : ByteArray) (r : Int) (w : World) (ha : AsciiB s) (_hs : s.size ≤ 1000) (h0 : 128 ≤ r) (h1 : r ≤ 2147483647) (h2 : (r == 65533) = false) (hv : Lib.validRune r = true) (hv2 : Utf8.valid r = true) :
  Calls Tryz.prog 158 #[.string s, .int .i32 r] w fun e w' => e = .returned (.int .i64 (-1)) ∧ Below w.heap.size w w' := by
 have k := fun w => Tryz.utf8_ValidRune r w
 rw [hv] at k
 have h128 : ¬ r < 128 := by omega
 obtain ⟨e1, e2, e3⟩ := encode_facts r hv2 h0
 obtain ⟨R, hR⟩ : ∃ R, Utf8.encode r = R := ⟨_, rfl⟩
 have hcv : ∀ w, (convert 21 9 (.int .i32 r)).run Tryz.prog w = .ok (.string R) w := fun w => by rw [← hR]; exact run_convert_int_string w 21 9 .i32 r (by rw [Tryz.underlying21]; rfl) Tryz.underlying9
 rw [hR] at e1 e2 e3
 obtain ⟨m, hm⟩ : ∃ m : Nat, R.size = m + 1 := ⟨R.size - 1, by omega⟩
 have e4 : ∀ h : m < R.size, 128 ≤ (R[m]'h).toNat := by
  intro h
  have := e3 (by omega)
  simpa [hm] using this
 have hmz : m < R.size := by omega
 obtain ⟨c, hc⟩ : ∃ c : UInt8, R[m]'hmz = c := ⟨_, rfl⟩
 have hc128 := e4 hmz
 rw [hc] at hc128
 have ki := fun t w => Tryz.strings_IndexByte t (c.toNat : Int) w
 have hno : ∀ a b : Nat, indexByte (s.extract a b).data.toList c = -1 := fun a b => indexByte_no fun x hx hxc => by
  subst hxc
  have hx2 : x ∈ s.data.toList := by
   rw [ByteArray.data_extract] at hx
   have := Array.mem_toList_iff.1 hx
   rw [Array.mem_extract_iff_getElem] at this
   obtain ⟨k, hk, e⟩ := this
   rw [← e]
   exact Array.mem_toList_iff.2 (Array.getElem_mem _)
  obtain ⟨j, hj⟩ := List.mem_iff_getElem?.1 hx2
  have := ha j x hj
  omega
 rw [show ((c.toNat : Int)).toNat.toUInt8 = c by simp] at ki
 have HNO := Lib.hid hno
 have hne : ∀ h : m < s.size, ((((s[m]'h).toNat : Int)) == (c.toNat : Int)) = false := by
  intro h
  have := ha m _ (Lib.data_getElem? s m h)
  rw [beq_eq_false_iff_ne]
  omega
 clear e3 e4 hv hv2 hno ha
 by_cases hlt : m < s.size
 ·have hne := hne hlt
  have HM := Lib.hid hm
  have hm1 : (R.size : Int) = (m : Int) + 1 := by omega
  have hm2 : (m : Int) < (s.size : Int) := by omega
  obtain ⟨z, hz⟩ : ∃ z : Int, (c.toNat : Int) = z := ⟨_, rfl⟩
  rw [hz] at hne ki
  have hzc : ((R[m]'hmz).toNat : Int) = z := by rw [hc]; exact hz
  have hz0 : 0 ≤ z ∧ z ≤ 255 := by have := c.toNat_lt; omega
  have ki2 : ∀ (a b : Nat) (w : World), Calls Tryz.prog 102 #[.string (s.extract a b), .int .u8 z] w fun e w' => e = .returned (.int .i64 (-1)) ∧ w' = w := fun a b w => by have := ki (s.extract a b) w; rw [HNO.out] at this; exact this
  clear hc hz hc128 hm ki
  go_enter Tryz.func158, Tryz.ntmps158
  go_wp2_with (go_at_call 175; refine (k _).mono ?_; rintro e w1 ⟨rfl, rfl⟩)
  go_step3
  go_wp2
  go_loopg [9, 10] 1 (fun g va vb wx => g = 1 ∧ va = .int .i64 (m : Int) ∧ vb = .int .i64 0 ∧ wx = w1)
  case atStart => exact ⟨rfl, by go_num, rfl, rfl⟩
  case round =>
   obtain ⟨rfl, rfl, rfl, rfl⟩ := hrel
   go_wp2
   go_step3
   go_wp2
   go_quiet (fail)
   go_wp2
   have hwr : IntKind.i64.wrap ((m : Int) + 1) = (m : Int) + 1 := wrap_small _ (by omega) (by omega)
   have hs1 : (m : Int) + 1 ≤ (s.size : Int) := by omega
   have hs0 : (0 : Int) ≤ (m : Int) + 1 := by omega
   have hs2 : (m : Int) < (m : Int) + 1 := by omega
   go_region_law (go_simp; go_at_call 102; (with_reducible refine (ki2 _ _ _).mono ?_); rintro e w2 ⟨rfl, rfl⟩)
   go_wp2
   rw [Exit.noGoto_ret]
   dsimp only [Exit.inBlock, Exit.then]
   rw [Exit.noGoto_ret]
   go_ret
   exact ⟨rfl, below_draws (Below.refl _ _) _⟩
 ·have hm2 : ¬ ((m : Int) < (s.size : Int)) := by omega
  have HM := Lib.hid hm
  have hm1 : (R.size : Int) = (m : Int) + 1 := by omega
  clear hm hc hc128 hne hlt
  go_enter Tryz.func158, Tryz.ntmps158
  go_wp2_with (first
   | (go_at_call 175; refine (k _).mono ?_; rintro e w1 ⟨rfl, rfl⟩))
  go_step3
  go_wp2
  go_loopg [9, 10] 1 (fun g va vb wx => g = 1 ∧ va = .int .i64 (m : Int) ∧ vb = .int .i64 0 ∧ wx = w1)
  case atStart => exact ⟨rfl, by go_num, rfl, rfl⟩
  case round =>
   obtain ⟨rfl, rfl, rfl, rfl⟩ := hrel
   go_wp2
   simp only [Exit.noGoto_ret]
   go_ret
   exact ⟨rfl, Below.refl _ _⟩
theorem indexRune_high (s : ByteArray) (r : Int) (w : World) (ha : AsciiB s) (hs : s.size ≤ 1000) (h0 : 128 ≤ r) (h1 : r ≤ 2147483647) :
  Calls Tryz.prog 158 #[.string s, .int .i32 r] w fun e w' => e = .returned (.int .i64 (-1)) ∧ Below w.heap.size w w' := by
 by_cases he : r = 65533
 ·subst he; exact indexRune_err s w ha hs
 ·have h2 : (r == 65533) = false := by rw [beq_eq_false_iff_ne]; exact he
  have hvv : Lib.validRune r = Utf8.valid r := by
   unfold Lib.validRune Utf8.valid
   rw [Bool.eq_iff_iff]
   simp
   omega
  cases hv : Lib.validRune r
  ·exact indexRune_invalid s r w h0 h1 h2 hv
  ·exact indexRune_valid s r w ha hs h0 h1 h2 hv (by rw [← hvv]; exact hv)
theorem decode_wide (s : ByteArray) (i : Nat) (h : i < s.size) (hx : 128 ≤ (s[i]'h).toNat) : 1 ≤ (Utf8.decode s i).2 ∧ i + (Utf8.decode s i).2 ≤ s.size ∧ ∀ k, k < (Utf8.decode s i).2 → ∀ h : i + k < s.size, 128 ≤ (s[i + k]'h).toNat := by
 have hn : ¬ (s[i]'h).toNat < 128 := by omega
 have hget : ∀ k, (hk : i + k < s.size) → s.get! (i + k) = s[i + k]'hk := fun k hk => by
  simp [ByteArray.get!, getElem!_pos, hk]
  rfl
 have one : 1 ≤ 1 ∧ i + 1 ≤ s.size ∧ ∀ k, k < 1 → ∀ h : i + k < s.size, 128 ≤ (s[i + k]'h).toNat := ⟨Nat.le_refl _, h, fun k hk _ => by
  obtain rfl : k = 0 := by omega
  exact hx⟩
 have cont : ∀ k, (decide (i + k < s.size) && ((s.get! (i + k)).toNat / 64 == 2)) = true → ∃ hk : i + k < s.size, 128 ≤ (s[i + k]'hk).toNat := fun k hk => by
  rw [Bool.and_eq_true, decide_eq_true_eq, beq_iff_eq] at hk
  obtain ⟨h1, h2⟩ := hk
  rw [hget k h1] at h2
  exact ⟨h1, by omega⟩
 unfold Utf8.decode
 dsimp only
 have h00 : (s.get! (i + 0)).toNat = (s[i]'h).toNat := by rw [get_at s i h]
 simp only [h00, hn, if_false]
 clear h00
 split
 ·rename_i hc
  rw [Bool.and_eq_true] at hc
  obtain ⟨k1, k2⟩ := cont 1 hc.2
  split
  ·refine ⟨by show 1 ≤ 2; omega, by show i + 2 ≤ _; omega, fun k hk hh => ?_⟩
   have hk : k < 2 := hk
   match k, hk with
   | 0, _ => exact hx
   | 1, _ => exact k2
  ·exact one
 ·split
  ·rename_i hc
   rw [Bool.and_eq_true, Bool.and_eq_true] at hc
   obtain ⟨k1, k2⟩ := cont 1 hc.1.2
   obtain ⟨k3, k4⟩ := cont 2 hc.2
   split
   ·refine ⟨by show 1 ≤ 3; omega, by show i + 3 ≤ _; omega, fun k hk hh => ?_⟩
    have hk : k < 3 := hk
    match k, hk with
    | 0, _ => exact hx
    | 1, _ => exact k2
    | 2, _ => exact k4
   ·exact one
  ·split
   ·rename_i hc
    rw [Bool.and_eq_true, Bool.and_eq_true, Bool.and_eq_true] at hc
    obtain ⟨k1, k2⟩ := cont 1 hc.1.1.2
    obtain ⟨k3, k4⟩ := cont 2 hc.1.2
    obtain ⟨k5, k6⟩ := cont 3 hc.2
    split
    ·refine ⟨by show 1 ≤ 4; omega, by show i + 4 ≤ _; omega, fun k hk hh => ?_⟩
     have hk : k < 4 := hk
     match k, hk with
     | 0, _ => exact hx
     | 1, _ => exact k2
     | 2, _ => exact k4
     | 3, _ => exact k6
    ·exact one
   ·exact one
theorem noAny_skip {s chars : List UInt8} {i n : Nat} (h : NoAny s chars i) (hn : ∀ k b, k < n → s[i + k]? = some b → chars.contains b = false) : NoAny s chars (i + n) := by
 induction n with
 | zero => exact h
 | succ n ih =>
  have h1 := ih fun k b hk => hn k b (by omega)
  cases hb : s[i + n]? with
  | some x => exact NoAny.succ h1 hb (hn n x (by omega) hb)
  | none =>
   intro j b hj hb2
   by_cases hj2 : j < i + n
   ·exact h1 j b hj2 hb2
   ·obtain rfl : j = i + n := by omega
    rw [hb] at hb2; cases hb2
set_option maxHeartbeats 8000000 in
set_option maxRecDepth 1000000 in
theorem indexAny_few (s chars : ByteArray) (w : World) (h2 : 2 ≤ chars.size) (hcs : chars.size ≤ 1000) (h8 : s.size ≤ 8) (ha : AsciiB chars) :
  Calls Tryz.prog 135 #[.string s, .string chars] w fun e w' => e = .returned (.int .i64 (Lib.indexAny s.data.toList chars.data.toList)) ∧ Below w.heap.size w w' := by
 have HA := Lib.hid ha
 clear ha
 have hemp : chars.toList.isEmpty = false := by
  rw [Lib.toList_data]
  cases h : chars.data.toList with
  | nil => have := Lib.size_eq chars; rw [h, List.length_nil] at this; omega
  | cons _ _ => rfl
 have hn1 : ((chars.size : Int) == 1) = false := beq_eq_false_iff_ne.2 (by omega)
 have h8z : decide ((8 : Int) < (s.size : Int)) = false := decide_eq_false (by omega)
 have ks := fun w => Tryz.strings_shouldUseASCIISet (s.size : Int) w
 rw [h8z] at ks
 clear h8z
 have START : Hid ((w.iter s 0).heap[w.heap.size]? = some (.stringIter s 0) ∧ Below w.heap.size w (w.iter s 0)) := And.intro (World.iter_heap w s 0) ((Below.refl _ w).alloc (Nat.le_refl _) _)
 have HHIT := Lib.hid (fun (i : Nat) (x : UInt8) => @indexAny_hit s.data.toList chars.data.toList i x)
 have HNONE := Lib.hid (@indexAny_none s.data.toList chars.data.toList)
 have HSZ := Lib.hid (Lib.size_eq s)
 have krA := fun (c : UInt8) w (h : c.toNat < 128) => Tryz.strings_IndexRune_ascii chars (c.toNat : Int) w (by omega) (by omega)
 have krH := fun (r : Nat) w (h : 128 ≤ r) (h2 : r ≤ 2147483647) => indexRune_high chars (r : Int) w HA.out hcs (by omega) (by omega)
 have KA := Lib.hid krA
 have KH := Lib.hid krH
 clear krA krH
 go_enter Tryz.func135, Tryz.ntmps135
 go_wp2_with (go_at_call 159; refine (ks _).mono ?_; rintro e w' ⟨rfl, rfl⟩)
 go_loopg [9, 10] s.size (fun g _ _ wx => Hid (∃ i : Nat, i ≤ s.size ∧ s.size ≤ i + g ∧ wx.heap[w'.heap.size]? = some (.stringIter s i) ∧ Below w'.heap.size w' wx ∧ Lib.NoAny s.data.toList chars.data.toList i))
 case atStart => exact ⟨0, Nat.zero_le _, by omega, START.out.1, START.out.2, Lib.NoAny.zero _ _⟩
 case round =>
  obtain ⟨i, hi1, hi2, hit, hbl, hno⟩ := hrel.out
  have HN := Lib.hid hno
  have HI := Lib.hid hit
  have HB := Lib.hid hbl
  clear hno hrel hbl START
  by_cases hi : i < s.size
  ·obtain ⟨x, hx⟩ : ∃ x : UInt8, s[i]'hi = x := ⟨_, rfl⟩
   have hxl : s.data.toList[i]? = some x := by rw [← hx]; exact Lib.data_getElem? s i hi
   cases gk with
   | zero => exact absurd hi (by omega)
   | succ g =>
    by_cases h128 : x.toNat < 128
    ·have hnx := fun ty => run_next_ascii_at (P := Tryz.prog) wr w'.heap.size s i ty hit hi (by rw [hx]; exact h128)
     rw [hx] at hnx
     have NEXT : Hid ((wr.iterAt w'.heap.size s (i + 1)).heap[w'.heap.size]? = some (.stringIter s (i + 1)) ∧ Below w'.heap.size w' (wr.iterAt w'.heap.size s (i + 1))) := And.intro (iterAt_heap _ _ _ _ _ hit) (below_iterAt HB.out (Nat.le_refl _) _ _)
     generalize wr.iterAt w'.heap.size s (i + 1) = wn at *
     have kr := fun w => KA.out x w h128
     rw [show ((x.toNat : Int)).toNat.toUInt8 = x by simp] at kr
     have hcon := Lib.contains_iff_indexByte chars.data.toList x
     have HX := Lib.hid hxl
     clear hxl hx hit
     obtain ⟨q, hq⟩ : ∃ q : Int, indexByte chars.data.toList x = q := ⟨_, rfl⟩
     rw [hq] at kr hcon
     clear hq
     cases hin : chars.data.toList.contains x
     ·rw [hin] at hcon
      have hlt : ¬ ((0 : Int) ≤ q) := of_decide_eq_false hcon.symm
      have HIN := Lib.hid hin
      clear hcon hin
      go_wp2_with (go_at_call 158; refine (kr _).mono ?_; rintro e w2 ⟨rfl, rfl⟩)
      go_roundg g
      case measure => omega
      case rel => exact ⟨i + 1, by omega, by omega, NEXT.out.1, NEXT.out.2, HN.out.succ HX.out HIN.out⟩
     ·rw [hin] at hcon
      have hge : (0 : Int) ≤ q := of_decide_eq_true hcon.symm
      have HIN := Lib.hid hin
      clear hcon hin
      go_wp2_with (go_at_call 158; refine (kr _).mono ?_; rintro e w2 ⟨rfl, rfl⟩)
      go_ret
      exact ⟨by rw [HHIT.out i x HN.out HX.out HIN.out]; rfl, NEXT.out.2⟩
    ·obtain ⟨d1, d2, d3⟩ := decode_wide s i hi (by rw [hx]; omega)
     obtain ⟨d4, d5⟩ := decode_high s i hi (by rw [hx]; omega)
     have d6 := decode_le s i
     have hnx := fun ty => run_next_any_at (P := Tryz.prog) wr w'.heap.size s i ty hit hi
     have hskip : Lib.NoAny s.data.toList chars.data.toList (i + (Utf8.decode s i).2) := noAny_skip HN.out fun k b hk hb => by
      have hlt : i + k < s.size := by omega
      have h1 := d3 k hk hlt
      have h2 := Lib.data_getElem? s (i + k) hlt
      rw [hb] at h2
      rw [← Option.some.inj h2] at h1
      cases hc : chars.data.toList.contains b
      ·rfl
      ·obtain ⟨j, hj⟩ := List.mem_iff_getElem?.1 (List.contains_iff_mem.1 hc)
       have := HA.out j b hj
       omega
     have NEXT : Hid ((wr.iterAt w'.heap.size s (i + (Utf8.decode s i).2)).heap[w'.heap.size]? = some (.stringIter s (i + (Utf8.decode s i).2)) ∧ Below w'.heap.size w' (wr.iterAt w'.heap.size s (i + (Utf8.decode s i).2))) := And.intro (iterAt_heap _ _ _ _ _ hit) (below_iterAt HB.out (Nat.le_refl _) _ _)
     generalize wr.iterAt w'.heap.size s (i + (Utf8.decode s i).2) = wn at *
     have kr := fun w => KH.out (Utf8.decode s i).1 w d4 d6
     have HS := Lib.hid hskip
     clear d3 hskip hxl hx hit
     generalize (Utf8.decode s i).1 = r at *
     generalize (Utf8.decode s i).2 = n at *
     have hlt : w'.heap.size < wn.heap.size := by
      have := (Array.getElem?_eq_some_iff.1 NEXT.out.1).1
      exact this
     have THEN := Lib.hid (fun (w2 : World) (h : Below wn.heap.size wn w2) => And.intro ((h.block _ hlt).trans NEXT.out.1) (NEXT.out.2.trans (h.mono (Nat.le_of_lt hlt))))
     go_wp2_with (go_at_call 158; refine (kr _).mono ?_; rintro e w2 ⟨rfl, hb2⟩; have HT := Lib.hid (THEN.out _ hb2); clear hb2)
     go_roundg g
     case measure => omega
     case rel => exact ⟨i + n, by omega, by omega, HT.out.1, HT.out.2, HS.out⟩
  ·obtain rfl : i = s.size := by omega
   have hnx := fun ty => run_next_end_at (P := Tryz.prog) wr w'.heap.size s s.size ty hit hi
   clear hit
   go_wp2
   go_ret
   exact ⟨by rw [HNONE.out (by rw [← HSZ.out]; exact HN.out)]; rfl, HB.out⟩
theorem indexAny_any (s chars : ByteArray) (w : World) (h2 : 2 ≤ chars.size) (hcs : chars.size ≤ 1000) (hs : s.size ≤ 1048576) (ha : AsciiB chars) :
  Calls Tryz.prog 135 #[.string s, .string chars] w fun e w' => e = .returned (.int .i64 (Lib.indexAny s.data.toList chars.data.toList)) ∧ Below w.heap.size w w' := by
 by_cases h8 : s.size ≤ 8
 ·exact indexAny_few s chars w h2 hcs h8 ha
 ·refine (Tryz.strings_IndexAny_long (fun w => by kernel_rfl) s chars w h2 (by omega) (by omega) (by omega) ha).mono ?_
  rintro e w' ⟨rfl, rfl⟩
  exact ⟨rfl, ((Below.refl _ w).alloc (Nat.le_refl _) _).alloc (by simp) _⟩
end Go.Proofs.YtelfgobjnibooaaGreatDoor
namespace Go.Proofs.YtelfgobjnibooaaGreatDoor
open Go.RowKit Go.Lib
def Rs (p : Nat) (l : List UInt8) (sg : Value) (d : Nat) (w : World) : Prop := w.heap[p]? = some (.cells #[.string ⟨l.toArray⟩, sg, .int .i64 (d : Int)] 62 (0, 0))
structure Mvd (p : Nat) (w w' : World) : Prop where
 low : Below p w w'
 high : ∀ g, g ≠ p → g < w.heap.size → w'.heap[g]? = w.heap[g]?
theorem Mvd.refl (p : Nat) (w : World) : Mvd p w w := ⟨Below.refl _ _, fun _ _ _ => rfl⟩
theorem Mvd.trans {p : Nat} {a b c : World} (h : Mvd p a b) (k : Mvd p b c) : Mvd p a c := ⟨h.low.trans k.low, fun g hg hs => (k.high g hg (Nat.lt_of_lt_of_le hs h.low.size)).trans (h.high g hg hs)⟩
theorem Mvd.of {p : Nat} {w w' : World} (h : Below w.heap.size w w') (hp : p < w.heap.size) : Mvd p w w' := ⟨h.mono (Nat.le_of_lt hp), fun g _ hs => h.block g hs⟩
theorem Mvd.set (p i : Nat) (v : Value) (w : World) : Mvd p w (w.setCell ⟨p, i, none⟩ v) := ⟨(Below.refl _ w).setCell (p := ⟨p, i, none⟩) (Nat.le_refl _) v, fun _g hg _ => Below.heap_setCell _ _ _ _ hg⟩
theorem Mvd.size {p : Nat} {w w' : World} (h : Mvd p w w') : w.heap.size ≤ w'.heap.size := h.low.size
theorem Mvd.draw {p : Nat} {a w : World} (h : Mvd p a w) : Mvd p a w.drew := ⟨h.low.drew, h.high⟩
theorem Mvd.draws {p : Nat} {a w : World} (h : Mvd p a w) (n : Nat) : Mvd p a (w.drewN n) := ⟨below_draws h.low n, h.high⟩
theorem Mvd.alloc {p : Nat} {a w : World} (h : Mvd p a w) (o : Obj) (hp : p < a.heap.size) : Mvd p a (w.alloc o) := h.trans (Mvd.of ((Below.refl _ w).alloc (Nat.le_refl _) _) (Nat.lt_of_lt_of_le hp h.size))
theorem Mvd.own {p g : Nat} {a w : World} (h : Mvd p a w) (hg : a.heap.size ≤ g) (hp : p < a.heap.size) (i : Nat) (v : Value) : Mvd p a (w.setCell ⟨g, i, none⟩ v) :=
 ⟨h.low.setCell (p := ⟨g, i, none⟩) (by show p ≤ g; omega) v, fun k hk hs => (Below.heap_setCell _ _ _ _ (by show k ≠ g; omega)).trans (h.high k hk hs)⟩
theorem heap_ltS {w : World} {b : Nat} {o : Obj} (h : w.heap[b]? = some o) : b < w.heap.size := by
 by_cases hl : b < w.heap.size
 ·exact hl
 ·rw [Array.getElem?_eq_none (Nat.le_of_not_lt hl)] at h; cases h
theorem Rs.lt {p : Nat} {l : List UInt8} {sg : Value} {d : Nat} {w : World} (h : Rs p l sg d w) : p < w.heap.size := heap_ltS h
theorem Rs.cells {p : Nat} {l : List UInt8} {sg : Value} {d : Nat} {w : World} (h : Rs p l sg d w) :
  w.cell? ⟨p, 0, none⟩ = some (.string ⟨l.toArray⟩) ∧ w.cell? ⟨p, 1, none⟩ = some sg ∧ w.cell? ⟨p, 2, none⟩ = some (.int .i64 (d : Int)) ∧ w.frozen? ⟨p, 0, none⟩ = false ∧ w.frozen? ⟨p, 1, none⟩ = false ∧ w.frozen? ⟨p, 2, none⟩ = false := by
 unfold Rs at h
 refine ⟨by rw [cell_of_heap h]; rfl, by rw [cell_of_heap h]; rfl, by rw [cell_of_heap h]; rfl, frozen_of_heap h _, frozen_of_heap h _, frozen_of_heap h _⟩
theorem Rs.cell {p : Nat} {l : List UInt8} {sg : Value} {d : Nat} {w : World} (h : Rs p l sg d w) : w.cell? ⟨p, 0, none⟩ = some (.string ⟨l.toArray⟩) ∧ w.frozen? ⟨p, 0, none⟩ = false := ⟨h.cells.1, h.cells.2.2.2.1⟩
theorem Rs.put {p : Nat} {l : List UInt8} {sg : Value} {d : Nat} {w : World} (h : Rs p l sg d w) (m : List UInt8) : Rs p m sg d (w.setCell ⟨p, 0, none⟩ (.string ⟨m.toArray⟩)) := by
 have h := heap_setCell_same w p 0 _ _ (.string ⟨m.toArray⟩) h
 simpa [Rs] using h
theorem Rs.deep {p : Nat} {l : List UInt8} {sg : Value} {d : Nat} {w : World} (h : Rs p l sg d w) (e : Nat) : Rs p l sg e (w.setCell ⟨p, 2, none⟩ (.int .i64 (e : Int))) := by
 have h := heap_setCell_same w p 2 _ _ (.int .i64 (e : Int)) h
 simpa [Rs] using h
theorem Rs.same {p : Nat} {l : List UInt8} {sg : Value} {d : Nat} {w w' : World} (h : Rs p l sg d w) (hb : w'.heap[p]? = w.heap[p]?) : Rs p l sg d w' := hb.trans h
theorem Rs.below {p : Nat} {l : List UInt8} {sg : Value} {d : Nat} {w w' : World} (h : Rs p l sg d w) (hb : Below w.heap.size w w') : Rs p l sg d w' := (hb.block p h.lt).trans h
theorem Rs.moved {p q : Nat} {l : List UInt8} {sg : Value} {d : Nat} {w w' : World} (h : Rs p l sg d w) (hm : Mvd q w w') (hq : p ≠ q) : Rs p l sg d w' := (hm.high p hq h.lt).trans h
def errS (e : Int) : Ending := .panicked [{ v := .iface 31 (.int .i64 e), recovered := false }]
theorem fullS (c : UInt8) (l : List UInt8) : (⟨(c :: l).toArray⟩ : ByteArray).toList.isEmpty = false := by rw [toList_data]; rfl
theorem emptyS : (⟨([] : List UInt8).toArray⟩ : ByteArray).toList.isEmpty = true := by rw [toList_data]; rfl
theorem isEmptyS (l : List UInt8) : (⟨l.toArray⟩ : ByteArray).toList.isEmpty = l.isEmpty := by cases l with | nil => exact emptyS | cons c l => exact fullS c l
theorem sizeS (l : List UInt8) : (⟨l.toArray⟩ : ByteArray).size = l.length := by simp [ByteArray.size]
theorem extract_fromS (l : List UInt8) (i m : Nat) (h : l.length ≤ m) : (⟨l.toArray⟩ : ByteArray).extract i m = ⟨(l.drop i).toArray⟩ := by
 apply ByteArray.ext
 rw [ByteArray.data_extract]
 apply Array.ext'
 simp only [List.extract_toArray, List.extract_eq_drop_take']
 rw [List.take_of_length_le (by simpa using h)]
theorem extract_toS (l : List UInt8) (k : Nat) : (⟨l.toArray⟩ : ByteArray).extract 0 k = ⟨(l.take k).toArray⟩ := by
 apply ByteArray.ext
 rw [ByteArray.data_extract]
 apply Array.ext'
 simp only [List.extract_toArray, List.extract_eq_drop_take', List.toList_toArray]
 simp
theorem byteS {S : ByteArray} {l : List UInt8} (hS : S = ⟨l.toArray⟩) {i : Nat} (h : i < S.size) {c : UInt8} (hc : l[i]? = some c) : S[i]'h = c := by
 subst hS
 have := Lib.data_getElem? ⟨l.toArray⟩ i h
 rw [show (⟨l.toArray⟩ : ByteArray).data.toList = l from rfl, hc] at this
 exact (Option.some.inj this).symm
theorem contains_indexS (l : List UInt8) (c : UInt8) : decide (0 ≤ indexByte l c) = l.contains c := by
 rw [Bool.eq_iff_iff]
 simp only [decide_eq_true_eq, List.contains_iff_mem]
 constructor
 ·intro h
  obtain ⟨o, ho⟩ := Int.eq_ofNat_of_zero_le h
  exact List.mem_of_getElem? (indexByte_some ho).1
 ·intro h
  obtain ⟨k, hk⟩ := List.mem_iff_getElem?.1 h
  have hg := indexByte_ge l c
  by_cases hn : indexByte l c = -1
  ·exact absurd hk (indexByte_none hn k)
  ·omega
theorem indexByteS (of : List UInt8) (a : UInt8) (w : World) : Calls Tryz.prog 102 #[.string ⟨of.toArray⟩, .int .u8 (a.toNat : Int)] w fun e w' => e = .returned (.int .i64 (indexByte of a)) ∧ w' = w := by
 have h := Tryz.strings_IndexByte ⟨of.toArray⟩ (a.toNat : Int) w
 rwa [show (a.toNat : Int).toNat.toUInt8 = a by simp] at h
set_option maxHeartbeats 1000000 in
set_option maxRecDepth 20000 in
theorem atS_any (p : Nat) (of l : List UInt8) (sg : Value) (d : Nat) (w : World) (h : Rs p l sg d w) :
  Calls Tryz.prog 74 #[.pointer (some ⟨p, 0, none⟩), .string ⟨of.toArray⟩] w fun e w' => e = .returned (.bool (atS of l)) ∧ w' = w := by
 obtain ⟨c1, f1⟩ := h.cell
 obtain ⟨S, hS⟩ : ∃ S : ByteArray, S = ⟨l.toArray⟩ := ⟨_, rfl⟩
 rw [← hS] at c1
 cases l with
 | nil =>
  have hE : S.toList.isEmpty = true := by rw [hS]; exact emptyS
  clear hS h
  generalize (⟨of.toArray⟩ : ByteArray) = O
  show Calls _ _ _ _ fun e w' => e = .returned (.bool false) ∧ w' = w
  go_enter Tryz.func74, Tryz.ntmps74
  go_wp2
  exact bodyPost_ret (results_tmp rfl _ _ _) rfl ⟨rfl, rfl⟩
 | cons a l =>
  have hE : S.toList.isEmpty = false := by rw [hS]; exact fullS a l
  have hz : S.size = l.length + 1 := by rw [hS, sizeS]; rfl
  have hs : 0 < S.size := by omega
  have hb : S[0] = a := byteS hS hs rfl
  have k := indexByteS of a
  have hg := contains_indexS of a
  obtain ⟨i, hi⟩ : ∃ i, i = indexByte of a := ⟨_, rfl⟩
  rw [← hi] at k hg
  have hbg : atS of (a :: l) = of.contains a := rfl
  rw [hbg, ← hg]
  clear hS h hi hg hbg
  generalize (⟨of.toArray⟩ : ByteArray) = O at k
  go_enter Tryz.func74, Tryz.ntmps74
  go_wp2_with (go_at_call 102; refine (k _).mono ?_; rintro e w1 ⟨rfl, rfl⟩)
  exact bodyPost_ret (results_tmp rfl _ _ _) rfl ⟨rfl, rfl⟩
set_option maxHeartbeats 1000000 in
set_option maxRecDepth 20000 in
theorem takeS_yes (p : Nat) (t l r : List UInt8) (sg : Value) (d : Nat) (w : World) (h : Rs p l sg d w) (_hl : l.length ≤ 1048576) (ht : takeS t l = some r) :
  Calls Tryz.prog 103 #[.pointer (some ⟨p, 0, none⟩), .string ⟨t.toArray⟩] w fun e w' => e = .returned (.bool true) ∧ Rs p r sg d w' ∧ Mvd p w w' := by
 obtain ⟨c1, f1⟩ := h.cell
 have h2 := h.put r
 have hB := Mvd.set p 0 (.string ⟨r.toArray⟩) w
 have kp := fun w => Tryz.strings_HasPrefix ⟨l.toArray⟩ ⟨t.toArray⟩ w
 have e1 := takeS_some ht
 have hp : hasPrefix (⟨l.toArray⟩ : ByteArray).data.toList (⟨t.toArray⟩ : ByteArray).data.toList = true := List.isPrefixOf_iff_prefix.2 (by rw [e1]; exact List.prefix_append _ _)
 rw [hp] at kp
 have hz : (⟨t.toArray⟩ : ByteArray).size = t.length := sizeS t
 have hz2 : (⟨l.toArray⟩ : ByteArray).size = l.length := sizeS l
 have hlen := takeS_len ht
 have hE : (⟨l.toArray⟩ : ByteArray).extract t.length l.length = ⟨r.toArray⟩ := by
  rw [extract_fromS l _ _ (Nat.le_refl _), e1, List.drop_left]
 obtain ⟨n, hn⟩ : ∃ n, n = t.length := ⟨_, rfl⟩
 obtain ⟨m, hm⟩ : ∃ m, m = l.length := ⟨_, rfl⟩
 rw [← hn] at hz hE hlen
 rw [← hm] at hz2 hE hlen
 have hle : n ≤ m := by omega
 have HB := Lib.hid (And.intro h2 hB)
 clear h2 hB h hp e1 ht hn hm
 generalize (⟨l.toArray⟩ : ByteArray) = S at *
 generalize (⟨t.toArray⟩ : ByteArray) = T at *
 generalize (⟨r.toArray⟩ : ByteArray) = R at *
 have hle2 : (T.size : Int) ≤ (S.size : Int) := by omega
 have hE2 : S.extract T.size S.size = R := by rw [hz, hz2]; exact hE
 clear hE hz hz2 hle hlen
 go_enter Tryz.func103, Tryz.ntmps103
 go_wp2_with (go_at_call 98; refine (kp _).mono ?_; rintro e w1 ⟨rfl, rfl⟩)
 try rw [hE2]
 exact bodyPost_ret (results_tmp rfl _ _ _) rfl ⟨rfl, HB.out.1, HB.out.2⟩
set_option maxHeartbeats 1000000 in
set_option maxRecDepth 20000 in
theorem takeS_no (p : Nat) (t l : List UInt8) (sg : Value) (d : Nat) (w : World) (h : Rs p l sg d w) (ht : takeS t l = none) :
  Calls Tryz.prog 103 #[.pointer (some ⟨p, 0, none⟩), .string ⟨t.toArray⟩] w fun e w' => e = .returned (.bool false) ∧ w' = w := by
 obtain ⟨c1, f1⟩ := h.cell
 have kp := fun w => Tryz.strings_HasPrefix ⟨l.toArray⟩ ⟨t.toArray⟩ w
 have hp : hasPrefix (⟨l.toArray⟩ : ByteArray).data.toList (⟨t.toArray⟩ : ByteArray).data.toList = false := by
  show t.isPrefixOf l = false
  unfold takeS at ht
  cases hh : t.isPrefixOf l
  ·rfl
  ·rw [hh] at ht; cases ht
 rw [hp] at kp
 clear h hp ht
 generalize (⟨l.toArray⟩ : ByteArray) = S at *
 generalize (⟨t.toArray⟩ : ByteArray) = T at *
 go_enter Tryz.func103, Tryz.ntmps103
 go_wp2_with (go_at_call 98; refine (kp _).mono ?_; rintro e w1 ⟨rfl, rfl⟩)
 exact bodyPost_ret (results_tmp rfl _ _ _) rfl ⟨rfl, rfl⟩
set_option maxHeartbeats 1000000 in
set_option maxRecDepth 20000 in
theorem cutS_any (p m : Nat) (l : List UInt8) (sg : Value) (d : Nat) (w : World) (h : Rs p l sg d w) (hm : m ≤ l.length) (_hl : l.length ≤ 1048576) :
  Calls Tryz.prog 162 #[.pointer (some ⟨p, 0, none⟩), .int .i64 (m : Int)] w fun e w' => e = .returned (.string ⟨(l.take m).toArray⟩) ∧ Rs p (l.drop m) sg d w' ∧ Mvd p w w' := by
 obtain ⟨c1, f1⟩ := h.cell
 have h2 := h.put (l.drop m)
 have hB := Mvd.set p 0 (.string ⟨(l.drop m).toArray⟩) w
 have hz2 : (⟨l.toArray⟩ : ByteArray).size = l.length := sizeS l
 have hE := extract_fromS l m l.length (Nat.le_refl _)
 have hE2 := extract_toS l m
 obtain ⟨n, hn⟩ : ∃ n, n = l.length := ⟨_, rfl⟩
 rw [← hn] at hz2 hE hm
 have HB := Lib.hid (And.intro h2 hB)
 clear h2 hB h hn
 generalize (⟨l.toArray⟩ : ByteArray) = S at *
 generalize (⟨(l.take m).toArray⟩ : ByteArray) = T at *
 generalize (⟨(l.drop m).toArray⟩ : ByteArray) = R at *
 have hle2 : (m : Int) ≤ (S.size : Int) := by omega
 rw [← hz2] at hE
 clear hz2 hm
 go_enter Tryz.func162, Tryz.ntmps162
 go_wp2
 try rw [hE]
 try rw [hE2]
 exact bodyPost_ret (results_tmp rfl _ _ _) rfl ⟨rfl, HB.out.1, HB.out.2⟩
end Go.Proofs.YtelfgobjnibooaaGreatDoor
namespace Go.Proofs.YtelfgobjnibooaaGreatDoor
open Go.RowKit Go.Lib
theorem run_len_cons (of : List UInt8) (c : UInt8) (l : List UInt8) : (runS of (c :: l)).length = if of.contains c then 0 else (runS of l).length + 1 := by
 unfold runS
 rw [List.takeWhile_cons]
 cases of.contains c <;> rfl
theorem indexAny_run (of : List UInt8) : ∀ l : List UInt8, indexAny l of = if (runS of l).length < l.length then ((runS of l).length : Int) else -1
 | [] => rfl
 | c :: l => by
  have ih := indexAny_run of l
  have hle : (runS of l).length ≤ l.length := (List.takeWhile_sublist _).length_le
  unfold indexAny
  rw [run_len_cons, List.length_cons, ih]
  generalize (runS of l).length = n at *
  cases hc : of.contains c
  ·simp only [Bool.false_eq_true, if_false, beq_iff_eq]
   by_cases h2 : n < l.length
   ·simp only [h2, if_true]
    have h3 : n + 1 < l.length + 1 := by omega
    simp only [h3, if_true]
    have h4 : ¬ ((n : Int) = -1) := by omega
    simp only [h4, if_false]
    omega
   ·simp only [h2, if_false]
    have h3 : ¬ n + 1 < l.length + 1 := by omega
    simp only [h3, if_false, if_true]
  ·simp only [if_true]
   rw [if_pos (by omega)]
   rfl
def okOf (of : List UInt8) : Bool := !of.isEmpty && decide (of.length ≤ 1000) && of.all fun c => decide (c.toNat < 128)
theorem okOf_ascii {of : List UInt8} (h : okOf of = true) : AsciiB ⟨of.toArray⟩ ∧ 1 ≤ of.length ∧ of.length ≤ 1000 := by
 unfold okOf at h
 rw [Bool.and_eq_true, Bool.and_eq_true, decide_eq_true_eq, List.all_eq_true] at h
 refine ⟨fun j b hj => ?_, ?_, h.1.2⟩
 ·have := h.2 b (List.mem_of_getElem? hj)
  exact of_decide_eq_true this
 ·cases of with
  | nil => simp at h
  | cons a r => simp
theorem indexAnyS (of l : List UInt8) (w : World) (ho : okOf of = true) (hl : l.length ≤ 1048576) :
  Calls Tryz.prog 135 #[.string ⟨l.toArray⟩, .string ⟨of.toArray⟩] w fun e w' => e = .returned (.int .i64 (indexAny l of)) ∧ Below w.heap.size w w' := by
 obtain ⟨h1, h2, h3⟩ := okOf_ascii ho
 by_cases h4 : of.length = 1
 ·refine (Tryz.strings_IndexAny_one ⟨l.toArray⟩ ⟨of.toArray⟩ w (by rw [sizeS]; exact h4) h1).mono ?_
  rintro e w' ⟨rfl, rfl⟩
  exact ⟨rfl, Below.refl _ _⟩
 ·exact indexAny_any ⟨l.toArray⟩ ⟨of.toArray⟩ w (by rw [sizeS]; omega) (by rw [sizeS]; omega) (by rw [sizeS]; omega) h1
set_option maxHeartbeats 1000000 in
set_option maxRecDepth 20000 in
theorem untilS_any (p : Nat) (of l : List UInt8) (sg : Value) (d : Nat) (w : World) (h : Rs p l sg d w) (ho : okOf of = true) (hl : l.length ≤ 1048576) :
  Calls Tryz.prog 101 #[.pointer (some ⟨p, 0, none⟩), .string ⟨of.toArray⟩] w fun e w' => e = .returned (.int .i64 ((runS of l).length : Int)) ∧ Below w.heap.size w w' := by
 obtain ⟨c1, f1⟩ := h.cell
 have k := indexAnyS of l w ho hl
 have hi := indexAny_run of l
 have hle : (runS of l).length ≤ l.length := (List.takeWhile_sublist _).length_le
 have CEL := Lib.hid (fun (w1 : World) (hb : Below w.heap.size w w1) => (h.below hb).cell.1)
 have hz := sizeS l
 by_cases hlt : (runS of l).length < l.length
 ·rw [if_pos hlt] at hi
  rw [hi] at k
  clear h hi hz
  generalize (⟨l.toArray⟩ : ByteArray) = S at *
  generalize (⟨of.toArray⟩ : ByteArray) = O at *
  generalize (runS of l).length = m at *
  have h0 : (0 : Int) ≤ (m : Int) := by omega
  go_enter Tryz.func101, Tryz.ntmps101
  go_wp2_with (go_at_call 135; (with_reducible refine k.mono ?_); rintro e w1 ⟨rfl, hb⟩)
  exact bodyPost_ret (results_tmp rfl _ _ _) rfl ⟨rfl, hb⟩
 ·rw [if_neg hlt] at hi
  rw [hi] at k
  have hm : (runS of l).length = l.length := by omega
  rw [hm, ← hz]
  clear h hi hz hm hlt hle
  generalize (⟨l.toArray⟩ : ByteArray) = S at *
  generalize (⟨of.toArray⟩ : ByteArray) = O at *
  go_enter Tryz.func101, Tryz.ntmps101
  go_wp2_with (go_at_call 135; (with_reducible refine k.mono ?_); rintro e w1 ⟨rfl, hb⟩; have d0 := CEL.out w1 hb)
  exact bodyPost_ret (results_tmp rfl _ _ _) rfl ⟨rfl, hb⟩
theorem white_trim (l : List UInt8) : trimLeftS l [32, 9] = l.dropWhile whiteS := by
 unfold trimLeftS
 congr 1
 funext c
 unfold whiteS
 cases h1 : c == 32 <;> cases h2 : c == 9 <;> simp_all
theorem trimSh_any (l : List UInt8) (w : World) :
  Calls Tryz.prog 100 #[.string ⟨l.toArray⟩, .string ⟨#[32, 9]⟩] w fun e w' => e = .returned (.string ⟨(l.dropWhile whiteS).toArray⟩) ∧ Below w.heap.size w w' := by
 have h := Any.strings_TrimLeft_laid Tryz.lays161 (by kernel_rfl) ⟨l.toArray⟩ ⟨#[32, 9]⟩ w (by decide) (ascii_of_all (by decide))
 refine Calls.mono h ?_
 rintro e w' ⟨rfl, hb⟩
 refine ⟨?_, hb⟩
 rw [← white_trim]
theorem past_drop (of l : List UInt8) : l.drop (runS of l).length = pastS of l := by
 have h := run_past of l
 conv => lhs; rw [← h]
 rw [show (runS of (runS of l ++ pastS of l)) = runS of l by rw [h], List.drop_left]
theorem run_take (of l : List UInt8) : l.take (runS of l).length = runS of l := by
 have h := run_past of l
 conv => lhs; rw [← h]
 rw [show (runS of (runS of l ++ pastS of l)) = runS of l by rw [h], List.take_left]
set_option maxHeartbeats 2000000 in
set_option maxRecDepth 20000 in
theorem gapS_any (p : Nat) (l : List UInt8) (sg : Value) (d : Nat) (w : World) (h : Rs p l sg d w) (hl : l.length ≤ 1048576) :
  Calls Tryz.prog 73 #[.pointer (some ⟨p, 0, none⟩)] w fun e w' => e = .returned (.tuple #[]) ∧ Rs p (gapS l) sg d w' ∧ Mvd p w w' := by
 obtain ⟨c1, f1⟩ := h.cell
 have k := trimSh_any l w
 have hle := dropS_len whiteS l
 have hpl := h.lt
 have eg : gapS l = remS (l.dropWhile whiteS) := rfl
 rw [eg]
 clear eg
 obtain ⟨m, hm⟩ : ∃ m, m = l.dropWhile whiteS := ⟨_, rfl⟩
 rw [← hm] at k hle ⊢
 clear hm
 have CEL := Lib.hid (fun (w1 : World) (hb : Below w.heap.size w w1) => (h.below hb).cell)
 have PUT := Lib.hid (fun (w1 : World) (hb : Below w.heap.size w w1) => And.intro ((h.below hb).put m) ((Mvd.of hb hpl).trans (Mvd.set p 0 (.string ⟨m.toArray⟩) w1)))
 have ka := fun w1 h1 => atS_any p [35] m sg d w1 h1
 have ku := fun w1 h1 => untilS_any p [10] m sg d w1 h1 (by decide) (by omega)
 have PAST := Lib.hid (fun (w1 w2 : World) (h1 : Rs p m sg d w1) (hb : Below w1.heap.size w1 w2) => And.intro ((h1.below hb).put (pastS [10] m)) ((Mvd.of hb h1.lt).trans (Mvd.set p 0 (.string ⟨(pastS [10] m).toArray⟩) w2)))
 have CEL2 := Lib.hid (fun (w1 : World) (h1 : Rs p m sg d w1) => h1.cell)
 have hex : (⟨m.toArray⟩ : ByteArray).extract (runS [10] m).length (⟨m.toArray⟩ : ByteArray).size = ⟨(pastS [10] m).toArray⟩ := by
  rw [extract_fromS m _ _ (by rw [sizeS]; exact Nat.le_refl _), past_drop]
 have hrm := run_past_len [10] m
 have hsz := sizeS m
 have er : remS m = if atS [35] m then pastS [10] m else m := rfl
 obtain ⟨G, hG⟩ : ∃ G, G = remS m := ⟨_, rfl⟩
 rw [← hG] at er ⊢
 clear hG
 generalize (runS [10] m).length = r at *
 generalize (⟨l.toArray⟩ : ByteArray) = S at *
 generalize (⟨m.toArray⟩ : ByteArray) = U at *
 obtain ⟨R, hR⟩ : ∃ R : ByteArray, R = ⟨(pastS [10] m).toArray⟩ := ⟨_, rfl⟩
 rw [← hR] at hex PAST
 have hrU : (r : Int) ≤ (U.size : Int) := by omega
 have hr0 : (0 : Int) ≤ (r : Int) := by omega
 clear hR hsz hrm hle h
 cases hq : atS [35] m
 ·rw [hq] at ka er
  simp only [Bool.false_eq_true, if_false] at er
  subst er
  go_enter Tryz.func73, Tryz.ntmps73
  go_wp2_with (first
   | (go_at_call 100; (with_reducible refine k.mono ?_); rintro e w1 ⟨rfl, hb⟩; obtain ⟨d0, g0⟩ := CEL.out w1 hb; have HP := Lib.hid (PUT.out w1 hb); clear hb)
   | (go_at_call 74; refine (ka _ HP.out.1).mono ?_; rintro e w2 ⟨rfl, rfl⟩))
  go_end0
  exact ⟨rfl, HP.out.1, HP.out.2⟩
 ·rw [hq] at ka er
  simp only [if_true] at er
  subst er
  go_enter Tryz.func73, Tryz.ntmps73
  go_upto_region 2 with (first
   | (go_at_call 100; (with_reducible refine k.mono ?_); rintro e w1 ⟨rfl, hb⟩; obtain ⟨d0, g0⟩ := CEL.out w1 hb; have HP := Lib.hid (PUT.out w1 hb); clear hb)
   | (go_at_call 74; refine (ka _ HP.out.1).mono ?_; rintro e w2 ⟨rfl, hw2⟩; rw [← hw2] at HP; clear hw2))
  obtain ⟨d1, g1⟩ := CEL2.out w2 HP.out.1
  have CB := Lib.hid (fun (w3 : World) (hb : Below w2.heap.size w2 w3) => CEL2.out w3 (HP.out.1.below hb))
  go_region_law (go_simp; go_at_call 101; (with_reducible refine (ku _ (HP.out.1.below (Below.refl _ w2).drew)).mono ?_); rintro e w4 ⟨rfl, hb4⟩; have hb5 : Below w2.heap.size w2 w4 := ((Below.refl _ w2).drew).trans hb4; obtain ⟨d4, g4⟩ := CB.out _ hb5; have HB2 := Lib.hid hb5; clear hb4 hb5)
  all_goals
   go_end0
   exact ⟨rfl, (PAST.out w2 w4 HP.out.1 HB2.out).1, HP.out.2.trans (PAST.out w2 w4 HP.out.1 HB2.out).2⟩
def skipG (of : List UInt8) : List UInt8 → List UInt8
 | [] => []
 | c :: r => if of.contains c then skipS of r else c :: r
theorem skipS_G (of l : List UInt8) : skipS of l = skipG of (gapS l) := by
 rw [skipS_eq]
 cases gapS l <;> rfl
theorem skipG_no {of m : List UInt8} (h : atS of m = false) : skipG of m = m := by
 cases m with
 | nil => rfl
 | cons c r => exact if_neg (by intro e; rw [show atS of (c :: r) = of.contains c from rfl, e] at h; cases h)
def SkipI (p : Nat) (of l : List UInt8) (sg : Value) (d : Nat) (w : World) (g : Nat) (v : Value) (wr : World) : Prop :=
 ∃ (m : List UInt8) (b : Bool), v = .bool b ∧ Rs p m sg d wr ∧ Mvd p w wr ∧ skipG of m = skipS of l ∧ m.length ≤ g ∧ m.length ≤ 1048576 ∧ (b = false ∧ m = gapS l ∨ b = true ∧ wasS of l = true)
set_option maxHeartbeats 2000000 in
set_option maxRecDepth 20000 in
theorem skipS_any (p : Nat) (of l : List UInt8) (sg : Value) (d : Nat) (w : World) (h : Rs p l sg d w) (hl : l.length ≤ 1048576) :
  Calls Tryz.prog 47 #[.pointer (some ⟨p, 0, none⟩), .string ⟨of.toArray⟩] w fun e w' => e = .returned (.bool (wasS of l)) ∧ Rs p (skipS of l) sg d w' ∧ Mvd p w w' := by
 have k := gapS_any p l sg d w h hl
 have hgl := gapS_len l
 have START := Lib.hid (fun (w1 : World) (h1 : Rs p (gapS l) sg d w1) (hm : Mvd p w w1) => (show SkipI p of l sg d w (gapS l).length (.bool false) w1 from ⟨gapS l, false, rfl, h1, hm, (skipS_G of l).symm, Nat.le_refl _, by omega, .inl ⟨rfl, rfl⟩⟩))
 have ka := fun m w1 (h1 : Rs p m sg d w1) => atS_any p of m sg d w1 h1
 have KA := Lib.hid ka
 clear ka h
 obtain ⟨O, hO⟩ : ∃ O : ByteArray, O = ⟨of.toArray⟩ := ⟨_, rfl⟩
 rw [← hO] at KA ⊢
 clear hO
 go_enter Tryz.func47, Tryz.ntmps47
 go_wp2_with (go_at_call 73; (with_reducible refine k.mono ?_); rintro e w1 ⟨rfl, h1, hm⟩; have HST := Lib.hid (START.out w1 h1 hm); clear h1 hm)
 go_loopg [5] (gapS l).length (fun g v wr => Hid (SkipI p of l sg d w g v wr))
 case atStart => exact HST.out
 case round =>
  obtain ⟨m, b, rfl, h1, hm, hG, hg, hl1, hb⟩ := hrel.out
  clear hrel HST
  have k1 := KA.out m wr h1
  obtain ⟨c1, f1⟩ := h1.cell
  cases hq : atS of m
  ·rw [hq] at k1
   have FIN : Hid (b = wasS of l ∧ Rs p (skipS of l) sg d wr ∧ Mvd p w wr) := by
    refine And.intro ?_ (And.intro ?_ hm)
    ·rcases hb with ⟨rfl, rfl⟩ | ⟨rfl, hw⟩
     ·exact hq.symm
     ·exact hw.symm
    ·rw [← hG, skipG_no hq]; exact h1
   clear hb hG h1 hm hq
   go_wp2_with (go_at_call 74; (with_reducible refine k1.mono ?_); rintro e w2 ⟨rfl, rfl⟩)
   refine bodyPost_ret (results_tmp rfl _ _ _) rfl ⟨?_, FIN.out.2.1, FIN.out.2.2⟩
   rw [← FIN.out.1]
   rfl
  ·rw [hq] at k1
   cases m with
   | nil => cases hq
   | cons c r =>
    have hw : wasS of l = true := by
     rcases hb with ⟨_, he⟩ | ⟨_, hw⟩
     ·rw [he] at hq; exact hq
     ·exact hw
    have hG2 : skipG of (gapS r) = skipS of l := by
     rw [← skipS_G, ← hG]
     have : of.contains c = true := hq
     exact (if_pos this).symm
    simp only [List.length_cons] at hg hl1
    have hgr := gapS_len r
    have hput := h1.put r
    have hmv := hm.trans (Mvd.set p 0 (.string ⟨r.toArray⟩) wr)
    have hex : (⟨(c :: r : List UInt8).toArray⟩ : ByteArray).extract 1 (⟨(c :: r : List UInt8).toArray⟩ : ByteArray).size = ⟨r.toArray⟩ := by
     rw [extract_fromS (c :: r) 1 _ (by rw [sizeS]; exact Nat.le_refl _)]; rfl
    have hsz : (⟨(c :: r : List UInt8).toArray⟩ : ByteArray).size = r.length + 1 := sizeS _
    have kg := gapS_any p r sg d _ hput (by omega)
    cases gk with
    | zero => omega
    | succ g =>
     have NEXT := Lib.hid (fun (w3 : World) (h3 : Rs p (gapS r) sg d w3) (h4 : Mvd p (wr.setCell ⟨p, 0, none⟩ (.string ⟨r.toArray⟩)) w3) => (show SkipI p of l sg d w g (.bool true) w3 from ⟨gapS r, true, rfl, h3, hmv.trans h4, hG2, by omega, by omega, .inr ⟨rfl, hw⟩⟩))
     generalize (⟨(c :: r : List UInt8).toArray⟩ : ByteArray) = S at *
     generalize (⟨r.toArray⟩ : ByteArray) = R at *
     have h1s : (1 : Int) ≤ (S.size : Int) := by omega
     clear hb hG h1 hm hq hput hmv hG2 hw hsz
     go_wp2_with (first
      | (go_at_call 74; (with_reducible refine k1.mono ?_); rintro e w2 ⟨rfl, rfl⟩)
      | (go_at_call 73; (with_reducible refine kg.mono ?_); rintro e w3 ⟨rfl, h3, h4⟩; have HN := Lib.hid (NEXT.out w3 h3 h4); clear h3 h4))
     go_roundg g
     case measure => omega
     case rel => exact HN.out
theorem until_marks (p : Nat) (l : List UInt8) (sg : Value) (d : Nat) (w : World) (h : Rs p l sg d w) (hl : l.length ≤ 1048576) :
  Calls Tryz.prog 101 #[.pointer (some ⟨p, 0, none⟩), .string ⟨#[32, 9, 59, 10, 39, 34, 36, 92, 124, 38, 60, 62, 40, 41, 96, 42, 63, 91, 93, 123, 125, 126]⟩] w fun e w' => e = .returned (.int .i64 ((runS shMarks l).length : Int)) ∧ Below w.heap.size w w' := untilS_any p shMarks l sg d w h (by decide) hl
set_option maxHeartbeats 2000000 in
set_option maxRecDepth 20000 in
theorem keyS_any (p : Nat) (l : List UInt8) (sg : Value) (d : Nat) (w : World) (h : Rs p l sg d w) (hl : l.length ≤ 1048576) :
  Calls Tryz.prog 75 #[.pointer (some ⟨p, 0, none⟩)] w fun e w' => e = .returned (.string ⟨(keyS l).toArray⟩) ∧ Below w.heap.size w w' := by
 have ku := fun w1 h1 => until_marks p l sg d w1 h1 hl
 have CEL := Lib.hid (fun (w1 : World) (hb : Below w.heap.size w w1) => (h.below hb).cell)
 have RSB := Lib.hid (fun (w1 : World) (hb : Below w.heap.size w w1) => h.below hb)
 have hrm := run_past_len shMarks l
 have hsz := sizeS l
 have htk : (⟨l.toArray⟩ : ByteArray).extract 0 (runS shMarks l).length = ⟨(runS shMarks l).toArray⟩ := by rw [extract_toS, run_take]
 have hwz := sizeS (runS shMarks l)
 have hpd := past_drop shMarks l
 obtain ⟨c1, f1⟩ := h.cell
 have ek : keyS l = if atS shOpens (pastS shMarks l) then [] else runS shMarks l := rfl
 rw [ek]
 cases hp : pastS shMarks l with
 | nil =>
  rw [hp] at hrm hpd
  have ea : atS shOpens [] = false := rfl
  rw [ea]
  simp only [Bool.false_eq_true, if_false]
  simp only [List.length_nil, Nat.add_zero] at hrm
  generalize (runS shMarks l).length = r at *
  generalize (⟨(runS shMarks l).toArray⟩ : ByteArray) = W at *
  generalize (⟨l.toArray⟩ : ByteArray) = S at *
  have hrU : (r : Int) ≤ (S.size : Int) := by omega
  have hr0 : (0 : Int) ≤ (r : Int) := by omega
  have hlt : ¬ (W.size : Int) < (S.size : Int) := by omega
  clear h ek hp hpd hrm hl hsz hwz
  go_enter Tryz.func75, Tryz.ntmps75
  go_upto_region 1 with fail
  go_region_law (go_simp; go_at_call 101; (with_reducible refine (ku _ (RSB.out _ (Below.refl _ w).drew)).mono ?_); rintro e w4 ⟨rfl, hb4⟩; have hb5 : Below w.heap.size w w4 := ((Below.refl _ w).drew).trans hb4; obtain ⟨d4, g4⟩ := CEL.out _ hb5; have HB2 := Lib.hid hb5; clear hb4 hb5)
  all_goals
   go_wp2
   exact bodyPost_ret (results_tmp rfl _ _ _) rfl ⟨rfl, HB2.out⟩
 | cons a q =>
  rw [hp] at hrm hpd
  have ea : atS shOpens (a :: q) = shOpens.contains a := rfl
  rw [ea]
  simp only [List.length_cons] at hrm
  have hgt : l[(runS shMarks l).length]? = some a := by
   have := congrArg (fun x => x[0]?) hpd
   simpa using this
  have hby : ∀ hh : (runS shMarks l).length < (⟨l.toArray⟩ : ByteArray).size, (⟨l.toArray⟩ : ByteArray)[(runS shMarks l).length] = a := fun hh => byteS rfl hh hgt
  have ki := indexByteS shOpens a
  have hg := contains_indexS shOpens a
  obtain ⟨i, hi⟩ : ∃ i, i = indexByte shOpens a := ⟨_, rfl⟩
  rw [← hi] at ki hg
  clear hi hgt
  have hwz2 := hwz
  generalize (runS shMarks l).length = r at *
  obtain ⟨W, hW⟩ : ∃ W : ByteArray, W = ⟨(runS shMarks l).toArray⟩ := ⟨_, rfl⟩
  rw [← hW] at htk hwz hwz2
  have HW := Lib.hid hW
  clear hW
  generalize (⟨l.toArray⟩ : ByteArray) = S at *
  have hby1 : ∀ hh : W.size < S.size, S[W.size] = a := fun hh => by
   have := hby (by omega)
   simpa [hwz] using this
  have hrU : (r : Int) ≤ (S.size : Int) := by omega
  have hr0 : (0 : Int) ≤ (r : Int) := by omega
  have hlt : (W.size : Int) < (S.size : Int) := by omega
  have hltN : W.size < S.size := by omega
  have hby2 := hby1 hltN
  clear h ek hp hpd hrm hl hby hby1 hwz hwz2 hsz
  cases hq : shOpens.contains a
  ·rw [hq] at hg
   have hge : ¬ 0 ≤ i := of_decide_eq_false hg
   clear hg hq
   simp only [Bool.false_eq_true, if_false]
   rw [← HW.out]
   go_enter Tryz.func75, Tryz.ntmps75
   go_upto_region 1 with fail
   go_region_law (go_simp; go_at_call 101; (with_reducible refine (ku _ (RSB.out _ (Below.refl _ w).drew)).mono ?_); rintro e w4 ⟨rfl, hb4⟩; have hb5 : Below w.heap.size w w4 := ((Below.refl _ w).drew).trans hb4; obtain ⟨d4, g4⟩ := CEL.out _ hb5; have HB2 := Lib.hid hb5; clear hb4 hb5)
   all_goals
    go_wp2_with (go_at_call 102; refine (ki _).mono ?_; rintro e w5 ⟨rfl, rfl⟩)
    exact bodyPost_ret (results_tmp rfl _ _ _) rfl ⟨rfl, HB2.out⟩
  ·rw [hq] at hg
   have hge : 0 ≤ i := of_decide_eq_true hg
   clear hg hq
   simp only [if_true]
   go_enter Tryz.func75, Tryz.ntmps75
   go_upto_region 1 with fail
   go_region_law (go_simp; go_at_call 101; (with_reducible refine (ku _ (RSB.out _ (Below.refl _ w).drew)).mono ?_); rintro e w4 ⟨rfl, hb4⟩; have hb5 : Below w.heap.size w w4 := ((Below.refl _ w).drew).trans hb4; obtain ⟨d4, g4⟩ := CEL.out _ hb5; have HB2 := Lib.hid hb5; clear hb4 hb5)
   all_goals
    go_wp2_with (go_at_call 102; refine (ki _).mono ?_; rintro e w5 ⟨rfl, rfl⟩)
    exact bodyPost_ret (results_tmp rfl _ _ _) rfl ⟨rfl, HB2.out⟩
end Go.Proofs.YtelfgobjnibooaaGreatDoor
