/- value.Looks, Truth, Compare, as the plain functions of ValMath say them. Condition: texts are shorter than 2^44. -/
import Derived.Test.YtokfkckfclnoaaaGreatDoorValLeaf
namespace Go.Proofs.YtokfkckfclnoaaaGreatDoor
open Go.RowKit

theorem blank_yes (s : ByteArray) (k p : Nat) (w : World) (hk : k < s.size) (_hs : s.size ≤ 30000000000000) (hc : w.cell? ⟨p, 0, none⟩ = some (.string s)) (x : Int) (hx : (s[k].toNat : Int) = x) (h : x = 32 ∨ ((x : Int) == 32) = false ∧ x = 9) :
    Calls Tryz.prog 43 #[.int .i64 (k : Int), .pointer (some ⟨p, 0, none⟩)] w fun e w' => e = .returned (.bool true) ∧ w = w' := by
  rcases h with rfl | ⟨h1, rfl⟩
  all_goals
    go_enter Tryz.func43, Tryz.ntmps43
    go_wp2
    go_ret
    exact ⟨rfl, rfl⟩
theorem blank_no (s : ByteArray) (k p : Nat) (w : World) (hk : k < s.size) (_hs : s.size ≤ 30000000000000) (hc : w.cell? ⟨p, 0, none⟩ = some (.string s)) (x : Int) (hx : (s[k].toNat : Int) = x) (h1 : ((x : Int) == 32) = false) (h2 : ((x : Int) == 9) = false) :
    Calls Tryz.prog 43 #[.int .i64 (k : Int), .pointer (some ⟨p, 0, none⟩)] w fun e w' => e = .returned (.bool false) ∧ w = w' := by
  go_enter Tryz.func43, Tryz.ntmps43
  go_wp2
  go_ret
  exact ⟨rfl, rfl⟩
theorem blank_any (s : ByteArray) (k p : Nat) (w : World) (hk : k < s.size) (hs : s.size ≤ 30000000000000) (hc : w.cell? ⟨p, 0, none⟩ = some (.string s)) (b : Bool) (hb : isBlk s[k] = b) :
    Calls Tryz.prog 43 #[.int .i64 (k : Int), .pointer (some ⟨p, 0, none⟩)] w fun e w' => e = .returned (.bool b) ∧ w = w' := by
  have hcz : ∀ k' : UInt8, (((s[k].toNat : Int)) == (k'.toNat : Int)) = (s[k] == k') := by
    intro k'
    by_cases h : s[k] = k'
    · rw [h]; simp
    · rw [show (s[k] == k') = false from beq_eq_false_iff_ne.2 h]
      exact beq_eq_false_iff_ne.2 (fun e => h (UInt8.toNat_inj.1 (by omega)))
  have z32 : (((s[k].toNat : Int)) == 32) = (s[k] == 32) := hcz 32
  have z9 : (((s[k].toNat : Int)) == 9) = (s[k] == 9) := hcz 9
  unfold isBlk at hb
  cases b with
  | true =>
    refine blank_yes s k p w hk hs hc _ rfl ?_
    cases h : (s[k] == 32) with
    | true => left; rw [h] at z32; exact beq_iff_eq.1 z32
    | false =>
      right
      rw [h] at z32 hb
      rw [Bool.false_or] at hb
      rw [hb] at z9
      exact ⟨z32, beq_iff_eq.1 z9⟩
  | false =>
    rw [Bool.or_eq_false_iff] at hb
    exact blank_no s k p w hk hs hc _ rfl (z32.trans hb.1) (z9.trans hb.2)

theorem ba_len2 (s : ByteArray) : s.data.toList.length = s.size := by rw [Array.length_toList]; rfl
theorem drop_at (s : ByteArray) (k : Nat) (hk : k < s.size) : s.data.toList.drop k = s[k] :: s.data.toList.drop (k + 1) := by
  rw [List.drop_eq_getElem_cons (by rw [ba_len2]; exact hk)]; rfl

theorem looks_walk (s : ByteArray) (n er R : Int) (b : Bool) (u : Nat) (w : World) (hs : s.size ≤ 30000000000000) (hu : u ≤ s.size)
    (k1 : ∀ w, Calls Tryz.prog 30 #[.string s] w fun e w' => e = .returned (.tuple #[.int .i64 n, .int .i64 (u : Int), .int .i64 er]) ∧ Below w.heap.size w w')
    (H : Hid (((er : Int) != 0) = true ∧ R = 0 ∧ b = false ∨ ((er : Int) != 0) = false ∧ ((s.data.toList.drop u).all isBlk = true → R = n ∧ b = true) ∧ ((s.data.toList.drop u).all isBlk = false → R = 0 ∧ b = false))) :
    Calls Tryz.prog 21 #[.string s] w fun e w' => e = .returned (.tuple #[.int .i64 R, .bool b]) ∧ Below w.heap.size w w' := by
  have hmf : ∀ (fn : Fn) (first cap : Array Value) (w : World), (Instr.makeFunc fn first cap).run Tryz.prog w = .ok (.func fn first cap) w := fun _ _ _ _ => rfl
  go_enter Tryz.func21, Tryz.ntmps21
  go_wp2_with (go_at_call 30; refine (k1 _).mono ?_; rintro e w1 ⟨rfl, hb1⟩; have HN : Hid (w1.cell? ⟨w.heap.size, 0, none⟩ = some (.string s)) := (cell_one ((hb1.block w.heap.size (by simp)).trans (heap_alloc_new _ _))).1; have hc := HN.out)
  go_loop [8] (fun i => ∃ k : Nat, k ≤ s.size ∧ i = .int .i64 (k : Int) ∧ Hid ((s.data.toList.drop u).all isBlk = (s.data.toList.drop k).all isBlk)) (fun i => s.size - (intOf i).toNat)
  case atStart => exact ⟨u, hu, rfl, rfl⟩
  case round =>
    obtain ⟨k, hk, rfl, HA⟩ := hrel
    have hwk : wrap64 ((k : Int) + 1) = (k : Int) + 1 := by rw [wrap64_eq]; omega
    by_cases hlt : k < s.size
    · have HL := Lib.hid hlt
      obtain ⟨bb, hbb⟩ : ∃ bb, isBlk s[k] = bb := ⟨_, rfl⟩
      have HD : Hid ((s.data.toList.drop k).all isBlk = (bb && (s.data.toList.drop (k + 1)).all isBlk)) := by
        show _ = _
        rw [drop_at s k hlt, List.all_cons]
        exact congrArg (fun z => z && (s.data.toList.drop (k + 1)).all isBlk) hbb
      have k2 := fun p w hc => blank_any s k p w hlt hs hc bb hbb
      clear hbb
      cases bb with
      | true =>
        go_wp2_with (go_at_call 43; refine (k2 _ _ HN.out).mono ?_; rintro e w' ⟨rfl, rfl⟩)
        go_round
        case rel => exact ⟨k + 1, HL.out, by go_num, by show _ = _; rw [HA.out, HD.out]; rfl⟩
        case measure => simp only [intOf]; have := HL.out; omega
      | false =>
        have hall : (s.data.toList.drop u).all isBlk = false := by rw [HA.out, HD.out]; rfl
        have HH := H.out
        rw [hall] at HH
        clear hall HA HD H
        rcases HH with ⟨h1, rfl, rfl⟩ | ⟨h1, _, h2⟩
        · go_wp2_with (go_at_call 43; refine (k2 _ _ HN.out).mono ?_; rintro e w' ⟨rfl, rfl⟩)
          go_ret2
          exact ⟨rfl, ((Below.refl _ _).alloc (Nat.le_refl _) _).trans (hb1.mono (by simp))⟩
        · obtain ⟨rfl, rfl⟩ := h2 rfl
          go_wp2_with (go_at_call 43; refine (k2 _ _ HN.out).mono ?_; rintro e w' ⟨rfl, rfl⟩)
          go_ret2
          exact ⟨rfl, ((Below.refl _ _).alloc (Nat.le_refl _) _).trans (hb1.mono (by simp))⟩
    · have hall : (s.data.toList.drop u).all isBlk = true := by
        rw [HA.out, List.drop_of_length_le (by rw [ba_len2]; omega)]; rfl
      have HH := H.out
      rw [hall] at HH
      clear hall HA H
      rcases HH with ⟨h1, rfl, rfl⟩ | ⟨h1, h2, _⟩
      · go_wp2
        go_ret2
        exact ⟨rfl, ((Below.refl _ _).alloc (Nat.le_refl _) _).trans (hb1.mono (by simp))⟩
      · obtain ⟨rfl, rfl⟩ := h2 rfl
        go_wp2
        go_ret2
        exact ⟨rfl, ((Below.refl _ _).alloc (Nat.le_refl _) _).trans (hb1.mono (by simp))⟩
def looksE (l : List UInt8) : Ending := .returned (.tuple #[.int .i64 (looksD l).1, .bool (looksD l).2])
theorem looks_any (s : ByteArray) (w : World) (hs : s.size ≤ 30000000000000) :
    Calls Tryz.prog 21 #[.string s] w fun e w' => e = looksE s.data.toList ∧ Below w.heap.size w w' := by
  have hlen := ba_len2 s
  have hcs := readD_cases s.data.toList
  obtain ⟨u, hu, hu2⟩ : ∃ u : Nat, (readD s.data.toList).2.1 = (u : Int) ∧ u ≤ s.size := by
    rcases hcs with ⟨_, _, h3, h4⟩ | ⟨_, _, h3⟩
    · exact ⟨(readD s.data.toList).2.1.toNat, by omega, by omega⟩
    · exact ⟨0, h3, Nat.zero_le _⟩
  refine looks_walk s (readD s.data.toList).1 (readD s.data.toList).2.2 _ _ u w hs hu2 (fun w => ?_) ?_
  · have := read_any s w hs
    rw [readE_tuple, hu] at this
    exact this
  · show _ ∨ _
    unfold looksD
    rw [hu, Int.toNat_natCast]
    by_cases h0 : (readD s.data.toList).2.2 = 0
    · right
      rw [h0]
      refine ⟨rfl, fun h => ?_, fun h => ?_⟩
      · rw [if_pos ⟨rfl, h⟩]; exact ⟨rfl, rfl⟩
      · rw [if_neg (by rw [h]; simp)]; exact ⟨rfl, rfl⟩
    · left
      rw [if_neg (fun h => h0 h.1)]
      exact ⟨bne_iff_ne.2 h0, rfl, rfl⟩

theorem truth_walk (s : ByteArray) (n : Int) (b t : Bool) (w : World) (k1 : ∀ w, Calls Tryz.prog 21 #[.string s] w fun e w' => e = .returned (.tuple #[.int .i64 n, .bool b]) ∧ Below w.heap.size w w')
    (h : b = true ∧ ((n : Int) != 0) = t ∨ b = false ∧ (!s.toList.isEmpty) = t) :
    Calls Tryz.prog 9 #[.string s] w fun e w' => e = .returned (.bool t) ∧ Below w.heap.size w w' := by
  rcases h with ⟨rfl, h⟩ | ⟨rfl, h⟩
  all_goals
    go_enter Tryz.func9, Tryz.ntmps9
    go_wp2_with (go_at_call 21; refine (k1 _).mono ?_; rintro e w1 ⟨rfl, hb1⟩)
    go_ret
    exact ⟨by first | rfl | simp [h], hb1⟩
theorem truth_any (s : ByteArray) (w : World) (hs : s.size ≤ 30000000000000) :
    Calls Tryz.prog 9 #[.string s] w fun e w' => e = .returned (.bool (truthD s.data.toList)) ∧ Below w.heap.size w w' := by
  refine truth_walk s _ _ _ w (fun w => looks_any s w hs) ?_
  unfold truthD
  cases h : (looksD s.data.toList).2 with
  | true => left; exact ⟨rfl, rfl⟩
  | false => right; exact ⟨rfl, by rw [ba_toList]; rfl⟩

theorem compare_walk (a b : ByteArray) (n m c d : Int) (p q : Bool) (w : World) (k1 : ∀ w, Calls Tryz.prog 21 #[.string a] w fun e w' => e = .returned (.tuple #[.int .i64 n, .bool p]) ∧ Below w.heap.size w w')
    (k2 : ∀ w, Calls Tryz.prog 21 #[.string b] w fun e w' => e = .returned (.tuple #[.int .i64 m, .bool q]) ∧ Below w.heap.size w w')
    (k3 : ∀ w, Calls Tryz.prog 22 #[.int .i64 n, .int .i64 m] w fun e w' => e = .returned (.int .i64 c) ∧ w = w')
    (k4 : ∀ w, Calls Tryz.prog 23 #[.string a, .string b] w fun e w' => e = .returned (.int .i64 d) ∧ w = w') (v : Int)
    (h : p = true ∧ q = true ∧ v = c ∨ p = true ∧ q = false ∧ v = d ∨ p = false ∧ v = d) :
    Calls Tryz.prog 7 #[.string a, .string b] w fun e w' => e = .returned (.int .i64 v) ∧ Below w.heap.size w w' := by
  by_cases hab : a = b
  · subst hab
    have hw := k1 w
    rcases h with ⟨rfl, rfl, rfl⟩ | ⟨rfl, rfl, rfl⟩ | ⟨rfl, rfl⟩
    all_goals
      go_enter Tryz.func7, Tryz.ntmps7
      go_wp2_with fail
      refine (k1 _).mono ?_
      rintro e w1 ⟨rfl, hb1⟩
      go_wp2_with fail
      refine (k2 _).mono ?_
      rintro e w2 ⟨rfl, hb2⟩
      go_wp2_with (first | (go_at_call 22; refine (k3 _).mono ?_; rintro e w' ⟨rfl, rfl⟩) | (go_at_call 23; refine (k4 _).mono ?_; rintro e w' ⟨rfl, rfl⟩))
      go_ret
      exact ⟨rfl, below_at hb1 hb2 hb1.size⟩
  · rcases h with ⟨rfl, rfl, rfl⟩ | ⟨rfl, rfl, rfl⟩ | ⟨rfl, rfl⟩
    all_goals
      go_enter Tryz.func7, Tryz.ntmps7
      go_wp2_with fail
      refine (k1 _).mono ?_
      rintro e w1 ⟨rfl, hb1⟩
      go_wp2_with fail
      refine (k2 _).mono ?_
      rintro e w2 ⟨rfl, hb2⟩
      go_wp2_with (first | (go_at_call 22; refine (k3 _).mono ?_; rintro e w' ⟨rfl, rfl⟩) | (go_at_call 23; refine (k4 _).mono ?_; rintro e w' ⟨rfl, rfl⟩))
      go_ret
      exact ⟨rfl, below_at hb1 hb2 hb1.size⟩
theorem compare_any (a b : ByteArray) (w : World) (ha : a.size ≤ 30000000000000) (hb : b.size ≤ 30000000000000) :
    Calls Tryz.prog 7 #[.string a, .string b] w fun e w' => e = .returned (.int .i64 (compareD a.data.toList b.data.toList)) ∧ Below w.heap.size w w' := by
  refine compare_walk a b _ _ _ _ _ _ w (fun w => looks_any a w ha) (fun w => looks_any b w hb) (fun w => cmpI_any _ _ w) (fun w => cmpS_any a b w) _ ?_
  unfold compareD
  cases (looksD a.data.toList).2 <;> cases (looksD b.data.toList).2
  · right; right; exact ⟨rfl, rfl⟩
  · right; right; exact ⟨rfl, rfl⟩
  · right; left; exact ⟨rfl, rfl, rfl⟩
  · left; exact ⟨rfl, rfl, rfl⟩
end Go.Proofs.YtokfkckfclnoaaaGreatDoor
