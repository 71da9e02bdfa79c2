/- Packed texts: SuSpec, SuRow. What each of them proves stands above its theorems; the conditions stand in these. -/
import Derived.Deep.LoopGhost
import Derived.Test.YtkgpnlldlekcbaaGreatDoorX0
import Derived.Test.YtkgpnlldlekcbaaGreatDoorX5
import Derived.Test.YtkgpnlldlekcbaaGreatDoorX7
import Derived.Test.YtkgpnlldlekcbaaGreatDoorX14
import Derived.Test.YtkgpnlldlekcbaaGreatDoorX16
namespace Go.Proofs.YtkgpnlldlekcbaaGreatDoor
open Go.RowKit Go.Lib

/-- The byte that a sign tells, and how many bytes it has. -/
def signU (l : List UInt8) : Option (UInt8 × Nat) := (signD l).map fun p => (p.1.toNat.toUInt8, p.2.toNat)
/-- What a replacement begins with: a place (none), or a byte; and how many bytes that takes. -/
def stepR : List UInt8 → Option (Option UInt8 × Nat)
  | [] => none
  | c :: r => if c = 38 then some (none, 1) else if c = 47 ∨ c = 10 then none else if c ≠ 92 then some (some c, 1)
    else if r.head? = some 38 then some (some 38, 2) else (signU (c :: r)).map fun p => (some p.1, p.2)
def readR : Nat → List UInt8 → List (List UInt8) → List UInt8 → Option (List (List UInt8))
  | 0, _, _, _ => none
  | f + 1, l, acc, now => if l = [] then some (acc ++ [now]) else match stepR l with
    | none => none
    | some (none, n) => readR f (l.drop n) (acc ++ [now]) []
    | some (some c, n) => readR f (l.drop n) acc (now ++ [c])
def readD' (l : List UInt8) : Option (List (List UInt8)) := readR (l.length + 1) l [] []
theorem digN_hi (c : UInt8) : digN c ≤ 15 := (digN_ge c).2
theorem toldD_fit {l : List UInt8} {b n : Int} (h : toldD l = some (b, n)) : 0 ≤ b ∧ b ≤ 255 ∧ n = 4 ∧ 2 ≤ l.length := by
  unfold toldD at h
  split at h
  · rename_i x y r
    split at h
    · cases h
    · rename_i hn
      have h1 := digN_hi x
      have h2 := digN_hi y
      cases h
      refine ⟨by omega, by omega, rfl, by simp⟩
  · cases h
theorem signD_fit {l : List UInt8} {b n : Int} (h : signD l = some (b, n)) : 0 ≤ b ∧ b ≤ 255 ∧ 1 ≤ n ∧ n ≤ l.length := by
  cases l with
  | nil => cases h
  | cons c r =>
    unfold signD at h
    dsimp only at h
    split at h
    · cases r with
      | nil => cases h
      | cons d t =>
        dsimp only at h
        split at h
        · obtain ⟨h1, h2, h3, h4⟩ := toldD_fit h
          exact ⟨h1, h2, by omega, by simp; omega⟩
        · split at h
          · cases h
            have := d.toNat_lt
            exact ⟨by omega, by omega, by omega, by simp; omega⟩
          · cases h
    · split at h
      · cases h
      · cases h
        have := c.toNat_lt
        exact ⟨by omega, by omega, by omega, by simp; omega⟩
theorem signU_none {l : List UInt8} (h : signU l = none) : signD l = none := by
  unfold signU at h
  cases hs : signD l with
  | none => rfl
  | some p => rw [hs] at h; cases h
theorem signU_some {l : List UInt8} {c : UInt8} {n : Nat} (h : signU l = some (c, n)) : signD l = some ((c.toNat : Int), (n : Int)) ∧ 1 ≤ n ∧ n ≤ l.length := by
  unfold signU at h
  cases hs : signD l with
  | none => rw [hs] at h; cases h
  | some p =>
    obtain ⟨b, m⟩ := p
    rw [hs] at h
    obtain ⟨h1, h2, h3, h4⟩ := signD_fit hs
    simp only [Option.map_some, Option.some.injEq, Prod.mk.injEq] at h
    obtain ⟨e1, e2⟩ := h
    have e3 : c.toNat = b.toNat := by
      rw [← e1]
      show (UInt8.ofNat b.toNat).toNat = _
      rw [UInt8.toNat_ofNat']
      omega
    refine ⟨by rw [e3, ← e2]; congr 2 <;> omega, by omega, by omega⟩
theorem stepR_fit {l : List UInt8} {o : Option UInt8} {n : Nat} (h : stepR l = some (o, n)) : 1 ≤ n ∧ n ≤ l.length := by
  cases l with
  | nil => cases h
  | cons c r =>
    have h : (if c = 38 then some (none, 1) else if c = 47 ∨ c = 10 then none else if c ≠ 92 then some (some c, 1)
      else if r.head? = some 38 then some (some 38, 2) else (signU (c :: r)).map fun p => (some p.1, p.2)) = some (o, n) := h
    by_cases h1 : c = 38
    · rw [if_pos h1] at h
      cases h
      simp
    · rw [if_neg h1] at h
      by_cases h2 : c = 47 ∨ c = 10
      · rw [if_pos h2] at h
        cases h
      · rw [if_neg h2] at h
        by_cases h3 : c ≠ 92
        · rw [if_pos h3] at h
          cases h
          simp
        · rw [if_neg h3] at h
          by_cases h4 : r.head? = some 38
          · rw [if_pos h4] at h
            cases h
            cases r with
            | nil => cases h4
            | cons d t => simp
          · rw [if_neg h4] at h
            cases hs : signU (c :: r) with
            | none => rw [hs] at h; cases h
            | some p =>
              rw [hs] at h
              cases h
              exact (signU_some hs).2
/-- What escaped answers. -/
def escV (l : List UInt8) : Ending := if l.tail.head? = some 38 ∧ l.head? = some 92 then .returned (.tuple #[.int .u8 38, .int .i64 2]) else match signU l with
  | some (c, n) => .returned (.tuple #[.int .u8 (c.toNat : Int), .int .i64 (n : Int)])
  | none => .returned (.tuple #[.int .u8 0, .int .i64 0])
theorem pref_two (l : List UInt8) : Lib.hasPrefix l [92, 38] = decide (l.tail.head? = some 38 ∧ l.head? = some 92) := by
  unfold Lib.hasPrefix
  rw [Bool.eq_iff_iff, decide_eq_true_eq]
  match l with
  | [] => simp
  | [c] => simp
  | c :: d :: r =>
    simp
    constructor
    · rintro ⟨h1, h2⟩; exact ⟨h2.symm, h1.symm⟩
    · rintro ⟨h1, h2⟩; exact ⟨h2.symm, h1.symm⟩
set_option maxHeartbeats 1000000 in
set_option maxRecDepth 20000 in
theorem escaped_any (s : ByteArray) (w : World) : Calls Tryz.prog 155 #[.string s] w fun e w' => e = escV s.data.toList ∧ Below w.heap.size w w' := by
  have k1 := Tryz.strings_HasPrefix s ⟨#[92, 38]⟩ w
  have e1 : (⟨#[92, 38]⟩ : ByteArray).data.toList = [92, 38] := rfl
  rw [e1, pref_two] at k1
  by_cases hp : s.data.toList.tail.head? = some 38 ∧ s.data.toList.head? = some 92
  · have hE : escV s.data.toList = .returned (.tuple #[.int .u8 38, .int .i64 2]) := by unfold escV; rw [if_pos hp]
    rw [hE]
    rw [decide_eq_true hp] at k1
    clear hE hp e1
    go_enter Tryz.func155, Tryz.ntmps155
    go_wp2_with (first
      | (go_at_call 172; refine k1.mono ?_; rintro e w1 ⟨rfl, hw⟩; replace hw := hw.symm; subst hw)
      | fail)
    exact bodyPost_ret (results_tmp2 rfl _ _ _) rfl ⟨rfl, Below.refl _ _⟩
  · have k2 := fun w => sign_any s w
    rw [decide_eq_false hp] at k1
    cases hs : signU s.data.toList with
    | none =>
      have hE : escV s.data.toList = .returned (.tuple #[.int .u8 0, .int .i64 0]) := by unfold escV; rw [if_neg hp, hs]
      rw [hE]
      rw [signU_none hs] at k2
      unfold signE at k2
      clear hE hp e1 hs
      go_enter Tryz.func155, Tryz.ntmps155
      go_wp2_with (first
        | (go_at_call 172; refine k1.mono ?_; rintro e w1 ⟨rfl, hw⟩; replace hw := hw.symm; subst hw)
        | (go_at_call 173; refine (k2 _).mono ?_; rintro e w2 ⟨rfl, hb2⟩)
        | fail)
      exact bodyPost_ret (results_tmp2 rfl _ _ _) rfl ⟨rfl, hb2⟩
    | some p =>
      obtain ⟨c, n⟩ := p
      have hE : escV s.data.toList = .returned (.tuple #[.int .u8 (c.toNat : Int), .int .i64 (n : Int)]) := by unfold escV; rw [if_neg hp, hs]
      rw [hE]
      rw [(signU_some hs).1] at k2
      unfold signE at k2
      clear hE hp e1 hs
      go_enter Tryz.func155, Tryz.ntmps155
      go_wp2_with (first
        | (go_at_call 172; refine k1.mono ?_; rintro e w1 ⟨rfl, hw⟩; replace hw := hw.symm; subst hw)
        | (go_at_call 173; refine (k2 _).mono ?_; rintro e w2 ⟨rfl, hb2⟩)
        | fail)
      exact bodyPost_ret (results_tmp2 rfl _ _ _) rfl ⟨rfl, hb2⟩
end Go.Proofs.YtkgpnlldlekcbaaGreatDoor
namespace Go.Proofs.YtkgpnlldlekcbaaGreatDoor
open Go.RowKit Go.Lib
attribute [local go_sem] Oper.semAt_some

theorem Tryz.infoStrU : (Tryz.prog.info? 9).map (fun i => (i.zero, i.size, i.bytes)) = some (some (.string ByteArray.empty), 1, 16) := by kernel_rfl
def strC (xs : List ByteArray) : List Value := xs.map Value.string
theorem strC_append (a b : List ByteArray) : strC (a ++ b) = strC a ++ strC b := List.map_append
theorem strC_length (a : List ByteArray) : (strC a).length = a.length := List.length_map _
/-- A row of texts of one's own can be read. -/
theorem strs_of_owns {w : World} {B n : Nat} {v : Value} {xs : List ByteArray} (h : w.ownsRow B 9 1 v n (strC xs)) (hn : n = xs.length) (hl : n ≤ 140737488355328) : Strs v xs w := by
  subst hn
  rcases h.2 with ⟨hv, h0⟩ | ⟨g, cap, cur, hv, _, hg, hc, _, hz, htk⟩
  · have e : xs = [] := List.eq_nil_of_length_eq_zero h0
    subst e
    subst hv
    exact Strs.nil w
  · refine ⟨some ⟨g, 0, none⟩, cap, hv, hc, hl, fun j x hj => ⟨g, 0, rfl, block_lt hg, ?_⟩⟩
    have hjl : j < xs.length := by
      by_cases h : j < xs.length
      · exact h
      · rw [List.getElem?_eq_none (by omega)] at hj; cases hj
    have e : (strC xs)[j]? = some (.string x) := by unfold strC; rw [List.getElem?_map, hj]; rfl
    rw [← htk, List.getElem?_take_of_lt (by omega)] at e
    rw [cell_of_heap hg, Nat.zero_add]
    simpa using e
end Go.Proofs.YtkgpnlldlekcbaaGreatDoor
