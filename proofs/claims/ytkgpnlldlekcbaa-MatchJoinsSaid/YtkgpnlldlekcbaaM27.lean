/- Packed texts: ClsSign2. What each of them proves stands above its theorems; the conditions stand in these. -/
import Derived.Deep.LoopGhost
import Derived.Test.YtkgpnlldlekcbaaM0
import Derived.Test.YtkgpnlldlekcbaaM6
namespace Go.Proofs.Ytkgpnlldlekcbaa
open Go.RowKit Go.Lib

theorem byte_at {s : ByteArray} {l : List UInt8} (h : s.data.toList = l) {i : Nat} {d : UInt8} (hd : l[i]? = some d) (hs : i < s.size) : s[i] = d := by
  have : s.data.toList[i]? = some s[i] := by rw [List.getElem?_eq_getElem (by rw [Array.length_toList]; exact hs)]; rfl
  rw [h, hd] at this
  exact (Option.some.inj this).symm
theorem sign_byte {x : Int} (h0 : 0 ≤ x) (h1 : x < 256) : Ending.returned (.tuple #[.int .u8 (x % 256), .int .i64 4, .int .i64 0]) = signE (some (x, 4)) := by
  rw [Int.emod_eq_of_lt h0 h1]; rfl
set_option maxHeartbeats 2000000 in
set_option maxRecDepth 20000 in
theorem refSign_short (s : ByteArray) (d : UInt8) (E : Ending) (w : World) (hs : 0 < s.size) (hs2 : 1 < s.size) (hx : (s[0].toNat : Int) = 92) (hd : s[1] = d) (hcond : s.size < 4)
    (hyes : namedL.contains d = true → E = signE (some ((d.toNat : Int), 2))) (hno : namedL.contains d = false → E = signE none) :
    Calls Try.prog 118 #[.string s] w fun e w' => e = E ∧ Below w.heap.size w w' := by
  have HY := Lib.hid hyes
  have HN := Lib.hid hno
  clear hyes hno
  go_enter Try.func118, Try.ntmps118
  go_wp2
  go_loopg [7] 16 (fun n i wr => ∃ k : Nat, k ≤ 16 ∧ i = .int .i64 k ∧ Hid (n + k = 16) ∧ Hid (∀ j, j < k → namedL[j]? ≠ some d) ∧ Hid (Below w.heap.size w wr))
  case atStart => exact ⟨0, Nat.zero_le _, rfl, rfl, fun j hj => by omega, Below.refl _ _⟩
  case round =>
    obtain ⟨k, hk, rfl, HK, HJ, HB⟩ := hrel
    by_cases hlt : k < 16
    · have hsz : k < (⟨#[92, 93, 91, 94, 45, 47, 46, 42, 43, 63, 40, 41, 124, 123, 125, 36]⟩ : ByteArray).size := hlt
      obtain ⟨m, hm⟩ : ∃ m, (⟨#[92, 93, 91, 94, 45, 47, 46, 42, 43, 63, 40, 41, 124, 123, 125, 36]⟩ : ByteArray)[k] = m := ⟨_, rfl⟩
      have hat : namedL[k]? = some m := by rw [← hm]; exact List.getElem?_eq_getElem (by exact hlt)
      have HA := Lib.hid hat
      clear hat
      by_cases hdm : d = m
      · subst hdm
        have hdd : ((d.toNat : Int) == (d.toNat : Int)) = true := by simp
        go_wp2
        go_quiet (fail)
        go_wp2
        refine bodyPost_ret (results_tmp3 rfl _ _ _) rfl ⟨?_, below_draws HB.out _⟩
        rw [HY.out (by rw [List.contains_iff_mem]; exact List.mem_of_getElem? HA.out)]
        first | rfl | (rw [hd0]; rfl)
      · have hne := ne_int hdm
        have HJ2 : Hid (∀ j, j < k + 1 → namedL[j]? ≠ some d) := fun j hj => by
          by_cases hjk : j = k
          · rw [hjk, HA.out]
            intro e
            exact hdm (Option.some.inj e).symm
          · exact HJ.out j (by omega)
        go_wp2
        go_quiet (fail)
        go_wp2
        go_roundg (gk - 1)
        case measure => have h1 := HK.out; omega
        case rel => exact ⟨k + 1, by omega, by go_num, by have h1 := HK.out; show _ = _; omega, HJ2, below_draws HB.out _⟩
    · obtain rfl : k = 16 := by omega
      have hE := HN.out (by
        cases hc : namedL.contains d with
        | false => rfl
        | true =>
          obtain ⟨j, hj⟩ := List.mem_iff_getElem?.1 (List.contains_iff_mem.1 hc)
          have hj16 : j < 16 := (List.getElem?_eq_some_iff.1 hj).1
          exact absurd hj (HJ.out j hj16))
      have HE := Lib.hid hE
      clear hE
      go_wp2
      all_goals first
        | (exfalso; omega)
        | (refine bodyPost_ret (results_tmp3 rfl _ _ _) rfl ⟨?_, HB.out⟩; rw [HE.out]; rfl)

set_option maxHeartbeats 2000000 in
set_option maxRecDepth 20000 in
theorem refSign_other (s : ByteArray) (d : UInt8) (E : Ending) (w : World) (hs : 0 < s.size) (hs2 : 1 < s.size) (hx : (s[0].toNat : Int) = 92) (hd : s[1] = d) (hcond : ((d.toNat : Int) != 120) = true)
    (hyes : namedL.contains d = true → E = signE (some ((d.toNat : Int), 2))) (hno : namedL.contains d = false → E = signE none) :
    Calls Try.prog 118 #[.string s] w fun e w' => e = E ∧ Below w.heap.size w w' := by
  have HY := Lib.hid hyes
  have HN := Lib.hid hno
  clear hyes hno
  go_enter Try.func118, Try.ntmps118
  go_wp2
  go_loopg [7] 16 (fun n i wr => ∃ k : Nat, k ≤ 16 ∧ i = .int .i64 k ∧ Hid (n + k = 16) ∧ Hid (∀ j, j < k → namedL[j]? ≠ some d) ∧ Hid (Below w.heap.size w wr))
  case atStart => exact ⟨0, Nat.zero_le _, rfl, rfl, fun j hj => by omega, Below.refl _ _⟩
  case round =>
    obtain ⟨k, hk, rfl, HK, HJ, HB⟩ := hrel
    by_cases hlt : k < 16
    · have hsz : k < (⟨#[92, 93, 91, 94, 45, 47, 46, 42, 43, 63, 40, 41, 124, 123, 125, 36]⟩ : ByteArray).size := hlt
      obtain ⟨m, hm⟩ : ∃ m, (⟨#[92, 93, 91, 94, 45, 47, 46, 42, 43, 63, 40, 41, 124, 123, 125, 36]⟩ : ByteArray)[k] = m := ⟨_, rfl⟩
      have hat : namedL[k]? = some m := by rw [← hm]; exact List.getElem?_eq_getElem (by exact hlt)
      have HA := Lib.hid hat
      clear hat
      by_cases hdm : d = m
      · subst hdm
        have hdd : ((d.toNat : Int) == (d.toNat : Int)) = true := by simp
        go_wp2
        go_quiet (fail)
        go_wp2
        refine bodyPost_ret (results_tmp3 rfl _ _ _) rfl ⟨?_, below_draws HB.out _⟩
        rw [HY.out (by rw [List.contains_iff_mem]; exact List.mem_of_getElem? HA.out)]
        first | rfl | (rw [hd0]; rfl)
      · have hne := ne_int hdm
        have HJ2 : Hid (∀ j, j < k + 1 → namedL[j]? ≠ some d) := fun j hj => by
          by_cases hjk : j = k
          · rw [hjk, HA.out]
            intro e
            exact hdm (Option.some.inj e).symm
          · exact HJ.out j (by omega)
        go_wp2
        go_quiet (fail)
        go_wp2
        go_roundg (gk - 1)
        case measure => have h1 := HK.out; omega
        case rel => exact ⟨k + 1, by omega, by go_num, by have h1 := HK.out; show _ = _; omega, HJ2, below_draws HB.out _⟩
    · obtain rfl : k = 16 := by omega
      have hE := HN.out (by
        cases hc : namedL.contains d with
        | false => rfl
        | true =>
          obtain ⟨j, hj⟩ := List.mem_iff_getElem?.1 (List.contains_iff_mem.1 hc)
          have hj16 : j < 16 := (List.getElem?_eq_some_iff.1 hj).1
          exact absurd hj (HJ.out j hj16))
      have HE := Lib.hid hE
      clear hE
      go_wp2
      all_goals first
        | (exfalso; omega)
        | (refine bodyPost_ret (results_tmp3 rfl _ _ _) rfl ⟨?_, HB.out⟩; rw [HE.out]; rfl)

set_option maxHeartbeats 2000000 in
set_option maxRecDepth 20000 in
theorem refSign_bad (s : ByteArray) (d : UInt8) (E : Ending) (w : World) (hs : 0 < s.size) (hs2 : 1 < s.size) (hx : (s[0].toNat : Int) = 92) (hd : s[1] = d) (hs4 : 4 ≤ s.size) (hs3 : 3 < s.size) (hs3' : 2 < s.size) (hd0 : (d.toNat : Int) = 120) (a b : UInt8) (ha : s[2] = a) (hb : s[3] = b) (p q : Int)
    (c1 : ∀ w, Calls Try.prog 126 #[.int .u8 (a.toNat : Int)] w fun e w' => e = .returned (.int .i64 p) ∧ w = w')
    (c2 : ∀ w, Calls Try.prog 126 #[.int .u8 (b.toNat : Int)] w fun e w' => e = .returned (.int .i64 q) ∧ w = w') (hp1 : p ≤ 15) (hq1 : q ≤ 15) (hpq : p < 0 ∨ q < 0)
    (hyes : namedL.contains d = true → E = signE (some ((d.toNat : Int), 2))) (hno : namedL.contains d = false → E = signE none) :
    Calls Try.prog 118 #[.string s] w fun e w' => e = E ∧ Below w.heap.size w w' := by
  have HY := Lib.hid hyes
  have HN := Lib.hid hno
  clear hyes hno
  go_enter Try.func118, Try.ntmps118
  go_wp2
  go_loopg [7] 16 (fun n i wr => ∃ k : Nat, k ≤ 16 ∧ i = .int .i64 k ∧ Hid (n + k = 16) ∧ Hid (∀ j, j < k → namedL[j]? ≠ some d) ∧ Hid (Below w.heap.size w wr))
  case atStart => exact ⟨0, Nat.zero_le _, rfl, rfl, fun j hj => by omega, Below.refl _ _⟩
  case round =>
    obtain ⟨k, hk, rfl, HK, HJ, HB⟩ := hrel
    by_cases hlt : k < 16
    · have hsz : k < (⟨#[92, 93, 91, 94, 45, 47, 46, 42, 43, 63, 40, 41, 124, 123, 125, 36]⟩ : ByteArray).size := hlt
      obtain ⟨m, hm⟩ : ∃ m, (⟨#[92, 93, 91, 94, 45, 47, 46, 42, 43, 63, 40, 41, 124, 123, 125, 36]⟩ : ByteArray)[k] = m := ⟨_, rfl⟩
      have hat : namedL[k]? = some m := by rw [← hm]; exact List.getElem?_eq_getElem (by exact hlt)
      have HA := Lib.hid hat
      clear hat
      by_cases hdm : d = m
      · subst hdm
        have hdd : ((d.toNat : Int) == (d.toNat : Int)) = true := by simp
        go_wp2
        go_quiet (fail)
        go_wp2
        refine bodyPost_ret (results_tmp3 rfl _ _ _) rfl ⟨?_, below_draws HB.out _⟩
        rw [HY.out (by rw [List.contains_iff_mem]; exact List.mem_of_getElem? HA.out)]
        first | rfl | (rw [hd0]; rfl)
      · have hne := ne_int hdm
        have HJ2 : Hid (∀ j, j < k + 1 → namedL[j]? ≠ some d) := fun j hj => by
          by_cases hjk : j = k
          · rw [hjk, HA.out]
            intro e
            exact hdm (Option.some.inj e).symm
          · exact HJ.out j (by omega)
        go_wp2
        go_quiet (fail)
        go_wp2
        go_roundg (gk - 1)
        case measure => have h1 := HK.out; omega
        case rel => exact ⟨k + 1, by omega, by go_num, by have h1 := HK.out; show _ = _; omega, HJ2, below_draws HB.out _⟩
    · obtain rfl : k = 16 := by omega
      have hE := HN.out (by
        cases hc : namedL.contains d with
        | false => rfl
        | true =>
          obtain ⟨j, hj⟩ := List.mem_iff_getElem?.1 (List.contains_iff_mem.1 hc)
          have hj16 : j < 16 := (List.getElem?_eq_some_iff.1 hj).1
          exact absurd hj (HJ.out j hj16))
      have HE := Lib.hid hE
      clear hE
      go_wp2_with (go_at_call 126; first | (with_reducible refine (c1 _).mono ?_; rintro e w1 ⟨rfl, rfl⟩) | (with_reducible refine (c2 _).mono ?_; rintro e w1 ⟨rfl, rfl⟩))
      all_goals first
        | (exfalso; omega)
        | (refine bodyPost_ret (results_tmp3 rfl _ _ _) rfl ⟨?_, HB.out⟩; rw [HE.out]; rfl)

set_option maxHeartbeats 2000000 in
set_option maxRecDepth 20000 in
theorem refSign_good (s : ByteArray) (d : UInt8) (E : Ending) (w : World) (hs : 0 < s.size) (hs2 : 1 < s.size) (hx : (s[0].toNat : Int) = 92) (hd : s[1] = d) (hs4 : 4 ≤ s.size) (hs3 : 3 < s.size) (hs3' : 2 < s.size) (hd0 : (d.toNat : Int) = 120) (a b : UInt8) (ha : s[2] = a) (hb : s[3] = b) (p q : Int)
    (c1 : ∀ w, Calls Try.prog 126 #[.int .u8 (a.toNat : Int)] w fun e w' => e = .returned (.int .i64 p) ∧ w = w')
    (c2 : ∀ w, Calls Try.prog 126 #[.int .u8 (b.toNat : Int)] w fun e w' => e = .returned (.int .i64 q) ∧ w = w') (hp0 : 0 ≤ p) (hp1 : p ≤ 15) (hq0 : 0 ≤ q) (hq1 : q ≤ 15)
    (hyes : namedL.contains d = true → E = signE (some ((d.toNat : Int), 2))) (hno : namedL.contains d = false → E = signE (some ((16 : Int) * p + q, 4))) :
    Calls Try.prog 118 #[.string s] w fun e w' => e = E ∧ Below w.heap.size w w' := by
  have HY := Lib.hid hyes
  have HN := Lib.hid hno
  clear hyes hno
  go_enter Try.func118, Try.ntmps118
  go_wp2
  go_loopg [7] 16 (fun n i wr => ∃ k : Nat, k ≤ 16 ∧ i = .int .i64 k ∧ Hid (n + k = 16) ∧ Hid (∀ j, j < k → namedL[j]? ≠ some d) ∧ Hid (Below w.heap.size w wr))
  case atStart => exact ⟨0, Nat.zero_le _, rfl, rfl, fun j hj => by omega, Below.refl _ _⟩
  case round =>
    obtain ⟨k, hk, rfl, HK, HJ, HB⟩ := hrel
    by_cases hlt : k < 16
    · have hsz : k < (⟨#[92, 93, 91, 94, 45, 47, 46, 42, 43, 63, 40, 41, 124, 123, 125, 36]⟩ : ByteArray).size := hlt
      obtain ⟨m, hm⟩ : ∃ m, (⟨#[92, 93, 91, 94, 45, 47, 46, 42, 43, 63, 40, 41, 124, 123, 125, 36]⟩ : ByteArray)[k] = m := ⟨_, rfl⟩
      have hat : namedL[k]? = some m := by rw [← hm]; exact List.getElem?_eq_getElem (by exact hlt)
      have HA := Lib.hid hat
      clear hat
      by_cases hdm : d = m
      · subst hdm
        have hdd : ((d.toNat : Int) == (d.toNat : Int)) = true := by simp
        go_wp2
        go_quiet (fail)
        go_wp2
        refine bodyPost_ret (results_tmp3 rfl _ _ _) rfl ⟨?_, below_draws HB.out _⟩
        rw [HY.out (by rw [List.contains_iff_mem]; exact List.mem_of_getElem? HA.out)]
        first | rfl | (rw [hd0]; rfl)
      · have hne := ne_int hdm
        have HJ2 : Hid (∀ j, j < k + 1 → namedL[j]? ≠ some d) := fun j hj => by
          by_cases hjk : j = k
          · rw [hjk, HA.out]
            intro e
            exact hdm (Option.some.inj e).symm
          · exact HJ.out j (by omega)
        go_wp2
        go_quiet (fail)
        go_wp2
        go_roundg (gk - 1)
        case measure => have h1 := HK.out; omega
        case rel => exact ⟨k + 1, by omega, by go_num, by have h1 := HK.out; show _ = _; omega, HJ2, below_draws HB.out _⟩
    · obtain rfl : k = 16 := by omega
      have hE := HN.out (by
        cases hc : namedL.contains d with
        | false => rfl
        | true =>
          obtain ⟨j, hj⟩ := List.mem_iff_getElem?.1 (List.contains_iff_mem.1 hc)
          have hj16 : j < 16 := (List.getElem?_eq_some_iff.1 hj).1
          exact absurd hj (HJ.out j hj16))
      have HE := Lib.hid hE
      clear hE
      go_wp2_with (go_at_call 126; first | (with_reducible refine (c1 _).mono ?_; rintro e w1 ⟨rfl, rfl⟩) | (with_reducible refine (c2 _).mono ?_; rintro e w1 ⟨rfl, rfl⟩))
      refine bodyPost_ret (results_tmp3 rfl _ _ _) rfl ⟨?_, HB.out⟩
      rw [HE.out]
      first | rfl | exact sign_byte (by omega) (by omega)

theorem refSign_any (s : ByteArray) (w : World) : Calls Try.prog 118 #[.string s] w fun e w' => e = signE (signD s.data.toList) ∧ Below w.heap.size w w' := by
  obtain ⟨l, hl⟩ : ∃ l, s.data.toList = l := ⟨_, rfl⟩
  rw [hl]
  have hz := size_list hl
  cases l with
  | nil => exact refSign_empty s w (by rw [hz]; simp)
  | cons c r =>
    have hs : 0 < s.size := by rw [hz]; simp
    have h0 := byte0 hl hs
    by_cases hc : c = 92
    · have hx : (s[0].toNat : Int) = 92 := by rw [h0, hc]; rfl
      cases r with
      | nil =>
        have h := refSign_alone s w hs (by rw [hz]; simp) hx
        rw [show signD [c] = none by simp [signD, hc]]
        exact h
      | cons d t =>
        have hs2 : 1 < s.size := by rw [hz]; simp
        have h1 := byte1 hl hs2
        have e : signD (c :: d :: t) = if d = 120 then toldD t else if namedL.contains d = true then some ((d.toNat : Int), 2) else none := by simp only [signD, if_pos hc]
        rw [e]
        by_cases hd : d = 120
        · have hno : namedL.contains d = false := by rw [hd]; rfl
          rw [if_pos hd]
          have hd0 : (d.toNat : Int) = 120 := by rw [hd]; rfl
          match t, hl, hz with
          | [], _, hz => exact refSign_short s d _ w hs hs2 hx h1 (by rw [hz]; simp) (fun h => by rw [hno] at h; cases h) (fun _ => rfl)
          | [_], _, hz => exact refSign_short s d _ w hs hs2 hx h1 (by rw [hz]; simp) (fun h => by rw [hno] at h; cases h) (fun _ => rfl)
          | a :: b :: t, hl, hz =>
            have hs4 : 4 ≤ s.size := by rw [hz]; simp
            have h2 : s[2] = a := byte_at hl rfl _
            have h3 : s[3] = b := byte_at hl rfl _
            have g1 := digN_ge a
            have g2 := digN_ge b
            by_cases hpq : digN a < 0 ∨ digN b < 0
            · have e2 : toldD (a :: b :: t) = none := by simp only [toldD, if_pos hpq]
              rw [e2]
              exact refSign_bad s d _ w hs hs2 hx h1 hs4 (by omega) (by omega) hd0 a b h2 h3 _ _ (fun w => refDigit_any a w) (fun w => refDigit_any b w) g1.2 g2.2 hpq (fun h => by rw [hno] at h; cases h) (fun _ => rfl)
            · have e2 : toldD (a :: b :: t) = some ((16 : Int) * digN a + digN b, 4) := by simp only [toldD, if_neg hpq]
              rw [e2]
              exact refSign_good s d _ w hs hs2 hx h1 hs4 (by omega) (by omega) hd0 a b h2 h3 _ _ (fun w => refDigit_any a w) (fun w => refDigit_any b w) (by omega) g1.2 (by omega) g2.2 (fun h => by rw [hno] at h; cases h) (fun _ => rfl)
        · rw [if_neg hd]
          have hne : ((d.toNat : Int) != 120) = true := by
            have := ne_int hd
            show (!((d.toNat : Int) == 120)) = true
            rw [show (120 : Int) = ((120 : UInt8).toNat : Int) from rfl, this]; rfl
          exact refSign_other s d _ w hs hs2 hx h1 hne (fun h => by rw [if_pos h]) (fun h => by rw [h]; rfl)
    · have e : signD (c :: r) = if c = 10 ∨ heldL.contains c = true then none else some ((c.toNat : Int), 1) := by simp only [signD, if_neg hc]
      rw [e]
      have ne := fun (y : UInt8) (h : c ≠ y) => ne_int h
      by_cases hn : c = 10 ∨ c = 93 ∨ c = 91 ∨ c = 94 ∨ c = 45
      · have hst : c = 10 ∨ heldL.contains c = true := by
          rcases hn with h | h | h | h | h
          · exact .inl h
          all_goals exact .inr (by rw [h]; rfl)
        rw [if_pos hst]
        exact refSign_stop s _ w hs rfl (by
          rw [h0]
          rcases hn with h | h | h | h | h <;> rw [h]
          · exact .inl rfl
          · exact .inr (.inl rfl)
          · exact .inr (.inr (.inl rfl))
          · exact .inr (.inr (.inr (.inl rfl)))
          · exact .inr (.inr (.inr (.inr rfl))))
      · have hst : ¬(c = 10 ∨ heldL.contains c = true) := by
          intro h
          rcases h with h | h
          · exact hn (.inl h)
          · rw [List.contains_iff_mem] at h
            simp only [heldL, List.mem_cons, List.not_mem_nil, or_false] at h
            rcases h with h | h | h | h | h
            · exact hc h
            · exact hn (.inr (.inl h))
            · exact hn (.inr (.inr (.inl h)))
            · exact hn (.inr (.inr (.inr (.inl h))))
            · exact hn (.inr (.inr (.inr (.inr h))))
        rw [if_neg hst]
        exact refSign_plain s _ w hs (by rw [h0]) (ne 10 fun h => hn (.inl h)) (ne 93 fun h => hn (.inr (.inl h))) (ne 91 fun h => hn (.inr (.inr (.inl h)))) (ne 94 fun h => hn (.inr (.inr (.inr (.inl h)))))
          (ne 45 fun h => hn (.inr (.inr (.inr (.inr h))))) (by
            show (!((c.toNat : Int) == 92)) = true
            rw [show (92 : Int) = ((92 : UInt8).toNat : Int) from rfl, ne 92 hc]; rfl)
end Go.Proofs.Ytkgpnlldlekcbaa
