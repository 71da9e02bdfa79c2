/- Packed texts: ClsSign2, ReRefOne, MaAtom, MaPiece. What each of them proves stands above its theorems; the conditions stand in these. -/
import Derived.Deep.LoopGhost
import Derived.Test.YtgffmbdbjbhocaaS0
import Derived.Test.YtgffmbdbjbhocaaS7
import Derived.Test.YtgffmbdbjbhocaaS8
namespace Go.Proofs.Ytgffmbdbjbhocaa
open Go.RowKit Go.Lib

theorem byte_at {s : ByteArray} {l : List UInt8} (h : s.data.toList = l) {i : Nat} {d : UInt8} (hd : l[i]? = some d) (hs : i < s.size) : s[i] = d := by
  have : s.data.toList[i]? = some s[i] := by rw [List.getElem?_eq_getElem (by rw [Array.length_toList]; exact hs)]; rfl
  rw [h, hd] at this
  exact (Option.some.inj this).symm
theorem sign_byte {x : Int} (h0 : 0 ≤ x) (h1 : x < 256) : Ending.returned (.tuple #[.int .u8 (x % 256), .int .i64 4, .int .i64 0]) = signE (some (x, 4)) := by
  rw [Int.emod_eq_of_lt h0 h1]; rfl
set_option maxHeartbeats 2000000 in
set_option maxRecDepth 20000 in
theorem refSign_short (s : ByteArray) (d : UInt8) (E : Ending) (w : World) (hs : 0 < s.size) (hs2 : 1 < s.size) (hx : (s[0].toNat : Int) = 92) (hd : s[1] = d) (hcond : s.size < 4)
    (hyes : namedL.contains d = true → E = signE (some ((d.toNat : Int), 2))) (hno : namedL.contains d = false → E = signE none) :
    Calls Try.prog 81 #[.string s] w fun e w' => e = E ∧ Below w.heap.size w w' := by
  have HY := Lib.hid hyes
  have HN := Lib.hid hno
  clear hyes hno
  go_enter Try.func81, Try.ntmps81
  go_wp2
  go_loopg [7] 16 (fun n i wr => ∃ k : Nat, k ≤ 16 ∧ i = .int .i64 k ∧ Hid (n + k = 16) ∧ Hid (∀ j, j < k → namedL[j]? ≠ some d) ∧ Hid (Below w.heap.size w wr))
  case atStart => exact ⟨0, Nat.zero_le _, rfl, rfl, fun j hj => by omega, Below.refl _ _⟩
  case round =>
    obtain ⟨k, hk, rfl, HK, HJ, HB⟩ := hrel
    by_cases hlt : k < 16
    · have hsz : k < (⟨#[92, 93, 91, 94, 45, 47, 46, 42, 43, 63, 40, 41, 124, 123, 125, 36]⟩ : ByteArray).size := hlt
      obtain ⟨m, hm⟩ : ∃ m, (⟨#[92, 93, 91, 94, 45, 47, 46, 42, 43, 63, 40, 41, 124, 123, 125, 36]⟩ : ByteArray)[k] = m := ⟨_, rfl⟩
      have hat : namedL[k]? = some m := by rw [← hm]; exact List.getElem?_eq_getElem (by exact hlt)
      have HA := Lib.hid hat
      clear hat
      by_cases hdm : d = m
      · subst hdm
        have hdd : ((d.toNat : Int) == (d.toNat : Int)) = true := by simp
        go_wp2
        go_quiet (fail)
        go_wp2
        refine bodyPost_ret (results_tmp3 rfl _ _ _) rfl ⟨?_, below_draws HB.out _⟩
        rw [HY.out (by rw [List.contains_iff_mem]; exact List.mem_of_getElem? HA.out)]
        first | rfl | (rw [hd0]; rfl)
      · have hne := ne_int hdm
        have HJ2 : Hid (∀ j, j < k + 1 → namedL[j]? ≠ some d) := fun j hj => by
          by_cases hjk : j = k
          · rw [hjk, HA.out]
            intro e
            exact hdm (Option.some.inj e).symm
          · exact HJ.out j (by omega)
        go_wp2
        go_quiet (fail)
        go_wp2
        go_roundg (gk - 1)
        case measure => have h1 := HK.out; omega
        case rel => exact ⟨k + 1, by omega, by go_num, by have h1 := HK.out; show _ = _; omega, HJ2, below_draws HB.out _⟩
    · obtain rfl : k = 16 := by omega
      have hE := HN.out (by
        cases hc : namedL.contains d with
        | false => rfl
        | true =>
          obtain ⟨j, hj⟩ := List.mem_iff_getElem?.1 (List.contains_iff_mem.1 hc)
          have hj16 : j < 16 := (List.getElem?_eq_some_iff.1 hj).1
          exact absurd hj (HJ.out j hj16))
      have HE := Lib.hid hE
      clear hE
      go_wp2
      all_goals first
        | (exfalso; omega)
        | (refine bodyPost_ret (results_tmp3 rfl _ _ _) rfl ⟨?_, HB.out⟩; rw [HE.out]; rfl)

set_option maxHeartbeats 2000000 in
set_option maxRecDepth 20000 in
theorem refSign_other (s : ByteArray) (d : UInt8) (E : Ending) (w : World) (hs : 0 < s.size) (hs2 : 1 < s.size) (hx : (s[0].toNat : Int) = 92) (hd : s[1] = d) (hcond : ((d.toNat : Int) != 120) = true)
    (hyes : namedL.contains d = true → E = signE (some ((d.toNat : Int), 2))) (hno : namedL.contains d = false → E = signE none) :
    Calls Try.prog 81 #[.string s] w fun e w' => e = E ∧ Below w.heap.size w w' := by
  have HY := Lib.hid hyes
  have HN := Lib.hid hno
  clear hyes hno
  go_enter Try.func81, Try.ntmps81
  go_wp2
  go_loopg [7] 16 (fun n i wr => ∃ k : Nat, k ≤ 16 ∧ i = .int .i64 k ∧ Hid (n + k = 16) ∧ Hid (∀ j, j < k → namedL[j]? ≠ some d) ∧ Hid (Below w.heap.size w wr))
  case atStart => exact ⟨0, Nat.zero_le _, rfl, rfl, fun j hj => by omega, Below.refl _ _⟩
  case round =>
    obtain ⟨k, hk, rfl, HK, HJ, HB⟩ := hrel
    by_cases hlt : k < 16
    · have hsz : k < (⟨#[92, 93, 91, 94, 45, 47, 46, 42, 43, 63, 40, 41, 124, 123, 125, 36]⟩ : ByteArray).size := hlt
      obtain ⟨m, hm⟩ : ∃ m, (⟨#[92, 93, 91, 94, 45, 47, 46, 42, 43, 63, 40, 41, 124, 123, 125, 36]⟩ : ByteArray)[k] = m := ⟨_, rfl⟩
      have hat : namedL[k]? = some m := by rw [← hm]; exact List.getElem?_eq_getElem (by exact hlt)
      have HA := Lib.hid hat
      clear hat
      by_cases hdm : d = m
      · subst hdm
        have hdd : ((d.toNat : Int) == (d.toNat : Int)) = true := by simp
        go_wp2
        go_quiet (fail)
        go_wp2
        refine bodyPost_ret (results_tmp3 rfl _ _ _) rfl ⟨?_, below_draws HB.out _⟩
        rw [HY.out (by rw [List.contains_iff_mem]; exact List.mem_of_getElem? HA.out)]
        first | rfl | (rw [hd0]; rfl)
      · have hne := ne_int hdm
        have HJ2 : Hid (∀ j, j < k + 1 → namedL[j]? ≠ some d) := fun j hj => by
          by_cases hjk : j = k
          · rw [hjk, HA.out]
            intro e
            exact hdm (Option.some.inj e).symm
          · exact HJ.out j (by omega)
        go_wp2
        go_quiet (fail)
        go_wp2
        go_roundg (gk - 1)
        case measure => have h1 := HK.out; omega
        case rel => exact ⟨k + 1, by omega, by go_num, by have h1 := HK.out; show _ = _; omega, HJ2, below_draws HB.out _⟩
    · obtain rfl : k = 16 := by omega
      have hE := HN.out (by
        cases hc : namedL.contains d with
        | false => rfl
        | true =>
          obtain ⟨j, hj⟩ := List.mem_iff_getElem?.1 (List.contains_iff_mem.1 hc)
          have hj16 : j < 16 := (List.getElem?_eq_some_iff.1 hj).1
          exact absurd hj (HJ.out j hj16))
      have HE := Lib.hid hE
      clear hE
      go_wp2
      all_goals first
        | (exfalso; omega)
        | (refine bodyPost_ret (results_tmp3 rfl _ _ _) rfl ⟨?_, HB.out⟩; rw [HE.out]; rfl)

set_option maxHeartbeats 2000000 in
set_option maxRecDepth 20000 in
theorem refSign_bad (s : ByteArray) (d : UInt8) (E : Ending) (w : World) (hs : 0 < s.size) (hs2 : 1 < s.size) (hx : (s[0].toNat : Int) = 92) (hd : s[1] = d) (hs4 : 4 ≤ s.size) (hs3 : 3 < s.size) (hs3' : 2 < s.size) (hd0 : (d.toNat : Int) = 120) (a b : UInt8) (ha : s[2] = a) (hb : s[3] = b) (p q : Int)
    (c1 : ∀ w, Calls Try.prog 112 #[.int .u8 (a.toNat : Int)] w fun e w' => e = .returned (.int .i64 p) ∧ w = w')
    (c2 : ∀ w, Calls Try.prog 112 #[.int .u8 (b.toNat : Int)] w fun e w' => e = .returned (.int .i64 q) ∧ w = w') (hp1 : p ≤ 15) (hq1 : q ≤ 15) (hpq : p < 0 ∨ q < 0)
    (hyes : namedL.contains d = true → E = signE (some ((d.toNat : Int), 2))) (hno : namedL.contains d = false → E = signE none) :
    Calls Try.prog 81 #[.string s] w fun e w' => e = E ∧ Below w.heap.size w w' := by
  have HY := Lib.hid hyes
  have HN := Lib.hid hno
  clear hyes hno
  go_enter Try.func81, Try.ntmps81
  go_wp2
  go_loopg [7] 16 (fun n i wr => ∃ k : Nat, k ≤ 16 ∧ i = .int .i64 k ∧ Hid (n + k = 16) ∧ Hid (∀ j, j < k → namedL[j]? ≠ some d) ∧ Hid (Below w.heap.size w wr))
  case atStart => exact ⟨0, Nat.zero_le _, rfl, rfl, fun j hj => by omega, Below.refl _ _⟩
  case round =>
    obtain ⟨k, hk, rfl, HK, HJ, HB⟩ := hrel
    by_cases hlt : k < 16
    · have hsz : k < (⟨#[92, 93, 91, 94, 45, 47, 46, 42, 43, 63, 40, 41, 124, 123, 125, 36]⟩ : ByteArray).size := hlt
      obtain ⟨m, hm⟩ : ∃ m, (⟨#[92, 93, 91, 94, 45, 47, 46, 42, 43, 63, 40, 41, 124, 123, 125, 36]⟩ : ByteArray)[k] = m := ⟨_, rfl⟩
      have hat : namedL[k]? = some m := by rw [← hm]; exact List.getElem?_eq_getElem (by exact hlt)
      have HA := Lib.hid hat
      clear hat
      by_cases hdm : d = m
      · subst hdm
        have hdd : ((d.toNat : Int) == (d.toNat : Int)) = true := by simp
        go_wp2
        go_quiet (fail)
        go_wp2
        refine bodyPost_ret (results_tmp3 rfl _ _ _) rfl ⟨?_, below_draws HB.out _⟩
        rw [HY.out (by rw [List.contains_iff_mem]; exact List.mem_of_getElem? HA.out)]
        first | rfl | (rw [hd0]; rfl)
      · have hne := ne_int hdm
        have HJ2 : Hid (∀ j, j < k + 1 → namedL[j]? ≠ some d) := fun j hj => by
          by_cases hjk : j = k
          · rw [hjk, HA.out]
            intro e
            exact hdm (Option.some.inj e).symm
          · exact HJ.out j (by omega)
        go_wp2
        go_quiet (fail)
        go_wp2
        go_roundg (gk - 1)
        case measure => have h1 := HK.out; omega
        case rel => exact ⟨k + 1, by omega, by go_num, by have h1 := HK.out; show _ = _; omega, HJ2, below_draws HB.out _⟩
    · obtain rfl : k = 16 := by omega
      have hE := HN.out (by
        cases hc : namedL.contains d with
        | false => rfl
        | true =>
          obtain ⟨j, hj⟩ := List.mem_iff_getElem?.1 (List.contains_iff_mem.1 hc)
          have hj16 : j < 16 := (List.getElem?_eq_some_iff.1 hj).1
          exact absurd hj (HJ.out j hj16))
      have HE := Lib.hid hE
      clear hE
      go_wp2_with (go_at_call 112; first | (with_reducible refine (c1 _).mono ?_; rintro e w1 ⟨rfl, rfl⟩) | (with_reducible refine (c2 _).mono ?_; rintro e w1 ⟨rfl, rfl⟩))
      all_goals first
        | (exfalso; omega)
        | (refine bodyPost_ret (results_tmp3 rfl _ _ _) rfl ⟨?_, HB.out⟩; rw [HE.out]; rfl)

set_option maxHeartbeats 2000000 in
set_option maxRecDepth 20000 in
theorem refSign_good (s : ByteArray) (d : UInt8) (E : Ending) (w : World) (hs : 0 < s.size) (hs2 : 1 < s.size) (hx : (s[0].toNat : Int) = 92) (hd : s[1] = d) (hs4 : 4 ≤ s.size) (hs3 : 3 < s.size) (hs3' : 2 < s.size) (hd0 : (d.toNat : Int) = 120) (a b : UInt8) (ha : s[2] = a) (hb : s[3] = b) (p q : Int)
    (c1 : ∀ w, Calls Try.prog 112 #[.int .u8 (a.toNat : Int)] w fun e w' => e = .returned (.int .i64 p) ∧ w = w')
    (c2 : ∀ w, Calls Try.prog 112 #[.int .u8 (b.toNat : Int)] w fun e w' => e = .returned (.int .i64 q) ∧ w = w') (hp0 : 0 ≤ p) (hp1 : p ≤ 15) (hq0 : 0 ≤ q) (hq1 : q ≤ 15)
    (hyes : namedL.contains d = true → E = signE (some ((d.toNat : Int), 2))) (hno : namedL.contains d = false → E = signE (some ((16 : Int) * p + q, 4))) :
    Calls Try.prog 81 #[.string s] w fun e w' => e = E ∧ Below w.heap.size w w' := by
  have HY := Lib.hid hyes
  have HN := Lib.hid hno
  clear hyes hno
  go_enter Try.func81, Try.ntmps81
  go_wp2
  go_loopg [7] 16 (fun n i wr => ∃ k : Nat, k ≤ 16 ∧ i = .int .i64 k ∧ Hid (n + k = 16) ∧ Hid (∀ j, j < k → namedL[j]? ≠ some d) ∧ Hid (Below w.heap.size w wr))
  case atStart => exact ⟨0, Nat.zero_le _, rfl, rfl, fun j hj => by omega, Below.refl _ _⟩
  case round =>
    obtain ⟨k, hk, rfl, HK, HJ, HB⟩ := hrel
    by_cases hlt : k < 16
    · have hsz : k < (⟨#[92, 93, 91, 94, 45, 47, 46, 42, 43, 63, 40, 41, 124, 123, 125, 36]⟩ : ByteArray).size := hlt
      obtain ⟨m, hm⟩ : ∃ m, (⟨#[92, 93, 91, 94, 45, 47, 46, 42, 43, 63, 40, 41, 124, 123, 125, 36]⟩ : ByteArray)[k] = m := ⟨_, rfl⟩
      have hat : namedL[k]? = some m := by rw [← hm]; exact List.getElem?_eq_getElem (by exact hlt)
      have HA := Lib.hid hat
      clear hat
      by_cases hdm : d = m
      · subst hdm
        have hdd : ((d.toNat : Int) == (d.toNat : Int)) = true := by simp
        go_wp2
        go_quiet (fail)
        go_wp2
        refine bodyPost_ret (results_tmp3 rfl _ _ _) rfl ⟨?_, below_draws HB.out _⟩
        rw [HY.out (by rw [List.contains_iff_mem]; exact List.mem_of_getElem? HA.out)]
        first | rfl | (rw [hd0]; rfl)
      · have hne := ne_int hdm
        have HJ2 : Hid (∀ j, j < k + 1 → namedL[j]? ≠ some d) := fun j hj => by
          by_cases hjk : j = k
          · rw [hjk, HA.out]
            intro e
            exact hdm (Option.some.inj e).symm
          · exact HJ.out j (by omega)
        go_wp2
        go_quiet (fail)
        go_wp2
        go_roundg (gk - 1)
        case measure => have h1 := HK.out; omega
        case rel => exact ⟨k + 1, by omega, by go_num, by have h1 := HK.out; show _ = _; omega, HJ2, below_draws HB.out _⟩
    · obtain rfl : k = 16 := by omega
      have hE := HN.out (by
        cases hc : namedL.contains d with
        | false => rfl
        | true =>
          obtain ⟨j, hj⟩ := List.mem_iff_getElem?.1 (List.contains_iff_mem.1 hc)
          have hj16 : j < 16 := (List.getElem?_eq_some_iff.1 hj).1
          exact absurd hj (HJ.out j hj16))
      have HE := Lib.hid hE
      clear hE
      go_wp2_with (go_at_call 112; first | (with_reducible refine (c1 _).mono ?_; rintro e w1 ⟨rfl, rfl⟩) | (with_reducible refine (c2 _).mono ?_; rintro e w1 ⟨rfl, rfl⟩))
      refine bodyPost_ret (results_tmp3 rfl _ _ _) rfl ⟨?_, HB.out⟩
      rw [HE.out]
      first | rfl | exact sign_byte (by omega) (by omega)

theorem refSign_any (s : ByteArray) (w : World) : Calls Try.prog 81 #[.string s] w fun e w' => e = signE (signD s.data.toList) ∧ Below w.heap.size w w' := by
  obtain ⟨l, hl⟩ : ∃ l, s.data.toList = l := ⟨_, rfl⟩
  rw [hl]
  have hz := size_list hl
  cases l with
  | nil => exact refSign_empty s w (by rw [hz]; simp)
  | cons c r =>
    have hs : 0 < s.size := by rw [hz]; simp
    have h0 := byte0 hl hs
    by_cases hc : c = 92
    · have hx : (s[0].toNat : Int) = 92 := by rw [h0, hc]; rfl
      cases r with
      | nil =>
        have h := refSign_alone s w hs (by rw [hz]; simp) hx
        rw [show signD [c] = none by simp [signD, hc]]
        exact h
      | cons d t =>
        have hs2 : 1 < s.size := by rw [hz]; simp
        have h1 := byte1 hl hs2
        have e : signD (c :: d :: t) = if d = 120 then toldD t else if namedL.contains d = true then some ((d.toNat : Int), 2) else none := by simp only [signD, if_pos hc]
        rw [e]
        by_cases hd : d = 120
        · have hno : namedL.contains d = false := by rw [hd]; rfl
          rw [if_pos hd]
          have hd0 : (d.toNat : Int) = 120 := by rw [hd]; rfl
          match t, hl, hz with
          | [], _, hz => exact refSign_short s d _ w hs hs2 hx h1 (by rw [hz]; simp) (fun h => by rw [hno] at h; cases h) (fun _ => rfl)
          | [_], _, hz => exact refSign_short s d _ w hs hs2 hx h1 (by rw [hz]; simp) (fun h => by rw [hno] at h; cases h) (fun _ => rfl)
          | a :: b :: t, hl, hz =>
            have hs4 : 4 ≤ s.size := by rw [hz]; simp
            have h2 : s[2] = a := byte_at hl rfl _
            have h3 : s[3] = b := byte_at hl rfl _
            have g1 := digN_ge a
            have g2 := digN_ge b
            by_cases hpq : digN a < 0 ∨ digN b < 0
            · have e2 : toldD (a :: b :: t) = none := by simp only [toldD, if_pos hpq]
              rw [e2]
              exact refSign_bad s d _ w hs hs2 hx h1 hs4 (by omega) (by omega) hd0 a b h2 h3 _ _ (fun w => refDigit_any a w) (fun w => refDigit_any b w) g1.2 g2.2 hpq (fun h => by rw [hno] at h; cases h) (fun _ => rfl)
            · have e2 : toldD (a :: b :: t) = some ((16 : Int) * digN a + digN b, 4) := by simp only [toldD, if_neg hpq]
              rw [e2]
              exact refSign_good s d _ w hs hs2 hx h1 hs4 (by omega) (by omega) hd0 a b h2 h3 _ _ (fun w => refDigit_any a w) (fun w => refDigit_any b w) (by omega) g1.2 (by omega) g2.2 (fun h => by rw [hno] at h; cases h) (fun _ => rfl)
        · rw [if_neg hd]
          have hne : ((d.toNat : Int) != 120) = true := by
            have := ne_int hd
            show (!((d.toNat : Int) == 120)) = true
            rw [show (120 : Int) = ((120 : UInt8).toNat : Int) from rfl, this]; rfl
          exact refSign_other s d _ w hs hs2 hx h1 hne (fun h => by rw [if_pos h]) (fun h => by rw [h]; rfl)
    · have e : signD (c :: r) = if c = 10 ∨ heldL.contains c = true then none else some ((c.toNat : Int), 1) := by simp only [signD, if_neg hc]
      rw [e]
      have ne := fun (y : UInt8) (h : c ≠ y) => ne_int h
      by_cases hn : c = 10 ∨ c = 93 ∨ c = 91 ∨ c = 94 ∨ c = 45
      · have hst : c = 10 ∨ heldL.contains c = true := by
          rcases hn with h | h | h | h | h
          · exact .inl h
          all_goals exact .inr (by rw [h]; rfl)
        rw [if_pos hst]
        exact refSign_stop s _ w hs rfl (by
          rw [h0]
          rcases hn with h | h | h | h | h <;> rw [h]
          · exact .inl rfl
          · exact .inr (.inl rfl)
          · exact .inr (.inr (.inl rfl))
          · exact .inr (.inr (.inr (.inl rfl)))
          · exact .inr (.inr (.inr (.inr rfl))))
      · have hst : ¬(c = 10 ∨ heldL.contains c = true) := by
          intro h
          rcases h with h | h
          · exact hn (.inl h)
          · rw [List.contains_iff_mem] at h
            simp only [heldL, List.mem_cons, List.not_mem_nil, or_false] at h
            rcases h with h | h | h | h | h
            · exact hc h
            · exact hn (.inr (.inl h))
            · exact hn (.inr (.inr (.inl h)))
            · exact hn (.inr (.inr (.inr (.inl h))))
            · exact hn (.inr (.inr (.inr (.inr h))))
        rw [if_neg hst]
        exact refSign_plain s _ w hs (by rw [h0]) (ne 10 fun h => hn (.inl h)) (ne 93 fun h => hn (.inr (.inl h))) (ne 91 fun h => hn (.inr (.inr (.inl h)))) (ne 94 fun h => hn (.inr (.inr (.inr (.inl h)))))
          (ne 45 fun h => hn (.inr (.inr (.inr (.inr h))))) (by
            show (!((c.toNat : Int) == 92)) = true
            rw [show (92 : Int) = ((92 : UInt8).toNat : Int) from rfl, ne 92 hc]; rfl)
end Go.Proofs.Ytgffmbdbjbhocaa
namespace Go.Proofs.Ytgffmbdbjbhocaa
open Go.RowKit Go.Lib

theorem four_staysR {w w1 w2 : World} {p q r s : Value} {t : TypeId} (hw : w1 = w.alloc (.cells #[p, q, r, s] t)) (hb : Below w1.heap.size w1 w2) : w2.heap[w.heap.size]? = some (.cells #[p, q, r, s] t (0, 0)) := by
  subst hw
  exact (hb.block _ (by simp)).trans (heap_alloc_new w _)
theorem has_zeroK (d : Nat) : has zeroK d = false := by simp [has, zeroK]
set_option maxHeartbeats 1000000 in
set_option maxRecDepth 20000 in
theorem refOne_any (x : Int) (w : World) (hx0 : 0 ≤ x) (hx1 : x ≤ 255) :
    Calls Try.prog 60 #[.int .u8 x] w fun e w' => e = .returned (clsV (oneK x.toNat)) ∧ Below w.heap.size w w' := by
  have k0 := fun w => with_any zeroK x w hx0 hx1
  have e1 : clsV (addK zeroK x.toNat) = clsV (oneK x.toNat) := clsV_ext fun d hd => by
    rw [has_add, has_one, has_zeroK, Bool.false_or]
  rw [e1] at k0
  have k : ∀ w, Calls Try.prog 79 #[.agg #[.int .u64 0, .int .u64 0, .int .u64 0, .int .u64 0], .int .u8 x] w fun e w' => e = .returned (four ((oneK x.toNat 0).toNat : Int) ((oneK x.toNat 1).toNat : Int) ((oneK x.toNat 2).toNat : Int) ((oneK x.toNat 3).toNat : Int)) ∧ Below w.heap.size w w' := k0
  clear k0 e1
  rw [four_cls]
  obtain ⟨a, ha⟩ : ∃ a, a = ((oneK x.toNat 0).toNat : Int) := ⟨_, rfl⟩
  obtain ⟨b, hb⟩ : ∃ a, a = ((oneK x.toNat 1).toNat : Int) := ⟨_, rfl⟩
  obtain ⟨c, hc⟩ : ∃ a, a = ((oneK x.toNat 2).toNat : Int) := ⟨_, rfl⟩
  obtain ⟨d, hd⟩ : ∃ a, a = ((oneK x.toNat 3).toNat : Int) := ⟨_, rfl⟩
  rw [← ha, ← hb, ← hc, ← hd] at k ⊢
  clear ha hb hc hd
  unfold four at k ⊢
  go_enter Try.func60, Try.ntmps60
  go_wp2_with (first
    | (go_at_call 79; refine (k _).mono ?_; rintro en w1 ⟨rfl, hb1⟩; clear k
       have hg0 := four_staysR rfl hb1
       obtain ⟨⟨c0, c1, c2, c3⟩, f0, f1, f2, f3⟩ := res_four hg0
       have HG := Lib.hid hg0
       have H1 := Lib.hid hb1
       clear hg0 hb1))
  have hh := set_four (.int .u64 a) (.int .u64 b) (.int .u64 c) (.int .u64 d) HG.out
  have hB := below_four (((Below.refl _ w).alloc (Nat.le_refl _) _).trans (H1.out.mono (by simp))) (Nat.le_refl _) (.int .u64 a) (.int .u64 b) (.int .u64 c) (.int .u64 d)
  exact bodyPost_ret (v := .agg _) (results_cell_row (p := 2) (ty := 54) Try.results60 _ _ w.heap.size 54 _ (0, 0) _ rfl hh Try.underlying54 rfl Try.infoCls) rfl ⟨rfl, hB⟩

end Go.Proofs.Ytgffmbdbjbhocaa
namespace Go.Proofs.Ytgffmbdbjbhocaa
open Go.RowKit Go.Lib

theorem is_no (B pb a : Nat) (s : ByteArray) (ts : List Nd) (ch : UInt8) (n : Int) (hn : (ch.toNat : Int) = n) (hno : ¬ s.data.toList[a]? = some ch) (w : World) (h : Ps B pb s a ts w) :
    Calls Try.prog 124 #[.pointer (some ⟨pb, 0, none⟩), .int .u8 n] w fun e w' => e = .returned (.bool false) ∧ Below w.heap.size w w' := by
  have := is_any B pb a s ts ch w h
  rw [decide_eq_false hno, hn] at this
  exact this
theorem is_yes (B pb a : Nat) (s : ByteArray) (ts : List Nd) (ch : UInt8) (n : Int) (hn : (ch.toNat : Int) = n) (hyes : s.data.toList[a]? = some ch) (w : World) (h : Ps B pb s a ts w) :
    Calls Try.prog 124 #[.pointer (some ⟨pb, 0, none⟩), .int .u8 n] w fun e w' => e = .returned (.bool true) ∧ Below w.heap.size w w' := by
  have := is_any B pb a s ts ch w h
  rw [decide_eq_true hyes, hn] at this
  exact this
theorem Ps.cells {B pb a : Nat} {s : ByteArray} {ts : List Nd} {w : World} (h : Ps B pb s a ts w) : w.cell? ⟨pb, 0, none⟩ = some (.string s) ∧ w.cell? ⟨pb, 1, none⟩ = some (.int .i64 (a : Int)) ∧ w.cell? ⟨pb, 4, none⟩ = some (.int .i64 0) := by
  obtain ⟨v, hb, -⟩ := h.blk
  obtain ⟨c0, c1, c2, c3, c4⟩ := five_cells hb
  exact ⟨c0, c1, c4⟩
theorem Ps.froz {B pb a : Nat} {s : ByteArray} {ts : List Nd} {w : World} (h : Ps B pb s a ts w) : w.frozen? ⟨pb, 1, none⟩ = false := by
  obtain ⟨v, hb, -⟩ := h.blk
  exact frozen_of_heap hb 1
theorem Ps.set {B pb a : Nat} {s : ByteArray} {ts : List Nd} {w : World} (h : Ps B pb s a ts w) (a' : Nat) : Ps B pb s a' ts (w.setCell ⟨pb, 1, none⟩ (.int .i64 (a' : Int))) ∧ Below B w (w.setCell ⟨pb, 1, none⟩ (.int .i64 (a' : Int))) := by
  obtain ⟨v, hb, ho⟩ := h.blk
  refine ⟨⟨⟨v, by simpa using heap_setCell_same w pb 1 _ _ (Value.int .i64 (a' : Int)) hb, owns_same ho fun q hq => Below.heap_setCell _ _ _ _ (fun e => ?_)⟩, ⟨h.hB.1, by simpa [World.setCell] using h.hB.2⟩, h.sml⟩, (Below.refl _ w).setCell (p := ⟨pb, 1, none⟩) h.hB.1 _⟩
  have e : q = pb := e
  subst e
  rcases ho.2 with ⟨hv, _⟩ | ⟨g', _, cur, hv, _, hh, _⟩
  · rw [hv] at hq; cases hq
  · rw [hv] at hq
    cases hq
    have e2 := hb.symm.trans hh
    injection e2 with e2
    injection e2 with _ e2 _
    exact absurd e2 (by decide)
set_option maxHeartbeats 8000000 in
set_option maxRecDepth 20000 in
theorem atom_any (B pb : Nat) (c q : UInt8) (s : ByteArray) (w : World) (hs : s = ⟨#[c, q]⟩) (h : Ps B pb s 0 [] w) (hx : c ≠ 40 ∧ c ≠ 46 ∧ c ≠ 94 ∧ c ≠ 36 ∧ c ≠ 91) (hy : (c.toNat : Int) ≠ 42 ∧ (c.toNat : Int) ≠ 43 ∧ (c.toNat : Int) ≠ 63 ∧ (c.toNat : Int) ≠ 41 ∧ (c.toNat : Int) ≠ 124 ∧ (c.toNat : Int) ≠ 123 ∧ (c.toNat : Int) ≠ 125 ∧ (c.toNat : Int) ≠ 47)
    (hsig : signD [c, q] = some ((c.toNat : Int), 1)) :
    Calls Try.prog 162 #[.pointer (some ⟨pb, 0, none⟩)] w fun e w' => e = .returned (.int .i64 0) ∧ Ps B pb s 1 [⟨1, k4 (oneK c.toNat), 0, 0⟩] w' ∧ Below B w w' := by
  have hl : s.data.toList = [c, q] := by rw [hs]
  have hz : s.size = 2 := by rw [hs]; rfl
  have no : ∀ (ch : UInt8), c ≠ ch → ¬ s.data.toList[0]? = some ch := fun ch hne he => by rw [hl] at he; exact hne (by simpa using he)
  have k40 := is_no B pb 0 s [] 40 40 rfl (no _ hx.1)
  have k46 := is_no B pb 0 s [] 46 46 rfl (no _ hx.2.1)
  have k94 := is_no B pb 0 s [] 94 94 rfl (no _ hx.2.2.1)
  have k36 := is_no B pb 0 s [] 36 36 rfl (no _ hx.2.2.2.1)
  have k91 := is_no B pb 0 s [] 91 91 rfl (no _ hx.2.2.2.2)
  obtain ⟨y1, y2, y3, y4, y5, y6, y7, y8⟩ := hy
  have f1 : ((c.toNat : Int) == 42) = false := beq_eq_false_iff_ne.2 y1
  have f2 : ((c.toNat : Int) == 43) = false := beq_eq_false_iff_ne.2 y2
  have f3 : ((c.toNat : Int) == 63) = false := beq_eq_false_iff_ne.2 y3
  have f4 : ((c.toNat : Int) == 41) = false := beq_eq_false_iff_ne.2 y4
  have f5 : ((c.toNat : Int) == 124) = false := beq_eq_false_iff_ne.2 y5
  have f6 : ((c.toNat : Int) == 123) = false := beq_eq_false_iff_ne.2 y6
  have f7 : ((c.toNat : Int) == 125) = false := beq_eq_false_iff_ne.2 y7
  have f8 : ((c.toNat : Int) == 47) = false := beq_eq_false_iff_ne.2 y8
  have hat : ∀ h : 0 < s.size, s[0] = c := fun h => by subst hs; rfl
  have hex : s.extract 0 2 = s := by subst hs; rfl
  have ks := fun w => refSign_any s w
  rw [hl, hsig] at ks
  have ko : ∀ w, Calls Try.prog 60 #[.int .u8 (c.toNat : Int)] w fun e w' => e = .returned (.agg #[.int .u64 ((k4 (oneK c.toNat)).a.toNat : Int), .int .u64 ((k4 (oneK c.toNat)).b.toNat : Int), .int .u64 ((k4 (oneK c.toNat)).c.toNat : Int), .int .u64 ((k4 (oneK c.toNat)).d.toNat : Int)]) ∧ Below w.heap.size w w' := fun w => refOne_any (c.toNat : Int) w (by omega) (by have := c.toNat_lt; omega)
  obtain ⟨K, hK⟩ : ∃ K, K = k4 (oneK c.toNat) := ⟨_, rfl⟩
  rw [← hK] at ko ⊢
  have kl := fun w h => lay_any B pb 1 s [] 1 0 0 K w h (by decide)
  unfold signE at ks
  have HP := Lib.hid h
  have HB := Lib.hid (Below.refl B w)
  have hs0 : (0 : Int) < (s.size : Int) := by omega
  have hs0' : 0 < s.size := by omega
  clear h hs no hx y1 y2 y3 y4 y5 y6 y7 y8 hl hsig hK
  have hat0 := hat hs0'
  go_enter Try.func162, Try.ntmps162
  go_wp2_with (first
    | (go_at_call 124; first
          | (with_reducible refine (k40 _ HP.out).mono ?_; rintro e w40 ⟨rfl, hb40⟩; replace HB := Lib.hid (HB.out.trans (hb40.mono HP.out.hB.2)); replace HP := Lib.hid (HP.out.below hb40); clear k40 hb40)
          | (with_reducible refine (k46 _ HP.out).mono ?_; rintro e w46 ⟨rfl, hb46⟩; replace HB := Lib.hid (HB.out.trans (hb46.mono HP.out.hB.2)); replace HP := Lib.hid (HP.out.below hb46); clear k46 hb46)
          | (with_reducible refine (k94 _ HP.out).mono ?_; rintro e w94 ⟨rfl, hb94⟩; replace HB := Lib.hid (HB.out.trans (hb94.mono HP.out.hB.2)); replace HP := Lib.hid (HP.out.below hb94); clear k94 hb94)
          | (with_reducible refine (k36 _ HP.out).mono ?_; rintro e w36 ⟨rfl, hb36⟩; replace HB := Lib.hid (HB.out.trans (hb36.mono HP.out.hB.2)); replace HP := Lib.hid (HP.out.below hb36); clear k36 hb36)
          | (with_reducible refine (k91 _ HP.out).mono ?_; rintro e w91 ⟨rfl, hb91⟩; replace HB := Lib.hid (HB.out.trans (hb91.mono HP.out.hB.2)); replace HP := Lib.hid (HP.out.below hb91); clear k91 hb91))
    | fail)
  obtain ⟨g0, g1, g4⟩ := HP.out.cells
  refine wp_region_held_drew (S := fun W' => W'.cell? ⟨pb, 0, none⟩ = some (.string s) ∧ W'.cell? ⟨pb, 1, none⟩ = some (.int .i64 ((0 : Nat) : Int))) (by kernel_rfl) ⟨g0, g1⟩ (fun hHeld => ?_)
  refine wpAnyH_take (i := 0) (v := ?_) rfl (by kernel_rfl) (by kernel_rfl) (by kernel_rfl) (fun _ _ _ h => h) ?_ hHeld ?_; rotate_left; · (simp only [List.getElem_toArray, List.getElem_cons_zero]; refine Or.inl ⟨by rfl, ?_⟩; intro w hSw; (try dsimp only at hSw); obtain ⟨s1, s2⟩ := hSw; go_simp; try with_reducible rfl)
  try simp only [List.getElem_toArray, List.getElem_cons_zero, Act.put, List.setIfInBounds_toArray, List.set_cons_zero, List.set_cons_succ]
  refine wpAnyH_take (i := 1) (v := ?_) rfl (by kernel_rfl) (by kernel_rfl) (by kernel_rfl) (fun _ _ _ h => h) ?_ hHeld ?_; rotate_left; · (simp only [List.getElem_toArray, List.getElem_cons_succ, List.getElem_cons_zero]; refine Or.inl ⟨by rfl, ?_⟩; intro w hSw; (try dsimp only at hSw); obtain ⟨s1, s2⟩ := hSw; go_simp; try with_reducible rfl)
  try simp only [List.getElem_toArray, List.getElem_cons_succ, List.getElem_cons_zero, Act.put, List.setIfInBounds_toArray, List.set_cons_zero, List.set_cons_succ]
  refine wpAnyH_take (i := 2) (v := ?_) rfl (by kernel_rfl) (by kernel_rfl) (by kernel_rfl) (fun _ _ _ h => h) ?_ hHeld ?_; rotate_left; · (simp only [List.getElem_toArray, List.getElem_cons_succ, List.getElem_cons_zero]; refine Or.inl ⟨by rfl, ?_⟩; intro w hSw; (try dsimp only at hSw); obtain ⟨s1, s2⟩ := hSw; go_simp; try with_reducible rfl)
  try simp only [List.getElem_toArray, List.getElem_cons_succ, List.getElem_cons_zero, Act.put, List.setIfInBounds_toArray, List.set_cons_zero, List.set_cons_succ]
  refine wpAnyH_take (i := 3) (v := ?_) rfl (by kernel_rfl) (by kernel_rfl) (by kernel_rfl) (fun _ _ _ h => h) ?_ hHeld ?_; rotate_left; · (simp only [List.getElem_toArray, List.getElem_cons_succ, List.getElem_cons_zero]; refine Or.inl ⟨by rfl, ?_⟩; intro w hSw; (try dsimp only at hSw); obtain ⟨s1, s2⟩ := hSw; go_simp; try with_reducible rfl)
  try simp only [List.getElem_toArray, List.getElem_cons_succ, List.getElem_cons_zero, Act.put, List.setIfInBounds_toArray, List.set_cons_zero, List.set_cons_succ]
  refine wpAnyH_take (i := 4) (v := ?_) rfl (by kernel_rfl) (by kernel_rfl) (by kernel_rfl) (fun _ _ _ h => h) ?_ hHeld ?_; rotate_left; · (simp only [List.getElem_toArray, List.getElem_cons_succ, List.getElem_cons_zero]; refine Or.inl ⟨by rfl, ?_⟩; intro w hSw; (try dsimp only at hSw); obtain ⟨s1, s2⟩ := hSw; go_simp; try with_reducible rfl)
  try simp only [List.getElem_toArray, List.getElem_cons_succ, List.getElem_cons_zero, Act.put, List.setIfInBounds_toArray, List.set_cons_zero, List.set_cons_succ]
  refine wpAnyH_take (i := 5) (v := ?_) rfl (by kernel_rfl) (by kernel_rfl) (by kernel_rfl) (fun _ _ _ h => h) ?_ hHeld ?_; rotate_left; · (simp only [List.getElem_toArray, List.getElem_cons_succ, List.getElem_cons_zero]; refine Or.inl ⟨by rfl, ?_⟩; intro w hSw; (try dsimp only at hSw); obtain ⟨s1, s2⟩ := hSw; go_simp; try with_reducible rfl)
  try simp only [List.getElem_toArray, List.getElem_cons_succ, List.getElem_cons_zero, Act.put, List.setIfInBounds_toArray, List.set_cons_zero, List.set_cons_succ]
  refine wpAnyH_take (i := 6) (v := ?_) rfl (by kernel_rfl) (by kernel_rfl) (by kernel_rfl) (fun _ _ _ h => h) ?_ hHeld ?_; rotate_left; · (simp only [List.getElem_toArray, List.getElem_cons_succ, List.getElem_cons_zero]; refine Or.inl ⟨by rfl, ?_⟩; intro w hSw; (try dsimp only at hSw); obtain ⟨s1, s2⟩ := hSw; go_simp; try with_reducible rfl)
  try simp only [List.getElem_toArray, List.getElem_cons_succ, List.getElem_cons_zero, Act.put, List.setIfInBounds_toArray, List.set_cons_zero, List.set_cons_succ]
  refine wpAnyH_take (i := 7) (v := ?_) rfl (by kernel_rfl) (by kernel_rfl) (by kernel_rfl) (fun _ _ _ h => h) ?_ hHeld ?_; rotate_left; · (simp only [List.getElem_toArray, List.getElem_cons_succ, List.getElem_cons_zero]; refine Or.inl ⟨by rfl, ?_⟩; intro w hSw; (try dsimp only at hSw); obtain ⟨s1, s2⟩ := hSw; go_simp; try with_reducible rfl)
  try simp only [List.getElem_toArray, List.getElem_cons_succ, List.getElem_cons_zero, Act.put, List.setIfInBounds_toArray, List.set_cons_zero, List.set_cons_succ]
  refine wpAnyH_take (i := 8) (v := ?_) rfl (by kernel_rfl) (by kernel_rfl) (by kernel_rfl) (fun _ _ _ h => h) ?_ hHeld ?_; rotate_left; · (simp only [List.getElem_toArray, List.getElem_cons_succ, List.getElem_cons_zero]; refine Or.inl ⟨by rfl, ?_⟩; intro w hSw; (try dsimp only at hSw); obtain ⟨s1, s2⟩ := hSw; go_simp; try with_reducible rfl)
  try simp only [List.getElem_toArray, List.getElem_cons_succ, List.getElem_cons_zero, Act.put, List.setIfInBounds_toArray, List.set_cons_zero, List.set_cons_succ]
  refine wpAnyH_take (i := 9) (v := ?_) rfl (by kernel_rfl) (by kernel_rfl) (by kernel_rfl) (fun _ _ _ h => h) ?_ hHeld ?_; rotate_left; · (simp only [List.getElem_toArray, List.getElem_cons_succ, List.getElem_cons_zero]; refine Or.inl ⟨by rfl, ?_⟩; intro w hSw; (try dsimp only at hSw); obtain ⟨s1, s2⟩ := hSw; go_simp; try with_reducible rfl)
  try simp only [List.getElem_toArray, List.getElem_cons_succ, List.getElem_cons_zero, Act.put, List.setIfInBounds_toArray, List.set_cons_zero, List.set_cons_succ]
  refine wpAnyH_done (by kernel_rfl) ?_ _
  have HP2 := Lib.hid (HP.out.below ((Below.refl _ w91).drew))
  have HB2 := Lib.hid (HB.out.trans ((Below.refl _ w91).drew.mono HP.out.hB.2))
  clear hHeld g0 g1 g4
  obtain ⟨V, hV⟩ : ∃ V, V = w91.drew := ⟨_, rfl⟩
  rw [← hV] at HP2 HB2 ⊢
  clear hV HP HB
  go_wp2_with fail
  obtain ⟨g0, g1, g4⟩ := HP2.out.cells
  refine wp_region_held_drew (S := fun W' => W'.cell? ⟨pb, 0, none⟩ = some (.string s) ∧ W'.cell? ⟨pb, 1, none⟩ = some (.int .i64 ((0 : Nat) : Int))) (by kernel_rfl) ⟨g0, g1⟩ (fun hHeld => ?_)
  refine wpAnyH_take (i := 0) (v := ?_) rfl (by kernel_rfl) (by kernel_rfl) (by kernel_rfl) (fun _ _ _ h => h) ?_ hHeld ?_; rotate_left; · (simp only [List.getElem_toArray, List.getElem_cons_zero]; refine Or.inl ⟨by rfl, ?_⟩; intro w hSw; (try dsimp only at hSw); obtain ⟨s1, s2⟩ := hSw; go_simp; try with_reducible rfl)
  try simp only [List.getElem_toArray, List.getElem_cons_zero, Act.put, List.setIfInBounds_toArray, List.set_cons_zero, List.set_cons_succ]
  refine wpAnyH_take (i := 1) (v := ?_) rfl (by kernel_rfl) (by kernel_rfl) (by kernel_rfl) (fun _ _ _ h => h) ?_ hHeld ?_; rotate_left; · (simp only [List.getElem_toArray, List.getElem_cons_succ, List.getElem_cons_zero]; refine Or.inl ⟨by rfl, ?_⟩; intro w hSw; (try dsimp only at hSw); obtain ⟨s1, s2⟩ := hSw; go_simp; try with_reducible rfl)
  try simp only [List.getElem_toArray, List.getElem_cons_succ, List.getElem_cons_zero, Act.put, List.setIfInBounds_toArray, List.set_cons_zero, List.set_cons_succ]
  refine wpAnyH_take (i := 2) (v := ?_) rfl (by kernel_rfl) (by kernel_rfl) (by kernel_rfl) (fun _ _ _ h => h) ?_ hHeld ?_; rotate_left; · (simp only [List.getElem_toArray, List.getElem_cons_succ, List.getElem_cons_zero]; refine Or.inl ⟨by rfl, ?_⟩; intro w hSw; (try dsimp only at hSw); obtain ⟨s1, s2⟩ := hSw; go_simp; try with_reducible rfl)
  try simp only [List.getElem_toArray, List.getElem_cons_succ, List.getElem_cons_zero, Act.put, List.setIfInBounds_toArray, List.set_cons_zero, List.set_cons_succ]
  refine wpAnyH_take (i := 3) (v := ?_) rfl (by kernel_rfl) (by kernel_rfl) (by kernel_rfl) (fun _ _ _ h => h) ?_ hHeld ?_; rotate_left; · (simp only [List.getElem_toArray, List.getElem_cons_succ, List.getElem_cons_zero]; refine Or.inl ⟨by rfl, ?_⟩; intro w hSw; (try dsimp only at hSw); obtain ⟨s1, s2⟩ := hSw; go_simp; try with_reducible rfl)
  try simp only [List.getElem_toArray, List.getElem_cons_succ, List.getElem_cons_zero, Act.put, List.setIfInBounds_toArray, List.set_cons_zero, List.set_cons_succ]
  refine wpAnyH_take (i := 4) (v := ?_) rfl (by kernel_rfl) (by kernel_rfl) (by kernel_rfl) (fun _ _ _ h => h) ?_ hHeld ?_; rotate_left; · (simp only [List.getElem_toArray, List.getElem_cons_succ, List.getElem_cons_zero]; refine Or.inl ⟨by rfl, ?_⟩; intro w hSw; (try dsimp only at hSw); obtain ⟨s1, s2⟩ := hSw; go_simp; try with_reducible rfl)
  try simp only [List.getElem_toArray, List.getElem_cons_succ, List.getElem_cons_zero, Act.put, List.setIfInBounds_toArray, List.set_cons_zero, List.set_cons_succ]
  refine wpAnyH_take (i := 5) (v := ?_) rfl (by kernel_rfl) (by kernel_rfl) (by kernel_rfl) (fun _ _ _ h => h) ?_ hHeld ?_; rotate_left; · (simp only [List.getElem_toArray, List.getElem_cons_succ, List.getElem_cons_zero]; refine Or.inl ⟨by rfl, ?_⟩; intro w hSw; (try dsimp only at hSw); obtain ⟨s1, s2⟩ := hSw; go_simp; try with_reducible rfl)
  try simp only [List.getElem_toArray, List.getElem_cons_succ, List.getElem_cons_zero, Act.put, List.setIfInBounds_toArray, List.set_cons_zero, List.set_cons_succ]
  refine wpAnyH_take (i := 6) (v := ?_) rfl (by kernel_rfl) (by kernel_rfl) (by kernel_rfl) (fun _ _ _ h => h) ?_ hHeld ?_; rotate_left; · (simp only [List.getElem_toArray, List.getElem_cons_succ, List.getElem_cons_zero]; refine Or.inl ⟨by rfl, ?_⟩; intro w hSw; (try dsimp only at hSw); obtain ⟨s1, s2⟩ := hSw; go_simp; try with_reducible rfl)
  try simp only [List.getElem_toArray, List.getElem_cons_succ, List.getElem_cons_zero, Act.put, List.setIfInBounds_toArray, List.set_cons_zero, List.set_cons_succ]
  refine wpAnyH_take (i := 7) (v := ?_) rfl (by kernel_rfl) (by kernel_rfl) (by kernel_rfl) (fun _ _ _ h => h) ?_ hHeld ?_; rotate_left; · (simp only [List.getElem_toArray, List.getElem_cons_succ, List.getElem_cons_zero]; refine Or.inl ⟨by rfl, ?_⟩; intro w hSw; (try dsimp only at hSw); obtain ⟨s1, s2⟩ := hSw; go_simp; try with_reducible rfl)
  try simp only [List.getElem_toArray, List.getElem_cons_succ, List.getElem_cons_zero, Act.put, List.setIfInBounds_toArray, List.set_cons_zero, List.set_cons_succ]
  refine wpAnyH_take (i := 8) (v := ?_) rfl (by kernel_rfl) (by kernel_rfl) (by kernel_rfl) (fun _ _ _ h => h) ?_ hHeld ?_; rotate_left; · (simp only [List.getElem_toArray, List.getElem_cons_succ, List.getElem_cons_zero]; refine Or.inl ⟨by rfl, ?_⟩; intro w hSw; (try dsimp only at hSw); obtain ⟨s1, s2⟩ := hSw; go_simp; try with_reducible rfl)
  try simp only [List.getElem_toArray, List.getElem_cons_succ, List.getElem_cons_zero, Act.put, List.setIfInBounds_toArray, List.set_cons_zero, List.set_cons_succ]
  refine wpAnyH_ready (rs := [9]) (by kernel_rfl) (by simp) ?_
  refine AllReadyH.cons rfl (fun K' hK => ?_) AllReadyH.nil
  simp only [List.getElem_toArray, List.getElem_cons_succ, List.getElem_cons_zero]
  rw [if_pos (by rfl)]
  go_simp
  (go_at_call 81; refine (ks _).mono ?_; rintro e w6 ⟨rfl, hb6⟩)
  have HP6 := Lib.hid ((HP2.out.below ((Below.refl _ V).drew)).below hb6)
  have HB6 := Lib.hid ((HB2.out.trans ((Below.refl _ V).drew.mono HP2.out.hB.2)).trans (hb6.mono (HP2.out.below ((Below.refl _ V).drew)).hB.2))
  obtain ⟨u0, u1, u4⟩ := HP6.out.cells
  refine hK.out _ _ ⟨u0, u1⟩ (fun hHeld2 => ?_)
  clear hK K' hHeld g0 g1 g4 hb6
  try simp only [List.getElem_toArray, List.getElem_cons_succ, List.getElem_cons_zero, Act.put, List.setIfInBounds_toArray, List.set_cons_zero, List.set_cons_succ]
  refine wpAnyH_take (i := 10) (v := ?_) rfl (by kernel_rfl) (by kernel_rfl) (by kernel_rfl) (fun _ _ _ h => h) ?_ hHeld2 ?_; rotate_left; · (simp only [List.getElem_toArray, List.getElem_cons_succ, List.getElem_cons_zero]; refine Or.inl ⟨by rfl, ?_⟩; intro w hSw; (try dsimp only at hSw); go_simp; try with_reducible rfl)
  try simp only [List.getElem_toArray, List.getElem_cons_succ, List.getElem_cons_zero, Act.put, List.setIfInBounds_toArray, List.set_cons_zero, List.set_cons_succ]
  refine wpAnyH_take (i := 11) (v := ?_) rfl (by kernel_rfl) (by kernel_rfl) (by kernel_rfl) (fun _ _ _ h => h) ?_ hHeld2 ?_; rotate_left; · (simp only [List.getElem_toArray, List.getElem_cons_succ, List.getElem_cons_zero]; refine Or.inl ⟨by rfl, ?_⟩; intro w hSw; (try dsimp only at hSw); go_simp; try with_reducible rfl)
  try simp only [List.getElem_toArray, List.getElem_cons_succ, List.getElem_cons_zero, Act.put, List.setIfInBounds_toArray, List.set_cons_zero, List.set_cons_succ]
  refine wpAnyH_take (i := 12) (v := ?_) rfl (by kernel_rfl) (by kernel_rfl) (by kernel_rfl) (fun _ _ _ h => h) ?_ hHeld2 ?_; rotate_left; · (simp only [List.getElem_toArray, List.getElem_cons_succ, List.getElem_cons_zero]; refine Or.inl ⟨by rfl, ?_⟩; intro w hSw; (try dsimp only at hSw); go_simp; try with_reducible rfl)
  try simp only [List.getElem_toArray, List.getElem_cons_succ, List.getElem_cons_zero, Act.put, List.setIfInBounds_toArray, List.set_cons_zero, List.set_cons_succ]
  refine wpAnyH_take (i := 13) (v := ?_) rfl (by kernel_rfl) (by kernel_rfl) (by kernel_rfl) (fun _ _ _ h => h) ?_ hHeld2 ?_; rotate_left; · (simp only [List.getElem_toArray, List.getElem_cons_succ, List.getElem_cons_zero]; refine Or.inl ⟨by rfl, ?_⟩; intro w hSw; (try dsimp only at hSw); go_simp; try with_reducible rfl)
  try simp only [List.getElem_toArray, List.getElem_cons_succ, List.getElem_cons_zero, Act.put, List.setIfInBounds_toArray, List.set_cons_zero, List.set_cons_succ]
  refine wpAnyH_take (i := 14) (v := ?_) rfl (by kernel_rfl) (by kernel_rfl) (by kernel_rfl) (fun _ _ _ h => h) ?_ hHeld2 ?_; rotate_left; · (simp only [List.getElem_toArray, List.getElem_cons_succ, List.getElem_cons_zero]; refine Or.inl ⟨by rfl, ?_⟩; intro w hSw; (try dsimp only at hSw); go_simp; try with_reducible rfl)
  try simp only [List.getElem_toArray, List.getElem_cons_succ, List.getElem_cons_zero, Act.put, List.setIfInBounds_toArray, List.set_cons_zero, List.set_cons_succ]
  refine wpAnyH_take (i := 15) (v := ?_) rfl (by kernel_rfl) (by kernel_rfl) (by kernel_rfl) (fun _ _ _ h => h) ?_ hHeld2 ?_; rotate_left; · (simp only [List.getElem_toArray, List.getElem_cons_succ, List.getElem_cons_zero]; refine Or.inl ⟨by rfl, ?_⟩; intro w hSw; (try dsimp only at hSw); go_simp; try with_reducible rfl)
  try simp only [List.getElem_toArray, List.getElem_cons_succ, List.getElem_cons_zero, Act.put, List.setIfInBounds_toArray, List.set_cons_zero, List.set_cons_succ]
  refine wpAnyH_take (i := 16) (v := ?_) rfl (by kernel_rfl) (by kernel_rfl) (by kernel_rfl) (fun _ _ _ h => h) ?_ hHeld2 ?_; rotate_left; · (simp only [List.getElem_toArray, List.getElem_cons_succ, List.getElem_cons_zero]; refine Or.inl ⟨by rfl, ?_⟩; intro w hSw; (try dsimp only at hSw); go_simp; try with_reducible rfl)
  try simp only [List.getElem_toArray, List.getElem_cons_succ, List.getElem_cons_zero, Act.put, List.setIfInBounds_toArray, List.set_cons_zero, List.set_cons_succ]
  refine wpAnyH_done (by kernel_rfl) ?_ _
  have fz := HP6.out.froz
  clear HP2 HB2 ks hHeld2
  go_wp2_with (first
    | (go_at_call 60; refine (ko _).mono ?_; rintro e w7 ⟨rfl, hb7⟩
       have HP7 := Lib.hid ((HP6.out.set 1).1.below hb7)
       have HB7 := Lib.hid ((HB6.out.trans (HP6.out.set 1).2).trans (hb7.mono (HP6.out.set 1).1.hB.2))
       clear ko hb7)
    | (go_at_call 125; refine (kl _ HP7.out).mono ?_; rintro e w8 ⟨rfl, hp8, hb8⟩)
    | fail)
  exact bodyPost_ret (results_tmp rfl _ _ _) rfl ⟨rfl, hp8, HB7.out.trans hb8⟩
end Go.Proofs.Ytgffmbdbjbhocaa
namespace Go.Proofs.Ytgffmbdbjbhocaa
open Go.RowKit Go.Lib

set_option maxHeartbeats 8000000 in
set_option maxRecDepth 20000 in
theorem piece_any (B pb : Nat) (c q : UInt8) (k : Int) (K : K4) (s : ByteArray) (w : World) (hs : s = ⟨#[c, q]⟩) (hq : (q = 42 ∧ k = 4) ∨ (q = 43 ∧ k = 5))
    (ka : Calls Try.prog 162 #[.pointer (some ⟨pb, 0, none⟩)] w fun e w' => e = .returned (.int .i64 0) ∧ Ps B pb s 1 [⟨1, K, 0, 0⟩] w' ∧ Below B w w') :
    Calls Try.prog 147 #[.pointer (some ⟨pb, 0, none⟩)] w fun e w' => e = .returned (.int .i64 1) ∧ Ps B pb s 2 [⟨1, K, 0, 0⟩, ⟨k, k0, 0, 0⟩] w' ∧ Below B w w' := by
  rcases hq with ⟨rfl, rfl⟩ | ⟨rfl, rfl⟩
  · have hl : s.data.toList = [c, 42] := by rw [hs]
    have no1 : ∀ (ch : UInt8), ch ≠ 42 → ¬ s.data.toList[1]? = some ch := fun ch hne he => by rw [hl] at he; exact hne (by simpa using he.symm)
    have no2 : ∀ (ch : UInt8), ¬ s.data.toList[2]? = some ch := fun ch he => by rw [hl] at he; simp at he
    have yes1 : s.data.toList[1]? = some 42 := by rw [hl]; rfl
    have k42 := is_yes B pb 1 s [⟨1, K, 0, 0⟩] 42 42 rfl yes1
    have k43 := is_no B pb 1 s [⟨1, K, 0, 0⟩] 43 43 rfl (no1 _ (by decide))
    have k63 := is_no B pb 1 s [⟨1, K, 0, 0⟩] 63 63 rfl (no1 _ (by decide))
    have l42 := is_no B pb 2 s [⟨1, K, 0, 0⟩, ⟨4, k0, 0, 0⟩] 42 42 rfl (no2 _)
    have l43 := is_no B pb 2 s [⟨1, K, 0, 0⟩, ⟨4, k0, 0, 0⟩] 43 43 rfl (no2 _)
    have l63 := is_no B pb 2 s [⟨1, K, 0, 0⟩, ⟨4, k0, 0, 0⟩] 63 63 rfl (no2 _)
    have kl := fun w h => lay_any B pb 2 s [⟨1, K, 0, 0⟩] 4 0 0 k0 w h (by simp)
    have z0 : ((k0.a).toNat : Int) = 0 := rfl
    unfold k0 at kl
    dsimp only at kl
    clear hl no1 no2 yes1 hs
    go_enter Try.func147, Try.ntmps147
    go_wp2_with (first
      | (go_at_call 162; refine ka.mono ?_; rintro e w0 ⟨rfl, hp0, hb0⟩; have HP := Lib.hid hp0; have HB := Lib.hid hb0; clear hp0 hb0 ka)
      | fail)
    refine wp_loop_rounds 3 ?_
    rw [rounds_succ]
    go_wp2_with (first
      | (go_at_call 124; first
          | (with_reducible refine (k42 _ HP.out).mono ?_; rintro e w1 ⟨rfl, hb1⟩; replace HB := Lib.hid (HB.out.trans (hb1.mono HP.out.hB.2)); replace HP := Lib.hid (HP.out.below hb1); clear k42 hb1)
          | (with_reducible refine (k43 _ HP.out).mono ?_; rintro e w1 ⟨rfl, hb1⟩; replace HB := Lib.hid (HB.out.trans (hb1.mono HP.out.hB.2)); replace HP := Lib.hid (HP.out.below hb1); clear k43 hb1)
          | (with_reducible refine (k63 _ HP.out).mono ?_; rintro e w1 ⟨rfl, hb1⟩; replace HB := Lib.hid (HB.out.trans (hb1.mono HP.out.hB.2)); replace HP := Lib.hid (HP.out.below hb1); clear k63 hb1; have c1 := HP.out.cells.2.1; have f1 := HP.out.froz))
      | (go_at_call 125; refine (kl _ (HP.out.set 2).1).mono ?_; rintro e w8 ⟨rfl, hp8, hb8⟩
         replace HB := Lib.hid ((HB.out.trans (HP.out.set 2).2).trans hb8)
         have HQ := Lib.hid (show Ps B pb s 2 [⟨1, K, 0, 0⟩, ⟨4, k0, 0, 0⟩] w8 from hp8)
         clear hp8 hb8 kl c1 f1)
      | fail)
    rw [rounds_succ]
    go_wp2_with (first
      | (go_at_call 124; first
          | (with_reducible refine (l42 _ HQ.out).mono ?_; rintro e w1 ⟨rfl, hb1⟩; replace HB := Lib.hid (HB.out.trans (hb1.mono HQ.out.hB.2)); replace HQ := Lib.hid (HQ.out.below hb1); clear l42 hb1)
          | (with_reducible refine (l43 _ HQ.out).mono ?_; rintro e w1 ⟨rfl, hb1⟩; replace HB := Lib.hid (HB.out.trans (hb1.mono HQ.out.hB.2)); replace HQ := Lib.hid (HQ.out.below hb1); clear l43 hb1)
          | (with_reducible refine (l63 _ HQ.out).mono ?_; rintro e w1 ⟨rfl, hb1⟩; replace HB := Lib.hid (HB.out.trans (hb1.mono HQ.out.hB.2)); replace HQ := Lib.hid (HQ.out.below hb1); clear l63 hb1))
      | fail)
    rw [rounds_succ]
    go_wp2
    exact bodyPost_ret (results_tmp rfl _ _ _) rfl ⟨rfl, HQ.out, HB.out⟩
  · have hl : s.data.toList = [c, 43] := by rw [hs]
    have no1 : ∀ (ch : UInt8), ch ≠ 43 → ¬ s.data.toList[1]? = some ch := fun ch hne he => by rw [hl] at he; exact hne (by simpa using he.symm)
    have no2 : ∀ (ch : UInt8), ¬ s.data.toList[2]? = some ch := fun ch he => by rw [hl] at he; simp at he
    have yes1 : s.data.toList[1]? = some 43 := by rw [hl]; rfl
    have k42 := is_no B pb 1 s [⟨1, K, 0, 0⟩] 42 42 rfl (no1 _ (by decide))
    have k43 := is_yes B pb 1 s [⟨1, K, 0, 0⟩] 43 43 rfl yes1
    have k63 := is_no B pb 1 s [⟨1, K, 0, 0⟩] 63 63 rfl (no1 _ (by decide))
    have l42 := is_no B pb 2 s [⟨1, K, 0, 0⟩, ⟨5, k0, 0, 0⟩] 42 42 rfl (no2 _)
    have l43 := is_no B pb 2 s [⟨1, K, 0, 0⟩, ⟨5, k0, 0, 0⟩] 43 43 rfl (no2 _)
    have l63 := is_no B pb 2 s [⟨1, K, 0, 0⟩, ⟨5, k0, 0, 0⟩] 63 63 rfl (no2 _)
    have kl := fun w h => lay_any B pb 2 s [⟨1, K, 0, 0⟩] 5 0 0 k0 w h (by simp)
    have z0 : ((k0.a).toNat : Int) = 0 := rfl
    unfold k0 at kl
    dsimp only at kl
    clear hl no1 no2 yes1 hs
    go_enter Try.func147, Try.ntmps147
    go_wp2_with (first
      | (go_at_call 162; refine ka.mono ?_; rintro e w0 ⟨rfl, hp0, hb0⟩; have HP := Lib.hid hp0; have HB := Lib.hid hb0; clear hp0 hb0 ka)
      | fail)
    refine wp_loop_rounds 3 ?_
    rw [rounds_succ]
    go_wp2_with (first
      | (go_at_call 124; first
          | (with_reducible refine (k42 _ HP.out).mono ?_; rintro e w1 ⟨rfl, hb1⟩; replace HB := Lib.hid (HB.out.trans (hb1.mono HP.out.hB.2)); replace HP := Lib.hid (HP.out.below hb1); clear k42 hb1)
          | (with_reducible refine (k43 _ HP.out).mono ?_; rintro e w1 ⟨rfl, hb1⟩; replace HB := Lib.hid (HB.out.trans (hb1.mono HP.out.hB.2)); replace HP := Lib.hid (HP.out.below hb1); clear k43 hb1)
          | (with_reducible refine (k63 _ HP.out).mono ?_; rintro e w1 ⟨rfl, hb1⟩; replace HB := Lib.hid (HB.out.trans (hb1.mono HP.out.hB.2)); replace HP := Lib.hid (HP.out.below hb1); clear k63 hb1; have c1 := HP.out.cells.2.1; have f1 := HP.out.froz))
      | (go_at_call 125; refine (kl _ (HP.out.set 2).1).mono ?_; rintro e w8 ⟨rfl, hp8, hb8⟩
         replace HB := Lib.hid ((HB.out.trans (HP.out.set 2).2).trans hb8)
         have HQ := Lib.hid (show Ps B pb s 2 [⟨1, K, 0, 0⟩, ⟨5, k0, 0, 0⟩] w8 from hp8)
         clear hp8 hb8 kl c1 f1)
      | fail)
    rw [rounds_succ]
    go_wp2_with (first
      | (go_at_call 124; first
          | (with_reducible refine (l42 _ HQ.out).mono ?_; rintro e w1 ⟨rfl, hb1⟩; replace HB := Lib.hid (HB.out.trans (hb1.mono HQ.out.hB.2)); replace HQ := Lib.hid (HQ.out.below hb1); clear l42 hb1)
          | (with_reducible refine (l43 _ HQ.out).mono ?_; rintro e w1 ⟨rfl, hb1⟩; replace HB := Lib.hid (HB.out.trans (hb1.mono HQ.out.hB.2)); replace HQ := Lib.hid (HQ.out.below hb1); clear l43 hb1)
          | (with_reducible refine (l63 _ HQ.out).mono ?_; rintro e w1 ⟨rfl, hb1⟩; replace HB := Lib.hid (HB.out.trans (hb1.mono HQ.out.hB.2)); replace HQ := Lib.hid (HQ.out.below hb1); clear l63 hb1))
      | fail)
    rw [rounds_succ]
    go_wp2
    exact bodyPost_ret (results_tmp rfl _ _ _) rfl ⟨rfl, HQ.out, HB.out⟩
end Go.Proofs.Ytgffmbdbjbhocaa
