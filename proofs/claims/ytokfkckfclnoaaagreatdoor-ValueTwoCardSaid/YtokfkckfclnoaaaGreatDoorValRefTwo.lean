/- The document's own comparing and reckoning. Conditions: texts are shorter than 2^44; the library's table of powers of ten holds what its text lays. -/
import Derived.Test.YtokfkckfclnoaaaGreatDoorValRef
import Derived.Test.YtokfkckfclnoaaaGreatDoorValReckon
import Derived.Test.YtokfkckfclnoaaaGreatDoorDecRefSub
import Derived.Test.YtokfkckfclnoaaaGreatDoorDecRefText
import Derived.Test.YtokfkckfclnoaaaGreatDoorDecReckonsWalk
namespace Go.Proofs.YtokfkckfclnoaaaGreatDoor
open Go.RowKit

theorem cmpL_cons (c d : UInt8) (r s : List UInt8) : cmpL (c :: r) (d :: s) = if (c.toNat : Int) < (d.toNat : Int) then -1 else if (d.toNat : Int) < (c.toNat : Int) then 1 else cmpL r s := by
  unfold cmpL
  simp only [Op.bytesLess]
  by_cases h1 : (c.toNat : Int) < (d.toNat : Int)
  · rw [if_pos h1]
    have : c < d := UInt8.lt_iff_toNat_lt.2 (by omega)
    simp [this]
  · rw [if_neg h1]
    have n1 : ¬ c < d := fun h => h1 (by have := UInt8.lt_iff_toNat_lt.1 h; omega)
    by_cases h2 : (d.toNat : Int) < (c.toNat : Int)
    · rw [if_pos h2]
      have h3 : d < c := UInt8.lt_iff_toNat_lt.2 (by omega)
      have h4 : (c == d) = false := beq_eq_false_iff_ne.2 (fun e => by rw [e] at h2; omega)
      simp [n1, h3, h4]
    · rw [if_neg h2]
      have e : c = d := UInt8.toNat_inj.1 (by omega)
      subst e
      simp
theorem cmpL_nil_l (b : List UInt8) : cmpL [] b = if b = [] then 0 else -1 := by cases b <;> rfl
theorem cmpL_nil_r (a : List UInt8) : cmpL a [] = if a = [] then 0 else 1 := by cases a <;> rfl

theorem refCompare_num (a b : ByteArray) (n m v : Int) (w : World) (hv : cmpI n m = v)
    (k1 : ∀ w, Calls Tryz.prog 24 #[.string a] w fun e w' => e = .returned (.tuple #[.int .i64 n, .bool true]) ∧ Below w.heap.size w w')
    (k2 : ∀ w, Calls Tryz.prog 24 #[.string b] w fun e w' => e = .returned (.tuple #[.int .i64 m, .bool true]) ∧ Below w.heap.size w w') :
    Calls Tryz.prog 8 #[.string a, .string b] w fun e w' => e = .returned (.int .i64 v) ∧ Below w.heap.size w w' := by
  have hc : (n < m ∧ v = -1) ∨ (¬ n < m ∧ m < n ∧ v = 1) ∨ (n = m ∧ v = 0) := by
    rw [← hv]
    unfold cmpI
    by_cases h1 : n < m
    · left; exact ⟨h1, if_pos h1⟩
    · by_cases h2 : m < n
      · right; left; exact ⟨h1, h2, by rw [if_neg h1, if_pos h2]⟩
      · right; right; exact ⟨by omega, by rw [if_neg h1, if_neg h2]⟩
  clear hv
  rcases hc with ⟨h1, rfl⟩ | ⟨h1, h2, rfl⟩ | ⟨h1, rfl⟩
  · go_enter Tryz.func8, Tryz.ntmps8
    go_wp2_with fail
    refine (k1 _).mono ?_
    rintro e w1 ⟨rfl, hb1⟩
    go_wp2_with fail
    refine (k2 _).mono ?_
    rintro e w2 ⟨rfl, hb2⟩
    go_wp2
    go_ret
    exact ⟨rfl, below_at hb1 hb2 hb1.size⟩
  · go_enter Tryz.func8, Tryz.ntmps8
    go_wp2_with fail
    refine (k1 _).mono ?_
    rintro e w1 ⟨rfl, hb1⟩
    go_wp2_with fail
    refine (k2 _).mono ?_
    rintro e w2 ⟨rfl, hb2⟩
    go_wp2
    go_ret
    exact ⟨rfl, below_at hb1 hb2 hb1.size⟩
  · subst h1
    go_enter Tryz.func8, Tryz.ntmps8
    go_wp2_with fail
    refine (k1 _).mono ?_
    rintro e w1 ⟨rfl, hb1⟩
    go_wp2_with fail
    refine (k2 _).mono ?_
    rintro e w2 ⟨rfl, hb2⟩
    go_wp2
    go_ret
    exact ⟨rfl, below_at hb1 hb2 hb1.size⟩
theorem refCompare_bytes (a b : ByteArray) (n m v : Int) (p q : Bool) (w : World) (ha : a.size ≤ 30000000000000) (_hb : b.size ≤ 30000000000000) (hpq : p = true ∧ q = false ∨ p = false) (HV : Hid (cmpL a.data.toList b.data.toList = v))
    (k1 : ∀ w, Calls Tryz.prog 24 #[.string a] w fun e w' => e = .returned (.tuple #[.int .i64 n, .bool p]) ∧ Below w.heap.size w w')
    (k2 : ∀ w, Calls Tryz.prog 24 #[.string b] w fun e w' => e = .returned (.tuple #[.int .i64 m, .bool q]) ∧ Below w.heap.size w w') :
    Calls Tryz.prog 8 #[.string a, .string b] w fun e w' => e = .returned (.int .i64 v) ∧ Below w.heap.size w w' := by
  rcases hpq with ⟨rfl, rfl⟩ | rfl
  all_goals
    go_enter Tryz.func8, Tryz.ntmps8
    go_wp2_with fail
    refine (k1 _).mono ?_
    rintro e w1 ⟨rfl, hb1⟩
    go_wp2_with fail
    refine (k2 _).mono ?_
    rintro e w2 ⟨rfl, hb2⟩
    have HB := Lib.hid (below_at hb1 hb2 hb1.size)
    clear hb1 hb2
    go_wp2
    go_loopg [9] a.size (fun n i wr => ∃ k : Nat, Hid (n + k = a.size) ∧ k ≤ a.size ∧ k ≤ b.size ∧ i = .int .i64 (k : Int) ∧ Hid (cmpL (a.data.toList.drop k) (b.data.toList.drop k) = v) ∧ Hid (Below w.heap.size w wr))
    case atStart => exact ⟨0, rfl, Nat.zero_le _, Nat.zero_le _, rfl, by show _ = _; rw [List.drop_zero, List.drop_zero]; exact HV.out, HB.out⟩
    case round =>
      clear HB
      obtain ⟨k, HN, hka, hkb, rfl, HC, HB⟩ := hrel
      by_cases hla : k < a.size
      · by_cases hlb : k < b.size
        · have HL := Lib.hid (And.intro hla hlb)
          have hk0 : (0 : Int) ≤ (k : Int) ∧ (k : Int) < (a.size : Int) ∧ (k : Int) < (b.size : Int) := by omega
          have HCC : Hid (v = if (a[k].toNat : Int) < (b[k].toNat : Int) then -1 else if (b[k].toNat : Int) < (a[k].toNat : Int) then 1 else cmpL (a.data.toList.drop (k + 1)) (b.data.toList.drop (k + 1))) := by
            show _ = _
            rw [← HC.out, drop_at a k hla, drop_at b k hlb, cmpL_cons]
          by_cases h1 : (a[k].toNat : Int) < (b[k].toNat : Int)
          · have hv : v = -1 := by rw [HCC.out, if_pos h1]
            have d1 : decide ((a[k].toNat : Int) < (b[k].toNat : Int)) = true := decide_eq_true h1
            clear HCC HC
            subst hv
            go_wp2_with fail
            go_quiet (fail)
            go_wp2
            go_ret
            exact ⟨rfl, refBelow_draws HB.out _⟩
          · have d1 : decide ((a[k].toNat : Int) < (b[k].toNat : Int)) = false := decide_eq_false h1
            by_cases h2 : (b[k].toNat : Int) < (a[k].toNat : Int)
            · have hv : v = 1 := by rw [HCC.out, if_neg h1, if_pos h2]
              have d2 : decide ((b[k].toNat : Int) < (a[k].toNat : Int)) = true := decide_eq_true h2
              clear HCC HC
              subst hv
              go_wp2_with fail
              go_quiet (fail)
              go_wp2_with fail
              go_quiet (fail)
              go_wp2
              go_ret
              exact ⟨rfl, refBelow_draws (refBelow_draws HB.out _) _⟩
            · have d2 : decide ((b[k].toNat : Int) < (a[k].toNat : Int)) = false := decide_eq_false h2
              have HNX : Hid (cmpL (a.data.toList.drop (k + 1)) (b.data.toList.drop (k + 1)) = v) := by show _ = _; rw [HCC.out, if_neg h1, if_neg h2]
              clear HCC HC
              go_wp2_with fail
              go_quiet (fail)
              go_wp2_with fail
              go_quiet (fail)
              go_wp2
              go_roundg (gk - 1)
              case measure => have h1 := HN.out; have h2 := HL.out; omega
              case rel => exact ⟨k + 1, by have h1 := HN.out; have h2 := HL.out; show _ = _; omega, HL.out.1, HL.out.2, by go_num, HNX, by first | exact refBelow_draws HB.out _ | exact refBelow_draws (refBelow_draws HB.out _) _⟩
        · have hv : v = 1 := by
            rw [← HC.out, show b.data.toList.drop k = [] from List.drop_of_length_le (by rw [ba_len2]; omega), cmpL_nil_r, if_neg]
            rw [drop_at a k hla]; simp
          have e1 : decide (b.size < a.size) = true := decide_eq_true (by omega)
          have e2 : decide (a.size < b.size) = false := decide_eq_false (by omega)
          clear HC
          subst hv
          go_wp2
          go_ret
          exact ⟨rfl, HB.out⟩
      · have ea : a.data.toList.drop k = [] := List.drop_of_length_le (by rw [ba_len2]; omega)
        by_cases hlb : k < b.size
        · have hv : v = -1 := by
            rw [← HC.out, ea, cmpL_nil_l, if_neg]
            rw [drop_at b k hlb]; simp
          have e2 : decide (a.size < b.size) = true := decide_eq_true (by omega)
          clear HC ea
          subst hv
          go_wp2
          go_ret
          exact ⟨rfl, HB.out⟩
        · have hv : v = 0 := by
            rw [← HC.out, ea, cmpL_nil_l, if_pos]
            exact List.drop_of_length_le (by rw [ba_len2]; omega)
          have e1 : decide (b.size < a.size) = false := decide_eq_false (by omega)
          have e2 : decide (a.size < b.size) = false := decide_eq_false (by omega)
          clear HC ea
          subst hv
          go_wp2
          go_ret
          exact ⟨rfl, HB.out⟩
theorem refCompare_any (a b : ByteArray) (w : World) (ha : a.size ≤ 30000000000000) (hb : b.size ≤ 30000000000000) :
    Calls Tryz.prog 8 #[.string a, .string b] w fun e w' => e = .returned (.int .i64 (compareD a.data.toList b.data.toList)) ∧ Below w.heap.size w w' := by
  have k1 := fun w => refLooks_any a w ha
  have k2 := fun w => refLooks_any b w hb
  unfold looksE at k1 k2
  unfold compareD
  cases h1 : (looksD a.data.toList).2 with
  | true =>
    rw [h1] at k1
    cases h2 : (looksD b.data.toList).2 with
    | true =>
      rw [h2] at k2
      exact refCompare_num a b _ _ _ w rfl k1 k2
    | false =>
      rw [h2] at k2
      exact refCompare_bytes a b _ _ _ _ _ w ha hb (.inl ⟨rfl, rfl⟩) rfl k1 k2
  | false =>
    rw [h1] at k1
    exact refCompare_bytes a b _ _ _ _ _ w ha hb (.inr rfl) rfl k1 k2

theorem refReckon_none (op : Int) (a b : ByteArray) (w : World) (h1 : ((op : Int) != 43) = true) (h2 : ((op : Int) != 45) = true) (h3 : ((op : Int) != 42) = true) (h4 : ((op : Int) != 47) = true) (h5 : ((op : Int) != 37) = true) :
    Calls Tryz.prog 6 #[.int .u8 op, .string a, .string b] w fun e w' => e = .returned (.tuple #[.string ⟨#[]⟩, .int .i64 1]) ∧ Below w.heap.size w w' := by
  go_enter Tryz.func6, Tryz.ntmps6
  go_wp2
  go_ret2
  exact ⟨rfl, Below.refl _ _⟩
set_option maxRecDepth 20000 in
theorem refReckon_43 (a b : ByteArray) (n m r ea eb er _rs _es : Int) (T : ByteArray) (w : World)
    (k1 : ∀ w, Calls Tryz.prog 14 #[.string a] w fun e w' => e = .returned (.tuple #[.int .i64 n, .int .i64 ea]) ∧ Below w.heap.size w w')
    (k2 : ∀ w, Calls Tryz.prog 14 #[.string b] w fun e w' => e = .returned (.tuple #[.int .i64 m, .int .i64 eb]) ∧ Below w.heap.size w w')
    (k3 : ((ea : Int) != 0) = false → ((eb : Int) != 0) = false → ∀ w, Calls Tryz.prog 15 #[.int .i64 n, .int .i64 m] w fun e w' => e = .returned (.tuple #[.int .i64 r, .int .i64 er]) ∧ Below w.heap.size w w')
    (k4 : ((ea : Int) != 0) = false → ((eb : Int) != 0) = false → ((er : Int) != 0) = false → ∀ w, Calls Tryz.prog 20 #[.int .i64 r] w fun e w' => e = .returned (.string T) ∧ Below w.heap.size w w')
    (R : ByteArray) (E : Int) (h : ((ea : Int) != 0) = true ∧ R = ⟨#[]⟩ ∧ E = ea ∨ ((ea : Int) != 0) = false ∧ ((eb : Int) != 0) = true ∧ R = ⟨#[]⟩ ∧ E = eb ∨ ((ea : Int) != 0) = false ∧ ((eb : Int) != 0) = false ∧ ((er : Int) != 0) = true ∧ R = ⟨#[]⟩ ∧ E = er ∨
      ((ea : Int) != 0) = false ∧ ((eb : Int) != 0) = false ∧ ((er : Int) != 0) = false ∧ R = T ∧ E = 0) :
    Calls Tryz.prog 6 #[.int .u8 43, .string a, .string b] w fun e w' => e = .returned (.tuple #[.string R, .int .i64 E]) ∧ Below w.heap.size w w' := by
  rcases h with ⟨h1, rfl, rfl⟩ | ⟨h1, h2, rfl, rfl⟩ | ⟨h1, h2, h3, rfl, rfl⟩ | ⟨h1, h2, h3, rfl, rfl⟩
  · clear k2 k3 k4 
    go_enter Tryz.func6, Tryz.ntmps6
    go_wp2_with (first
      | (go_at_call 14; (with_reducible refine (k1 _).mono ?_); rintro e w1 ⟨rfl, hb1⟩))
    go_ret2
    exact ⟨rfl, hb1⟩
  · clear k3 k4 
    go_enter Tryz.func6, Tryz.ntmps6
    go_wp2_with (first
      | (go_at_call 14; (with_reducible refine (k1 _).mono ?_); rintro e w1 ⟨rfl, hb1⟩)
      | (go_at_call 14; (with_reducible refine (k2 _).mono ?_); rintro e w2 ⟨rfl, hb2⟩; have HB2 := below_at hb1 hb2 hb1.size))
    go_ret2
    exact ⟨rfl, HB2⟩
  · have k3' := k3 h1 h2
    clear k3 k4 
    go_enter Tryz.func6, Tryz.ntmps6
    go_wp2_with (first
      | (go_at_call 14; (with_reducible refine (k1 _).mono ?_); rintro e w1 ⟨rfl, hb1⟩)
      | (go_at_call 14; (with_reducible refine (k2 _).mono ?_); rintro e w2 ⟨rfl, hb2⟩; have HB2 := below_at hb1 hb2 hb1.size)
      | (go_at_call 15; refine (k3' _).mono ?_; rintro e w3 ⟨rfl, hb3⟩; have HB3 := below_at HB2 hb3 HB2.size))
    go_ret2
    exact ⟨rfl, HB3⟩
  · have k3' := k3 h1 h2
    have k4' := k4 h1 h2 h3
    clear k3 k4 
    go_enter Tryz.func6, Tryz.ntmps6
    go_wp2_with (first
      | (go_at_call 14; (with_reducible refine (k1 _).mono ?_); rintro e w1 ⟨rfl, hb1⟩)
      | (go_at_call 14; (with_reducible refine (k2 _).mono ?_); rintro e w2 ⟨rfl, hb2⟩; have HB2 := below_at hb1 hb2 hb1.size)
      | (go_at_call 15; refine (k3' _).mono ?_; rintro e w3 ⟨rfl, hb3⟩; have HB3 := below_at HB2 hb3 HB2.size)
      | (go_at_call 20; refine (k4' _).mono ?_; rintro e w5 ⟨rfl, hb5⟩; have HB5 := below_at HB3 hb5 HB3.size))
    go_ret2
    exact ⟨rfl, HB5⟩
set_option maxRecDepth 20000 in
theorem refReckon_45 (a b : ByteArray) (n m r ea eb er rs es : Int) (T : ByteArray) (w : World)
    (k1 : ∀ w, Calls Tryz.prog 14 #[.string a] w fun e w' => e = .returned (.tuple #[.int .i64 n, .int .i64 ea]) ∧ Below w.heap.size w w')
    (k2 : ∀ w, Calls Tryz.prog 14 #[.string b] w fun e w' => e = .returned (.tuple #[.int .i64 m, .int .i64 eb]) ∧ Below w.heap.size w w')
    (k3 : ((ea : Int) != 0) = false → ((eb : Int) != 0) = false → ∀ w, Calls Tryz.prog 15 #[.int .i64 n, .int .i64 m] w fun e w' => e = .returned (.tuple #[.int .i64 rs, .int .i64 es]) ∧ Below w.heap.size w w')
    (k5 : ((ea : Int) != 0) = false → ((eb : Int) != 0) = false → ∀ w, Calls Tryz.prog 16 #[.int .i64 n, .int .i64 m] w fun e w' => e = .returned (.tuple #[.int .i64 r, .int .i64 er]) ∧ Below w.heap.size w w')
    (k4 : ((ea : Int) != 0) = false → ((eb : Int) != 0) = false → ((er : Int) != 0) = false → ∀ w, Calls Tryz.prog 20 #[.int .i64 r] w fun e w' => e = .returned (.string T) ∧ Below w.heap.size w w')
    (R : ByteArray) (E : Int) (h : ((ea : Int) != 0) = true ∧ R = ⟨#[]⟩ ∧ E = ea ∨ ((ea : Int) != 0) = false ∧ ((eb : Int) != 0) = true ∧ R = ⟨#[]⟩ ∧ E = eb ∨ ((ea : Int) != 0) = false ∧ ((eb : Int) != 0) = false ∧ ((er : Int) != 0) = true ∧ R = ⟨#[]⟩ ∧ E = er ∨
      ((ea : Int) != 0) = false ∧ ((eb : Int) != 0) = false ∧ ((er : Int) != 0) = false ∧ R = T ∧ E = 0) :
    Calls Tryz.prog 6 #[.int .u8 45, .string a, .string b] w fun e w' => e = .returned (.tuple #[.string R, .int .i64 E]) ∧ Below w.heap.size w w' := by
  rcases h with ⟨h1, rfl, rfl⟩ | ⟨h1, h2, rfl, rfl⟩ | ⟨h1, h2, h3, rfl, rfl⟩ | ⟨h1, h2, h3, rfl, rfl⟩
  · clear k2 k3 k4 k5 
    go_enter Tryz.func6, Tryz.ntmps6
    go_wp2_with (first
      | (go_at_call 14; (with_reducible refine (k1 _).mono ?_); rintro e w1 ⟨rfl, hb1⟩))
    go_ret2
    exact ⟨rfl, hb1⟩
  · clear k3 k4 k5 
    go_enter Tryz.func6, Tryz.ntmps6
    go_wp2_with (first
      | (go_at_call 14; (with_reducible refine (k1 _).mono ?_); rintro e w1 ⟨rfl, hb1⟩)
      | (go_at_call 14; (with_reducible refine (k2 _).mono ?_); rintro e w2 ⟨rfl, hb2⟩; have HB2 := below_at hb1 hb2 hb1.size))
    go_ret2
    exact ⟨rfl, HB2⟩
  · have k3' := k3 h1 h2
    have k5' := k5 h1 h2
    clear k3 k4 k5 
    go_enter Tryz.func6, Tryz.ntmps6
    go_wp2_with (first
      | (go_at_call 14; (with_reducible refine (k1 _).mono ?_); rintro e w1 ⟨rfl, hb1⟩)
      | (go_at_call 14; (with_reducible refine (k2 _).mono ?_); rintro e w2 ⟨rfl, hb2⟩; have HB2 := below_at hb1 hb2 hb1.size)
      | (go_at_call 15; refine (k3' _).mono ?_; rintro e w3 ⟨rfl, hb3⟩; have HB3 := below_at HB2 hb3 HB2.size)
      | (go_at_call 16; refine (k5' _).mono ?_; rintro e w4 ⟨rfl, hb4⟩; have HB4 := below_at HB3 hb4 HB3.size))
    go_ret2
    exact ⟨rfl, HB4⟩
  · have k3' := k3 h1 h2
    have k5' := k5 h1 h2
    have k4' := k4 h1 h2 h3
    clear k3 k4 k5 
    go_enter Tryz.func6, Tryz.ntmps6
    go_wp2_with (first
      | (go_at_call 14; (with_reducible refine (k1 _).mono ?_); rintro e w1 ⟨rfl, hb1⟩)
      | (go_at_call 14; (with_reducible refine (k2 _).mono ?_); rintro e w2 ⟨rfl, hb2⟩; have HB2 := below_at hb1 hb2 hb1.size)
      | (go_at_call 15; refine (k3' _).mono ?_; rintro e w3 ⟨rfl, hb3⟩; have HB3 := below_at HB2 hb3 HB2.size)
      | (go_at_call 16; refine (k5' _).mono ?_; rintro e w4 ⟨rfl, hb4⟩; have HB4 := below_at HB3 hb4 HB3.size)
      | (go_at_call 20; refine (k4' _).mono ?_; rintro e w5 ⟨rfl, hb5⟩; have HB5 := below_at HB4 hb5 HB4.size))
    go_ret2
    exact ⟨rfl, HB5⟩
set_option maxRecDepth 20000 in
theorem refReckon_42 (a b : ByteArray) (n m r ea eb er rs es : Int) (T : ByteArray) (w : World)
    (k1 : ∀ w, Calls Tryz.prog 14 #[.string a] w fun e w' => e = .returned (.tuple #[.int .i64 n, .int .i64 ea]) ∧ Below w.heap.size w w')
    (k2 : ∀ w, Calls Tryz.prog 14 #[.string b] w fun e w' => e = .returned (.tuple #[.int .i64 m, .int .i64 eb]) ∧ Below w.heap.size w w')
    (k3 : ((ea : Int) != 0) = false → ((eb : Int) != 0) = false → ∀ w, Calls Tryz.prog 15 #[.int .i64 n, .int .i64 m] w fun e w' => e = .returned (.tuple #[.int .i64 rs, .int .i64 es]) ∧ Below w.heap.size w w')
    (k5 : ((ea : Int) != 0) = false → ((eb : Int) != 0) = false → ∀ w, Calls Tryz.prog 17 #[.int .i64 n, .int .i64 m] w fun e w' => e = .returned (.tuple #[.int .i64 r, .int .i64 er]) ∧ Below w.heap.size w w')
    (k4 : ((ea : Int) != 0) = false → ((eb : Int) != 0) = false → ((er : Int) != 0) = false → ∀ w, Calls Tryz.prog 20 #[.int .i64 r] w fun e w' => e = .returned (.string T) ∧ Below w.heap.size w w')
    (R : ByteArray) (E : Int) (h : ((ea : Int) != 0) = true ∧ R = ⟨#[]⟩ ∧ E = ea ∨ ((ea : Int) != 0) = false ∧ ((eb : Int) != 0) = true ∧ R = ⟨#[]⟩ ∧ E = eb ∨ ((ea : Int) != 0) = false ∧ ((eb : Int) != 0) = false ∧ ((er : Int) != 0) = true ∧ R = ⟨#[]⟩ ∧ E = er ∨
      ((ea : Int) != 0) = false ∧ ((eb : Int) != 0) = false ∧ ((er : Int) != 0) = false ∧ R = T ∧ E = 0) :
    Calls Tryz.prog 6 #[.int .u8 42, .string a, .string b] w fun e w' => e = .returned (.tuple #[.string R, .int .i64 E]) ∧ Below w.heap.size w w' := by
  rcases h with ⟨h1, rfl, rfl⟩ | ⟨h1, h2, rfl, rfl⟩ | ⟨h1, h2, h3, rfl, rfl⟩ | ⟨h1, h2, h3, rfl, rfl⟩
  · clear k2 k3 k4 k5 
    go_enter Tryz.func6, Tryz.ntmps6
    go_wp2_with (first
      | (go_at_call 14; (with_reducible refine (k1 _).mono ?_); rintro e w1 ⟨rfl, hb1⟩))
    go_ret2
    exact ⟨rfl, hb1⟩
  · clear k3 k4 k5 
    go_enter Tryz.func6, Tryz.ntmps6
    go_wp2_with (first
      | (go_at_call 14; (with_reducible refine (k1 _).mono ?_); rintro e w1 ⟨rfl, hb1⟩)
      | (go_at_call 14; (with_reducible refine (k2 _).mono ?_); rintro e w2 ⟨rfl, hb2⟩; have HB2 := below_at hb1 hb2 hb1.size))
    go_ret2
    exact ⟨rfl, HB2⟩
  · have k3' := k3 h1 h2
    have k5' := k5 h1 h2
    clear k3 k4 k5 
    go_enter Tryz.func6, Tryz.ntmps6
    go_wp2_with (first
      | (go_at_call 14; (with_reducible refine (k1 _).mono ?_); rintro e w1 ⟨rfl, hb1⟩)
      | (go_at_call 14; (with_reducible refine (k2 _).mono ?_); rintro e w2 ⟨rfl, hb2⟩; have HB2 := below_at hb1 hb2 hb1.size)
      | (go_at_call 15; refine (k3' _).mono ?_; rintro e w3 ⟨rfl, hb3⟩; have HB3 := below_at HB2 hb3 HB2.size)
      | (go_at_call 17; refine (k5' _).mono ?_; rintro e w4 ⟨rfl, hb4⟩; have HB4 := below_at HB3 hb4 HB3.size))
    go_ret2
    exact ⟨rfl, HB4⟩
  · have k3' := k3 h1 h2
    have k5' := k5 h1 h2
    have k4' := k4 h1 h2 h3
    clear k3 k4 k5 
    go_enter Tryz.func6, Tryz.ntmps6
    go_wp2_with (first
      | (go_at_call 14; (with_reducible refine (k1 _).mono ?_); rintro e w1 ⟨rfl, hb1⟩)
      | (go_at_call 14; (with_reducible refine (k2 _).mono ?_); rintro e w2 ⟨rfl, hb2⟩; have HB2 := below_at hb1 hb2 hb1.size)
      | (go_at_call 15; refine (k3' _).mono ?_; rintro e w3 ⟨rfl, hb3⟩; have HB3 := below_at HB2 hb3 HB2.size)
      | (go_at_call 17; refine (k5' _).mono ?_; rintro e w4 ⟨rfl, hb4⟩; have HB4 := below_at HB3 hb4 HB3.size)
      | (go_at_call 20; refine (k4' _).mono ?_; rintro e w5 ⟨rfl, hb5⟩; have HB5 := below_at HB4 hb5 HB4.size))
    go_ret2
    exact ⟨rfl, HB5⟩
set_option maxRecDepth 20000 in
theorem refReckon_47 (a b : ByteArray) (n m r ea eb er rs es : Int) (T : ByteArray) (w : World)
    (k1 : ∀ w, Calls Tryz.prog 14 #[.string a] w fun e w' => e = .returned (.tuple #[.int .i64 n, .int .i64 ea]) ∧ Below w.heap.size w w')
    (k2 : ∀ w, Calls Tryz.prog 14 #[.string b] w fun e w' => e = .returned (.tuple #[.int .i64 m, .int .i64 eb]) ∧ Below w.heap.size w w')
    (k3 : ((ea : Int) != 0) = false → ((eb : Int) != 0) = false → ∀ w, Calls Tryz.prog 15 #[.int .i64 n, .int .i64 m] w fun e w' => e = .returned (.tuple #[.int .i64 rs, .int .i64 es]) ∧ Below w.heap.size w w')
    (k5 : ((ea : Int) != 0) = false → ((eb : Int) != 0) = false → ∀ w, Calls Tryz.prog 18 #[.int .i64 n, .int .i64 m] w fun e w' => e = .returned (.tuple #[.int .i64 r, .int .i64 er]) ∧ Below w.heap.size w w')
    (k4 : ((ea : Int) != 0) = false → ((eb : Int) != 0) = false → ((er : Int) != 0) = false → ∀ w, Calls Tryz.prog 20 #[.int .i64 r] w fun e w' => e = .returned (.string T) ∧ Below w.heap.size w w')
    (R : ByteArray) (E : Int) (h : ((ea : Int) != 0) = true ∧ R = ⟨#[]⟩ ∧ E = ea ∨ ((ea : Int) != 0) = false ∧ ((eb : Int) != 0) = true ∧ R = ⟨#[]⟩ ∧ E = eb ∨ ((ea : Int) != 0) = false ∧ ((eb : Int) != 0) = false ∧ ((er : Int) != 0) = true ∧ R = ⟨#[]⟩ ∧ E = er ∨
      ((ea : Int) != 0) = false ∧ ((eb : Int) != 0) = false ∧ ((er : Int) != 0) = false ∧ R = T ∧ E = 0) :
    Calls Tryz.prog 6 #[.int .u8 47, .string a, .string b] w fun e w' => e = .returned (.tuple #[.string R, .int .i64 E]) ∧ Below w.heap.size w w' := by
  rcases h with ⟨h1, rfl, rfl⟩ | ⟨h1, h2, rfl, rfl⟩ | ⟨h1, h2, h3, rfl, rfl⟩ | ⟨h1, h2, h3, rfl, rfl⟩
  · clear k2 k3 k4 k5 
    go_enter Tryz.func6, Tryz.ntmps6
    go_wp2_with (first
      | (go_at_call 14; (with_reducible refine (k1 _).mono ?_); rintro e w1 ⟨rfl, hb1⟩))
    go_ret2
    exact ⟨rfl, hb1⟩
  · clear k3 k4 k5 
    go_enter Tryz.func6, Tryz.ntmps6
    go_wp2_with (first
      | (go_at_call 14; (with_reducible refine (k1 _).mono ?_); rintro e w1 ⟨rfl, hb1⟩)
      | (go_at_call 14; (with_reducible refine (k2 _).mono ?_); rintro e w2 ⟨rfl, hb2⟩; have HB2 := below_at hb1 hb2 hb1.size))
    go_ret2
    exact ⟨rfl, HB2⟩
  · have k3' := k3 h1 h2
    have k5' := k5 h1 h2
    clear k3 k4 k5 
    go_enter Tryz.func6, Tryz.ntmps6
    go_wp2_with (first
      | (go_at_call 14; (with_reducible refine (k1 _).mono ?_); rintro e w1 ⟨rfl, hb1⟩)
      | (go_at_call 14; (with_reducible refine (k2 _).mono ?_); rintro e w2 ⟨rfl, hb2⟩; have HB2 := below_at hb1 hb2 hb1.size)
      | (go_at_call 15; refine (k3' _).mono ?_; rintro e w3 ⟨rfl, hb3⟩; have HB3 := below_at HB2 hb3 HB2.size)
      | (go_at_call 18; refine (k5' _).mono ?_; rintro e w4 ⟨rfl, hb4⟩; have HB4 := below_at HB3 hb4 HB3.size))
    go_ret2
    exact ⟨rfl, HB4⟩
  · have k3' := k3 h1 h2
    have k5' := k5 h1 h2
    have k4' := k4 h1 h2 h3
    clear k3 k4 k5 
    go_enter Tryz.func6, Tryz.ntmps6
    go_wp2_with (first
      | (go_at_call 14; (with_reducible refine (k1 _).mono ?_); rintro e w1 ⟨rfl, hb1⟩)
      | (go_at_call 14; (with_reducible refine (k2 _).mono ?_); rintro e w2 ⟨rfl, hb2⟩; have HB2 := below_at hb1 hb2 hb1.size)
      | (go_at_call 15; refine (k3' _).mono ?_; rintro e w3 ⟨rfl, hb3⟩; have HB3 := below_at HB2 hb3 HB2.size)
      | (go_at_call 18; refine (k5' _).mono ?_; rintro e w4 ⟨rfl, hb4⟩; have HB4 := below_at HB3 hb4 HB3.size)
      | (go_at_call 20; refine (k4' _).mono ?_; rintro e w5 ⟨rfl, hb5⟩; have HB5 := below_at HB4 hb5 HB4.size))
    go_ret2
    exact ⟨rfl, HB5⟩
set_option maxRecDepth 20000 in
theorem refReckon_37 (a b : ByteArray) (n m r ea eb er rs es : Int) (T : ByteArray) (w : World)
    (k1 : ∀ w, Calls Tryz.prog 14 #[.string a] w fun e w' => e = .returned (.tuple #[.int .i64 n, .int .i64 ea]) ∧ Below w.heap.size w w')
    (k2 : ∀ w, Calls Tryz.prog 14 #[.string b] w fun e w' => e = .returned (.tuple #[.int .i64 m, .int .i64 eb]) ∧ Below w.heap.size w w')
    (k3 : ((ea : Int) != 0) = false → ((eb : Int) != 0) = false → ∀ w, Calls Tryz.prog 15 #[.int .i64 n, .int .i64 m] w fun e w' => e = .returned (.tuple #[.int .i64 rs, .int .i64 es]) ∧ Below w.heap.size w w')
    (k5 : ((ea : Int) != 0) = false → ((eb : Int) != 0) = false → ∀ w, Calls Tryz.prog 19 #[.int .i64 n, .int .i64 m] w fun e w' => e = .returned (.tuple #[.int .i64 r, .int .i64 er]) ∧ Below w.heap.size w w')
    (k4 : ((ea : Int) != 0) = false → ((eb : Int) != 0) = false → ((er : Int) != 0) = false → ∀ w, Calls Tryz.prog 20 #[.int .i64 r] w fun e w' => e = .returned (.string T) ∧ Below w.heap.size w w')
    (R : ByteArray) (E : Int) (h : ((ea : Int) != 0) = true ∧ R = ⟨#[]⟩ ∧ E = ea ∨ ((ea : Int) != 0) = false ∧ ((eb : Int) != 0) = true ∧ R = ⟨#[]⟩ ∧ E = eb ∨ ((ea : Int) != 0) = false ∧ ((eb : Int) != 0) = false ∧ ((er : Int) != 0) = true ∧ R = ⟨#[]⟩ ∧ E = er ∨
      ((ea : Int) != 0) = false ∧ ((eb : Int) != 0) = false ∧ ((er : Int) != 0) = false ∧ R = T ∧ E = 0) :
    Calls Tryz.prog 6 #[.int .u8 37, .string a, .string b] w fun e w' => e = .returned (.tuple #[.string R, .int .i64 E]) ∧ Below w.heap.size w w' := by
  rcases h with ⟨h1, rfl, rfl⟩ | ⟨h1, h2, rfl, rfl⟩ | ⟨h1, h2, h3, rfl, rfl⟩ | ⟨h1, h2, h3, rfl, rfl⟩
  · clear k2 k3 k4 k5 
    go_enter Tryz.func6, Tryz.ntmps6
    go_wp2_with (first
      | (go_at_call 14; (with_reducible refine (k1 _).mono ?_); rintro e w1 ⟨rfl, hb1⟩))
    go_ret2
    exact ⟨rfl, hb1⟩
  · clear k3 k4 k5 
    go_enter Tryz.func6, Tryz.ntmps6
    go_wp2_with (first
      | (go_at_call 14; (with_reducible refine (k1 _).mono ?_); rintro e w1 ⟨rfl, hb1⟩)
      | (go_at_call 14; (with_reducible refine (k2 _).mono ?_); rintro e w2 ⟨rfl, hb2⟩; have HB2 := below_at hb1 hb2 hb1.size))
    go_ret2
    exact ⟨rfl, HB2⟩
  · have k3' := k3 h1 h2
    have k5' := k5 h1 h2
    clear k3 k4 k5 
    go_enter Tryz.func6, Tryz.ntmps6
    go_wp2_with (first
      | (go_at_call 14; (with_reducible refine (k1 _).mono ?_); rintro e w1 ⟨rfl, hb1⟩)
      | (go_at_call 14; (with_reducible refine (k2 _).mono ?_); rintro e w2 ⟨rfl, hb2⟩; have HB2 := below_at hb1 hb2 hb1.size)
      | (go_at_call 15; refine (k3' _).mono ?_; rintro e w3 ⟨rfl, hb3⟩; have HB3 := below_at HB2 hb3 HB2.size)
      | (go_at_call 19; refine (k5' _).mono ?_; rintro e w4 ⟨rfl, hb4⟩; have HB4 := below_at HB3 hb4 HB3.size))
    go_ret2
    exact ⟨rfl, HB4⟩
  · have k3' := k3 h1 h2
    have k5' := k5 h1 h2
    have k4' := k4 h1 h2 h3
    clear k3 k4 k5 
    go_enter Tryz.func6, Tryz.ntmps6
    go_wp2_with (first
      | (go_at_call 14; (with_reducible refine (k1 _).mono ?_); rintro e w1 ⟨rfl, hb1⟩)
      | (go_at_call 14; (with_reducible refine (k2 _).mono ?_); rintro e w2 ⟨rfl, hb2⟩; have HB2 := below_at hb1 hb2 hb1.size)
      | (go_at_call 15; refine (k3' _).mono ?_; rintro e w3 ⟨rfl, hb3⟩; have HB3 := below_at HB2 hb3 HB2.size)
      | (go_at_call 19; refine (k5' _).mono ?_; rintro e w4 ⟨rfl, hb4⟩; have HB4 := below_at HB3 hb4 HB3.size)
      | (go_at_call 20; refine (k4' _).mono ?_; rintro e w5 ⟨rfl, hb5⟩; have HB5 := below_at HB4 hb5 HB4.size))
    go_ret2
    exact ⟨rfl, HB5⟩

def callD (p : Int × Int) : Ending := .returned (.tuple #[.int .i64 p.1, .int .i64 p.2])
theorem refFn_any (op x y : Int) (w : World) (h : isOp op = true) (hx : -9223372036854775808 ≤ x ∧ x ≤ 9223372036854775807) (hy : -9223372036854775808 ≤ y ∧ y ≤ 9223372036854775807) :
    (op = 45 → Calls Tryz.prog 16 #[.int .i64 x, .int .i64 y] w fun e w' => e = callE (opN op x y) ∧ Below w.heap.size w w') ∧
    (op = 42 → Calls Tryz.prog 17 #[.int .i64 x, .int .i64 y] w fun e w' => e = callE (opN op x y) ∧ Below w.heap.size w w') ∧
    (op = 47 → Calls Tryz.prog 18 #[.int .i64 x, .int .i64 y] w fun e w' => e = callE (opN op x y) ∧ Below w.heap.size w w') ∧
    (op = 37 → Calls Tryz.prog 19 #[.int .i64 x, .int .i64 y] w fun e w' => e = callE (opN op x y) ∧ Below w.heap.size w w') := by
  refine ⟨?_, ?_, ?_, ?_⟩
  · rintro rfl; exact refSub_any x y w hx hy
  · rintro rfl; exact refMul_any x y w hx hy
  · rintro rfl
    by_cases h0 : y = 0
    · subst h0; exact refDiv_zero x w
    · show Calls _ _ _ _ fun e w' => e = callE (if y = 0 then (0, 4) else into ((x * 1000000).tdiv y)) ∧ _
      rw [if_neg h0]; exact refDiv_any x y w hx hy h0
  · rintro rfl
    by_cases h0 : y = 0
    · subst h0; exact refMod_zero x w
    · show Calls _ _ _ _ fun e w' => e = callE (if y = 0 then (0, 4) else (x.tmod y, 0)) ∧ _
      rw [if_neg h0]; exact refMod_any x y w hx hy h0
theorem refReckon_any (op : Int) (a b : ByteArray) (w : World) (ha : a.size ≤ 30000000000000) (hb : b.size ≤ 30000000000000) :
    Calls Tryz.prog 6 #[.int .u8 op, .string a, .string b] w fun e w' => e = reckonE op a.data.toList b.data.toList ∧ Below w.heap.size w w' := by
  cases h : isOp op with
  | false =>
    have hE : reckonE op a.data.toList b.data.toList = .returned (.tuple #[.string ⟨#[]⟩, .int .i64 1]) := by unfold reckonE reckonD; rw [h]; rfl
    rw [hE]
    have hh : ¬ (op = 43 ∨ op = 45 ∨ op = 42 ∨ op = 47 ∨ op = 37) := by simpa [isOp] using h
    exact refReckon_none op a b w (bne_iff_ne.2 (by omega)) (bne_iff_ne.2 (by omega)) (bne_iff_ne.2 (by omega)) (bne_iff_ne.2 (by omega)) (bne_iff_ne.2 (by omega))
  | true =>
    have hna : ((numberD a.data.toList).2 != 0) = false → -9223372036854775808 ≤ (numberD a.data.toList).1 ∧ (numberD a.data.toList).1 ≤ 9223372036854775807 := by
      intro _
      rcases numberD_cases a.data.toList with ⟨_, h⟩ | ⟨_, h⟩
      · exact h
      · rw [h]; omega
    have hnb : ((numberD b.data.toList).2 != 0) = false → -9223372036854775808 ≤ (numberD b.data.toList).1 ∧ (numberD b.data.toList).1 ≤ 9223372036854775807 := by
      intro _
      rcases numberD_cases b.data.toList with ⟨_, h⟩ | ⟨_, h⟩
      · exact h
      · rw [h]; omega
    have hend : ((numberD a.data.toList).2 != 0) = true ∧ ba (reckonD op a.data.toList b.data.toList).1 = ⟨#[]⟩ ∧ (reckonD op a.data.toList b.data.toList).2 = (numberD a.data.toList).2 ∨
        ((numberD a.data.toList).2 != 0) = false ∧ ((numberD b.data.toList).2 != 0) = true ∧ ba (reckonD op a.data.toList b.data.toList).1 = ⟨#[]⟩ ∧ (reckonD op a.data.toList b.data.toList).2 = (numberD b.data.toList).2 ∨
        ((numberD a.data.toList).2 != 0) = false ∧ ((numberD b.data.toList).2 != 0) = false ∧ ((opN op (numberD a.data.toList).1 (numberD b.data.toList).1).2 != 0) = true ∧ ba (reckonD op a.data.toList b.data.toList).1 = ⟨#[]⟩ ∧ (reckonD op a.data.toList b.data.toList).2 = (opN op (numberD a.data.toList).1 (numberD b.data.toList).1).2 ∨
        ((numberD a.data.toList).2 != 0) = false ∧ ((numberD b.data.toList).2 != 0) = false ∧ ((opN op (numberD a.data.toList).1 (numberD b.data.toList).1).2 != 0) = false ∧ ba (reckonD op a.data.toList b.data.toList).1 = ba (textL (opN op (numberD a.data.toList).1 (numberD b.data.toList).1).1) ∧ (reckonD op a.data.toList b.data.toList).2 = 0 := by
      unfold reckonD
      rw [h]
      simp only [if_true]
      by_cases e1 : (numberD a.data.toList).2 = 0
      · have f1 : ((numberD a.data.toList).2 != 0) = false := by rw [e1]; rfl
        rw [if_neg (by rw [e1]; simp)]
        by_cases e2 : (numberD b.data.toList).2 = 0
        · have f2 : ((numberD b.data.toList).2 != 0) = false := by rw [e2]; rfl
          rw [if_neg (by rw [e2]; simp)]
          by_cases e3 : (opN op (numberD a.data.toList).1 (numberD b.data.toList).1).2 = 0
          · have f3 : ((opN op (numberD a.data.toList).1 (numberD b.data.toList).1).2 != 0) = false := by rw [e3]; rfl
            rw [if_neg (by rw [e3]; simp)]
            exact .inr (.inr (.inr ⟨f1, f2, f3, rfl, rfl⟩))
          · rw [if_pos e3]
            exact .inr (.inr (.inl ⟨f1, f2, bne_iff_ne.2 e3, rfl, rfl⟩))
        · rw [if_pos e2]
          exact .inr (.inl ⟨f1, bne_iff_ne.2 e2, rfl, rfl⟩)
      · rw [if_pos e1]
        exact .inl ⟨bne_iff_ne.2 e1, rfl, rfl⟩
    have hh : op = 43 ∨ op = 45 ∨ op = 42 ∨ op = 47 ∨ op = 37 := by simpa [isOp] using h
    rcases hh with rfl | rfl | rfl | rfl | rfl
    · exact refReckon_43 a b _ _ _ _ _ _ 0 0 _ w (fun w => refNumber_any a w ha) (fun w => refNumber_any b w hb) (fun p q w => refAdd_any _ _ w (hna p) (hnb q)) (fun p q r w => refText_any _ w (opN_bounds 43 _ _ (hna p) (show (into _).2 = 0 from by simpa using r))) _ _ hend
    · exact refReckon_45 a b _ _ _ _ _ _ _ _ _ w (fun w => refNumber_any a w ha) (fun w => refNumber_any b w hb) (fun p q w => refAdd_any _ _ w (hna p) (hnb q)) (fun p q w => (refFn_any 45 _ _ w h (hna p) (hnb q)).1 rfl) (fun p q r w => refText_any _ w (opN_bounds 45 _ _ (hna p) (by simpa using r))) _ _ hend
    · exact refReckon_42 a b _ _ _ _ _ _ _ _ _ w (fun w => refNumber_any a w ha) (fun w => refNumber_any b w hb) (fun p q w => refAdd_any _ _ w (hna p) (hnb q)) (fun p q w => (refFn_any 42 _ _ w h (hna p) (hnb q)).2.1 rfl) (fun p q r w => refText_any _ w (opN_bounds 42 _ _ (hna p) (by simpa using r))) _ _ hend
    · exact refReckon_47 a b _ _ _ _ _ _ _ _ _ w (fun w => refNumber_any a w ha) (fun w => refNumber_any b w hb) (fun p q w => refAdd_any _ _ w (hna p) (hnb q)) (fun p q w => (refFn_any 47 _ _ w h (hna p) (hnb q)).2.2.1 rfl) (fun p q r w => refText_any _ w (opN_bounds 47 _ _ (hna p) (by simpa using r))) _ _ hend
    · exact refReckon_37 a b _ _ _ _ _ _ _ _ _ w (fun w => refNumber_any a w ha) (fun w => refNumber_any b w hb) (fun p q w => refAdd_any _ _ w (hna p) (hnb q)) (fun p q w => (refFn_any 37 _ _ w h (hna p) (hnb q)).2.2.2 rfl) (fun p q r w => refText_any _ w (opN_bounds 37 _ _ (hna p) (by simpa using r))) _ _ hend
end Go.Proofs.YtokfkckfclnoaaaGreatDoor
