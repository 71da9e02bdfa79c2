/- What a float is, as dec.Float answers it: of no number, of an infinite one, and of a finite one (a million times it, cut). Condition: the bits are 64. -/
import Derived.Test.YtokfkckfclnoaaaDoorFloatMillion
import Derived.Test.YtokfkckfclnoaaaDoorDecCalls
namespace Go.Proofs.YtokfkckfclnoaaaDoor
open Go.RowKit

theorem exact_nan (b : Nat) (w : World) (h : infR < rung b) :
    Calls Tryd.prog 73 #[.float .f64 b] w fun e w' => e = .panicked [{ v := .iface 23 (.int .i64 5), recovered := false }] ∧ Below w.heap.size w w' := by
  have k1 := fun w => isNaN_any b w
  rw [isNaN_nan b h] at k1
  clear h
  go_enter Tryd.func73, Tryd.ntmps73
  go_wp2_with (go_at_call 95; refine (k1 _).mono ?_; rintro e w' ⟨rfl, rfl⟩)
  exact ⟨rfl, rfl, Below.refl _ _⟩
theorem exact_inf (b : Nat) (w : World) (hb : b < 18446744073709551616) (h : rung b = infR) :
    Calls Tryd.prog 73 #[.float .f64 b] w fun e w' => e = .panicked [{ v := .iface 23 (.int .i64 3), recovered := false }] ∧ Below w.heap.size w w' := by
  have k1 := fun w => isNaN_any b w
  have k2 := fun w => isInf_any b w hb
  rw [isNaN_inf b h] at k1
  rw [h, isInf_inf] at k2
  clear h hb
  go_enter Tryd.func73, Tryd.ntmps73
  go_wp2_with (first | (go_at_call 95; refine (k1 _).mono ?_; rintro e w' ⟨rfl, rfl⟩) | (go_at_call 96; refine (k2 _).mono ?_; rintro e w' ⟨rfl, rfl⟩))
  exact ⟨rfl, rfl, Below.refl _ _⟩

theorem sv_lt (b : Nat) (h0 : rung b ≠ 0) : (sv b < 0) ↔ sgb b = true := by
  have hl : lst 0 < lst (rung b) := lst_mono (by omega)
  have h00 : lst 0 = 0 := by decide
  unfold sv
  cases sgb b
  · simp
  · simp; omega
theorem sv_none (b : Nat) : (sv b = 0) ↔ rung b = 0 := by
  have h00 : lst 0 = 0 := by decide
  constructor
  · intro h
    by_cases h0 : rung b = 0
    · exact h0
    · have hl : lst 0 < lst (rung b) := lst_mono (by omega)
      unfold sv at h
      split at h <;> omega
  · intro h
    unfold sv
    rw [h, h00]
    split <;> rfl
theorem eq_none (b : Nat) (h : rung b < infR) : (FloatKind.f64.format.order b 0 == some .eq) = decide (rung b = 0) := by
  show (Ieee.double.order b 0 == some .eq) = _
  rw [order_fin b 0 h (by decide), show sv 0 = 0 by decide]
  by_cases h0 : rung b = 0
  · rw [(sv_none b).2 h0, decide_eq_true h0]; decide
  · have hne : sv b ≠ 0 := fun hx => h0 ((sv_none b).1 hx)
    rw [decide_eq_false h0]
    rcases Int.lt_trichotomy (sv b) 0 with hx | hx | hx
    · rw [Std.compare_eq_lt.2 hx]; rfl
    · exact absurd hx hne
    · rw [Std.compare_eq_gt.2 hx]; rfl
theorem lt_none (b : Nat) (h : rung b < infR) (h0 : rung b ≠ 0) : (FloatKind.f64.format.order b 0 == some .lt) = sgb b := by
  show (Ieee.double.order b 0 == some .lt) = _
  rw [order_fin b 0 h (by decide), show sv 0 = 0 by decide]
  have hne : sv b ≠ 0 := fun hx => h0 ((sv_none b).1 hx)
  have hs := sv_lt b h0
  rcases Int.lt_trichotomy (sv b) 0 with hx | hx | hx
  · rw [Std.compare_eq_lt.2 hx, hs.1 hx]; rfl
  · exact absurd hx hne
  · rw [Std.compare_eq_gt.2 hx]
    have : sgb b ≠ true := fun hy => by have := hs.2 hy; omega
    rw [Bool.eq_false_iff.2 this]; rfl

theorem none_of (l a : Nat) (h : l = 0) : l * 1000000 / 2 ^ a = 0 := by rw [h, Nat.zero_mul, Nat.zero_div]
theorem mill_none : mill 0 = 0 := none_of (lst 0) 1074 (by decide)
theorem exact_fin (b : Nat) (w : World) (hb : b < 18446744073709551616) (h : rung b < infR) :
    Calls Tryd.prog 73 #[.float .f64 b] w fun e w' => e = deedOf (sgn (sgb b) (mill (rung b))) ∧ Below w.heap.size w w' := by
  have k1 := fun w => isNaN_any b w
  have k2 := fun w => isInf_any b w hb
  have k3 := eq_none b h
  have k4 := fun w => absF_any b w hb
  rw [isNaN_fin b h] at k1
  rw [isInf_fin (rung b) h] at k2
  by_cases h0 : rung b = 0
  · rw [decide_eq_true h0] at k3
    have hr : deedOf (sgn (sgb b) (mill (rung b))) = .returned (.int .i64 0) := by
      rw [h0, mill_none]
      cases sgb b <;> exact deedOf_in (by decide)
    rw [hr]
    clear hb h h0 hr k4
    go_enter Tryd.func73, Tryd.ntmps73
    go_wp2_with (first | (go_at_call 95; refine (k1 _).mono ?_; rintro e w' ⟨rfl, rfl⟩) | (go_at_call 96; refine (k2 _).mono ?_; rintro e w' ⟨rfl, rfl⟩))
    go_ret
    exact ⟨rfl, Below.refl _ _⟩
  · rw [decide_eq_false h0] at k3
    have k5 := lt_none b h h0
    rcases million_any (rung b) h (by omega) with ⟨m1, km⟩ | ⟨m1, km⟩
    · have ks := fun w => signed_any (mill (rung b)) (sgb b) w m1
      have hd : deedOf (sgn (sgb b) (mill (rung b))) = overE ∨ ∃ n, deedOf (sgn (sgb b) (mill (rung b))) = .returned (.int .i64 n) := by
        unfold deedOf; split
        · exact Or.inr ⟨_, rfl⟩
        · exact Or.inl rfl
      clear m1 hb h h0
      generalize deedOf (sgn (sgb b) (mill (rung b))) = dd at *
      generalize mill (rung b) = mr at *
      generalize rung b = rr at *
      generalize sgb b = sb at *
      unfold overE at hd
      rcases hd with hd | ⟨n, hd⟩
      · subst hd
        go_enter Tryd.func73, Tryd.ntmps73
        go_wp2_with (first | (go_at_call 95; refine (k1 _).mono ?_; rintro e w' ⟨rfl, rfl⟩) | (go_at_call 96; refine (k2 _).mono ?_; rintro e w' ⟨rfl, rfl⟩) | (go_at_call 98; refine (k4 _).mono ?_; rintro e w' ⟨rfl, rfl⟩) | (go_at_call 97; refine (km _).mono ?_; rintro e w' ⟨rfl, rfl⟩) | (go_at_call 64; refine (ks _).mono ?_; rintro e w' ⟨rfl, rfl⟩))
        exact ⟨rfl, rfl, Below.refl _ _⟩
      · subst hd
        go_enter Tryd.func73, Tryd.ntmps73
        go_wp2_with (first | (go_at_call 95; refine (k1 _).mono ?_; rintro e w' ⟨rfl, rfl⟩) | (go_at_call 96; refine (k2 _).mono ?_; rintro e w' ⟨rfl, rfl⟩) | (go_at_call 98; refine (k4 _).mono ?_; rintro e w' ⟨rfl, rfl⟩) | (go_at_call 97; refine (km _).mono ?_; rintro e w' ⟨rfl, rfl⟩) | (go_at_call 64; refine (ks _).mono ?_; rintro e w' ⟨rfl, rfl⟩))
        go_ret
        exact ⟨rfl, Below.refl _ _⟩
    · rw [deedOf_out (by unfold sgn; split <;> omega)]
      clear hb h h0 k5 m1
      unfold overE at *
      generalize rung b = rr at *
      go_enter Tryd.func73, Tryd.ntmps73
      go_wp2_with (first | (go_at_call 95; refine (k1 _).mono ?_; rintro e w' ⟨rfl, rfl⟩) | (go_at_call 96; refine (k2 _).mono ?_; rintro e w' ⟨rfl, rfl⟩) | (go_at_call 98; refine (k4 _).mono ?_; rintro e w' ⟨rfl, rfl⟩) | (go_at_call 97; refine (km _).mono ?_; rintro e w' ⟨rfl, rfl⟩))
      exact ⟨rfl, rfl, Below.refl _ _⟩

/-- What a float is: the number, and the error. -/
def floatN (b : Nat) : Int × Int := if infR < rung b then (0, 5) else if rung b = infR then (0, 3) else into (sgn (sgb b) (mill (rung b)))
def floatE (b : Nat) : Ending := .returned (.tuple #[.int .i64 (floatN b).1, .int .i64 (floatN b).2])

theorem float1_any (p b : Nat) (dd : Ending) (w : World) (hp : w.cell? ⟨p, 0, none⟩ = some (.float .f64 b))
    (hd : (∃ n, dd = .returned (.int .i64 n)) ∨ ∃ n, dd = .panicked [{ v := .iface 23 (.int .i64 n), recovered := false }])
    (ke : ∀ w, Calls Tryd.prog 73 #[.float .f64 b] w fun e w' => e = dd ∧ Below w.heap.size w w') :
    Calls Tryd.prog 72 #[.pointer (some ⟨p, 0, none⟩)] w fun e w' => e = dd ∧ Below w.heap.size w w' := by
  rcases hd with ⟨n, rfl⟩ | ⟨n, rfl⟩
  · go_enter Tryd.func72, Tryd.ntmps72
    go_wp2_with (go_at_call 73; refine (ke _).mono ?_; rintro e w' ⟨rfl, hb2⟩)
    go_ret
    exact ⟨rfl, hb2⟩
  · go_enter Tryd.func72, Tryd.ntmps72
    go_wp2_with (go_at_call 73; refine (ke _).mono ?_; rintro e w' ⟨rfl, hb2⟩)
    exact ⟨rfl, rfl, hb2⟩

theorem one_of_new_float {w : World} {b : Nat} {w1 : World} (hb : Below (w.alloc (.cells #[.float .f64 b] 38)).heap.size (w.alloc (.cells #[.float .f64 b] 38)) w1) :
    w1.cell? ⟨w.heap.size, 0, none⟩ = some (.float .f64 b) :=
  (cell_one (below_two hb (heap_alloc_new _ _) (by simp))).1

theorem float_any (b : Nat) (w : World) (hb : b < 18446744073709551616) :
    Calls Tryd.prog 31 #[.float .f64 b] w fun e w' => e = floatE b ∧ Below w.heap.size w w' := by
  have hmf : ∀ (fn : Fn) (first cap : Array Value) (w : World), (Instr.makeFunc fn first cap).run Tryd.prog w = .ok (.func fn first cap) w := fun _ _ _ _ => rfl
  have k1 : Calls Tryd.prog 47 #[.func (.func 72) #[] #[.pointer (some ⟨w.heap.size, 0, none⟩)]] (w.alloc (.cells #[.float .f64 b] 38)) fun e w' => e = floatE b ∧ Below (w.alloc (.cells #[.float .f64 b] 38)).heap.size (w.alloc (.cells #[.float .f64 b] 38)) w' := by
    unfold floatE floatN
    by_cases h1 : infR < rung b
    · rw [if_pos h1]
      exact kept_bad 72 _ 5 _ (enters_of Tryd.func72 (by kernel_rfl) rfl) (fun w1 hb1 => float1_any w.heap.size b _ w1 (one_of_new_float hb1) (Or.inr ⟨5, rfl⟩) (fun w => exact_nan b w h1))
    · rw [if_neg h1]
      by_cases h2 : rung b = infR
      · rw [if_pos h2]
        exact kept_bad 72 _ 3 _ (enters_of Tryd.func72 (by kernel_rfl) rfl) (fun w1 hb1 => float1_any w.heap.size b _ w1 (one_of_new_float hb1) (Or.inr ⟨3, rfl⟩) (fun w => exact_inf b w hb h2))
      · rw [if_neg h2]
        refine kept_any 72 _ (sgn (sgb b) (mill (rung b))) _ (enters_of Tryd.func72 (by kernel_rfl) rfl) (fun w1 hb1 => float1_any w.heap.size b _ w1 (one_of_new_float hb1) ?_ (fun w => exact_fin b w hb (by omega)))
        unfold deedOf
        split
        · exact Or.inl ⟨_, rfl⟩
        · exact Or.inr ⟨3, rfl⟩
  unfold floatE at *
  generalize floatN b = r at *
  clear hb
  go_enter Tryd.func31, Tryd.ntmps31
  go_wp2_with (go_at_call 47; refine k1.mono ?_; rintro e w' ⟨rfl, hb2⟩)
  go_ret2
  exact ⟨rfl, ((Below.refl _ w).alloc (Nat.le_refl _) _).trans (hb2.mono (by simp))⟩

end Go.Proofs.YtokfkckfclnoaaaDoor
