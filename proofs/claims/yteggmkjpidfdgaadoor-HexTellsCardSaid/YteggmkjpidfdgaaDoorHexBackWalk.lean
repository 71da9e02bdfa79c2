/- The statement HexBack, walked: the call returns true at every two texts within the reach and writes nothing that was there. Condition: the library's table of powers of ten holds what its text lays. -/
import Derived.Test.YteggmkjpidfdgaaDoorHexNamesWalk
import Derived.Test.YteggmkjpidfdgaaDoorHexUn
namespace Go.Proofs.YteggmkjpidfdgaaDoor
open Go.RowKit Go.Lib

theorem hexDg_rest (n : Nat) (h : n < 16) : restOk (hexDg n) = true := by
  have : ∀ m : Fin 16, restOk (hexDg m.val) = true := by decide +kernel
  exact this ⟨n, h⟩
theorem hexL_rest (l : List UInt8) : (hexL l).all restOk = true := by
  induction l with
  | nil => rfl
  | cons c l ih =>
    have hc := c.toNat_lt
    simp [hexL, ih, hexDg_rest (c.toNat / 16) (by omega), hexDg_rest (c.toNat % 16) (by omega)]
theorem isNameB_hexT (l : List UInt8) : isNameB (hexT l) = true := by
  simp only [isNameB, hexT, namePre, hexL_rest, List.isEmpty_cons, Bool.not_false, Bool.true_and, Bool.and_true]
  decide

theorem mk_data (s : ByteArray) : (⟨s.data.toList.toArray⟩ : ByteArray) = s := by cases s; simp
theorem below_one {w w1 w2 : World} {v : Value} {e : Ending} (h : e = .returned v ∧ Below w1.heap.size w1 w2) (HB : Below w.heap.size w w1) : e = .returned v ∧ Below w.heap.size w w2 := ⟨h.1, below_step HB h.2⟩

theorem unhexE_some {t l : List UInt8} (h : unhexO t = some l) : unhexE t = .returned (.tuple #[.string ⟨l.toArray⟩, .int .i64 0]) := by unfold unhexE; rw [h]
theorem unhexE_none {t : List UInt8} (h : unhexO t = none) : unhexE t = .returned (.tuple #[.string ⟨#[]⟩, .int .i64 2]) := by unfold unhexE; rw [h]

set_option maxHeartbeats 1000000 in
theorem hexBack_walk (s : ByteArray) (hs : s.size ≤ 140737488351232) (t : ByteArray) (ht0 : t.size ≤ 140737488351232) (w : World) (ht : Tab w) :
    Calls Tryd.prog 5 #[.string s, .string t] w fun e w' => e = .returned (.bool true) ∧ Below w.heap.size w w' := by
  have c1 := shown_any w ht
  by_cases hbig : 5000 < s.size + t.size
  · have hbb : (5000 : Int) < (s.size : Int) + (t.size : Int) := by omega
    go_enter Tryd.func5, Tryd.ntmps5
    go_wp2_with (first | (go_at_call 10; refine c1.mono ?_; rintro e w1 ⟨rfl, hb1⟩))
    go_ret
    exact ⟨rfl, hb1⟩
  · obtain ⟨H, hH⟩ : ∃ H : ByteArray, H = ⟨(hexT s.data.toList).toArray⟩ := ⟨_, rfl⟩
    have hHl : H.data.toList = hexT s.data.toList := by rw [hH]
    have hsl : s.data.toList.length = s.size := by rw [Array.length_toList]; rfl
    have hHs : H.size = 1 + 2 * s.size := by
      have h1 : H.data.toList.length = H.size := by rw [Array.length_toList]; rfl
      rw [← h1, hHl, hexT_length, hsl]
    have k1 : ∀ w, Calls Tryd.prog 13 #[.string s] w fun e w' => e = .returned (.string H) ∧ Below w.heap.size w w' := fun w => by
      rw [hH]; exact hex_any s w (by omega)
    have k2 : ∀ w, Calls Tryd.prog 11 #[.string H] w fun e w' => e = .returned (.tuple #[.string s, .int .i64 0]) ∧ Below w.heap.size w w' := fun w =>
      (unhex_any H w (by omega)).mono fun e w' h => ⟨h.1.trans (by rw [hHl, unhexE_some (unhexO_hexT _), mk_data]), h.2⟩
    have k4 : ∀ w, Calls Tryd.prog 15 #[.string H] w fun e w' => e = .returned (.bool true) ∧ Below w.heap.size w w' := fun w =>
      (isName_any H w (by omega)).mono fun e w' h => ⟨h.1.trans (by rw [hHl, isNameB_hexT]), h.2⟩
    have hHS := Lib.hid hHs
    have he1 : ((H.size : Int) == 1 + 2 * (s.size : Int)) = true := by simp; omega
    have hb2 : (s.size : Int) + (t.size : Int) ≤ 5000 := by omega
    have hsz5 : s.size ≤ 5000 := by omega
    clear hH hHl hHs hsl hbig
    cases hu : unhexO t.data.toList with
    | none =>
      have k3 : ∀ w, Calls Tryd.prog 11 #[.string t] w fun e w' => e = .returned (.tuple #[.string ⟨#[]⟩, .int .i64 2]) ∧ Below w.heap.size w w' := fun w =>
        (unhex_any t w (by omega)).mono fun e w' h => ⟨h.1.trans (unhexE_none hu), h.2⟩
      clear hu
      go_enter Tryd.func5, Tryd.ntmps5
      go_wp2_with (first
        | (go_at_call 10; refine c1.mono ?_; rintro e w1 ⟨rfl, HB⟩)
        | (go_at_call 13; with_reducible refine (k1 _).mono ?_; rintro e w2 ⟨rfl, hb⟩; replace HB : Below w.heap.size w w2 := below_step HB hb; clear hb)
        | (go_at_call 11; (first | with_reducible refine (k2 _).mono ?_ | with_reducible refine (k3 _).mono ?_); rintro e w2 ⟨rfl, hb⟩; replace HB : Below w.heap.size w w2 := below_step HB hb; clear hb)
        | (go_at_call 15; with_reducible refine (k4 _).mono ?_; rintro e w2 ⟨rfl, hb⟩; replace HB : Below w.heap.size w w2 := below_step HB hb; clear hb))
      go_ret
      exact ⟨rfl, HB⟩
    | some l =>
      obtain ⟨B, hB⟩ : ∃ B : ByteArray, B = ⟨l.toArray⟩ := ⟨_, rfl⟩
      have hBl : B.data.toList = l := by rw [hB]
      have hlen : l.length ≤ 5000 := by
        have h1 := hexT_unhexO _ _ hu
        have h2 := congrArg List.length h1
        rw [hexT_length] at h2
        have h3 : t.data.toList.length = t.size := by rw [Array.length_toList]; rfl
        omega
      have hBs : B.size ≤ 5000 := by
        have h1 : B.data.toList.length = B.size := by rw [Array.length_toList]; rfl
        rw [← h1, hBl]; exact hlen
      have k3 : ∀ w, Calls Tryd.prog 11 #[.string t] w fun e w' => e = .returned (.tuple #[.string B, .int .i64 0]) ∧ Below w.heap.size w w' := fun w =>
        (unhex_any t w (by omega)).mono fun e w' h => ⟨h.1.trans (by rw [unhexE_some hu, hB]), h.2⟩
      have k5 : ∀ w, Calls Tryd.prog 13 #[.string B] w fun e w' => e = .returned (.string t) ∧ Below w.heap.size w w' := fun w =>
        (hex_any B w (by omega)).mono fun e w' h => ⟨h.1.trans (by rw [hBl, hexT_unhexO _ _ hu, mk_data]), h.2⟩
      clear hu hB hBl hlen
      go_enter Tryd.func5, Tryd.ntmps5
      go_wp2_with (first
        | (go_at_call 10; refine c1.mono ?_; rintro e w1 ⟨rfl, HB⟩)
        | (go_at_call 13; (first | with_reducible refine (k1 _).mono ?_ | with_reducible refine (k5 _).mono ?_); rintro e w2 ⟨rfl, hb⟩; replace HB : Below w.heap.size w w2 := below_step HB hb; clear hb)
        | (go_at_call 11; (first | with_reducible refine (k2 _).mono ?_ | with_reducible refine (k3 _).mono ?_); rintro e w2 ⟨rfl, hb⟩; replace HB : Below w.heap.size w w2 := below_step HB hb; clear hb)
        | (go_at_call 15; with_reducible refine (k4 _).mono ?_; rintro e w2 ⟨rfl, hb⟩; replace HB : Below w.heap.size w w2 := below_step HB hb; clear hb))
      go_ret
      exact ⟨rfl, HB⟩
end Go.Proofs.YteggmkjpidfdgaaDoor
