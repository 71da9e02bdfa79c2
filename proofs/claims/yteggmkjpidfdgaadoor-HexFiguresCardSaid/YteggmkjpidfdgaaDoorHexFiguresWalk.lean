/- The statement HexFigures, walked: the call returns true at every number and text and writes nothing that was there. Condition: the library's table of powers of ten holds what its text lays. -/
import Derived.Test.YteggmkjpidfdgaaDoorHexNumbersWalk
import Derived.Lib.ItoaLen
namespace Go.Proofs.YteggmkjpidfdgaaDoor
open Go.RowKit Go.Lib

theorem isFig_dig (d : Nat) (h : d < 10) : isFig (UInt8.ofNat (48 + d)) = true ∧ figV (UInt8.ofNat (48 + d)) = d := by
  have : ∀ m : Fin 10, isFig (UInt8.ofNat (48 + m.val)) = true ∧ figV (UInt8.ofNat (48 + m.val)) = m.val := by decide +kernel
  exact this ⟨d, h⟩
theorem decDigits_figs (u : Nat) : (decDigits u).all isFig = true ∧ natOf (decDigits u) = u := by
  induction u using Nat.strongRecOn with
  | _ u ih =>
    by_cases h : u < 10
    · rw [decDigits, dif_pos h]
      have := isFig_dig u h
      refine ⟨by rw [List.all_cons, List.all_nil, this.1]; rfl, ?_⟩
      show 10 * 0 + figV (UInt8.ofNat (48 + u)) = u
      rw [this.2]; omega
    · rw [decDigits, dif_neg h]
      obtain ⟨h1, h2⟩ := ih (u / 10) (by omega)
      have := isFig_dig (u % 10) (by omega)
      refine ⟨by rw [List.all_append, h1, List.all_cons, List.all_nil, this.1]; rfl, ?_⟩
      rw [natOf_snoc, h2, this.2]; omega
theorem decDigits_ne (u : Nat) : decDigits u ≠ [] := by
  intro h
  have h1 := congrArg List.length h
  rw [decDigits_length, List.length_nil] at h1
  have h2 := nDigits_pos u
  omega
/-- What stands behind is no figure. -/
def noFig (l : List UInt8) : Prop := ∀ c r, l = c :: r → isFig c = false
theorem figs_more (a m : List UInt8) (ha : a.all isFig = true) (hm : noFig m) : figs (a ++ m) = a := by
  cases m with
  | nil => rw [List.append_nil, figs_all a ha]
  | cons c r => exact figs_stop a r c ha (hm c r rfl)
theorem decDigits_head (u : Nat) (m : List UInt8) : isNeg (decDigits u ++ m) = false := by
  cases h : decDigits u with
  | nil => exact absurd h (decDigits_ne u)
  | cons c r =>
    have h1 := (decDigits_figs u).1
    rw [h] at h1
    simp only [List.all_cons, Bool.and_eq_true] at h1
    unfold isNeg
    simp only [List.cons_append, List.head?_cons]
    cases hb : (some c == some (45 : UInt8)) with
    | false => rfl
    | true =>
      have : c = 45 := by simpa using hb
      rw [this] at h1
      exact absurd h1.1 (by decide)
theorem wholeD_neg (u : Nat) (m : List UInt8) (hm : noFig m) (hu : u ≤ 9223372036854775808) :
    wholeD (45 :: decDigits u ++ m) = (-(u : Int), ((45 :: decDigits u).length : Int), 0) := by
  have hn : isNeg (45 :: decDigits u ++ m) = true := rfl
  have ha : afterSign (45 :: decDigits u ++ m) = decDigits u ++ m := by unfold afterSign; rw [if_pos hn]; rfl
  have hf := figs_more (decDigits u) m (decDigits_figs u).1 hm
  unfold wholeD
  rw [ha, hf, if_neg (decDigits_ne u), if_pos hn, (decDigits_figs u).2, if_pos hu]
  simp
theorem wholeD_pos (u : Nat) (m : List UInt8) (hm : noFig m) (hu : u ≤ 9223372036854775807) :
    wholeD (decDigits u ++ m) = ((u : Int), ((decDigits u).length : Int), 0) := by
  have hn := decDigits_head u m
  have ha : afterSign (decDigits u ++ m) = decDigits u ++ m := by unfold afterSign; rw [if_neg (by rw [hn]; simp)]
  have hf := figs_more (decDigits u) m (decDigits_figs u).1 hm
  unfold wholeD
  rw [ha, hf, if_neg (decDigits_ne u), if_neg (by rw [hn]; simp), (decDigits_figs u).2, if_pos hu]
theorem wholeD_zero (u : Nat) (m : List UInt8) (hm : noFig m) (hu : u ≤ 9223372036854775807) :
    wholeD (48 :: decDigits u ++ m) = ((u : Int), ((decDigits u).length : Int) + 1, 0) := by
  have hn : isNeg (48 :: decDigits u ++ m) = false := rfl
  have ha : afterSign (48 :: decDigits u ++ m) = 48 :: decDigits u ++ m := by unfold afterSign; rw [if_neg (by rw [hn]; simp)]
  have h0 : (48 :: decDigits u).all isFig = true := by rw [List.all_cons, (decDigits_figs u).1]; decide
  have hf := figs_more (48 :: decDigits u) m h0 hm
  have hv : natOf (48 :: decDigits u) = u := by
    have : natOf (48 :: decDigits u) = natOf (decDigits u) := rfl
    rw [this, (decDigits_figs u).2]
  unfold wholeD
  rw [ha, hf, if_neg (by simp), if_neg (by rw [hn]; simp), hv, if_pos hu]
  simp

theorem whole_at (S : ByteArray) (l : List UInt8) (x y z : Int) (hl : S.data.toList = l) (hd : wholeD l = (x, y, z)) (hs : S.size ≤ 70000000000000) (w : World) :
    Calls Tryd.prog 19 #[.string S] w fun e w' => e = .returned (.tuple #[.int .i64 x, .int .i64 y, .int .i64 z]) ∧ w = w' :=
  (whole_any S w hs).mono fun e w' h => ⟨h.1.trans (by rw [hl]; unfold wholeE; rw [hd]), h.2⟩

set_option maxHeartbeats 1000000 in
theorem hexFigures_walk (n : Int) (hn : -9223372036854775808 ≤ n ∧ n ≤ 9223372036854775807) (t : ByteArray) (hs : t.size ≤ maxLen) (w : World) (ht : Tab w) :
    Calls Tryd.prog 6 #[.int .i64 n, .string t] w fun e w' => e = .returned (.bool true) ∧ Below w.heap.size w w' := by
  unfold maxLen at hs
  have c1 := shown_any w ht
  have len : ∀ s : ByteArray, s.data.toList.length = s.size := fun s => by rw [Array.length_toList]; rfl
  by_cases hbig : 1000 < t.size
  · clear hn len
    go_enter Tryd.func6, Tryd.ntmps6
    go_wp2_with (first | (go_at_call 10; refine c1.mono ?_; rintro e w1 ⟨rfl, hb1⟩))
    all_goals
      go_ret
      exact ⟨rfl, hb1⟩
  · have hb0 : (t.size : Int) ≤ 1000 := by omega
    by_cases hfig : ∃ h : 0 < t.size, isFig t[0] = true
    · obtain ⟨hp, hf⟩ := hfig
      obtain ⟨z, hz⟩ : ∃ z : Int, (t[0].toNat : Int) = z := ⟨_, rfl⟩
      have hf2 := fig_bounds _ hf
      rw [hz] at hf2
      obtain ⟨f1, f2⟩ := hf2
      have hp2 : (0 : Int) < (t.size : Int) := by omega
      clear hn hf len
      go_enter Tryd.func6, Tryd.ntmps6
      go_wp2_with (first | (go_at_call 10; refine c1.mono ?_; rintro e w1 ⟨rfl, hb1⟩))
      all_goals
        go_ret
        exact ⟨rfl, hb1⟩
    · have hno : noFig t.data.toList := by
        intro c r hcr
        have hp : 0 < t.size := by rw [← len, hcr]; simp
        have h0 : t[0] = c := by
          have : t.data.toList[0]? = some t[0] := by rw [List.getElem?_eq_getElem (by rw [len]; exact hp)]; rfl
          rw [hcr] at this
          exact (Option.some.inj this).symm
        rw [← h0, ← Bool.not_eq_true]
        exact fun h => hfig ⟨hp, h⟩
      obtain ⟨S, hS⟩ : ∃ S : ByteArray, S = ⟨(Lib.itoa n).toArray⟩ := ⟨_, rfl⟩
      have hSl : S.data.toList = Lib.itoa n := by rw [hS]
      have k1 := fun w (ht : Tab w) => figures_any n w hn.1 hn.2 ht
      rw [← hS] at k1
      have hSs : S.size ≤ 21 := by
        rw [← len, hSl]; exact Lib.itoa_length_le n hn.1 hn.2
      have hl1 : (S ++ t).data.toList = Lib.itoa n ++ t.data.toList := by rw [ByteArray.data_append, Array.toList_append, hSl]
      have hl2 : ((⟨#[48]⟩ : ByteArray) ++ S ++ t).data.toList = 48 :: Lib.itoa n ++ t.data.toList := by
        rw [ByteArray.data_append, ByteArray.data_append, Array.toList_append, Array.toList_append, hSl]; rfl
      have hz1 : (S ++ t).size ≤ 70000000000000 := by rw [ByteArray.size_append]; omega
      have hz2 : ((⟨#[48]⟩ : ByteArray) ++ S ++ t).size ≤ 70000000000000 := by
        rw [ByteArray.size_append, ByteArray.size_append]
        have : (⟨#[48]⟩ : ByteArray).size = 1 := rfl
        omega
      have hq1 : (9223372036854775807 < S.size + t.size) = False := by simp only [eq_iff_iff, iff_false]; omega
      have hq2 : (9223372036854775807 < 1 + S.size) = False := by simp only [eq_iff_iff, iff_false]; omega
      have hq3 : (9223372036854775807 < 1 + S.size + t.size) = False := by simp only [eq_iff_iff, iff_false]; omega
      have cls : t.size = 0 ∨ ∃ h : 0 < t.size, (t[0].toNat : Int) < 48 ∨ 57 < (t[0].toNat : Int) := by
        by_cases h0 : t.size = 0
        · exact .inl h0
        · refine .inr ⟨by omega, ?_⟩
          have : isFig t[0] = false := by
            cases hb : isFig t[0] with
            | false => rfl
            | true => exact absurd ⟨by omega, hb⟩ hfig
          unfold isFig at this
          rw [Bool.and_eq_false_iff, decide_eq_false_iff_not, decide_eq_false_iff_not] at this
          omega
      have hSl2 : ((Lib.itoa n).length : Int) = (S.size : Int) := by rw [← len, hSl]
      by_cases hneg : n < 0
      · have hwd : wholeD (Lib.itoa n ++ t.data.toList) = (n, (S.size : Int), 0) := by
          have e : Lib.itoa n = 45 :: decDigits n.natAbs := by unfold Lib.itoa; rw [if_pos hneg]
          rw [← hSl2, e, wholeD_neg n.natAbs _ hno (by omega)]
          have : -(n.natAbs : Int) = n := by omega
          rw [this]
        have k3 := fun w => whole_at (S ++ t) _ n (S.size : Int) 0 hl1 hwd hz1 w
        clear hS hSl hl1 hl2 hz1 hz2 hno hwd hn len hSl2
        rcases cls with h0 | ⟨hp, h | h⟩
        all_goals
          clear hfig
          go_enter Tryd.func6, Tryd.ntmps6
          go_wp2_with (first
            | (go_at_call 10; refine c1.mono ?_; rintro e w1 ⟨rfl, HB⟩)
            | (go_at_call 21; refine (k1 _ (ht.below HB)).mono ?_; rintro e w2 ⟨rfl, hb⟩; replace HB : Below w.heap.size w w2 := below_step HB hb; clear hb)
            | (go_at_call 19; refine (k3 _).mono ?_; rintro e w2 ⟨rfl, rfl⟩))
          go_ret
          exact ⟨rfl, HB⟩
      · have e : Lib.itoa n = decDigits n.toNat := by unfold Lib.itoa; rw [if_neg hneg]
        have hnn : ((n.toNat : Nat) : Int) = n := by omega
        have hwd : wholeD (Lib.itoa n ++ t.data.toList) = (n, (S.size : Int), 0) := by
          rw [← hSl2, e, wholeD_pos n.toNat _ hno (by omega), hnn]
        have hwd2 : wholeD (48 :: Lib.itoa n ++ t.data.toList) = (n, (S.size : Int) + 1, 0) := by
          rw [← hSl2, e, wholeD_zero n.toNat _ hno (by omega), hnn]
        have k3 := fun w => whole_at (S ++ t) _ n (S.size : Int) 0 hl1 hwd hz1 w
        have k4 := fun w => whole_at ((⟨#[48]⟩ : ByteArray) ++ S ++ t) _ n ((S.size : Int) + 1) 0 hl2 hwd2 hz2 w
        clear hS hSl hl1 hl2 hz1 hz2 hno hwd hwd2 hn len hSl2 e hnn
        rcases cls with h0 | ⟨hp, h | h⟩
        all_goals
          clear hfig
          go_enter Tryd.func6, Tryd.ntmps6
          go_wp2_with (first
            | (go_at_call 10; refine c1.mono ?_; rintro e w1 ⟨rfl, HB⟩)
            | (go_at_call 21; refine (k1 _ (ht.below HB)).mono ?_; rintro e w2 ⟨rfl, hb⟩; replace HB : Below w.heap.size w w2 := below_step HB hb; clear hb)
            | (go_at_call 19; (first | with_reducible refine (k3 _).mono ?_ | with_reducible refine (k4 _).mono ?_); rintro e w2 ⟨rfl, rfl⟩))
          go_ret
          exact ⟨rfl, HB⟩
end Go.Proofs.YteggmkjpidfdgaaDoor
