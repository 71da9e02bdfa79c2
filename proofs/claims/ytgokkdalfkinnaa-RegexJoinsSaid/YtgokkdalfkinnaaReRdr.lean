/- The reader of a regular expression: its methods take and begins. No condition. -/
import Derived.Test.YtgokkdalfkinnaaReMem
import Derived.Test.YtgokkdalfkinnaaClsReadAll
namespace Go.Proofs.Ytgokkdalfkinnaa
open Go.RowKit Go.Lib

/-- A reader: the tree's row so far, the rest of the text, how many brackets are open. -/
abbrev Rdr (B p : Nat) (xs : List Nd) (l : List UInt8) (d : Nat) (w : World) : Prop := Own B p 53 [.string ⟨l.toArray⟩, .int .i64 (d : Int)] xs w

theorem Own.cell {B p : Nat} {T : TypeId} {more : List Value} {xs : List Nd} {w : World} (h : Own B p T more xs w) {i : Nat} {u : Value} (hu : more[i]? = some u) : w.cell? ⟨p, i + 1, none⟩ = some u ∧ w.frozen? ⟨p, i + 1, none⟩ = false := by
  obtain ⟨_, _, _, _, v, h4, _⟩ := h
  refine ⟨?_, frozen_of_heap h4 _⟩
  rw [cell_of_heap h4]
  simpa using hu
theorem Own.put {B p : Nat} {T : TypeId} {more : List Value} {xs : List Nd} {w : World} (h : Own B p T more xs w) (i : Nat) (u : Value) : Own B p T (more.set i u) xs (w.setCell ⟨p, i + 1, none⟩ u) := by
  obtain ⟨h1, h2, h3, hT, v, h4, h5, h6⟩ := h
  refine ⟨h1, by simpa using h2, h3, hT, v, ?_, owns_same h5 fun g hg => Below.heap_setCell _ _ _ _ (fun e => h6 (by rw [hg]; simp [e])), h6⟩
  have h := heap_setCell_same w p (i + 1) _ _ u h4
  simpa using h
theorem list_full (c : UInt8) (l : List UInt8) : (⟨(c :: l).toArray⟩ : ByteArray).toList.isEmpty = false := full ⟨(c :: l).toArray⟩ rfl
theorem list_empty : (⟨([] : List UInt8).toArray⟩ : ByteArray).toList.isEmpty = true := by rw [toList_data]; rfl
theorem extract_from (l : List UInt8) (i m : Nat) (h : l.length ≤ m) : (⟨l.toArray⟩ : ByteArray).extract i m = ⟨(l.drop i).toArray⟩ := by
  apply ByteArray.ext
  rw [ByteArray.data_extract]
  apply Array.ext'
  simp only [List.extract_toArray, List.extract_eq_drop_take', List.toList_toArray]
  rw [List.take_of_length_le h]

set_option maxHeartbeats 1000000 in
set_option maxRecDepth 20000 in
theorem take_yes (B p : Nat) (xs : List Nd) (c : UInt8) (l : List UInt8) (d : Nat) (w : World) (h : Rdr B p xs (c :: l) d w) (hl : l.length ≤ 4611686018427387904) :
    Calls Try.prog 51 #[.pointer (some ⟨p, 0, none⟩), .int .u8 (c.toNat : Int)] w fun e w' => e = .returned (.bool true) ∧ Rdr B p xs l d w' ∧ Below B w w' := by
  obtain ⟨c1, f1⟩ := h.cell (i := 0) rfl
  have h2 := h.put 0 (.string ⟨l.toArray⟩)
  have hB : Below B w (w.setCell ⟨p, 0 + 1, none⟩ (.string ⟨l.toArray⟩)) := (Below.refl _ w).setCell (p := ⟨p, 0 + 1, none⟩) h.1 _
  obtain ⟨S, hS⟩ : ∃ S : ByteArray, S = ⟨(c :: l).toArray⟩ := ⟨_, rfl⟩
  rw [← hS] at c1
  have hE : S.toList.isEmpty = false := by rw [hS]; exact list_full c l
  have hz : S.size = l.length + 1 := by rw [hS]; simp [ByteArray.size]
  have hs : 0 < S.size := by omega
  have hb : S[0] = c := byte0 (r := l) (by rw [hS]) hs
  have HS := Lib.hid hS
  have HB := Lib.hid (And.intro h2 hB)
  clear hS h2 hB h
  go_enter Try.func51, Try.ntmps51
  go_wp2
  have he : S.extract 1 (l.length + 1) = ⟨l.toArray⟩ := by rw [HS.out]; exact extract_from (c :: l) 1 (l.length + 1) (by simp)
  rw [he]
  exact bodyPost_ret (results_tmp rfl _ _ _) rfl ⟨rfl, HB.out.1, HB.out.2⟩
set_option maxHeartbeats 1000000 in
set_option maxRecDepth 20000 in
theorem take_no (B p : Nat) (xs : List Nd) (c : UInt8) (l : List UInt8) (d : Nat) (w : World) (h : Rdr B p xs l d w) (hc : l.head? ≠ some c) :
    Calls Try.prog 51 #[.pointer (some ⟨p, 0, none⟩), .int .u8 (c.toNat : Int)] w fun e w' => e = .returned (.bool false) ∧ w' = w := by
  obtain ⟨c1, f1⟩ := h.cell (i := 0) rfl
  obtain ⟨S, hS⟩ : ∃ S : ByteArray, S = ⟨l.toArray⟩ := ⟨_, rfl⟩
  rw [← hS] at c1
  cases l with
  | nil =>
    have hE : S.toList.isEmpty = true := by rw [hS]; exact list_empty
    clear hS h
    go_enter Try.func51, Try.ntmps51
    go_wp2
    exact bodyPost_ret (results_tmp rfl _ _ _) rfl ⟨rfl, rfl⟩
  | cons a l =>
    have hE : S.toList.isEmpty = false := by rw [hS]; exact list_full a l
    have hz : S.size = l.length + 1 := by rw [hS]; simp [ByteArray.size]
    have hs : 0 < S.size := by omega
    have hb : S[0] = a := byte0 (r := l) (by rw [hS]) hs
    have hne : ((a.toNat : Int) == (c.toNat : Int)) = false := ne_int (fun e => hc (by rw [e]; rfl))
    clear hS h hc
    go_enter Try.func51, Try.ntmps51
    go_wp2
    exact bodyPost_ret (results_tmp rfl _ _ _) rfl ⟨rfl, rfl⟩
set_option maxHeartbeats 1000000 in
set_option maxRecDepth 20000 in
theorem begins_any (B p : Nat) (xs : List Nd) (l : List UInt8) (d : Nat) (w : World) (h : Rdr B p xs l d w) :
    Calls Try.prog 66 #[.pointer (some ⟨p, 0, none⟩)] w fun e w' => e = .returned (.bool (begins l)) ∧ w' = w := by
  obtain ⟨c1, f1⟩ := h.cell (i := 0) rfl
  obtain ⟨S, hS⟩ : ∃ S : ByteArray, S = ⟨l.toArray⟩ := ⟨_, rfl⟩
  rw [← hS] at c1
  cases l with
  | nil =>
    have hE : S.toList.isEmpty = true := by rw [hS]; exact list_empty
    clear hS h
    go_enter Try.func66, Try.ntmps66
    go_wp2
    exact bodyPost_ret (results_tmp rfl _ _ _) rfl ⟨rfl, rfl⟩
  | cons a l =>
    have hE : S.toList.isEmpty = false := by rw [hS]; exact list_full a l
    have hz : S.size = l.length + 1 := by rw [hS]; simp [ByteArray.size]
    have hs : 0 < S.size := by omega
    have hb : S[0] = a := byte0 (r := l) (by rw [hS]) hs
    have k : ∀ w, Calls Try.prog 75 #[.string ⟨#[42, 43, 63, 41, 124, 123, 125, 47, 93, 45, 10]⟩, .int .u8 (a.toNat : Int)] w fun e w' => e = .returned (.int .i64 (indexByte strangeL a)) ∧ w' = w := fun w => by
      have := Try.strings_IndexByte ⟨#[42, 43, 63, 41, 124, 123, 125, 47, 93, 45, 10]⟩ (a.toNat : Int) w
      rwa [u8_back] at this
    have hg := contains_index strangeL a
    obtain ⟨i, hi⟩ : ∃ i, i = indexByte strangeL a := ⟨_, rfl⟩
    rw [← hi] at k hg
    have hbg : begins (a :: l) = !strangeL.contains a := rfl
    rw [hbg, ← hg]
    clear hS h hi hg hbg
    go_enter Try.func66, Try.ntmps66
    go_wp2_with (go_at_call 75; refine (k _).mono ?_; rintro e w1 ⟨rfl, rfl⟩)
    have hdec : decide (i < 0) = !decide (0 ≤ i) := by rw [Bool.eq_iff_iff]; simp
    rw [← hdec]
    exact bodyPost_ret (results_tmp rfl _ _ _) rfl ⟨rfl, rfl⟩

theorem listedD_le {l : List UInt8} {K K' : Cl} {pos n : Nat} (h : listedD l K pos = some (K', n)) : pos + 1 < n ∧ n ≤ pos + l.length := by
  induction hk : l.length using Nat.strongRecOn generalizing l K pos with
  | ind k ih =>
    cases hi : itemD l with
    | none => rw [listed_none hi] at h; cases h
    | some r =>
      obtain ⟨a, b, m⟩ := r
      have hu := itemD_used hi
      by_cases he : (l.drop m).head? = some 93
      · rw [listed_end hi he] at h
        cases h
        have : (l.drop m).length ≠ 0 := fun e => by rw [List.eq_nil_of_length_eq_zero e] at he; cases he
        rw [List.length_drop] at this
        omega
      · rw [listed_more hi he] at h
        have := ih (l.drop m).length (by rw [List.length_drop]; omega) h rfl
        rw [List.length_drop] at this
        omega
theorem readD_le {l : List UInt8} {K : Cl} {n : Nat} (h : readD l = some (K, n)) : 1 ≤ n ∧ n ≤ l.length := by
  unfold readD at h
  split at h
  · rename_i h1
    have hl : 1 ≤ l.length := by cases l with
      | nil => cases h1
      | cons _ _ => simp
    split at h
    · rename_i h2
      have hl2 : 2 ≤ l.length := by
        by_cases h3 : 2 ≤ l.length
        · exact h3
        · rw [List.getElem?_eq_none (by omega)] at h2; cases h2
      cases hr : listedD (l.drop 2) zeroK 2 with
      | none => rw [hr] at h; cases h
      | some r =>
        obtain ⟨K2, m⟩ := r
        rw [hr] at h
        cases h
        have := listedD_le hr
        rw [List.length_drop] at this
        omega
    · have := listedD_le h
      rw [List.length_drop] at this
      omega
  · cases h
theorem listD_le {l : List UInt8} {k : K4} {n : Nat} (h : listD l = some (k, n)) : 1 ≤ n ∧ n ≤ l.length := by
  unfold listD at h
  split at h
  · rename_i hr; cases h; exact readD_le hr
  · split at h
    · rename_i hs
      cases h
      have := signD_used hs
      omega
    · cases h
end Go.Proofs.Ytgokkdalfkinnaa
