/- Packed texts: UtSpec, ClsMath, ReTr, UtRef2, UtAgg. What each of them proves stands above its theorems; the conditions stand in these. -/
import Derived.Laws.BitsAllLaws
import Derived.Lib.FieldsP
import Derived.Lib.IndexBytes
import Derived.Lib.IndexMore
import Derived.Lib.SmallJoins
import Derived.Lib.SpaceUEq
import Derived.Test.YtjdollmfjflkoaaGreatDoorProg
import Derived.WalkKit
import Derived.Test.YtjdollmfjflkoaaGreatDoorB3
import Derived.Test.YtjdollmfjflkoaaGreatDoorB5
namespace Go.Proofs.YtjdollmfjflkoaaGreatDoor
open Go.RowKit Go.Lib

def blankU (c : UInt8) : Bool := c == 32 || c == 9
def fieldsA : List UInt8 → List UInt8 → List (List UInt8)
  | now, [] => if now = [] then [] else [now]
  | now, c :: r => if blankU c then (if now = [] then fieldsA [] r else now :: fieldsA [] r) else fieldsA (now ++ [c]) r
def fieldsU (l : List UInt8) : List (List UInt8) := fieldsA [] l
def fieldU (l : List UInt8) (n : Int) : List UInt8 := if n = 0 then l else if n < 0 ∨ (fieldsU l).length < n then [] else (fieldsU l).getD (n - 1).toNat []
def subU (l : List UInt8) (f m : Int) : List UInt8 := if m < 1 ∨ (l.length : Int) < f then [] else if f < 1 then l.take (m + f - 1).toNat else (l.drop (f - 1).toNat).take m.toNat
def indexU (l t : List UInt8) : Int := Lib.index l t + 1
def caseB (up : Bool) (c : UInt8) : UInt8 := if up then (if 97 ≤ c ∧ c ≤ 122 then c - 32 else c) else (if 65 ≤ c ∧ c ≤ 90 then c + 32 else c)
def caseU (up : Bool) (l : List UInt8) : List UInt8 := l.map (caseB up)

/-- The two runes that part fields. -/
def blankR (x : Nat) : Bool := x == 32 || x == 9
theorem blank_nat (c : UInt8) : blankU c = blankR c.toNat := by
  unfold blankU blankR
  have h1 : (c == 32) = (c.toNat == 32) := by rw [Bool.eq_iff_iff]; simp [← UInt8.toNat_inj]
  have h2 : (c == 9) = (c.toNat == 9) := by rw [Bool.eq_iff_iff]; simp [← UInt8.toNat_inj]
  rw [h1, h2]
/-- Bytes that are no blanks go on with the field. -/
theorem fieldsA_skip : ∀ (k : Nat) (now l : List UInt8), k ≤ l.length → (∀ j, j < k → blankU (l.getD j 0) = false) → fieldsA now l = fieldsA (now ++ l.take k) (l.drop k)
  | 0, now, l, _, _ => by simp
  | k + 1, now, [], h, _ => by simp at h
  | k + 1, now, c :: r, h, hz => by
    have h0 : blankU c = false := by simpa using hz 0 (by omega)
    rw [fieldsA, h0, if_neg (by simp), fieldsA_skip k (now ++ [c]) r (by simpa using h) (fun j hj => by have := hz (j + 1) (by omega); simpa using this)]
    simp
/-- A rune at a place: a blank of one byte, or bytes of which none is a blank. -/
theorem rune_bytes (l : List UInt8) (hne : l ≠ []) : (decodeL l).2 ≤ l.length ∧ (blankR (decodeL l).1 = true → (decodeL l).2 = 1 ∧ blankU (l.getD 0 0) = true) ∧ (blankR (decodeL l).1 = false → ∀ j, j < (decodeL l).2 → blankU (l.getD j 0) = false) := by
  have hl : 0 < l.length := List.length_pos_iff.2 hne
  have hc := decodeN_conts l.length (l.getD 0 0).toNat (l.getD 1 0).toNat (l.getD 2 0).toNat (l.getD 3 0).toNat
  have hd : ∀ n b0 b1 b2 b3, b0 < 256 → ((decodeN n b0 b1 b2 b3).1 < 128 → (decodeN n b0 b1 b2 b3).1 = b0 ∧ (decodeN n b0 b1 b2 b3).2 = 1) ∧ (b0 < 128 → decodeN n b0 b1 b2 b3 = (b0, 1)) := by
    intro n b0 b1 b2 b3 h
    constructor
    · intro h1
      unfold decodeN at h1 ⊢
      repeat' split at h1
      all_goals (first | (exfalso; simp only at h1; omega) | skip)
      all_goals (rename_i hx; rw [if_pos hx]; exact ⟨rfl, rfl⟩)
    · exact fun h1 => decodeN_ascii _ _ _ _ _ h1
  have h1 := hd l.length (l.getD 0 0).toNat (l.getD 1 0).toNat (l.getD 2 0).toNat (l.getD 3 0).toNat (UInt8.toNat_lt _)
  rw [← decodeL_N] at hc h1
  obtain ⟨c2, c3, c4, c5⟩ := hc
  have hw := decodeL_width l
  refine ⟨by omega, fun h => ?_, fun h j hj => ?_⟩
  · have hlt : (decodeL l).1 < 128 := by
      unfold blankR at h
      simp at h
      omega
    have h2 := h1.1 hlt
    refine ⟨h2.2, ?_⟩
    rw [blank_nat, ← h2.1]
    exact h
  · rw [blank_nat]
    have hx : ∀ d : Nat, d / 64 = 2 → blankR d = false := by
      intro d hd
      unfold blankR
      simp
      omega
    by_cases h0 : j = 0
    · subst h0
      by_cases hlt : (l.getD 0 0).toNat < 128
      · have h2 := h1.2 hlt
        rw [h2] at h
        exact h
      · unfold blankR
        simp
        simp at hlt
        omega
    · apply hx
      have : j = 1 ∨ j = 2 ∨ j = 3 := by omega
      rcases this with rfl | rfl | rfl
      · exact (c2 (by omega)).1
      · exact (c3 (by omega)).1
      · exact (c4 (by omega)).1
/-- What the library's pass over the runes gives is what the pass over the bytes does. -/
theorem spans_fields (s : ByteArray) : ∀ (f pos : Nat) (st : Option Nat) (acc : List (Nat × Nat)), s.size ≤ pos + f → pos ≤ s.size → (∀ a, st = some a → a < pos) →
    (closeSpans s (spansFromP blankR s f pos st acc)).map (fun p => pieceU s.data.toList p.1 p.2) = acc.map (fun p => pieceU s.data.toList p.1 p.2) ++ fieldsA (openPiece s.data.toList st pos) (s.data.toList.drop pos)
  | 0, pos, st, acc, h, hp, hst => by
    obtain rfl : pos = s.size := by omega
    have hd : s.data.toList.drop s.size = [] := List.drop_eq_nil_of_le (by rw [← size_eq]; exact Nat.le_refl _)
    rw [hd]
    cases st with
    | none => simp [spansFromP, closeSpans, openPiece, fieldsA]
    | some a =>
      have := pieceU_ne s.data.toList a s.size (hst a rfl) (by rw [← size_eq]; exact Nat.le_refl _)
      simp [spansFromP, closeSpans, openPiece, fieldsA, this]
  | f + 1, pos, st, acc, h, hp, hst => by
    by_cases hlt : pos < s.size
    · have hne : s.data.toList.drop pos ≠ [] := by
        intro h0
        have := congrArg List.length h0
        rw [List.length_drop, ← size_eq] at this
        simp at this
        omega
      obtain ⟨r1, r2, r3⟩ := rune_bytes _ hne
      have hw := decodeL_width (s.data.toList.drop pos)
      rw [decodeL_drop] at r1 r2 r3 hw
      rw [List.length_drop, ← size_eq] at r1
      obtain ⟨R, hR⟩ : ∃ R, (Utf8.decode s pos).1 = R := ⟨_, rfl⟩
      obtain ⟨K, hK⟩ : ∃ K, (Utf8.decode s pos).2 = K := ⟨_, rfl⟩
      rw [hR] at r2 r3
      rw [hK] at r1 r2 r3 hw
      unfold spansFromP
      rw [if_pos hlt, hR, hK]
      cases hb : blankR R with
      | true =>
        obtain ⟨k1, k2⟩ := r2 hb
        subst k1
        have hdd : s.data.toList.drop pos = (s.data.toList.drop pos).getD 0 0 :: s.data.toList.drop (pos + 1) := by
          rw [← List.drop_drop]
          cases hx : s.data.toList.drop pos with
          | nil => exact absurd hx hne
          | cons c t => rfl
        rw [if_pos rfl]
        cases st with
        | none =>
          simp only []
          rw [spans_fields s f (pos + 1) none acc (by omega) (by omega) (fun a h => by cases h)]
          conv => rhs; rw [hdd]
          rw [fieldsA, k2]
          simp [openPiece]
        | some a =>
          simp only []
          rw [spans_fields s f (pos + 1) none _ (by omega) (by omega) (fun a h => by cases h)]
          conv => rhs; rw [hdd]
          have := pieceU_ne s.data.toList a pos (hst a rfl) (by rw [← size_eq]; exact hp)
          rw [fieldsA, k2, if_pos rfl]
          simp [openPiece, this]
      | false =>
        have k2 := r3 hb
        rw [if_neg (by simp)]
        have hsk : ∀ now, fieldsA now (s.data.toList.drop pos) = fieldsA (now ++ (s.data.toList.drop pos).take K) (s.data.toList.drop (pos + K)) := by
          intro now
          rw [fieldsA_skip K now (s.data.toList.drop pos) (by rw [List.length_drop, ← size_eq]; exact r1) k2, List.drop_drop]
        cases st with
        | none =>
          simp only []
          rw [spans_fields s f (pos + K) (some pos) acc (by omega) (by omega) (fun a h => by cases h; omega), hsk]
          congr 2
          show pieceU _ pos (pos + K) = [] ++ _
          unfold pieceU
          rw [Nat.add_sub_cancel_left, List.nil_append]
        | some a =>
          simp only []
          have ha := hst a rfl
          rw [spans_fields s f (pos + K) (some a) acc (by omega) (by omega) (fun b h => by cases h; omega), hsk]
          congr 2
          show pieceU _ a (pos + K) = pieceU _ a pos ++ _
          rw [pieceU_grow _ _ _ _ (by omega)]
    · obtain rfl : pos = s.size := by omega
      have hd : s.data.toList.drop s.size = [] := List.drop_eq_nil_of_le (by rw [← size_eq]; exact Nat.le_refl _)
      rw [hd, spansFromP_end _ _ _ _ _ _ (by omega)]
      cases st with
      | none => simp [closeSpans, openPiece, fieldsA]
      | some a =>
        have := pieceU_ne s.data.toList a s.size (hst a rfl) (by rw [← size_eq]; exact Nat.le_refl _)
        simp [closeSpans, openPiece, fieldsA, this]
theorem extract_piece (s : ByteArray) (a b : Nat) : (s.extract a b).data.toList = pieceU s.data.toList a b := by
  unfold pieceU
  simp [ByteArray.data_extract]
theorem fields_eq (s : ByteArray) : (goFieldsP blankR s).map (fun x => x.data.toList) = fieldsU s.data.toList := by
  unfold goFieldsP spansOfP
  rw [List.map_map]
  have := spans_fields s s.size 0 none [] (by omega) (by omega) (fun a h => by cases h)
  simp only [List.map_nil, List.nil_append, List.drop_zero] at this
  rw [show fieldsA (openPiece s.data.toList none 0) s.data.toList = fieldsU s.data.toList from rfl] at this
  rw [← this]
  apply List.map_congr_left
  intro p _
  exact extract_piece s p.1 p.2

/-! ### What the laws ask of fields -/
theorem fieldsA_len : ∀ (l now : List UInt8), (fieldsA now l).length ≤ now.length + l.length ∧ ((fieldsA now l).map List.length).sum ≤ now.length + l.length
  | [], now => by
    unfold fieldsA
    split
    · simp
    · rename_i h
      have := List.length_pos_iff.2 h
      simp
      omega
  | c :: r, now => by
    unfold fieldsA
    split
    · have h1 := fieldsA_len r []
      split
      · simp at h1 ⊢; omega
      · rename_i h
        have := List.length_pos_iff.2 h
        simp at h1 ⊢
        omega
    · have h1 := fieldsA_len r (now ++ [c])
      simp at h1 ⊢
      omega
theorem fieldsU_len (l : List UInt8) : (fieldsU l).length ≤ l.length ∧ ((fieldsU l).map List.length).sum ≤ l.length := by
  have := fieldsA_len l []
  rw [List.length_nil, Nat.zero_add] at this
  exact this
/-! ### Parts, and places -/
end Go.Proofs.YtjdollmfjflkoaaGreatDoor
namespace Go.Proofs.YtjdollmfjflkoaaGreatDoor
open Go.RowKit

/-- A class: its four words. -/
abbrev Cl := Nat → BitVec 64
/-- Is the byte of a number in it? -/
def has (k : Cl) (c : Nat) : Bool := (k (c / 64)).getLsbD (c % 64)

end Go.Proofs.YtjdollmfjflkoaaGreatDoor
namespace Go.Proofs.YtjdollmfjflkoaaGreatDoor
open Go.RowKit

/-- A class as its four words, and no more. -/
structure K4 where
  a : BitVec 64
  b : BitVec 64
  c : BitVec 64
  d : BitVec 64
deriving DecidableEq
def k4 (K : Cl) : K4 := ⟨K 0, K 1, K 2, K 3⟩
def k0 : K4 := ⟨0, 0, 0, 0⟩
end Go.Proofs.YtjdollmfjflkoaaGreatDoor
namespace Go.Proofs.YtjdollmfjflkoaaGreatDoor
open Go.RowKit Go.Lib

theorem subU_eq (l : List UInt8) (f m : Int) (hm : 1 ≤ m) : subU l f m = (l.take (f + m - 1).toNat).drop (f - 1).toNat := by
  unfold subU
  by_cases h : (l.length : Int) < f
  · rw [if_pos (.inr h), List.drop_eq_nil_of_le (by rw [List.length_take]; omega)]
  · rw [if_neg (by omega)]
    by_cases hf : f < 1
    · rw [if_pos hf, show (f - 1).toNat = 0 by omega, List.drop_zero, show m + f - 1 = f + m - 1 by omega]
    · rw [if_neg hf, List.drop_take]
      congr 1
      omega
theorem subU_snoc (x : List UInt8) (c : UInt8) (f m : Int) : subU (x ++ [c]) f m = subU x f m ++ (if 1 ≤ m ∧ f ≤ (x.length : Int) + 1 ∧ (x.length : Int) + 1 - f < m then [c] else []) := by
  by_cases hm : 1 ≤ m
  · rw [subU_eq _ _ _ hm, subU_eq _ _ _ hm]
    generalize hb : (f + m - 1).toNat = b
    generalize ha : (f - 1).toNat = a
    by_cases hk : x.length < b
    · rw [List.take_of_length_le (l := x ++ [c]) (by rw [List.length_append, List.length_singleton]; omega), List.take_of_length_le (l := x) (by omega)]
      by_cases hka : a ≤ x.length
      · rw [if_pos ⟨hm, by omega, by omega⟩, List.drop_append_of_le_length hka]
      · rw [if_neg (fun h => by omega), List.append_nil, List.drop_eq_nil_of_le (show x.length ≤ a by omega), List.drop_eq_nil_of_le (by rw [List.length_append, List.length_singleton]; omega)]
    · rw [if_neg (fun h => by omega), List.append_nil, List.take_append_of_le_length (by omega)]
  · rw [if_neg (fun h => hm h.1), List.append_nil]
    unfold subU
    rw [if_pos (.inl (by omega)), if_pos (.inl (by omega))]
theorem subU_nil (f m : Int) : subU [] f m = [] := by
  unfold subU
  split
  · rfl
  · split <;> simp
set_option maxHeartbeats 2000000 in
set_option maxRecDepth 20000 in
theorem refSubU_any (s : ByteArray) (f m : Int) (w : World) (hs : s.size ≤ 1000000) (h1 : -9223372036854775808 ≤ f ∧ f ≤ 9223372036854775807) (h2 : -9223372036854775808 ≤ m ∧ m ≤ 9223372036854775807) :
    Calls Tryz.prog 16 #[.string s, .int .i64 f, .int .i64 m] w fun e w' => e = .returned (.string (ba (subU s.data.toList f m))) ∧ w' = w := by
  obtain ⟨R, hR⟩ : ∃ R, ba (subU s.data.toList f m) = R := ⟨_, rfl⟩
  rw [hR]
  have HR := Lib.hid hR
  clear hR
  have HL := Lib.hid (size_eq s)
  go_enter Tryz.func16, Tryz.ntmps16
  go_wp2_with fail
  go_loopw [7, 8] (fun t i wr => ∃ (k : Nat) (T : ByteArray), k ≤ s.size ∧ t = .string T ∧ i = .int .i64 k ∧ wr = w ∧ T.size ≤ k ∧ Hid (T.data.toList = subU (s.data.toList.take k) f m)) (fun _ i _ => s.size - (RowKit.intOf i).toNat)
  case atStart => exact ⟨0, ⟨#[]⟩, Nat.zero_le _, rfl, rfl, rfl, Nat.le_refl _, by rw [List.take_zero]; exact (subU_nil f m).symm⟩
  case round =>
    obtain ⟨k, T, hk, rfl, rfl, rfl, hT, HT⟩ := hrel
    by_cases hlt : k < s.size
    · have hltI : (k : Int) < (s.size : Int) := by omega
      have hwk : IntKind.i64.wrap ((k : Int) + 1) = (k : Int) + 1 := IntWalk.i64_in _ (by omega)
      have htk : s.data.toList.take (k + 1) = s.data.toList.take k ++ [s[k]] := by
        rw [List.take_add_one, data_getElem? s k hlt]
        rfl
      have hst := subU_snoc (s.data.toList.take k) s[k] f m
      rw [← htk, List.length_take, ← size_eq, Nat.min_eq_left (Nat.le_of_lt hlt)] at hst
      have hpl : (s.extract k (k + 1)).data.toList = [s[k]] := by
        rw [extract_piece]
        unfold pieceU
        rw [show k + 1 - k = 1 by omega, List.take_one, List.head?_drop, data_getElem? s k hlt]
        rfl
      have hps : (s.extract k (k + 1)).size = 1 := by rw [size_eq, hpl]; rfl
      by_cases hin : 1 ≤ m ∧ f ≤ (k : Int) + 1 ∧ (k : Int) + 1 - f < m
      · rw [if_pos hin] at hst
        obtain ⟨g1, g2, g3⟩ := hin
        have HS := Lib.hid (And.intro hst hpl)
        clear hst hpl htk
        have g4 : 0 < m := by omega
        by_cases hf : 0 < f
        · have hw1 : IntKind.i64.wrap ((k : Int) + 1 - f) = (k : Int) + 1 - f := IntWalk.i64_in _ (by omega)
          go_wp2_with fail
          go_roundw
          case rel => exact ⟨k + 1, T ++ s.extract k (k + 1), by omega, rfl, by go_num, by first | rfl | trivial, by rw [ByteArray.size_append]; omega, Lib.hid (by rw [HS.out.1, ByteArray.data_append, Array.toList_append, HS.out.2, HT.out])⟩
          case measure => simp [RowKit.intOf]; omega
        · have hw1 : IntKind.i64.wrap ((k : Int) + 1 - m) = (k : Int) + 1 - m := IntWalk.i64_in _ (by omega)
          have hf0 : f ≤ 0 := by omega
          have g5 : (k : Int) + 1 - m < f := by omega
          go_wp2_with fail
          go_roundw
          case rel => exact ⟨k + 1, T ++ s.extract k (k + 1), by omega, rfl, by go_num, by first | rfl | trivial, by rw [ByteArray.size_append]; omega, Lib.hid (by rw [HS.out.1, ByteArray.data_append, Array.toList_append, HS.out.2, HT.out])⟩
          case measure => simp [RowKit.intOf]; omega
      · rw [if_neg hin, List.append_nil] at hst
        have HS := Lib.hid hst
        clear hst hpl htk
        have hout : ¬ f ≤ (k : Int) + 1 ∨ f ≤ (k : Int) + 1 ∧ ¬ 0 < m ∨ f ≤ (k : Int) + 1 ∧ 0 < m ∧ 0 < f ∧ ¬ (k : Int) + 1 - f < m ∨ f ≤ (k : Int) + 1 ∧ 0 < m ∧ ¬ 0 < f ∧ ¬ (k : Int) + 1 - m < f := by omega
        clear hin
        rcases hout with g | ⟨g1, g2⟩ | ⟨g1, g2, g3, g4⟩ | ⟨g1, g2, g3, g4⟩
        · have g' : (k : Int) + 1 < f := by omega
          go_wp2_with fail
          go_roundw
          case rel => exact ⟨k + 1, T, by omega, rfl, by go_num, by first | rfl | trivial, by omega, Lib.hid (by rw [HS.out, HT.out])⟩
          case measure => simp [RowKit.intOf]; omega
        · go_wp2_with fail
          go_roundw
          case rel => exact ⟨k + 1, T, by omega, rfl, by go_num, by first | rfl | trivial, by omega, Lib.hid (by rw [HS.out, HT.out])⟩
          case measure => simp [RowKit.intOf]; omega
        · have hw1 : IntKind.i64.wrap ((k : Int) + 1 - f) = (k : Int) + 1 - f := IntWalk.i64_in _ (by omega)
          go_wp2_with fail
          go_roundw
          case rel => exact ⟨k + 1, T, by omega, rfl, by go_num, by first | rfl | trivial, by omega, Lib.hid (by rw [HS.out, HT.out])⟩
          case measure => simp [RowKit.intOf]; omega
        · have hw1 : IntKind.i64.wrap ((k : Int) + 1 - m) = (k : Int) + 1 - m := IntWalk.i64_in _ (by omega)
          have hf0 : f ≤ 0 := by omega
          go_wp2_with fail
          go_roundw
          case rel => exact ⟨k + 1, T, by omega, rfl, by go_num, by first | rfl | trivial, by omega, Lib.hid (by rw [HS.out, HT.out])⟩
          case measure => simp [RowKit.intOf]; omega
    · obtain rfl : k = s.size := by omega
      go_wp2_with fail
      go_ret
      refine ⟨?_, rfl⟩
      have h := HT.out
      rw [List.take_of_length_le (by rw [← HL.out]; exact Nat.le_refl _)] at h
      rw [← HR.out, ← h]
      rfl
set_option maxHeartbeats 2000000 in
set_option maxRecDepth 20000 in
theorem refIndexU_any (s t : ByteArray) (w : World) (hs : s.size ≤ 1000000) (ht : t.size ≤ 1000000) :
    Calls Tryz.prog 18 #[.string s, .string t] w fun e w' => e = .returned (.int .i64 (indexU s.data.toList t.data.toList)) ∧ w' = w := by
  obtain ⟨R, hR⟩ : ∃ R, indexU s.data.toList t.data.toList = R := ⟨_, rfl⟩
  rw [hR]
  have HR := Lib.hid hR
  clear hR
  have HL := Lib.hid (And.intro (size_eq s) (size_eq t))
  go_enter Tryz.func18, Tryz.ntmps18
  go_wp2_with fail
  go_loopw [5] (fun i wr => ∃ k : Nat, k ≤ s.size + 1 ∧ i = .int .i64 k ∧ wr = w ∧ Hid (∀ j, j < k → occAt s.data.toList t.data.toList j = false)) (fun i _ => s.size + 1 - (RowKit.intOf i).toNat)
  case atStart => exact ⟨0, Nat.zero_le _, rfl, rfl, fun j hj => absurd hj (Nat.not_lt_zero _)⟩
  case round =>
    obtain ⟨k, hk, rfl, rfl, HN⟩ := hrel
    have hwk : IntKind.i64.wrap ((k : Int) + (t.size : Int)) = (k : Int) + (t.size : Int) := IntWalk.i64_in _ (by omega)
    by_cases hlt : k + t.size ≤ s.size
    · have hltI : (k : Int) + (t.size : Int) ≤ (s.size : Int) := by omega
      have hoc := occ_of_piece s t k hlt
      cases ho : occAt s.data.toList t.data.toList k with
      | true =>
        rw [ho] at hoc
        have hoc2 := hoc.symm
        have HO := Lib.hid ho
        have hq : (s.extract k (k + t.size)).toList = t.toList := by simpa using hoc2
        clear hoc ho
        go_wp2_with fail
        go_ret
        refine ⟨?_, rfl⟩
        rw [← HR.out]
        unfold indexU
        rw [index_first (i := k) (by rw [← HL.out.1]; omega) HO.out HN.out]
        rfl
      | false =>
        rw [ho] at hoc
        have hoc2 := hoc.symm
        have HO := Lib.hid ho
        have hq : ¬ (s.extract k (k + t.size)).toList = t.toList := by simpa using hoc2
        clear hoc ho
        go_wp2_with fail
        go_roundw
        case rel =>
          refine ⟨k + 1, by omega, by go_num, by first | rfl | trivial, fun j hj => ?_⟩
          by_cases h : j = k
          · rw [h]; exact HO.out
          · exact HN.out j (by omega)
        case measure => simp [RowKit.intOf]; omega
    · have hltI : ¬ (k : Int) + (t.size : Int) ≤ (s.size : Int) := by omega
      go_wp2_with fail
      go_ret
      refine ⟨?_, rfl⟩
      rw [← HR.out]
      unfold indexU
      rw [index_none fun j hj => ?_]
      · rfl
      · by_cases h : j < k
        · exact HN.out j h
        · cases hx : occAt s.data.toList t.data.toList j with
          | false => rfl
          | true =>
            exfalso
            have e1 := HL.out.1
            have e2 := HL.out.2
            rcases occAt_room hx with h3 | h3
            · omega
            · rw [h3, List.length_nil] at e2
              omega
end Go.Proofs.YtjdollmfjflkoaaGreatDoor
namespace Go.Proofs.YtjdollmfjflkoaaGreatDoor
open Go.ChangeShapes Go.WideShapes Go.ChangeAt Go.RowKit Go.Joins Go.Deep

theorem array5 {α : Type} {cs : Array α} (h : cs.size = 5) : ∃ c0 c1 c2 c3 c4, cs = #[c0, c1, c2, c3, c4] := by
  obtain ⟨l⟩ := cs
  match l, h with
  | [c0, c1, c2, c3, c4], _ => exact ⟨c0, c1, c2, c3, c4, rfl⟩
theorem open_agg5 {H : Type} {enc : TypeId × Value → H} {P : Program} {w : World} {base : Nat} {spare : Nat → Bool} {held : Bool} {r : Reach} {b0 : Nat} {t : TypeId} {f0 f1 f2 f3 f4 : Field} {v : Value} {d : DataW H} {p : List MemPlace}
    (hs : P.underlying t = some (.struct #[f0, f1, f2, f3, f4])) (hone : oneCellFields P #[f0, f1, f2, f3, f4] = true) (hC : P.cellsOf t = 5)
    (hv : Value.okWide P w r b0 t v) (h : DataW.Trod enc P w base spare held t v d p) :
    ∃ (v0 v1 v2 v3 v4 : Value) (y0 y1 y2 y3 y4 : DataW H × List MemPlace) (n : Nat), v = .agg #[v0, v1, v2, v3, v4] ∧ d = .agg [y0.1, y1.1, y2.1, y3.1, y4.1] ∧
      DataW.trod enc P w base spare held n f0.type [v0] = some y0 ∧ DataW.trod enc P w base spare held n f1.type [v1] = some y1 ∧ DataW.trod enc P w base spare held n f2.type [v2] = some y2 ∧ DataW.trod enc P w base spare held n f3.type [v3] = some y3 ∧ DataW.trod enc P w base spare held n f4.type [v4] = some y4 := by
  obtain ⟨cs, rfl, hsz⟩ := okWide_struct hs hv
  obtain ⟨c0, c1, c2, c3, c4, rfl⟩ := array5 (hsz.trans hC)
  obtain ⟨fuel, hf⟩ := h
  obtain ⟨xs, n, _, hx, hl, hlen, hf⟩ := DataW.trod_struct hs hf
  match xs, hlen with
  | [y0, y1, y2, y3, y4], _ =>
    obtain ⟨o0, k0⟩ := hone_of hone 0 f0 rfl
    obtain ⟨o1, k1⟩ := hone_of hone 1 f1 rfl
    obtain ⟨o2, k2⟩ := hone_of hone 2 f2 rfl
    obtain ⟨o3, k3⟩ := hone_of hone 3 f3 rfl
    obtain ⟨o4, k4⟩ := hone_of hone 4 f4 rfl
    have g0 := hf 0 f0 rfl
    have g1 := hf 1 f1 rfl
    have g2 := hf 2 f2 rfl
    have g3 := hf 3 f3 rfl
    have g4 := hf 4 f4 rfl
    simp only [Prod.mk.injEq] at hx
    exact ⟨c0, c1, c2, c3, c4, y0, y1, y2, y3, y4, n, rfl, by simpa using hx.1, by simpa [Value.cells, o0, k0] using g0, by simpa [Value.cells, o1, k1] using g1, by simpa [Value.cells, o2, k2] using g2, by simpa [Value.cells, o3, k3] using g3, by simpa [Value.cells, o4, k4] using g4⟩
end Go.Proofs.YtjdollmfjflkoaaGreatDoor
