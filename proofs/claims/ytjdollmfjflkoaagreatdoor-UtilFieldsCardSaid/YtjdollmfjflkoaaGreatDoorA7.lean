/- Packed texts: UtSpec. What each of them proves stands above its theorems; the conditions stand in these. -/
import Derived.Lib.FieldsP
import Derived.Lib.IndexBytes
import Derived.Lib.IndexMore
import Derived.Lib.SpaceUEq
import Derived.Test.YtjdollmfjflkoaaGreatDoorA3
namespace Go.Proofs.YtjdollmfjflkoaaGreatDoor
open Go.RowKit Go.Lib

def blankU (c : UInt8) : Bool := c == 32 || c == 9
def fieldsA : List UInt8 → List UInt8 → List (List UInt8)
  | now, [] => if now = [] then [] else [now]
  | now, c :: r => if blankU c then (if now = [] then fieldsA [] r else now :: fieldsA [] r) else fieldsA (now ++ [c]) r
def fieldsU (l : List UInt8) : List (List UInt8) := fieldsA [] l
def subU (l : List UInt8) (f m : Int) : List UInt8 := if m < 1 ∨ (l.length : Int) < f then [] else if f < 1 then l.take (m + f - 1).toNat else (l.drop (f - 1).toNat).take m.toNat
def indexU (l t : List UInt8) : Int := Lib.index l t + 1
def caseB (up : Bool) (c : UInt8) : UInt8 := if up then (if 97 ≤ c ∧ c ≤ 122 then c - 32 else c) else (if 65 ≤ c ∧ c ≤ 90 then c + 32 else c)
def caseU (up : Bool) (l : List UInt8) : List UInt8 := l.map (caseB up)

/-- The two runes that part fields. -/
def blankR (x : Nat) : Bool := x == 32 || x == 9
theorem blank_nat (c : UInt8) : blankU c = blankR c.toNat := by
  unfold blankU blankR
  have h1 : (c == 32) = (c.toNat == 32) := by rw [Bool.eq_iff_iff]; simp [← UInt8.toNat_inj]
  have h2 : (c == 9) = (c.toNat == 9) := by rw [Bool.eq_iff_iff]; simp [← UInt8.toNat_inj]
  rw [h1, h2]
/-- Bytes that are no blanks go on with the field. -/
theorem fieldsA_skip : ∀ (k : Nat) (now l : List UInt8), k ≤ l.length → (∀ j, j < k → blankU (l.getD j 0) = false) → fieldsA now l = fieldsA (now ++ l.take k) (l.drop k)
  | 0, now, l, _, _ => by simp
  | k + 1, now, [], h, _ => by simp at h
  | k + 1, now, c :: r, h, hz => by
    have h0 : blankU c = false := by simpa using hz 0 (by omega)
    rw [fieldsA, h0, if_neg (by simp), fieldsA_skip k (now ++ [c]) r (by simpa using h) (fun j hj => by have := hz (j + 1) (by omega); simpa using this)]
    simp
/-- A rune at a place: a blank of one byte, or bytes of which none is a blank. -/
theorem rune_bytes (l : List UInt8) (hne : l ≠ []) : (decodeL l).2 ≤ l.length ∧ (blankR (decodeL l).1 = true → (decodeL l).2 = 1 ∧ blankU (l.getD 0 0) = true) ∧ (blankR (decodeL l).1 = false → ∀ j, j < (decodeL l).2 → blankU (l.getD j 0) = false) := by
  have hl : 0 < l.length := List.length_pos_iff.2 hne
  have hc := decodeN_conts l.length (l.getD 0 0).toNat (l.getD 1 0).toNat (l.getD 2 0).toNat (l.getD 3 0).toNat
  have hd : ∀ n b0 b1 b2 b3, b0 < 256 → ((decodeN n b0 b1 b2 b3).1 < 128 → (decodeN n b0 b1 b2 b3).1 = b0 ∧ (decodeN n b0 b1 b2 b3).2 = 1) ∧ (b0 < 128 → decodeN n b0 b1 b2 b3 = (b0, 1)) := by
    intro n b0 b1 b2 b3 h
    constructor
    · intro h1
      unfold decodeN at h1 ⊢
      repeat' split at h1
      all_goals (first | (exfalso; simp only at h1; omega) | skip)
      all_goals (rename_i hx; rw [if_pos hx]; exact ⟨rfl, rfl⟩)
    · exact fun h1 => decodeN_ascii _ _ _ _ _ h1
  have h1 := hd l.length (l.getD 0 0).toNat (l.getD 1 0).toNat (l.getD 2 0).toNat (l.getD 3 0).toNat (UInt8.toNat_lt _)
  rw [← decodeL_N] at hc h1
  obtain ⟨c2, c3, c4, c5⟩ := hc
  have hw := decodeL_width l
  refine ⟨by omega, fun h => ?_, fun h j hj => ?_⟩
  · have hlt : (decodeL l).1 < 128 := by
      unfold blankR at h
      simp at h
      omega
    have h2 := h1.1 hlt
    refine ⟨h2.2, ?_⟩
    rw [blank_nat, ← h2.1]
    exact h
  · rw [blank_nat]
    have hx : ∀ d : Nat, d / 64 = 2 → blankR d = false := by
      intro d hd
      unfold blankR
      simp
      omega
    by_cases h0 : j = 0
    · subst h0
      by_cases hlt : (l.getD 0 0).toNat < 128
      · have h2 := h1.2 hlt
        rw [h2] at h
        exact h
      · unfold blankR
        simp
        simp at hlt
        omega
    · apply hx
      have : j = 1 ∨ j = 2 ∨ j = 3 := by omega
      rcases this with rfl | rfl | rfl
      · exact (c2 (by omega)).1
      · exact (c3 (by omega)).1
      · exact (c4 (by omega)).1
/-- What the library's pass over the runes gives is what the pass over the bytes does. -/
theorem spans_fields (s : ByteArray) : ∀ (f pos : Nat) (st : Option Nat) (acc : List (Nat × Nat)), s.size ≤ pos + f → pos ≤ s.size → (∀ a, st = some a → a < pos) →
    (closeSpans s (spansFromP blankR s f pos st acc)).map (fun p => pieceU s.data.toList p.1 p.2) = acc.map (fun p => pieceU s.data.toList p.1 p.2) ++ fieldsA (openPiece s.data.toList st pos) (s.data.toList.drop pos)
  | 0, pos, st, acc, h, hp, hst => by
    obtain rfl : pos = s.size := by omega
    have hd : s.data.toList.drop s.size = [] := List.drop_eq_nil_of_le (by rw [← size_eq]; exact Nat.le_refl _)
    rw [hd]
    cases st with
    | none => simp [spansFromP, closeSpans, openPiece, fieldsA]
    | some a =>
      have := pieceU_ne s.data.toList a s.size (hst a rfl) (by rw [← size_eq]; exact Nat.le_refl _)
      simp [spansFromP, closeSpans, openPiece, fieldsA, this]
  | f + 1, pos, st, acc, h, hp, hst => by
    by_cases hlt : pos < s.size
    · have hne : s.data.toList.drop pos ≠ [] := by
        intro h0
        have := congrArg List.length h0
        rw [List.length_drop, ← size_eq] at this
        simp at this
        omega
      obtain ⟨r1, r2, r3⟩ := rune_bytes _ hne
      have hw := decodeL_width (s.data.toList.drop pos)
      rw [decodeL_drop] at r1 r2 r3 hw
      rw [List.length_drop, ← size_eq] at r1
      obtain ⟨R, hR⟩ : ∃ R, (Utf8.decode s pos).1 = R := ⟨_, rfl⟩
      obtain ⟨K, hK⟩ : ∃ K, (Utf8.decode s pos).2 = K := ⟨_, rfl⟩
      rw [hR] at r2 r3
      rw [hK] at r1 r2 r3 hw
      unfold spansFromP
      rw [if_pos hlt, hR, hK]
      cases hb : blankR R with
      | true =>
        obtain ⟨k1, k2⟩ := r2 hb
        subst k1
        have hdd : s.data.toList.drop pos = (s.data.toList.drop pos).getD 0 0 :: s.data.toList.drop (pos + 1) := by
          rw [← List.drop_drop]
          cases hx : s.data.toList.drop pos with
          | nil => exact absurd hx hne
          | cons c t => rfl
        rw [if_pos rfl]
        cases st with
        | none =>
          simp only []
          rw [spans_fields s f (pos + 1) none acc (by omega) (by omega) (fun a h => by cases h)]
          conv => rhs; rw [hdd]
          rw [fieldsA, k2]
          simp [openPiece]
        | some a =>
          simp only []
          rw [spans_fields s f (pos + 1) none _ (by omega) (by omega) (fun a h => by cases h)]
          conv => rhs; rw [hdd]
          have := pieceU_ne s.data.toList a pos (hst a rfl) (by rw [← size_eq]; exact hp)
          rw [fieldsA, k2, if_pos rfl]
          simp [openPiece, this]
      | false =>
        have k2 := r3 hb
        rw [if_neg (by simp)]
        have hsk : ∀ now, fieldsA now (s.data.toList.drop pos) = fieldsA (now ++ (s.data.toList.drop pos).take K) (s.data.toList.drop (pos + K)) := by
          intro now
          rw [fieldsA_skip K now (s.data.toList.drop pos) (by rw [List.length_drop, ← size_eq]; exact r1) k2, List.drop_drop]
        cases st with
        | none =>
          simp only []
          rw [spans_fields s f (pos + K) (some pos) acc (by omega) (by omega) (fun a h => by cases h; omega), hsk]
          congr 2
          show pieceU _ pos (pos + K) = [] ++ _
          unfold pieceU
          rw [Nat.add_sub_cancel_left, List.nil_append]
        | some a =>
          simp only []
          have ha := hst a rfl
          rw [spans_fields s f (pos + K) (some a) acc (by omega) (by omega) (fun b h => by cases h; omega), hsk]
          congr 2
          show pieceU _ a (pos + K) = pieceU _ a pos ++ _
          rw [pieceU_grow _ _ _ _ (by omega)]
    · obtain rfl : pos = s.size := by omega
      have hd : s.data.toList.drop s.size = [] := List.drop_eq_nil_of_le (by rw [← size_eq]; exact Nat.le_refl _)
      rw [hd, spansFromP_end _ _ _ _ _ _ (by omega)]
      cases st with
      | none => simp [closeSpans, openPiece, fieldsA]
      | some a =>
        have := pieceU_ne s.data.toList a s.size (hst a rfl) (by rw [← size_eq]; exact Nat.le_refl _)
        simp [closeSpans, openPiece, fieldsA, this]
theorem extract_piece (s : ByteArray) (a b : Nat) : (s.extract a b).data.toList = pieceU s.data.toList a b := by
  unfold pieceU
  simp [ByteArray.data_extract]
theorem fields_eq (s : ByteArray) : (goFieldsP blankR s).map (fun x => x.data.toList) = fieldsU s.data.toList := by
  unfold goFieldsP spansOfP
  rw [List.map_map]
  have := spans_fields s s.size 0 none [] (by omega) (by omega) (fun a h => by cases h)
  simp only [List.map_nil, List.nil_append, List.drop_zero] at this
  rw [show fieldsA (openPiece s.data.toList none 0) s.data.toList = fieldsU s.data.toList from rfl] at this
  rw [← this]
  apply List.map_congr_left
  intro p _
  exact extract_piece s p.1 p.2

/-! ### What the laws ask of fields -/
theorem fieldsA_mem : ∀ (l now : List UInt8), (∀ c ∈ now, blankU c = false) → ∀ f ∈ fieldsA now l, f ≠ [] ∧ ∀ c ∈ f, blankU c = false
  | [], now, hn, f, hf => by
    unfold fieldsA at hf
    split at hf
    · cases hf
    · obtain rfl := List.mem_singleton.1 hf
      exact ⟨by assumption, hn⟩
  | c :: r, now, hn, f, hf => by
    unfold fieldsA at hf
    split at hf
    · split at hf
      · exact fieldsA_mem r [] (fun _ h => by cases h) f hf
      · rcases List.mem_cons.1 hf with rfl | h
        · exact ⟨by assumption, hn⟩
        · exact fieldsA_mem r [] (fun _ h => by cases h) f h
    · rename_i hb
      refine fieldsA_mem r (now ++ [c]) (fun d hd => ?_) f hf
      rcases List.mem_append.1 hd with h | h
      · exact hn d h
      · obtain rfl := List.mem_singleton.1 h
        simpa using hb
theorem fieldsU_mem (l : List UInt8) : ∀ f ∈ fieldsU l, f ≠ [] ∧ ∀ c ∈ f, blankU c = false := fieldsA_mem l [] (fun _ h => by cases h)
theorem fieldsA_len : ∀ (l now : List UInt8), (fieldsA now l).length ≤ now.length + l.length ∧ ((fieldsA now l).map List.length).sum ≤ now.length + l.length
  | [], now => by
    unfold fieldsA
    split
    · simp
    · rename_i h
      have := List.length_pos_iff.2 h
      simp
      omega
  | c :: r, now => by
    unfold fieldsA
    split
    · have h1 := fieldsA_len r []
      split
      · simp at h1 ⊢; omega
      · rename_i h
        have := List.length_pos_iff.2 h
        simp at h1 ⊢
        omega
    · have h1 := fieldsA_len r (now ++ [c])
      simp at h1 ⊢
      omega
theorem fieldsU_len (l : List UInt8) : (fieldsU l).length ≤ l.length ∧ ((fieldsU l).map List.length).sum ≤ l.length := by
  have := fieldsA_len l []
  rw [List.length_nil, Nat.zero_add] at this
  exact this
/-- Fields with a blank ahead of each. -/
def spread : List (List UInt8) → List UInt8
  | [] => []
  | f :: r => 32 :: (f ++ spread r)
theorem fieldsA_one (now f r : List UInt8) (hf : ∀ c ∈ f, blankU c = false) : fieldsA now (f ++ r) = fieldsA (now ++ f) r := by
  rw [fieldsA_skip f.length now (f ++ r) (by simp) (fun j hj => ?_)]
  · simp
  · rw [List.getD_eq_getElem?_getD, List.getElem?_append_left hj, List.getElem?_eq_getElem hj]
    apply hf
    exact List.getElem_mem hj
theorem fields_spread : ∀ (fs : List (List UInt8)) (now : List UInt8), (∀ f ∈ fs, f ≠ [] ∧ ∀ c ∈ f, blankU c = false) → fieldsA now (spread fs) = (if now = [] then [] else [now]) ++ fs
  | [], now, _ => by simp [spread, fieldsA]
  | f :: r, now, h => by
    obtain ⟨h1, h2⟩ := h f (by simp)
    have hr := fun now => fields_spread r now (fun g hg => h g (by simp [hg]))
    rw [spread, fieldsA, if_pos (by decide)]
    split
    · rw [fieldsA_one _ _ _ h2, hr]; simp [h1]
    · rw [fieldsA_one _ _ _ h2, hr]; simp [h1]
theorem fields_again (l : List UInt8) : fieldsU (spread (fieldsU l)) = fieldsU l := by
  have := fields_spread (fieldsU l) [] (fieldsU_mem l)
  rw [if_pos rfl, List.nil_append] at this
  exact this
theorem spread_snoc (a : List (List UInt8)) (f : List UInt8) : spread (a ++ [f]) = spread a ++ (32 :: f) := by
  induction a with
  | nil => simp [spread]
  | cons g r ih => simp [spread, ih]

/-! ### Parts, and places -/
theorem sub_first (l : List UInt8) (k : Nat) (_h : l.length ≤ 500) : subU l 1 k = l.take k := by
  unfold subU
  by_cases h0 : ((k : Int) < 1 ∨ (l.length : Int) < 1)
  · rw [if_pos h0]
    rcases h0 with h0 | h0
    · obtain rfl : k = 0 := by omega
      simp
    · have : l = [] := List.eq_nil_of_length_eq_zero (by omega)
      simp [this]
  · rw [if_neg h0, if_neg (by omega)]
    simp
theorem sub_rest (l : List UInt8) (k : Nat) (h : l.length ≤ 500) : subU l ((k : Int) + 1) 1000 = l.drop k := by
  unfold subU
  by_cases h0 : (l.length : Int) < (k : Int) + 1
  · rw [if_pos (.inr h0), List.drop_eq_nil_of_le (by omega)]
  · rw [if_neg (by omega), if_neg (by omega), show ((k : Int) + 1 - 1).toNat = k by omega, List.take_of_length_le (by simp; omega)]
theorem sub_at (l t : List UInt8) (i : Nat) (hi : Lib.index l t = (i : Int)) : subU l ((i : Int) + 1) (t.length : Int) = t ∧ i ≤ l.length := by
  have h1 := Lib.index_le l t
  have hle : i ≤ l.length := by omega
  refine ⟨?_, hle⟩
  have ho : occAt l t i = true := by
    rcases index_spec l t with ⟨h2, _⟩ | ⟨j, h2, _, h3, _⟩
    · omega
    · obtain rfl : j = i := by omega
      exact h3
  unfold subU
  by_cases ht : t = []
  · subst ht; simp
  · have hp := List.length_pos_iff.2 ht
    rcases occAt_room ho with h2 | h2
    · rw [if_neg (by omega), if_neg (by omega), show ((i : Int) + 1 - 1).toNat = i by omega]
      rw [occAt_iff_take l t i h2] at ho
      simpa using ho
    · exact absurd h2 ht
theorem index_both (l t : List UInt8) : 0 ≤ Lib.index (l ++ t) t := by
  by_cases h : Lib.index (l ++ t) t = -1
  · exfalso
    have h2 : occAt (l ++ t) t l.length = true := by unfold occAt; simp
    rcases index_spec (l ++ t) t with ⟨_, h3⟩ | ⟨j, h3, _⟩
    · have h3 := h3 l.length (by simp)
      rw [h2] at h3
      cases h3
    · omega
  · have := Lib.index_ge (l ++ t) t
    omega
set_option maxRecDepth 20000 in
theorem case_twice (c : UInt8) : caseB true (caseB true c) = caseB true c ∧ caseB false (caseB true c) = caseB false c := by
  have h : ∀ d : Fin 256, caseB true (caseB true (UInt8.ofNat d.val)) = caseB true (UInt8.ofNat d.val) ∧ caseB false (caseB true (UInt8.ofNat d.val)) = caseB false (UInt8.ofNat d.val) := by decide +kernel
  have := h ⟨c.toNat, UInt8.toNat_lt c⟩
  simpa using this
end Go.Proofs.YtjdollmfjflkoaaGreatDoor
