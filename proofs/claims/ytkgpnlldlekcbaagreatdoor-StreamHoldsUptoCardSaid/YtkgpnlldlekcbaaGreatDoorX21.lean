/- Packed texts: SeMem, SeLeaf. What each of them proves stands above its theorems; the conditions stand in these. -/
import Derived.Shelf.Strings.SlTrimAscii
import Derived.Test.YtkgpnlldlekcbaaGreatDoorShelf
import Derived.Test.YtkgpnlldlekcbaaGreatDoorX12
import Derived.Test.YtkgpnlldlekcbaaGreatDoorX13
import Derived.Test.YtkgpnlldlekcbaaGreatDoorX19
import Derived.Test.YtkgpnlldlekcbaaGreatDoorX20
namespace Go.Proofs.YtkgpnlldlekcbaaGreatDoor
open Go.RowKit Go.Lib

/-- A reader: the rest of the text. -/
def Rd (p : Nat) (l : List UInt8) (w : World) : Prop := w.heap[p]? = some (.cells #[.string ⟨l.toArray⟩] 97 (0, 0))
/-- All but one block is as it was. -/
structure Moved (p : Nat) (w w' : World) : Prop where
  low : Below p w w'
  high : ∀ g, g ≠ p → g < w.heap.size → w'.heap[g]? = w.heap[g]?
theorem Moved.refl (p : Nat) (w : World) : Moved p w w := ⟨Below.refl _ _, fun _ _ _ => rfl⟩
theorem Moved.trans {p : Nat} {a b c : World} (h : Moved p a b) (k : Moved p b c) : Moved p a c := ⟨h.low.trans k.low, fun g hg hs => (k.high g hg (Nat.lt_of_lt_of_le hs h.low.size)).trans (h.high g hg hs)⟩
theorem Moved.of {p : Nat} {w w' : World} (h : Below w.heap.size w w') (hp : p < w.heap.size) : Moved p w w' := ⟨h.mono (Nat.le_of_lt hp), fun g _ hs => h.block g hs⟩
theorem Moved.set (p i : Nat) (v : Value) (w : World) : Moved p w (w.setCell ⟨p, i, none⟩ v) := ⟨(Below.refl _ w).setCell (p := ⟨p, i, none⟩) (Nat.le_refl _) v, fun _g hg _ => Below.heap_setCell _ _ _ _ hg⟩
theorem Rd.lt {p : Nat} {l : List UInt8} {w : World} (h : Rd p l w) : p < w.heap.size := block_lt h
theorem Rd.cell {p : Nat} {l : List UInt8} {w : World} (h : Rd p l w) : w.cell? ⟨p, 0, none⟩ = some (.string ⟨l.toArray⟩) ∧ w.frozen? ⟨p, 0, none⟩ = false := cell_one h
theorem Rd.put {p : Nat} {l : List UInt8} {w : World} (h : Rd p l w) (m : List UInt8) : Rd p m (w.setCell ⟨p, 0, none⟩ (.string ⟨m.toArray⟩)) := by
  have h := heap_setCell_same w p 0 _ _ (.string ⟨m.toArray⟩) h
  unfold Rd
  simpa using h
theorem Rd.below {p : Nat} {l : List UInt8} {w w' : World} (h : Rd p l w) (hb : Below w.heap.size w w') : Rd p l w' := (hb.block p h.lt).trans h
theorem owns_moved {w w' : World} {B n size p : Nat} {e : TypeId} {v : Value} {xs : List Value} (h : w.ownsRow B e size v n xs) (hp : p < B) (hm : Moved p w w') : w'.ownsRow B e size v n xs := owns_same h fun g hg => by
  have h1 := own_block_lt h hg
  rcases h.2 with ⟨rfl, _⟩ | ⟨g', _, _, rfl, hB, _⟩
  · cases hg
  · cases hg; exact hm.high _ (by show g' ≠ p; omega) h1

theorem take_snocL (l : List UInt8) (k : Nat) (c : UInt8) (hk : l[k]? = some c) : l.take (k + 1) = l.take k ++ [c] := by
  rw [List.take_add_one, hk]; rfl
theorem extract_to (l : List UInt8) (k : Nat) : (⟨l.toArray⟩ : ByteArray).extract 0 k = ⟨(l.take k).toArray⟩ := by
  apply ByteArray.ext
  rw [ByteArray.data_extract]
  apply Array.ext'
  simp only [List.extract_toArray, List.extract_eq_drop_take', List.toList_toArray]
  simp

/-- The byte is the next one. -/
def isC (c : UInt8) (l : List UInt8) : Bool := l.head? == some c
def takeC (c : UInt8) (l : List UInt8) : List UInt8 := if isC c l then l.tail else l
theorem isC_cons (c a : UInt8) (l : List UInt8) : isC c (a :: l) = decide (a = c) := by unfold isC; by_cases h : a = c <;> simp [h]
set_option maxHeartbeats 1000000 in
set_option maxRecDepth 20000 in
theorem take8_yes (p : Nat) (c : UInt8) (l : List UInt8) (w : World) (h : Rd p (c :: l) w) (hl : l.length ≤ 4611686018427387904) :
    Calls Tryz.prog 104 #[.pointer (some ⟨p, 0, none⟩), .int .u8 (c.toNat : Int)] w fun e w' => e = .returned (.bool true) ∧ Rd p l w' ∧ Moved p w w' := by
  obtain ⟨c1, f1⟩ := h.cell
  have h2 := h.put l
  have hB := Moved.set p 0 (.string ⟨l.toArray⟩) w
  obtain ⟨S, hS⟩ : ∃ S : ByteArray, S = ⟨(c :: l).toArray⟩ := ⟨_, rfl⟩
  rw [← hS] at c1
  have hE : S.toList.isEmpty = false := by rw [hS]; exact list_full c l
  have hz : S.size = l.length + 1 := by rw [hS]; simp [ByteArray.size]
  have hs : 0 < S.size := by omega
  have hb : S[0] = c := byte0 (r := l) (by rw [hS]) hs
  have HS := Lib.hid hS
  have HB := Lib.hid (And.intro h2 hB)
  clear hS h2 hB h
  go_enter Tryz.func104, Tryz.ntmps104
  go_wp2
  have he : S.extract 1 (l.length + 1) = ⟨l.toArray⟩ := by rw [HS.out]; exact extract_from (c :: l) 1 (l.length + 1) (by simp)
  rw [he]
  exact bodyPost_ret (results_tmp rfl _ _ _) rfl ⟨rfl, HB.out.1, HB.out.2⟩
set_option maxHeartbeats 1000000 in
set_option maxRecDepth 20000 in
theorem take8_no (p : Nat) (c : UInt8) (l : List UInt8) (w : World) (h : Rd p l w) (hc : l.head? ≠ some c) :
    Calls Tryz.prog 104 #[.pointer (some ⟨p, 0, none⟩), .int .u8 (c.toNat : Int)] w fun e w' => e = .returned (.bool false) ∧ w' = w := by
  obtain ⟨c1, f1⟩ := h.cell
  obtain ⟨S, hS⟩ : ∃ S : ByteArray, S = ⟨l.toArray⟩ := ⟨_, rfl⟩
  rw [← hS] at c1
  cases l with
  | nil =>
    have hE : S.toList.isEmpty = true := by rw [hS]; exact list_empty
    clear hS h
    go_enter Tryz.func104, Tryz.ntmps104
    go_wp2
    exact bodyPost_ret (results_tmp rfl _ _ _) rfl ⟨rfl, rfl⟩
  | cons a l =>
    have hE : S.toList.isEmpty = false := by rw [hS]; exact list_full a l
    have hz : S.size = l.length + 1 := by rw [hS]; simp [ByteArray.size]
    have hs : 0 < S.size := by omega
    have hb : S[0] = a := byte0 (r := l) (by rw [hS]) hs
    have hne : ((a.toNat : Int) == (c.toNat : Int)) = false := ne_int (fun e => hc (by rw [e]; rfl))
    clear hS h hc
    go_enter Tryz.func104, Tryz.ntmps104
    go_wp2
    exact bodyPost_ret (results_tmp rfl _ _ _) rfl ⟨rfl, rfl⟩
/-- The same of a byte's number. -/
def isI (i : Int) : List UInt8 → Bool
  | [] => false
  | a :: _ => (a.toNat : Int) == i
theorem byte_of (i : Int) (h0 : 0 ≤ i) (h1 : i ≤ 255) : ∃ c : UInt8, i = (c.toNat : Int) := ⟨UInt8.ofNat i.toNat, by simp; omega⟩
theorem isI_head (c : UInt8) (l : List UInt8) : isI (c.toNat : Int) l = true ↔ l.head? = some c := by
  cases l with
  | nil => simp [isI]
  | cons a l =>
    simp only [isI, beq_iff_eq, List.head?_cons, Option.some.injEq]
    constructor
    · intro h; exact UInt8.toNat_inj.1 (by omega)
    · intro h; rw [h]
theorem takeI_no (p : Nat) (l : List UInt8) (w : World) (h : Rd p l w) (i : Int) (h0 : 0 ≤ i) (h1 : i ≤ 255) (hc : isI i l = false) :
    Calls Tryz.prog 104 #[.pointer (some ⟨p, 0, none⟩), .int .u8 i] w fun e w' => e = .returned (.bool false) ∧ w' = w := by
  obtain ⟨c, rfl⟩ := byte_of i h0 h1
  exact take8_no p c l w h fun e => by rw [(isI_head c l).2 e] at hc; cases hc
theorem takeI_yes (p : Nat) (l : List UInt8) (w : World) (h : Rd p l w) (hl : l.length ≤ 4611686018427387904) (i : Int) (h0 : 0 ≤ i) (h1 : i ≤ 255) (hc : isI i l = true) :
    Calls Tryz.prog 104 #[.pointer (some ⟨p, 0, none⟩), .int .u8 i] w fun e w' => e = .returned (.bool true) ∧ Rd p l.tail w' ∧ Moved p w w' := by
  obtain ⟨c, rfl⟩ := byte_of i h0 h1
  have := (isI_head c l).1 hc
  cases l with
  | nil => cases this
  | cons a l =>
    cases this
    exact take8_yes p c l w h (by simp only [List.length_cons] at hl; omega)
/-- take: behind a byte, if it is the next one. -/
theorem take8_any (p : Nat) (c : UInt8) (l : List UInt8) (w : World) (h : Rd p l w) (hl : l.length ≤ 4611686018427387904) :
    Calls Tryz.prog 104 #[.pointer (some ⟨p, 0, none⟩), .int .u8 (c.toNat : Int)] w fun e w' => e = .returned (.bool (isC c l)) ∧ Rd p (takeC c l) w' ∧ Moved p w w' := by
  by_cases hc : l.head? = some c
  · cases l with
    | nil => cases hc
    | cons a l =>
      cases hc
      have : isC c (c :: l) = true := by rw [isC_cons]; simp
      unfold takeC
      rw [this]
      exact take8_yes p c l w h (by simp only [List.length_cons] at hl; omega)
  · have : isC c l = false := by unfold isC; simpa using hc
    unfold takeC
    rw [this]
    refine (take8_no p c l w h hc).mono ?_
    rintro e w' ⟨rfl, rfl⟩
    exact ⟨rfl, h, .refl _ _⟩
end Go.Proofs.YtkgpnlldlekcbaaGreatDoor
namespace Go.Proofs.YtkgpnlldlekcbaaGreatDoor
open Go.RowKit Go.Lib

set_option maxHeartbeats 1000000 in
set_option maxRecDepth 20000 in
theorem must8_yes (p : Nat) (c : UInt8) (l : List UInt8) (w : World) (h : Rd p (c :: l) w) (hl : l.length ≤ 4611686018427387904) :
    Calls Tryz.prog 126 #[.pointer (some ⟨p, 0, none⟩), .int .u8 (c.toNat : Int)] w fun e w' => e = .returned (.tuple #[]) ∧ Rd p l w' ∧ Moved p w w' := by
  have k := take8_yes p c l w h hl
  clear h
  go_enter Tryz.func126, Tryz.ntmps126
  go_wp2_with (go_at_call 104; refine k.mono ?_; rintro e w1 ⟨rfl, h1, m1⟩)
  go_end0
  exact ⟨rfl, h1, m1⟩
set_option maxHeartbeats 1000000 in
set_option maxRecDepth 20000 in
theorem must8_no (p : Nat) (c : UInt8) (l : List UInt8) (w : World) (h : Rd p l w) (hc : l.head? ≠ some c) :
    Calls Tryz.prog 126 #[.pointer (some ⟨p, 0, none⟩), .int .u8 (c.toNat : Int)] w fun e w' => e = errV 9 ∧ w' = w := by
  have k := take8_no p c l w h hc
  clear h hc
  unfold errV
  go_enter Tryz.func126, Tryz.ntmps126
  go_wp2_with (go_at_call 104; refine k.mono ?_; rintro e w1 ⟨rfl, rfl⟩)
  exact ⟨rfl, rfl, rfl⟩

set_option maxHeartbeats 1000000 in
set_option maxRecDepth 20000 in
/-- blanks: behind all blanks. -/
theorem blanks_any (p : Nat) (l : List UInt8) (w : World) (h : Rd p l w) :
    Calls Tryz.prog 105 #[.pointer (some ⟨p, 0, none⟩)] w fun e w' => e = .returned (.tuple #[]) ∧ Rd p (blk l) w' ∧ Moved p w w' := by
  obtain ⟨c1, f1⟩ := h.cell
  have h2 := h.put (blk l)
  have hB := Moved.set p 0 (.string ⟨(blk l).toArray⟩) w
  have k : ∀ w, Calls Tryz.prog 78 #[.string ⟨l.toArray⟩, .string ⟨#[32]⟩] w fun e w' => e = .returned (.string ⟨(blk l).toArray⟩) ∧ w' = w := fun w => Tryz.strings_TrimLeft_one ⟨l.toArray⟩ 32 (by decide) w
  have HB := Lib.hid (And.intro h2 hB)
  clear h2 hB h
  generalize (⟨l.toArray⟩ : ByteArray) = S at c1 k
  generalize (⟨(blk l).toArray⟩ : ByteArray) = U at k HB
  go_enter Tryz.func105, Tryz.ntmps105
  go_wp2_with (go_at_call 78; refine (k _).mono ?_; rintro e w1 ⟨rfl, rfl⟩)
  go_end0
  exact ⟨rfl, HB.out.1, HB.out.2⟩

/-- Is the next byte one of these? -/
def atB (of : List UInt8) : List UInt8 → Bool
  | [] => false
  | c :: _ => of.contains c
set_option maxHeartbeats 1000000 in
set_option maxRecDepth 20000 in
theorem at8_any (p : Nat) (of l : List UInt8) (w : World) (h : Rd p l w) :
    Calls Tryz.prog 79 #[.pointer (some ⟨p, 0, none⟩), .string ⟨of.toArray⟩] w fun e w' => e = .returned (.bool (atB of l)) ∧ w' = w := by
  obtain ⟨c1, f1⟩ := h.cell
  obtain ⟨S, hS⟩ : ∃ S : ByteArray, S = ⟨l.toArray⟩ := ⟨_, rfl⟩
  rw [← hS] at c1
  cases l with
  | nil =>
    have hE : S.toList.isEmpty = true := by rw [hS]; exact list_empty
    clear hS h
    generalize (⟨of.toArray⟩ : ByteArray) = O
    show Calls _ _ _ _ fun e w' => e = .returned (.bool false) ∧ w' = w
    go_enter Tryz.func79, Tryz.ntmps79
    go_wp2
    exact bodyPost_ret (results_tmp rfl _ _ _) rfl ⟨rfl, rfl⟩
  | cons a l =>
    have hE : S.toList.isEmpty = false := by rw [hS]; exact list_full a l
    have hz : S.size = l.length + 1 := by rw [hS]; simp [ByteArray.size]
    have hs : 0 < S.size := by omega
    have hb : S[0] = a := byte0 (r := l) (by rw [hS]) hs
    have k : ∀ w, Calls Tryz.prog 102 #[.string ⟨of.toArray⟩, .int .u8 (a.toNat : Int)] w fun e w' => e = .returned (.int .i64 (indexByte of a)) ∧ w' = w := fun w => by
      have := Tryz.strings_IndexByte ⟨of.toArray⟩ (a.toNat : Int) w
      rwa [u8_back] at this
    have hg := contains_index of a
    obtain ⟨i, hi⟩ : ∃ i, i = indexByte of a := ⟨_, rfl⟩
    rw [← hi] at k hg
    have hbg : atB of (a :: l) = of.contains a := rfl
    rw [hbg, ← hg]
    clear hS h hi hg hbg
    generalize (⟨of.toArray⟩ : ByteArray) = O at k
    go_enter Tryz.func79, Tryz.ntmps79
    go_wp2_with (go_at_call 102; refine (k _).mono ?_; rintro e w1 ⟨rfl, rfl⟩)
    exact bodyPost_ret (results_tmp rfl _ _ _) rfl ⟨rfl, rfl⟩
theorem ended_at (l : List UInt8) : endedB l = (l.isEmpty || atB [59, 10] l) := by
  cases l with
  | nil => rfl
  | cons c l =>
    show (c == 59 || c == 10) = ([59, 10] : List UInt8).contains c
    simp [List.contains, List.elem]
    cases (c == 59) <;> cases (c == 10) <;> rfl
set_option maxHeartbeats 1000000 in
set_option maxRecDepth 20000 in
theorem ended_any (p : Nat) (l : List UInt8) (w : World) (h : Rd p l w) :
    Calls Tryz.prog 107 #[.pointer (some ⟨p, 0, none⟩)] w fun e w' => e = .returned (.bool (endedB l)) ∧ w' = w := by
  obtain ⟨c1, f1⟩ := h.cell
  have k := at8_any p [59, 10] l w h
  rw [ended_at]
  obtain ⟨S, hS⟩ : ∃ S : ByteArray, S = ⟨l.toArray⟩ := ⟨_, rfl⟩
  rw [← hS] at c1
  cases l with
  | nil =>
    have hE : S.toList.isEmpty = true := by rw [hS]; exact list_empty
    clear hS h k
    go_enter Tryz.func107, Tryz.ntmps107
    go_wp2
    exact bodyPost_ret (results_tmp rfl _ _ _) rfl ⟨rfl, rfl⟩
  | cons a l =>
    have hE : S.toList.isEmpty = false := by rw [hS]; exact list_full a l
    show Calls _ _ _ _ fun e w' => e = .returned (.bool (atB [59, 10] (a :: l))) ∧ w' = w
    clear hS h
    generalize atB [59, 10] (a :: l) = q at k
    go_enter Tryz.func107, Tryz.ntmps107
    go_wp2_with (go_at_call 79; refine k.mono ?_; rintro e w1 ⟨rfl, rfl⟩)
    exact bodyPost_ret (results_tmp rfl _ _ _) rfl ⟨rfl, rfl⟩
end Go.Proofs.YtkgpnlldlekcbaaGreatDoor
