/- Packed texts: SuPlain, SuText. What each of them proves stands above its theorems; the conditions stand in these. -/
import Derived.Deep.OwnRows
import Derived.Test.YtgceckejchdnlaaGreatDoorShelf
import Derived.Test.YtgceckejchdnlaaGreatDoorB3
import Derived.Test.YtgceckejchdnlaaGreatDoorB5
import Derived.Test.YtgceckejchdnlaaGreatDoorB9
import Derived.Test.YtgceckejchdnlaaGreatDoorB10
import Derived.Test.YtgceckejchdnlaaGreatDoorB19
namespace Go.Proofs.YtgceckejchdnlaaGreatDoor
open Go.RowKit Go.Lib

/-- Each byte as it is written. -/
def flatP (l : List UInt8) : List UInt8 := l.flatMap plainL
theorem flatP_len : ∀ l : List UInt8, l.length ≤ (flatP l).length ∧ (flatP l).length ≤ 4 * l.length
  | [] => by simp [flatP]
  | c :: l => by
    have h1 := flatP_len l
    have h2 := plain_length c
    unfold flatP at h1 ⊢
    rw [List.flatMap_cons, List.length_append, List.length_cons]
    omega
theorem flatP_next (s : ByteArray) {k : Nat} (h : k < s.size) : flatP (s.data.toList.take (k + 1)) = flatP (s.data.toList.take k) ++ plainL s[k] := by
  rw [take_snoc s k h]
  simp [flatP]
theorem isBuilder_below {T e : TypeId} {B b : Nat} {bs : List Value} {w w' : World} (h : IsBuilderF T e B b bs w) (hb : Below w.heap.size w w') : IsBuilderF T e B b bs w' := by
  have go : ∀ p, BuilderAtF T e B b p bs w → BuilderAtF T e B b p bs w' := fun p ⟨h1, v, h2, h3, h4⟩ => by
    refine ⟨h1, v, (hb.block b (block_lt h2)).trans h2, h3.kept (grown_of_below hb none) ?_, h4⟩
    cases v.ownBlock with
    | none => exact .inl rfl
    | some g => exact .inr (by simp)
  exact h.imp (go _) (go _)
/-- What lies between two rounds of the loop over the bytes. -/
def PlS (l : List UInt8) (w : World) (k : Nat) (wr : World) : Prop := IsBuilderF 55 5 w.heap.size w.heap.size (byteCells (flatP (l.take k))) wr ∧ Below w.heap.size w wr
theorem PlS.start (l : List UInt8) (w : World) : PlS l w 0 (w.alloc (.cells #[.pointer none, .slice none 0 0] 55)) :=
  ⟨.inl ⟨Nat.le_refl _, _, heap_alloc_new w _, ⟨rfl, .inl ⟨rfl, rfl⟩⟩, by simp [Value.ownBlock]⟩, (Below.refl _ w).alloc (Nat.le_refl _) _⟩
theorem PlS.below {l : List UInt8} {w wr w' : World} {k : Nat} (h : PlS l w k wr) (hb : Below wr.heap.size wr w') : PlS l w k w' := ⟨isBuilder_below h.1 hb, h.2.trans (hb.mono h.2.size)⟩

theorem PlS.write {s : ByteArray} {w wr : World} {k : Nat} {c : UInt8} (hlt : k < s.size) (hc : s[k] = c) (hs : s.size ≤ 1000000000) (h : PlS s.data.toList w k wr) :
    Calls Tryz.prog 26 #[.pointer (some ⟨w.heap.size, 0, none⟩), .string ⟨(plainL c).toArray⟩] wr fun e w' => e = .returned (.tuple #[.int .i64 (⟨(plainL c).toArray⟩ : ByteArray).size, .nilIface]) ∧ PlS s.data.toList w (k + 1) w' := by
  refine (writeString_any w.heap.size w.heap.size (byteCells (flatP (s.data.toList.take k))) ⟨(plainL c).toArray⟩ _ h.1 ?_ h.2.size).mono ?_
  · rw [byteCells_length]
    have h1 := (flatP_len (s.data.toList.take k)).2
    have h2 := (plain_length c).2
    have h3 : s.data.toList.length = s.size := Array.length_toList
    rw [List.length_take, h3] at h1
    show _ + (plainL c).toArray.size ≤ _
    rw [List.size_toArray]
    omega
  · rintro e w2 ⟨rfl, h2, hb2, _⟩
    refine ⟨rfl, .inr ?_, h.2.trans hb2⟩
    rw [flatP_next s hlt, hc, bc_append]
    exact h2

set_option maxHeartbeats 2000000 in
set_option maxRecDepth 20000 in
theorem plain7_any (s : ByteArray) (w : World) (hs : s.size ≤ 1000000000) :
    Calls Tryz.prog 53 #[.string s] w fun e w' => e = .returned (.string ⟨(flatP s.data.toList).toArray⟩) ∧ Below w.heap.size w w' := by
  have hlen : s.data.toList.length = s.size := Array.length_toList
  have HL := Lib.hid hlen
  clear hlen
  go_enter Tryz.func53, Tryz.ntmps53
  go_wp2
  go_loopg [7] (s.size + 1) (fun g v7 wr => ∃ k : Nat, v7 = .int .i64 k ∧ k ≤ s.size ∧ Hid (g = s.size + 1 - k) ∧ Hid (PlS s.data.toList w k wr))
  case atStart => exact ⟨0, rfl, by omega, rfl, PlS.start _ _⟩
  case round =>
    obtain ⟨k, rfl, hk, HK, HS⟩ := hrel
    by_cases hlt : k < s.size
    · have hltI : (k : Int) < (s.size : Int) := by omega
      obtain ⟨c, hc⟩ : ∃ c, s[k] = c := ⟨_, rfl⟩
      have hI : IntKind.i64.wrap ((k : Int) + 1) = ((k + 1 : Nat) : Int) := by rw [IntWalk.i64_in _ (by omega)]; omega
      go_wp2_with (first
        | (go_at_call 73; refine (plain_any c _).mono ?_; rintro e w1 ⟨rfl, hb1⟩; have H1 := Lib.hid (PlS.below (k := k) HS.out hb1); clear hb1)
        | (go_at_call 26; refine (PlS.write hlt hc hs H1.out).mono ?_; rintro e w2 ⟨rfl, h2⟩; have H2 := Lib.hid h2; clear h2))
      go_roundg (s.size - k)
      case rel => exact ⟨k + 1, by go_num, by omega, by show _ = _; omega, H2⟩
      case measure => have := HK.out; omega
    · obtain rfl : k = s.size := by omega
      have hall : s.data.toList.take s.size = s.data.toList := List.take_of_length_le (by rw [HL.out]; omega)
      have hS := HS.out
      unfold PlS at hS
      rw [hall] at hS
      have HS2 := Lib.hid hS
      clear hall hS
      go_wp2_with (first
        | (go_at_call 32
           refine (Tryz.Builder_String_any_k w.heap.size w.heap.size (flatP s.data.toList) _ HS2.out.1 HS2.out.2.size).mono ?_
           rintro e w3 ⟨rfl, _, hb3, _⟩))
      go_ret
      exact ⟨rfl, HS2.out.2.trans hb3⟩
end Go.Proofs.YtgceckejchdnlaaGreatDoor
namespace Go.Proofs.YtgceckejchdnlaaGreatDoor
open Go.RowKit Go.Lib

def flatB (x : ByteArray) : ByteArray := ⟨(flatP x.data.toList).toArray⟩
/-- How a row of texts is written. -/
def textB (xs : List ByteArray) : ByteArray := joinB (xs.map flatB) ⟨#[38]⟩
/-- What lies between two rounds of the loop over the texts. -/
def TxS (xs : List ByteArray) (w : World) (k : Nat) (wr : World) : Prop :=
  Below w.heap.size w wr ∧ ∃ cs : Array Value, wr.heap[w.heap.size]? = some (.cells cs 9 (0, 0)) ∧ cs.size = xs.length ∧ ∀ j x, j < k → xs[j]? = some x → cs[j]? = some (.string (flatB x))
theorem TxS.start (xs : List ByteArray) (w : World) : TxS xs w 0 (w.alloc (.cells (madeCells #[.string ByteArray.empty] xs.length) 9)) :=
  ⟨(Below.refl _ w).alloc (Nat.le_refl _) _, _, heap_alloc_new w _, size_madeCells _ _, fun _ _ h => absurd h (Nat.not_lt_zero _)⟩
theorem TxS.below {xs : List ByteArray} {w wr w' : World} {k : Nat} (h : TxS xs w k wr) (hb : Below wr.heap.size wr w') : TxS xs w k w' := by
  obtain ⟨h1, cs, h2, h3⟩ := h
  exact ⟨h1.trans (hb.mono h1.size), cs, (hb.block _ (block_lt h2)).trans h2, h3⟩
theorem TxS.cell {xs : List ByteArray} {w wr : World} {k : Nat} (h : TxS xs w k wr) (hk : k < xs.length) : (∃ u, wr.cell? ⟨w.heap.size, k, none⟩ = some u) ∧ wr.frozen? ⟨w.heap.size, k, none⟩ = false := by
  obtain ⟨h1, cs, h2, h3, h4⟩ := h
  refine ⟨⟨cs[k]'(by omega), ?_⟩, frozen_of_heap h2 k⟩
  rw [cell_of_heap h2]
  simp [h3, hk]
theorem TxS.put {xs : List ByteArray} {w wr : World} {k : Nat} {x : ByteArray} (h : TxS xs w k wr) (hx : xs[k]? = some x) : TxS xs w (k + 1) (wr.setCell ⟨w.heap.size, k, none⟩ (.string (flatB x))) := by
  have hk : k < xs.length := by
    by_cases h : k < xs.length
    · exact h
    · rw [List.getElem?_eq_none (by omega)] at hx; cases hx
  obtain ⟨h1, cs, h2, h3, h4⟩ := h
  refine ⟨h1.setCell (p := ⟨w.heap.size, k, none⟩) (Nat.le_refl _) _, _, Go.Lib.heap_setCell_same (i := k) h2 _, by simp [h3], fun j y hj hy => ?_⟩
  by_cases e : j = k
  · subst e
    rw [hx] at hy
    cases hy
    simp [h3, hk]
  · rw [Array.getElem?_setIfInBounds_ne (by omega)]
    exact h4 j y (by omega) hy
theorem TxS.strs {xs : List ByteArray} {w wr : World} (h : TxS xs w xs.length wr) (hl : xs.length ≤ 140737488355328) : Strs (.slice (some ⟨w.heap.size, 0, none⟩) xs.length xs.length) (xs.map flatB) wr := by
  obtain ⟨h1, cs, h2, h3, h4⟩ := h
  refine ⟨some ⟨w.heap.size, 0, none⟩, xs.length, by rw [List.length_map], by rw [List.length_map]; exact Nat.le_refl _, by rw [List.length_map]; exact hl, fun j x hj => ⟨_, 0, rfl, block_lt h2, ?_⟩⟩
  rw [List.getElem?_map] at hj
  obtain ⟨y, hy, rfl⟩ := Option.map_eq_some_iff.1 hj
  have hk : j < xs.length := by
    by_cases h : j < xs.length
    · exact h
    · rw [List.getElem?_eq_none (by omega)] at hy; cases hy
  rw [Nat.zero_add, cell_of_heap h2]
  exact h4 j y hk hy

set_option maxHeartbeats 2000000 in
set_option maxRecDepth 20000 in
theorem text7_walk (ao : Option Addr) (N cap : Nat) (xs : List ByteArray) (w : World) (h : Strs (.slice ao N cap) xs w) (hN6 : N ≤ 1000000000) (hs : ∀ x ∈ xs, x.size ≤ 1000000000) (hl : (textB xs).size ≤ 140737488355328) :
    Calls Tryz.prog 30 #[.slice ao N cap] w fun e w' => e = .returned (.string (textB xs)) ∧ Below w.heap.size w w' := by
  obtain ⟨hN, hcap, hN2⟩ := h.len
  have kmk := fun (w : World) => run_make_row' (P := Tryz.prog) 34 9 (.string ByteArray.empty) 16 Tryz.underlying34 Tryz.infoStrU rfl .i64 .i64 N (by omega) (by omega) w
  have kl := fun (W : World) (hS : Strs (.slice (some ⟨w.heap.size, 0, none⟩) N N) (xs.map flatB) W) => layS_any _ (xs.map flatB) ⟨#[38]⟩ W hS hl
  have k0 : TxS xs w 0 (w.alloc (.cells (madeCells #[.string ByteArray.empty] N) 9)) := by rw [hN]; exact TxS.start xs w
  have H := Lib.hid (And.intro h (And.intro hN hs))
  have K0 := Lib.hid k0
  have hXw : ∃ X, X = Obj.cells (madeCells #[.string ByteArray.empty] N) 9 := ⟨_, rfl⟩
  obtain ⟨X, hX⟩ := hXw
  rw [← hX] at kmk k0
  replace K0 := Lib.hid k0
  obtain ⟨T, hT⟩ : ∃ T, T = textB xs := ⟨_, rfl⟩
  rw [show joinB (xs.map flatB) ⟨#[38]⟩ = T from hT.symm] at kl
  rw [← hT]
  clear h hN hs hl k0 hX hT
  go_enter Tryz.func30, Tryz.ntmps30
  go_wp2
  go_loopg [11] (N + 1) (fun g v11 wr => ∃ k : Nat, v11 = .int .i64 k ∧ k ≤ N ∧ Hid (g = N + 1 - k) ∧ Hid (TxS xs w k wr))
  case atStart => exact ⟨0, rfl, by omega, rfl, K0.out⟩
  case round =>
    obtain ⟨k, rfl, hk, HK, HS⟩ := hrel
    by_cases hlt : k < N
    · have hltI : (k : Int) < (N : Int) := by omega
      obtain ⟨x, hx⟩ : ∃ x, xs[k]? = some x := ⟨xs[k]'(by have := H.out.2.1; omega), List.getElem?_eq_getElem _⟩
      obtain ⟨b, o, rfl, _, cx⟩ := (H.out.1.below HS.out.1).at hx
      have kp := fun w => plain7_any x w (H.out.2.2 x (List.mem_of_getElem? hx))
      have hI : IntKind.i64.wrap ((k : Int) + 1) = ((k + 1 : Nat) : Int) := by rw [IntWalk.i64_in _ (by omega)]; omega
      have HX := Lib.hid hx
      clear hx
      go_wp2_with (first
        | (go_at_call 53; refine (kp _).mono ?_; rintro e w1 ⟨rfl, hb1⟩
           have h1 := TxS.below (k := k) HS.out hb1
           obtain ⟨⟨u, hu⟩, hf⟩ := h1.cell (by have := H.out.2.1; omega)
           have H1 := Lib.hid (h1.put HX.out)
           clear hb1 h1))
      go_roundg (N - k)
      case rel => exact ⟨k + 1, by go_num, by omega, by show _ = _; omega, H1⟩
      case measure => have := HK.out; omega
    · obtain rfl : k = N := by omega
      have hS : Strs (.slice (some ⟨w.heap.size, 0, none⟩) k k) (xs.map flatB) wr := by
        have h1 := HS.out
        have h2 := H.out.2.1
        rw [h2] at h1 ⊢
        exact h1.strs (by omega)
      have HS2 := Lib.hid (And.intro hS HS.out.1)
      clear hS
      go_wp2_with (first
        | (go_at_call 54; refine (kl _ HS2.out.1).mono ?_; rintro e w3 ⟨rfl, hb3⟩))
      go_ret
      exact ⟨rfl, HS2.out.2.trans (hb3.mono HS2.out.2.size)⟩
theorem text7_any (v : Value) (xs : List ByteArray) (w : World) (h : Strs v xs w) (hN6 : xs.length ≤ 1000000000) (hs : ∀ x ∈ xs, x.size ≤ 1000000000) (hl : (textB xs).size ≤ 140737488355328) :
    Calls Tryz.prog 30 #[v] w fun e w' => e = .returned (.string (textB xs)) ∧ Below w.heap.size w w' := by
  have h' := h
  obtain ⟨ao, cap, rfl, _⟩ := h
  exact text7_walk ao xs.length cap xs w h' hN6 hs hl
end Go.Proofs.YtgceckejchdnlaaGreatDoor
