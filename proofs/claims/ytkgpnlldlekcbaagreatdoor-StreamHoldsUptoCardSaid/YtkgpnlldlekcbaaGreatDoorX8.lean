/- Packed texts: ClsRead, ClsSpec. What each of them proves stands above its theorems; the conditions stand in these. -/
import Derived.Lib.IndexBytes
import Derived.Maps.AppendAt
import Derived.Test.YtkgpnlldlekcbaaGreatDoorX2
import Derived.Test.YtkgpnlldlekcbaaGreatDoorX7
namespace Go.Proofs.YtkgpnlldlekcbaaGreatDoor
open Go.RowKit Go.Lib

/-- Where the reading stands: the place in a box at p, the text in a box at q. -/
structure ReadAt (s : ByteArray) (p q : Nat) (k : Nat) (w : World) : Prop where
  at_ : w.heap[p]? = some (.cells #[.int .i64 (k : Int)] 3 (0, 0))
  txt : w.heap[q]? = some (.cells #[.string s] 9 (0, 0))
  ne : p ≠ q
  le : k ≤ s.size
theorem boxed {w : World} {b : Nat} {v : Value} {t : TypeId} (h : w.heap[b]? = some (.cells #[v] t (0, 0))) : w.cell? ⟨b, 0, none⟩ = some v ∧ w.frozen? ⟨b, 0, none⟩ = false :=
  ⟨cell_of_row w b 0 _ _ _ h, frozen_of_row w b 0 _ _ h⟩
theorem lt_of_block {w : World} {b : Nat} {o : Obj} (h : w.heap[b]? = some o) : b < w.heap.size := (Array.getElem?_eq_some_iff.1 h).1
theorem ReadAt.below {s : ByteArray} {p q k : Nat} {w w' : World} (h : ReadAt s p q k w) (hb : Below w.heap.size w w') : ReadAt s p q k w' :=
  ⟨(hb.block p (lt_of_block h.at_)).trans h.at_, (hb.block q (lt_of_block h.txt)).trans h.txt, h.ne, h.le⟩
theorem ReadAt.set {s : ByteArray} {p q k : Nat} {w : World} (h : ReadAt s p q k w) (j : Nat) (hj : j ≤ s.size) : ReadAt s p q j (w.setCell ⟨p, 0, none⟩ (.int .i64 (j : Int))) :=
  ⟨heap_setCell_same w p 0 _ _ _ h.at_, (Below.heap_setCell _ _ _ _ (by have := h.ne; simp; omega)).trans h.txt, h.ne, hj⟩
theorem set_grown (w : World) (p : Nat) (u : Value) : w.grownBy (w.setCell ⟨p, 0, none⟩ u) (some p) :=
  ⟨rfl, rfl, rfl, by simp [World.setCell], fun k _ hk => Below.heap_setCell _ _ _ _ (fun e => hk (by simp [e]))⟩
theorem grown_below {w w' : World} (h : Below w.heap.size w w') (row : Option Nat) : w.grownBy w' row := ⟨h.os, h.tape, h.output, h.size, fun k hk _ => h.block k hk⟩

theorem at_byte {s : ByteArray} {k : Nat} (h : k < s.size) : s.data.toList[k]? = some s[k] := by
  rw [List.getElem?_eq_getElem (by rw [Array.length_toList]; exact h)]; rfl

set_option maxHeartbeats 1000000 in
/-- 'mark(c)': is the next byte c? Then it is passed. -/
theorem mark_any (s : ByteArray) (c : UInt8) (p q k : Nat) (w : World) (h : ReadAt s p q k w) (hs : s.size ≤ 70000000000000) :
    Calls Tryz.prog 219 #[.int .u8 (c.toNat : Int), .pointer (some ⟨p, 0, none⟩), .pointer (some ⟨q, 0, none⟩)] w fun e w' =>
      e = .returned (.bool (decide (s.data.toList[k]? = some c))) ∧ ReadAt s p q (if s.data.toList[k]? = some c then k + 1 else k) w' ∧ w.grownBy w' (some p) := by
  obtain ⟨c0, f0⟩ := boxed h.at_
  obtain ⟨c1, f1⟩ := boxed h.txt
  have hle := h.le
  have HR := Lib.hid h
  clear h
  by_cases hlt : k < s.size
  · have hat := at_byte hlt
    obtain ⟨d, hd⟩ : ∃ d, s[k] = d := ⟨_, rfl⟩
    rw [hd] at hat
    rw [hat]
    have hw : IntKind.i64.wrap ((k : Int) + 1) = ((k + 1 : Nat) : Int) := by rw [IntWalk.i64_in _ (by omega)]; omega
    by_cases hdc : d = c
    · subst hdc
      have hdd : ((d.toNat : Int) == (d.toNat : Int)) = true := by simp
      rw [if_pos rfl, decide_eq_true rfl]
      clear hat
      go_enter Tryz.func219, Tryz.ntmps219
      go_wp2
      go_ret
      exact ⟨rfl, HR.out.set (k + 1) (by omega), set_grown _ _ _⟩
    · have hne := ne_int hdc
      rw [if_neg (fun e => hdc (Option.some.inj e)), decide_eq_false (fun e => hdc (Option.some.inj e))]
      clear hat
      go_enter Tryz.func219, Tryz.ntmps219
      go_wp2
      go_ret
      exact ⟨rfl, HR.out, World.grownBy.refl _ _⟩
  · have hno : s.data.toList[k]? = none := List.getElem?_eq_none (by rw [Array.length_toList]; exact Nat.le_of_not_lt hlt)
    rw [hno]
    rw [if_neg (by simp), decide_eq_false (by simp)]
    clear hno
    go_enter Tryz.func219, Tryz.ntmps219
    go_wp2
    go_ret
    exact ⟨rfl, HR.out, World.grownBy.refl _ _⟩

theorem toldD_used {l : List UInt8} {x n : Int} (h : toldD l = some (x, n)) : n = 4 ∧ 0 ≤ x ∧ x ≤ 255 ∧ 2 ≤ l.length := by
  match l, h with
  | a :: b :: _, h =>
    simp only [toldD] at h
    have := digN_ge a
    have := digN_ge b
    split at h
    · cases h
    · cases h
      exact ⟨rfl, by omega, by omega, by simp⟩
theorem signD_used {l : List UInt8} {x n : Int} (h : signD l = some (x, n)) : 1 ≤ n ∧ n ≤ (l.length : Int) ∧ 0 ≤ x ∧ x ≤ 255 := by
  match l, h with
  | c :: r, h =>
    have hc := c.toNat_lt
    simp only [signD] at h
    split at h
    · match r, h with
      | d :: t, h =>
        have hd := d.toNat_lt
        dsimp only at h
        split at h
        · obtain ⟨rfl, h0, h1, h2⟩ := toldD_used h
          exact ⟨by omega, by simp only [List.length_cons]; omega, h0, h1⟩
        · split at h
          · cases h
            exact ⟨by omega, by simp only [List.length_cons]; omega, by omega, by omega⟩
          · cases h
    · split at h
      · cases h
      · cases h
        exact ⟨by omega, by simp only [List.length_cons]; omega, by omega, by omega⟩

/-- What a sign's closure answers, and where the reading stands behind it. -/
def signOk : Option (Int × Int) → Ending
  | none => .returned (.tuple #[.int .u8 0, .bool false])
  | some (x, _) => .returned (.tuple #[.int .u8 x, .bool true])
def signTo (k : Nat) : Option (Int × Int) → Nat
  | none => k
  | some (_, n) => k + n.toNat

set_option maxHeartbeats 1000000 in
theorem take_walk (s t : ByteArray) (p q k j : Nat) (x n er : Int) (b : Bool) (w : World) (h : ReadAt s p q k w) (hs : s.size ≤ 70000000000000) (hn : n = (j : Int) - (k : Int)) (hj : j ≤ s.size) (hb : (er == 0) = b)
    (ht : s.extract k s.size = t) (k1 : ∀ w, Calls Tryz.prog 173 #[.string t] w fun e w' => e = .returned (.tuple #[.int .u8 x, .int .i64 n, .int .i64 er]) ∧ Below w.heap.size w w') :
    Calls Tryz.prog 220 #[.pointer (some ⟨q, 0, none⟩), .pointer (some ⟨p, 0, none⟩)] w fun e w' =>
      e = .returned (.tuple #[.int .u8 x, .bool b]) ∧ ReadAt s p q j w' ∧ w.grownBy w' (some p) := by
  obtain ⟨c0, f0⟩ := boxed h.at_
  obtain ⟨c1, f1⟩ := boxed h.txt
  have hle := h.le
  have HR := Lib.hid h
  have hw : IntKind.i64.wrap ((k : Int) + n) = (j : Int) := by rw [IntWalk.i64_in _ (by omega)]; omega
  have HN := Lib.hid hn
  clear h hn
  go_enter Tryz.func220, Tryz.ntmps220
  go_wp2_with (go_at_call 173; refine (k1 _).mono ?_; clear c0 f0 c1 f1; rintro e w1 ⟨rfl, hb1⟩; have HR1 := HR.out.below hb1; obtain ⟨c0, f0⟩ := boxed HR1.at_; obtain ⟨c1, f1⟩ := boxed HR1.txt; have HR2 := Lib.hid HR1; have HB := Lib.hid hb1; clear HR1 hb1)
  go_ret2
  exact ⟨rfl, HR2.out.set j hj, (grown_below HB.out _).trans (set_grown _ _ _)⟩
/-- 'sign()': the sign that stands next is passed. -/
theorem take_any (s : ByteArray) (p q k : Nat) (w : World) (h : ReadAt s p q k w) (hs : s.size ≤ 70000000000000) :
    Calls Tryz.prog 220 #[.pointer (some ⟨q, 0, none⟩), .pointer (some ⟨p, 0, none⟩)] w fun e w' =>
      e = signOk (signD (s.data.toList.drop k)) ∧ ReadAt s p q (signTo k (signD (s.data.toList.drop k))) w' ∧ w.grownBy w' (some p) := by
  have hl := extract_to_end s k
  have k1 := fun w => sign_any (s.extract k s.size) w
  rw [hl] at k1
  have hlen : (s.data.toList.drop k).length = s.size - k := by rw [List.length_drop, Array.length_toList]; rfl
  have hle := h.le
  cases hd : signD (s.data.toList.drop k) with
  | none =>
    rw [hd] at k1
    exact take_walk s _ p q k k 0 0 2 false w h hs (by omega) hle rfl rfl k1
  | some r =>
    obtain ⟨x, n⟩ := r
    rw [hd] at k1
    obtain ⟨h1, h2, _, _⟩ := signD_used hd
    exact take_walk s _ p q k (k + n.toNat) x n 0 true w h hs (by omega) (by omega) rfl rfl k1
end Go.Proofs.YtkgpnlldlekcbaaGreatDoor
namespace Go.Proofs.YtkgpnlldlekcbaaGreatDoor
open Go.RowKit Go.Lib

def zeroK : Cl := fun _ => 0
/-- A sign, or two with - between, that a text begins with: the two bytes, and how many bytes of the text they take. -/
def itemD (l : List UInt8) : Option (Int × Int × Nat) :=
  match signD l with
  | none => none
  | some (a, n) =>
    if (l.drop n.toNat).head? = some 45 then
      match signD (l.drop (n.toNat + 1)) with
      | none => none
      | some (b, m) => if b < a then none else some (a, b, n.toNat + 1 + m.toNat)
    else some (a, a, n.toNat)
theorem itemD_used {l : List UInt8} {a b : Int} {n : Nat} (h : itemD l = some (a, b, n)) : 1 ≤ n ∧ n ≤ l.length ∧ 0 ≤ a ∧ a ≤ b ∧ b ≤ 255 := by
  unfold itemD at h
  cases hs : signD l with
  | none => rw [hs] at h; cases h
  | some r =>
    obtain ⟨x, i⟩ := r
    rw [hs] at h
    obtain ⟨h1, h2, h3, h4⟩ := signD_used hs
    dsimp only at h
    split at h
    · cases hs2 : signD (l.drop (i.toNat + 1)) with
      | none => rw [hs2] at h; cases h
      | some r2 =>
        obtain ⟨y, j⟩ := r2
        rw [hs2] at h
        obtain ⟨k1, k2, k3, k4⟩ := signD_used hs2
        rw [List.length_drop] at k2
        dsimp only at h
        split at h
        · cases h
        · cases h
          exact ⟨by omega, by omega, h3, by omega, k4⟩
    · cases h
      exact ⟨by omega, by omega, h3, Int.le_refl _, h4⟩
/-- The items ahead of a ]: what they come to, and the place behind the ]. -/
def listedD (l : List UInt8) (K : Cl) (pos : Nat) : Option (Cl × Nat) :=
  match itemD l with
  | none => none
  | some (a, b, n) =>
    if (l.drop n).head? = some 93 then some (orK K (spanK a.toNat b.toNat), pos + n + 1)
    else if _h : (l.drop n).length < l.length then listedD (l.drop n) (orK K (spanK a.toNat b.toNat)) (pos + n) else none
termination_by l.length
decreasing_by exact _h

theorem listed_none {l : List UInt8} {K : Cl} {pos : Nat} (h : itemD l = none) : listedD l K pos = none := by
  rw [listedD, h]
theorem listed_end {l : List UInt8} {K : Cl} {pos : Nat} {a b : Int} {n : Nat} (h : itemD l = some (a, b, n)) (he : (l.drop n).head? = some 93) : listedD l K pos = some (orK K (spanK a.toNat b.toNat), pos + n + 1) := by
  rw [listedD, h]
  dsimp only
  rw [if_pos he]
theorem listed_more {l : List UInt8} {K : Cl} {pos : Nat} {a b : Int} {n : Nat} (h : itemD l = some (a, b, n)) (he : ¬ (l.drop n).head? = some 93) : listedD l K pos = listedD (l.drop n) (orK K (spanK a.toNat b.toNat)) (pos + n) := by
  have hu := itemD_used h
  rw [listedD, h]
  dsimp only
  rw [if_neg he, dif_pos (by rw [List.length_drop]; omega)]
theorem head_drop (l : List UInt8) (i : Nat) : (l.drop i).head? = l[i]? := by rw [List.head?_drop]

/-- A class's text, read: the class, and the place behind its ]. -/
def readD (l : List UInt8) : Option (Cl × Nat) :=
  if l.head? = some 91 then
    if l[1]? = some 94 then (listedD (l.drop 2) zeroK 2).map fun r => (notK (orK r.1 (oneK 10)), r.2)
    else listedD (l.drop 1) zeroK 1
  else none
def readE : Option (Cl × Nat) → Ending
  | none => .returned (.tuple #[clsV zeroK, .int .i64 0, .int .i64 2])
  | some (K, n) => .returned (.tuple #[clsV K, .int .i64 (n : Int), .int .i64 0])
end Go.Proofs.YtkgpnlldlekcbaaGreatDoor
