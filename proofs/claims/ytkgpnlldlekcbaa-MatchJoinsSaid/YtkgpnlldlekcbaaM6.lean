/- Packed texts: ClsSign. What each of them proves stands above its theorems; the conditions stand in these. -/
import Derived.BigQuiet
import Derived.Deep.Cut
import Derived.Deep.DeepCutAuto
import Derived.Deep.QuietTactic
import Derived.Lib.Hide
import Derived.Lib.IndexLaws
import Derived.Test.YtkgpnlldlekcbaaShelf
import Derived.Test.YtkgpnlldlekcbaaM0
import Derived.Test.YtkgpnlldlekcbaaM5
namespace Go.Proofs.Ytkgpnlldlekcbaa
open Go.RowKit Go.Lib

/-- The bytes that have a meaning between brackets; those, and the ones of a regular expression. -/
def heldL : List UInt8 := [92, 93, 91, 94, 45]
def namedL : List UInt8 := [92, 93, 91, 94, 45, 47, 46, 42, 43, 63, 40, 41, 124, 123, 125, 36]
/-- The byte of two digits that a text begins with. -/
def toldD : List UInt8 → Option (Int × Int)
  | h :: k :: _ => if digN h < 0 ∨ digN k < 0 then none else some ((16 : Int) * digN h + digN k, 4)
  | _ => none
/-- The sign that a text begins with: its byte, and how many bytes it has. -/
def signD : List UInt8 → Option (Int × Int)
  | [] => none
  | c :: r =>
    if c = 92 then
      match r with
      | [] => none
      | d :: t => if d = 120 then toldD t else if namedL.contains d then some ((d.toNat : Int), 2) else none
    else if c = 10 ∨ heldL.contains c = true then none else some ((c.toNat : Int), 1)
def signE : Option (Int × Int) → Ending
  | none => .returned (.tuple #[.int .u8 0, .int .i64 0, .int .i64 2])
  | some (c, n) => .returned (.tuple #[.int .u8 c, .int .i64 n, .int .i64 0])

theorem digN_ge (c : UInt8) : -1 ≤ digN c ∧ digN c ≤ 15 := by
  unfold digN
  split
  · omega
  · split
    · omega
    · split <;> omega

theorem size_list {s : ByteArray} {l : List UInt8} (h : s.data.toList = l) : s.size = l.length := by
  rw [← h]; exact Array.length_toList.symm
theorem byte0 {s : ByteArray} {c : UInt8} {r : List UInt8} (h : s.data.toList = c :: r) (hs : 0 < s.size) : s[0] = c := by
  have : s.data.toList[0]? = some s[0] := by rw [List.getElem?_eq_getElem (by rw [Array.length_toList]; exact hs)]; rfl
  rw [h] at this
  exact (Option.some.inj this).symm
theorem byte1 {s : ByteArray} {c d : UInt8} {r : List UInt8} (h : s.data.toList = c :: d :: r) (hs : 1 < s.size) : s[1] = d := by
  have : s.data.toList[1]? = some s[1] := by rw [List.getElem?_eq_getElem (by rw [Array.length_toList]; exact hs)]; rfl
  rw [h] at this
  exact (Option.some.inj this).symm
set_option maxHeartbeats 1000000 in
theorem refSign_stop (s : ByteArray) (x : Int) (w : World) (hs : 0 < s.size) (hx : (s[0].toNat : Int) = x) (h : x = 10 ∨ x = 93 ∨ x = 91 ∨ x = 94 ∨ x = 45) :
    Calls Try.prog 118 #[.string s] w fun e w' => e = signE none ∧ Below w.heap.size w w' := by
  rcases h with h | h | h | h | h
  all_goals
    subst h
    go_enter Try.func118, Try.ntmps118
    go_wp2
    exact bodyPost_ret (results_tmp3 rfl _ _ _) rfl ⟨rfl, Below.refl _ _⟩
set_option maxHeartbeats 1000000 in
theorem refSign_plain (s : ByteArray) (x : Int) (w : World) (hs : 0 < s.size) (hx : (s[0].toNat : Int) = x) (h1 : (x == 10) = false) (h2 : (x == 93) = false) (h3 : (x == 91) = false) (h4 : (x == 94) = false) (h5 : (x == 45) = false) (h92 : (x != 92) = true) :
    Calls Try.prog 118 #[.string s] w fun e w' => e = signE (some (x, 1)) ∧ Below w.heap.size w w' := by
  go_enter Try.func118, Try.ntmps118
  go_wp2
  exact bodyPost_ret (results_tmp3 rfl _ _ _) rfl ⟨rfl, Below.refl _ _⟩
set_option maxHeartbeats 1000000 in
theorem refSign_empty (s : ByteArray) (w : World) (hs : s.size < 1) :
    Calls Try.prog 118 #[.string s] w fun e w' => e = signE none ∧ Below w.heap.size w w' := by
  go_enter Try.func118, Try.ntmps118
  go_wp2
  exact bodyPost_ret (results_tmp3 rfl _ _ _) rfl ⟨rfl, Below.refl _ _⟩
set_option maxHeartbeats 1000000 in
theorem refSign_alone (s : ByteArray) (w : World) (hs : 0 < s.size) (hs2 : s.size < 2) (hx : (s[0].toNat : Int) = 92) :
    Calls Try.prog 118 #[.string s] w fun e w' => e = signE none ∧ Below w.heap.size w w' := by
  go_enter Try.func118, Try.ntmps118
  go_wp2
  exact bodyPost_ret (results_tmp3 rfl _ _ _) rfl ⟨rfl, Below.refl _ _⟩
end Go.Proofs.Ytkgpnlldlekcbaa
