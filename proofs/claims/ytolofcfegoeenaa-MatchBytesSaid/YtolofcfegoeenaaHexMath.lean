/- Layer 1 as plain functions on lists of bytes: a text in digits, the text of digits. No condition; no program stands in this file. -/
import Derived.Test.YtolofcfegoeenaaHexMem
namespace Go.Proofs.Ytolofcfegoeenaa
open Go.RowKit Go.Lib

def hexDg (n : Nat) : UInt8 := if n < 10 then UInt8.ofNat (48 + n) else UInt8.ofNat (87 + n)
def hexL : List UInt8 → List UInt8
  | [] => []
  | c :: l => hexDg (c.toNat / 16) :: hexDg (c.toNat % 16) :: hexL l
theorem hexL_append (a b : List UInt8) : hexL (a ++ b) = hexL a ++ hexL b := by
  induction a with
  | nil => rfl
  | cons c a ih => simp [hexL, ih]
theorem hexL_length (l : List UInt8) : (hexL l).length = 2 * l.length := by
  induction l with
  | nil => rfl
  | cons c l ih => simp [hexL, ih]; omega
/-- The whole text: x, then the digits. -/
def hexT (l : List UInt8) : List UInt8 := 120 :: hexL l
theorem hexT_length (l : List UInt8) : (hexT l).length = 1 + 2 * l.length := by simp [hexT, hexL_length]; omega
theorem take_snoc (s : ByteArray) (k : Nat) (h : k < s.size) : s.data.toList.take (k + 1) = s.data.toList.take k ++ [s[k]] := by
  rw [List.take_succ_eq_append_getElem (by simpa using h)]; rfl
theorem hexT_snoc (s : ByteArray) (k : Nat) (h : k < s.size) :
    hexT (s.data.toList.take (k + 1)) = hexT (s.data.toList.take k) ++ [hexDg (s[k].toNat / 16), hexDg (s[k].toNat % 16)] := by
  rw [take_snoc s k h]
  simp [hexT, hexL_append, hexL]
theorem bc_append (a b : List UInt8) : byteCells (a ++ b) = byteCells a ++ byteCells b := by simp [byteCells]
theorem and15_fin : ∀ n : Fin 256, bits BinOp.and IntKind.u8 (n.val : Int) 15 = (n.val : Int) % 16 := by decide +kernel
theorem and15 (c : UInt8) : bits BinOp.and IntKind.u8 (c.toNat : Int) 15 = (c.toNat : Int) % 16 := and15_fin ⟨c.toNat, c.toNat_lt⟩
/-- The sixteen digits, each at its number's place. -/
theorem dig_fin : ∀ n : Fin 16, (⟨#[48, 49, 50, 51, 52, 53, 54, 55, 56, 57, 97, 98, 99, 100, 101, 102]⟩ : ByteArray)[n.val]'(n.isLt) = hexDg n.val := by decide +kernel
theorem dig_at (x : Int) (n : Nat) (hx : x = (n : Int)) (hn : n < 16) (h : x.toNat < (⟨#[48, 49, 50, 51, 52, 53, 54, 55, 56, 57, 97, 98, 99, 100, 101, 102]⟩ : ByteArray).size) :
    (⟨#[48, 49, 50, 51, 52, 53, 54, 55, 56, 57, 97, 98, 99, 100, 101, 102]⟩ : ByteArray)[x.toNat] = hexDg n := by
  subst hx
  exact dig_fin ⟨n, hn⟩
/-- Two cells of a new row. -/
theorem cells_two (w : World) (a b : UInt8) (t : TypeId) : ∀ j u, (byteCells [a, b])[j]? = some u → (w.alloc (.cells #[.int .u8 (a.toNat : Int), .int .u8 (b.toNat : Int)] t)).cell? ((⟨w.heap.size, 0, none⟩ : Addr).add j) = some u := by
  intro j u hj
  match j, hj with
  | 0, hj => simp [byteCells] at hj; subst hj; simp [Addr.add]
  | 1, hj => simp [byteCells] at hj; subst hj; simp [Addr.add]
theorem cells_one (w : World) (a : UInt8) (t : TypeId) : ∀ j u, (byteCells [a])[j]? = some u → (w.alloc (.cells #[.int .u8 (a.toNat : Int)] t)).cell? ((⟨w.heap.size, 0, none⟩ : Addr).add j) = some u := by
  intro j u hj
  match j, hj with
  | 0, hj => simp [byteCells] at hj; subst hj; simp [Addr.add]
theorem bc_one (l : List UInt8) : ∀ u ∈ byteCells l, u.oneCell' = true := by
  intro u hu
  simp only [byteCells, List.mem_map] at hu
  obtain ⟨b, _, rfl⟩ := hu
  rfl
/-- 'string([]byte{x})'. -/
theorem conv_new1 {P : Program} (src dst e : TypeId) (hs : P.underlying src = some (.slice e)) (he : P.underlying e = some (.int .u8)) (hd : P.underlying dst = some .string) (w : World) (x : Int) (c : UInt8) (hx : x = (c.toNat : Int)) :
    (convert src dst (.slice (some ⟨w.heap.size, 0, none⟩) 1 1)).run P (w.alloc (.cells #[.int .u8 x] e)) = .ok (.string ⟨[c].toArray⟩) (w.alloc (.cells #[.int .u8 x] e)) := by
  subst hx
  exact run_convert_bytes_back (P := P) _ src dst e ⟨w.heap.size, 0, none⟩ 1 [c] hs he hd (fun j hj => by
    have : j = 0 := by simpa using hj
    subst this
    simp [Addr.add])
theorem hexDg_lo (n : Nat) (h : n < 10) : ((hexDg n).toNat : Int) = 48 + (n : Int) := by
  unfold hexDg; rw [if_pos h]; simp; omega
theorem hexDg_hi (n : Nat) (h : 10 ≤ n) (h' : n < 16) : ((hexDg n).toNat : Int) = 87 + (n : Int) := by
  unfold hexDg; rw [if_neg (by omega)]; simp; omega
end Go.Proofs.Ytolofcfegoeenaa
