/- Packed texts: ClsLeaf, ClsCalls. What each of them proves stands above its theorems; the conditions stand in these. -/
import Derived.BigQuiet
import Derived.Deep.QuietTactic
import Derived.Laws.Rows
import Derived.Lib.Hide
import Derived.LoopN
import Derived.WalkLawsBesides
import Derived.WalkSpells
import Derived.Test.YtkgpnlldlekcbaaM0
namespace Go.Proofs.Ytkgpnlldlekcbaa
open Go.RowKit

/-- The four words' cells. -/
def four (a b c d : Int) : Value := .agg #[.int .u64 a, .int .u64 b, .int .u64 c, .int .u64 d]
theorem four_cls (k : Cl) : clsV k = four ((k 0).toNat : Int) ((k 1).toNat : Int) ((k 2).toNat : Int) ((k 3).toNat : Int) := rfl

theorem has_word (y : BitVec 64) (x : Int) (hx0 : 0 ≤ x) : (bits BinOp.and IntKind.u64 ((y.toNat : Int) / 2 ^ (x % 64).toNat) 1 == 1) = y.getLsbD (x.toNat % 64) := by
  have e1 : ((y.toNat : Int) / 2 ^ (x % 64).toNat) = ((y >>> (x.toNat % 64)).toNat : Int) := by
    rw [BitVec.toNat_ushiftRight, Nat.shiftRight_eq_div_pow, show (x % 64).toNat = x.toNat % 64 by omega]
    simp
  have e2 : (1 : Int) = ((1#64).toNat : Int) := rfl
  rw [e1, e2, and_wd]
  rw [← BitVec.testBit_toNat, Nat.testBit_eq_decide_div_mod_eq, BitVec.toNat_and, BitVec.toNat_ushiftRight, Nat.shiftRight_eq_div_pow]
  rw [show (1#64).toNat = 1 from rfl, Nat.and_one_is_mod]
  have e : ∀ n : Nat, ((n : Int) == ((1 : Nat) : Int)) = decide (n = 1) := fun n => by
    rw [Bool.eq_iff_iff]
    simp
    omega
  rw [e]
set_option maxHeartbeats 400000 in
set_option maxRecDepth 20000 in
theorem has_any (k : Cl) (x : Int) (w : World) (hx0 : 0 ≤ x) (hx1 : x ≤ 255) :
    Calls Try.prog 100 #[clsV k, .int .u8 x] w fun e w' => e = .returned (.bool (has k x.toNat)) ∧ Below w.heap.size w w' := by
  obtain ⟨q, hq⟩ : ∃ q, q = x / 64 := ⟨_, rfl⟩
  have hq4 : q = 0 ∨ q = 1 ∨ q = 2 ∨ q = 3 := by omega
  obtain ⟨r, hr⟩ : ∃ r : Bool, r = has k x.toNat := ⟨_, rfl⟩
  have HR := Lib.hid hr
  rw [← hr]
  unfold clsV clsA wd
  rcases hq4 with h | h | h | h
  all_goals
    rw [h] at hq
    have hq' := hq.symm
    have hn : x.toNat / 64 = q.toNat := by omega
    rw [h] at hn
    have HN := Lib.hid hn
    clear hq hn hr
    go_enter Try.func100, Try.ntmps100
    go_wp2
    go_ret
    refine ⟨?_, (Below.refl _ w).alloc (Nat.le_refl _) _⟩
    rw [HR.out]
    show Ending.returned (.bool _) = Ending.returned (.bool _)
    rw [has_word _ _ hx0]
    unfold has
    rw [HN.out]
    rfl

theorem ret_four {a b c d a' b' c' d' : Int} (h1 : a = a') (h2 : b = b') (h3 : c = c') (h4 : d = d') :
    Ending.returned (.agg #[.int .u64 a, .int .u64 b, .int .u64 c, .int .u64 d]) = Ending.returned (.agg #[.int .u64 a', .int .u64 b', .int .u64 c', .int .u64 d']) := by rw [h1, h2, h3, h4]
end Go.Proofs.Ytkgpnlldlekcbaa
namespace Go.Proofs.Ytkgpnlldlekcbaa
open Go.RowKit

/-- A block of four cells written over. -/
theorem set_four {w : World} {g : Nat} {t : TypeId} {p q r s : Value} (a b c d : Value) (h : w.heap[g]? = some (.cells #[p, q, r, s] t (0, 0))) :
    ((((w.setCell ⟨g, 0, none⟩ a).setCell ⟨g, 1, none⟩ b).setCell ⟨g, 2, none⟩ c).setCell ⟨g, 3, none⟩ d).heap[g]? = some (.cells #[a, b, c, d] t (0, 0)) := by
  have h1 := heap_setCell_same w g 0 _ _ a h
  have h2 := heap_setCell_same _ g 1 _ _ b h1
  have h3 := heap_setCell_same _ g 2 _ _ c h2
  exact heap_setCell_same _ g 3 _ _ d h3
theorem below_four {B g : Nat} {a w : World} (h : Below B a w) (hB : B ≤ g) (p q r s : Value) : Below B a ((((w.setCell ⟨g, 0, none⟩ p).setCell ⟨g, 1, none⟩ q).setCell ⟨g, 2, none⟩ r).setCell ⟨g, 3, none⟩ s) :=
  (((h.setCell (p := ⟨g, 0, none⟩) hB _).setCell (p := ⟨g, 1, none⟩) hB _).setCell (p := ⟨g, 2, none⟩) hB _).setCell (p := ⟨g, 3, none⟩) hB _
theorem Try.infoCls : (Try.prog.info? 47).map (·.size) = some 4 := by kernel_rfl

theorem res_four {w : World} {g : Nat} {t : TypeId} {p q r s : Value} (h : w.heap[g]? = some (.cells #[p, q, r, s] t (0, 0))) :
    (w.cell? ⟨g, 0, none⟩ = some p ∧ w.cell? ⟨g, 1, none⟩ = some q ∧ w.cell? ⟨g, 2, none⟩ = some r ∧ w.cell? ⟨g, 3, none⟩ = some s) ∧
    (w.frozen? ⟨g, 0, none⟩ = false ∧ w.frozen? ⟨g, 1, none⟩ = false ∧ w.frozen? ⟨g, 2, none⟩ = false ∧ w.frozen? ⟨g, 3, none⟩ = false) :=
  ⟨⟨cell_of_row w g 0 _ _ _ h, cell_of_row w g 1 _ _ _ h, cell_of_row w g 2 _ _ _ h, cell_of_row w g 3 _ _ _ h⟩,
    frozen_of_row w g 0 _ _ h, frozen_of_row w g 1 _ _ h, frozen_of_row w g 2 _ _ h, frozen_of_row w g 3 _ _ h⟩
end Go.Proofs.Ytkgpnlldlekcbaa
