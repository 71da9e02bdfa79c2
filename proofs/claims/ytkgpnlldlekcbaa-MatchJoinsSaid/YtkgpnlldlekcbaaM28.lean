/- Packed texts: ReRefOne. What each of them proves stands above its theorems; the conditions stand in these. -/
import Derived.Test.YtkgpnlldlekcbaaM0
import Derived.Test.YtkgpnlldlekcbaaM1
import Derived.Test.YtkgpnlldlekcbaaM7
import Derived.Test.YtkgpnlldlekcbaaM22
namespace Go.Proofs.Ytkgpnlldlekcbaa
open Go.RowKit Go.Lib

theorem four_staysR {w w1 w2 : World} {p q r s : Value} {t : TypeId} (hw : w1 = w.alloc (.cells #[p, q, r, s] t)) (hb : Below w1.heap.size w1 w2) : w2.heap[w.heap.size]? = some (.cells #[p, q, r, s] t (0, 0)) := by
  subst hw
  exact (hb.block _ (by simp)).trans (heap_alloc_new w _)
theorem has_zeroK (d : Nat) : has zeroK d = false := by simp [has, zeroK]
set_option maxHeartbeats 1000000 in
set_option maxRecDepth 20000 in
theorem refOne_any (x : Int) (w : World) (hx0 : 0 ≤ x) (hx1 : x ≤ 255) :
    Calls Try.prog 28 #[.int .u8 x] w fun e w' => e = .returned (clsV (oneK x.toNat)) ∧ Below w.heap.size w w' := by
  have k0 := fun w => with_any zeroK x w hx0 hx1
  have e1 : clsV (addK zeroK x.toNat) = clsV (oneK x.toNat) := clsV_ext fun d hd => by
    rw [has_add, has_one, has_zeroK, Bool.false_or]
  rw [e1] at k0
  have k : ∀ w, Calls Try.prog 51 #[.agg #[.int .u64 0, .int .u64 0, .int .u64 0, .int .u64 0], .int .u8 x] w fun e w' => e = .returned (four ((oneK x.toNat 0).toNat : Int) ((oneK x.toNat 1).toNat : Int) ((oneK x.toNat 2).toNat : Int) ((oneK x.toNat 3).toNat : Int)) ∧ Below w.heap.size w w' := k0
  clear k0 e1
  rw [four_cls]
  obtain ⟨a, ha⟩ : ∃ a, a = ((oneK x.toNat 0).toNat : Int) := ⟨_, rfl⟩
  obtain ⟨b, hb⟩ : ∃ a, a = ((oneK x.toNat 1).toNat : Int) := ⟨_, rfl⟩
  obtain ⟨c, hc⟩ : ∃ a, a = ((oneK x.toNat 2).toNat : Int) := ⟨_, rfl⟩
  obtain ⟨d, hd⟩ : ∃ a, a = ((oneK x.toNat 3).toNat : Int) := ⟨_, rfl⟩
  rw [← ha, ← hb, ← hc, ← hd] at k ⊢
  clear ha hb hc hd
  unfold four at k ⊢
  go_enter Try.func28, Try.ntmps28
  go_wp2_with (first
    | (go_at_call 51; refine (k _).mono ?_; rintro en w1 ⟨rfl, hb1⟩; clear k
       have hg0 := four_staysR rfl hb1
       obtain ⟨⟨c0, c1, c2, c3⟩, f0, f1, f2, f3⟩ := res_four hg0
       have HG := Lib.hid hg0
       have H1 := Lib.hid hb1
       clear hg0 hb1))
  have hh := set_four (.int .u64 a) (.int .u64 b) (.int .u64 c) (.int .u64 d) HG.out
  have hB := below_four (((Below.refl _ w).alloc (Nat.le_refl _) _).trans (H1.out.mono (by simp))) (Nat.le_refl _) (.int .u64 a) (.int .u64 b) (.int .u64 c) (.int .u64 d)
  exact bodyPost_ret (v := .agg _) (results_cell_row (p := 2) (ty := 47) Try.results28 _ _ w.heap.size 47 _ (0, 0) _ rfl hh Try.underlying47 rfl Try.infoCls) rfl ⟨rfl, hB⟩

end Go.Proofs.Ytkgpnlldlekcbaa
