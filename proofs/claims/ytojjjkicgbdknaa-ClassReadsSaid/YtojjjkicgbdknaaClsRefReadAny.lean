/- The document's own reading of a class, at every text. No condition. -/
import Derived.Test.YtojjjkicgbdknaaClsRefRead
namespace Go.Proofs.Ytojjjkicgbdknaa
open Go.RowKit Go.Lib

set_option maxHeartbeats 1000000 in
theorem refRead_short (s : ByteArray) (w : World) (hs : s.size < 2) :
    Calls Try.prog 11 #[.string s] w fun e w' => e = readE none ∧ Below w.heap.size w w' := by
  have hh := heap_alloc_new w (.cells #[.int .u64 0, .int .u64 0, .int .u64 0, .int .u64 0] 30)
  have HH := Lib.hid hh
  clear hh
  go_enter Try.func11, Try.ntmps11
  go_wp2
  exact bodyPost_ret (v := .tuple #[clsV zeroK, .int .i64 0, .int .i64 2]) (results_row_tmp2 (p := 2) (u := 3) (v := 4) (ty := 30) Try.results11 _ _ w.heap.size _ rfl (load_cls2 HH.out rfl)) rfl ⟨rfl, (Below.refl _ w).alloc (Nat.le_refl _) _⟩
set_option maxHeartbeats 1000000 in
theorem refRead_other (s : ByteArray) (w : World) (hs0 : 0 < s.size) (x0 : ((s[0].toNat : Int) != 91) = true) :
    Calls Try.prog 11 #[.string s] w fun e w' => e = readE none ∧ Below w.heap.size w w' := by
  have hh := heap_alloc_new w (.cells #[.int .u64 0, .int .u64 0, .int .u64 0, .int .u64 0] 30)
  have HH := Lib.hid hh
  clear hh
  by_cases h2 : s.size < 2
  · exact refRead_short s w h2
  · go_enter Try.func11, Try.ntmps11
    go_wp2
    exact bodyPost_ret (v := .tuple #[clsV zeroK, .int .i64 0, .int .i64 2]) (results_row_tmp2 (p := 2) (u := 3) (v := 4) (ty := 30) Try.results11 _ _ w.heap.size _ rfl (load_cls2 HH.out rfl)) rfl ⟨rfl, (Below.refl _ w).alloc (Nat.le_refl _) _⟩

theorem refRead_any (s : ByteArray) (w : World) (hs : s.size ≤ 70000000000000) :
    Calls Try.prog 11 #[.string s] w fun e w' => e = readE (readD s.data.toList) ∧ Below w.heap.size w w' := by
  have hlen : s.data.toList.length = s.size := by rw [Array.length_toList]; rfl
  by_cases h2 : s.size < 2
  · have hD : readD s.data.toList = none := by
      cases hl : s.data.toList with
      | nil => rfl
      | cons c r =>
        rw [hl, List.length_cons] at hlen
        obtain rfl : r = [] := List.eq_nil_of_length_eq_zero (by omega)
        unfold readD
        split
        · rw [if_neg (by simp)]
          rw [List.drop_succ_cons, List.drop_zero, listed_none rfl]
        · rfl
    rw [hD]
    exact refRead_short s w h2
  · have hs0 : 0 < s.size := by omega
    have hs1 : 1 < s.size := by omega
    have a0 : s.data.toList.head? = some s[0] := by rw [List.head?_eq_getElem?]; exact List.getElem?_eq_getElem (by rw [hlen]; exact hs0)
    have a1 : s.data.toList[1]? = some s[1] := List.getElem?_eq_getElem (by rw [hlen]; exact hs1)
    by_cases h91 : s[0] = 91
    · have x0 : ((s[0].toNat : Int) != 91) = false := by rw [h91]; rfl
      by_cases h94 : s[1] = 94
      · refine refRead_walk s true _ (listedD (s.data.toList.drop 2) zeroK 2) 2 w hs hs0 hs1 x0 (by rw [h94]; rfl) rfl rfl (fun h => ?_) (fun K n h => ?_)
        all_goals
          unfold readD
          rw [if_pos (a0.trans (by rw [h91])), if_pos (a1.trans (by rw [h94])), h] <;> rfl
      · have x1 : ((s[1].toNat : Int) == 94) = false := by
          rw [beq_eq_false_iff_ne]
          intro h
          exact h94 (UInt8.toNat_inj.1 (by show s[1].toNat = 94; omega))
        refine refRead_walk s false _ (listedD (s.data.toList.drop 1) zeroK 1) 1 w hs hs0 hs1 x0 x1 rfl rfl (fun h => ?_) (fun K n h => ?_)
        all_goals
          unfold readD
          rw [if_pos (a0.trans (by rw [h91])), if_neg (by rw [a1]; intro h; exact h94 (Option.some.inj h)), h] <;> rfl
    · have x0 : ((s[0].toNat : Int) != 91) = true := by
        rw [bne_iff_ne]
        intro h
        exact h91 (UInt8.toNat_inj.1 (by show s[0].toNat = 91; omega))
      have hD : readD s.data.toList = none := by
        unfold readD
        rw [if_neg (by rw [a0]; intro h; exact h91 (Option.some.inj h))]
      rw [hD]
      exact refRead_other s w hs0 x0
end Go.Proofs.Ytojjjkicgbdknaa
