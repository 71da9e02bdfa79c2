/- A numeral's number: its figures, filled up with noughts to six behind the point, read as one whole number. Conditions: the parts are figures; the text is shorter than 2^46. -/
import Derived.Test.YtokfkckfclnoaaaDoorDecFindAny
import Derived.Test.YtokfkckfclnoaaaDoorDecArith
import Derived.Test.YtokfkckfclnoaaaDoorHexWhole
import Derived.Test.YtokfkckfclnoaaaDoorDecParse
namespace Go.Proofs.YtokfkckfclnoaaaDoor
open Go.RowKit

theorem number_walk (sg wh fr tp rs : ByteArray) (u a b c : Int) (R : Ending) (w : World) (h1 : fr.size + 6 ≤ 9223372036854775807) (h2 : tp.size + wh.size ≤ 9223372036854775807) (h3 : tp.size + wh.size + rs.size ≤ 9223372036854775807)
    (hrs : (fr ++ ⟨#[48, 48, 48, 48, 48, 48]⟩).extract 0 6 = rs)
    (k1 : ∀ w, Calls Tryd.prog 84 #[.string sg, .string ⟨#[43]⟩] w fun e w' => e = .returned (.string tp) ∧ w' = w)
    (k2 : ∀ w, Calls Tryd.prog 83 #[.string (tp ++ wh ++ rs)] w fun e w' => e = .returned (.tuple #[.int .i64 a, .int .i64 b, .int .i64 c]) ∧ w = w')
    (hR : Hid (R = if c = 0 then .returned (.int .i64 a) else .panicked [{ v := .iface 23 (.int .i64 c), recovered := false }])) :
    Calls Tryd.prog 48 #[.agg #[.string sg, .string wh, .string fr, .int .i64 u]] w fun e w' => e = R ∧ Below w.heap.size w w' := by
  have n1 : ¬ 9223372036854775807 < fr.size + 6 := by omega
  have n2 : ¬ 9223372036854775807 < tp.size + wh.size := by omega
  have n3 : ¬ 9223372036854775807 < tp.size + wh.size + rs.size := by omega
  have n4 : (6 : Int) ≤ (fr.size : Int) + 6 := by omega
  by_cases hc : c = 0
  · subst hc
    have HR0 : Hid (Ending.returned (.int .i64 a) = R) := (hR.out.trans (if_pos rfl)).symm
    clear hR
    go_enter Tryd.func48, Tryd.ntmps48
    go_wp2_with fail
    go_region_law (first | (go_simp; go_at_call 84; refine (k1 _).mono ?_; rintro e w2 ⟨rfl, rfl⟩) | (go_simp; go_at_call 83; refine (k2 _).mono ?_; rintro e w2 ⟨rfl, rfl⟩))
    all_goals
      go_wp2
      go_ret
      exact ⟨HR0.out, ((Below.refl _ w).alloc (Nat.le_refl _) _).drew⟩
  · have hcb : ((c : Int) == 0) = false := beq_eq_false_iff_ne.2 hc
    have HR0 : Hid (Ending.panicked [{ v := .iface 23 (.int .i64 c), recovered := false }] = R) := (hR.out.trans (if_neg hc)).symm
    clear hR
    go_enter Tryd.func48, Tryd.ntmps48
    go_wp2_with fail
    go_region_law (first | (go_simp; go_at_call 84; refine (k1 _).mono ?_; rintro e w2 ⟨rfl, rfl⟩) | (go_simp; go_at_call 83; refine (k2 _).mono ?_; rintro e w2 ⟨rfl, rfl⟩))
    all_goals
      go_wp2
      exact ⟨rfl, HR0.out, ((Below.refl _ w).alloc (Nat.le_refl _) _).drew⟩

theorem whole_figs (D : List UInt8) (h : D.all isFig = true) (hn : D ≠ []) : wholeD D = if natOf D ≤ 9223372036854775807 then ((natOf D : Int), (D.length : Int), 0) else (0, 0, 3) := by
  have hneg : isNeg D = false := by
    cases D with
    | nil => rfl
    | cons c r =>
      simp only [List.all_cons, Bool.and_eq_true] at h
      unfold isNeg
      simp only [List.head?_cons]
      cases hb : (some c == some (45 : UInt8)) with
      | false => rfl
      | true =>
        have : c = 45 := by simpa using hb
        rw [this] at h
        exact absurd h.1 (by decide)
  have ha : afterSign D = D := by unfold afterSign; rw [if_neg (by rw [hneg]; simp)]
  unfold wholeD
  rw [ha, figs_all D h, if_neg hn, if_neg (by rw [hneg]; simp)]
theorem whole_neg_figs (D : List UInt8) (h : D.all isFig = true) (hn : D ≠ []) : wholeD (45 :: D) = if natOf D ≤ 9223372036854775808 then (-(natOf D : Int), (D.length : Int) + 1, 0) else (0, 0, 3) := by
  have hneg : isNeg (45 :: D) = true := rfl
  have ha : afterSign (45 :: D) = D := by unfold afterSign; rw [if_pos hneg]; rfl
  unfold wholeD
  rw [ha, figs_all D h, if_neg hn, if_pos hneg]
theorem zeros_all : zeros6.all isFig = true := by decide
theorem take_all {l : List UInt8} (h : l.all isFig = true) (n : Nat) : (l.take n).all isFig = true := by
  rw [List.all_eq_true] at h ⊢
  exact fun x hx => h x (List.mem_of_mem_take hx)

theorem number_any (sg wh fr : List UInt8) (u : Int) (w : World) (hsg : sg = [] ∨ sg = [45] ∨ sg = [43]) (hw : wh.all isFig = true) (hf : fr.all isFig = true) (hl : wh.length ≤ 60000000000000) (hl2 : fr.length ≤ 60000000000000) :
    Calls Tryd.prog 48 #[.agg #[.string (ba sg), .string (ba wh), .string (ba fr), .int .i64 u]] w fun e w' => e = deedOf (sgn (sg == [45]) (natOf (wh ++ (fr ++ zeros6).take 6))) ∧ Below w.heap.size w w' := by
  have hD : (wh ++ (fr ++ zeros6).take 6).all isFig = true := by
    rw [List.all_append, hw, take_all (by rw [List.all_append, hf, zeros_all]; rfl)]; rfl
  have h6 : ((fr ++ zeros6).take 6).length = 6 := by rw [List.length_take, List.length_append]; show min 6 (fr.length + 6) = 6; omega
  have hne : wh ++ (fr ++ zeros6).take 6 ≠ [] := by
    intro h
    have := congrArg List.length h
    rw [List.length_append, h6, List.length_nil] at this
    omega
  obtain ⟨tp, htp⟩ : ∃ tp : List UInt8, tp = if sg = [45] then [45] else [] := ⟨_, rfl⟩
  have htl : tp.length ≤ 1 := by rw [htp]; split <;> simp
  have k1 : ∀ w, Calls Tryd.prog 84 #[.string (ba sg), .string ⟨#[43]⟩] w fun e w' => e = .returned (.string (ba tp)) ∧ w' = w := by
    intro w
    refine (Tryd.strings_TrimPrefix (ba sg) ⟨#[43]⟩ w).mono fun e w' h => ⟨h.1.trans ?_, h.2⟩
    rcases hsg with rfl | rfl | rfl
    · rw [htp]; rfl
    · rw [htp]; rfl
    · rw [htp]; rfl
  have hT : ba tp ++ ba wh ++ ba ((fr ++ zeros6).take 6) = ba (tp ++ (wh ++ (fr ++ zeros6).take 6)) := by rw [ba_append, ba_append, List.append_assoc]
  have hTs : (ba (tp ++ (wh ++ (fr ++ zeros6).take 6))).size ≤ 70000000000000 := by
    rw [ba_len, List.length_append, List.length_append, h6]; omega
  have k2 := fun w => whole_any (ba (tp ++ (wh ++ (fr ++ zeros6).take 6))) w hTs
  rw [ba_list] at k2
  unfold wholeE at k2
  refine number_walk (ba sg) (ba wh) (ba fr) (ba tp) (ba ((fr ++ zeros6).take 6)) u (wholeD (tp ++ (wh ++ (fr ++ zeros6).take 6))).1 (wholeD (tp ++ (wh ++ (fr ++ zeros6).take 6))).2.1 (wholeD (tp ++ (wh ++ (fr ++ zeros6).take 6))).2.2 _ w
    (by rw [ba_len]; omega) (by rw [ba_len, ba_len]; omega) (by rw [ba_len, ba_len, ba_len, h6]; omega) ?_ k1 (by rw [hT]; exact k2) ?_
  · refine ba_ext ?_
    rw [cut_front, ByteArray.data_append, Array.toList_append]
    rfl
  · show _ = _
    generalize wh ++ (fr ++ zeros6).take 6 = D at *
    by_cases h45 : sg = [45]
    · have ht : tp = [45] := by rw [htp, if_pos h45]
      have hs : (sg == [45]) = true := by rw [h45]; rfl
      rw [ht, hs, List.singleton_append, whole_neg_figs D hD hne]
      have hx : sgn true (natOf D) = -(natOf D : Int) := rfl
      rw [hx]
      by_cases h : natOf D ≤ 9223372036854775808
      · rw [if_pos h, deedOf_in (by omega)]; rfl
      · rw [if_neg h, deedOf_out (by omega)]; rfl
    · have ht : tp = [] := by rw [htp, if_neg h45]
      have hs : (sg == [45]) = false := by
        rcases hsg with rfl | rfl | rfl
        · rfl
        · exact absurd rfl h45
        · rfl
      rw [ht, hs, List.nil_append, whole_figs D hD hne]
      have hx : sgn false (natOf D) = (natOf D : Int) := rfl
      rw [hx]
      by_cases h : natOf D ≤ 9223372036854775807
      · rw [if_pos h, deedOf_in (by omega)]; rfl
      · rw [if_neg h, deedOf_out (by omega)]; rfl
end Go.Proofs.YtokfkckfclnoaaaDoor
