/- The document's example, as the statements ask of it. No condition. -/
import Derived.Test.YtgokkdalfkinnaaReText
import Derived.Test.YtgokkdalfkinnaaReBack
namespace Go.Proofs.Ytgokkdalfkinnaa
open Go.RowKit Go.Lib

def tShown : Tr := .two 3 (.set (k4 (oneK 97))) (.rep 4 (.set (k4 (oneK 98))))
theorem shown_reads : Reads [97, 124, 98, 42] (.ok tShown []) := by
  have h1 : listD [97, 124, 98, 42] = some (k4 (oneK 97), 1) := plain_list 97 [124, 98, 42]
  have h2 : listD [98, 42] = some (k4 (oneK 98), 1) := plain_list 98 [42]
  have a1 : Ev .atom 0 0 [97, 124, 98, 42] (.ok (.set (k4 (oneK 97))) [124, 98, 42]) := .atom_set (by decide) rfl h1 (by omega)
  have a2 : Ev .atom 0 1 [98, 42] (.ok (.set (k4 (oneK 98))) [42]) := .atom_set (by decide) rfl h2 (by omega)
  have p1 : Ev .cat 0 0 [97, 124, 98, 42] (.ok (.set (k4 (oneK 97))) [124, 98, 42]) := .cat_ok rfl (.piece_ok a1 (.pieceL_end rfl)) (.catL_end rfl)
  have p2 : Ev .cat 0 1 [98, 42] (.ok (.rep 4 (.set (k4 (oneK 98)))) []) := .cat_ok rfl (.piece_ok a2 (.pieceL_more (j := 4) rfl (by decide) (.pieceL_end rfl))) (.catL_end rfl)
  exact .ok (.all_ok p1 (.allL_more (a := .set (k4 (oneK 97))) p2 (by decide) (.allL_end (by simp))))
theorem shown_txt : tShown.txt = [97, 124, 98, 42] := by
  have e1 : toldK (k4 (oneK 97)) = [97] := (told_one 97).trans rfl
  have e2 : toldK (k4 (oneK 98)) = [98] := (told_one 98).trans rfl
  show toldK (k4 (oneK 97)) ++ 124 :: brk false (brk false (toldK (k4 (oneK 98))) ++ [signL 4]) = _
  rw [e1, e2]
  rfl
theorem run_eql_two (a b c d : Int) (w : World) : (binOp .eql 44 (.agg #[.int .i64 a, .int .i64 b]) (.agg #[.int .i64 c, .int .i64 d])).run Try.prog w = .ok (.bool (a == c && b == d)) w := by
  rw [run_eql_struct, eql_two]
  rfl

set_option maxHeartbeats 1000000 in
set_option maxRecDepth 20000 in
theorem shownRe_any (w : World) : Calls Try.prog 9 #[] w fun e w' => e = .returned (.bool true) ∧ Below w.heap.size w w' := by
  have k1 : ∀ w, Calls Try.prog 10 #[.string ⟨#[97, 124, 98, 42]⟩] w fun e w' => ReadP w.heap.size (.ok tShown []) e w' ∧ Below w.heap.size w w' := fun w => readRe_any [97, 124, 98, 42] _ w (by decide) shown_reads
  have e2 := run_eql_two 0 2 0 2
  have k3 : ∀ (v : Value) (w : World), Lies v (tShown.row 0) w → Calls Try.prog 19 #[v] w fun e w' => e = .returned (.string ⟨#[97, 124, 98, 42]⟩) ∧ Below w.heap.size w w' := fun v w h => by
    have hh := textRe_any v tShown w ⟨.inr rfl, trivial, .inl rfl, trivial⟩ (by decide) h (right_row tShown ⟨.inr rfl, trivial, .inl rfl, trivial⟩ (by decide))
    rwa [shown_txt] at hh
  unfold ReadP at k1
  go_enter Try.func9, Try.ntmps9
  go_wp2_with (first
    | (go_at_call 10; refine (k1 _).mono ?_; rintro e w1 ⟨⟨v, rfl, hrow⟩, hb1⟩
       have hL := hrow.lies (by decide)
       obtain ⟨ao, cap, hv⟩ := isRow_slice hrow
       have hv4 : v = .slice ao 4 cap := hv
       subst hv4
       obtain ⟨b, o, rfl, _, n2⟩ := hL.at (j := 2) (n := ⟨4, k0, 1, 0⟩) rfl
       obtain ⟨b', o', hbo, _, n3⟩ := hL.at (j := 3) (n := ⟨3, k0, 0, 2⟩) rfl
       cases hbo
       have c0 := n2.1
       have c1 := n3.1
       have c2 := n3.2.2.2.2.2.1
       have c3 := n3.2.2.2.2.2.2
       have HL := Lib.hid hL
       clear hv hL hrow n2 n3)
    | (go_at_call 19; refine (k3 _ _ HL.out).mono ?_; rintro e w2 ⟨rfl, hb2⟩)
    | fail)
  exact bodyPost_ret (results_tmp rfl _ _ _) rfl ⟨rfl, hb1.trans (hb2.mono hb1.size)⟩
end Go.Proofs.Ytgokkdalfkinnaa
