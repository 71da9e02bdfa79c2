/- Package match's farthest, walked. Conditions: 2000 nodes, 1000000 bytes. -/
import Derived.Test.YtolofcfegoeenaaMaFar
namespace Go.Proofs.Ytolofcfegoeenaa
open Go.RowKit Go.Lib

/-- The greatest ends from a place on. -/
def FarFrom (s : List UInt8) (T : Tr) (k : Nat) (G : Nat → Int) : Prop :=
  ∀ b : Nat, k ≤ b → b ≤ s.length → (G b = -1 ∧ ∀ a : Nat, a ≤ s.length → ¬ St s T b a) ∨ ∃ a : Nat, a ≤ s.length ∧ G b = a ∧ St s T b a ∧ ∀ a' : Nat, a < a' → a' ≤ s.length → ¬ St s T b a'
theorem FarOk.from_ {s : List UInt8} {T : Tr} {e : Int} {k : Nat} {G : Nat → Int} (h : FarOk s T e G) (hk : e < (k : Int)) : FarFrom s T k G := fun b h1 h2 => by
  rcases h b with ⟨g1, g2⟩ | ⟨a, g1, g2, g3, g4, g5⟩
  · refine .inl ⟨g1, fun a ha hs => g2 a ?_ ha hs⟩
    have := St.le s T b a hs
    omega
  · exact .inr ⟨a, g2, g3, g4, g5⟩
set_option maxHeartbeats 8000000 in
set_option maxRecDepth 20000 in
theorem far_any (b o cap : Nat) (T : Tr) (ts : List Nd) (s : ByteArray) (k : Nat) (w : World) (hts : ts = T.row 0) (hok : T.ok) (hsz : ts.length ≤ 2000) (hs : s.size ≤ 1000000) (hL : Lies (.slice (some ⟨b, o, none⟩) ts.length cap) ts w) :
    Calls Try.prog 76 #[.slice (some ⟨b, o, none⟩) ts.length cap, .string s, .int .i64 (k : Int)] w fun e w' => ∃ hr G, e = .returned (.slice (some ⟨hr, 0, none⟩) (s.size + 1) (s.size + 1)) ∧ w.heap.size ≤ hr ∧ w'.heap[hr]? = some (.cells ⟨intC s.size G⟩ 3 (0, 0)) ∧ FarFrom s.data.toList T k G ∧ Below w.heap.size w w' := by
  have hbw : b < w.heap.size := by
    obtain ⟨b', o', h1, h2, _⟩ := hL.at (List.getElem?_eq_getElem (by rw [hts, Tr.row_length]; exact T.size_pos))
    cases h1
    exact h2
  have hlen : s.data.toList.length = s.size := Array.length_toList
  have hNw : IntKind.i64.wrap ((s.size : Int) + 1) = ((s.size + 1 : Nat) : Int) := by rw [IntWalk.i64_in _ (by omega)]; omega
  obtain ⟨N, hN⟩ : ∃ N, N = s.size + 1 := ⟨_, rfl⟩
  rw [← hN] at hNw ⊢
  have hT : Tree ts (upT T) T := by rw [hts]; exact tree_of T hok
  have hst : ∀ (a : Addr) (fn : Fn) (x y : Array Value) (m : Mode) (w : World), (store a (.func fn x y) m).run Try.prog w = stored Try.prog w a (.func fn x y) m := fun a fn x y m w => run_store Try.prog w a (.func fn x y) m rfl
  have hmf : ∀ (fn : Fn) (first cap : Array Value) (w : World), (Instr.makeFunc fn first cap).run Try.prog w = .ok (.func fn first cap) w := fun _ _ _ _ => rfl
  have krep := repeat_any w.heap.size (-1) N (w.alloc (.cells #[.int .i64 (-1)] 3)) (by omega) (by omega) (by rw [cell_of_heap (heap_alloc_new w _)]; rfl)
  have kr := fun (w : World) (h : Lies (.slice (some ⟨b, o, none⟩) ts.length cap) ts w) => reacher_any b o cap T ts s true w hts hok hsz hs h
  have hb0 : Below w.heap.size w (w.alloc (.cells #[.int .i64 (-1)] 3)) := (Below.refl _ _).alloc (Nat.le_refl _) _
  have H0 := Lib.hid (And.intro hN (And.intro hT (And.intro hs (And.intro hbw (And.intro hL (And.intro hlen hb0))))))
  clear hN hT hs hbw hL hlen hb0 hts hok hsz
  go_enter Try.func76, Try.ntmps76
  go_wp2_with (first
    | (go_at_call 97; refine krep.mono ?_; rintro e w2 ⟨rfl, hr2, hb2⟩
       rw [World.size_alloc] at hr2 ⊢
       have hb2' : Below w.heap.size w w2 := H0.out.2.2.2.2.2.2.trans (hb2.mono (by simp))
       have hz2 : w.heap.size + 1 < w2.heap.size := block_lt hr2
       have hL2 := H0.out.2.2.2.2.1.below (hb2'.alloc (by omega) (.cells #[.slice (some ⟨w.heap.size + 1, 0, none⟩) N N] 42))
       have H2 := Lib.hid (And.intro hr2 (And.intro hb2' hz2))
       clear krep hr2 hb2 hb2' hz2)
    | (go_at_call 57; refine (kr _ hL2).mono ?_; rintro e w3 ⟨c, hcB, hcb, hcs, hb3, rfl, hE, hM⟩
       have H3 := Lib.hid (And.intro hcB (And.intro hcb (And.intro hcs (And.intro hb3 (And.intro hE hM)))))
       clear kr hL2 hcB hcb hcs hb3 hE hM)
    | fail)
  obtain ⟨hN, hT, hs, hbw, -, hlen, -⟩ := H0.out
  obtain ⟨hr2, hb2, hz2⟩ := H2.out
  obtain ⟨hcB, hcb, hcs, hb3, hE, hM⟩ := H3.out
  have hcB2 : c.B = w2.heap.size + 1 := by rw [hcB]; simp
  have hlt2 : w2.heap.size < w3.heap.size := by have := hb3.size; simp at this; omega
  have hbw2 : Below w.heap.size w w3 := (hb2.alloc (by omega) _).trans (hb3.mono (by simp; omega))
  have hne7 : c.bw < w3.heap.size ∧ c.bu < w3.heap.size ∧ c.bm < w3.heap.size ∧ c.bn < w3.heap.size ∧ c.bp < w3.heap.size ∧ c.bl < w3.heap.size := ⟨block_lt hE.wk, block_lt hE.up, block_lt hE.bm, block_lt hE.bn, block_lt hE.bp, block_lt hE.bl⟩
  have hba : Below w3.heap.size w3 (w3.alloc (.cells #[.int .i64 (s.size : Int)] 3)) := (Below.refl _ _).alloc (Nat.le_refl _) _
  have hfb : w3.heap[w2.heap.size]? = some (.cells #[.slice (some ⟨w.heap.size + 1, 0, none⟩) N N] 42 (0, 0)) := (hb3.block _ (by simp)).trans (heap_alloc_new w2 _)
  have hrw : w3.heap[w.heap.size + 1]? = some (.cells ⟨List.replicate N (Value.int .i64 (-1))⟩ 3 (0, 0)) := (hb3.block _ (by simp; omega)).trans ((Below.heap_alloc _ _ _ (by omega)).trans hr2)
  have hS0 : FarS c w.heap.size w3.heap.size w2.heap.size (w.heap.size + 1) s ts T w (s.size : Int) (fun _ _ => false) (fun _ => -1) (w3.alloc (.cells #[.int .i64 (s.size : Int)] 3)) := by
    refine ⟨hE.kept (Kept.of_below hba (by omega)), hM.below hba, ⟨heap_alloc_new w3 _, ?_, ?_, hbw2.alloc (by omega) _⟩, fun b => .inl ⟨rfl, fun a h1 h2 => by omega⟩, ⟨fun _ _ h => Bool.noConfusion h, fun a h1 h2 => by omega, fun _ _ _ _ _ h => Bool.noConfusion h⟩, by omega⟩
    · rw [← hN]; exact (hba.block _ hlt2).trans hfb
    · rw [← intC_rep, ← hN]; exact (hba.block _ (by omega)).trans hrw
  have HS0 := Lib.hid hS0
  have HQ := Lib.hid (And.intro hcB2 (And.intro hlt2 (And.intro hne7 (And.intro hz2 (And.intro hbw (And.intro hcb (And.intro hcs (And.intro hT (And.intro hN (And.intro hlen hs))))))))))
  clear hN hT hs hbw hlen hr2 hb2 hz2 hcB hcb hcs hb3 hE hM hcB2 hlt2 hbw2 hne7 hba hfb hrw hS0
  go_loopg [] (s.size + 1) (fun m wr => Hid (∃ (e : Int) (M : Nat → Nat → Bool) (G : Nat → Int), FarS c w.heap.size w3.heap.size w2.heap.size (w.heap.size + 1) s ts T w e M G wr ∧ m = (e + 1).toNat))
  case atStart => exact ⟨_, _, _, HS0.out, by omega⟩
  case round =>
    obtain ⟨e, M, G, h, hm⟩ := hrel.out
    obtain ⟨hcB2, hlt2, hne7, hz2, hbw, hcb, hcs, hT, hN, hlen, hs⟩ := HQ.out
    have ce : wr.cell? ⟨w3.heap.size, 0, none⟩ = some (.int .i64 e) := by rw [cell_of_heap h.at_.ebox]; rfl
    have hle := h.le
    by_cases hge : (k : Int) ≤ e
    · obtain ⟨e', rfl⟩ : ∃ e' : Nat, e = (e' : Int) := ⟨e.toNat, by omega⟩
      have kc := far_call hT hcs (by omega) (by omega) (by omega) (by omega) (by omega) (by omega) h
      have hI : IntKind.i64.wrap ((e' : Int) - 1) = (e' : Int) - 1 := IntWalk.i64_in _ (by omega)
      have HH := Lib.hid h
      have HM := Lib.hid hm
      clear h hm hrel hcB2 hlt2 hne7 hz2 hbw hcb hcs hT hN hlen hs
      go_wp2_with (first
        | (go_at_call 82; refine kc.mono ?_; rintro en w5 ⟨rfl, M', G', hE5, hM5, hA5, hO5, hI5⟩
           have ce5 : w5.cell? ⟨w3.heap.size, 0, none⟩ = some (.int .i64 (e' : Int)) := by rw [cell_of_heap hA5.ebox]; rfl
           have fe5 : w5.frozen? ⟨w3.heap.size, 0, none⟩ = false := frozen_of_heap hA5.ebox 0
           have H5 := Lib.hid (And.intro hE5 (And.intro hM5 (And.intro hA5 (And.intro hO5 hI5))))
           clear kc ce hE5 hM5 hA5 hO5 hI5)
        | fail)
      go_roundg e'
      case rel =>
        obtain ⟨hE5, hM5, hA5, hO5, hI5⟩ := H5.out
        obtain ⟨hcB2, hlt2, hne7, hz2, hbw, hcb, hcs, hT, hN, hlen, hs⟩ := HQ.out
        have hsame : ∀ j, j ≠ w3.heap.size → (w5.setCell ⟨w3.heap.size, 0, none⟩ (.int .i64 ((e' : Int) - 1))).heap[j]? = w5.heap[j]? := fun j hj => Below.heap_setCell _ _ _ _ hj
        refine ⟨(e' : Int) - 1, M', G', ⟨hE5.end (he := w3.heap.size) (by omega) hsame, hM5.end hA5.ebox hsame, ⟨?_, (hsame _ (by omega)).trans hA5.fbox, (hsame _ (by omega)).trans hA5.row, hA5.low.setCell (p := ⟨w3.heap.size, 0, none⟩) (by dsimp only; omega) _⟩, hO5, hI5, by omega⟩, by omega⟩
        have h := heap_setCell_same w5 w3.heap.size 0 _ _ (Value.int .i64 ((e' : Int) - 1)) hA5.ebox
        simpa using h
      case measure => have := HM.out; omega
    · have cf : wr.cell? ⟨w2.heap.size, 0, none⟩ = some (.slice (some ⟨w.heap.size + 1, 0, none⟩) N N) := by rw [cell_of_heap h.at_.fbox, hN]; rfl
      have HH := Lib.hid h
      clear h hm hrel hcB2 hlt2 hne7 hz2 hbw hcb hcs hT hN hlen hs
      go_wp2
      exact bodyPost_ret (results_tmp rfl _ _ _) rfl (by first | exact ⟨_, G, rfl, by omega, HH.out.at_.row, HH.out.ok.from_ (by omega), HH.out.at_.low⟩ | exact ⟨_, rfl, by omega, G, HH.out.at_.row, HH.out.ok.from_ (by omega), HH.out.at_.low⟩ | exact ⟨_, rfl, by omega, ⟨G, HH.out.at_.row, HH.out.ok.from_ (by omega)⟩, HH.out.at_.low⟩)
end Go.Proofs.Ytolofcfegoeenaa
