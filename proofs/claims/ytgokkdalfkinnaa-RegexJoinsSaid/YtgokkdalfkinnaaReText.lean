/- Package regex's Text, of a right row. Condition: the row can be read, and is a tree's. -/
import Derived.Test.YtgokkdalfkinnaaReTell2
namespace Go.Proofs.Ytgokkdalfkinnaa
open Go.RowKit Go.Lib

theorem txtT_len : ∀ t : Tr, t.txt.length ≤ 2310 * t.size
  | .leaf j => by
    show (leafL j).length ≤ 2310 * 1
    unfold leafL
    split
    · simp
    · split <;> simp
  | .set k => by
    have := told_len k
    show (toldK k).length ≤ 2310 * 1
    omega
  | .rep j a => by
    have h := txtT_len a
    have hb := brk_len (a.kind == 3 || a.kind == 2) a.txt
    show (brk (a.kind == 3 || a.kind == 2) a.txt ++ [signL j]).length ≤ 2310 * (a.size + 1)
    rw [List.length_append, List.length_singleton]
    omega
  | .two j a b => by
    have ha := txtT_len a
    have hb := txtT_len b
    have h1 := brk_len (a.kind == 3) a.txt
    have h2 := brk_len (b.kind == 3 || b.kind == 2) b.txt
    have h3 := brk_len (b.kind == 3) b.txt
    show (if j = 2 then brk (a.kind == 3) a.txt ++ brk (b.kind == 3 || b.kind == 2) b.txt else a.txt ++ 124 :: brk (b.kind == 3) b.txt).length ≤ 2310 * (a.size + b.size + 1)
    split
    · rw [List.length_append]; omega
    · rw [List.length_append, List.length_cons]; omega

/-- What is laid ahead of the telling. -/
structure Laid (w w1 : World) (v : Value) : Prop where
  l1 : (((w1.alloc (.cells #[.pointer none, .slice none 0 0] 69)).alloc (.cells #[(.func (.func 41) #[] #[.pointer (some ⟨w.heap.size, 0, none⟩), .pointer (some ⟨w1.heap.size + 1 + 1, 0, none⟩), .pointer (some ⟨w1.heap.size, 0, none⟩)])] 59)).alloc (.cells #[(.func (.func 38) #[] #[.pointer (some ⟨w.heap.size, 0, none⟩), .pointer (some ⟨w1.heap.size + 1, 0, none⟩), .pointer (some ⟨w1.heap.size, 0, none⟩)])] 74)).cell? ⟨w.heap.size, 0, none⟩ = some v
  tel : Tel v w.heap.size (w1.heap.size + 1) (w1.heap.size + 1 + 1) w1.heap.size w.heap.size w [] (((w1.alloc (.cells #[.pointer none, .slice none 0 0] 69)).alloc (.cells #[(.func (.func 41) #[] #[.pointer (some ⟨w.heap.size, 0, none⟩), .pointer (some ⟨w1.heap.size + 1 + 1, 0, none⟩), .pointer (some ⟨w1.heap.size, 0, none⟩)])] 59)).alloc (.cells #[(.func (.func 38) #[] #[.pointer (some ⟨w.heap.size, 0, none⟩), .pointer (some ⟨w1.heap.size + 1, 0, none⟩), .pointer (some ⟨w1.heap.size, 0, none⟩)])] 74))
theorem text_lay (w w1 : World) (v : Value) (hb : Below (w.alloc (.cells #[v] 23)).heap.size (w.alloc (.cells #[v] 23)) w1) : Laid w w1 v := by
  have hs : w.heap.size < w1.heap.size := by have := hb.size; simp at this; omega
  have h0 : w1.heap[w.heap.size]? = some (.cells #[v] 23 (0, 0)) := (hb.block _ (by simp)).trans (heap_alloc_new w _)
  have hw1 : Below w.heap.size w w1 := ((Below.refl _ w).alloc (Nat.le_refl _) _).trans (hb.mono (by simp))
  have key : ∀ P1 P2 : Value, (((w1.alloc (.cells #[.pointer none, .slice none 0 0] 69)).alloc (.cells #[P1] 59)).alloc (.cells #[P2] 74)).heap[w1.heap.size + 1 + 1]? = some (.cells #[P2] 74 (0, 0)) ∧ (((w1.alloc (.cells #[.pointer none, .slice none 0 0] 69)).alloc (.cells #[P1] 59)).alloc (.cells #[P2] 74)).heap[w1.heap.size + 1]? = some (.cells #[P1] 59 (0, 0)) ∧ (((w1.alloc (.cells #[.pointer none, .slice none 0 0] 69)).alloc (.cells #[P1] 59)).alloc (.cells #[P2] 74)).heap[w1.heap.size]? = some (.cells #[.pointer none, .slice none 0 0] 69 (0, 0)) ∧ (((w1.alloc (.cells #[.pointer none, .slice none 0 0] 69)).alloc (.cells #[P1] 59)).alloc (.cells #[P2] 74)).heap[w.heap.size]? = some (.cells #[v] 23 (0, 0)) ∧ Below w.heap.size w (((w1.alloc (.cells #[.pointer none, .slice none 0 0] 69)).alloc (.cells #[P1] 59)).alloc (.cells #[P2] 74)) := fun P1 P2 => by
    have z1 : (w1.alloc (.cells #[.pointer none, .slice none 0 0] 69)).heap.size = w1.heap.size + 1 := by simp
    have z2 : ((w1.alloc (.cells #[.pointer none, .slice none 0 0] 69)).alloc (.cells #[P1] 59)).heap.size = w1.heap.size + 1 + 1 := by simp
    refine ⟨?_, ?_, ?_, ?_, ((hw1.alloc hw1.size _).alloc (by rw [z1]; omega) _).alloc (by rw [z2]; omega) _⟩
    · have h := heap_alloc_new ((w1.alloc (.cells #[.pointer none, .slice none 0 0] 69)).alloc (.cells #[P1] 59)) (.cells #[P2] 74); rwa [z2] at h
    · refine (Below.heap_alloc _ _ _ (by rw [z2]; omega)).trans ?_
      have h := heap_alloc_new (w1.alloc (.cells #[.pointer none, .slice none 0 0] 69)) (.cells #[P1] 59)
      rwa [z1] at h
    · exact (Below.heap_alloc _ _ _ (by rw [z2]; omega)).trans ((Below.heap_alloc _ _ _ (by rw [z1]; omega)).trans (heap_alloc_new w1 _))
    · exact (Below.heap_alloc _ _ _ (by rw [z2]; omega)).trans ((Below.heap_alloc _ _ _ (by rw [z1]; omega)).trans ((Below.heap_alloc _ _ _ hs).trans h0))
  obtain ⟨n5, n4, n3, n1, hl5⟩ := key (.func (.func 41) #[] #[.pointer (some ⟨w.heap.size, 0, none⟩), .pointer (some ⟨w1.heap.size + 1 + 1, 0, none⟩), .pointer (some ⟨w1.heap.size, 0, none⟩)]) (.func (.func 38) #[] #[.pointer (some ⟨w.heap.size, 0, none⟩), .pointer (some ⟨w1.heap.size + 1, 0, none⟩), .pointer (some ⟨w1.heap.size, 0, none⟩)])
  exact ⟨by rw [cell_of_heap n1]; rfl, ⟨n1, n4, n5, .inl ⟨by omega, .slice none 0 0, n3, ⟨rfl, .inl ⟨rfl, rfl⟩⟩, by simp [Value.ownBlock]⟩, hl5, Nat.le_refl _, by omega, by omega, by omega⟩⟩

set_option maxHeartbeats 2000000 in
set_option maxRecDepth 20000 in
theorem text_walkRe (N cap b o : Nat) (ts : List Nd) (t : Tr) (w : World) (hN : N = t.size) (hN2 : N ≤ 2000) (hok : t.ok) (hts : ts = t.row 0) (hL : Lies (.slice (some ⟨b, o, none⟩) N cap) ts w)
    (k1 : ∀ w', Below w.heap.size w w' → Calls Try.prog 16 #[.slice (some ⟨b, o, none⟩) N cap] w' fun e w'' => e = .returned (.bool true) ∧ Below w'.heap.size w' w'') :
    Calls Try.prog 19 #[.slice (some ⟨b, o, none⟩) N cap] w fun e w' => e = .returned (.string ⟨t.txt.toArray⟩) ∧ Below w.heap.size w w' := by
  have hst : ∀ (a : Addr) (fn : Fn) (x y : Array Value) (m : Mode) (w : World), (store a (.func fn x y) m).run Try.prog w = stored Try.prog w a (.func fn x y) m := fun a fn x y m w => run_store Try.prog w a (.func fn x y) m rfl
  have hmf : ∀ (fn : Fn) (first cap : Array Value) (w : World), (Instr.makeFunc fn first cap).run Try.prog w = .ok (.func fn first cap) w := fun _ _ _ _ => rfl
  have hp := t.size_pos
  have hI : IntKind.i64.wrap ((N : Int) - 1) = ((N - 1 : Nat) : Int) := by rw [IntWalk.i64_in _ (by omega)]; omega
  obtain ⟨r, hr⟩ : ∃ r, r = N - 1 := ⟨_, rfl⟩
  rw [← hr] at hI
  have kt := fun bt bl bk bb => tell_does ts N cap b o bt bl bk bb w hL t hok 0 r (by rw [hts]; exact sub_row t) (by omega)
  have HN := Lib.hid (And.intro hN hN2)
  have hlen := txtT_len t
  clear hN hr hok hts hL
  go_enter Try.func19, Try.ntmps19
  go_wp2_with (first
    | (go_at_call 16; refine (k1 _ ((Below.refl _ w).alloc (Nat.le_refl _) _)).mono ?_; rintro e w1 ⟨rfl, hb1⟩
       have HL := Lib.hid (text_lay w w1 (.slice (some ⟨b, o, none⟩) N cap) hb1)
       have e6 := HL.out.l1
       clear hb1)
    | (go_at_call 41; refine (kt _ _ _ _ [] _ (by have := HN.out; simp; omega) HL.out.tel).mono ?_; rintro e w6 ⟨rfl, h6, _⟩; have H6 := Lib.hid h6; clear h6)
    | (go_at_call 45; refine (Try.Builder_String_any_k w.heap.size w1.heap.size t.txt _ H6.out.bld H6.out.B_le).mono ?_; rintro e w7 ⟨rfl, _, hb7, _⟩)
    | fail)
  exact bodyPost_ret (results_tmp rfl _ _ _) rfl ⟨rfl, H6.out.low.trans hb7⟩
/-- Package regex's Text, of a tree's row. -/
theorem textRe_any (v : Value) (t : Tr) (w : World) (hok : t.ok) (hN : t.size ≤ 2000) (hL : Lies v (t.row 0) w) (hD : rightD (t.row 0) = true) :
    Calls Try.prog 19 #[v] w fun e w' => e = .returned (.string ⟨t.txt.toArray⟩) ∧ Below w.heap.size w w' := by
  have hp := t.size_pos
  have hlen := t.row_length 0
  have h0 : ∃ n, (t.row 0)[0]? = some n := ⟨_, List.getElem?_eq_getElem (by omega)⟩
  obtain ⟨n0, hn0⟩ := h0
  have hL' := hL
  obtain ⟨ao, cap, rfl, _⟩ := hL
  obtain ⟨b, o, rfl, _⟩ := hL'.at hn0
  rw [hlen] at hL' ⊢
  refine text_walkRe t.size cap b o (t.row 0) t w rfl hN hok rfl hL' fun w' hb => ?_
  have := right_any _ _ w' (hL'.below hb)
  rwa [hD] at this
end Go.Proofs.Ytgokkdalfkinnaa
