/- A tree told: the closures of package regex's Text. Conditions: the row is a tree's, its text is shorter than 2^46. -/
import Derived.Test.YtgokkdalfkinnaaReTold
namespace Go.Proofs.Ytgokkdalfkinnaa
open Go.RowKit Go.Lib

/-- A tree's last node. -/
def Tr.node : Tr → Nat → Nd
  | .leaf j, _ => ⟨j, k0, 0, 0⟩
  | .set k, _ => ⟨1, k, 0, 0⟩
  | .rep j a, n => ⟨j, k0, (n : Int) + a.size - 1, 0⟩
  | .two j a b, n => ⟨j, k0, (n : Int) + a.size - 1, (n : Int) + a.size + b.size - 1⟩
/-- A tree's nodes stand in a row from some place on. -/
def Sub (ts : List Nd) (t : Tr) (n : Nat) : Prop := ∀ j, j < t.size → ts[n + j]? = (t.row n)[j]?
theorem row_root : ∀ (t : Tr) (n : Nat), (t.row n)[t.size - 1]? = some (t.node n)
  | .leaf _, _ => rfl
  | .set _, _ => rfl
  | .rep j a, n => by
    show (a.row n ++ [_])[a.size + 1 - 1]? = _
    rw [List.getElem?_append_right (by rw [Tr.row_length]; omega), Tr.row_length, show a.size + 1 - 1 - a.size = 0 by omega]
    rfl
  | .two j a b, n => by
    show (a.row n ++ (b.row (n + a.size) ++ [_]))[a.size + b.size + 1 - 1]? = _
    rw [List.getElem?_append_right (by rw [Tr.row_length]; omega), Tr.row_length, List.getElem?_append_right (by rw [Tr.row_length]; omega), Tr.row_length, show a.size + b.size + 1 - 1 - a.size - b.size = 0 by omega]
    rfl
theorem Sub.root {ts : List Nd} {t : Tr} {n r : Nat} (h : Sub ts t n) (hr : r + 1 = n + t.size) : ts[r]? = some (t.node n) := by
  have hp := t.size_pos
  have := h (t.size - 1) (by omega)
  rw [row_root] at this
  rwa [show n + (t.size - 1) = r by omega] at this
theorem Sub.rep {ts : List Nd} {j : Nat} {a : Tr} {n : Nat} (h : Sub ts (.rep j a) n) : Sub ts a n := fun i hi => by
  rw [h i (by show i < a.size + 1; omega)]
  show (a.row n ++ [_])[i]? = _
  rw [List.getElem?_append_left (by rw [Tr.row_length]; exact hi)]
theorem Sub.fst {ts : List Nd} {j : Nat} {a b : Tr} {n : Nat} (h : Sub ts (.two j a b) n) : Sub ts a n := fun i hi => by
  rw [h i (by show i < a.size + b.size + 1; omega)]
  show (a.row n ++ (b.row (n + a.size) ++ [_]))[i]? = _
  rw [List.getElem?_append_left (by rw [Tr.row_length]; exact hi)]
theorem Sub.snd {ts : List Nd} {j : Nat} {a b : Tr} {n : Nat} (h : Sub ts (.two j a b) n) : Sub ts b (n + a.size) := fun i hi => by
  rw [Nat.add_assoc, h (a.size + i) (by show a.size + i < a.size + b.size + 1; omega)]
  show (a.row n ++ (b.row (n + a.size) ++ [_]))[a.size + i]? = _
  rw [List.getElem?_append_right (by rw [Tr.row_length]; omega), Tr.row_length, List.getElem?_append_left (by rw [Tr.row_length]; omega), show a.size + i - a.size = i by omega]
theorem sub_row (t : Tr) : Sub (t.row 0) t 0 := fun j _ => by rw [Nat.zero_add]

/-- What lies between two steps of the telling. -/
structure Tel (v : Value) (bt bl bk bb B : Nat) (w0 : World) (out : List UInt8) (w : World) : Prop where
  box : w.heap[bt]? = some (.cells #[v] 23 (0, 0))
  tl : w.heap[bl]? = some (.cells #[.func (.func 41) #[] #[.pointer (some ⟨bt, 0, none⟩), .pointer (some ⟨bk, 0, none⟩), .pointer (some ⟨bb, 0, none⟩)]] 59 (0, 0))
  kd : w.heap[bk]? = some (.cells #[.func (.func 38) #[] #[.pointer (some ⟨bt, 0, none⟩), .pointer (some ⟨bl, 0, none⟩), .pointer (some ⟨bb, 0, none⟩)]] 74 (0, 0))
  bld : IsBuilderF 69 5 B bb (byteCells out) w
  low : Below B w0 w
  hB : B ≤ bt
  nt : bt ≠ bb
  nl : bl ≠ bb
  nk : bk ≠ bb
theorem Tel.B_le {v : Value} {bt bl bk bb B : Nat} {w0 w : World} {out : List UInt8} (h : Tel v bt bl bk bb B w0 out w) : B ≤ w.heap.size := Nat.le_of_lt (Nat.lt_of_le_of_lt h.hB (block_lt h.box))
theorem Tel.wrote {v : Value} {bt bl bk bb B : Nat} {w0 w w' : World} {out x : List UInt8} (h : Tel v bt bl bk bb B w0 out w) (hb : BuilderAtF 69 5 B bb (.pointer (some ⟨bb, 0, none⟩)) (byteCells out ++ byteCells x) w') (hl : Below B w w') (ho : OthersKept 5 (some bb) w w') :
    Tel v bt bl bk bb B w0 (out ++ x) w' := by
  refine ⟨ho _ _ h.box (by simpa using h.nt) (fun c fz e => by cases e), ho _ _ h.tl (by simpa using h.nl) (fun c fz e => by cases e), ho _ _ h.kd (by simpa using h.nk) (fun c fz e => by cases e), ?_, h.low.trans hl, h.hB, h.nt, h.nl, h.nk⟩
  rw [bc_append]
  exact .inr hb
theorem builder_below {T e : TypeId} {B b : Nat} {bs : List Value} {w w' : World} (h : IsBuilderF T e B b bs w) (hb : Below w.heap.size w w') : IsBuilderF T e B b bs w' := by
  have one : ∀ p, BuilderAtF T e B b p bs w → BuilderAtF T e B b p bs w' := fun p h => by
    obtain ⟨hB, v, h1, h2, h3⟩ := h
    refine ⟨hB, v, (hb.block _ (block_lt h1)).trans h1, h2.kept (grown_of_below hb none) ?_, h3⟩
    cases hv : v.ownBlock with
    | none => exact .inl rfl
    | some g => exact .inr (by simp)
  exact h.imp (one _) (one _)
theorem Tel.below {v : Value} {bt bl bk bb B : Nat} {w0 w w' : World} {out : List UInt8} (h : Tel v bt bl bk bb B w0 out w) (hb : Below w.heap.size w w') : Tel v bt bl bk bb B w0 out w' :=
  ⟨(hb.block _ (block_lt h.box)).trans h.box, (hb.block _ (block_lt h.tl)).trans h.tl, (hb.block _ (block_lt h.kd)).trans h.kd, builder_below h.bld hb, h.low.trans (hb.mono h.B_le), h.hB, h.nt, h.nl, h.nk⟩

theorem Tel.cl {v : Value} {bt bl bk bb B : Nat} {w0 w : World} {out : List UInt8} (h : Tel v bt bl bk bb B w0 out w) : w.cell? ⟨bl, 0, none⟩ = some (.func (.func 41) #[] #[.pointer (some ⟨bt, 0, none⟩), .pointer (some ⟨bk, 0, none⟩), .pointer (some ⟨bb, 0, none⟩)]) := by rw [cell_of_heap h.tl]; rfl
theorem Tel.cb {v : Value} {bt bl bk bb B : Nat} {w0 w : World} {out : List UInt8} (h : Tel v bt bl bk bb B w0 out w) : w.cell? ⟨bt, 0, none⟩ = some v := by rw [cell_of_heap h.box]; rfl
theorem Tel.ck {v : Value} {bt bl bk bb B : Nat} {w0 w : World} {out : List UInt8} (h : Tel v bt bl bk bb B w0 out w) : w.cell? ⟨bk, 0, none⟩ = some (.func (.func 38) #[] #[.pointer (some ⟨bt, 0, none⟩), .pointer (some ⟨bl, 0, none⟩), .pointer (some ⟨bb, 0, none⟩)]) := by rw [cell_of_heap h.kd]; rfl
/-- The closure tell, the closure kid: what they do. -/
def Tells (v : Value) (bt bl bk bb B : Nat) (w0 : World) (r s : Nat) (x : List UInt8) : Prop := ∀ (out : List UInt8) (w : World), out.length + x.length + 4 * s ≤ 100000000 → Tel v bt bl bk bb B w0 out w →
  Calls Try.prog 41 #[.int .i64 (r : Int), .pointer (some ⟨bt, 0, none⟩), .pointer (some ⟨bk, 0, none⟩), .pointer (some ⟨bb, 0, none⟩)] w fun e w' => e = .returned (.tuple #[]) ∧ Tel v bt bl bk bb B w0 (out ++ x) w' ∧ OthersKept 5 (some bb) w w'

set_option maxHeartbeats 1000000 in
set_option maxRecDepth 20000 in
theorem kid_walk (N cap b o r s : Nat) (bt bl bk bb B : Nat) (w0 w : World) (ks : Value) (c : Bool) (kd : Int) (out x : List UInt8) (hx : out.length + x.length + 2 + 4 * s ≤ 100000000) (hr : r < N)
    (h : Tel (.slice (some ⟨b, o, none⟩) N cap) bt bl bk bb B w0 out w) (hk : w.cell? ⟨b, o + r * 7, none⟩ = some (.int .i64 kd))
    (kc : Calls Try.prog 39 #[ks, .int .i64 kd] w fun e w' => e = .returned (.bool c) ∧ w' = w)
    (kt : Tells (.slice (some ⟨b, o, none⟩) N cap) bt bl bk bb B w0 r s x) :
    Calls Try.prog 38 #[.int .i64 (r : Int), ks, .pointer (some ⟨bt, 0, none⟩), .pointer (some ⟨bl, 0, none⟩), .pointer (some ⟨bb, 0, none⟩)] w fun e w' => e = .returned (.tuple #[]) ∧ Tel (.slice (some ⟨b, o, none⟩) N cap) bt bl bk bb B w0 (out ++ brk c x) w' ∧ OthersKept 5 (some bb) w w' := by
  have cb : w.cell? ⟨bt, 0, none⟩ = some (.slice (some ⟨b, o, none⟩) N cap) := by rw [cell_of_heap h.box]; rfl
  have cl : w.cell? ⟨bl, 0, none⟩ = some (.func (.func 41) #[] #[.pointer (some ⟨bt, 0, none⟩), .pointer (some ⟨bk, 0, none⟩), .pointer (some ⟨bb, 0, none⟩)]) := by rw [cell_of_heap h.tl]; rfl
  have H := Lib.hid h
  have hw : ∀ (out : List UInt8) (c : UInt8) (w : World), out.length + 1 ≤ 100000000 → Tel (.slice (some ⟨b, o, none⟩) N cap) bt bl bk bb B w0 out w → Calls Try.prog 40 #[.pointer (some ⟨bb, 0, none⟩), .int .u8 (c.toNat : Int)] w fun e w' => e = .returned .nilIface ∧ Tel (.slice (some ⟨b, o, none⟩) N cap) bt bl bk bb B w0 (out ++ [c]) w' ∧ OthersKept 5 (some bb) w w' := fun out c w hl h =>
    (writeByte_any B bb (byteCells out) (c.toNat : Int) w h.bld (by rw [byteCells_length]; omega) h.B_le).mono fun e w' hh => ⟨hh.1, h.wrote hh.2.1 hh.2.2.1 hh.2.2.2, hh.2.2.2⟩
  have KT := Lib.hid kt
  clear h kt
  cases c
  · have k2 := KT.out out w (by omega) H.out
    unfold brk
    go_enter Try.func38, Try.ntmps38
    go_wp2_with (first
      | (go_at_call 39; refine kc.mono ?_; rintro e w1 ⟨rfl, hw1⟩; replace hw1 := hw1.symm; subst hw1; clear kc)
      | (go_at_call 41; refine k2.mono ?_; rintro e w2 ⟨rfl, h2, ho2⟩)
      | fail)
    exact bodyPost_ret (results_none rfl _ _ _) rfl ⟨rfl, h2, ho2⟩
  · have k40 := hw out 40 w (by omega) H.out
    have k2 := fun w (h : Tel (.slice (some ⟨b, o, none⟩) N cap) bt bl bk bb B w0 (out ++ [40]) w) => KT.out (out ++ [40]) w (by rw [List.length_append]; simp; omega) h
    have k41 := fun w (h : Tel (.slice (some ⟨b, o, none⟩) N cap) bt bl bk bb B w0 ((out ++ [40]) ++ x) w) => hw ((out ++ [40]) ++ x) 41 w (by rw [List.length_append, List.length_append]; simp; omega) h
    have e40 : ((40 : UInt8).toNat : Int) = 40 := rfl
    have e41 : ((41 : UInt8).toNat : Int) = 41 := rfl
    rw [e40] at k40
    rw [e41] at k41
    clear e40 e41 hw
    go_enter Try.func38, Try.ntmps38
    go_wp2_with (first
      | (go_at_call 39; refine kc.mono ?_; rintro e w1 ⟨rfl, hw1⟩; replace hw1 := hw1.symm; subst hw1; clear kc)
      | (go_at_call 40; first
          | (with_reducible refine k40.mono ?_; rintro e w2 ⟨rfl, h2, ho2⟩; have H2 := Lib.hid h2; clear k40 cl; have cl := H2.out.cl)
          | (with_reducible refine (k41 _ H3.out).mono ?_; rintro e w4 ⟨rfl, h4, ho4⟩))
      | (go_at_call 41; refine (k2 _ H2.out).mono ?_; rintro e w3 ⟨rfl, h3, ho3⟩; have H3 := Lib.hid h3; clear h3)
      | fail)
    go_end0
    refine ⟨rfl, ?_, (ho2.trans ho3).trans ho4⟩
    have e : out ++ brk true x = ((out ++ [40]) ++ x) ++ [41] := by unfold brk; simp
    rw [e]
    exact h4
theorem kept_below {e : TypeId} {b : Option Nat} {w w' : World} (h : Below w.heap.size w w') : OthersKept e b w w' := fun k _ hk _ _ => (h.block k (block_lt hk)).trans hk
theorem Tel.writeS {v : Value} {bt bl bk bb B : Nat} {w0 w : World} {out : List UInt8} (h : Tel v bt bl bk bb B w0 out w) (x : List UInt8) (hl : out.length + x.length ≤ 100000000) :
    Calls Try.prog 42 #[.pointer (some ⟨bb, 0, none⟩), .string ⟨x.toArray⟩] w fun e w' => (∃ u, e = .returned u) ∧ Tel v bt bl bk bb B w0 (out ++ x) w' ∧ OthersKept 5 (some bb) w w' :=
  (writeString_any B bb (byteCells out) ⟨x.toArray⟩ w h.bld (by rw [byteCells_length]; show _ + x.toArray.size ≤ _; rw [List.size_toArray]; omega) h.B_le).mono fun e w' hh => ⟨⟨_, hh.1⟩, h.wrote hh.2.1 hh.2.2.1 hh.2.2.2, hh.2.2.2⟩

set_option maxHeartbeats 2000000 in
set_option maxRecDepth 20000 in
theorem tell_leaf (N cap b o r : Nat) (bt bl bk bb B : Nat) (w0 w : World) (nd : Nd) (out : List UInt8) (hx : out.length + (leafT nd).length ≤ 100000000) (hr : r < N) (hk : nd.k = 0 ∨ nd.k = 1 ∨ nd.k = 7 ∨ nd.k = 8)
    (h : Tel (.slice (some ⟨b, o, none⟩) N cap) bt bl bk bb B w0 out w) (hat : NdAt b (o + r * 7) nd w) :
    Calls Try.prog 41 #[.int .i64 (r : Int), .pointer (some ⟨bt, 0, none⟩), .pointer (some ⟨bk, 0, none⟩), .pointer (some ⟨bb, 0, none⟩)] w fun e w' => e = .returned (.tuple #[]) ∧ Tel (.slice (some ⟨b, o, none⟩) N cap) bt bl bk bb B w0 (out ++ leafT nd) w' ∧ OthersKept 5 (some bb) w w' := by
  have kl := fun w => leaf_text nd w
  have cb := h.cb
  have H := Lib.hid h
  obtain ⟨a0, a1, a2, a3, a4, a5, a6⟩ := hat
  obtain ⟨X, hX⟩ : ∃ X, X = leafT nd := ⟨_, rfl⟩
  rw [← hX] at kl hx ⊢
  clear hX
  have n2 : (nd.k == 2) = false := by rw [beq_eq_false_iff_ne]; omega
  have n3 : (nd.k == 3) = false := by rw [beq_eq_false_iff_ne]; omega
  have n4 : (nd.k == 4) = false := by rw [beq_eq_false_iff_ne]; omega
  have n5 : (nd.k == 5) = false := by rw [beq_eq_false_iff_ne]; omega
  have n6 : (nd.k == 6) = false := by rw [beq_eq_false_iff_ne]; omega
  unfold Nd.val wd at kl
  unfold wd at a1 a2 a3 a4
  clear h hk
  go_enter Try.func41, Try.ntmps41
  go_wp2_with (first
    | (go_at_call 44; refine (kl _).mono ?_; rintro e w1 ⟨rfl, hb1⟩
       have hbb : Below w.heap.size w w1 := ((Below.refl _ w).alloc (Nat.le_refl _) _).trans (hb1.mono (by simp))
       have H1 := Lib.hid (H.out.below hbb)
       have HO1 := Lib.hid (kept_below (e := 5) (b := some bb) hbb)
       clear hb1 hbb)
    | (go_at_call 42; refine (H1.out.writeS X hx).mono ?_; rintro e w2 ⟨⟨u, rfl⟩, h2, ho2⟩)
    | fail)
  go_end0
  exact ⟨rfl, h2, HO1.out.trans ho2⟩
end Go.Proofs.Ytgokkdalfkinnaa
