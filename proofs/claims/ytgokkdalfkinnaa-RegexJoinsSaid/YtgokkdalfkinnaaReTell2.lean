/- A tree told: nodes with kids; the whole telling, and package regex's Text. Conditions: the row is a tree's, its text is shorter than 2^46. -/
import Derived.Test.YtgokkdalfkinnaaReTell
namespace Go.Proofs.Ytgokkdalfkinnaa
open Go.RowKit Go.Lib

theorem heap_alloc_new2 (w : World) (X Y : Obj) : ((w.alloc X).alloc Y).heap[w.heap.size + 1]? = some Y := by
  have h := heap_alloc_new (w.alloc X) Y
  rwa [World.size_alloc] at h
theorem Tel.bld_lt {v : Value} {bt bl bk bb B : Nat} {w0 w : World} {out : List UInt8} (h : Tel v bt bl bk bb B w0 out w) : bb < w.heap.size := by
  rcases h.bld with ⟨_, _, h1, _⟩ | ⟨_, _, h1, _⟩
  · exact block_lt h1
  · exact block_lt h1
theorem tel_two {v : Value} {bt bl bk bb B : Nat} {w0 w : World} {out : List UInt8} (h : Tel v bt bl bk bb B w0 out w) (X Y : Obj) :
    Tel v bt bl bk bb B w0 out ((w.alloc X).alloc Y) ∧ ((w.alloc X).alloc Y).heap[w.heap.size + 1]? = some Y ∧ ((w.alloc X).alloc Y).heap[w.heap.size]? = some X ∧ OthersKept 5 (some bb) w ((w.alloc X).alloc Y) := by
  have hb : Below w.heap.size w ((w.alloc X).alloc Y) := ((Below.refl _ w).alloc (Nat.le_refl _) _).alloc (by simp) _
  exact ⟨h.below hb, heap_alloc_new2 _ _ _, (Below.heap_alloc _ _ _ (by simp)).trans (heap_alloc_new w _), kept_below hb⟩
theorem tel_one {v : Value} {bt bl bk bb B : Nat} {w0 w : World} {out : List UInt8} (h : Tel v bt bl bk bb B w0 out w) (X : Obj) :
    Tel v bt bl bk bb B w0 out (w.alloc X) ∧ (w.alloc X).heap[w.heap.size]? = some X ∧ OthersKept 5 (some bb) w (w.alloc X) := by
  have hb : Below w.heap.size w (w.alloc X) := (Below.refl _ w).alloc (Nat.le_refl _) _
  exact ⟨h.below hb, heap_alloc_new w _, kept_below hb⟩
theorem some_ne {a b : Nat} (h : b < a) : (some a : Option Nat) ≠ some b := fun e => by cases e; omega
/-- The closure kid, where it is asked of some kinds. -/
theorem kid_at (zs : List Int) (g N cap b o r s : Nat) (bt bl bk bb B : Nat) (w0 w : World) (t : TypeId) (kd : Int) (out x : List UInt8) (hx : out.length + x.length + 2 + 4 * s ≤ 100000000) (hr : r < N) (hzs : zs.length ≤ 2) (hg : w.heap[g]? = some (.cells ⟨ints zs⟩ t (0, 0)))
    (h : Tel (.slice (some ⟨b, o, none⟩) N cap) bt bl bk bb B w0 out w) (hk : w.cell? ⟨b, o + r * 7, none⟩ = some (.int .i64 kd)) (kt : Tells (.slice (some ⟨b, o, none⟩) N cap) bt bl bk bb B w0 r s x) :
    Calls Try.prog 38 #[.int .i64 (r : Int), .slice (some ⟨g, 0, none⟩) zs.length zs.length, .pointer (some ⟨bt, 0, none⟩), .pointer (some ⟨bl, 0, none⟩), .pointer (some ⟨bb, 0, none⟩)] w fun e w' => e = .returned (.tuple #[]) ∧ Tel (.slice (some ⟨b, o, none⟩) N cap) bt bl bk bb B w0 (out ++ brk (zs.contains kd) x) w' ∧ OthersKept 5 (some bb) w w' := by
  refine kid_walk N cap b o r s bt bl bk bb B w0 w _ _ kd out x hx hr h hk ?_ kt
  have hc := Try.slices_Contains_int g 0 zs.length zs.length zs kd w (Nat.le_refl _) (by omega) (fun j hj => by
    rw [Nat.zero_add, cell_of_heap hg]
    have : (ints zs)[j]? = some (.int .i64 (zs.getD j 0)) := by
      unfold ints
      rw [List.getElem?_map, List.getElem?_eq_getElem hj, List.getD_eq_getElem?_getD, List.getElem?_eq_getElem hj]
      rfl
    simpa using this)
  rwa [List.take_of_length_le (Nat.le_refl _)] at hc
theorem kid_nil (N cap b o r s : Nat) (bt bl bk bb B : Nat) (w0 w : World) (kd : Int) (out x : List UInt8) (hx : out.length + x.length + 2 + 4 * s ≤ 100000000) (hr : r < N)
    (h : Tel (.slice (some ⟨b, o, none⟩) N cap) bt bl bk bb B w0 out w) (hk : w.cell? ⟨b, o + r * 7, none⟩ = some (.int .i64 kd)) (kt : Tells (.slice (some ⟨b, o, none⟩) N cap) bt bl bk bb B w0 r s x) :
    Calls Try.prog 38 #[.int .i64 (r : Int), .slice none 0 0, .pointer (some ⟨bt, 0, none⟩), .pointer (some ⟨bl, 0, none⟩), .pointer (some ⟨bb, 0, none⟩)] w fun e w' => e = .returned (.tuple #[]) ∧ Tel (.slice (some ⟨b, o, none⟩) N cap) bt bl bk bb B w0 (out ++ x) w' ∧ OthersKept 5 (some bb) w w' :=
  kid_walk N cap b o r s bt bl bk bb B w0 w _ false kd out x hx hr h hk (Try.slices_Contains_int_empty none 0 kd w) kt

set_option maxHeartbeats 2000000 in
set_option maxRecDepth 20000 in
theorem tell_rep (N cap b o r ra j : Nat) (bt bl bk bb B : Nat) (w0 w : World) (nd : Nd) (out y : List UInt8) (hx : out.length + y.length + 2 ≤ 100000000) (hr : r < N) (hj : j = 4 ∨ j = 5 ∨ j = 6) (hk : nd.k = (j : Int)) (hra : nd.x = (ra : Int))
    (h : Tel (.slice (some ⟨b, o, none⟩) N cap) bt bl bk bb B w0 out w) (hat : NdAt b (o + r * 7) nd w)
    (kk : ∀ (w : World) (g : Nat), Tel (.slice (some ⟨b, o, none⟩) N cap) bt bl bk bb B w0 out w → w.heap[g]? = some (.cells #[.int .i64 3, .int .i64 2] 3 (0, 0)) → Calls Try.prog 38 #[.int .i64 (ra : Int), .slice (some ⟨g, 0, none⟩) 2 2, .pointer (some ⟨bt, 0, none⟩), .pointer (some ⟨bl, 0, none⟩), .pointer (some ⟨bb, 0, none⟩)] w fun e w' => e = .returned (.tuple #[]) ∧ Tel (.slice (some ⟨b, o, none⟩) N cap) bt bl bk bb B w0 (out ++ y) w' ∧ OthersKept 5 (some bb) w w') :
    Calls Try.prog 41 #[.int .i64 (r : Int), .pointer (some ⟨bt, 0, none⟩), .pointer (some ⟨bk, 0, none⟩), .pointer (some ⟨bb, 0, none⟩)] w fun e w' => e = .returned (.tuple #[]) ∧ Tel (.slice (some ⟨b, o, none⟩) N cap) bt bl bk bb B w0 (out ++ (y ++ [signL j])) w' ∧ OthersKept 5 (some bb) w w' := by
  have cb := h.cb
  have ck := h.ck
  have cka := fun o => cell_alloc ck o
  have H := Lib.hid h
  obtain ⟨a0, a1, a2, a3, a4, a5, a6⟩ := hat
  unfold wd at a1 a2 a3 a4
  clear h
  have ks := fun w => sign_text j hj w
  rw [hk] at a0
  rw [hra] at a5
  have n2 : ((j : Int) == 2) = false := by rw [beq_eq_false_iff_ne]; omega
  have n3 : ((j : Int) == 3) = false := by rw [beq_eq_false_iff_ne]; omega
  rcases hj with rfl | rfl | rfl
  all_goals
    clear n2 n3
    go_enter Try.func41, Try.ntmps41
    go_wp2_with (first
      | (go_at_call 38
         refine (kk _ _ (tel_two H.out _ _).1 (tel_two H.out _ _).2.1).mono ?_
         rintro e w2 ⟨rfl, h2, ho2⟩
         have hG := ho2 _ _ (tel_two H.out _ _).2.2.1 (some_ne H.out.bld_lt) (fun c fz e => by cases e)
         obtain ⟨q0, q1, q2, q3, q4, q5, q6⟩ := node_cells hG
         have HO2 := Lib.hid ((tel_two H.out _ _).2.2.2.trans ho2)
         have H2 := Lib.hid h2
         clear hG ho2 h2 kk a0 a1 a2 a3 a4 a5 a6)
      | (go_at_call 43; refine (ks _).mono ?_; rintro e w3 ⟨rfl, hw3⟩; replace hw3 := hw3.symm; subst hw3; clear ks)
      | (go_at_call 42; refine (H2.out.writeS [signL _] (by rw [List.length_append]; simp; omega)).mono ?_; rintro e w4 ⟨⟨u, rfl⟩, h4, ho4⟩)
      | fail)
    go_end0
    exact ⟨rfl, by rw [← List.append_assoc]; exact h4, HO2.out.trans ho4⟩
set_option maxHeartbeats 2000000 in
set_option maxRecDepth 20000 in
theorem tell_cat (N cap b o r ra rb : Nat) (bt bl bk bb B : Nat) (w0 w : World) (nd : Nd) (out y z : List UInt8) (hx : out.length + y.length + z.length + 4 ≤ 100000000) (hr : r < N) (hk : nd.k = 2) (hra : nd.x = (ra : Int)) (hrb : nd.y = (rb : Int))
    (h : Tel (.slice (some ⟨b, o, none⟩) N cap) bt bl bk bb B w0 out w) (hat : NdAt b (o + r * 7) nd w)
    (kk : ∀ (w : World) (g : Nat), Tel (.slice (some ⟨b, o, none⟩) N cap) bt bl bk bb B w0 out w → w.heap[g]? = some (.cells #[.int .i64 3] 3 (0, 0)) → Calls Try.prog 38 #[.int .i64 (ra : Int), .slice (some ⟨g, 0, none⟩) 1 1, .pointer (some ⟨bt, 0, none⟩), .pointer (some ⟨bl, 0, none⟩), .pointer (some ⟨bb, 0, none⟩)] w fun e w' => e = .returned (.tuple #[]) ∧ Tel (.slice (some ⟨b, o, none⟩) N cap) bt bl bk bb B w0 (out ++ y) w' ∧ OthersKept 5 (some bb) w w')
    (kk2 : ∀ (w : World) (g : Nat), Tel (.slice (some ⟨b, o, none⟩) N cap) bt bl bk bb B w0 (out ++ y) w → w.heap[g]? = some (.cells #[.int .i64 3, .int .i64 2] 3 (0, 0)) → Calls Try.prog 38 #[.int .i64 (rb : Int), .slice (some ⟨g, 0, none⟩) 2 2, .pointer (some ⟨bt, 0, none⟩), .pointer (some ⟨bl, 0, none⟩), .pointer (some ⟨bb, 0, none⟩)] w fun e w' => e = .returned (.tuple #[]) ∧ Tel (.slice (some ⟨b, o, none⟩) N cap) bt bl bk bb B w0 ((out ++ y) ++ z) w' ∧ OthersKept 5 (some bb) w w') :
    Calls Try.prog 41 #[.int .i64 (r : Int), .pointer (some ⟨bt, 0, none⟩), .pointer (some ⟨bk, 0, none⟩), .pointer (some ⟨bb, 0, none⟩)] w fun e w' => e = .returned (.tuple #[]) ∧ Tel (.slice (some ⟨b, o, none⟩) N cap) bt bl bk bb B w0 (out ++ (y ++ z)) w' ∧ OthersKept 5 (some bb) w w' := by
  have cb := h.cb
  have ck := h.ck
  have cka := fun o => cell_alloc ck o
  have H := Lib.hid h
  obtain ⟨a0, a1, a2, a3, a4, a5, a6⟩ := hat
  unfold wd at a1 a2 a3 a4
  clear h
  rw [hk] at a0
  rw [hra] at a5
  rw [hrb] at a6
  go_enter Try.func41, Try.ntmps41
  go_wp2_with (first
    | (go_at_call 38; first
      | (refine (kk _ _ (tel_two H.out _ _).1 (tel_two H.out _ _).2.1).mono ?_
         rintro e w2 ⟨rfl, h2, ho2⟩
         have hG := ho2 _ _ (tel_two H.out _ _).2.2.1 (some_ne H.out.bld_lt) (fun c fz e => by cases e)
         obtain ⟨q0, q1, q2, q3, q4, q5, q6⟩ := node_cells hG
         have HG := Lib.hid hG
         have HO2 := Lib.hid ((tel_two H.out _ _).2.2.2.trans ho2)
         have H2 := Lib.hid h2
         have ck2 := h2.ck
         clear hG ho2 h2 kk a0 a1 a2 a3 a4 a5 a6 cka ck cb)
      | (refine (kk2 _ _ (tel_one H2.out _).1 (tel_one H2.out _).2.1).mono ?_
         rintro e w3 ⟨rfl, h3, ho3⟩
         have HO3 := Lib.hid ((HO2.out.trans (tel_one H2.out _).2.2).trans ho3)
         have H3 := Lib.hid h3
         clear ho3 h3 kk2))
    | fail)
  go_end0
  exact ⟨rfl, by rw [← List.append_assoc]; exact H3.out, HO3.out⟩
set_option maxHeartbeats 2000000 in
set_option maxRecDepth 20000 in
theorem tell_alt (N cap b o r ra rb : Nat) (bt bl bk bb B : Nat) (w0 w : World) (nd : Nd) (out y z : List UInt8) (hx : out.length + y.length + z.length + 4 ≤ 100000000) (hr : r < N) (hk : nd.k = 3) (hra : nd.x = (ra : Int)) (hrb : nd.y = (rb : Int))
    (h : Tel (.slice (some ⟨b, o, none⟩) N cap) bt bl bk bb B w0 out w) (hat : NdAt b (o + r * 7) nd w)
    (kk : ∀ (w : World), Tel (.slice (some ⟨b, o, none⟩) N cap) bt bl bk bb B w0 out w → Calls Try.prog 38 #[.int .i64 (ra : Int), .slice none 0 0, .pointer (some ⟨bt, 0, none⟩), .pointer (some ⟨bl, 0, none⟩), .pointer (some ⟨bb, 0, none⟩)] w fun e w' => e = .returned (.tuple #[]) ∧ Tel (.slice (some ⟨b, o, none⟩) N cap) bt bl bk bb B w0 (out ++ y) w' ∧ OthersKept 5 (some bb) w w')
    (kk2 : ∀ (w : World) (g : Nat), Tel (.slice (some ⟨b, o, none⟩) N cap) bt bl bk bb B w0 ((out ++ y) ++ [124]) w → w.heap[g]? = some (.cells #[.int .i64 3] 3 (0, 0)) → Calls Try.prog 38 #[.int .i64 (rb : Int), .slice (some ⟨g, 0, none⟩) 1 1, .pointer (some ⟨bt, 0, none⟩), .pointer (some ⟨bl, 0, none⟩), .pointer (some ⟨bb, 0, none⟩)] w fun e w' => e = .returned (.tuple #[]) ∧ Tel (.slice (some ⟨b, o, none⟩) N cap) bt bl bk bb B w0 (((out ++ y) ++ [124]) ++ z) w' ∧ OthersKept 5 (some bb) w w') :
    Calls Try.prog 41 #[.int .i64 (r : Int), .pointer (some ⟨bt, 0, none⟩), .pointer (some ⟨bk, 0, none⟩), .pointer (some ⟨bb, 0, none⟩)] w fun e w' => e = .returned (.tuple #[]) ∧ Tel (.slice (some ⟨b, o, none⟩) N cap) bt bl bk bb B w0 (out ++ (y ++ 124 :: z)) w' ∧ OthersKept 5 (some bb) w w' := by
  have cb := h.cb
  have ck := h.ck
  have cka := fun o => cell_alloc ck o
  have H := Lib.hid h
  obtain ⟨a0, a1, a2, a3, a4, a5, a6⟩ := hat
  unfold wd at a1 a2 a3 a4
  clear h
  rw [hk] at a0
  rw [hra] at a5
  rw [hrb] at a6
  have hw : ∀ w, Tel (.slice (some ⟨b, o, none⟩) N cap) bt bl bk bb B w0 (out ++ y) w → Calls Try.prog 40 #[.pointer (some ⟨bb, 0, none⟩), .int .u8 124] w fun e w' => e = .returned .nilIface ∧ Tel (.slice (some ⟨b, o, none⟩) N cap) bt bl bk bb B w0 ((out ++ y) ++ [124]) w' ∧ OthersKept 5 (some bb) w w' := fun w h =>
    (writeByte_any B bb (byteCells (out ++ y)) 124 w h.bld (by rw [byteCells_length, List.length_append]; omega) h.B_le).mono fun e w' hh => ⟨hh.1, h.wrote (x := [124]) hh.2.1 hh.2.2.1 hh.2.2.2, hh.2.2.2⟩
  go_enter Try.func41, Try.ntmps41
  go_wp2_with (first
    | (go_at_call 38; first
      | (refine (kk _ (tel_one H.out _).1).mono ?_
         rintro e w2 ⟨rfl, h2, ho2⟩
         have HG0 := Lib.hid (ho2 _ _ (tel_one H.out _).2.1 (some_ne H.out.bld_lt) (fun c fz e => by cases e))
         have HO2 := Lib.hid ((tel_one H.out _).2.2.trans ho2)
         have H2 := Lib.hid h2
         clear ho2 h2 kk a0 a1 a2 a3 a4 a5 a6 cka ck cb)
      | (refine (kk2 _ _ (tel_one H3.out _).1 (tel_one H3.out _).2.1).mono ?_
         rintro e w4 ⟨rfl, h4, ho4⟩
         have HO4 := Lib.hid ((HO3.out.trans (tel_one H3.out _).2.2).trans ho4)
         have H4 := Lib.hid h4
         clear ho4 h4 kk2))
    | (go_at_call 40; refine (hw _ H2.out).mono ?_
       rintro e w3 ⟨rfl, h3, ho3⟩
       have hG := ho3 _ _ HG0.out (some_ne H.out.bld_lt) (fun c fz e => by cases e)
       obtain ⟨q0, q1, q2, q3, q4, q5, q6⟩ := node_cells hG
       have HG := Lib.hid hG
       have HO3 := Lib.hid (HO2.out.trans ho3)
       have H3 := Lib.hid h3
       have ck3 := h3.ck
       clear hG ho3 h3 hw)
    | fail)
  go_end0
  exact ⟨rfl, by have e : out ++ (y ++ 124 :: z) = ((out ++ y) ++ [124]) ++ z := by simp
                 rw [e]; exact H4.out, HO4.out⟩

theorem node_kind : ∀ (t : Tr) (n : Nat), (t.node n).k = (t.kind : Int)
  | .leaf _, _ => rfl
  | .set _, _ => rfl
  | .rep _ _, _ => rfl
  | .two _ _ _, _ => rfl
theorem leaf_txt (j : Nat) (hj : j = 0 ∨ j = 7 ∨ j = 8) : leafT ⟨(j : Int), k0, 0, 0⟩ = leafL j := by rcases hj with rfl | rfl | rfl <;> rfl
theorem set_txt (k : K4) : leafT ⟨1, k, 0, 0⟩ = toldK k := rfl
theorem has32 (k : Nat) : ([3, 2] : List Int).contains (k : Int) = (k == 3 || k == 2) := by
  rw [Bool.eq_iff_iff]; simp; omega
theorem has3 (k : Nat) : ([3] : List Int).contains (k : Int) = (k == 3) := by
  rw [Bool.eq_iff_iff]; simp; omega
theorem brk_len (c : Bool) (l : List UInt8) : l.length ≤ (brk c l).length ∧ (brk c l).length ≤ l.length + 2 := by
  unfold brk
  cases c
  · exact ⟨Nat.le_refl _, Nat.le_add_right _ _⟩
  · simp
    omega
theorem tell_does (ts : List Nd) (N cap b o : Nat) (bt bl bk bb : Nat) (w0 : World) (hL : Lies (.slice (some ⟨b, o, none⟩) N cap) ts w0) : ∀ (t : Tr), t.ok → ∀ (n r : Nat), Sub ts t n → r + 1 = n + t.size → Tells (.slice (some ⟨b, o, none⟩) N cap) bt bl bk bb w0.heap.size w0 r t.size t.txt := by
  have hN : N = ts.length := by obtain ⟨_, _, h1, _⟩ := hL; cases h1; rfl
  have at_ : ∀ {t : Tr} {n r : Nat} {out : List UInt8} {w : World}, Sub ts t n → r + 1 = n + t.size → Tel (.slice (some ⟨b, o, none⟩) N cap) bt bl bk bb w0.heap.size w0 out w → NdAt b (o + r * 7) (t.node n) w ∧ r < N := fun {t n r out w} hs hr hT => by
    have hroot := hs.root hr
    obtain ⟨b', o', h1, h2, h3⟩ := hL.at hroot
    cases h1
    refine ⟨h3.below hT.low h2, ?_⟩
    rw [hN]
    by_cases hlt : r < ts.length
    · exact hlt
    · rw [List.getElem?_eq_none (by omega)] at hroot; cases hroot
  intro t
  induction t with
  | leaf j =>
    intro hok n r hs hr out w hx h
    obtain ⟨ha, hlt⟩ := at_ hs hr h
    have hj : j = 0 ∨ j = 7 ∨ j = 8 := hok
    have e : (Tr.leaf j).txt = leafT ⟨(j : Int), k0, 0, 0⟩ := (leaf_txt j hj).symm
    rw [e] at hx ⊢
    exact tell_leaf N cap b o r bt bl bk bb _ w0 w _ out (by omega) hlt (by show (j : Int) = 0 ∨ (j : Int) = 1 ∨ (j : Int) = 7 ∨ (j : Int) = 8; omega) h ha
  | set k =>
    intro hok n r hs hr out w hx h
    obtain ⟨ha, hlt⟩ := at_ hs hr h
    have e : (Tr.set k).txt = leafT ⟨1, k, 0, 0⟩ := (set_txt k).symm
    rw [e] at hx ⊢
    exact tell_leaf N cap b o r bt bl bk bb _ w0 w _ out (by omega) hlt (.inr (.inl rfl)) h ha
  | rep j a ih =>
    intro hok n r hs hr out w hx h
    obtain ⟨hj, hoka⟩ := hok
    obtain ⟨ha, hlt⟩ := at_ hs hr h
    have hpa := a.size_pos
    have hr' : r + 1 = n + (a.size + 1) := hr
    obtain ⟨ra, hra⟩ : ∃ ra, ra + 1 = n + a.size := ⟨n + a.size - 1, by omega⟩
    have hx' : out.length + (brk (a.kind == 3 || a.kind == 2) a.txt ++ [signL j]).length + 4 * (a.size + 1) ≤ 100000000 := hx
    rw [List.length_append, List.length_singleton] at hx'
    have hbl := brk_len (a.kind == 3 || a.kind == 2) a.txt
    refine tell_rep N cap b o r ra j bt bl bk bb _ w0 w _ out _ (by omega) hlt hj rfl (by show (n : Int) + a.size - 1 = _; omega) h ha fun w g h hg => ?_
    obtain ⟨hka, hlta⟩ := at_ hs.rep hra h
    have hk := hka.1
    rw [node_kind] at hk
    have hh := kid_at [3, 2] g N cap b o ra a.size bt bl bk bb _ w0 w _ _ out a.txt (by omega) hlta (Nat.le_refl _) hg h hk (ih hoka n ra hs.rep hra)
    rwa [has32] at hh
  | two j a b' iha ihb =>
    intro hok n r hs hr out w hx h
    obtain ⟨hj, hoka, hokb⟩ := hok
    obtain ⟨ha, hlt⟩ := at_ hs hr h
    have hpa := a.size_pos
    have hpb := b'.size_pos
    have hr' : r + 1 = n + (a.size + b'.size + 1) := hr
    obtain ⟨ra, hra⟩ : ∃ ra, ra + 1 = n + a.size := ⟨n + a.size - 1, by omega⟩
    obtain ⟨rb, hrb⟩ : ∃ rb, rb + 1 = n + a.size + b'.size := ⟨n + a.size + b'.size - 1, by omega⟩
    have hx' : out.length + (Tr.two j a b').txt.length + 4 * (a.size + b'.size + 1) ≤ 100000000 := hx
    rcases hj with rfl | rfl
    · have e : (Tr.two 2 a b').txt = brk (a.kind == 3) a.txt ++ brk (b'.kind == 3 || b'.kind == 2) b'.txt := rfl
      rw [e] at hx' ⊢
      rw [List.length_append] at hx'
      have hbla := brk_len (a.kind == 3) a.txt
      have hblb := brk_len (b'.kind == 3 || b'.kind == 2) b'.txt
      refine tell_cat N cap b o r ra rb bt bl bk bb _ w0 w _ out _ _ (by omega) hlt rfl (by show (n : Int) + a.size - 1 = _; omega) (by show (n : Int) + a.size + b'.size - 1 = _; omega) h ha (fun w g h hg => ?_) (fun w g h hg => ?_)
      · obtain ⟨hka, hlta⟩ := at_ hs.fst hra h
        have hk := hka.1
        rw [node_kind] at hk
        have hh := kid_at [3] g N cap b o ra a.size bt bl bk bb _ w0 w _ _ out a.txt (by omega) hlta (by decide) hg h hk (iha hoka n ra hs.fst hra)
        rwa [has3] at hh
      · obtain ⟨hka, hlta⟩ := at_ hs.snd hrb h
        have hk := hka.1
        rw [node_kind] at hk
        have hh := kid_at [3, 2] g N cap b o rb b'.size bt bl bk bb _ w0 w _ _ (out ++ brk (a.kind == 3) a.txt) b'.txt (by rw [List.length_append]; omega) hlta (by decide) hg h hk (ihb hokb (n + a.size) rb hs.snd hrb)
        rwa [has32] at hh
    · have e : (Tr.two 3 a b').txt = a.txt ++ 124 :: brk (b'.kind == 3) b'.txt := rfl
      rw [e] at hx' ⊢
      rw [List.length_append, List.length_cons] at hx'
      have hblb := brk_len (b'.kind == 3) b'.txt
      refine tell_alt N cap b o r ra rb bt bl bk bb _ w0 w _ out _ _ (by omega) hlt rfl (by show (n : Int) + a.size - 1 = _; omega) (by show (n : Int) + a.size + b'.size - 1 = _; omega) h ha (fun w h => ?_) (fun w g h hg => ?_)
      · obtain ⟨hka, hlta⟩ := at_ hs.fst hra h
        have hk := hka.1
        exact kid_nil N cap b o ra a.size bt bl bk bb _ w0 w _ out a.txt (by omega) hlta h hk (iha hoka n ra hs.fst hra)
      · obtain ⟨hka, hlta⟩ := at_ hs.snd hrb h
        have hk := hka.1
        rw [node_kind] at hk
        have hh := kid_at [3] g N cap b o rb b'.size bt bl bk bb _ w0 w _ _ ((out ++ a.txt) ++ [124]) b'.txt (by rw [List.length_append, List.length_append, List.length_singleton]; omega) hlta (by decide) hg h hk (ihb hokb (n + a.size) rb hs.snd hrb)
        rwa [has3] at hh
end Go.Proofs.Ytgokkdalfkinnaa
