/- Packed texts: ReTold, ReTell, ReTell2, ReText. What each of them proves stands above its theorems; the conditions stand in these. -/
import Derived.Test.YtgceckejchdnlaaGreatDoorB32
namespace Go.Proofs.YtgceckejchdnlaaGreatDoor
open Go.RowKit Go.Lib

set_option maxHeartbeats 2000000 in
set_option maxRecDepth 20000 in
theorem told_walk (a b c d p q r s cnt : Int) (T R : ByteArray) (x1 x2 x3 : Bool) (w : World) (hz : 2 ≤ T.size) (hz2 : T.size ≤ 140737488355328)
    (h1 : (a == p && (b == q && (c == r && d == s))) = x1) (h2 : (a == 0 && (b == 0 && (c == 0 && d == 0))) = x2) (h3 : (cnt == 1) = x3) (hR : T.extract 1 (T.size - 1) = R)
    (k1 : ∀ w, Calls Tryz.prog 84 #[.agg #[.int .u64 a, .int .u64 b, .int .u64 c, .int .u64 d]] w fun e w' => e = .returned (.string T) ∧ Below w.heap.size w w')
    (k2 : ∀ w, Calls Tryz.prog 85 #[] w fun e w' => e = .returned (.agg #[.int .u64 p, .int .u64 q, .int .u64 r, .int .u64 s]) ∧ Below w.heap.size w w')
    (k3 : ∀ w, Calls Tryz.prog 86 #[.agg #[.int .u64 a, .int .u64 b, .int .u64 c, .int .u64 d]] w fun e w' => e = .returned (.int .i64 cnt) ∧ Below w.heap.size w w') :
    Calls Tryz.prog 72 #[.agg #[.int .u64 a, .int .u64 b, .int .u64 c, .int .u64 d]] w fun e w' => e = .returned (.string (if x1 = true then ⟨#[46]⟩ else if x2 = true then ⟨#[91, 94, 92, 120, 48, 48, 45, 92, 120, 102, 102, 93]⟩ else if x3 = true then R else T)) ∧ Below w.heap.size w w' := by
  have e1 := run_eql_cls a b c d p q r s
  have e2 := run_eql_cls a b c d 0 0 0 0
  rw [h1] at e1
  rw [h2] at e2
  clear h1 h2
  obtain ⟨X, hX⟩ : ∃ X : ByteArray, X = (if x1 = true then ⟨#[46]⟩ else if x2 = true then ⟨#[91, 94, 92, 120, 48, 48, 45, 92, 120, 102, 102, 93]⟩ else if x3 = true then R else T) := ⟨_, rfl⟩
  rw [← hX]
  have HX := Lib.hid hX
  clear hX
  have hI : IntKind.i64.wrap ((T.size : Int) - 1) = ((T.size - 1 : Nat) : Int) := by rw [IntWalk.i64_in _ (by omega)]; omega
  obtain ⟨u, hu⟩ : ∃ u, u = T.size - 1 := ⟨_, rfl⟩
  have hu1 : 1 ≤ u := by omega
  have hu2 : u ≤ T.size := by omega
  rw [← hu] at hI hR
  clear hu
  cases x1 <;> cases x2 <;> cases x3
  all_goals
    go_enter Tryz.func72, Tryz.ntmps72
    go_wp2_with (first
      | (go_at_call 84; refine (k1 _).mono ?_; rintro en w1 ⟨rfl, hb1⟩; clear k1
         have hg := four_stays rfl hb1
         have HB1 := Lib.hid (((Below.refl _ w).alloc (Nat.le_refl _) (.cells #[.int .u64 a, .int .u64 b, .int .u64 c, .int .u64 d] 69)).trans (hb1.mono (by simp)))
         have HG := Lib.hid hg
         have hgw := block_lt hg
         clear hg hb1)
      | (go_at_call 86; refine (k3 _).mono ?_; rintro en w3 ⟨rfl, hb3⟩; clear k3; have HB3 := Lib.hid hb3; clear hb3)
      | fail)
    have SB : ∀ W', Below w1.heap.size w1 W' → (W'.cell? ⟨w.heap.size, 0, none⟩ = some (.int .u64 a) ∧ W'.cell? ⟨w.heap.size, 1, none⟩ = some (.int .u64 b) ∧ W'.cell? ⟨w.heap.size, 2, none⟩ = some (.int .u64 c) ∧ W'.cell? ⟨w.heap.size, 3, none⟩ = some (.int .u64 d)) := fun W' hb => (res_four ((hb.block _ hgw).trans HG.out)).1
    have SBH := Lib.hid SB
    clear SB
    go_region_held3 (fun W' => (W'.cell? ⟨w.heap.size, 0, none⟩ = some (.int .u64 a) ∧ W'.cell? ⟨w.heap.size, 1, none⟩ = some (.int .u64 b) ∧ W'.cell? ⟨w.heap.size, 2, none⟩ = some (.int .u64 c) ∧ W'.cell? ⟨w.heap.size, 3, none⟩ = some (.int .u64 d)))
      (first
        | with_reducible exact SBH.out _ (Below.refl _ w1).drew
        | with_reducible exact SBH.out _ hd2
        | (trace_state; fail))
      (first
        | (go_at_call 85; refine (k2 _).mono ?_; rintro en w2 ⟨rfl, hb2⟩; have hd2 : Below w1.heap.size w1 w2 := ((Below.refl _ w1).drew).trans hb2))
    all_goals
      obtain ⟨y0, y1, y2, y3⟩ := SBH.out _ hd2
      have HB2 := Lib.hid (HB1.out.trans (hd2.mono HB1.out.size))
      go_wp2_with (first
        | (go_at_call 86; refine (k3 _).mono ?_; rintro en w3 ⟨rfl, hb3⟩; clear k3; have HB3 := Lib.hid hb3; clear hb3)
        | fail)
      first
        | exact bodyPost_ret (results_tmp rfl _ _ _) rfl ⟨by rw [HX.out]; rfl, HB2.out⟩
        | exact bodyPost_ret (results_tmp rfl _ _ _) rfl ⟨by rw [HX.out]; rfl, HB2.out.trans (HB3.out.mono HB2.out.size)⟩

theorem nat_beq (x y : BitVec 64) : ((x.toNat : Int) == (y.toNat : Int)) = decide (x = y) := by
  rw [Bool.eq_iff_iff, beq_iff_eq, decide_eq_true_eq]
  constructor
  · intro h; apply BitVec.eq_of_toNat_eq; omega
  · intro h; rw [h]
theorem k4_beq (k l : K4) : ((k.a.toNat : Int) == (l.a.toNat : Int) && ((k.b.toNat : Int) == (l.b.toNat : Int) && ((k.c.toNat : Int) == (l.c.toNat : Int) && (k.d.toNat : Int) == (l.d.toNat : Int)))) = decide (k = l) := by
  rw [nat_beq, nat_beq, nat_beq, nat_beq, Bool.eq_iff_iff]
  obtain ⟨a, b, c, d⟩ := k
  obtain ⟨p, q, r, s⟩ := l
  simp
theorem text_len (k : Cl) : 2 ≤ (textL k).length ∧ (textL k).length ≤ 2306 := by
  have h1 := flat_le (runsL k)
  have h2 := runs_length k (uptoL k 256)
  have h3 := upto_length k 256
  have h4 : (runsL k).length = (runsP k (uptoL k 256)).2.length := rfl
  have h5 : (textL k).length = ((runsL k).flatMap runT).length + 2 := by unfold textL; rw [List.length_cons, List.length_append]; rfl
  omega
theorem text_mid (l : List UInt8) (_h : 2 ≤ l.length) : (⟨l.toArray⟩ : ByteArray).extract 1 ((⟨l.toArray⟩ : ByteArray).size - 1) = ⟨((l.drop 1).dropLast).toArray⟩ := by
  have hz : (⟨l.toArray⟩ : ByteArray).size = l.length := by simp [ByteArray.size]
  rw [hz]
  apply ByteArray.ext
  rw [ByteArray.data_extract]
  apply Array.ext'
  simp only [List.extract_toArray, List.extract_eq_drop_take', List.toList_toArray]
  rw [List.dropLast_eq_take, List.length_drop, List.drop_take]
theorem toldRe_any (k : K4) (w : World) : Calls Tryz.prog 72 #[.agg #[wd k.a, wd k.b, wd k.c, wd k.d]] w fun e w' => e = .returned (.string ⟨(toldK k).toArray⟩) ∧ Below w.heap.size w w' := by
  have hz : (⟨(textL k.cl).toArray⟩ : ByteArray).size = (textL k.cl).length := by simp [ByteArray.size]
  have hl := text_len k.cl
  refine (told_walk (k.a.toNat : Int) (k.b.toNat : Int) (k.c.toNat : Int) (k.d.toNat : Int) (kPoint.a.toNat : Int) (kPoint.b.toNat : Int) (kPoint.c.toNat : Int) (kPoint.d.toNat : Int) (cntK k.cl : Int) ⟨(textL k.cl).toArray⟩ ⟨(((textL k.cl).drop 1).dropLast).toArray⟩ (decide (k = kPoint)) (decide (k = k0)) (decide (cntK k.cl = 1)) w (by omega) (by omega) (k4_beq k kPoint) (k4_beq k k0) ?_ (text_mid _ hl.1) (fun w => text_any k.cl w) (fun w => point_any w) (fun w => countC_any k.cl w)).mono fun e w' h => ⟨h.1.trans ?_, h.2⟩
  · rw [Bool.eq_iff_iff, beq_iff_eq, decide_eq_true_eq]; omega
  · congr 2
    unfold toldK
    by_cases h1 : k = kPoint
    · rw [if_pos (by simpa using h1), if_pos h1]
    · rw [if_neg (by simpa using h1), if_neg h1]
      by_cases h2 : k = k0
      · rw [if_pos (by simpa using h2), if_pos h2]
      · rw [if_neg (by simpa using h2), if_neg h2]
        by_cases h3 : cntK k.cl = 1
        · rw [if_pos (by simpa using h3), if_pos h3]
        · rw [if_neg (by simpa using h3), if_neg h3]
theorem told_len (k : K4) : (toldK k).length ≤ 2306 := by
  have hl := text_len k.cl
  unfold toldK
  split
  · simp
  · split
    · simp
    · split
      · rw [List.length_dropLast, List.length_drop]
        omega
      · omega

def leafT (n : Nd) : List UInt8 := if n.k = 7 then [94] else if n.k = 8 then [36] else if n.k = 1 then toldK n.s else [40, 41]
set_option maxHeartbeats 1000000 in
set_option maxRecDepth 20000 in
theorem leaf_text (n : Nd) (w : World) : Calls Tryz.prog 52 #[n.val] w fun e w' => e = .returned (.string ⟨(leafT n).toArray⟩) ∧ Below w.heap.size w w' := by
  have kt := fun w => toldRe_any n.s w
  obtain ⟨k, s, x, y⟩ := n
  obtain ⟨X, hX⟩ : ∃ X : ByteArray, X = ⟨(leafT ⟨k, s, x, y⟩).toArray⟩ := ⟨_, rfl⟩
  rw [← hX]
  have HX := Lib.hid hX
  clear hX
  obtain ⟨T, hT⟩ : ∃ T : ByteArray, T = ⟨(toldK s).toArray⟩ := ⟨_, rfl⟩
  rw [← hT] at kt
  have HT := Lib.hid hT
  clear hT
  unfold Nd.val wd
  unfold wd at kt
  rcases kinds_cases k with rfl | rfl | rfl | rfl | rfl | rfl | rfl | rfl | rfl | ⟨h0, h1, h2, h3, h4, h5, h6, h7, h8, hk⟩
  all_goals
    go_enter Tryz.func52, Tryz.ntmps52
    go_wp2_with (first | (go_at_call 72; refine (kt _).mono ?_; rintro e w1 ⟨rfl, hb1⟩) | fail)
    first
      | exact bodyPost_ret (results_tmp rfl _ _ _) rfl ⟨by rw [HX.out]; rfl, (Below.refl _ w).alloc (Nat.le_refl _) _⟩
      | exact bodyPost_ret (results_tmp rfl _ _ _) rfl ⟨by rw [HX.out, HT.out]; rfl, ((Below.refl _ w).alloc (Nat.le_refl _) _).trans (hb1.mono (by simp))⟩
      | exact bodyPost_ret (results_tmp rfl _ _ _) rfl ⟨by rw [HX.out]; unfold leafT; dsimp only; rw [if_neg (beq_eq_false_iff_ne.1 h7), if_neg (beq_eq_false_iff_ne.1 h8), if_neg (beq_eq_false_iff_ne.1 h1)]; rfl, (Below.refl _ w).alloc (Nat.le_refl _) _⟩
theorem sign_text (j : Nat) (hj : j = 4 ∨ j = 5 ∨ j = 6) (w : World) : Calls Tryz.prog 51 #[.int .i64 (j : Int)] w fun e w' => e = .returned (.string ⟨#[signL j]⟩) ∧ w' = w := by
  rcases hj with rfl | rfl | rfl
  all_goals
    go_enter Tryz.func51, Tryz.ntmps51
    go_wp2
    exact bodyPost_ret (results_tmp rfl _ _ _) rfl ⟨rfl, rfl⟩
end Go.Proofs.YtgceckejchdnlaaGreatDoor
namespace Go.Proofs.YtgceckejchdnlaaGreatDoor
open Go.RowKit Go.Lib

/-- What lies between two steps of the telling. -/
structure Tel (v : Value) (bt bl bk bb B : Nat) (w0 : World) (out : List UInt8) (w : World) : Prop where
  box : w.heap[bt]? = some (.cells #[v] 31 (0, 0))
  tl : w.heap[bl]? = some (.cells #[.func (.func 50) #[] #[.pointer (some ⟨bt, 0, none⟩), .pointer (some ⟨bk, 0, none⟩), .pointer (some ⟨bb, 0, none⟩)]] 65 (0, 0))
  kd : w.heap[bk]? = some (.cells #[.func (.func 48) #[] #[.pointer (some ⟨bt, 0, none⟩), .pointer (some ⟨bl, 0, none⟩), .pointer (some ⟨bb, 0, none⟩)]] 88 (0, 0))
  bld : IsBuilderF 55 5 B bb (byteCells out) w
  low : Below B w0 w
  hB : B ≤ bt
  nt : bt ≠ bb
  nl : bl ≠ bb
  nk : bk ≠ bb
theorem Tel.B_le {v : Value} {bt bl bk bb B : Nat} {w0 w : World} {out : List UInt8} (h : Tel v bt bl bk bb B w0 out w) : B ≤ w.heap.size := Nat.le_of_lt (Nat.lt_of_le_of_lt h.hB (block_lt h.box))
theorem Tel.wrote {v : Value} {bt bl bk bb B : Nat} {w0 w w' : World} {out x : List UInt8} (h : Tel v bt bl bk bb B w0 out w) (hb : BuilderAtF 55 5 B bb (.pointer (some ⟨bb, 0, none⟩)) (byteCells out ++ byteCells x) w') (hl : Below B w w') (ho : OthersKept 5 (some bb) w w') :
    Tel v bt bl bk bb B w0 (out ++ x) w' := by
  refine ⟨ho _ _ h.box (by simpa using h.nt) (fun c fz e => by cases e), ho _ _ h.tl (by simpa using h.nl) (fun c fz e => by cases e), ho _ _ h.kd (by simpa using h.nk) (fun c fz e => by cases e), ?_, h.low.trans hl, h.hB, h.nt, h.nl, h.nk⟩
  rw [bc_append]
  exact .inr hb
theorem builder_below {T e : TypeId} {B b : Nat} {bs : List Value} {w w' : World} (h : IsBuilderF T e B b bs w) (hb : Below w.heap.size w w') : IsBuilderF T e B b bs w' := by
  have one : ∀ p, BuilderAtF T e B b p bs w → BuilderAtF T e B b p bs w' := fun p h => by
    obtain ⟨hB, v, h1, h2, h3⟩ := h
    refine ⟨hB, v, (hb.block _ (block_lt h1)).trans h1, h2.kept (grown_of_below hb none) ?_, h3⟩
    cases hv : v.ownBlock with
    | none => exact .inl rfl
    | some g => exact .inr (by simp)
  exact h.imp (one _) (one _)
theorem Tel.below {v : Value} {bt bl bk bb B : Nat} {w0 w w' : World} {out : List UInt8} (h : Tel v bt bl bk bb B w0 out w) (hb : Below w.heap.size w w') : Tel v bt bl bk bb B w0 out w' :=
  ⟨(hb.block _ (block_lt h.box)).trans h.box, (hb.block _ (block_lt h.tl)).trans h.tl, (hb.block _ (block_lt h.kd)).trans h.kd, builder_below h.bld hb, h.low.trans (hb.mono h.B_le), h.hB, h.nt, h.nl, h.nk⟩

theorem Tel.cl {v : Value} {bt bl bk bb B : Nat} {w0 w : World} {out : List UInt8} (h : Tel v bt bl bk bb B w0 out w) : w.cell? ⟨bl, 0, none⟩ = some (.func (.func 50) #[] #[.pointer (some ⟨bt, 0, none⟩), .pointer (some ⟨bk, 0, none⟩), .pointer (some ⟨bb, 0, none⟩)]) := by rw [cell_of_heap h.tl]; rfl
theorem Tel.cb {v : Value} {bt bl bk bb B : Nat} {w0 w : World} {out : List UInt8} (h : Tel v bt bl bk bb B w0 out w) : w.cell? ⟨bt, 0, none⟩ = some v := by rw [cell_of_heap h.box]; rfl
theorem Tel.ck {v : Value} {bt bl bk bb B : Nat} {w0 w : World} {out : List UInt8} (h : Tel v bt bl bk bb B w0 out w) : w.cell? ⟨bk, 0, none⟩ = some (.func (.func 48) #[] #[.pointer (some ⟨bt, 0, none⟩), .pointer (some ⟨bl, 0, none⟩), .pointer (some ⟨bb, 0, none⟩)]) := by rw [cell_of_heap h.kd]; rfl
/-- The closure tell, the closure kid: what they do. -/
def Tells (v : Value) (bt bl bk bb B : Nat) (w0 : World) (r s : Nat) (x : List UInt8) : Prop := ∀ (out : List UInt8) (w : World), out.length + x.length + 4 * s ≤ 100000000 → Tel v bt bl bk bb B w0 out w →
  Calls Tryz.prog 50 #[.int .i64 (r : Int), .pointer (some ⟨bt, 0, none⟩), .pointer (some ⟨bk, 0, none⟩), .pointer (some ⟨bb, 0, none⟩)] w fun e w' => e = .returned (.tuple #[]) ∧ Tel v bt bl bk bb B w0 (out ++ x) w' ∧ OthersKept 5 (some bb) w w'

set_option maxHeartbeats 1000000 in
set_option maxRecDepth 20000 in
theorem kid_walk (N cap b o r s : Nat) (bt bl bk bb B : Nat) (w0 w : World) (ks : Value) (c : Bool) (kd : Int) (out x : List UInt8) (hx : out.length + x.length + 2 + 4 * s ≤ 100000000) (hr : r < N)
    (h : Tel (.slice (some ⟨b, o, none⟩) N cap) bt bl bk bb B w0 out w) (hk : w.cell? ⟨b, o + r * 7, none⟩ = some (.int .i64 kd))
    (kc : Calls Tryz.prog 49 #[ks, .int .i64 kd] w fun e w' => e = .returned (.bool c) ∧ w' = w)
    (kt : Tells (.slice (some ⟨b, o, none⟩) N cap) bt bl bk bb B w0 r s x) :
    Calls Tryz.prog 48 #[.int .i64 (r : Int), ks, .pointer (some ⟨bt, 0, none⟩), .pointer (some ⟨bl, 0, none⟩), .pointer (some ⟨bb, 0, none⟩)] w fun e w' => e = .returned (.tuple #[]) ∧ Tel (.slice (some ⟨b, o, none⟩) N cap) bt bl bk bb B w0 (out ++ brk c x) w' ∧ OthersKept 5 (some bb) w w' := by
  have cb : w.cell? ⟨bt, 0, none⟩ = some (.slice (some ⟨b, o, none⟩) N cap) := by rw [cell_of_heap h.box]; rfl
  have cl : w.cell? ⟨bl, 0, none⟩ = some (.func (.func 50) #[] #[.pointer (some ⟨bt, 0, none⟩), .pointer (some ⟨bk, 0, none⟩), .pointer (some ⟨bb, 0, none⟩)]) := by rw [cell_of_heap h.tl]; rfl
  have H := Lib.hid h
  have hw : ∀ (out : List UInt8) (c : UInt8) (w : World), out.length + 1 ≤ 100000000 → Tel (.slice (some ⟨b, o, none⟩) N cap) bt bl bk bb B w0 out w → Calls Tryz.prog 28 #[.pointer (some ⟨bb, 0, none⟩), .int .u8 (c.toNat : Int)] w fun e w' => e = .returned .nilIface ∧ Tel (.slice (some ⟨b, o, none⟩) N cap) bt bl bk bb B w0 (out ++ [c]) w' ∧ OthersKept 5 (some bb) w w' := fun out c w hl h =>
    (writeByte_any B bb (byteCells out) (c.toNat : Int) w h.bld (by rw [byteCells_length]; omega) h.B_le).mono fun e w' hh => ⟨hh.1, h.wrote hh.2.1 hh.2.2.1 hh.2.2.2, hh.2.2.2⟩
  have KT := Lib.hid kt
  clear h kt
  cases c
  · have k2 := KT.out out w (by omega) H.out
    unfold brk
    go_enter Tryz.func48, Tryz.ntmps48
    go_wp2_with (first
      | (go_at_call 49; refine kc.mono ?_; rintro e w1 ⟨rfl, hw1⟩; replace hw1 := hw1.symm; subst hw1; clear kc)
      | (go_at_call 50; refine k2.mono ?_; rintro e w2 ⟨rfl, h2, ho2⟩)
      | fail)
    exact bodyPost_ret (results_none rfl _ _ _) rfl ⟨rfl, h2, ho2⟩
  · have k40 := hw out 40 w (by omega) H.out
    have k2 := fun w (h : Tel (.slice (some ⟨b, o, none⟩) N cap) bt bl bk bb B w0 (out ++ [40]) w) => KT.out (out ++ [40]) w (by rw [List.length_append]; simp; omega) h
    have k41 := fun w (h : Tel (.slice (some ⟨b, o, none⟩) N cap) bt bl bk bb B w0 ((out ++ [40]) ++ x) w) => hw ((out ++ [40]) ++ x) 41 w (by rw [List.length_append, List.length_append]; simp; omega) h
    have e40 : ((40 : UInt8).toNat : Int) = 40 := rfl
    have e41 : ((41 : UInt8).toNat : Int) = 41 := rfl
    rw [e40] at k40
    rw [e41] at k41
    clear e40 e41 hw
    go_enter Tryz.func48, Tryz.ntmps48
    go_wp2_with (first
      | (go_at_call 49; refine kc.mono ?_; rintro e w1 ⟨rfl, hw1⟩; replace hw1 := hw1.symm; subst hw1; clear kc)
      | (go_at_call 28; first
          | (with_reducible refine k40.mono ?_; rintro e w2 ⟨rfl, h2, ho2⟩; have H2 := Lib.hid h2; clear k40 cl; have cl := H2.out.cl)
          | (with_reducible refine (k41 _ H3.out).mono ?_; rintro e w4 ⟨rfl, h4, ho4⟩))
      | (go_at_call 50; refine (k2 _ H2.out).mono ?_; rintro e w3 ⟨rfl, h3, ho3⟩; have H3 := Lib.hid h3; clear h3)
      | fail)
    go_end0
    refine ⟨rfl, ?_, (ho2.trans ho3).trans ho4⟩
    have e : out ++ brk true x = ((out ++ [40]) ++ x) ++ [41] := by unfold brk; simp
    rw [e]
    exact h4
theorem kept_below {e : TypeId} {b : Option Nat} {w w' : World} (h : Below w.heap.size w w') : OthersKept e b w w' := fun k _ hk _ _ => (h.block k (block_lt hk)).trans hk
theorem Tel.writeS {v : Value} {bt bl bk bb B : Nat} {w0 w : World} {out : List UInt8} (h : Tel v bt bl bk bb B w0 out w) (x : List UInt8) (hl : out.length + x.length ≤ 100000000) :
    Calls Tryz.prog 26 #[.pointer (some ⟨bb, 0, none⟩), .string ⟨x.toArray⟩] w fun e w' => (∃ u, e = .returned u) ∧ Tel v bt bl bk bb B w0 (out ++ x) w' ∧ OthersKept 5 (some bb) w w' :=
  (writeString_any B bb (byteCells out) ⟨x.toArray⟩ w h.bld (by rw [byteCells_length]; show _ + x.toArray.size ≤ _; rw [List.size_toArray]; omega) h.B_le).mono fun e w' hh => ⟨⟨_, hh.1⟩, h.wrote hh.2.1 hh.2.2.1 hh.2.2.2, hh.2.2.2⟩

set_option maxHeartbeats 2000000 in
set_option maxRecDepth 20000 in
theorem tell_leaf (N cap b o r : Nat) (bt bl bk bb B : Nat) (w0 w : World) (nd : Nd) (out : List UInt8) (hx : out.length + (leafT nd).length ≤ 100000000) (hr : r < N) (hk : nd.k = 0 ∨ nd.k = 1 ∨ nd.k = 7 ∨ nd.k = 8)
    (h : Tel (.slice (some ⟨b, o, none⟩) N cap) bt bl bk bb B w0 out w) (hat : NdAt b (o + r * 7) nd w) :
    Calls Tryz.prog 50 #[.int .i64 (r : Int), .pointer (some ⟨bt, 0, none⟩), .pointer (some ⟨bk, 0, none⟩), .pointer (some ⟨bb, 0, none⟩)] w fun e w' => e = .returned (.tuple #[]) ∧ Tel (.slice (some ⟨b, o, none⟩) N cap) bt bl bk bb B w0 (out ++ leafT nd) w' ∧ OthersKept 5 (some bb) w w' := by
  have kl := fun w => leaf_text nd w
  have cb := h.cb
  have H := Lib.hid h
  obtain ⟨a0, a1, a2, a3, a4, a5, a6⟩ := hat
  obtain ⟨X, hX⟩ : ∃ X, X = leafT nd := ⟨_, rfl⟩
  rw [← hX] at kl hx ⊢
  clear hX
  have n2 : (nd.k == 2) = false := by rw [beq_eq_false_iff_ne]; omega
  have n3 : (nd.k == 3) = false := by rw [beq_eq_false_iff_ne]; omega
  have n4 : (nd.k == 4) = false := by rw [beq_eq_false_iff_ne]; omega
  have n5 : (nd.k == 5) = false := by rw [beq_eq_false_iff_ne]; omega
  have n6 : (nd.k == 6) = false := by rw [beq_eq_false_iff_ne]; omega
  unfold Nd.val wd at kl
  unfold wd at a1 a2 a3 a4
  clear h hk
  go_enter Tryz.func50, Tryz.ntmps50
  go_wp2_with (first
    | (go_at_call 52; refine (kl _).mono ?_; rintro e w1 ⟨rfl, hb1⟩
       have hbb : Below w.heap.size w w1 := ((Below.refl _ w).alloc (Nat.le_refl _) _).trans (hb1.mono (by simp))
       have H1 := Lib.hid (H.out.below hbb)
       have HO1 := Lib.hid (kept_below (e := 5) (b := some bb) hbb)
       clear hb1 hbb)
    | (go_at_call 26; refine (H1.out.writeS X hx).mono ?_; rintro e w2 ⟨⟨u, rfl⟩, h2, ho2⟩)
    | fail)
  go_end0
  exact ⟨rfl, h2, HO1.out.trans ho2⟩
end Go.Proofs.YtgceckejchdnlaaGreatDoor
namespace Go.Proofs.YtgceckejchdnlaaGreatDoor
open Go.RowKit Go.Lib

theorem heap_alloc_new2 (w : World) (X Y : Obj) : ((w.alloc X).alloc Y).heap[w.heap.size + 1]? = some Y := by
  have h := heap_alloc_new (w.alloc X) Y
  rwa [World.size_alloc] at h
theorem Tel.bld_lt {v : Value} {bt bl bk bb B : Nat} {w0 w : World} {out : List UInt8} (h : Tel v bt bl bk bb B w0 out w) : bb < w.heap.size := by
  rcases h.bld with ⟨_, _, h1, _⟩ | ⟨_, _, h1, _⟩
  · exact block_lt h1
  · exact block_lt h1
theorem tel_two {v : Value} {bt bl bk bb B : Nat} {w0 w : World} {out : List UInt8} (h : Tel v bt bl bk bb B w0 out w) (X Y : Obj) :
    Tel v bt bl bk bb B w0 out ((w.alloc X).alloc Y) ∧ ((w.alloc X).alloc Y).heap[w.heap.size + 1]? = some Y ∧ ((w.alloc X).alloc Y).heap[w.heap.size]? = some X ∧ OthersKept 5 (some bb) w ((w.alloc X).alloc Y) := by
  have hb : Below w.heap.size w ((w.alloc X).alloc Y) := ((Below.refl _ w).alloc (Nat.le_refl _) _).alloc (by simp) _
  exact ⟨h.below hb, heap_alloc_new2 _ _ _, (Below.heap_alloc _ _ _ (by simp)).trans (heap_alloc_new w _), kept_below hb⟩
theorem tel_one {v : Value} {bt bl bk bb B : Nat} {w0 w : World} {out : List UInt8} (h : Tel v bt bl bk bb B w0 out w) (X : Obj) :
    Tel v bt bl bk bb B w0 out (w.alloc X) ∧ (w.alloc X).heap[w.heap.size]? = some X ∧ OthersKept 5 (some bb) w (w.alloc X) := by
  have hb : Below w.heap.size w (w.alloc X) := (Below.refl _ w).alloc (Nat.le_refl _) _
  exact ⟨h.below hb, heap_alloc_new w _, kept_below hb⟩
theorem some_ne {a b : Nat} (h : b < a) : (some a : Option Nat) ≠ some b := fun e => by cases e; omega
/-- The closure kid, where it is asked of some kinds. -/
theorem kid_at (zs : List Int) (g N cap b o r s : Nat) (bt bl bk bb B : Nat) (w0 w : World) (t : TypeId) (kd : Int) (out x : List UInt8) (hx : out.length + x.length + 2 + 4 * s ≤ 100000000) (hr : r < N) (hzs : zs.length ≤ 2) (hg : w.heap[g]? = some (.cells ⟨ints zs⟩ t (0, 0)))
    (h : Tel (.slice (some ⟨b, o, none⟩) N cap) bt bl bk bb B w0 out w) (hk : w.cell? ⟨b, o + r * 7, none⟩ = some (.int .i64 kd)) (kt : Tells (.slice (some ⟨b, o, none⟩) N cap) bt bl bk bb B w0 r s x) :
    Calls Tryz.prog 48 #[.int .i64 (r : Int), .slice (some ⟨g, 0, none⟩) zs.length zs.length, .pointer (some ⟨bt, 0, none⟩), .pointer (some ⟨bl, 0, none⟩), .pointer (some ⟨bb, 0, none⟩)] w fun e w' => e = .returned (.tuple #[]) ∧ Tel (.slice (some ⟨b, o, none⟩) N cap) bt bl bk bb B w0 (out ++ brk (zs.contains kd) x) w' ∧ OthersKept 5 (some bb) w w' := by
  refine kid_walk N cap b o r s bt bl bk bb B w0 w _ _ kd out x hx hr h hk ?_ kt
  have hc := Tryz.slices_Contains_int g 0 zs.length zs.length zs kd w (Nat.le_refl _) (by omega) (fun j hj => by
    rw [Nat.zero_add, cell_of_heap hg]
    have : (ints zs)[j]? = some (.int .i64 (zs.getD j 0)) := by
      unfold ints
      rw [List.getElem?_map, List.getElem?_eq_getElem hj, List.getD_eq_getElem?_getD, List.getElem?_eq_getElem hj]
      rfl
    simpa using this)
  rwa [List.take_of_length_le (Nat.le_refl _)] at hc
theorem kid_nil (N cap b o r s : Nat) (bt bl bk bb B : Nat) (w0 w : World) (kd : Int) (out x : List UInt8) (hx : out.length + x.length + 2 + 4 * s ≤ 100000000) (hr : r < N)
    (h : Tel (.slice (some ⟨b, o, none⟩) N cap) bt bl bk bb B w0 out w) (hk : w.cell? ⟨b, o + r * 7, none⟩ = some (.int .i64 kd)) (kt : Tells (.slice (some ⟨b, o, none⟩) N cap) bt bl bk bb B w0 r s x) :
    Calls Tryz.prog 48 #[.int .i64 (r : Int), .slice none 0 0, .pointer (some ⟨bt, 0, none⟩), .pointer (some ⟨bl, 0, none⟩), .pointer (some ⟨bb, 0, none⟩)] w fun e w' => e = .returned (.tuple #[]) ∧ Tel (.slice (some ⟨b, o, none⟩) N cap) bt bl bk bb B w0 (out ++ x) w' ∧ OthersKept 5 (some bb) w w' :=
  kid_walk N cap b o r s bt bl bk bb B w0 w _ false kd out x hx hr h hk (Tryz.slices_Contains_int_empty none 0 kd w) kt

set_option maxHeartbeats 2000000 in
set_option maxRecDepth 20000 in
theorem tell_rep (N cap b o r ra j : Nat) (bt bl bk bb B : Nat) (w0 w : World) (nd : Nd) (out y : List UInt8) (hx : out.length + y.length + 2 ≤ 100000000) (hr : r < N) (hj : j = 4 ∨ j = 5 ∨ j = 6) (hk : nd.k = (j : Int)) (hra : nd.x = (ra : Int))
    (h : Tel (.slice (some ⟨b, o, none⟩) N cap) bt bl bk bb B w0 out w) (hat : NdAt b (o + r * 7) nd w)
    (kk : ∀ (w : World) (g : Nat), Tel (.slice (some ⟨b, o, none⟩) N cap) bt bl bk bb B w0 out w → w.heap[g]? = some (.cells #[.int .i64 3, .int .i64 2] 3 (0, 0)) → Calls Tryz.prog 48 #[.int .i64 (ra : Int), .slice (some ⟨g, 0, none⟩) 2 2, .pointer (some ⟨bt, 0, none⟩), .pointer (some ⟨bl, 0, none⟩), .pointer (some ⟨bb, 0, none⟩)] w fun e w' => e = .returned (.tuple #[]) ∧ Tel (.slice (some ⟨b, o, none⟩) N cap) bt bl bk bb B w0 (out ++ y) w' ∧ OthersKept 5 (some bb) w w') :
    Calls Tryz.prog 50 #[.int .i64 (r : Int), .pointer (some ⟨bt, 0, none⟩), .pointer (some ⟨bk, 0, none⟩), .pointer (some ⟨bb, 0, none⟩)] w fun e w' => e = .returned (.tuple #[]) ∧ Tel (.slice (some ⟨b, o, none⟩) N cap) bt bl bk bb B w0 (out ++ (y ++ [signL j])) w' ∧ OthersKept 5 (some bb) w w' := by
  have cb := h.cb
  have ck := h.ck
  have cka := fun o => cell_alloc ck o
  have H := Lib.hid h
  obtain ⟨a0, a1, a2, a3, a4, a5, a6⟩ := hat
  unfold wd at a1 a2 a3 a4
  clear h
  have ks := fun w => sign_text j hj w
  rw [hk] at a0
  rw [hra] at a5
  have n2 : ((j : Int) == 2) = false := by rw [beq_eq_false_iff_ne]; omega
  have n3 : ((j : Int) == 3) = false := by rw [beq_eq_false_iff_ne]; omega
  rcases hj with rfl | rfl | rfl
  all_goals
    clear n2 n3
    go_enter Tryz.func50, Tryz.ntmps50
    go_wp2_with (first
      | (go_at_call 48
         refine (kk _ _ (tel_two H.out _ _).1 (tel_two H.out _ _).2.1).mono ?_
         rintro e w2 ⟨rfl, h2, ho2⟩
         have hG := ho2 _ _ (tel_two H.out _ _).2.2.1 (some_ne H.out.bld_lt) (fun c fz e => by cases e)
         obtain ⟨q0, q1, q2, q3, q4, q5, q6⟩ := node_cells hG
         have HO2 := Lib.hid ((tel_two H.out _ _).2.2.2.trans ho2)
         have H2 := Lib.hid h2
         clear hG ho2 h2 kk a0 a1 a2 a3 a4 a5 a6)
      | (go_at_call 51; refine (ks _).mono ?_; rintro e w3 ⟨rfl, hw3⟩; replace hw3 := hw3.symm; subst hw3; clear ks)
      | (go_at_call 26; refine (H2.out.writeS [signL _] (by rw [List.length_append]; simp; omega)).mono ?_; rintro e w4 ⟨⟨u, rfl⟩, h4, ho4⟩)
      | fail)
    go_end0
    exact ⟨rfl, by rw [← List.append_assoc]; exact h4, HO2.out.trans ho4⟩
set_option maxHeartbeats 2000000 in
set_option maxRecDepth 20000 in
theorem tell_cat (N cap b o r ra rb : Nat) (bt bl bk bb B : Nat) (w0 w : World) (nd : Nd) (out y z : List UInt8) (_hx : out.length + y.length + z.length + 4 ≤ 100000000) (hr : r < N) (hk : nd.k = 2) (hra : nd.x = (ra : Int)) (hrb : nd.y = (rb : Int))
    (h : Tel (.slice (some ⟨b, o, none⟩) N cap) bt bl bk bb B w0 out w) (hat : NdAt b (o + r * 7) nd w)
    (kk : ∀ (w : World) (g : Nat), Tel (.slice (some ⟨b, o, none⟩) N cap) bt bl bk bb B w0 out w → w.heap[g]? = some (.cells #[.int .i64 3] 3 (0, 0)) → Calls Tryz.prog 48 #[.int .i64 (ra : Int), .slice (some ⟨g, 0, none⟩) 1 1, .pointer (some ⟨bt, 0, none⟩), .pointer (some ⟨bl, 0, none⟩), .pointer (some ⟨bb, 0, none⟩)] w fun e w' => e = .returned (.tuple #[]) ∧ Tel (.slice (some ⟨b, o, none⟩) N cap) bt bl bk bb B w0 (out ++ y) w' ∧ OthersKept 5 (some bb) w w')
    (kk2 : ∀ (w : World) (g : Nat), Tel (.slice (some ⟨b, o, none⟩) N cap) bt bl bk bb B w0 (out ++ y) w → w.heap[g]? = some (.cells #[.int .i64 3, .int .i64 2] 3 (0, 0)) → Calls Tryz.prog 48 #[.int .i64 (rb : Int), .slice (some ⟨g, 0, none⟩) 2 2, .pointer (some ⟨bt, 0, none⟩), .pointer (some ⟨bl, 0, none⟩), .pointer (some ⟨bb, 0, none⟩)] w fun e w' => e = .returned (.tuple #[]) ∧ Tel (.slice (some ⟨b, o, none⟩) N cap) bt bl bk bb B w0 ((out ++ y) ++ z) w' ∧ OthersKept 5 (some bb) w w') :
    Calls Tryz.prog 50 #[.int .i64 (r : Int), .pointer (some ⟨bt, 0, none⟩), .pointer (some ⟨bk, 0, none⟩), .pointer (some ⟨bb, 0, none⟩)] w fun e w' => e = .returned (.tuple #[]) ∧ Tel (.slice (some ⟨b, o, none⟩) N cap) bt bl bk bb B w0 (out ++ (y ++ z)) w' ∧ OthersKept 5 (some bb) w w' := by
  have cb := h.cb
  have ck := h.ck
  have cka := fun o => cell_alloc ck o
  have H := Lib.hid h
  obtain ⟨a0, a1, a2, a3, a4, a5, a6⟩ := hat
  unfold wd at a1 a2 a3 a4
  clear h
  rw [hk] at a0
  rw [hra] at a5
  rw [hrb] at a6
  go_enter Tryz.func50, Tryz.ntmps50
  go_wp2_with (first
    | (go_at_call 48; first
      | (refine (kk _ _ (tel_two H.out _ _).1 (tel_two H.out _ _).2.1).mono ?_
         rintro e w2 ⟨rfl, h2, ho2⟩
         have hG := ho2 _ _ (tel_two H.out _ _).2.2.1 (some_ne H.out.bld_lt) (fun c fz e => by cases e)
         obtain ⟨q0, q1, q2, q3, q4, q5, q6⟩ := node_cells hG
         have HG := Lib.hid hG
         have HO2 := Lib.hid ((tel_two H.out _ _).2.2.2.trans ho2)
         have H2 := Lib.hid h2
         have ck2 := h2.ck
         clear hG ho2 h2 kk a0 a1 a2 a3 a4 a5 a6 cka ck cb)
      | (refine (kk2 _ _ (tel_one H2.out _).1 (tel_one H2.out _).2.1).mono ?_
         rintro e w3 ⟨rfl, h3, ho3⟩
         have HO3 := Lib.hid ((HO2.out.trans (tel_one H2.out _).2.2).trans ho3)
         have H3 := Lib.hid h3
         clear ho3 h3 kk2))
    | fail)
  go_end0
  exact ⟨rfl, by rw [← List.append_assoc]; exact H3.out, HO3.out⟩
set_option maxHeartbeats 2000000 in
set_option maxRecDepth 20000 in
theorem tell_alt (N cap b o r ra rb : Nat) (bt bl bk bb B : Nat) (w0 w : World) (nd : Nd) (out y z : List UInt8) (hx : out.length + y.length + z.length + 4 ≤ 100000000) (hr : r < N) (hk : nd.k = 3) (hra : nd.x = (ra : Int)) (hrb : nd.y = (rb : Int))
    (h : Tel (.slice (some ⟨b, o, none⟩) N cap) bt bl bk bb B w0 out w) (hat : NdAt b (o + r * 7) nd w)
    (kk : ∀ (w : World), Tel (.slice (some ⟨b, o, none⟩) N cap) bt bl bk bb B w0 out w → Calls Tryz.prog 48 #[.int .i64 (ra : Int), .slice none 0 0, .pointer (some ⟨bt, 0, none⟩), .pointer (some ⟨bl, 0, none⟩), .pointer (some ⟨bb, 0, none⟩)] w fun e w' => e = .returned (.tuple #[]) ∧ Tel (.slice (some ⟨b, o, none⟩) N cap) bt bl bk bb B w0 (out ++ y) w' ∧ OthersKept 5 (some bb) w w')
    (kk2 : ∀ (w : World) (g : Nat), Tel (.slice (some ⟨b, o, none⟩) N cap) bt bl bk bb B w0 ((out ++ y) ++ [124]) w → w.heap[g]? = some (.cells #[.int .i64 3] 3 (0, 0)) → Calls Tryz.prog 48 #[.int .i64 (rb : Int), .slice (some ⟨g, 0, none⟩) 1 1, .pointer (some ⟨bt, 0, none⟩), .pointer (some ⟨bl, 0, none⟩), .pointer (some ⟨bb, 0, none⟩)] w fun e w' => e = .returned (.tuple #[]) ∧ Tel (.slice (some ⟨b, o, none⟩) N cap) bt bl bk bb B w0 (((out ++ y) ++ [124]) ++ z) w' ∧ OthersKept 5 (some bb) w w') :
    Calls Tryz.prog 50 #[.int .i64 (r : Int), .pointer (some ⟨bt, 0, none⟩), .pointer (some ⟨bk, 0, none⟩), .pointer (some ⟨bb, 0, none⟩)] w fun e w' => e = .returned (.tuple #[]) ∧ Tel (.slice (some ⟨b, o, none⟩) N cap) bt bl bk bb B w0 (out ++ (y ++ 124 :: z)) w' ∧ OthersKept 5 (some bb) w w' := by
  have cb := h.cb
  have ck := h.ck
  have cka := fun o => cell_alloc ck o
  have H := Lib.hid h
  obtain ⟨a0, a1, a2, a3, a4, a5, a6⟩ := hat
  unfold wd at a1 a2 a3 a4
  clear h
  rw [hk] at a0
  rw [hra] at a5
  rw [hrb] at a6
  have hw : ∀ w, Tel (.slice (some ⟨b, o, none⟩) N cap) bt bl bk bb B w0 (out ++ y) w → Calls Tryz.prog 28 #[.pointer (some ⟨bb, 0, none⟩), .int .u8 124] w fun e w' => e = .returned .nilIface ∧ Tel (.slice (some ⟨b, o, none⟩) N cap) bt bl bk bb B w0 ((out ++ y) ++ [124]) w' ∧ OthersKept 5 (some bb) w w' := fun w h =>
    (writeByte_any B bb (byteCells (out ++ y)) 124 w h.bld (by rw [byteCells_length, List.length_append]; omega) h.B_le).mono fun e w' hh => ⟨hh.1, h.wrote (x := [124]) hh.2.1 hh.2.2.1 hh.2.2.2, hh.2.2.2⟩
  go_enter Tryz.func50, Tryz.ntmps50
  go_wp2_with (first
    | (go_at_call 48; first
      | (refine (kk _ (tel_one H.out _).1).mono ?_
         rintro e w2 ⟨rfl, h2, ho2⟩
         have HG0 := Lib.hid (ho2 _ _ (tel_one H.out _).2.1 (some_ne H.out.bld_lt) (fun c fz e => by cases e))
         have HO2 := Lib.hid ((tel_one H.out _).2.2.trans ho2)
         have H2 := Lib.hid h2
         clear ho2 h2 kk a0 a1 a2 a3 a4 a5 a6 cka ck cb)
      | (refine (kk2 _ _ (tel_one H3.out _).1 (tel_one H3.out _).2.1).mono ?_
         rintro e w4 ⟨rfl, h4, ho4⟩
         have HO4 := Lib.hid ((HO3.out.trans (tel_one H3.out _).2.2).trans ho4)
         have H4 := Lib.hid h4
         clear ho4 h4 kk2))
    | (go_at_call 28; refine (hw _ H2.out).mono ?_
       rintro e w3 ⟨rfl, h3, ho3⟩
       have hG := ho3 _ _ HG0.out (some_ne H.out.bld_lt) (fun c fz e => by cases e)
       obtain ⟨q0, q1, q2, q3, q4, q5, q6⟩ := node_cells hG
       have HG := Lib.hid hG
       have HO3 := Lib.hid (HO2.out.trans ho3)
       have H3 := Lib.hid h3
       have ck3 := h3.ck
       clear hG ho3 h3 hw)
    | fail)
  go_end0
  exact ⟨rfl, by have e : out ++ (y ++ 124 :: z) = ((out ++ y) ++ [124]) ++ z := by simp
                 rw [e]; exact H4.out, HO4.out⟩

theorem node_kind : ∀ (t : Tr) (n : Nat), (t.node n).k = (t.kind : Int)
  | .leaf _, _ => rfl
  | .set _, _ => rfl
  | .rep _ _, _ => rfl
  | .two _ _ _, _ => rfl
theorem leaf_txt (j : Nat) (hj : j = 0 ∨ j = 7 ∨ j = 8) : leafT ⟨(j : Int), k0, 0, 0⟩ = leafL j := by rcases hj with rfl | rfl | rfl <;> rfl
theorem set_txt (k : K4) : leafT ⟨1, k, 0, 0⟩ = toldK k := rfl
theorem has32 (k : Nat) : ([3, 2] : List Int).contains (k : Int) = (k == 3 || k == 2) := by
  rw [Bool.eq_iff_iff]; simp; omega
theorem has3 (k : Nat) : ([3] : List Int).contains (k : Int) = (k == 3) := by
  rw [Bool.eq_iff_iff]; simp; omega
theorem brk_len (c : Bool) (l : List UInt8) : l.length ≤ (brk c l).length ∧ (brk c l).length ≤ l.length + 2 := by
  unfold brk
  cases c
  · exact ⟨Nat.le_refl _, Nat.le_add_right _ _⟩
  · simp
    omega
theorem tell_does (ts : List Nd) (N cap b o : Nat) (bt bl bk bb : Nat) (w0 : World) (hL : Lies (.slice (some ⟨b, o, none⟩) N cap) ts w0) : ∀ (t : Tr), t.ok → ∀ (n r : Nat), Sub ts t n → r + 1 = n + t.size → Tells (.slice (some ⟨b, o, none⟩) N cap) bt bl bk bb w0.heap.size w0 r t.size t.txt := by
  have hN : N = ts.length := by obtain ⟨_, _, h1, _⟩ := hL; cases h1; rfl
  have at_ : ∀ {t : Tr} {n r : Nat} {out : List UInt8} {w : World}, Sub ts t n → r + 1 = n + t.size → Tel (.slice (some ⟨b, o, none⟩) N cap) bt bl bk bb w0.heap.size w0 out w → NdAt b (o + r * 7) (t.node n) w ∧ r < N := fun {t n r out w} hs hr hT => by
    have hroot := hs.root hr
    obtain ⟨b', o', h1, h2, h3⟩ := hL.at hroot
    cases h1
    refine ⟨h3.below hT.low h2, ?_⟩
    rw [hN]
    by_cases hlt : r < ts.length
    · exact hlt
    · rw [List.getElem?_eq_none (by omega)] at hroot; cases hroot
  intro t
  induction t with
  | leaf j =>
    intro hok n r hs hr out w hx h
    obtain ⟨ha, hlt⟩ := at_ hs hr h
    have hj : j = 0 ∨ j = 7 ∨ j = 8 := hok
    have e : (Tr.leaf j).txt = leafT ⟨(j : Int), k0, 0, 0⟩ := (leaf_txt j hj).symm
    rw [e] at hx ⊢
    exact tell_leaf N cap b o r bt bl bk bb _ w0 w _ out (by omega) hlt (by show (j : Int) = 0 ∨ (j : Int) = 1 ∨ (j : Int) = 7 ∨ (j : Int) = 8; omega) h ha
  | set k =>
    intro hok n r hs hr out w hx h
    obtain ⟨ha, hlt⟩ := at_ hs hr h
    have e : (Tr.set k).txt = leafT ⟨1, k, 0, 0⟩ := (set_txt k).symm
    rw [e] at hx ⊢
    exact tell_leaf N cap b o r bt bl bk bb _ w0 w _ out (by omega) hlt (.inr (.inl rfl)) h ha
  | rep j a ih =>
    intro hok n r hs hr out w hx h
    obtain ⟨hj, hoka⟩ := hok
    obtain ⟨ha, hlt⟩ := at_ hs hr h
    have hpa := a.size_pos
    have hr' : r + 1 = n + (a.size + 1) := hr
    obtain ⟨ra, hra⟩ : ∃ ra, ra + 1 = n + a.size := ⟨n + a.size - 1, by omega⟩
    have hx' : out.length + (brk (a.kind == 3 || a.kind == 2) a.txt ++ [signL j]).length + 4 * (a.size + 1) ≤ 100000000 := hx
    rw [List.length_append, List.length_singleton] at hx'
    have hbl := brk_len (a.kind == 3 || a.kind == 2) a.txt
    refine tell_rep N cap b o r ra j bt bl bk bb _ w0 w _ out _ (by omega) hlt hj rfl (by show (n : Int) + a.size - 1 = _; omega) h ha fun w g h hg => ?_
    obtain ⟨hka, hlta⟩ := at_ hs.rep hra h
    have hk := hka.1
    rw [node_kind] at hk
    have hh := kid_at [3, 2] g N cap b o ra a.size bt bl bk bb _ w0 w _ _ out a.txt (by omega) hlta (Nat.le_refl _) hg h hk (ih hoka n ra hs.rep hra)
    rwa [has32] at hh
  | two j a b' iha ihb =>
    intro hok n r hs hr out w hx h
    obtain ⟨hj, hoka, hokb⟩ := hok
    obtain ⟨ha, hlt⟩ := at_ hs hr h
    have hpa := a.size_pos
    have hpb := b'.size_pos
    have hr' : r + 1 = n + (a.size + b'.size + 1) := hr
    obtain ⟨ra, hra⟩ : ∃ ra, ra + 1 = n + a.size := ⟨n + a.size - 1, by omega⟩
    obtain ⟨rb, hrb⟩ : ∃ rb, rb + 1 = n + a.size + b'.size := ⟨n + a.size + b'.size - 1, by omega⟩
    have hx' : out.length + (Tr.two j a b').txt.length + 4 * (a.size + b'.size + 1) ≤ 100000000 := hx
    rcases hj with rfl | rfl
    · have e : (Tr.two 2 a b').txt = brk (a.kind == 3) a.txt ++ brk (b'.kind == 3 || b'.kind == 2) b'.txt := rfl
      rw [e] at hx' ⊢
      rw [List.length_append] at hx'
      have hbla := brk_len (a.kind == 3) a.txt
      have hblb := brk_len (b'.kind == 3 || b'.kind == 2) b'.txt
      refine tell_cat N cap b o r ra rb bt bl bk bb _ w0 w _ out _ _ (by omega) hlt rfl (by show (n : Int) + a.size - 1 = _; omega) (by show (n : Int) + a.size + b'.size - 1 = _; omega) h ha (fun w g h hg => ?_) (fun w g h hg => ?_)
      · obtain ⟨hka, hlta⟩ := at_ hs.fst hra h
        have hk := hka.1
        rw [node_kind] at hk
        have hh := kid_at [3] g N cap b o ra a.size bt bl bk bb _ w0 w _ _ out a.txt (by omega) hlta (by decide) hg h hk (iha hoka n ra hs.fst hra)
        rwa [has3] at hh
      · obtain ⟨hka, hlta⟩ := at_ hs.snd hrb h
        have hk := hka.1
        rw [node_kind] at hk
        have hh := kid_at [3, 2] g N cap b o rb b'.size bt bl bk bb _ w0 w _ _ (out ++ brk (a.kind == 3) a.txt) b'.txt (by rw [List.length_append]; omega) hlta (by decide) hg h hk (ihb hokb (n + a.size) rb hs.snd hrb)
        rwa [has32] at hh
    · have e : (Tr.two 3 a b').txt = a.txt ++ 124 :: brk (b'.kind == 3) b'.txt := rfl
      rw [e] at hx' ⊢
      rw [List.length_append, List.length_cons] at hx'
      have hblb := brk_len (b'.kind == 3) b'.txt
      refine tell_alt N cap b o r ra rb bt bl bk bb _ w0 w _ out _ _ (by omega) hlt rfl (by show (n : Int) + a.size - 1 = _; omega) (by show (n : Int) + a.size + b'.size - 1 = _; omega) h ha (fun w h => ?_) (fun w g h hg => ?_)
      · obtain ⟨hka, hlta⟩ := at_ hs.fst hra h
        have hk := hka.1
        exact kid_nil N cap b o ra a.size bt bl bk bb _ w0 w _ out a.txt (by omega) hlta h hk (iha hoka n ra hs.fst hra)
      · obtain ⟨hka, hlta⟩ := at_ hs.snd hrb h
        have hk := hka.1
        rw [node_kind] at hk
        have hh := kid_at [3] g N cap b o rb b'.size bt bl bk bb _ w0 w _ _ ((out ++ a.txt) ++ [124]) b'.txt (by rw [List.length_append, List.length_append, List.length_singleton]; omega) hlta (by decide) hg h hk (ihb hokb (n + a.size) rb hs.snd hrb)
        rwa [has3] at hh
end Go.Proofs.YtgceckejchdnlaaGreatDoor
namespace Go.Proofs.YtgceckejchdnlaaGreatDoor
open Go.RowKit Go.Lib

theorem txtT_len : ∀ t : Tr, t.txt.length ≤ 2310 * t.size
  | .leaf j => by
    show (leafL j).length ≤ 2310 * 1
    unfold leafL
    split
    · simp
    · split <;> simp
  | .set k => by
    have := told_len k
    show (toldK k).length ≤ 2310 * 1
    omega
  | .rep j a => by
    have h := txtT_len a
    have hb := brk_len (a.kind == 3 || a.kind == 2) a.txt
    show (brk (a.kind == 3 || a.kind == 2) a.txt ++ [signL j]).length ≤ 2310 * (a.size + 1)
    rw [List.length_append, List.length_singleton]
    omega
  | .two j a b => by
    have ha := txtT_len a
    have hb := txtT_len b
    have h1 := brk_len (a.kind == 3) a.txt
    have h2 := brk_len (b.kind == 3 || b.kind == 2) b.txt
    have h3 := brk_len (b.kind == 3) b.txt
    show (if j = 2 then brk (a.kind == 3) a.txt ++ brk (b.kind == 3 || b.kind == 2) b.txt else a.txt ++ 124 :: brk (b.kind == 3) b.txt).length ≤ 2310 * (a.size + b.size + 1)
    split
    · rw [List.length_append]; omega
    · rw [List.length_append, List.length_cons]; omega

/-- What is laid ahead of the telling. -/
structure Laid (w w1 : World) (v : Value) : Prop where
  l1 : (((w1.alloc (.cells #[.pointer none, .slice none 0 0] 55)).alloc (.cells #[(.func (.func 50) #[] #[.pointer (some ⟨w.heap.size, 0, none⟩), .pointer (some ⟨w1.heap.size + 1 + 1, 0, none⟩), .pointer (some ⟨w1.heap.size, 0, none⟩)])] 65)).alloc (.cells #[(.func (.func 48) #[] #[.pointer (some ⟨w.heap.size, 0, none⟩), .pointer (some ⟨w1.heap.size + 1, 0, none⟩), .pointer (some ⟨w1.heap.size, 0, none⟩)])] 88)).cell? ⟨w.heap.size, 0, none⟩ = some v
  tel : Tel v w.heap.size (w1.heap.size + 1) (w1.heap.size + 1 + 1) w1.heap.size w.heap.size w [] (((w1.alloc (.cells #[.pointer none, .slice none 0 0] 55)).alloc (.cells #[(.func (.func 50) #[] #[.pointer (some ⟨w.heap.size, 0, none⟩), .pointer (some ⟨w1.heap.size + 1 + 1, 0, none⟩), .pointer (some ⟨w1.heap.size, 0, none⟩)])] 65)).alloc (.cells #[(.func (.func 48) #[] #[.pointer (some ⟨w.heap.size, 0, none⟩), .pointer (some ⟨w1.heap.size + 1, 0, none⟩), .pointer (some ⟨w1.heap.size, 0, none⟩)])] 88))
theorem text_lay (w w1 : World) (v : Value) (hb : Below (w.alloc (.cells #[v] 31)).heap.size (w.alloc (.cells #[v] 31)) w1) : Laid w w1 v := by
  have hs : w.heap.size < w1.heap.size := by have := hb.size; simp at this; omega
  have h0 : w1.heap[w.heap.size]? = some (.cells #[v] 31 (0, 0)) := (hb.block _ (by simp)).trans (heap_alloc_new w _)
  have hw1 : Below w.heap.size w w1 := ((Below.refl _ w).alloc (Nat.le_refl _) _).trans (hb.mono (by simp))
  have key : ∀ P1 P2 : Value, (((w1.alloc (.cells #[.pointer none, .slice none 0 0] 55)).alloc (.cells #[P1] 65)).alloc (.cells #[P2] 88)).heap[w1.heap.size + 1 + 1]? = some (.cells #[P2] 88 (0, 0)) ∧ (((w1.alloc (.cells #[.pointer none, .slice none 0 0] 55)).alloc (.cells #[P1] 65)).alloc (.cells #[P2] 88)).heap[w1.heap.size + 1]? = some (.cells #[P1] 65 (0, 0)) ∧ (((w1.alloc (.cells #[.pointer none, .slice none 0 0] 55)).alloc (.cells #[P1] 65)).alloc (.cells #[P2] 88)).heap[w1.heap.size]? = some (.cells #[.pointer none, .slice none 0 0] 55 (0, 0)) ∧ (((w1.alloc (.cells #[.pointer none, .slice none 0 0] 55)).alloc (.cells #[P1] 65)).alloc (.cells #[P2] 88)).heap[w.heap.size]? = some (.cells #[v] 31 (0, 0)) ∧ Below w.heap.size w (((w1.alloc (.cells #[.pointer none, .slice none 0 0] 55)).alloc (.cells #[P1] 65)).alloc (.cells #[P2] 88)) := fun P1 P2 => by
    have z1 : (w1.alloc (.cells #[.pointer none, .slice none 0 0] 55)).heap.size = w1.heap.size + 1 := by simp
    have z2 : ((w1.alloc (.cells #[.pointer none, .slice none 0 0] 55)).alloc (.cells #[P1] 65)).heap.size = w1.heap.size + 1 + 1 := by simp
    refine ⟨?_, ?_, ?_, ?_, ((hw1.alloc hw1.size _).alloc (by rw [z1]; omega) _).alloc (by rw [z2]; omega) _⟩
    · have h := heap_alloc_new ((w1.alloc (.cells #[.pointer none, .slice none 0 0] 55)).alloc (.cells #[P1] 65)) (.cells #[P2] 88); rwa [z2] at h
    · refine (Below.heap_alloc _ _ _ (by rw [z2]; omega)).trans ?_
      have h := heap_alloc_new (w1.alloc (.cells #[.pointer none, .slice none 0 0] 55)) (.cells #[P1] 65)
      rwa [z1] at h
    · exact (Below.heap_alloc _ _ _ (by rw [z2]; omega)).trans ((Below.heap_alloc _ _ _ (by rw [z1]; omega)).trans (heap_alloc_new w1 _))
    · exact (Below.heap_alloc _ _ _ (by rw [z2]; omega)).trans ((Below.heap_alloc _ _ _ (by rw [z1]; omega)).trans ((Below.heap_alloc _ _ _ hs).trans h0))
  obtain ⟨n5, n4, n3, n1, hl5⟩ := key (.func (.func 50) #[] #[.pointer (some ⟨w.heap.size, 0, none⟩), .pointer (some ⟨w1.heap.size + 1 + 1, 0, none⟩), .pointer (some ⟨w1.heap.size, 0, none⟩)]) (.func (.func 48) #[] #[.pointer (some ⟨w.heap.size, 0, none⟩), .pointer (some ⟨w1.heap.size + 1, 0, none⟩), .pointer (some ⟨w1.heap.size, 0, none⟩)])
  exact ⟨by rw [cell_of_heap n1]; rfl, ⟨n1, n4, n5, .inl ⟨by omega, .slice none 0 0, n3, ⟨rfl, .inl ⟨rfl, rfl⟩⟩, by simp [Value.ownBlock]⟩, hl5, Nat.le_refl _, by omega, by omega, by omega⟩⟩

set_option maxHeartbeats 2000000 in
set_option maxRecDepth 20000 in
theorem text_walkRe (N cap b o : Nat) (ts : List Nd) (t : Tr) (w : World) (hN : N = t.size) (hN2 : N ≤ 2000) (hok : t.ok) (hts : ts = t.row 0) (hL : Lies (.slice (some ⟨b, o, none⟩) N cap) ts w)
    (k1 : ∀ w', Below w.heap.size w w' → Calls Tryz.prog 47 #[.slice (some ⟨b, o, none⟩) N cap] w' fun e w'' => e = .returned (.bool true) ∧ Below w'.heap.size w' w'') :
    Calls Tryz.prog 29 #[.slice (some ⟨b, o, none⟩) N cap] w fun e w' => e = .returned (.string ⟨t.txt.toArray⟩) ∧ Below w.heap.size w w' := by
  have hst : ∀ (a : Addr) (fn : Fn) (x y : Array Value) (m : Mode) (w : World), (store a (.func fn x y) m).run Tryz.prog w = stored Tryz.prog w a (.func fn x y) m := fun a fn x y m w => run_store Tryz.prog w a (.func fn x y) m rfl
  have hmf : ∀ (fn : Fn) (first cap : Array Value) (w : World), (Instr.makeFunc fn first cap).run Tryz.prog w = .ok (.func fn first cap) w := fun _ _ _ _ => rfl
  have hp := t.size_pos
  have hI : IntKind.i64.wrap ((N : Int) - 1) = ((N - 1 : Nat) : Int) := by rw [IntWalk.i64_in _ (by omega)]; omega
  obtain ⟨r, hr⟩ : ∃ r, r = N - 1 := ⟨_, rfl⟩
  rw [← hr] at hI
  have kt := fun bt bl bk bb => tell_does ts N cap b o bt bl bk bb w hL t hok 0 r (by rw [hts]; exact sub_row t) (by omega)
  have HN := Lib.hid (And.intro hN hN2)
  have hlen := txtT_len t
  clear hN hr hok hts hL
  go_enter Tryz.func29, Tryz.ntmps29
  go_wp2_with (first
    | (go_at_call 47; refine (k1 _ ((Below.refl _ w).alloc (Nat.le_refl _) _)).mono ?_; rintro e w1 ⟨rfl, hb1⟩
       have HL := Lib.hid (text_lay w w1 (.slice (some ⟨b, o, none⟩) N cap) hb1)
       have e6 := HL.out.l1
       clear hb1)
    | (go_at_call 50; refine (kt _ _ _ _ [] _ (by have := HN.out; simp; omega) HL.out.tel).mono ?_; rintro e w6 ⟨rfl, h6, _⟩; have H6 := Lib.hid h6; clear h6)
    | (go_at_call 32; refine (Tryz.Builder_String_any_k w.heap.size w1.heap.size t.txt _ H6.out.bld H6.out.B_le).mono ?_; rintro e w7 ⟨rfl, _, hb7, _⟩)
    | fail)
  exact bodyPost_ret (results_tmp rfl _ _ _) rfl ⟨rfl, H6.out.low.trans hb7⟩
/-- Package regex's Text, of a tree's row. -/
theorem textRe_any (v : Value) (t : Tr) (w : World) (hok : t.ok) (hN : t.size ≤ 2000) (hL : Lies v (t.row 0) w) (hD : rightD (t.row 0) = true) :
    Calls Tryz.prog 29 #[v] w fun e w' => e = .returned (.string ⟨t.txt.toArray⟩) ∧ Below w.heap.size w w' := by
  have hp := t.size_pos
  have hlen := t.row_length 0
  have h0 : ∃ n, (t.row 0)[0]? = some n := ⟨_, List.getElem?_eq_getElem (by omega)⟩
  obtain ⟨n0, hn0⟩ := h0
  have hL' := hL
  obtain ⟨ao, cap, rfl, _⟩ := hL
  obtain ⟨b, o, rfl, _⟩ := hL'.at hn0
  rw [hlen] at hL' ⊢
  refine text_walkRe t.size cap b o (t.row 0) t w rfl hN hok rfl hL' fun w' hb => ?_
  have := right_any _ _ w' (hL'.below hb)
  rwa [hD] at this
end Go.Proofs.YtgceckejchdnlaaGreatDoor
