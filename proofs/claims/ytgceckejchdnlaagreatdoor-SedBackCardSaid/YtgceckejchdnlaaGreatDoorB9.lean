/- Packed texts: ClsEach, ClsRuns. What each of them proves stands above its theorems; the conditions stand in these. -/
import Derived.Test.YtgceckejchdnlaaGreatDoorB6
import Derived.Test.YtgceckejchdnlaaGreatDoorB8
namespace Go.Proofs.YtgceckejchdnlaaGreatDoor
open Go.RowKit
attribute [local go_sem] Oper.semAt_some

/-- The bytes of a class below a number, rising. -/
def uptoL (k : Cl) (m : Nat) : List UInt8 := ((List.range m).filter (has k)).map Nat.toUInt8
theorem upto_succ (k : Cl) (m : Nat) : uptoL k (m + 1) = uptoL k m ++ if has k m then [m.toUInt8] else [] := by
  unfold uptoL
  rw [List.range_succ, List.filter_append, List.map_append]
  cases h : has k m
  · simp [h]
  · rw [show List.filter (has k) [m] = [m] by simp [h]]
    rfl
theorem upto_length (k : Cl) (m : Nat) : (uptoL k m).length ≤ m := by
  unfold uptoL
  rw [List.length_map]
  exact Nat.le_trans (List.length_filter_le _ _) (by simp)
theorem toUInt8_nat {m : Nat} (h : m < 256) : (m.toUInt8.toNat : Int) = (m : Int) := by
  rw [show m.toUInt8.toNat = m % 256 from rfl, Nat.mod_eq_of_lt h]
theorem grown_of_below {w w' : World} (h : Below w.heap.size w w') (row : Option Nat) : w.grownBy w' row := ⟨h.os, h.tape, h.output, h.size, fun k hk _ => h.block k hk⟩
theorem has_nat (k : Cl) (m : Nat) (w : World) (hm : m < 256) (b : Bool) (hb : has k m = b) :
    Calls Tryz.prog 122 #[clsV k, .int .u8 (m : Int)] w fun e w' => e = .returned (.bool b) ∧ Below w.heap.size w w' := by
  have h := has_any k (m : Int) w (by omega) (by omega)
  rwa [Int.toNat_natCast, hb] at h

theorem block_at {w : World} {b : Nat} {o : Obj} (h : w.heap[b]? = some o) : b < w.heap.size := (Array.getElem?_eq_some_iff.1 h).1
set_option maxHeartbeats 1000000 in
theorem each_any (a b c d : Int) (w : World) :
    Calls Tryz.prog 121 #[.agg #[.int .u64 a, .int .u64 b, .int .u64 c, .int .u64 d]] w fun e w' => e = .returned (.func (.func 134) #[] #[.pointer (some ⟨w.heap.size, 0, none⟩)]) ∧ w' = w.alloc (.cells #[.int .u64 a, .int .u64 b, .int .u64 c, .int .u64 d] 69) := by
  go_enter Tryz.func121, Tryz.ntmps121
  go_wp2
  go_ret
  exact ⟨rfl, rfl⟩

abbrev encB (c : UInt8) : Array Value := #[.int .u8 (c.toNat : Int)]

set_option maxHeartbeats 1000000 in
set_option maxRecDepth 20000 in
theorem each1 (k : Cl) (kb : Nat) (W : World) (hkb : W.heap[kb]? = some (.cells (clsA k) 69 (0, 0))) :
    SeqX Tryz.prog 134 #[.pointer (some ⟨kb, 0, none⟩)] encB 0 256 (fun xs => xs = uptoL k 256) (fun j => j = kb) W := fun l J Jx hJ hJx hY h0 => by
  refine callsIn_of_wp Tryz.func134 rfl trivial ?_ rfl
  simp only [Tryz.ntmps134, List.size_toArray, List.length_cons, List.length_nil, Nat.reduceAdd, Nat.reduceSub, Array.replicate_succ, Array.replicate_zero, List.push_toArray, List.append_toArray, List.nil_append, List.cons_append]
  gi_wp2
  gi_loopw [5] (fun i wr => ∃ m : Nat, m ≤ 256 ∧ i = .int .i64 m ∧ Hid (J (uptoL k m) wr) ∧ Hid (wr.heap[kb]? = some (.cells (clsA k) 69 (0, 0))) ∧ Hid (W.heap.size ≤ wr.heap.size))
    (fun i _ => 256 - (RowKit.intOf i).toNat)
  case atStart => exact ⟨0, Nat.zero_le _, rfl, h0, hkb, Nat.le_refl _⟩
  case round =>
    obtain ⟨m, hm, rfl, HJ, HK, HS⟩ := hrel
    by_cases hlt : m < 256
    · obtain ⟨⟨c0, c1, c2, c3⟩, f0, f1, f2, f3⟩ := res_four HK.out
      clear f0 f1 f2 f3
      unfold wd at c0 c1 c2 c3
      cases hb : has k m with
      | false =>
        have k1 := fun w => callsIn_wide (n := 0).2 (has_nat k m w hlt _ hb)
        unfold clsV clsA wd at k1
        gi_wp2_with (refine ⟨trivial, rfl, ?_⟩; gi_at_call 122; refine (k1 _).mono ?_; rintro e w1 ⟨rfl, hb1⟩)
        have HJ1 : Hid (J (uptoL k m) w1) := hJ.grow HJ.out (grown_of_below hb1 none)
        have hsz1 := hb1.size
        have HK1 : Hid (w1.heap[kb]? = some (.cells (clsA k) 69 (0, 0))) := (hb1.block kb (block_at HK.out)).trans HK.out
        have HS1 : Hid (W.heap.size ≤ w1.heap.size) := Nat.le_trans HS.out hsz1
        clear hb1 hsz1
        refine ⟨fun _ h => (by cases h), ?_⟩
        gi_wp2
        go_roundw
        case rel => exact ⟨m + 1, by omega, by go_num, by show J _ _; rw [upto_succ, hb]; simpa using HJ1.out, HK1, HS1⟩
        case measure => simp [RowKit.intOf]; omega
      | true =>
        have k1 := fun w => callsIn_wide (n := 0).2 (has_nat k m w hlt _ hb)
        unfold clsV clsA wd at k1
        have hm8 : (m.toUInt8.toNat : Int) = (m : Int) := toUInt8_nat hlt
        gi_wp2_with (refine ⟨trivial, rfl, ?_⟩; gi_at_call 122; refine (k1 _).mono ?_; rintro e w1 ⟨rfl, hb1⟩
                     have HJ1 : Hid (J (uptoL k m) w1) := hJ.grow HJ.out (grown_of_below hb1 none)
                     have hsz1 := hb1.size
                     have HK1 : Hid (w1.heap[kb]? = some (.cells (clsA k) 69 (0, 0))) := (hb1.block kb (block_at HK.out)).trans HK.out
                     have HS1 : Hid (W.heap.size ≤ w1.heap.size) := Nat.le_trans HS.out hsz1
                     obtain ⟨fn, tmps, assign, body, hy, hR⟩ := hY (uptoL k m) m.toUInt8 w1 HS1.out (fun r h1 h2 => absurd h2 (by omega)) HJ1.out (Nat.lt_of_le_of_lt (upto_length k m) hlt)
                     dsimp only [encB] at hy
                     rw [hm8] at hy
                     clear hb1 hsz1)
        refine ⟨rfl, hR.mono ?_⟩
        clear hy hR
        rintro e W3 ⟨hs3, hk3, ⟨rfl, hJ3⟩ | ⟨rfl, hJx3⟩⟩
        · have HJ3 := Lib.hid hJ3
          have HK3 : Hid (W3.heap[kb]? = some (.cells (clsA k) 69 (0, 0))) := (hk3 kb (.inl rfl)).trans HK1.out
          have HS3 : Hid (W.heap.size ≤ W3.heap.size) := Nat.le_trans HS1.out hs3
          clear hJ3 hs3 hk3
          gi_wp2
          go_roundw
          case rel => exact ⟨m + 1, by omega, by go_num, by show J _ _; rw [upto_succ, hb]; exact HJ3.out, HK3, HS3⟩
          case measure => simp [RowKit.intOf]; omega
        · have HX := Lib.hid hJx3
          clear hJx3
          gi_wp2
          refine bodyPost_ret (results_none rfl _ _ _) rfl ?_
          exact ⟨⟨_, rfl⟩, .inr ⟨_, HX.out⟩⟩
    · obtain rfl : m = 256 := by omega
      gi_wp2
      go_end0
      exact ⟨⟨_, rfl⟩, .inl ⟨_, rfl, HJ.out⟩⟩
end Go.Proofs.YtgceckejchdnlaaGreatDoor
namespace Go.Proofs.YtgceckejchdnlaaGreatDoor
open Go.RowKit
attribute [local go_sem] Oper.semAt_some

/-- Where a run begins, a byte having come; whether it ends there. -/
def headA (k : Cl) (a c : UInt8) : UInt8 := if c = 0 then c else if has k (c.toNat - 1) then a else c
def endsB (k : Cl) (c : UInt8) : Bool := if c = 255 then true else !has k (c.toNat + 1)
def runsStep (k : Cl) (st : UInt8 × List (UInt8 × UInt8)) (c : UInt8) : UInt8 × List (UInt8 × UInt8) :=
  (headA k st.1 c, if endsB k c then st.2 ++ [(headA k st.1 c, c)] else st.2)
def runsP (k : Cl) (pre : List UInt8) : UInt8 × List (UInt8 × UInt8) := pre.foldl (runsStep k) (0, [])
/-- The runs of a class: of each its first byte and its last one. -/
def runsL (k : Cl) : List (UInt8 × UInt8) := (runsP k (uptoL k 256)).2
theorem runs_snoc (k : Cl) (pre : List UInt8) (c : UInt8) : runsP k (pre ++ [c]) = runsStep k (runsP k pre) c := by
  unfold runsP
  rw [List.foldl_append]
  rfl
theorem runs_length_aux (k : Cl) : ∀ (pre : List UInt8) (st : UInt8 × List (UInt8 × UInt8)), (pre.foldl (runsStep k) st).2.length ≤ st.2.length + pre.length
  | [], st => Nat.le_refl _
  | c :: pre, st => by
    have h := runs_length_aux k pre (runsStep k st c)
    have h2 : (runsStep k st c).2.length ≤ st.2.length + 1 := by
      unfold runsStep
      dsimp only
      split
      · simp
      · omega
    rw [List.foldl_cons, List.length_cons]
    omega
theorem runs_length (k : Cl) (pre : List UInt8) : (runsP k pre).2.length ≤ pre.length := by
  have := runs_length_aux k pre (0, [])
  rwa [List.length_nil, Nat.zero_add] at this

set_option maxHeartbeats 1000000 in
theorem runs_any (a b c d : Int) (w : World) :
    Calls Tryz.prog 104 #[.agg #[.int .u64 a, .int .u64 b, .int .u64 c, .int .u64 d]] w fun e w' => e = .returned (.func (.func 120) #[] #[.pointer (some ⟨w.heap.size, 0, none⟩)]) ∧ w' = w.alloc (.cells #[.int .u64 a, .int .u64 b, .int .u64 c, .int .u64 d] 69) := by
  go_enter Tryz.func104, Tryz.ntmps104
  go_wp2
  go_ret
  exact ⟨rfl, rfl⟩

theorem box_cell {w : World} {b : Nat} {v : Value} {t : TypeId} (h : w.heap[b]? = some (.cells #[v] t (0, 0))) : w.cell? ⟨b, 0, none⟩ = some v ∧ w.frozen? ⟨b, 0, none⟩ = false :=
  ⟨cell_of_row w b 0 _ _ _ h, frozen_of_row w b 0 _ _ h⟩

theorem stay_put {A B : World} {row : Option Nat} {D e b : Nat} {cs : Array Value} {t : TypeId} {fz : Nat × Nat} (h : A.heap[b]? = some (.cells cs t fz)) (hg : A.grownBy B row)
    (hr : ∀ r, row = some r → D ≤ r ∧ ((r < e ∧ ∃ x t, A.heap[r]? = some (.cells #[x] t (0, 0))) ∨ ∃ o : Obj, A.heap[r]? = some o ∧ o.isCells = false)) (hb : b < D) : B.heap[b]? = some (.cells cs t fz) :=
  (hg.block b (block_at h) (fun h2 => by have := (hr b h2.symm).1; omega)).trans h
abbrev encR (p : UInt8 × UInt8) : Array Value := #[.int .u8 (p.1.toNat : Int), .int .u8 (p.2.toNat : Int)]

theorem ne_int {x y : UInt8} (h : x ≠ y) : ((x.toNat : Int) == (y.toNat : Int)) = false := by
  rw [beq_eq_false_iff_ne]
  intro e
  apply h
  apply UInt8.toNat_inj.1
  omega
theorem pos_of_ne {x : UInt8} (h : ¬ x = 0) : 1 ≤ x.toNat := by
  have := ne_int h
  rw [beq_eq_false_iff_ne] at this
  have h0 : (0 : UInt8).toNat = 0 := rfl
  omega
theorem lt_of_ne {x : UInt8} (h : ¬ x = 255) : x.toNat < 255 := by
  have := ne_int h
  rw [beq_eq_false_iff_ne] at this
  have h0 : (255 : UInt8).toNat = 255 := rfl
  have := x.toNat_lt
  omega
theorem wrap_pred {x : UInt8} (h : ¬ x = 0) : IntKind.u8.wrap ((x.toNat : Int) - 1) = (x.toNat : Int) - 1 := by
  have h1 := pos_of_ne h
  have := x.toNat_lt
  rw [IntKind.wrap_u8']
  omega
theorem wrap_suc {x : UInt8} (h : ¬ x = 255) : IntKind.u8.wrap ((x.toNat : Int) + 1) = (x.toNat : Int) + 1 := by
  have h1 := lt_of_ne h
  rw [IntKind.wrap_u8']
  omega
theorem has_pred (k : Cl) (x : UInt8) (w : World) (h : ¬ x = 0) (b : Bool) (hb : has k (x.toNat - 1) = b) :
    Calls Tryz.prog 122 #[clsV k, .int .u8 ((x.toNat : Int) - 1)] w fun e w' => e = .returned (.bool b) ∧ Below w.heap.size w w' := by
  have h1 := pos_of_ne h
  have h2 := x.toNat_lt
  have := has_nat k (x.toNat - 1) w (by omega) b hb
  rwa [show ((x.toNat - 1 : Nat) : Int) = (x.toNat : Int) - 1 by omega] at this
theorem has_suc (k : Cl) (x : UInt8) (w : World) (h : ¬ x = 255) (b : Bool) (hb : has k (x.toNat + 1) = b) :
    Calls Tryz.prog 122 #[clsV k, .int .u8 ((x.toNat : Int) + 1)] w fun e w' => e = .returned (.bool b) ∧ Below w.heap.size w w' := by
  have h1 := lt_of_ne h
  have := has_nat k (x.toNat + 1) w (by omega) b hb
  rwa [show ((x.toNat + 1 : Nat) : Int) = (x.toNat : Int) + 1 by omega] at this
/-- What lies between two rounds of the loop over the bytes: what came out so far is ys, and a run began at v. -/
structure RunsI (k : Cl) (kb l0 D : Nat) (J : List (UInt8 × UInt8) → World → Prop) (ys : List (UInt8 × UInt8)) (v : UInt8) (W : World) : Prop where
  j : J ys W
  y : W.heap[D]? = some (.cells #[.func (.yield l0) #[] #[]] 157 (0, 0))
  a : W.heap[D + 1]? = some (.cells #[.int .u8 (v.toNat : Int)] 5 (0, 0))
  e : W.heap[D + 1 + 1]? = some (.cells (clsA k) 69 (0, 0))
  kk : W.heap[kb]? = some (.cells (clsA k) 69 (0, 0))
  lt : kb < D
theorem RunsI.below {k : Cl} {kb l0 D : Nat} {J : List (UInt8 × UInt8) → World → Prop} {ys : List (UInt8 × UInt8)} {v : UInt8} {W W' : World} (h : RunsI k kb l0 D J ys v W) (hJ : OwnC D 5 J) (hb : Below W.heap.size W W') : RunsI k kb l0 D J ys v W' :=
  ⟨hJ.grow h.j (grown_of_below hb none), (hb.block _ (block_at h.y)).trans h.y, (hb.block _ (block_at h.a)).trans h.a, (hb.block _ (block_at h.e)).trans h.e, (hb.block _ (block_at h.kk)).trans h.kk, h.lt⟩
theorem RunsI.store {k : Cl} {kb l0 D : Nat} {J : List (UInt8 × UInt8) → World → Prop} {ys : List (UInt8 × UInt8)} {v : UInt8} {W : World} (h : RunsI k kb l0 D J ys v W) (hJ : OwnC D 5 J) (x : UInt8) :
    RunsI k kb l0 D J ys x (W.setCell ⟨D + 1, 0, none⟩ (.int .u8 (x.toNat : Int))) := by
  have hg := grownBy_setCell' W (D + 1) (.int .u8 (x.toNat : Int))
  have hlt := h.lt
  refine ⟨hJ _ _ _ (some (D + 1)) h.j hg (fun r e => by cases e; exact ⟨by omega, .inl ⟨by omega, _, _, h.a⟩⟩), (hg.block _ (block_at h.y) (by simp)).trans h.y, heap_setCell_same W (D + 1) 0 _ _ _ h.a,
    (hg.block _ (block_at h.e) (by simp)).trans h.e, (hg.block _ (block_at h.kk) (by simp; omega)).trans h.kk, h.lt⟩
theorem RunsI.facts {k : Cl} {kb l0 D : Nat} {J : List (UInt8 × UInt8) → World → Prop} {ys : List (UInt8 × UInt8)} {v : UInt8} {W : World} (h : RunsI k kb l0 D J ys v W) :
    (W.cell? ⟨kb, 0, none⟩ = some (.int .u64 ((k 0).toNat : Int)) ∧ W.cell? ⟨kb, 1, none⟩ = some (.int .u64 ((k 1).toNat : Int)) ∧ W.cell? ⟨kb, 2, none⟩ = some (.int .u64 ((k 2).toNat : Int)) ∧ W.cell? ⟨kb, 3, none⟩ = some (.int .u64 ((k 3).toNat : Int))) ∧
    (W.cell? ⟨D, 0, none⟩ = some (.func (.yield l0) #[] #[]) ∧ W.frozen? ⟨D, 0, none⟩ = false) ∧ (W.cell? ⟨D + 1, 0, none⟩ = some (.int .u8 (v.toNat : Int)) ∧ W.frozen? ⟨D + 1, 0, none⟩ = false) :=
  ⟨(res_four h.kk).1, box_cell h.y, box_cell h.a⟩

/-- The state in the middle of a round that began at Z. -/
structure RunsS (k : Cl) (kb l0 D : Nat) (J : List (UInt8 × UInt8) → World → Prop) (ys : List (UInt8 × UInt8)) (Z : World) (v : UInt8) (Z' : World) : Prop where
  i : RunsI k kb l0 D J ys v Z'
  s : Z.heap.size ≤ Z'.heap.size
  m : Same (fun j => j = D + 1 + 1 ∨ (D + 3 ≤ j ∧ j < D + 5)) Z Z'
  z : D + 5 ≤ Z.heap.size
  o : ∀ r, D + 3 ≤ r → r < D + 5 → Odd Z r
theorem RunsS.start {k : Cl} {kb l0 D : Nat} {J : List (UInt8 × UInt8) → World → Prop} {ys : List (UInt8 × UInt8)} {v : UInt8} {Z : World} (h : RunsI k kb l0 D J ys v Z) (hz : D + 5 ≤ Z.heap.size) (ho : ∀ r, D + 3 ≤ r → r < D + 5 → Odd Z r) : RunsS k kb l0 D J ys Z v Z :=
  ⟨h, Nat.le_refl _, Same.refl _ _, hz, ho⟩
theorem RunsS.below {k : Cl} {kb l0 D : Nat} {J : List (UInt8 × UInt8) → World → Prop} {ys : List (UInt8 × UInt8)} {v : UInt8} {Z Z' Z'' : World} (h : RunsS k kb l0 D J ys Z v Z') (hJ : OwnC D 5 J) (hb : Below Z'.heap.size Z' Z'') : RunsS k kb l0 D J ys Z v Z'' :=
  ⟨h.i.below hJ hb, Nat.le_trans h.s hb.size, h.m.trans (fun j hj => hb.block j (by have := h.s; have := h.z; omega)), h.z, h.o⟩
theorem RunsS.store {k : Cl} {kb l0 D : Nat} {J : List (UInt8 × UInt8) → World → Prop} {ys : List (UInt8 × UInt8)} {v : UInt8} {Z Z' : World} (h : RunsS k kb l0 D J ys Z v Z') (hJ : OwnC D 5 J) (x : UInt8) :
    RunsS k kb l0 D J ys Z x (Z'.setCell ⟨D + 1, 0, none⟩ (.int .u8 (x.toNat : Int))) :=
  ⟨h.i.store hJ x, by simpa using h.s, h.m.trans (fun j hj => Below.heap_setCell _ _ _ _ (by simp; omega)), h.z, h.o⟩

theorem RunsS.stopped {k : Cl} {kb l0 D : Nat} {J : List (UInt8 × UInt8) → World → Prop} {ys : List (UInt8 × UInt8)} {v : UInt8} {Z Z' Z'' : World} (h : RunsS k kb l0 D J ys Z v Z') (hs : Z'.heap.size ≤ Z''.heap.size)
    (hk : Same (fun j => j = kb ∨ (D ≤ j ∧ j < D + 5)) Z' Z'') : Z.heap.size ≤ Z''.heap.size ∧ Same (fun j => j = D + 1 + 1 ∨ (D + 3 ≤ j ∧ j < D + 5)) Z Z'' :=
  ⟨Nat.le_trans h.s hs, h.m.trans (hk.mono fun j hj => .inr (by omega))⟩
theorem RunsS.odd {k : Cl} {kb l0 D : Nat} {J : List (UInt8 × UInt8) → World → Prop} {ys : List (UInt8 × UInt8)} {v : UInt8} {Z Z' : World} (h : RunsS k kb l0 D J ys Z v Z') : ∀ r, D ≤ r → r < D + 5 → Odd Z' r := fun r h1 h2 => by
  by_cases e0 : r = D
  · rw [e0]; exact Odd.box h.i.y
  · by_cases e1 : r = D + 1
    · rw [e1]; exact Odd.box h.i.a
    · by_cases e2 : r = D + 1 + 1
      · rw [e2]; exact Odd.other h.i.e (by decide)
      · exact (h.o r (by omega) h2).same (h.m r (.inr (by omega)))
theorem RunsS.after {k : Cl} {kb l0 D : Nat} {J : List (UInt8 × UInt8) → World → Prop} {ys ys' : List (UInt8 × UInt8)} {v : UInt8} {Z Z' Z'' : World} (h : RunsS k kb l0 D J ys Z v Z') (hj : J ys' Z'') (hs : Z'.heap.size ≤ Z''.heap.size)
    (hk : Same (fun j => j = kb ∨ (D ≤ j ∧ j < D + 5)) Z' Z'') : RunsS k kb l0 D J ys' Z v Z'' :=
  ⟨⟨hj, (hk _ (.inr (by omega))).trans h.i.y, (hk _ (.inr (by omega))).trans h.i.a, (hk _ (.inr (by omega))).trans h.i.e, (hk _ (.inl rfl)).trans h.i.kk, h.i.lt⟩,
    Nat.le_trans h.s hs, h.m.trans (hk.mono fun j hj => .inr (by omega)), h.z, h.o⟩

set_option maxHeartbeats 2000000 in
set_option maxRecDepth 100000 in
theorem runs1 (k : Cl) (kb : Nat) (W : World) (hkb : W.heap[kb]? = some (.cells (clsA k) 69 (0, 0))) :
    SeqX Tryz.prog 120 #[.pointer (some ⟨kb, 0, none⟩)] encR 5 256 (fun xs => xs = runsL k) (fun j => j = kb) W := fun l J Jx hJ hJx hY h0 => by
  have hlt := block_at hkb
  obtain ⟨⟨c0, c1, c2, c3⟩, f0, f1, f2, f3⟩ := res_four hkb
  clear f0 f1 f2 f3
  unfold wd at c0 c1 c2 c3
  have HKB := Lib.hid hkb
  clear hkb
  have k1 := fun w => callsIn_wide (n := 0).2 (each_any ((k 0).toNat : Int) ((k 1).toNat : Int) ((k 2).toNat : Int) ((k 3).toNat : Int) w)
  refine callsIn_of_wp_marks Tryz.func120 rfl trivial ?_ rfl
  simp only [Tryz.ntmps120, List.size_toArray, List.length_cons, List.length_nil, Nat.reduceAdd, Nat.reduceSub, Array.replicate_succ, Array.replicate_zero, List.push_toArray, List.append_toArray, List.nil_append, List.cons_append]
  gi_wp2_with (refine ⟨trivial, rfl, ?_⟩; gi_at_call 121; refine (k1 _).mono ?_; rintro e w1 ⟨rfl, rfl⟩)
  clear c0 c1 c2 c3 k1
  -- the world in which the loop begins
  obtain ⟨V, hV⟩ : ∃ V, V = ((W.alloc (.cells #[.func (.yield l) #[] #[]] 157)).alloc (.cells #[.int .u8 0] 5)).alloc (.cells #[.int .u64 ((k 0).toNat : Int), .int .u64 ((k 1).toNat : Int), .int .u64 ((k 2).toNat : Int), .int .u64 ((k 3).toNat : Int)] 69) := ⟨_, rfl⟩
  have hVz : V.heap.size = W.heap.size + 3 := by rw [hV]; simp
  have hVI : RunsI k kb l W.heap.size J [] 0 V := by
    have hb : Below W.heap.size W V := by
      rw [hV]; exact (((Below.refl _ W).alloc (Nat.le_refl _) _).alloc (by simp) _).alloc (by simp; omega) _
    refine ⟨hJ.grow h0 (grown_of_below hb none), ?_, ?_, ?_, (hb.block _ hlt).trans HKB.out, hlt⟩
    · rw [hV, Below.heap_alloc _ _ _ (by simp; omega), Below.heap_alloc _ _ _ (by simp)]; exact heap_alloc_new W _
    · rw [hV, Below.heap_alloc _ _ _ (by simp)]
      have := heap_alloc_new (W.alloc (.cells #[.func (.yield l) #[] #[]] 157)) (.cells #[.int .u8 0] 5)
      rwa [World.size_alloc] at this
    · rw [hV]
      have := heap_alloc_new ((W.alloc (.cells #[.func (.yield l) #[] #[]] 157)).alloc (.cells #[.int .u8 0] 5)) (.cells #[.int .u64 ((k 0).toNat : Int), .int .u64 ((k 1).toNat : Int), .int .u64 ((k 2).toNat : Int), .int .u64 ((k 3).toNat : Int)] 69)
      rwa [World.size_alloc, World.size_alloc] at this
  rw [← hV]
  clear hV
  have inside : ∀ {A : World} {row : Option Nat}, (∀ r, row = some r → V.heap.size ≤ r ∧ ((r < V.heap.size + (2 + 0) ∧ ∃ x t, A.heap[r]? = some (.cells #[x] t (0, 0))) ∨ ∃ o : Obj, A.heap[r]? = some o ∧ o.isCells = false)) → (∀ r, row = some r → W.heap.size ≤ r ∧ ((r < W.heap.size + 5 ∧ ∃ x t, A.heap[r]? = some (.cells #[x] t (0, 0))) ∨ ∃ o : Obj, A.heap[r]? = some o ∧ o.isCells = false)) :=
    fun hr r e => ⟨by have := (hr r e).1; omega, (hr r e).2.elim (fun h => .inl ⟨by omega, h.2⟩) .inr⟩
  refine wp_rangeX (gf := 134) (lb := #[.pointer (some ⟨W.heap.size + 1 + 1, 0, none⟩)]) (encs := encB) (c := 0) (N := 256) (S := fun xs => xs = uptoL k 256) (K := fun j => j = W.heap.size + 1 + 1) rfl (enters_of Tryz.func134 (by kernel_rfl) rfl) (fun _ => rfl)
    (fun Z _ hz => each1 k (W.heap.size + 1 + 1) Z ((hz _ (by omega)).trans hVI.e)) (fun j hj => by omega)
    (fun pre Z => RunsI k kb l W.heap.size J (runsP k pre).2 (runsP k pre).1 Z) (fun pre Z => ∃ ys, Jx ys Z)
    (fun s A B row hs hg hr => ⟨hJ _ _ _ row hs.j hg (inside hr), stay_put hs.y hg hr (by omega), stay_put hs.a hg hr (by omega), stay_put hs.e hg hr (by omega), stay_put hs.kk hg hr (by omega), hs.lt⟩)
    (fun s A B row hs hg hr => by obtain ⟨ys, hys⟩ := hs; exact ⟨ys, hJx _ _ _ row hys hg (inside hr)⟩)
    hVI
    (fun x => { tmps := #[.func (.yield l) #[] #[], .pointer (some ⟨kb, 0, none⟩), .pointer (some ⟨W.heap.size, 0, none⟩), .pointer (some ⟨W.heap.size + 1, 0, none⟩), .int .u8 (x.toNat : Int), undef,
      .agg #[.int .u64 ((k 0).toNat : Int), .int .u64 ((k 1).toNat : Int), .int .u64 ((k 2).toNat : Int), .int .u64 ((k 3).toNat : Int)], .func (.func 134) #[] #[.pointer (some ⟨W.heap.size + 1 + 1, 0, none⟩)], .int .u8 (x.toNat : Int), undef, undef, undef, undef, undef, undef, undef, undef, undef, undef, undef, undef, undef, undef, undef, undef, undef, undef, undef, undef, undef, undef, undef, undef, undef, undef, undef], defers := [] })
    ?assign ?body ?done ?stop
  case assign =>
    intro l2 x Z kk hK
    gi_wp2
    exact hK
  case body =>
    rintro l2 pre x Z hsz hodd hi hlen
    have HI0 := Lib.hid (RunsS.start hi (by omega) (fun r h1 h2 => hodd r (by omega) (by omega)))
    clear hodd
    clear hi
    obtain ⟨⟨c0, c1, c2, c3⟩, ⟨y0, y1⟩, a0, a1⟩ := HI0.out.i.facts
    have z0 : ((0 : UInt8).toNat : Int) = 0 := rfl
    have z255 : ((255 : UInt8).toNat : Int) = 255 := rfl
    by_cases hx0 : x = 0
    · subst hx0
      have h1 : headA k (runsP k pre).1 0 = 0 := rfl
      cases hq : has k 1 with
      | true =>
        have h2 : endsB k 0 = false := by show (!has k 1) = _; rw [hq]; rfl
        have kq := fun w => callsIn_wide (n := 0).2 (has_nat k 1 w (by decide) _ hq)
        unfold clsV clsA wd at kq
        have hrun : runsP k (pre ++ [0]) = (0, (runsP k pre).2) := by rw [runs_snoc]; unfold runsStep; rw [h1, h2]; rfl
        have HR := Lib.hid hrun
        clear hrun h1 h2
        gi_wp2
        refine ⟨trivial, ?_⟩
        gi_wp2_with (refine ⟨trivial, rfl, ?_⟩; gi_at_call 122; refine (kq _).mono ?_; clear kq c0 c1 c2 c3 y0 y1 a0 a1; rintro e w1 ⟨rfl, hb1⟩; have HI1 := Lib.hid ((HI0.out.store hJ 0).below hJ hb1); clear hb1; obtain ⟨⟨c0, c1, c2, c3⟩, ⟨y0, y1⟩, a0, a1⟩ := HI1.out.i.facts; try rw [z0] at a0)
        refine ⟨fun _ h => (by cases h), ?_⟩
        gi_wp2
        exact ⟨HI1.out.s, HI1.out.m.mono (fun j hj => by omega), by dsimp only; rw [HR.out]; exact HI1.out.i⟩
      | false =>
        have h2 : endsB k 0 = true := by show (!has k 1) = _; rw [hq]; rfl
        have kq := fun w => callsIn_wide (n := 0).2 (has_nat k 1 w (by decide) _ hq)
        unfold clsV clsA wd at kq
        have hrun : runsP k (pre ++ [0]) = (0, (runsP k pre).2 ++ [(0, 0)]) := by rw [runs_snoc]; unfold runsStep; rw [h1, h2]; rfl
        have HR := Lib.hid hrun
        clear hrun h1 h2
        gi_wp2
        refine ⟨trivial, ?_⟩
        gi_wp2_with (refine ⟨trivial, rfl, ?_⟩; gi_at_call 122; refine (kq _).mono ?_; clear kq c0 c1 c2 c3 y0 y1 a0 a1; rintro e w1 ⟨rfl, hb1⟩; have HI1 := Lib.hid ((HI0.out.store hJ 0).below hJ hb1); clear hb1; obtain ⟨⟨c0, c1, c2, c3⟩, ⟨y0, y1⟩, a0, a1⟩ := HI1.out.i.facts; try rw [z0] at a0; obtain ⟨fn, tmps, assign, body, hy, hR⟩ := hY (runsP k pre).2 (0, 0) _ (Nat.le_trans HI1.out.z HI1.out.s) HI1.out.odd HI1.out.i.j (Nat.lt_of_le_of_lt (runs_length k pre) hlen); dsimp only [encR] at hy; rw [z0] at hy)
        refine ⟨rfl, hR.mono ?_⟩
        clear hy hR
        have hI := HI1.out
        rintro e W3 ⟨hs3, hk3, ⟨rfl, hJ3⟩ | ⟨rfl, hJx3⟩⟩
        · have HF := Lib.hid (hI.after hJ3 hs3 hk3)
          clear hJ3 hs3 hk3 hI
          gi_wp2
          exact ⟨HF.out.s, HF.out.m.mono (fun j hj => by omega), by dsimp only; rw [HR.out]; exact HF.out.i⟩
        · have HF := Lib.hid (And.intro hJx3 (hI.stopped hs3 hk3))
          clear hJx3 hs3 hk3 hI
          gi_wp2
          exact ⟨HF.out.2.1, HF.out.2.2.mono (fun j hj => by omega), _, HF.out.1⟩
    · by_cases hx255 : x = 255
      · subst hx255
        have h2 : endsB k 255 = true := rfl
        cases hp : has k 254 with
        | false =>
          have h1 : headA k (runsP k pre).1 255 = 255 := by show (if has k 254 = true then (runsP k pre).1 else 255) = _; rw [hp]; rfl
          have kp := fun w => callsIn_wide (n := 0).2 (has_nat k 254 w (by decide) _ hp)
          unfold clsV clsA wd at kp
          have hrun : runsP k (pre ++ [255]) = (255, (runsP k pre).2 ++ [(255, 255)]) := by rw [runs_snoc]; unfold runsStep; rw [h1, h2]; rfl
          have HR := Lib.hid hrun
          clear hrun h1 h2
          gi_wp2_with (refine ⟨trivial, rfl, ?_⟩; gi_at_call 122; refine (kp _).mono ?_; clear kp c0 c1 c2 c3 y0 y1 a0 a1; rintro e w1 ⟨rfl, hb1⟩; have HI1 := Lib.hid (HI0.out.below hJ hb1); clear hb1; obtain ⟨⟨c0, c1, c2, c3⟩, ⟨y0, y1⟩, a0, a1⟩ := HI1.out.i.facts; try rw [z255] at a0)
          refine ⟨trivial, ?_⟩
          have HI2 := Lib.hid (HI1.out.store hJ 255)
          obtain ⟨fn, tmps, assign, body, hy, hR⟩ := hY (runsP k pre).2 (255, 255) _ (Nat.le_trans HI2.out.z HI2.out.s) HI2.out.odd HI2.out.i.j (Nat.lt_of_le_of_lt (runs_length k pre) hlen); dsimp only [encR] at hy; rw [z255] at hy
          gi_wp2
          refine ⟨rfl, hR.mono ?_⟩
          clear hy hR
          have hI := HI2.out
          rintro e W3 ⟨hs3, hk3, ⟨rfl, hJ3⟩ | ⟨rfl, hJx3⟩⟩
          · have HF := Lib.hid (hI.after hJ3 hs3 hk3)
            clear hJ3 hs3 hk3 hI
            gi_wp2
            exact ⟨HF.out.s, HF.out.m.mono (fun j hj => by omega), by dsimp only; rw [HR.out]; exact HF.out.i⟩
          · have HF := Lib.hid (And.intro hJx3 (hI.stopped hs3 hk3))
            clear hJx3 hs3 hk3 hI
            gi_wp2
            exact ⟨HF.out.2.1, HF.out.2.2.mono (fun j hj => by omega), _, HF.out.1⟩
        | true =>
          have h1 : headA k (runsP k pre).1 255 = (runsP k pre).1 := by show (if has k 254 = true then (runsP k pre).1 else 255) = _; rw [hp]; rfl
          have kp := fun w => callsIn_wide (n := 0).2 (has_nat k 254 w (by decide) _ hp)
          unfold clsV clsA wd at kp
          have hrun : runsP k (pre ++ [255]) = ((runsP k pre).1, (runsP k pre).2 ++ [((runsP k pre).1, 255)]) := by rw [runs_snoc]; unfold runsStep; rw [h1, h2]; rfl
          have HR := Lib.hid hrun
          clear hrun h1 h2
          gi_wp2_with (refine ⟨trivial, rfl, ?_⟩; gi_at_call 122; refine (kp _).mono ?_; clear kp c0 c1 c2 c3 y0 y1 a0 a1; rintro e w1 ⟨rfl, hb1⟩; have HI1 := Lib.hid (HI0.out.below hJ hb1); clear hb1; obtain ⟨⟨c0, c1, c2, c3⟩, ⟨y0, y1⟩, a0, a1⟩ := HI1.out.i.facts; try rw [z255] at a0)
          refine ⟨trivial, ?_⟩
          obtain ⟨fn, tmps, assign, body, hy, hR⟩ := hY (runsP k pre).2 ((runsP k pre).1, 255) _ (Nat.le_trans HI1.out.z HI1.out.s) HI1.out.odd HI1.out.i.j (Nat.lt_of_le_of_lt (runs_length k pre) hlen); dsimp only [encR] at hy; rw [z255] at hy
          gi_wp2
          refine ⟨rfl, hR.mono ?_⟩
          clear hy hR
          have hI := HI1.out
          rintro e W3 ⟨hs3, hk3, ⟨rfl, hJ3⟩ | ⟨rfl, hJx3⟩⟩
          · have HF := Lib.hid (hI.after hJ3 hs3 hk3)
            clear hJ3 hs3 hk3 hI
            gi_wp2
            exact ⟨HF.out.s, HF.out.m.mono (fun j hj => by omega), by dsimp only; rw [HR.out]; exact HF.out.i⟩
          · have HF := Lib.hid (And.intro hJx3 (hI.stopped hs3 hk3))
            clear hJx3 hs3 hk3 hI
            gi_wp2
            exact ⟨HF.out.2.1, HF.out.2.2.mono (fun j hj => by omega), _, HF.out.1⟩
      · have e0 : ((x.toNat : Int) == 0) = false := ne_int hx0
        have w1' : IntKind.u8.wrap ((x.toNat : Int) - 1) = (x.toNat : Int) - 1 := wrap_pred hx0
        have e255 : ((x.toNat : Int) == 255) = false := ne_int hx255
        have w2 : IntKind.u8.wrap ((x.toNat : Int) + 1) = (x.toNat : Int) + 1 := wrap_suc hx255
        cases hp : has k (x.toNat - 1)
        case false =>
          have h1 : headA k (runsP k pre).1 x = x := by unfold headA; rw [if_neg hx0, hp]; rfl
          cases hq : has k (x.toNat + 1)
          case true =>
            have h2 : endsB k x = false := by unfold endsB; rw [if_neg hx255, hq]; rfl
            have kp := fun w => callsIn_wide (n := 0).2 (has_pred k x w hx0 _ hp)
            have kq := fun w => callsIn_wide (n := 0).2 (has_suc k x w hx255 _ hq)
            unfold clsV clsA wd at kp kq
            have hrun : runsP k (pre ++ [x]) = (x, (runsP k pre).2) := by rw [runs_snoc]; unfold runsStep; rw [h1, h2]; rfl
            have HR := Lib.hid hrun
            clear hrun h1 h2
            gi_wp2_with (refine ⟨trivial, rfl, ?_⟩; gi_at_call 122; refine (kp _).mono ?_; clear kp c0 c1 c2 c3 y0 y1 a0 a1; rintro e w1 ⟨rfl, hb1⟩; have HI1 := Lib.hid (HI0.out.below hJ hb1); clear hb1; obtain ⟨⟨c0, c1, c2, c3⟩, ⟨y0, y1⟩, a0, a1⟩ := HI1.out.i.facts)
            gi_wp2_with (refine ⟨trivial, rfl, ?_⟩; gi_at_call 122; refine (kq _).mono ?_; clear kq c0 c1 c2 c3 y0 y1 a0 a1; rintro e w1 ⟨rfl, hb1⟩; have HI2 := Lib.hid ((HI1.out.store hJ x).below hJ hb1); clear hb1; obtain ⟨⟨c0, c1, c2, c3⟩, ⟨y0, y1⟩, a0, a1⟩ := HI2.out.i.facts)
            refine ⟨fun _ h => (by cases h), ?_⟩
            gi_wp2
            exact ⟨HI2.out.s, HI2.out.m.mono (fun j hj => by omega), by dsimp only; rw [HR.out]; exact HI2.out.i⟩
          case false =>
            have h2 : endsB k x = true := by unfold endsB; rw [if_neg hx255, hq]; rfl
            have kp := fun w => callsIn_wide (n := 0).2 (has_pred k x w hx0 _ hp)
            have kq := fun w => callsIn_wide (n := 0).2 (has_suc k x w hx255 _ hq)
            unfold clsV clsA wd at kp kq
            have hrun : runsP k (pre ++ [x]) = (x, (runsP k pre).2 ++ [(x, x)]) := by rw [runs_snoc]; unfold runsStep; rw [h1, h2]; rfl
            have HR := Lib.hid hrun
            clear hrun h1 h2
            gi_wp2_with (refine ⟨trivial, rfl, ?_⟩; gi_at_call 122; refine (kp _).mono ?_; clear kp c0 c1 c2 c3 y0 y1 a0 a1; rintro e w1 ⟨rfl, hb1⟩; have HI1 := Lib.hid (HI0.out.below hJ hb1); clear hb1; obtain ⟨⟨c0, c1, c2, c3⟩, ⟨y0, y1⟩, a0, a1⟩ := HI1.out.i.facts)
            gi_wp2_with (refine ⟨trivial, rfl, ?_⟩; gi_at_call 122; refine (kq _).mono ?_; clear kq c0 c1 c2 c3 y0 y1 a0 a1; rintro e w1 ⟨rfl, hb1⟩; have HI2 := Lib.hid ((HI1.out.store hJ x).below hJ hb1); clear hb1; obtain ⟨⟨c0, c1, c2, c3⟩, ⟨y0, y1⟩, a0, a1⟩ := HI2.out.i.facts; obtain ⟨fn, tmps, assign, body, hy, hR⟩ := hY (runsP k pre).2 (x, x) _ (Nat.le_trans HI2.out.z HI2.out.s) HI2.out.odd HI2.out.i.j (Nat.lt_of_le_of_lt (runs_length k pre) hlen); dsimp only [encR] at hy)
            refine ⟨rfl, hR.mono ?_⟩
            clear hy hR
            have hI := HI2.out
            rintro e W3 ⟨hs3, hk3, ⟨rfl, hJ3⟩ | ⟨rfl, hJx3⟩⟩
            · have HF := Lib.hid (hI.after hJ3 hs3 hk3)
              clear hJ3 hs3 hk3 hI
              gi_wp2
              exact ⟨HF.out.s, HF.out.m.mono (fun j hj => by omega), by dsimp only; rw [HR.out]; exact HF.out.i⟩
            · have HF := Lib.hid (And.intro hJx3 (hI.stopped hs3 hk3))
              clear hJx3 hs3 hk3 hI
              gi_wp2
              exact ⟨HF.out.2.1, HF.out.2.2.mono (fun j hj => by omega), _, HF.out.1⟩
        case true =>
          have h1 : headA k (runsP k pre).1 x = (runsP k pre).1 := by unfold headA; rw [if_neg hx0, hp]; rfl
          cases hq : has k (x.toNat + 1)
          case true =>
            have h2 : endsB k x = false := by unfold endsB; rw [if_neg hx255, hq]; rfl
            have kp := fun w => callsIn_wide (n := 0).2 (has_pred k x w hx0 _ hp)
            have kq := fun w => callsIn_wide (n := 0).2 (has_suc k x w hx255 _ hq)
            unfold clsV clsA wd at kp kq
            have hrun : runsP k (pre ++ [x]) = ((runsP k pre).1, (runsP k pre).2) := by rw [runs_snoc]; unfold runsStep; rw [h1, h2]; rfl
            have HR := Lib.hid hrun
            clear hrun h1 h2
            gi_wp2_with (refine ⟨trivial, rfl, ?_⟩; gi_at_call 122; refine (kp _).mono ?_; clear kp c0 c1 c2 c3 y0 y1 a0 a1; rintro e w1 ⟨rfl, hb1⟩; have HI1 := Lib.hid (HI0.out.below hJ hb1); clear hb1; obtain ⟨⟨c0, c1, c2, c3⟩, ⟨y0, y1⟩, a0, a1⟩ := HI1.out.i.facts)
            gi_wp2_with (refine ⟨trivial, rfl, ?_⟩; gi_at_call 122; refine (kq _).mono ?_; clear kq c0 c1 c2 c3 y0 y1 a0 a1; rintro e w1 ⟨rfl, hb1⟩; have HI2 := Lib.hid (HI1.out.below hJ hb1); clear hb1; obtain ⟨⟨c0, c1, c2, c3⟩, ⟨y0, y1⟩, a0, a1⟩ := HI2.out.i.facts)
            refine ⟨fun _ h => (by cases h), ?_⟩
            gi_wp2
            exact ⟨HI2.out.s, HI2.out.m.mono (fun j hj => by omega), by dsimp only; rw [HR.out]; exact HI2.out.i⟩
          case false =>
            have h2 : endsB k x = true := by unfold endsB; rw [if_neg hx255, hq]; rfl
            have kp := fun w => callsIn_wide (n := 0).2 (has_pred k x w hx0 _ hp)
            have kq := fun w => callsIn_wide (n := 0).2 (has_suc k x w hx255 _ hq)
            unfold clsV clsA wd at kp kq
            have hrun : runsP k (pre ++ [x]) = ((runsP k pre).1, (runsP k pre).2 ++ [((runsP k pre).1, x)]) := by rw [runs_snoc]; unfold runsStep; rw [h1, h2]; rfl
            have HR := Lib.hid hrun
            clear hrun h1 h2
            gi_wp2_with (refine ⟨trivial, rfl, ?_⟩; gi_at_call 122; refine (kp _).mono ?_; clear kp c0 c1 c2 c3 y0 y1 a0 a1; rintro e w1 ⟨rfl, hb1⟩; have HI1 := Lib.hid (HI0.out.below hJ hb1); clear hb1; obtain ⟨⟨c0, c1, c2, c3⟩, ⟨y0, y1⟩, a0, a1⟩ := HI1.out.i.facts)
            gi_wp2_with (refine ⟨trivial, rfl, ?_⟩; gi_at_call 122; refine (kq _).mono ?_; clear kq c0 c1 c2 c3 y0 y1 a0 a1; rintro e w1 ⟨rfl, hb1⟩; have HI2 := Lib.hid (HI1.out.below hJ hb1); clear hb1; obtain ⟨⟨c0, c1, c2, c3⟩, ⟨y0, y1⟩, a0, a1⟩ := HI2.out.i.facts; obtain ⟨fn, tmps, assign, body, hy, hR⟩ := hY (runsP k pre).2 ((runsP k pre).1, x) _ (Nat.le_trans HI2.out.z HI2.out.s) HI2.out.odd HI2.out.i.j (Nat.lt_of_le_of_lt (runs_length k pre) hlen); dsimp only [encR] at hy)
            refine ⟨rfl, hR.mono ?_⟩
            clear hy hR
            have hI := HI2.out
            rintro e W3 ⟨hs3, hk3, ⟨rfl, hJ3⟩ | ⟨rfl, hJx3⟩⟩
            · have HF := Lib.hid (hI.after hJ3 hs3 hk3)
              clear hJ3 hs3 hk3 hI
              gi_wp2
              exact ⟨HF.out.s, HF.out.m.mono (fun j hj => by omega), by dsimp only; rw [HR.out]; exact HF.out.i⟩
            · have HF := Lib.hid (And.intro hJx3 (hI.stopped hs3 hk3))
              clear hJx3 hs3 hk3 hI
              gi_wp2
              exact ⟨HF.out.2.1, HF.out.2.2.mono (fun j hj => by omega), _, HF.out.1⟩
  case done =>
    rintro xs Z rfl hi hK
    gi_wp2
    refine ⟨by simp, .inl ⟨_, _, rfl, run_takeDeferred hK, ?_⟩⟩
    exact ⟨_, results_none rfl _ _ _, ⟨_, rfl⟩, .inl ⟨_, rfl, hJ _ _ _ (some V.heap.size) hi.j (putObj_grown _ _ _) (fun r e => by cases e; exact ⟨by omega, .inr ⟨_, hK, rfl⟩⟩)⟩⟩
  case stop =>
    rintro pre Z ⟨ys, hys⟩ hK
    gi_wp2
    refine ⟨by simp, .inl ⟨_, _, rfl, run_takeDeferred hK, ?_⟩⟩
    exact ⟨_, results_none rfl _ _ _, ⟨_, rfl⟩, .inr ⟨ys, hJx _ _ _ (some V.heap.size) hys (putObj_grown _ _ _) (fun r e => by cases e; exact ⟨by omega, .inr ⟨_, hK, rfl⟩⟩)⟩⟩
end Go.Proofs.YtgceckejchdnlaaGreatDoor
