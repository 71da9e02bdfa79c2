/- Packed texts: SeSize, SeTold, SeCmT. What each of them proves stands above its theorems; the conditions stand in these. -/
import Derived.Test.YtgceckejchdnlaaGreatDoorB1
import Derived.Test.YtgceckejchdnlaaGreatDoorB4
import Derived.Test.YtgceckejchdnlaaGreatDoorB36
import Derived.Test.YtgceckejchdnlaaGreatDoorB37
import Derived.Test.YtgceckejchdnlaaGreatDoorB40
import Derived.Test.YtgceckejchdnlaaGreatDoorB41
namespace Go.Proofs.YtgceckejchdnlaaGreatDoor
open Go.RowKit Go.Lib

def sumL (ys : List (List UInt8)) : Nat := (ys.map List.length).sum
theorem sumL_snoc (ys : List (List UInt8)) (y : List UInt8) : sumL (ys ++ [y]) = sumL ys + y.length := by simp [sumL]
theorem readR_sum : ∀ (f : Nat) (l : List UInt8) (acc : List (List UInt8)) (now : List UInt8) (ys : List (List UInt8)), readR f l acc now = some ys → sumL ys ≤ sumL acc + now.length + l.length := by
  intro f
  induction f with
  | zero => intro l acc now ys h; cases h
  | succ f ih =>
    intro l acc now ys h
    by_cases hl : l = []
    · subst hl
      rw [readR_end] at h
      cases h
      rw [sumL_snoc]
      exact Nat.le_refl _
    · cases hst : stepR l with
      | none => rw [readR_bad hl hst] at h; cases h
      | some p =>
        obtain ⟨o, n⟩ := p
        have hf := stepR_fit hst
        cases o with
        | none =>
          rw [readR_place hl hst] at h
          have := ih _ _ _ _ h
          rw [sumL_snoc, List.length_drop, List.length_nil] at this
          omega
        | some c =>
          rw [readR_byte hl hst] at h
          have := ih _ _ _ _ h
          rw [List.length_append, List.length_drop] at this
          simp only [List.length_cons, List.length_nil] at this
          omega
theorem read_sum {l : List UInt8} {ys : List (List UInt8)} (h : readD' l = some ys) : sumL ys ≤ l.length := by
  have := readR_sum _ _ _ _ _ h
  simpa [sumL] using this
theorem letP_sum {R : List UInt8 → Res} {a b : Ad} {neg : Bool} {l r : List UInt8} {c : Cm} (h : letP R a b neg l = .ok c r) : sumL c.put ≤ l.length := by
  cases l with
  | nil => cases h
  | cons o l =>
    unfold letP at h
    dsimp only at h
    simp only [List.length_cons]
    split at h
    · cases l with
      | nil => cases h
      | cons d l1 =>
        dsimp only at h
        split at h
        · obtain ⟨t, l2, ht, h⟩ := got_bind h
          obtain ⟨ys, l3, hy, h⟩ := got_bind h
          cases h
          have h1 := treeP_len ht
          unfold putP at hy
          split at hy
          · cases hy
          · rename_i p r' hp
            have h2 := partL_short _ _ _ hp
            split at hy
            · rename_i zs hz
              have h3 := read_sum hz
              cases hy
              simp only [List.length_cons]
              omega
            · cases hy
        · cases h
    · split at h
      · split at h
        · cases h; simp [sumL]
        · obtain ⟨y, r', hy, h⟩ := got_bind h
          cases h; simp [sumL]
      · split at h
        · split at h
          · obtain ⟨y, r', hy, h⟩ := got_bind h
            cases h; simp [sumL]
          · cases h
        · split at h
          · cases h; simp [sumL]
          · cases h
theorem comP_sum {R : List UInt8 → Res} {l r : List UInt8} {c : Cm} (h : comP R l = .ok c r) : sumL c.put ≤ l.length := by
  unfold comP at h
  obtain ⟨a, l1, ha, h⟩ := got_bind h
  obtain ⟨b, l2, hb, h⟩ := got_bind h
  obtain ⟨c', l3, hc, h⟩ := got_bind h
  have h1 := adP_len ha
  have h2 := secP_len hb
  have h3 := letP_sum hc
  have h4 := notL_len l2
  split at h
  · cases h; omega
  · cases h
theorem scr_sum {R : List UInt8 → Res} (m : Nat) : ∀ (k : Nat) (l : List UInt8) (cs ds : List Cm), l.length = k → l.length ≤ m → scr R l cs = .ok ds → (∀ c ∈ cs, sumL c.put ≤ m) → ∀ c ∈ ds, sumL c.put ≤ m := by
  intro k
  induction k using Nat.strongRecOn with
  | ind k ih =>
    intro l cs ds hk hm h hc
    rw [scr_eq] at h
    rcases scrS_ok h with ⟨he, rfl⟩ | ⟨c, l1, d, l2, he, h1, h2, h3, h4⟩
    · exact hc
    · have hd := dw_len sepS l
      rw [he] at hd
      have hl := comP_len h3
      have hb := comP_sum h3
      refine ih l2.length (by omega) l2 _ _ rfl (by omega) h4 fun c' hc' => ?_
      rcases List.mem_append.mp hc' with h | h
      · exact hc c' h
      · rw [List.mem_singleton] at h; subst h; omega
theorem Rdy.sum {l : List UInt8} {cs : List Cm} (h : Rdy l cs) : ∀ c ∈ cs, sumL c.put ≤ 8192 :=
  scr_sum 8192 _ l [] cs rfl h.short h.scr (by simp)
theorem mem_sumL {ys : List (List UInt8)} {y : List UInt8} (h : y ∈ ys) : y.length ≤ sumL ys := by
  obtain ⟨a, b, rfl⟩ := List.append_of_mem h
  unfold sumL
  rw [List.map_append, List.map_cons, List.sum_append, List.sum_cons]
  omega
theorem sum_flat : ∀ ys : List (List UInt8), (joinTail [38] (ys.map flatP)).length ≤ 4 * sumL ys + ys.length
  | [] => Nat.zero_le _
  | y :: r => by
    have h1 := sum_flat r
    have h2 := (flatP_len y).2
    show ([38] ++ flatP y ++ joinTail [38] (r.map flatP)).length ≤ 4 * (y.length + sumL r) + (r.length + 1)
    simp only [List.length_append, List.length_cons, List.length_nil]
    omega
theorem putT_len (ys : List (List UInt8)) : (putT ys).length ≤ 4 * sumL ys + ys.length := by
  rw [putT_eq]
  cases ys with
  | nil => exact Nat.zero_le _
  | cons y r =>
    rw [List.map_cons, join_cons, List.length_append]
    have h1 := sum_flat r
    have h2 := (flatP_len y).2
    show _ ≤ 4 * (y.length + sumL r) + (r.length + 1)
    omega
theorem ad_len {a : Ad} (h : a.good) : (adT a).length ≤ 4620002 := by
  cases a with
  | none => exact Nat.zero_le _
  | line n =>
    have h2 : n ≤ 1000000000 := h.2
    have := decDigits_len n (by omega)
    show (decDigits n).length ≤ _
    omega
  | last => exact (by decide : 1 ≤ 4620002)
  | re t =>
    have h2 : t.size ≤ 2000 := h.2
    have := txtT_len t
    show (47 :: (t.txt ++ [47])).length ≤ _
    simp only [List.length_cons, List.length_append, List.length_nil]
    omega
theorem re_len {c : Cm} (h : c.Good) : (reT c.re).length ≤ 4620000 := by
  cases hc : c.re with
  | none => exact Nat.zero_le _
  | some t =>
    have h2 := (h.tree t hc).2
    have := txtT_len t
    show t.txt.length ≤ _
    omega
/-- A command's text is shorter than twenty million bytes. -/
theorem cm_len {c : Cm} (h : c.Good) (h1 : sumL c.put ≤ 8192) (h2 : c.put.length ≤ 8193) (h3 : c.label.length ≤ 8192) : (cmT c).length ≤ 20000000 := by
  have a1 := ad_len h.a
  have a2 := ad_len h.b
  have a3 := re_len h
  have a4 := putT_len c.put
  have a5 : (flT c.all c.prt).length ≤ 2 := by cases c.all <;> cases c.prt <;> decide
  have a6 : (tailT c).length ≤ 4670000 := by
    unfold tailT
    split
    · simp only [List.length_cons, List.length_append]; omega
    · split
      · split
        · exact Nat.zero_le _
        · simp only [List.length_cons]; omega
      · split
        · omega
        · exact Nat.zero_le _
  have a7 : (if c.b.k = 0 then ([] : List UInt8) else 44 :: adT c.b).length ≤ 4620003 := by
    split
    · exact Nat.zero_le _
    · simp only [List.length_cons]; omega
  have a8 : (if c.neg then ([33] : List UInt8) else []).length ≤ 1 := by cases c.neg <;> decide
  unfold cmT
  simp only [List.length_cons, List.length_append]
  omega
theorem tail_cm : ∀ cs : List Cm, (∀ c ∈ cs, (cmT c).length ≤ 20000000) → (joinTail [10] (cs.map cmT)).length ≤ 20000001 * cs.length
  | [], _ => Nat.zero_le _
  | c :: r, h => by
    have h1 := tail_cm r fun d hd => h d (by simp [hd])
    have h2 := h c (by simp)
    show ([10] ++ cmT c ++ joinTail [10] (r.map cmT)).length ≤ 20000001 * (r.length + 1)
    simp only [List.length_append, List.length_cons, List.length_nil]
    omega
theorem sc_len (cs : List Cm) (h : ∀ c ∈ cs, (cmT c).length ≤ 20000000) : (scT cs).length ≤ 20000001 * cs.length := by
  unfold scT
  cases cs with
  | nil => exact Nat.zero_le _
  | cons c r =>
    rw [List.map_cons, join_cons, List.length_append]
    have h1 := tail_cm r fun d hd => h d (by simp [hd])
    have h2 := h c (by simp)
    rw [List.length_cons]
    omega
/-- What is known of the texts of commands that were read. -/
theorem Rdy.cms {l : List UInt8} {cs : List Cm} (h : Rdy l cs) : ∀ c ∈ cs, (cmT c).length ≤ 20000000 := fun c hc => cm_len (h.good c hc) (h.sum c hc) (h.put c hc) (h.lab c hc)
end Go.Proofs.YtgceckejchdnlaaGreatDoor
namespace Go.Proofs.YtgceckejchdnlaaGreatDoor
open Go.RowKit Go.Lib

theorem itoa_nat (n : Nat) : Lib.itoa (n : Int) = Lib.decDigits n := by unfold Lib.itoa; rw [if_neg (by omega)]; rfl
theorem box3t (w : World) (x y z : Value) : Below w.heap.size w (w.alloc (.cells #[x, y, z] 33)) := (Below.refl _ w).alloc (Nat.le_refl _) _
set_option maxHeartbeats 2000000 in
set_option maxRecDepth 20000 in
theorem place_none (w : World) :
    Calls Tryz.prog 27 #[.agg #[.int .i64 0, .int .i64 0, .slice none 0 0]] w fun e w' => e = .returned (.string ⟨#[]⟩) ∧ Below w.heap.size w w' := by
  go_enter Tryz.func27, Tryz.ntmps27
  go_wp2_with fail
  exact bodyPost_ret (results_tmp rfl _ _ _) rfl ⟨rfl, box3t w _ _ _⟩
set_option maxHeartbeats 2000000 in
set_option maxRecDepth 20000 in
theorem place_last (w : World) :
    Calls Tryz.prog 27 #[.agg #[.int .i64 2, .int .i64 0, .slice none 0 0]] w fun e w' => e = .returned (.string ⟨#[36]⟩) ∧ Below w.heap.size w w' := by
  go_enter Tryz.func27, Tryz.ntmps27
  go_wp2_with fail
  exact bodyPost_ret (results_tmp rfl _ _ _) rfl ⟨rfl, box3t w _ _ _⟩
set_option maxHeartbeats 2000000 in
set_option maxRecDepth 20000 in
theorem place_line (n : Nat) (h2 : n ≤ 1000000000) (w : World) (ht : Tab w) :
    Calls Tryz.prog 27 #[.agg #[.int .i64 1, .int .i64 (n : Int), .slice none 0 0]] w fun e w' => e = .returned (.string ⟨(Lib.decDigits n).toArray⟩) ∧ Below w.heap.size w w' := by
  have k := figures_any (n : Int) _ (by omega) (by omega) (ht.below (box3t w (.int .i64 1) (.int .i64 (n : Int)) (.slice none 0 0)))
  rw [itoa_nat] at k
  generalize Lib.decDigits n = D at k
  go_enter Tryz.func27, Tryz.ntmps27
  go_wp2_with (go_at_call 46; refine k.mono ?_; rintro e w2 ⟨rfl, hb2⟩)
  exact bodyPost_ret (results_tmp rfl _ _ _) rfl ⟨rfl, (box3t w _ _ _).trans (hb2.mono (by simp))⟩
theorem cat3 (x : List UInt8) : (⟨#[47]⟩ : ByteArray) ++ (⟨x.toArray⟩ : ByteArray) ++ (⟨#[47]⟩ : ByteArray) = ⟨(47 :: (x ++ [47])).toArray⟩ := by
  apply ByteArray.ext
  apply Array.toList_inj.1
  simp
set_option maxHeartbeats 2000000 in
set_option maxRecDepth 20000 in
theorem place_re (ao : Option Addr) (a2 a3 : Nat) (x : List UInt8) (w : World) (hxl : x.length ≤ 1000000000)
    (k1 : ∀ w1, Below w.heap.size w w1 → Calls Tryz.prog 29 #[.slice ao a2 a3] w1 fun e w' => e = .returned (.string ⟨x.toArray⟩) ∧ Below w1.heap.size w1 w') :
    Calls Tryz.prog 27 #[.agg #[.int .i64 3, .int .i64 0, .slice ao a2 a3]] w fun e w' => e = .returned (.string ⟨(47 :: (x ++ [47])).toArray⟩) ∧ Below w.heap.size w w' := by
  have k2 := k1 _ (box3t w (.int .i64 3) (.int .i64 0) (.slice ao a2 a3))
  have hx := cat3 x
  obtain ⟨X, hX⟩ : ∃ X : ByteArray, X = ⟨x.toArray⟩ := ⟨_, rfl⟩
  rw [← hX] at k2 hx
  have hXz : X.size ≤ 1000000000 := by rw [hX]; show x.toArray.size ≤ _; rw [List.size_toArray]; exact hxl
  have HX := Lib.hid hx
  clear k1 hx hX hxl
  go_enter Tryz.func27, Tryz.ntmps27
  go_wp2_with (go_at_call 29; refine k2.mono ?_; rintro e w2 ⟨rfl, hb2⟩)
  rw [← HX.out]
  exact bodyPost_ret (results_tmp rfl _ _ _) rfl ⟨rfl, (box3t w _ _ _).trans (hb2.mono (by simp))⟩
/-- A tree's text, as package regex tells it. -/
theorem tree_text {B : Nat} {t : Tr} {v : Value} {w : World} (ht : t.ok ∧ t.size ≤ 2000) (h : IsRow B (t.row 0) v w) :
    Calls Tryz.prog 29 #[v] w fun e w' => e = .returned (.string ⟨t.txt.toArray⟩) ∧ Below w.heap.size w w' :=
  textRe_any v t w ht.1 ht.2 (IsRow.lies h (by rw [Tr.row_length]; have := ht.2; omega)) (right_row t ht.1 ht.2)
theorem place_any (B : Nat) (a : Ad) (v : Value) (w : World) (ha : a.good) (h : AdS B a v w) (ht : Tab w) :
    Calls Tryz.prog 27 #[.agg #[.int .i64 (a.k : Int), .int .i64 (a.n : Int), v]] w fun e w' => e = .returned (.string ⟨(adT a).toArray⟩) ∧ Below w.heap.size w w' := by
  cases a with
  | none =>
    obtain rfl : v = .slice none 0 0 := h
    exact place_none w
  | last =>
    obtain rfl : v = .slice none 0 0 := h
    exact place_last w
  | line n =>
    obtain rfl : v = .slice none 0 0 := h
    exact place_line n ha.2 w ht
  | re t =>
    obtain ⟨a1, a2, a3, rfl⟩ := ads_slice h
    exact place_re a1 a2 a3 t.txt w (by have h1 := txtT_len t; have h2 : t.size ≤ 2000 := ha.2; omega) fun w1 hb => tree_text ha (AdS.below (a := .re t) h hb)
set_option maxHeartbeats 2000000 in
set_option maxRecDepth 20000 in
theorem flags8_any (x0 x1 x2 x3 x4 x5 x6 x7 x8 x9 x12 : Value) (all prt : Bool) (w : World) :
    Calls Tryz.prog 31 #[.agg #[x0, x1, x2, x3, x4, x5, x6, x7, x8, x9, .bool all, .bool prt, x12]] w fun e w' => e = .returned (.string ⟨(flT all prt).toArray⟩) ∧ Below w.heap.size w w' := by
  cases all <;> cases prt
  all_goals
    go_enter Tryz.func31, Tryz.ntmps31
    go_wp2_with fail
    exact bodyPost_ret (results_tmp rfl _ _ _) rfl ⟨rfl, (Below.refl _ w).alloc (Nat.le_refl _) _⟩
/-- What lies while a command is told: the command, and what is written. -/
structure ToS (w0 : World) (xs : List Value) (out : List UInt8) (w : World) : Prop where
  q : Cq w0.heap.size xs w
  b : IsBuilderF 55 5 (w0.heap.size + 1) (w0.heap.size + 1) (byteCells out) w
  low : Below w0.heap.size w0 w
  big : w0.heap.size + 1 ≤ w.heap.size
theorem ToS.start (w : World) (xs : List Value) : ToS w xs [] ((w.alloc (.cells ⟨xs⟩ 36)).alloc (.cells #[.pointer none, .slice none 0 0] 55)) := by
  have hz : (w.alloc (.cells ⟨xs⟩ 36)).heap.size = w.heap.size + 1 := by simp
  refine ⟨(Below.heap_alloc _ _ _ (by simp)).trans (heap_alloc_new w _), .inl ?_, ((Below.refl _ w).alloc (Nat.le_refl _) _).alloc (by simp) _, by simp⟩
  exact ⟨Nat.le_refl _, _, by have := heap_alloc_new (w.alloc (.cells ⟨xs⟩ 36)) (.cells #[.pointer none, .slice none 0 0] 55); rw [hz] at this; exact this, ⟨rfl, .inl ⟨rfl, rfl⟩⟩, by simp [Value.ownBlock]⟩
theorem ToS.below {w0 w w' : World} {xs : List Value} {out : List UInt8} (h : ToS w0 xs out w) (hb : Below w.heap.size w w') : ToS w0 xs out w' :=
  ⟨(hb.block _ (block_lt h.q)).trans h.q, isBuilder_below h.b hb, h.low.trans (hb.mono h.low.size), Nat.le_trans h.big hb.size⟩
theorem ToS.write {w0 w : World} {xs : List Value} {out : List UInt8} (h : ToS w0 xs out w) (s : ByteArray) (x : List UInt8) (hs : s = ⟨x.toArray⟩) (hl : out.length + x.length ≤ 140737488355328) :
    Calls Tryz.prog 26 #[.pointer (some ⟨w0.heap.size + 1, 0, none⟩), .string s] w fun e w' => e = .returned (.tuple #[.int .i64 (s.size : Int), .nilIface]) ∧ ToS w0 xs (out ++ x) w' := by
  subst hs
  refine (writeString_any (w0.heap.size + 1) (w0.heap.size + 1) (byteCells out) ⟨x.toArray⟩ w h.b ?_ h.big).mono ?_
  · rw [byteCells_length]
    show _ + x.toArray.size ≤ _
    rw [List.size_toArray]
    exact hl
  · rintro e w2 ⟨rfl, h2, hb2, _⟩
    refine ⟨rfl, (hb2.block _ (by omega)).trans h.q, .inr ?_, h.low.trans (hb2.mono (by omega)), Nat.le_trans h.big hb2.size⟩
    rw [bc_append]
    exact h2
theorem ToS.byte {w0 w : World} {xs : List Value} {out : List UInt8} (h : ToS w0 xs out w) (c : UInt8) (hl : out.length + 1 ≤ 140737488355328) :
    Calls Tryz.prog 28 #[.pointer (some ⟨w0.heap.size + 1, 0, none⟩), .int .u8 (c.toNat : Int)] w fun e w' => e = .returned .nilIface ∧ ToS w0 xs (out ++ [c]) w' := by
  refine (writeByte_any (w0.heap.size + 1) (w0.heap.size + 1) (byteCells out) (c.toNat : Int) w h.b ?_ h.big).mono ?_
  · rw [byteCells_length]
    exact hl
  · rintro e w2 ⟨rfl, h2, hb2, _⟩
    refine ⟨rfl, (hb2.block _ (by omega)).trans h.q, .inr ?_, h.low.trans (hb2.mono (by omega)), Nat.le_trans h.big hb2.size⟩
    rw [bc_append]
    exact h2
theorem ToS.done {w0 w : World} {xs : List Value} {out : List UInt8} (h : ToS w0 xs out w) :
    Calls Tryz.prog 32 #[.pointer (some ⟨w0.heap.size + 1, 0, none⟩)] w fun e w' => e = .returned (.string ⟨out.toArray⟩) ∧ Below w0.heap.size w0 w' := by
  refine (Tryz.Builder_String_any_k (w0.heap.size + 1) (w0.heap.size + 1) out w h.b h.big).mono ?_
  rintro e w3 ⟨rfl, _, hb3, _⟩
  exact ⟨rfl, h.low.trans (hb3.mono (by omega))⟩
end Go.Proofs.YtgceckejchdnlaaGreatDoor
namespace Go.Proofs.YtgceckejchdnlaaGreatDoor
open Go.RowKit Go.Lib

/-- Ahead of the letter: the addresses and the sign. -/
def aheadT (A Bt : List UInt8) (kb : Int) (neg : Bool) : List UInt8 := A ++ ((if kb = 0 then [] else 44 :: Bt) ++ (if neg then [33] else []))
theorem cat44 (x : List UInt8) : (⟨#[44]⟩ : ByteArray) ++ (⟨x.toArray⟩ : ByteArray) = ⟨(44 :: x).toArray⟩ := by
  apply ByteArray.ext
  apply Array.toList_inj.1
  simp
theorem catS (x y z : List UInt8) : (⟨#[47]⟩ : ByteArray) ++ (⟨x.toArray⟩ : ByteArray) ++ (⟨#[47]⟩ : ByteArray) ++ (⟨y.toArray⟩ : ByteArray) ++ (⟨#[47]⟩ : ByteArray) ++ (⟨z.toArray⟩ : ByteArray) = ⟨(47 :: (x ++ 47 :: (y ++ 47 :: z))).toArray⟩ := by
  apply ByteArray.ext
  apply Array.toList_inj.1
  simp
theorem ToS.b33 {w0 w : World} {xs : List Value} {out : List UInt8} (h : ToS w0 xs out w) (hl : out.length + 1 ≤ 140737488355328) :
    Calls Tryz.prog 28 #[.pointer (some ⟨w0.heap.size + 1, 0, none⟩), .int .u8 33] w fun e w' => e = .returned .nilIface ∧ ToS w0 xs (out ++ [33]) w' := h.byte 33 hl
theorem ToS.b32 {w0 w : World} {xs : List Value} {out : List UInt8} (h : ToS w0 xs out w) (hl : out.length + 1 ≤ 140737488355328) :
    Calls Tryz.prog 28 #[.pointer (some ⟨w0.heap.size + 1, 0, none⟩), .int .u8 32] w fun e w' => e = .returned .nilIface ∧ ToS w0 xs (out ++ [32]) w' := h.byte 32 hl
set_option maxHeartbeats 16000000 in
set_option maxRecDepth 20000 in
theorem told_c (op : UInt8) (ka na kb nb : Int) (a1 b1 d1 q1 : Option Addr) (a2 a3 b2 b3 d2 d3 q2 q3 : Nat) (neg all prt : Bool) (X : ByteArray) (lab A Bt : List UInt8) (w : World)
    (hX : X = ⟨lab.toArray⟩) (hl : A.length + Bt.length + lab.length ≤ 1000000000)
    (kA : ∀ w1, Below w.heap.size w w1 → Calls Tryz.prog 27 #[.agg #[.int .i64 ka, .int .i64 na, .slice a1 a2 a3]] w1 fun e w' => e = .returned (.string ⟨A.toArray⟩) ∧ Below w1.heap.size w1 w')
    (kB : ∀ w1, Below w.heap.size w w1 → Calls Tryz.prog 27 #[.agg #[.int .i64 kb, .int .i64 nb, .slice b1 b2 b3]] w1 fun e w' => e = .returned (.string ⟨Bt.toArray⟩) ∧ Below w1.heap.size w1 w')
    (hop : ((op.toNat : Int) == 58) = true) (h115 : ((op.toNat : Int) == 115) = false) (h98 : ((op.toNat : Int) == 98) = false) (h116 : ((op.toNat : Int) == 116) = false) :
    Calls Tryz.prog 13 #[.agg #[.int .u8 (op.toNat : Int), .int .i64 ka, .int .i64 na, .slice a1 a2 a3, .int .i64 kb, .int .i64 nb, .slice b1 b2 b3, .bool neg, .slice d1 d2 d3, .slice q1 q2 q3, .bool all, .bool prt, .string X]] w fun e w' => e = .returned (.string ⟨(aheadT A Bt kb neg ++ op :: lab).toArray⟩) ∧ Below w.heap.size w w' := by
  have hc4 := cat44 Bt
  have h0 := ToS.start w [.int .u8 (op.toNat : Int), .int .i64 ka, .int .i64 na, .slice a1 a2 a3, .int .i64 kb, .int .i64 nb, .slice b1 b2 b3, .bool neg, .slice d1 d2 d3, .slice q1 q2 q3, .bool all, .bool prt, .string X]
  obtain ⟨AS, hAS⟩ : ∃ AS : ByteArray, AS = ⟨A.toArray⟩ := ⟨_, rfl⟩
  obtain ⟨BS, hBS⟩ : ∃ BS : ByteArray, BS = ⟨Bt.toArray⟩ := ⟨_, rfl⟩
  rw [← hAS] at kA
  rw [← hBS] at kB hc4
  have hBz : BS.size ≤ 1000000000 := by rw [hBS]; show Bt.toArray.size ≤ _; rw [List.size_toArray]; omega
  have HE := Lib.hid (And.intro hAS (And.intro hc4 hX))
  have HL := Lib.hid hl
  have KA := Lib.hid kA
  have KB := Lib.hid kB
  have HT := Lib.hid h0
  obtain ⟨f0, f1, f2, f3, f4, f5, f6, f7, f8, f9, f10, f11, f12⟩ := cells13 h0.q
  clear hX hl hAS hBS hc4 kA kB h0
  by_cases hkb : kb = 0
  all_goals
    cases neg
    all_goals
      have HKB := Lib.hid hkb
      first
      | (have hkc : (kb != 0) = true := by (rw [bne_iff_ne]; exact hkb)
         clear hkb)
      | (have hkc : (kb != 0) = false := by (rw [hkb]; rfl)
         clear hkb)
      go_enter Tryz.func13, Tryz.ntmps13
      go_wp2_with (first
        | (go_at_call 27; first | with_reducible (refine (KA.out _ HT.out.low).mono ?_; rintro e w1 ⟨rfl, hb⟩; replace HT := Lib.hid (HT.out.below hb); clear hb f0 f1 f2 f3 f4 f5 f6 f7 f8 f9 f10 f11 f12; obtain ⟨f0, f1, f2, f3, f4, f5, f6, f7, f8, f9, f10, f11, f12⟩ := cells13 HT.out.q) | with_reducible (refine (KB.out _ HT.out.low).mono ?_; rintro e w1 ⟨rfl, hb⟩; replace HT := Lib.hid (HT.out.below hb); clear hb f0 f1 f2 f3 f4 f5 f6 f7 f8 f9 f10 f11 f12; obtain ⟨f0, f1, f2, f3, f4, f5, f6, f7, f8, f9, f10, f11, f12⟩ := cells13 HT.out.q))
        | (go_at_call 26; first | with_reducible (refine (HT.out.write AS A HE.out.1 (by have := HL.out; simp only [List.length_nil]; omega)).mono ?_; rintro e w1 ⟨rfl, h2⟩; replace HT := Lib.hid h2; clear h2 f0 f1 f2 f3 f4 f5 f6 f7 f8 f9 f10 f11 f12; obtain ⟨f0, f1, f2, f3, f4, f5, f6, f7, f8, f9, f10, f11, f12⟩ := cells13 HT.out.q) | with_reducible (refine (HT.out.write (⟨#[44]⟩ ++ BS) (44 :: Bt) HE.out.2.1 (by have := HL.out; simp only [List.length_append, List.length_cons, List.length_nil]; omega)).mono ?_; rintro e w1 ⟨rfl, h2⟩; replace HT := Lib.hid h2; clear h2 f0 f1 f2 f3 f4 f5 f6 f7 f8 f9 f10 f11 f12; obtain ⟨f0, f1, f2, f3, f4, f5, f6, f7, f8, f9, f10, f11, f12⟩ := cells13 HT.out.q) | with_reducible (refine (HT.out.write X lab HE.out.2.2 (by have := HL.out; simp only [List.length_append, List.length_cons, List.length_nil]; omega)).mono ?_; rintro e w1 ⟨rfl, h2⟩; replace HT := Lib.hid h2; clear h2 f0 f1 f2 f3 f4 f5 f6 f7 f8 f9 f10 f11 f12; obtain ⟨f0, f1, f2, f3, f4, f5, f6, f7, f8, f9, f10, f11, f12⟩ := cells13 HT.out.q))
        | (go_at_call 28; first | with_reducible (refine (HT.out.b33 (by have := HL.out; simp only [List.length_append, List.length_cons, List.length_nil]; omega)).mono ?_; rintro e w1 ⟨rfl, h2⟩; replace HT := Lib.hid h2; clear h2 f0 f1 f2 f3 f4 f5 f6 f7 f8 f9 f10 f11 f12; obtain ⟨f0, f1, f2, f3, f4, f5, f6, f7, f8, f9, f10, f11, f12⟩ := cells13 HT.out.q) | with_reducible (refine (HT.out.b32 (by have := HL.out; simp only [List.length_append, List.length_cons, List.length_nil]; omega)).mono ?_; rintro e w1 ⟨rfl, h2⟩; replace HT := Lib.hid h2; clear h2 f0 f1 f2 f3 f4 f5 f6 f7 f8 f9 f10 f11 f12; obtain ⟨f0, f1, f2, f3, f4, f5, f6, f7, f8, f9, f10, f11, f12⟩ := cells13 HT.out.q) | with_reducible (refine (HT.out.byte op (by have := HL.out; simp only [List.length_append, List.length_cons, List.length_nil]; omega)).mono ?_; rintro e w1 ⟨rfl, h2⟩; replace HT := Lib.hid h2; clear h2 f0 f1 f2 f3 f4 f5 f6 f7 f8 f9 f10 f11 f12; obtain ⟨f0, f1, f2, f3, f4, f5, f6, f7, f8, f9, f10, f11, f12⟩ := cells13 HT.out.q))
        | (go_at_call 32; refine HT.out.done.mono ?_; rintro e w1 ⟨rfl, hb⟩; have HD := Lib.hid hb; clear hb))
      refine bodyPost_ret (results_tmp rfl _ _ _) rfl ⟨?_, HD.out⟩
      refine congrArg (fun l : List UInt8 => Ending.returned (Value.string ⟨l.toArray⟩)) ?_
      have h := HKB.out
      simp [aheadT, h]
set_option maxHeartbeats 16000000 in
set_option maxRecDepth 20000 in
theorem told_be (op : UInt8) (ka na kb nb : Int) (a1 b1 d1 q1 : Option Addr) (a2 a3 b2 b3 d2 d3 q2 q3 : Nat) (neg all prt : Bool) (X : ByteArray) (lab A Bt : List UInt8) (w : World)
    (hX : X = ⟨lab.toArray⟩) (hl : A.length + Bt.length + lab.length ≤ 1000000000)
    (kA : ∀ w1, Below w.heap.size w w1 → Calls Tryz.prog 27 #[.agg #[.int .i64 ka, .int .i64 na, .slice a1 a2 a3]] w1 fun e w' => e = .returned (.string ⟨A.toArray⟩) ∧ Below w1.heap.size w1 w')
    (kB : ∀ w1, Below w.heap.size w w1 → Calls Tryz.prog 27 #[.agg #[.int .i64 kb, .int .i64 nb, .slice b1 b2 b3]] w1 fun e w' => e = .returned (.string ⟨Bt.toArray⟩) ∧ Below w1.heap.size w1 w')
    (hop : ((op.toNat : Int) == 98) = true ∨ (((op.toNat : Int) == 98) = false ∧ ((op.toNat : Int) == 116) = true)) (h115 : ((op.toNat : Int) == 115) = false) (hlb : X.toList.isEmpty = true) :
    Calls Tryz.prog 13 #[.agg #[.int .u8 (op.toNat : Int), .int .i64 ka, .int .i64 na, .slice a1 a2 a3, .int .i64 kb, .int .i64 nb, .slice b1 b2 b3, .bool neg, .slice d1 d2 d3, .slice q1 q2 q3, .bool all, .bool prt, .string X]] w fun e w' => e = .returned (.string ⟨(aheadT A Bt kb neg ++ op :: ([] : List UInt8)).toArray⟩) ∧ Below w.heap.size w w' := by
  have hc4 := cat44 Bt
  have h0 := ToS.start w [.int .u8 (op.toNat : Int), .int .i64 ka, .int .i64 na, .slice a1 a2 a3, .int .i64 kb, .int .i64 nb, .slice b1 b2 b3, .bool neg, .slice d1 d2 d3, .slice q1 q2 q3, .bool all, .bool prt, .string X]
  obtain ⟨AS, hAS⟩ : ∃ AS : ByteArray, AS = ⟨A.toArray⟩ := ⟨_, rfl⟩
  obtain ⟨BS, hBS⟩ : ∃ BS : ByteArray, BS = ⟨Bt.toArray⟩ := ⟨_, rfl⟩
  rw [← hAS] at kA
  rw [← hBS] at kB hc4
  have hBz : BS.size ≤ 1000000000 := by rw [hBS]; show Bt.toArray.size ≤ _; rw [List.size_toArray]; omega
  have HE := Lib.hid (And.intro hAS (And.intro hc4 hX))
  have HL := Lib.hid hl
  have KA := Lib.hid kA
  have KB := Lib.hid kB
  have HT := Lib.hid h0
  obtain ⟨f0, f1, f2, f3, f4, f5, f6, f7, f8, f9, f10, f11, f12⟩ := cells13 h0.q
  clear hX hl hAS hBS hc4 kA kB h0
  by_cases hkb : kb = 0
  all_goals
    cases neg
    all_goals
      have HKB := Lib.hid hkb
      first
      | (have hkc : (kb != 0) = true := by (rw [bne_iff_ne]; exact hkb)
         clear hkb)
      | (have hkc : (kb != 0) = false := by (rw [hkb]; rfl)
         clear hkb)
      go_enter Tryz.func13, Tryz.ntmps13
      rcases hop with hop | ⟨hop, hop2⟩
      all_goals
        go_wp2_with (first
          | (go_at_call 27; first | with_reducible (refine (KA.out _ HT.out.low).mono ?_; rintro e w1 ⟨rfl, hb⟩; replace HT := Lib.hid (HT.out.below hb); clear hb f0 f1 f2 f3 f4 f5 f6 f7 f8 f9 f10 f11 f12; obtain ⟨f0, f1, f2, f3, f4, f5, f6, f7, f8, f9, f10, f11, f12⟩ := cells13 HT.out.q) | with_reducible (refine (KB.out _ HT.out.low).mono ?_; rintro e w1 ⟨rfl, hb⟩; replace HT := Lib.hid (HT.out.below hb); clear hb f0 f1 f2 f3 f4 f5 f6 f7 f8 f9 f10 f11 f12; obtain ⟨f0, f1, f2, f3, f4, f5, f6, f7, f8, f9, f10, f11, f12⟩ := cells13 HT.out.q))
          | (go_at_call 26; first | with_reducible (refine (HT.out.write AS A HE.out.1 (by have := HL.out; simp only [List.length_nil]; omega)).mono ?_; rintro e w1 ⟨rfl, h2⟩; replace HT := Lib.hid h2; clear h2 f0 f1 f2 f3 f4 f5 f6 f7 f8 f9 f10 f11 f12; obtain ⟨f0, f1, f2, f3, f4, f5, f6, f7, f8, f9, f10, f11, f12⟩ := cells13 HT.out.q) | with_reducible (refine (HT.out.write (⟨#[44]⟩ ++ BS) (44 :: Bt) HE.out.2.1 (by have := HL.out; simp only [List.length_append, List.length_cons, List.length_nil]; omega)).mono ?_; rintro e w1 ⟨rfl, h2⟩; replace HT := Lib.hid h2; clear h2 f0 f1 f2 f3 f4 f5 f6 f7 f8 f9 f10 f11 f12; obtain ⟨f0, f1, f2, f3, f4, f5, f6, f7, f8, f9, f10, f11, f12⟩ := cells13 HT.out.q) | with_reducible (refine (HT.out.write X lab HE.out.2.2 (by have := HL.out; simp only [List.length_append, List.length_cons, List.length_nil]; omega)).mono ?_; rintro e w1 ⟨rfl, h2⟩; replace HT := Lib.hid h2; clear h2 f0 f1 f2 f3 f4 f5 f6 f7 f8 f9 f10 f11 f12; obtain ⟨f0, f1, f2, f3, f4, f5, f6, f7, f8, f9, f10, f11, f12⟩ := cells13 HT.out.q))
          | (go_at_call 28; first | with_reducible (refine (HT.out.b33 (by have := HL.out; simp only [List.length_append, List.length_cons, List.length_nil]; omega)).mono ?_; rintro e w1 ⟨rfl, h2⟩; replace HT := Lib.hid h2; clear h2 f0 f1 f2 f3 f4 f5 f6 f7 f8 f9 f10 f11 f12; obtain ⟨f0, f1, f2, f3, f4, f5, f6, f7, f8, f9, f10, f11, f12⟩ := cells13 HT.out.q) | with_reducible (refine (HT.out.b32 (by have := HL.out; simp only [List.length_append, List.length_cons, List.length_nil]; omega)).mono ?_; rintro e w1 ⟨rfl, h2⟩; replace HT := Lib.hid h2; clear h2 f0 f1 f2 f3 f4 f5 f6 f7 f8 f9 f10 f11 f12; obtain ⟨f0, f1, f2, f3, f4, f5, f6, f7, f8, f9, f10, f11, f12⟩ := cells13 HT.out.q) | with_reducible (refine (HT.out.byte op (by have := HL.out; simp only [List.length_append, List.length_cons, List.length_nil]; omega)).mono ?_; rintro e w1 ⟨rfl, h2⟩; replace HT := Lib.hid h2; clear h2 f0 f1 f2 f3 f4 f5 f6 f7 f8 f9 f10 f11 f12; obtain ⟨f0, f1, f2, f3, f4, f5, f6, f7, f8, f9, f10, f11, f12⟩ := cells13 HT.out.q))
          | (go_at_call 32; refine HT.out.done.mono ?_; rintro e w1 ⟨rfl, hb⟩; have HD := Lib.hid hb; clear hb))
        refine bodyPost_ret (results_tmp rfl _ _ _) rfl ⟨?_, HD.out⟩
        refine congrArg (fun l : List UInt8 => Ending.returned (Value.string ⟨l.toArray⟩)) ?_
        have h := HKB.out
        simp [aheadT, h]
set_option maxHeartbeats 16000000 in
set_option maxRecDepth 20000 in
theorem told_bl (op : UInt8) (ka na kb nb : Int) (a1 b1 d1 q1 : Option Addr) (a2 a3 b2 b3 d2 d3 q2 q3 : Nat) (neg all prt : Bool) (X : ByteArray) (lab A Bt : List UInt8) (w : World)
    (hX : X = ⟨lab.toArray⟩) (hl : A.length + Bt.length + lab.length ≤ 1000000000)
    (kA : ∀ w1, Below w.heap.size w w1 → Calls Tryz.prog 27 #[.agg #[.int .i64 ka, .int .i64 na, .slice a1 a2 a3]] w1 fun e w' => e = .returned (.string ⟨A.toArray⟩) ∧ Below w1.heap.size w1 w')
    (kB : ∀ w1, Below w.heap.size w w1 → Calls Tryz.prog 27 #[.agg #[.int .i64 kb, .int .i64 nb, .slice b1 b2 b3]] w1 fun e w' => e = .returned (.string ⟨Bt.toArray⟩) ∧ Below w1.heap.size w1 w')
    (hop : ((op.toNat : Int) == 98) = true ∨ (((op.toNat : Int) == 98) = false ∧ ((op.toNat : Int) == 116) = true)) (h115 : ((op.toNat : Int) == 115) = false) (hlb : X.toList.isEmpty = false) :
    Calls Tryz.prog 13 #[.agg #[.int .u8 (op.toNat : Int), .int .i64 ka, .int .i64 na, .slice a1 a2 a3, .int .i64 kb, .int .i64 nb, .slice b1 b2 b3, .bool neg, .slice d1 d2 d3, .slice q1 q2 q3, .bool all, .bool prt, .string X]] w fun e w' => e = .returned (.string ⟨(aheadT A Bt kb neg ++ op :: (32 :: lab)).toArray⟩) ∧ Below w.heap.size w w' := by
  have hc4 := cat44 Bt
  have h0 := ToS.start w [.int .u8 (op.toNat : Int), .int .i64 ka, .int .i64 na, .slice a1 a2 a3, .int .i64 kb, .int .i64 nb, .slice b1 b2 b3, .bool neg, .slice d1 d2 d3, .slice q1 q2 q3, .bool all, .bool prt, .string X]
  obtain ⟨AS, hAS⟩ : ∃ AS : ByteArray, AS = ⟨A.toArray⟩ := ⟨_, rfl⟩
  obtain ⟨BS, hBS⟩ : ∃ BS : ByteArray, BS = ⟨Bt.toArray⟩ := ⟨_, rfl⟩
  rw [← hAS] at kA
  rw [← hBS] at kB hc4
  have hBz : BS.size ≤ 1000000000 := by rw [hBS]; show Bt.toArray.size ≤ _; rw [List.size_toArray]; omega
  have HE := Lib.hid (And.intro hAS (And.intro hc4 hX))
  have HL := Lib.hid hl
  have KA := Lib.hid kA
  have KB := Lib.hid kB
  have HT := Lib.hid h0
  obtain ⟨f0, f1, f2, f3, f4, f5, f6, f7, f8, f9, f10, f11, f12⟩ := cells13 h0.q
  clear hX hl hAS hBS hc4 kA kB h0
  by_cases hkb : kb = 0
  all_goals
    cases neg
    all_goals
      have HKB := Lib.hid hkb
      first
      | (have hkc : (kb != 0) = true := by (rw [bne_iff_ne]; exact hkb)
         clear hkb)
      | (have hkc : (kb != 0) = false := by (rw [hkb]; rfl)
         clear hkb)
      go_enter Tryz.func13, Tryz.ntmps13
      rcases hop with hop | ⟨hop, hop2⟩
      all_goals
        go_wp2_with (first
          | (go_at_call 27; first | with_reducible (refine (KA.out _ HT.out.low).mono ?_; rintro e w1 ⟨rfl, hb⟩; replace HT := Lib.hid (HT.out.below hb); clear hb f0 f1 f2 f3 f4 f5 f6 f7 f8 f9 f10 f11 f12; obtain ⟨f0, f1, f2, f3, f4, f5, f6, f7, f8, f9, f10, f11, f12⟩ := cells13 HT.out.q) | with_reducible (refine (KB.out _ HT.out.low).mono ?_; rintro e w1 ⟨rfl, hb⟩; replace HT := Lib.hid (HT.out.below hb); clear hb f0 f1 f2 f3 f4 f5 f6 f7 f8 f9 f10 f11 f12; obtain ⟨f0, f1, f2, f3, f4, f5, f6, f7, f8, f9, f10, f11, f12⟩ := cells13 HT.out.q))
          | (go_at_call 26; first | with_reducible (refine (HT.out.write AS A HE.out.1 (by have := HL.out; simp only [List.length_nil]; omega)).mono ?_; rintro e w1 ⟨rfl, h2⟩; replace HT := Lib.hid h2; clear h2 f0 f1 f2 f3 f4 f5 f6 f7 f8 f9 f10 f11 f12; obtain ⟨f0, f1, f2, f3, f4, f5, f6, f7, f8, f9, f10, f11, f12⟩ := cells13 HT.out.q) | with_reducible (refine (HT.out.write (⟨#[44]⟩ ++ BS) (44 :: Bt) HE.out.2.1 (by have := HL.out; simp only [List.length_append, List.length_cons, List.length_nil]; omega)).mono ?_; rintro e w1 ⟨rfl, h2⟩; replace HT := Lib.hid h2; clear h2 f0 f1 f2 f3 f4 f5 f6 f7 f8 f9 f10 f11 f12; obtain ⟨f0, f1, f2, f3, f4, f5, f6, f7, f8, f9, f10, f11, f12⟩ := cells13 HT.out.q) | with_reducible (refine (HT.out.write X lab HE.out.2.2 (by have := HL.out; simp only [List.length_append, List.length_cons, List.length_nil]; omega)).mono ?_; rintro e w1 ⟨rfl, h2⟩; replace HT := Lib.hid h2; clear h2 f0 f1 f2 f3 f4 f5 f6 f7 f8 f9 f10 f11 f12; obtain ⟨f0, f1, f2, f3, f4, f5, f6, f7, f8, f9, f10, f11, f12⟩ := cells13 HT.out.q))
          | (go_at_call 28; first | with_reducible (refine (HT.out.b33 (by have := HL.out; simp only [List.length_append, List.length_cons, List.length_nil]; omega)).mono ?_; rintro e w1 ⟨rfl, h2⟩; replace HT := Lib.hid h2; clear h2 f0 f1 f2 f3 f4 f5 f6 f7 f8 f9 f10 f11 f12; obtain ⟨f0, f1, f2, f3, f4, f5, f6, f7, f8, f9, f10, f11, f12⟩ := cells13 HT.out.q) | with_reducible (refine (HT.out.b32 (by have := HL.out; simp only [List.length_append, List.length_cons, List.length_nil]; omega)).mono ?_; rintro e w1 ⟨rfl, h2⟩; replace HT := Lib.hid h2; clear h2 f0 f1 f2 f3 f4 f5 f6 f7 f8 f9 f10 f11 f12; obtain ⟨f0, f1, f2, f3, f4, f5, f6, f7, f8, f9, f10, f11, f12⟩ := cells13 HT.out.q) | with_reducible (refine (HT.out.byte op (by have := HL.out; simp only [List.length_append, List.length_cons, List.length_nil]; omega)).mono ?_; rintro e w1 ⟨rfl, h2⟩; replace HT := Lib.hid h2; clear h2 f0 f1 f2 f3 f4 f5 f6 f7 f8 f9 f10 f11 f12; obtain ⟨f0, f1, f2, f3, f4, f5, f6, f7, f8, f9, f10, f11, f12⟩ := cells13 HT.out.q))
          | (go_at_call 32; refine HT.out.done.mono ?_; rintro e w1 ⟨rfl, hb⟩; have HD := Lib.hid hb; clear hb))
        refine bodyPost_ret (results_tmp rfl _ _ _) rfl ⟨?_, HD.out⟩
        refine congrArg (fun l : List UInt8 => Ending.returned (Value.string ⟨l.toArray⟩)) ?_
        have h := HKB.out
        simp [aheadT, h]
set_option maxHeartbeats 16000000 in
set_option maxRecDepth 20000 in
theorem told_p (op : UInt8) (ka na kb nb : Int) (a1 b1 d1 q1 : Option Addr) (a2 a3 b2 b3 d2 d3 q2 q3 : Nat) (neg all prt : Bool) (X : ByteArray) (lab A Bt : List UInt8) (w : World)
    (hX : X = ⟨lab.toArray⟩) (hl : A.length + Bt.length + lab.length ≤ 1000000000)
    (kA : ∀ w1, Below w.heap.size w w1 → Calls Tryz.prog 27 #[.agg #[.int .i64 ka, .int .i64 na, .slice a1 a2 a3]] w1 fun e w' => e = .returned (.string ⟨A.toArray⟩) ∧ Below w1.heap.size w1 w')
    (kB : ∀ w1, Below w.heap.size w w1 → Calls Tryz.prog 27 #[.agg #[.int .i64 kb, .int .i64 nb, .slice b1 b2 b3]] w1 fun e w' => e = .returned (.string ⟨Bt.toArray⟩) ∧ Below w1.heap.size w1 w')
    (h115 : ((op.toNat : Int) == 115) = false) (h98 : ((op.toNat : Int) == 98) = false) (h116 : ((op.toNat : Int) == 116) = false) (h58 : ((op.toNat : Int) == 58) = false) :
    Calls Tryz.prog 13 #[.agg #[.int .u8 (op.toNat : Int), .int .i64 ka, .int .i64 na, .slice a1 a2 a3, .int .i64 kb, .int .i64 nb, .slice b1 b2 b3, .bool neg, .slice d1 d2 d3, .slice q1 q2 q3, .bool all, .bool prt, .string X]] w fun e w' => e = .returned (.string ⟨(aheadT A Bt kb neg ++ op :: ([] : List UInt8)).toArray⟩) ∧ Below w.heap.size w w' := by
  have hc4 := cat44 Bt
  have h0 := ToS.start w [.int .u8 (op.toNat : Int), .int .i64 ka, .int .i64 na, .slice a1 a2 a3, .int .i64 kb, .int .i64 nb, .slice b1 b2 b3, .bool neg, .slice d1 d2 d3, .slice q1 q2 q3, .bool all, .bool prt, .string X]
  obtain ⟨AS, hAS⟩ : ∃ AS : ByteArray, AS = ⟨A.toArray⟩ := ⟨_, rfl⟩
  obtain ⟨BS, hBS⟩ : ∃ BS : ByteArray, BS = ⟨Bt.toArray⟩ := ⟨_, rfl⟩
  rw [← hAS] at kA
  rw [← hBS] at kB hc4
  have hBz : BS.size ≤ 1000000000 := by rw [hBS]; show Bt.toArray.size ≤ _; rw [List.size_toArray]; omega
  have HE := Lib.hid (And.intro hAS (And.intro hc4 hX))
  have HL := Lib.hid hl
  have KA := Lib.hid kA
  have KB := Lib.hid kB
  have HT := Lib.hid h0
  obtain ⟨f0, f1, f2, f3, f4, f5, f6, f7, f8, f9, f10, f11, f12⟩ := cells13 h0.q
  clear hX hl hAS hBS hc4 kA kB h0
  by_cases hkb : kb = 0
  all_goals
    cases neg
    all_goals
      have HKB := Lib.hid hkb
      first
      | (have hkc : (kb != 0) = true := by (rw [bne_iff_ne]; exact hkb)
         clear hkb)
      | (have hkc : (kb != 0) = false := by (rw [hkb]; rfl)
         clear hkb)
      go_enter Tryz.func13, Tryz.ntmps13
      go_wp2_with (first
        | (go_at_call 27; first | with_reducible (refine (KA.out _ HT.out.low).mono ?_; rintro e w1 ⟨rfl, hb⟩; replace HT := Lib.hid (HT.out.below hb); clear hb f0 f1 f2 f3 f4 f5 f6 f7 f8 f9 f10 f11 f12; obtain ⟨f0, f1, f2, f3, f4, f5, f6, f7, f8, f9, f10, f11, f12⟩ := cells13 HT.out.q) | with_reducible (refine (KB.out _ HT.out.low).mono ?_; rintro e w1 ⟨rfl, hb⟩; replace HT := Lib.hid (HT.out.below hb); clear hb f0 f1 f2 f3 f4 f5 f6 f7 f8 f9 f10 f11 f12; obtain ⟨f0, f1, f2, f3, f4, f5, f6, f7, f8, f9, f10, f11, f12⟩ := cells13 HT.out.q))
        | (go_at_call 26; first | with_reducible (refine (HT.out.write AS A HE.out.1 (by have := HL.out; simp only [List.length_nil]; omega)).mono ?_; rintro e w1 ⟨rfl, h2⟩; replace HT := Lib.hid h2; clear h2 f0 f1 f2 f3 f4 f5 f6 f7 f8 f9 f10 f11 f12; obtain ⟨f0, f1, f2, f3, f4, f5, f6, f7, f8, f9, f10, f11, f12⟩ := cells13 HT.out.q) | with_reducible (refine (HT.out.write (⟨#[44]⟩ ++ BS) (44 :: Bt) HE.out.2.1 (by have := HL.out; simp only [List.length_append, List.length_cons, List.length_nil]; omega)).mono ?_; rintro e w1 ⟨rfl, h2⟩; replace HT := Lib.hid h2; clear h2 f0 f1 f2 f3 f4 f5 f6 f7 f8 f9 f10 f11 f12; obtain ⟨f0, f1, f2, f3, f4, f5, f6, f7, f8, f9, f10, f11, f12⟩ := cells13 HT.out.q) | with_reducible (refine (HT.out.write X lab HE.out.2.2 (by have := HL.out; simp only [List.length_append, List.length_cons, List.length_nil]; omega)).mono ?_; rintro e w1 ⟨rfl, h2⟩; replace HT := Lib.hid h2; clear h2 f0 f1 f2 f3 f4 f5 f6 f7 f8 f9 f10 f11 f12; obtain ⟨f0, f1, f2, f3, f4, f5, f6, f7, f8, f9, f10, f11, f12⟩ := cells13 HT.out.q))
        | (go_at_call 28; first | with_reducible (refine (HT.out.b33 (by have := HL.out; simp only [List.length_append, List.length_cons, List.length_nil]; omega)).mono ?_; rintro e w1 ⟨rfl, h2⟩; replace HT := Lib.hid h2; clear h2 f0 f1 f2 f3 f4 f5 f6 f7 f8 f9 f10 f11 f12; obtain ⟨f0, f1, f2, f3, f4, f5, f6, f7, f8, f9, f10, f11, f12⟩ := cells13 HT.out.q) | with_reducible (refine (HT.out.b32 (by have := HL.out; simp only [List.length_append, List.length_cons, List.length_nil]; omega)).mono ?_; rintro e w1 ⟨rfl, h2⟩; replace HT := Lib.hid h2; clear h2 f0 f1 f2 f3 f4 f5 f6 f7 f8 f9 f10 f11 f12; obtain ⟨f0, f1, f2, f3, f4, f5, f6, f7, f8, f9, f10, f11, f12⟩ := cells13 HT.out.q) | with_reducible (refine (HT.out.byte op (by have := HL.out; simp only [List.length_append, List.length_cons, List.length_nil]; omega)).mono ?_; rintro e w1 ⟨rfl, h2⟩; replace HT := Lib.hid h2; clear h2 f0 f1 f2 f3 f4 f5 f6 f7 f8 f9 f10 f11 f12; obtain ⟨f0, f1, f2, f3, f4, f5, f6, f7, f8, f9, f10, f11, f12⟩ := cells13 HT.out.q))
        | (go_at_call 32; refine HT.out.done.mono ?_; rintro e w1 ⟨rfl, hb⟩; have HD := Lib.hid hb; clear hb))
      refine bodyPost_ret (results_tmp rfl _ _ _) rfl ⟨?_, HD.out⟩
      refine congrArg (fun l : List UInt8 => Ending.returned (Value.string ⟨l.toArray⟩)) ?_
      have h := HKB.out
      simp [aheadT, h]
end Go.Proofs.YtgceckejchdnlaaGreatDoor
