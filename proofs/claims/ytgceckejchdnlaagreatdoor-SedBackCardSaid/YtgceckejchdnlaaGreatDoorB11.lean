/- Packed texts: ClsText. What each of them proves stands above its theorems; the conditions stand in these. -/
import Derived.Test.YtgceckejchdnlaaGreatDoorShelf
import Derived.Test.YtgceckejchdnlaaGreatDoorB5
import Derived.Test.YtgceckejchdnlaaGreatDoorB9
import Derived.Test.YtgceckejchdnlaaGreatDoorB10
namespace Go.Proofs.YtgceckejchdnlaaGreatDoor
open Go.RowKit Go.Lib
attribute [local go_sem] Oper.semAt_some

/-- A run's text; a class's. -/
def runT (p : UInt8 × UInt8) : List UInt8 :=
  plainL p.1 ++ ((if 1 < ((p.2.toNat : Int) - (p.1.toNat : Int)) % 256 then [45] else []) ++ (if p.1.toNat < p.2.toNat then plainL p.2 else []))
def textL (k : Cl) : List UInt8 := 91 :: ((runsL k).flatMap runT ++ [93])
theorem runT_le (p : UInt8 × UInt8) : (runT p).length ≤ 9 := by
  have h1 := (plain_length p.1).2
  have h2 := (plain_length p.2).2
  unfold runT
  simp only [List.length_append]
  split <;> split <;> simp <;> omega
theorem flat_le : ∀ l : List (UInt8 × UInt8), (l.flatMap runT).length ≤ 9 * l.length
  | [] => by simp
  | p :: l => by
    have h1 := flat_le l
    have h2 := runT_le p
    rw [List.flatMap_cons, List.length_append, List.length_cons]
    omega

/-- What lies between two rounds of the loop over the runs: the builder at b holds l; its row is none of the iterator's blocks. -/
structure TxtI (k : Cl) (kb B b n1 : Nat) (w : World) (l : List UInt8) (Z : World) : Prop where
  bld : ∃ v, Bld B b v (byteCells l) Z ∧ (2 ≤ l.length ∨ ∀ g, v.ownBlock = some g → g < n1 ∧ g ≠ kb)
  kk : Z.heap[kb]? = some (.cells (clsA k) 69 (0, 0))
  low : Below B w Z
  lb : b < n1
  lk : kb < n1
  ne : b ≠ kb
  hB : B ≤ n1
  hz : n1 ≤ Z.heap.size

theorem TxtI.own {k : Cl} {kb B b n1 : Nat} {w : World} {f : List (UInt8 × UInt8) → List UInt8} : OwnC n1 7 (fun pre Z => TxtI k kb B b n1 w (f pre) Z) := fun pre A A' row h hg hr => by
  have hB := h.hB
  obtain ⟨v, ⟨hb0, hb1, hb2, hb3⟩, hfar⟩ := h.bld
  have far : ∀ r, row = some r → v.ownBlock ≠ some r := fun r e hv => by
    obtain ⟨cs, fz, hrow, hlen⟩ := Bld.row (B := B) (b := b) ⟨hb0, hb1, hb2, hb3⟩ hv
    rw [byteCells_length] at hlen
    obtain ⟨h1, ⟨_, x, t, hbox⟩ | ⟨o, ho, hc⟩⟩ := hr r e
    · rw [hbox] at hrow
      cases hrow
      rcases hfar with h2 | h2
      · simp at hlen; omega
      · have := (h2 r hv).1; omega
    · rw [hrow] at ho
      cases ho
      cases hc
  have keep : ∀ j, j < n1 → A'.heap[j]? = A.heap[j]? := fun j hj => hg.block j (Nat.lt_of_lt_of_le hj h.hz) (fun e => by have := (hr j e.symm).1; omega)
  refine ⟨⟨v, ⟨hb0, (keep b h.lb).trans hb1, hb2.kept hg ?_, hb3⟩, hfar⟩, (keep kb h.lk).trans h.kk, ?_, h.lb, h.lk, h.ne, h.hB, Nat.le_trans h.hz hg.size⟩
  · cases hv : v.ownBlock with
    | none => exact .inl rfl
    | some g => exact .inr (fun e => far g e.symm hv)
  · exact h.low.trans ⟨hg.os, hg.tape, hg.output, hg.size, fun j hj => keep j (by omega)⟩

/-- The state in the middle of a round that began at Z. -/
structure TxtS (k : Cl) (kb B b n1 : Nat) (w : World) (Z : World) (l : List UInt8) (Z' : World) : Prop where
  i : TxtI k kb B b n1 w l Z'
  s : Z.heap.size ≤ Z'.heap.size
  m : Same (fun j => j = kb ∨ (n1 ≤ j ∧ j < n1 + 7)) Z Z'
  z : n1 + 7 ≤ Z.heap.size
  o : ∀ r, n1 ≤ r → r < n1 + 7 → Odd Z r
theorem TxtS.below {k : Cl} {kb B b n1 : Nat} {w Z Z' Z'' : World} {l : List UInt8} (h : TxtS k kb B b n1 w Z l Z') (hb : Below Z'.heap.size Z' Z'') : TxtS k kb B b n1 w Z l Z'' := by
  have hlt : ∀ j, j < n1 + 7 → j < Z'.heap.size := fun j hj => by have := h.s; have := h.z; omega
  have hlk := h.i.lk
  refine ⟨TxtI.own (f := fun _ => l) [] _ _ none h.i (grown_of_below hb none) (fun _ e => by cases e), Nat.le_trans h.s hb.size, h.m.trans (fun j hj => hb.block j (hlt j (by omega))), h.z, h.o⟩
/-- None of the iterator's blocks is the builder's row. -/
theorem TxtS.far {k : Cl} {kb B b n1 : Nat} {w Z Z' : World} {l : List UInt8} (h : TxtS k kb B b n1 w Z l Z') {v : Value} (hb : Bld B b v (byteCells l) Z') (hf : 2 ≤ l.length ∨ ∀ g, v.ownBlock = some g → g < n1 ∧ g ≠ kb) :
    ∀ r, (r = kb ∨ (n1 ≤ r ∧ r < n1 + 7)) → some r ≠ v.ownBlock := fun r hr e => by
  obtain ⟨cs, fz, hrow, hlen⟩ := hb.row e.symm
  rw [byteCells_length] at hlen
  rcases hr with hr | hr
  · rw [hr, h.i.kk] at hrow
    cases hrow
  · rcases hf with h2 | h2
    · have := (h.o r hr.1 hr.2).same (h.m r (.inr hr)) cs fz hrow
      omega
    · have := (h2 r e.symm).1; omega
theorem TxtS.wrote {k : Cl} {kb B b n1 : Nat} {w Z Z' Z'' : World} {l x : List UInt8} (h : TxtS k kb B b n1 w Z l Z') {v v' : Value} (hv : Bld B b v (byteCells l) Z') (hf : 2 ≤ l.length ∨ ∀ g, v.ownBlock = some g → g < n1 ∧ g ≠ kb)
    (hl : 1 ≤ l.length) (hx : 1 ≤ x.length) (hb : Bld B b v' (byteCells l ++ byteCells x) Z'') (hlow : Below B Z' Z'') (hs : Z'.heap.size ≤ Z''.heap.size)
    (hk : ∀ j, j < Z'.heap.size → j ≠ b → some j ≠ v.ownBlock → Z''.heap[j]? = Z'.heap[j]?) : TxtS k kb B b n1 w Z (l ++ x) Z'' := by
  have hne := h.i.ne
  have hlb := h.i.lb
  have hlk := h.i.lk
  have hsame : ∀ j, (j = kb ∨ (n1 ≤ j ∧ j < n1 + 7)) → Z''.heap[j]? = Z'.heap[j]? := fun j hj =>
    hk j (by have := h.s; have := h.z; omega) (by omega) (h.far hv hf j hj)
  rw [← bc_append] at hb
  exact ⟨⟨⟨v', hb, .inl (by rw [List.length_append]; omega)⟩, (hsame kb (.inl rfl)).trans h.i.kk, h.i.low.trans hlow, hlb, hlk, hne, h.i.hB, Nat.le_trans h.i.hz hs⟩,
    Nat.le_trans h.s hs, h.m.trans hsame, h.z, h.o⟩

theorem txt_len {l x : List UInt8} {y : List UInt8} (h : l.length ≤ 2304) (hy : y.length ≤ l.length + 8) (hx : x.length ≤ 4) : (byteCells y).length + (⟨x.toArray⟩ : ByteArray).size ≤ 140737488355328 := by
  rw [byteCells_length]
  show y.length + x.toArray.size ≤ _
  rw [List.size_toArray]
  omega
theorem bld_text {B b : Nat} {v : Value} {k : Cl} {w : World} (h : Bld B b v (byteCells (91 :: (runsL k).flatMap runT) ++ [.int .u8 93]) w) : Bld B b v (byteCells (textL k)) w := by
  have e : byteCells (textL k) = byteCells (91 :: (runsL k).flatMap runT) ++ [.int .u8 93] := by
    show byteCells ((91 :: (runsL k).flatMap runT) ++ [93]) = _
    rw [bc_append]
    rfl
  rw [e]
  exact h
theorem txt_len1 {l y : List UInt8} (h : l.length ≤ 2304) (hy : y.length ≤ l.length + 8) : (byteCells y).length + 1 ≤ 140737488355328 := by
  rw [byteCells_length]
  omega
theorem runT_pp {a b : UInt8} (h1 : 1 < ((b.toNat : Int) - (a.toNat : Int)) % 256) (h2 : a.toNat < b.toNat) : runT (a, b) = plainL a ++ ([45] ++ plainL b) := by
  unfold runT; dsimp only; rw [if_pos h1, if_pos h2]
theorem runT_pn {a b : UInt8} (h1 : 1 < ((b.toNat : Int) - (a.toNat : Int)) % 256) (h2 : ¬ a.toNat < b.toNat) : runT (a, b) = plainL a ++ ([45] ++ []) := by
  unfold runT; dsimp only; rw [if_pos h1, if_neg h2]
theorem runT_np {a b : UInt8} (h1 : ¬ 1 < ((b.toNat : Int) - (a.toNat : Int)) % 256) (h2 : a.toNat < b.toNat) : runT (a, b) = plainL a ++ ([] ++ plainL b) := by
  unfold runT; dsimp only; rw [if_neg h1, if_pos h2]
theorem runT_nn {a b : UInt8} (h1 : ¬ 1 < ((b.toNat : Int) - (a.toNat : Int)) % 256) (h2 : ¬ a.toNat < b.toNat) : runT (a, b) = plainL a ++ ([] ++ []) := by
  unfold runT; dsimp only; rw [if_neg h1, if_neg h2]
theorem txt_end (pre : List (UInt8 × UInt8)) (x : UInt8 × UInt8) : 91 :: (pre ++ [x]).flatMap runT = (91 :: pre.flatMap runT) ++ runT x := by simp
theorem txt_size {k : Cl} {kb B b n1 : Nat} {w Z Z' : World} {l : List UInt8} (h : TxtS k kb B b n1 w Z l Z') (hB : B ≤ n1) : B ≤ Z'.heap.size := by
  have := h.i.hz
  omega
theorem fresh_builder {W : World} {B b : Nat} (hB : B ≤ W.heap.size) (hb : b = W.heap.size) : BuilderAtF 55 5 B b (.pointer none) [] (W.alloc (.cells #[.pointer none, .slice none 0 0] 55)) := by
  subst hb
  exact ⟨hB, _, heap_alloc_new W _, ⟨rfl, .inl ⟨rfl, rfl⟩⟩, by simp [Value.ownBlock]⟩

set_option maxHeartbeats 2000000 in
set_option maxRecDepth 100000 in
theorem text_walk (k : Cl) (w : World) :
    CallsIn Fence.wide 0 Tryz.prog 84 #[.agg #[.int .u64 ((k 0).toNat : Int), .int .u64 ((k 1).toNat : Int), .int .u64 ((k 2).toNat : Int), .int .u64 ((k 3).toNat : Int)]] w fun e w' => e = .returned (.string ⟨(textL k).toArray⟩) ∧ Below w.heap.size w w' := by
  have k1 := fun w => callsIn_wide (n := 0).2 (runs_any ((k 0).toNat : Int) ((k 1).toNat : Int) ((k 2).toNat : Int) ((k 3).toNat : Int) w)
  refine callsIn_of_wp_marks Tryz.func84 rfl trivial ?_ rfl
  simp only [Tryz.ntmps84, List.size_toArray, List.length_cons, List.length_nil, Nat.reduceAdd, Nat.reduceSub, Array.replicate_succ, Array.replicate_zero, List.push_toArray, List.append_toArray, List.nil_append, List.cons_append]
  gi_wp2_with (first
    | (refine ⟨trivial, rfl, ?_⟩; gi_at_call 28; refine (callsIn_wide (n := 0).2 (writeByte_any w.heap.size (w.heap.size + 1) [] 91 _ (.inl (fresh_builder (by simp) (by simp))) (by decide) (by simp; omega))).mono ?_; rintro e w1 ⟨rfl, hA, hB1, hO⟩
       have hK1 : w1.heap[w.heap.size]? = some (.cells (clsA k) 69 (0, 0)) := hO _ _ ((Below.heap_alloc _ _ _ (by simp)).trans (heap_alloc_new w _)) (by simp) (fun c fz e => by cases e)
       have hz1 : w.heap.size + 2 ≤ w1.heap.size := by have := hB1.size; simp at this; omega
       obtain ⟨⟨c0, c1, c2, c3⟩, _⟩ := res_four hK1
       unfold wd at c0 c1 c2 c3
       have HA := Lib.hid hA
       have HB := Lib.hid hB1
       have HK := Lib.hid hK1
       clear hA hB1 hO hK1)
    | (refine ⟨trivial, rfl, ?_⟩; gi_at_call 104; refine (k1 _).mono ?_; rintro e w2 ⟨rfl, rfl⟩))
  clear c0 c1 c2 c3 k1
  -- the world in which the loop begins
  obtain ⟨V, hV⟩ : ∃ V, V = w1.alloc (.cells #[.int .u64 ((k 0).toNat : Int), .int .u64 ((k 1).toNat : Int), .int .u64 ((k 2).toNat : Int), .int .u64 ((k 3).toNat : Int)] 69) := ⟨_, rfl⟩
  have hVz : V.heap.size = w1.heap.size + 1 := by rw [hV]; simp
  have hVI : TxtI k w1.heap.size w.heap.size (w.heap.size + 1) V.heap.size w (91 :: ([] : List (UInt8 × UInt8)).flatMap runT) V := by
    obtain ⟨v, hv⟩ := bld_of HA.out
    have hv0 : Bld w.heap.size (w.heap.size + 1) v (byteCells [91]) w1 := hv
    have hg : w1.grownBy V none := by rw [hV]; exact World.grownBy_alloc _ _ none
    have hold : ∀ j, j < w1.heap.size → V.heap[j]? = w1.heap[j]? := fun j hj => by rw [hV]; exact Below.heap_alloc _ _ _ hj
    refine ⟨⟨v, ⟨hv0.1, (hold _ (by omega)).trans hv0.2.1, hv0.2.2.1.kept hg ?_, hv0.2.2.2⟩, .inr fun g hg2 => ?_⟩, ?_, ?_, by omega, by omega, by omega, by omega, Nat.le_refl _⟩
    · cases h : v.ownBlock with
      | none => exact .inl rfl
      | some g => exact .inr (by simp)
    · obtain ⟨cs, fz, hrow, _⟩ := hv0.row hg2
      have := block_at hrow
      omega
    · rw [hV]; exact heap_alloc_new w1 _
    · rw [hV]
      exact ((((Below.refl _ w).alloc (Nat.le_refl _) _).alloc (by simp) _).trans HB.out).alloc (by omega) _
  rw [← hV]
  clear hV HA HK
  refine wp_rangeX (gf := 120) (lb := #[.pointer (some ⟨w1.heap.size, 0, none⟩)]) (encs := encR) (c := 5) (N := 256) (S := fun xs => xs = runsL k) (K := fun j => j = w1.heap.size) rfl (enters_of Tryz.func120 (by kernel_rfl) rfl) (fun _ => rfl)
    (fun Z _ hz => runs1 k w1.heap.size Z ((hz _ (by omega)).trans hVI.kk)) (fun j hj => by omega)
    (fun pre Z => TxtI k w1.heap.size w.heap.size (w.heap.size + 1) V.heap.size w (91 :: pre.flatMap runT) Z) (fun _ _ => False)
    TxtI.own (fun _ _ _ _ h _ _ => h.elim) hVI
    (fun x => { tmps := #[.agg #[.int .u64 ((k 0).toNat : Int), .int .u64 ((k 1).toNat : Int), .int .u64 ((k 2).toNat : Int), .int .u64 ((k 3).toNat : Int)], .pointer (some ⟨w.heap.size, 0, none⟩), .string ⟨#[]⟩, .pointer (some ⟨w.heap.size + 1, 0, none⟩), .int .u8 (x.1.toNat : Int), .int .u8 (x.2.toNat : Int), .nilIface,
      .agg #[.int .u64 ((k 0).toNat : Int), .int .u64 ((k 1).toNat : Int), .int .u64 ((k 2).toNat : Int), .int .u64 ((k 3).toNat : Int)], .func (.func 120) #[] #[.pointer (some ⟨w1.heap.size, 0, none⟩)], .int .u8 (x.1.toNat : Int), .int .u8 (x.2.toNat : Int), undef, undef, undef, undef, undef, undef, undef, undef, undef, undef, undef, undef, undef, undef, undef, undef], defers := [] })
    ?assign ?body ?done ?stop
  case assign =>
    intro l2 x Z kk hK
    gi_wp2
    exact hK
  case body =>
    rintro l2 pre x Z hsz hodd hi hlen
    have hn1 : w.heap.size ≤ V.heap.size := by omega
    have hpre : (91 :: pre.flatMap runT).length ≤ 2304 := by have := flat_le pre; rw [List.length_cons]; omega
    have HS := Lib.hid (TxtS.mk hi (Nat.le_refl _) (Same.refl _ _) hsz hodd)
    have HP := Lib.hid (And.intro hn1 hpre)
    clear hi hodd hpre
    obtain ⟨a, b⟩ := x
    have ha := fun w => (callsIn_wide (n := 0).2 (plain_any a w)).inRound l2
    have hb := fun w => (callsIn_wide (n := 0).2 (plain_any b w)).inRound l2
    have hS := fun (v : Value) (bs : List Value) (s : ByteArray) (w' : World) (h1 : Bld w.heap.size (w.heap.size + 1) v bs w') (h2 : bs.length + s.size ≤ 140737488355328) (h3 : w.heap.size ≤ w'.heap.size) => (callsIn_wide (n := 0).2 (writeString_own w.heap.size (w.heap.size + 1) v bs s w' h1 h2 h3)).inRound l2
    have hW := fun (v : Value) (bs : List Value) (w' : World) (h1 : Bld w.heap.size (w.heap.size + 1) v bs w') (h2 : bs.length + 1 ≤ 140737488355328) (h3 : w.heap.size ≤ w'.heap.size) => (callsIn_wide (n := 0).2 (writeByte_own w.heap.size (w.heap.size + 1) v bs 45 w' h1 h2 h3)).inRound l2
    gi_wp2_with (first
      | (refine ⟨trivial, rfl, ?_⟩; gi_at_call 73; first
          | (with_reducible refine (ha _).mono ?_; rintro e w3 ⟨rfl, hb3⟩; clear ha; replace HS := Lib.hid (HS.out.below hb3); clear hb3)
          | (with_reducible refine (hb _).mono ?_; rintro e w3 ⟨rfl, hb3⟩; clear hb; replace HS := Lib.hid (HS.out.below hb3); clear hb3))
      | (refine ⟨trivial, rfl, ?_⟩; gi_at_call 26
         obtain ⟨v, hv, hf⟩ := HS.out.i.bld
         with_reducible refine (hS v _ _ _ hv (txt_len HP.out.2 (by have := (plain_length a).2; simp only [List.length_append, List.length_cons, List.length_nil]; omega) (plain_length _).2) (txt_size HS.out HP.out.1)).mono ?_
         rintro e w4 ⟨rfl, v2, hv2, hlow2, hs2, hk2⟩
         replace HS := Lib.hid (HS.out.wrote hv hf (by simp) (plain_length _).1 hv2 hlow2 hs2 hk2)
         clear hv hf hv2 hlow2 hs2 hk2)
      | (refine ⟨trivial, rfl, ?_⟩; gi_at_call 28
         obtain ⟨v, hv, hf⟩ := HS.out.i.bld
         with_reducible refine (hW v _ _ hv (txt_len1 HP.out.2 (by have := (plain_length a).2; simp only [List.length_append, List.length_cons]; omega)) (txt_size HS.out HP.out.1)).mono ?_
         rintro e w5 ⟨rfl, v2, hv2, hlow2, hs2, hk2⟩
         replace HS := Lib.hid (HS.out.wrote (x := [45]) hv hf (by simp) (by simp) hv2 hlow2 hs2 hk2)
         clear hv hf hv2 hlow2 hs2 hk2))
    all_goals first
      | exact ⟨HS.out.s, HS.out.m.mono (fun j hj => by omega), by dsimp only; rw [txt_end, runT_pp (by omega) (by omega)]; simpa using HS.out.i⟩
      | exact ⟨HS.out.s, HS.out.m.mono (fun j hj => by omega), by dsimp only; rw [txt_end, runT_pn (by omega) (by omega)]; simpa using HS.out.i⟩
      | exact ⟨HS.out.s, HS.out.m.mono (fun j hj => by omega), by dsimp only; rw [txt_end, runT_np (by omega) (by omega)]; simpa using HS.out.i⟩
      | exact ⟨HS.out.s, HS.out.m.mono (fun j hj => by omega), by dsimp only; rw [txt_end, runT_nn (by omega) (by omega)]; simpa using HS.out.i⟩
  case done =>
    rintro xs Z rfl hi hK
    have hn1 : w.heap.size ≤ V.heap.size := by omega
    have hpre : (91 :: (runsL k).flatMap runT).length ≤ 2305 := by
      have := flat_le (runsL k)
      have h2 := runs_length k (uptoL k 256)
      have h3 := upto_length k 256
      have h4 : (runsL k).length = (runsP k (uptoL k 256)).2.length := rfl
      rw [List.length_cons]; omega
    have HI := Lib.hid hi
    have HP := Lib.hid (And.intro hn1 hpre)
    have HK := Lib.hid hK
    clear hi hpre hK
    gi_wp2_with (first
      | (refine ⟨trivial, rfl, ?_⟩; gi_at_call 28
         obtain ⟨v, hv, hf⟩ := HI.out.bld
         refine (callsIn_wide (n := 0).2 (writeByte_own w.heap.size (w.heap.size + 1) v _ 93 _ hv ?h1 ?h2)).mono ?_
         case h1 => have := HP.out.2; rw [byteCells_length]; omega
         case h2 => have := HI.out.hz; have := HP.out.1; omega
         rintro e w5 ⟨rfl, v2, hv2, hlow2, hs2, hk2⟩)
      | (refine ⟨trivial, rfl, ?_⟩; gi_at_call 32
         refine (callsIn_wide (n := 0).2 (Tryz.Builder_String_any_k w.heap.size (w.heap.size + 1) (textL k) _ ?h3 ?h4)).mono ?_
         case h3 => exact (bld_text hv2).builder
         case h4 => have := HI.out.hz; have := HP.out.1; omega
         rintro e w6 ⟨rfl, _, hlow3, hO⟩))
    have hlb := HI.out.lb
    have hz := HI.out.hz
    have hD5 : w5.heap[V.heap.size]? = some (.deferred (some [])) := (hk2 _ (block_at HK.out) (by omega) (fun e => by
      obtain ⟨cs, fz, hrow, _⟩ := hv.row e.symm
      rw [HK.out] at hrow
      cases hrow)).trans HK.out
    have hD6 : w6.heap[V.heap.size]? = some (.deferred (some [])) := hO _ _ hD5 (by simp; omega) (fun c fz e => by cases e)
    rw [hVz] at hD6
    refine ⟨by simp, .inl ⟨_, _, rfl, run_takeDeferred hD6, ?_⟩⟩
    exact ⟨_, results_tmp rfl _ _ _, rfl, ((HI.out.low.trans hlow2).trans hlow3).grown (putObj_grown _ _ _) (by have := hlow2.size; have := hlow3.size; omega) (fun k e => by cases e; omega)⟩
  case stop =>
    rintro pre Z h hK
    exact h.elim
theorem text_any (k : Cl) (w : World) : Calls Tryz.prog 84 #[clsV k] w fun e w' => e = .returned (.string ⟨(textL k).toArray⟩) ∧ Below w.heap.size w w' := callsIn_wide.1 (text_walk k w)
end Go.Proofs.YtgceckejchdnlaaGreatDoor
