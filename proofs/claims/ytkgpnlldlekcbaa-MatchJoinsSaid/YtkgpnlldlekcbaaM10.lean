/- Packed texts: MaMem. What each of them proves stands above its theorems; the conditions stand in these. -/
import Derived.Deep.CutBlock
import Derived.Deep.DeepCutAuto
import Derived.Deep.OwnRows
import Derived.Deep.RegionHeld3
import Derived.WalkSpells
import Derived.Test.YtkgpnlldlekcbaaM9
namespace Go.Proofs.Ytkgpnlldlekcbaa
open Go.RowKit Go.Lib

theorem Try.infoSpot : (Try.prog.info? 109).map (fun i => (i.zero, i.size, i.bytes)) = some (some (.agg #[.int .i64 0, .int .i64 0]), 2, 16) := by kernel_rfl
theorem Try.infoBool : (Try.prog.info? 4).map (fun i => (i.zero, i.size, i.bytes)) = some (some (.bool false), 1, 1) := by kernel_rfl
theorem Try.infoBools : (Try.prog.info? 40).map (fun i => (i.zero, i.size, i.bytes)) = some (some (.slice none 0 0), 1, 24) := by kernel_rfl

def spotC (F : List (Nat × Nat)) : List Value := F.flatMap fun x => [.int .i64 (x.1 : Int), .int .i64 (x.2 : Int)]
theorem spotC_append (a b : List (Nat × Nat)) : spotC (a ++ b) = spotC a ++ spotC b := List.flatMap_append
def rowC (n : Nat) (f : Nat → Bool) : List Value := (List.range (n + 1)).map fun p => .bool (f p)
theorem rowC_get (n : Nat) (f : Nat → Bool) (p : Nat) (hp : p ≤ n) : (rowC n f)[p]? = some (.bool (f p)) := by
  unfold rowC
  rw [List.getElem?_map, List.getElem?_range (by omega)]
  rfl
theorem rowC_length (n : Nat) (f : Nat → Bool) : (rowC n f).length = n + 1 := by unfold rowC; simp
theorem rowC_set (n : Nat) (f : Nat → Bool) (p : Nat) : (rowC n f).set p (.bool true) = rowC n (fun q => if q = p then true else f q) := by
  apply List.ext_getElem?
  intro j
  rw [List.getElem?_set]
  by_cases hj : j ≤ n
  · rw [rowC_get _ _ _ hj, rowC_get _ _ _ hj, rowC_length]
    by_cases h : p = j
    · subst h; simp [show p < n + 1 by omega]
    · rw [if_neg h, if_neg (fun e => h e.symm)]
  · rw [List.getElem?_eq_none (by rw [rowC_length]; omega), List.getElem?_eq_none (by rw [rowC_length]; omega), rowC_length]
    by_cases h : p = j
    · subst h; simp [show ¬ p < n + 1 by omega]
    · rw [if_neg h]
theorem rowC_made (n : Nat) : madeCells #[.bool false] (n + 1) = ⟨rowC n (fun _ => false)⟩ := by
  apply Array.ext'
  rw [toList_madeCells_one]
  unfold rowC
  apply List.ext_getElem?
  intro j
  by_cases h : j < n + 1
  · rw [List.getElem?_replicate, if_pos h, List.getElem?_map, List.getElem?_range h]; rfl
  · rw [List.getElem?_eq_none (by simpa using h), List.getElem?_eq_none (by simpa using h)]
/-- A gate's row. -/
def RowAt (B n : Nat) (f : Nat → Bool) (v : Value) (w : World) : Prop :=
  (v = .slice none 0 0 ∧ ∀ p, f p = false) ∨ ∃ b, v = .slice (some ⟨b, 0, none⟩) (n + 1) (n + 1) ∧ B ≤ b ∧ w.heap[b]? = some (.cells ⟨rowC n f⟩ 4 (0, 0))
/-- How many spots bear no mark. -/
def free (M : Nat → Nat → Bool) (n L : Nat) : Nat := (List.range (2 * L * (n + 1))).countP fun i => !M (i / (n + 1)) (i % (n + 1))
def setM (M : Nat → Nat → Bool) (g p : Nat) : Nat → Nat → Bool := fun h q => if h = g ∧ q = p then true else M h q
theorem count_less (f f' : Nat → Bool) (k : Nat) (h : ∀ i, i ≠ k → f' i = f i) (h1 : f k = true) (h2 : f' k = false) : ∀ n, k < n → (List.range n).countP f = (List.range n).countP f' + 1 := by
  have same : ∀ n, n ≤ k → (List.range n).countP f = (List.range n).countP f' := fun n => by
    induction n with
    | zero => intro _; rfl
    | succ n ih =>
      intro hn
      rw [List.range_succ, List.countP_append, List.countP_append, ih (by omega)]
      simp [List.countP_cons, h n (by omega)]
  intro n
  induction n with
  | zero => intro h; omega
  | succ n ih =>
    intro hn
    rw [List.range_succ, List.countP_append, List.countP_append]
    by_cases e : n = k
    · subst e
      rw [same n (Nat.le_refl _)]
      simp [h1, h2]
    · rw [ih (by omega)]
      simp [List.countP_cons, h n e]
      omega
theorem free_set (M : Nat → Nat → Bool) (n L g p : Nat) (hg : g < 2 * L) (hp : p ≤ n) (hM : M g p = false) : free M n L = free (setM M g p) n L + 1 := by
  have hd : (g * (n + 1) + p) / (n + 1) = g := by rw [Nat.mul_comm, Nat.mul_add_div (by omega), Nat.div_eq_of_lt (by omega)]; omega
  have hm : (g * (n + 1) + p) % (n + 1) = p := by rw [Nat.mul_comm, Nat.mul_add_mod, Nat.mod_eq_of_lt (by omega)]
  refine count_less _ _ (g * (n + 1) + p) (fun i hi => ?_) (by rw [hd, hm, hM]; rfl) (by rw [hd, hm]; unfold setM; simp) _ ?_
  · unfold setM
    rw [if_neg]
    rintro ⟨h1, h2⟩
    apply hi
    have := Nat.div_add_mod i (n + 1)
    rw [h1, h2, Nat.mul_comm] at this
    omega
  · have : (g + 1) * (n + 1) ≤ 2 * L * (n + 1) := Nat.mul_le_mul_right _ (by omega)
    rw [Nat.add_mul] at this
    omega
theorem setM_same {M : Nat → Nat → Bool} {g p : Nat} (h : M g p = true) : setM M g p = M := by
  funext h1 q
  unfold setM
  by_cases e : h1 = g ∧ q = p
  · rw [if_pos e, e.1, e.2, h]
  · rw [if_neg e]

/-- The marks' memory. -/
structure Mk (B br bR bs bf L : Nat) (s : ByteArray) (M : Nat → Nat → Bool) (F : List (Nat × Nat)) (w : World) : Prop where
  hB : B ≤ br ∧ B ≤ bR ∧ B ≤ bf
  rows : w.heap[br]? = some (.cells #[.slice (some ⟨bR, 0, none⟩) (2 * L) (2 * L)] 106 (0, 0))
  cells : ∃ rv : List Value, rv.length = 2 * L ∧ w.heap[bR]? = some (.cells ⟨rv⟩ 40 (0, 0)) ∧ (∀ g v, rv[g]? = some v → RowAt B s.size (M g) v w) ∧ ∀ (g h : Nat) (b : Addr) (n c m d : Nat), rv[g]? = some (Value.slice (some b) n c) → rv[h]? = some (Value.slice (some b) m d) → g = h
  str : w.heap[bs]? = some (.cells #[.string s] 9 (0, 0))
  fresh : ∃ v, w.heap[bf]? = some (.cells #[v] 107 (0, 0)) ∧ w.ownsRow B 109 2 v F.length (spotC F)
  inb : ∀ g p, M g p = true → g < 2 * L ∧ p ≤ s.size
  cnt : F.length + free M s.size L ≤ 2 * L * (s.size + 1)
  small : L ≤ 2000 ∧ s.size ≤ 1000000
/-- What a step of the search leaves alone. -/
structure Kept (B : Nat) (w w' : World) : Prop where
  low : Below B w w'
  other : ∀ (j : Nat) (cs : Array Value) (T : TypeId) (fz : Nat × Nat), w.heap[j]? = some (Obj.cells cs T fz) → T ≠ 4 → T ≠ 40 → T ≠ 107 → T ≠ 109 → w'.heap[j]? = some (Obj.cells cs T fz)
theorem Kept.refl (B : Nat) (w : World) : Kept B w w := ⟨Below.refl _ _, fun _ _ _ _ h _ _ _ _ => h⟩
theorem Kept.trans {B : Nat} {a b c : World} (h : Kept B a b) (k : Kept B b c) : Kept B a c := ⟨h.low.trans k.low, fun j cs T fz e h1 h2 h3 h4 => k.other j cs T fz (h.other j cs T fz e h1 h2 h3 h4) h1 h2 h3 h4⟩
theorem Kept.of_below {B : Nat} {w w' : World} (h : Below w.heap.size w w') (hB : B ≤ w.heap.size) : Kept B w w' := ⟨h.mono hB, fun j _ _ _ e _ _ _ _ => (h.block j (block_lt e)).trans e⟩
theorem Mk.B_le {B br bR bs bf L : Nat} {s : ByteArray} {M : Nat → Nat → Bool} {F : List (Nat × Nat)} {w : World} (h : Mk B br bR bs bf L s M F w) : B ≤ w.heap.size := Nat.le_of_lt (Nat.lt_of_le_of_lt h.hB.1 (block_lt h.rows))
theorem cells_twoM (w : World) (h : Nat) (hw : w.heap.size = h) (t : TypeId) (p q : Value) : ∀ j x, [p, q][j]? = some x → (w.alloc (.cells #[p, q] t)).cell? ((⟨h, 0, none⟩ : Addr).add j) = some x := by
  subst hw
  intro j x hj
  have h := heap_alloc_new w (.cells #[p, q] t)
  have e : (⟨w.heap.size, 0, none⟩ : Addr).add j = ⟨w.heap.size, j, none⟩ := by simp [Addr.add]; intro h; exact h.symm
  rw [e, cell_of_heap h]
  simpa using hj

theorem cell_plainB {w : World} {a : Addr} {v : Value} (h : w.cell? a = some v) : a.block < w.heap.size := by
  unfold World.cell? at h
  split at h
  · rename_i hh
    by_cases hl : a.block < w.heap.size
    · exact hl
    · rw [Array.getElem?_eq_none (by omega)] at hh; cases hh
  · cases h

theorem block_lt' {w : World} {b o : Nat} {v : Value} (h : w.cell? ⟨b, o, none⟩ = some v) : b < w.heap.size := cell_plainB h

set_option maxHeartbeats 1000000 in
set_option maxRecDepth 20000 in
/-- What bears a mark stays as it is. -/
theorem mark_old (br bR bs bf g p b N K : Nat) (w : World) (hg : (g : Int) < (K : Int)) (hp : (p : Int) < (N : Int))
    (c0 : w.cell? ⟨br, 0, none⟩ = some (.slice (some ⟨bR, 0, none⟩) K K)) (c1 : w.cell? ⟨bR, g, none⟩ = some (.slice (some ⟨b, 0, none⟩) N N)) (c2 : w.cell? ⟨b, p, none⟩ = some (.bool true)) :
    Calls Try.prog 66 #[.int .i64 (g : Int), .int .i64 (p : Int), .pointer (some ⟨br, 0, none⟩), .pointer (some ⟨bs, 0, none⟩), .pointer (some ⟨bf, 0, none⟩)] w fun e w' => e = .returned (.tuple #[]) ∧ w = w' := by
  have ke := fun (w : World) (a : Option Addr) (n c : Nat) => run_eql_slice_nil (P := Try.prog) w 40 4 a n c 0 0 Try.underlying40
  have g0 : (0 : Int) ≤ (g : Int) := by omega
  have p0 : (0 : Int) ≤ (p : Int) := by omega
  go_enter Try.func66, Try.ntmps66
  go_wp2
  go_end0
  exact ⟨rfl, rfl⟩
set_option maxHeartbeats 1000000 in
set_option maxRecDepth 20000 in
/-- A mark in a row that there is. -/
theorem mark_add (B br bR bs bf g p b N K m : Nat) (v : Value) (ys : List Value) (w : World) (hg : (g : Int) < (K : Int)) (hp : (p : Int) < (N : Int))
    (c0 : w.cell? ⟨br, 0, none⟩ = some (.slice (some ⟨bR, 0, none⟩) K K)) (c1 : w.cell? ⟨bR, g, none⟩ = some (.slice (some ⟨b, 0, none⟩) N N)) (c2 : w.cell? ⟨b, p, none⟩ = some (.bool false)) (f2 : w.frozen? ⟨b, p, none⟩ = false)
    (hB : B ≤ w.heap.size) (hBb : B ≤ b) (hBf : B ≤ bf) (hf : w.heap[bf]? = some (.cells #[v] 107 (0, 0))) (hown : w.ownsRow B 109 2 v m ys) (hm : m ≤ 100000000000)
    (hne : b ≠ bf) (hnb : v.ownBlock ≠ some b) (hnf : v.ownBlock ≠ some bf) :
    Calls Try.prog 66 #[.int .i64 (g : Int), .int .i64 (p : Int), .pointer (some ⟨br, 0, none⟩), .pointer (some ⟨bs, 0, none⟩), .pointer (some ⟨bf, 0, none⟩)] w fun e w' => e = .returned (.tuple #[]) ∧
      (∃ v', w'.heap[bf]? = some (.cells #[v'] 107 (0, 0)) ∧ w'.ownsRow B 109 2 v' (m + 1) (ys ++ [.int .i64 (g : Int), .int .i64 (p : Int)])) ∧ w'.heap[b]? = (w.setCell ⟨b, p, none⟩ (.bool true)).heap[b]? ∧
      (∀ j, j < w.heap.size → j ≠ b → j ≠ bf → v.ownBlock ≠ some j → w'.heap[j]? = w.heap[j]?) ∧ Below B w w' := by
  have ke := fun (w : World) (a : Option Addr) (n c : Nat) => run_eql_slice_nil (P := Try.prog) w 40 4 a n c 0 0 Try.underlying40
  have g0 : (0 : Int) ≤ (g : Int) := by omega
  have p0 : (0 : Int) ≤ (p : Int) := by omega
  obtain ⟨i0, hi, hz0, hz1, hz2⟩ := info_parts Try.infoSpot
  have hfl := block_lt hf
  have hbl : b < w.heap.size := (cell_plainB c2)
  have HF := Lib.hid hf
  have HO := Lib.hid hown
  clear hf hown
  go_enter Try.func66, Try.ntmps66
  go_upto_region 4 with (fail)
  obtain ⟨W, hW⟩ : ∃ W, W = w.setCell ⟨b, p, none⟩ (.bool true) := ⟨_, rfl⟩
  rw [← hW]
  have hWo : ∀ j, j ≠ b → W.heap[j]? = w.heap[j]? := fun j hj => by rw [hW]; exact Below.heap_setCell _ _ _ _ hj
  have hWz : W.heap.size = w.heap.size := by rw [hW]; simp [World.setCell]
  have hWb : Below B w W := by rw [hW]; exact (Below.refl _ w).setCell (p := ⟨b, p, none⟩) hBb _
  have hf2 : W.heap[bf]? = some (.cells #[v] 107 (0, 0)) := (hWo bf (fun e => hne e.symm)).trans HF.out
  have cf : W.cell? ⟨bf, 0, none⟩ = some v := by rw [cell_of_heap hf2]; rfl
  have ho2 : W.ownsRow B 109 2 v m ys := owns_same HO.out fun q hq => hWo q (fun e => hnb (by rw [hq, e]))
  have HF2 := Lib.hid hf2
  have hBW : B ≤ W.heap.size := by omega
  have hflW : bf < W.heap.size := by omega
  have HW := Lib.hid (And.intro hW (And.intro hWo (And.intro hWb hWz)))
  clear c0 c1 c2 f2 hW hWo hf2 hWb hWz
  go_wp2_with (first
    | (at_builtin; refine wpList_append_own _ rfl (.tmp 33) (.tmp 37) 107 rfl B 109 i0 _ 2 16 Try.underlying107 hi hz0 hz1 hz2 rfl (by decide) v m ys rfl (owns_alloc ho2) ⟨W.heap.size, 0, none⟩ 1 1 [.int .i64 (g : Int), .int .i64 (p : Int)] rfl rfl (cells_twoM _ _ rfl _ _ _) (by simp [Value.oneCell']) (by unfold maxLen; omega) (by omega) (by simp; omega) ?_; intro v2 w2 hown2 hgrow2 _
       have hp2 : w2.heap[bf]? = some (.cells #[v] 107 (0, 0)) := (hgrow2.block bf (by simp; omega) (fun e => hnf e.symm)).trans ((Below.heap_alloc _ _ _ (by omega)).trans HF2.out)
       have cp2 : w2.cell? ⟨bf, 0, none⟩ = some v := by rw [cell_of_heap hp2]; rfl
       have fp2 : w2.frozen? ⟨bf, 0, none⟩ = false := frozen_of_heap hp2 0
       obtain ⟨g2, cap2, rfl⟩ := owned_slice hown2 (by omega)
       have HP2 := Lib.hid hp2
       have HG2 := Lib.hid (And.intro hown2 hgrow2)
       clear hp2 hown2 hgrow2)
    | fail)
  go_end0
  have hWz := HW.out.2.2.2
  have hb2 : Below B w w2 := (HW.out.2.2.1.alloc (by omega) _).grown HG2.out.2 (by simp; omega) (fun q hq => own_base ho2 hq)
  have hob : ∀ j, j < w.heap.size → v.ownBlock ≠ some j → w2.heap[j]? = W.heap[j]? := fun j hj hv => (HG2.out.2.block j (by simp; omega) (fun e => hv e.symm)).trans (Below.heap_alloc _ _ _ (by omega))
  have hne2 : (Value.slice (some ⟨g2, 0, none⟩) (m + 1) cap2).ownBlock ≠ some bf := fun e => by
    rcases HG2.out.1.2 with ⟨h, _⟩ | ⟨g', _, _, h, _, hh, _⟩
    · cases h
    · cases h
      cases e
      rw [HP2.out] at hh
      injection hh with hh
      injection hh with _ hh _
      exact absurd hh (by decide)
  refine ⟨rfl, ⟨_, ?_, owns_same HG2.out.1 fun q hq => Below.heap_setCell _ _ _ _ (fun e => hne2 (by rw [hq]; simp [e]))⟩, ?_, ?_, hb2.trans ((Below.refl _ _).setCell (p := ⟨bf, 0, none⟩) hBf _)⟩
  · have h := heap_setCell_same w2 bf 0 _ _ (Value.slice (some ⟨g2, 0, none⟩) (m + 1) cap2) HP2.out
    simpa using h
  · rw [Below.heap_setCell _ _ _ _ (by simpa using hne), hob b hbl hnb, HW.out.1]
  · intro j hj h1 h2 h3
    rw [Below.heap_setCell _ _ _ _ (by simpa using h2), hob j hj h3]
    exact HW.out.2.1 j h1

set_option maxHeartbeats 2000000 in
set_option maxRecDepth 20000 in
/-- The first mark of a gate: its row is made. -/
theorem mark_new (B br bR bs bf g p N K m : Nat) (s : ByteArray) (v : Value) (rv ys : List Value) (w : World) (hg : (g : Int) < (K : Int)) (hp : (p : Int) < (N : Int)) (hN : N = s.size + 1) (hNs : N ≤ 1000001)
    (c0 : w.cell? ⟨br, 0, none⟩ = some (.slice (some ⟨bR, 0, none⟩) K K)) (hR : w.heap[bR]? = some (.cells ⟨rv⟩ 40 (0, 0))) (hz : rv[g]? = some (.slice none 0 0)) (cs : w.cell? ⟨bs, 0, none⟩ = some (.string s))
    (hB : B ≤ w.heap.size) (hBR : B ≤ bR) (hBf : B ≤ bf) (hf : w.heap[bf]? = some (.cells #[v] 107 (0, 0))) (hown : w.ownsRow B 109 2 v m ys) (hm : m ≤ 100000000000)
    (hnR : bR ≠ bf) (hnr : bR ≠ br) (hns : bR ≠ bs) (hvR : v.ownBlock ≠ some bR) (hnf : v.ownBlock ≠ some bf) :
    Calls Try.prog 66 #[.int .i64 (g : Int), .int .i64 (p : Int), .pointer (some ⟨br, 0, none⟩), .pointer (some ⟨bs, 0, none⟩), .pointer (some ⟨bf, 0, none⟩)] w fun e w' => e = .returned (.tuple #[]) ∧
      (∃ v', w'.heap[bf]? = some (.cells #[v'] 107 (0, 0)) ∧ w'.ownsRow B 109 2 v' (m + 1) (ys ++ [.int .i64 (g : Int), .int .i64 (p : Int)])) ∧
      w'.heap[w.heap.size]? = some (.cells ⟨rowC s.size (fun q => if q = p then true else false)⟩ 4 (0, 0)) ∧ w'.heap[bR]? = some (.cells ⟨rv.set g (.slice (some ⟨w.heap.size, 0, none⟩) N N)⟩ 40 (0, 0)) ∧
      (∀ j, j < w.heap.size → j ≠ bR → j ≠ bf → v.ownBlock ≠ some j → w'.heap[j]? = w.heap[j]?) ∧ Below B w w' := by
  have ke := fun (w : World) (a : Option Addr) (n c : Nat) => run_eql_slice_nil (P := Try.prog) w 40 4 a n c 0 0 Try.underlying40
  have g0 : (0 : Int) ≤ (g : Int) := by omega
  have p0 : (0 : Int) ≤ (p : Int) := by omega
  have hI : IntKind.i64.wrap ((s.size : Int) + 1) = (N : Int) := by rw [IntWalk.i64_in _ (by omega)]; omega
  have c1 : w.cell? ⟨bR, g, none⟩ = some (.slice none 0 0) := by rw [cell_of_heap hR]; simpa using hz
  have f1 : w.frozen? ⟨bR, g, none⟩ = false := frozen_of_heap hR g
  have kmk := fun (w : World) => run_make_row' (P := Try.prog) 40 4 (.bool false) 1 Try.underlying40 Try.infoBool rfl .i64 .i64 N (by omega) (by omega) w
  have n0 := World.new_ne w ⟨br, 0, none⟩ c0
  have n1 := World.new_ne w ⟨bs, 0, none⟩ cs
  have n2 := World.new_ne w ⟨bR, g, none⟩ c1
  obtain ⟨i0, hi, hz0, hz1, hz2⟩ := info_parts Try.infoSpot
  have hfl := block_lt hf
  have hRl := block_lt hR
  have HF := Lib.hid hf
  have HO := Lib.hid hown
  have HR := Lib.hid (And.intro hR hz)
  have HN := Lib.hid hN
  clear hf hown hR hz hN
  obtain ⟨X, hX⟩ : ∃ X, X = Obj.cells (madeCells #[.bool false] N) 4 := ⟨_, rfl⟩
  rw [← hX] at kmk
  have HX := Lib.hid hX
  clear hX
  go_enter Try.func66, Try.ntmps66
  go_upto_region 1 with (fail)
  go_region_held3 (fun w' => w'.cell? ⟨br, 0, none⟩ = some (.slice (some ⟨bR, 0, none⟩) K K) ∧ w'.cell? ⟨bs, 0, none⟩ = some (.string s)) (go_keep) (fail)
  obtain ⟨V, hV⟩ : ∃ V, V = ((w.setCell { block := bR, off := g } (Value.slice (some { block := w.heap.size, off := 0 }) N N)).alloc X).drew := ⟨_, rfl⟩
  rw [← hV]
  obtain ⟨b, hb⟩ : ∃ b, b = w.heap.size := ⟨_, rfl⟩
  rw [← hb] at hV ⊢
  have vz : V.heap.size = b + 1 := by rw [hV, hb]; simp [World.setCell]
  have vo : ∀ j, j < b → j ≠ bR → V.heap[j]? = w.heap[j]? := fun j hj h => by
    rw [hV]
    exact (Below.heap_alloc _ _ _ (by simp [World.setCell]; omega)).trans (Below.heap_setCell _ _ _ _ h)
  have vb : V.heap[b]? = some (.cells ⟨rowC s.size (fun _ => false)⟩ 4 (0, 0)) := by
    have h := heap_alloc_new (w.setCell { block := bR, off := g } (Value.slice (some { block := b, off := 0 }) N N)) X
    have e : (w.setCell { block := bR, off := g } (Value.slice (some { block := b, off := 0 }) N N)).heap.size = b := by rw [hb]; simp [World.setCell]
    rw [e] at h
    rw [hV]
    refine h.trans ?_
    rw [HX.out, HN.out, rowC_made]
  have vR : V.heap[bR]? = some (.cells ⟨rv.set g (.slice (some ⟨b, 0, none⟩) N N)⟩ 40 (0, 0)) := by
    rw [hV]
    refine (Below.heap_alloc _ _ _ (by simp [World.setCell]; omega)).trans ?_
    have h := heap_setCell_same w bR g _ _ (Value.slice (some { block := b, off := 0 }) N N) HR.out.1
    simpa using h
  have vB : Below B w V := by rw [hV]; exact (((Below.refl _ w).setCell (p := ⟨bR, g, none⟩) hBR _).alloc (by simp [World.setCell]; omega) _).drew
  have hglt : g < rv.length := by
    by_cases h : g < rv.length
    · exact h
    · have := HR.out.2; rw [List.getElem?_eq_none (by omega)] at this; cases this
  have hpn : p ≤ s.size := by have := HN.out; omega
  have hbrl := block_lt' c0
  have hbsl := block_lt' cs
  have d0 : V.cell? ⟨br, 0, none⟩ = some (.slice (some ⟨bR, 0, none⟩) K K) := (World.cell?_of_block (vo br (by omega) (fun e => hnr e.symm))).trans c0
  have d1 : V.cell? ⟨bR, g, none⟩ = some (.slice (some ⟨b, 0, none⟩) N N) := by rw [cell_of_heap vR]; simp [hglt]
  have d2 : V.cell? ⟨b, p, none⟩ = some (.bool false) := by rw [cell_of_heap vb]; simpa using rowC_get s.size (fun _ => false) p hpn
  have f2 : V.frozen? ⟨b, p, none⟩ = false := frozen_of_heap vb p
  have hf : V.heap[bf]? = some (.cells #[v] 107 (0, 0)) := (vo bf (by omega) (fun e => hnR e.symm)).trans HF.out
  have hown : V.ownsRow B 109 2 v m ys := owns_same HO.out fun q hq => vo q (by rw [hb]; exact own_block_lt HO.out hq) (fun e => hvR (by rw [hq, e]))
  have hnb : v.ownBlock ≠ some b := fun e => by have := own_block_lt HO.out e; omega
  have HFV := Lib.hid hf
  have HOV := Lib.hid hown
  have HV := Lib.hid (And.intro vb (And.intro vR (And.intro vo (And.intro vB vz))))
  have hbV : b < V.heap.size := by omega
  have hBV : B ≤ V.heap.size := Nat.le_trans hB vB.size
  have hbf : bf < b := by omega
  have hRb : bR < b := by omega
  have HB := Lib.hid hb
  clear c0 c1 f1 cs n0 n1 n2 hV vz vo vb vR vB hb hf hown kmk hbrl hbsl
  go_upto_region 4 with (fail)
  obtain ⟨W, hW⟩ : ∃ W, W = V.setCell ⟨b, p, none⟩ (.bool true) := ⟨_, rfl⟩
  rw [← hW]
  have hWo : ∀ j, j ≠ b → W.heap[j]? = V.heap[j]? := fun j hj => by rw [hW]; exact Below.heap_setCell _ _ _ _ hj
  have hWz : W.heap.size = V.heap.size := by rw [hW]; simp [World.setCell]
  have hWb : Below B V W := by rw [hW]; exact (Below.refl _ V).setCell (p := ⟨b, p, none⟩) (by show B ≤ b; have := HB.out; omega) _
  have hf2 : W.heap[bf]? = some (.cells #[v] 107 (0, 0)) := (hWo bf (by omega)).trans HFV.out
  have cf : W.cell? ⟨bf, 0, none⟩ = some v := by rw [cell_of_heap hf2]; rfl
  have ho2 : W.ownsRow B 109 2 v m ys := owns_same HOV.out fun q hq => hWo q (fun e => hnb (by rw [hq, e]))
  have HF2 := Lib.hid hf2
  have hBW : B ≤ W.heap.size := by omega
  have hflW : bf < W.heap.size := by omega
  have HW := Lib.hid (And.intro hW (And.intro hWo (And.intro hWb hWz)))
  clear d0 d1 d2 f2 hW hWo hf2 hWb hWz
  go_wp2_with (first
    | (at_builtin; refine wpList_append_own _ rfl (.tmp 33) (.tmp 37) 107 rfl B 109 i0 _ 2 16 Try.underlying107 hi hz0 hz1 hz2 rfl (by decide) v m ys rfl (owns_alloc ho2) ⟨W.heap.size, 0, none⟩ 1 1 [.int .i64 (g : Int), .int .i64 (p : Int)] rfl rfl (cells_twoM _ _ rfl _ _ _) (by simp [Value.oneCell']) (by unfold maxLen; omega) (by omega) (by simp; omega) ?_; intro v2 w2 hown2 hgrow2 _
       have hp2 : w2.heap[bf]? = some (.cells #[v] 107 (0, 0)) := (hgrow2.block bf (by simp; omega) (fun e => hnf e.symm)).trans ((Below.heap_alloc _ _ _ (by omega)).trans HF2.out)
       have cp2 : w2.cell? ⟨bf, 0, none⟩ = some v := by rw [cell_of_heap hp2]; rfl
       have fp2 : w2.frozen? ⟨bf, 0, none⟩ = false := frozen_of_heap hp2 0
       obtain ⟨g2, cap2, rfl⟩ := owned_slice hown2 (by omega)
       have HP2 := Lib.hid hp2
       have HG2 := Lib.hid (And.intro hown2 hgrow2)
       clear hp2 hown2 hgrow2)
    | fail)
  go_end0
  have hWz := HW.out.2.2.2
  have hb2 : Below B w w2 := ((HV.out.2.2.2.1.trans HW.out.2.2.1).alloc (by omega) _).grown HG2.out.2 (by simp; omega) (fun q hq => own_base ho2 hq)
  have hob : ∀ j, j < V.heap.size → v.ownBlock ≠ some j → w2.heap[j]? = W.heap[j]? := fun j hj hv => (HG2.out.2.block j (by simp; omega) (fun e => hv e.symm)).trans (Below.heap_alloc _ _ _ (by omega))
  have hne2 : (Value.slice (some ⟨g2, 0, none⟩) (m + 1) cap2).ownBlock ≠ some bf := fun e => by
    rcases HG2.out.1.2 with ⟨h, _⟩ | ⟨g', _, _, h, _, hh, _⟩
    · cases h
    · cases h
      cases e
      rw [HP2.out] at hh
      injection hh with hh
      injection hh with _ hh _
      exact absurd hh (by decide)
  have hbb : b = w.heap.size := HB.out
  refine ⟨rfl, ⟨_, ?_, owns_same HG2.out.1 fun q hq => Below.heap_setCell _ _ _ _ (fun e => hne2 (by rw [hq]; simp [e]))⟩, ?_, ?_, ?_, hb2.trans ((Below.refl _ _).setCell (p := ⟨bf, 0, none⟩) hBf _)⟩
  · have h := heap_setCell_same w2 bf 0 _ _ (Value.slice (some ⟨g2, 0, none⟩) (m + 1) cap2) HP2.out
    simpa using h
  · rw [← hbb, Below.heap_setCell _ _ _ _ (by simp; omega), hob b hbV hnb, HW.out.1]
    have h := heap_setCell_same V b p _ _ (.bool true) HV.out.1
    rw [h]
    have e := rowC_set s.size (fun _ => false) p
    simp [e]
  · rw [← hbb, Below.heap_setCell _ _ _ _ (by simpa using hnR), hob bR (by omega) hvR, HW.out.2.1 bR (by omega)]
    exact HV.out.2.1
  · intro j hj h1 h2 h3
    rw [Below.heap_setCell _ _ _ _ (by simpa using h2), hob j (by omega) h3, HW.out.2.1 j (by omega)]
    exact HV.out.2.2.1 j (by omega) h1
theorem mk_any (B br bR bs bf L g p : Nat) (s : ByteArray) (M : Nat → Nat → Bool) (F : List (Nat × Nat)) (w : World) (h : Mk B br bR bs bf L s M F w) (hg : g < 2 * L) (hp : p ≤ s.size) :
    Calls Try.prog 66 #[.int .i64 (g : Int), .int .i64 (p : Int), .pointer (some ⟨br, 0, none⟩), .pointer (some ⟨bs, 0, none⟩), .pointer (some ⟨bf, 0, none⟩)] w fun e w' => e = .returned (.tuple #[]) ∧
      Mk B br bR bs bf L s (setM M g p) (if M g p = true then F else F ++ [(g, p)]) w' ∧ Kept B w w' := by
  obtain ⟨rv, hrl, hR, hrow, hdis⟩ := h.cells
  obtain ⟨v, hf, hown⟩ := h.fresh
  have hBl := h.B_le
  obtain ⟨u, hu⟩ : ∃ u, rv[g]? = some u := ⟨_, List.getElem?_eq_getElem (by omega)⟩
  have c0 : w.cell? ⟨br, 0, none⟩ = some (.slice (some ⟨bR, 0, none⟩) (2 * L) (2 * L)) := by rw [cell_of_heap h.rows]; rfl
  have c1 : w.cell? ⟨bR, g, none⟩ = some u := by rw [cell_of_heap hR]; simpa using hu
  have cs : w.cell? ⟨bs, 0, none⟩ = some (.string s) := by rw [cell_of_heap h.str]; rfl
  have ty : ∀ {i j : Nat} {a b : Array Value} {T U : TypeId} {fz fz' : Nat × Nat}, w.heap[i]? = some (.cells a T fz) → w.heap[j]? = some (.cells b U fz') → T ≠ U → i ≠ j := fun h1 h2 hne e => by
    subst e
    rw [h1] at h2
    injection h2 with h2
    injection h2 with _ h2 _
    exact hne h2
  have n1 : bR ≠ bf := ty hR hf (by decide)
  have n2 : bR ≠ br := ty hR h.rows (by decide)
  have n3 : bR ≠ bs := ty hR h.str (by decide)
  have own : ∀ {q : Nat}, v.ownBlock = some q → ∃ cs, w.heap[q]? = some (.cells cs 109 (0, 0)) := fun hq => by
    rcases hown.2 with ⟨rfl, _⟩ | ⟨g', _, cur, rfl, _, hh, _⟩
    · cases hq
    · cases hq; exact ⟨_, hh⟩
  have n4 : v.ownBlock ≠ some bR := fun e => by obtain ⟨cs, hh⟩ := own e; exact ty hR hh (by decide) rfl
  have n5 : v.ownBlock ≠ some bf := fun e => by obtain ⟨cs, hh⟩ := own e; exact ty hf hh (by decide) rfl
  have hm : F.length ≤ 100000000000 := by
    have h1 := h.cnt
    have h2 := h.small
    have : 2 * L * (s.size + 1) ≤ 4000 * 1000001 := Nat.mul_le_mul (by omega) (by omega)
    omega
  by_cases hM : M g p = true
  · rw [if_pos hM, setM_same hM]
    rcases hrow g u hu with ⟨rfl, hno⟩ | ⟨b, rfl, hBb, hb⟩
    · rw [hno] at hM; cases hM
    · refine (mark_old br bR bs bf g p b (s.size + 1) (2 * L) w (by omega) (by omega) c0 c1 (by rw [cell_of_heap hb]; simpa [hM] using rowC_get s.size (M g) p hp)).mono ?_
      rintro e w' ⟨rfl, rfl⟩
      exact ⟨rfl, h, Kept.refl _ _⟩
  · rw [if_neg hM]
    have hMf : M g p = false := by simpa using hM
    have hfree := free_set M s.size L g p hg hp hMf
    have hcnt := h.cnt
    have hinb : ∀ g' p', setM M g p g' p' = true → g' < 2 * L ∧ p' ≤ s.size := fun g' p' hh => by
      unfold setM at hh
      by_cases e : g' = g ∧ p' = p
      · rw [e.1, e.2]; exact ⟨hg, hp⟩
      · rw [if_neg e] at hh; exact h.inb g' p' hh
    have hspot : spotC (F ++ [(g, p)]) = spotC F ++ [.int .i64 (g : Int), .int .i64 (p : Int)] := by rw [spotC_append]; rfl
    have same : ∀ g', g' ≠ g → setM M g p g' = M g' := fun g' hne => by
      funext q; unfold setM; rw [if_neg (fun e => hne e.1)]
    have this : setM M g p g = fun q => if q = p then true else M g q := by
      funext q; unfold setM; simp
    rcases hrow g u hu with ⟨rfl, hno⟩ | ⟨b, rfl, hBb, hb⟩
    · refine (mark_new B br bR bs bf g p (s.size + 1) (2 * L) F.length s v rv (spotC F) w (by omega) (by omega) rfl (by have := h.small; omega) c0 hR hu cs hBl h.hB.2.1 h.hB.2.2 hf hown hm n1 n2 n3 n4 n5).mono ?_
      rintro e w' ⟨rfl, ⟨v', f1, f2⟩, hnew, hRR, hoth, hlow⟩
      have keep : ∀ {j : Nat} {cs : Array Value} {T : TypeId} {fz : Nat × Nat}, w.heap[j]? = some (.cells cs T fz) → T ≠ 40 → T ≠ 107 → T ≠ 109 → w'.heap[j]? = some (.cells cs T fz) := fun {j cs T fz} hj t1 t2 t3 =>
        (hoth j (block_lt hj) (ty hj hR t1) (ty hj hf t2) (fun e => by obtain ⟨cs, hh⟩ := own e; exact ty hj hh t3 rfl)).trans hj
      refine ⟨rfl, ⟨h.hB, keep h.rows (by decide) (by decide) (by decide), ⟨rv.set g (.slice (some ⟨w.heap.size, 0, none⟩) (s.size + 1) (s.size + 1)), by simpa using hrl, hRR, ?_, ?_⟩, keep h.str (by decide) (by decide) (by decide), ⟨v', f1, ?_⟩, hinb, ?_, h.small⟩, hlow, fun j cs T fz hj t1 t2 t3 t4 => keep hj t2 t3 t4⟩
      · intro g' v2 hv2
        by_cases e : g' = g
        · subst e
          rw [List.getElem?_set_self (by omega)] at hv2
          cases hv2
          refine .inr ⟨w.heap.size, rfl, hBl, ?_⟩
          rw [this]
          have : (fun q => if q = p then true else M g' q) = fun q => if q = p then true else false := by funext q; rw [hno]
          rw [this]
          exact hnew
        · rw [List.getElem?_set_ne (fun e2 => e e2.symm)] at hv2
          rw [same g' e]
          rcases hrow g' v2 hv2 with hh | ⟨b', e1, e2, e3⟩
          · exact .inl hh
          · exact .inr ⟨b', e1, e2, keep e3 (by decide) (by decide) (by decide)⟩
      · intro g1 g2 b n c m d h1 h2
        by_cases e1 : g1 = g <;> by_cases e2 : g2 = g
        · rw [e1, e2]
        · subst e1
          rw [List.getElem?_set_self (by omega)] at h1
          rw [List.getElem?_set_ne (fun e3 => e2 e3.symm)] at h2
          cases h1
          rcases hrow g2 _ h2 with ⟨hh, _⟩ | ⟨b', e4, e5, e6⟩
          · cases hh
          · cases e4
            have := block_lt e6
            omega
        · subst e2
          rw [List.getElem?_set_self (by omega)] at h2
          rw [List.getElem?_set_ne (fun e3 => e1 e3.symm)] at h1
          cases h2
          rcases hrow g1 _ h1 with ⟨hh, _⟩ | ⟨b', e4, e5, e6⟩
          · cases hh
          · cases e4
            have := block_lt e6
            omega
        · rw [List.getElem?_set_ne (fun e3 => e1 e3.symm)] at h1
          rw [List.getElem?_set_ne (fun e3 => e2 e3.symm)] at h2
          exact hdis g1 g2 b n c m d h1 h2
      · rw [hspot, List.length_append]
        exact f2
      · rw [List.length_append]
        show F.length + 1 + _ ≤ _
        omega
    · have n6 : b ≠ bf := ty hb hf (by decide)
      have n7 : v.ownBlock ≠ some b := fun e => by obtain ⟨cs, hh⟩ := own e; exact ty hb hh (by decide) rfl
      refine (mark_add B br bR bs bf g p b (s.size + 1) (2 * L) F.length v (spotC F) w (by omega) (by omega) c0 c1 (by rw [cell_of_heap hb]; simpa [hMf] using rowC_get s.size (M g) p hp) (frozen_of_heap hb p) hBl hBb h.hB.2.2 hf hown hm n6 n7 n5).mono ?_
      rintro e w' ⟨rfl, ⟨v', f1, f2⟩, hnew, hoth, hlow⟩
      have keep : ∀ {j : Nat} {cs : Array Value} {T : TypeId} {fz : Nat × Nat}, w.heap[j]? = some (.cells cs T fz) → j ≠ b → T ≠ 107 → T ≠ 109 → w'.heap[j]? = some (.cells cs T fz) := fun {j cs T fz} hj t1 t2 t3 =>
        (hoth j (block_lt hj) t1 (ty hj hf t2) (fun e => by obtain ⟨cs, hh⟩ := own e; exact ty hj hh t3 rfl)).trans hj
      refine ⟨rfl, ⟨h.hB, keep h.rows (ty h.rows hb (by decide)) (by decide) (by decide), ⟨rv, hrl, keep hR (ty hR hb (by decide)) (by decide) (by decide), ?_, hdis⟩, keep h.str (ty h.str hb (by decide)) (by decide) (by decide), ⟨v', f1, ?_⟩, hinb, ?_, h.small⟩, hlow, fun j cs T fz hj t1 t2 t3 t4 => keep hj (ty hj hb t1) t3 t4⟩
      · intro g' v2 hv2
        by_cases e : g' = g
        · subst e
          rw [hu] at hv2
          cases hv2
          refine .inr ⟨b, rfl, hBb, ?_⟩
          rw [this, hnew]
          have h2 := heap_setCell_same w b p _ _ (.bool true) hb
          rw [h2]
          have e := rowC_set s.size (M g') p
          simp [e]
        · rw [same g' e]
          rcases hrow g' v2 hv2 with hh | ⟨b', e1, e2, e3⟩
          · exact .inl hh
          · refine .inr ⟨b', e1, e2, keep e3 (fun e4 => e ?_) (by decide) (by decide)⟩
            subst e4 e1
            exact hdis g' g _ _ _ _ _ hv2 hu
      · rw [hspot, List.length_append]
        exact f2
      · rw [List.length_append]
        show F.length + 1 + _ ≤ _
        omega
end Go.Proofs.Ytkgpnlldlekcbaa
