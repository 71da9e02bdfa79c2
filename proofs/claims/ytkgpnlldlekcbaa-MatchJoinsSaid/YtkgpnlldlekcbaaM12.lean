/- Packed texts: MaNext, MaEnv. What each of them proves stands above its theorems; the conditions stand in these. -/
import Derived.Test.YtkgpnlldlekcbaaM11
namespace Go.Proofs.Ytkgpnlldlekcbaa
open Go.RowKit Go.Lib

/-- A result that lies in a block, beside a plain one. -/
theorem results_row_tmpM {fn : Func} {p u : Tmp} {ty : TypeId} (h : fn.results = #[.cell p ty, .tmp u]) (tmps : Array Value) (w : World) (g : Nat) (cs : Array Value)
    (hp : tmps.getD p undef = .pointer (some ⟨g, 0, none⟩)) (hl : (loadVar ty ⟨g, 0, none⟩).run Try.prog w = .ok (.agg cs) w) :
    (results fn tmps).run Try.prog w = .ok (.tuple #[.agg cs, tmps.getD u undef]) w := by
  rw [results_cell_tmp h, hp]
  simp [asAddr, hl, Result.andThen]

theorem Try.infoSpotS : (Try.prog.info? 109).map (·.size) = some 2 := by kernel_rfl
theorem set_twoN {w : World} {g : Nat} {t : TypeId} {p q : Value} (a b : Value) (h : w.heap[g]? = some (.cells #[p, q] t (0, 0))) :
    ((w.setCell ⟨g, 0, none⟩ a).setCell ⟨g, 1, none⟩ b).heap[g]? = some (.cells #[a, b] t (0, 0)) := by
  have h1 := heap_setCell_same w g 0 _ _ a h
  exact heap_setCell_same _ g 1 _ _ b h1
theorem other_twoN (w : World) (g j : Nat) (a b : Value) (h : j ≠ g) : ((w.setCell ⟨g, 0, none⟩ a).setCell ⟨g, 1, none⟩ b).heap[j]? = w.heap[j]? :=
  (Below.heap_setCell _ _ _ _ h).trans (Below.heap_setCell _ _ _ _ h)
theorem below_twoN {B g : Nat} {a w : World} (h : Below B a w) (hB : B ≤ g) (p q : Value) : Below B a ((w.setCell ⟨g, 0, none⟩ p).setCell ⟨g, 1, none⟩ q) :=
  (h.setCell (p := ⟨g, 0, none⟩) hB _).setCell (p := ⟨g, 1, none⟩) hB _
theorem load_spot {w : World} {g : Nat} {cs : Array Value} (hg : w.heap[g]? = some (.cells cs 109 (0, 0))) (hz : cs.size = 2) : (loadVar 109 ⟨g, 0, none⟩).run Try.prog w = .ok (.agg cs) w :=
  run_loadVar_row w g 109 109 cs (0, 0) _ hg Try.underlying109 rfl (by rw [hz]; exact Try.infoSpotS)
theorem owns_take2 {w : World} {B L r cp k : Nat} {e : TypeId} {ao : Option Addr} {xs : List Value} (h : w.ownsRow B e k (.slice ao L cp) L xs) (hr : r ≤ L) : w.ownsRow B e k (.slice ao r cp) r (xs.take (r * k)) := by
  obtain ⟨h1, h2⟩ := h
  have hrk : r * k ≤ L * k := Nat.mul_le_mul_right _ hr
  refine ⟨by rw [List.length_take]; omega, ?_⟩
  rcases h2 with ⟨hv, h0⟩ | ⟨g, cap, cur, hv, hB, hg, hc, hm, hs, htk⟩
  · cases hv
    have : r = 0 := by omega
    subst this
    exact .inl ⟨rfl, rfl⟩
  · cases hv
    refine .inr ⟨g, cp, cur, rfl, hB, hg, by omega, hm, hs, ?_⟩
    rw [← htk, List.take_take]
    congr 1
    omega

set_option maxHeartbeats 1000000 in
set_option maxRecDepth 20000 in
theorem next_none (bf : Nat) (ao : Option Addr) (cap : Nat) (w : World) (hf : w.heap[bf]? = some (.cells #[.slice ao 0 cap] 107 (0, 0))) :
    Calls Try.prog 67 #[.pointer (some ⟨bf, 0, none⟩)] w fun e w' => e = .returned (.tuple #[.agg #[.int .i64 0, .int .i64 0], .bool false]) ∧ Below w.heap.size w w' := by
  have cf : w.cell? ⟨bf, 0, none⟩ = some (.slice ao 0 cap) := by rw [cell_of_heap hf]; rfl
  have n0 := World.new_ne w ⟨bf, 0, none⟩ cf
  have hfl := block_lt hf
  clear hf
  go_enter Try.func67, Try.ntmps67
  go_wp2
  have hh := heap_alloc_new w (.cells #[.int .i64 0, .int .i64 0] 109)
  exact bodyPost_ret (v := .tuple #[.agg #[.int .i64 0, .int .i64 0], .bool false]) (results_row_tmpM (p := 1) (u := 2) (ty := 109) Try.results67 _ _ w.heap.size _ rfl (load_spot hh rfl)) rfl ⟨rfl, (Below.refl _ w).alloc (Nat.le_refl _) _⟩

set_option maxHeartbeats 4000000 in
set_option maxRecDepth 20000 in
theorem next_some (B bf m g p : Nat) (v : Value) (ys : List Value) (w : World) (hf : w.heap[bf]? = some (.cells #[v] 107 (0, 0)))
    (hown : w.ownsRow B 109 2 v (m + 1) (ys ++ [.int .i64 (g : Int), .int .i64 (p : Int)])) (hyl : ys.length = 2 * m) (hBf : B ≤ bf) (hB : B ≤ w.heap.size) (hm : m ≤ 100000000000) :
    Calls Try.prog 67 #[.pointer (some ⟨bf, 0, none⟩)] w fun e w' => e = .returned (.tuple #[.agg #[.int .i64 (g : Int), .int .i64 (p : Int)], .bool true]) ∧
      (∃ v', w'.heap[bf]? = some (.cells #[v'] 107 (0, 0)) ∧ w'.ownsRow B 109 2 v' m ys) ∧ (∀ j, j < w.heap.size → j ≠ bf → w'.heap[j]? = w.heap[j]?) ∧ Below B w w' := by
  obtain ⟨gb, cap, rfl⟩ := owned_slice hown (by omega)
  obtain ⟨cur, hg, htk⟩ : ∃ cur : Array Value, w.heap[gb]? = some (.cells cur 109 (0, 0)) ∧ cur.toList.take ((m + 1) * 2) = ys ++ [.int .i64 (g : Int), .int .i64 (p : Int)] := by
    rcases hown.2 with ⟨h, _⟩ | ⟨g', cap', cur, h, _, hg, _, _, _, htk⟩
    · cases h
    · cases h; exact ⟨cur, hg, htk⟩
  have hcap : m + 1 ≤ cap ∧ cap ≤ maxLen := by
    rcases hown.2 with ⟨h, _⟩ | ⟨g', cap', cur, h, _, _, hc, hm, _, _⟩
    · cases h
    · cases h; exact ⟨hc, hm⟩
  have get : ∀ i u, i < 2 → ([Value.int .i64 (g : Int), .int .i64 (p : Int)])[i]? = some u → w.cell? ⟨gb, m * 2 + i, none⟩ = some u := fun i u hi hu => by
    rw [cell_of_heap hg]
    have h : cur.toList[m * 2 + i]? = (cur.toList.take ((m + 1) * 2))[m * 2 + i]? := (List.getElem?_take_of_lt (by omega)).symm
    rw [htk, List.getElem?_append_right (by omega), hyl, show m * 2 + i - 2 * m = i by omega, hu] at h
    simpa using h
  have c0 : w.cell? ⟨gb, m * 2, none⟩ = some (.int .i64 (g : Int)) := get 0 _ (by omega) rfl
  have c1 : w.cell? ⟨gb, m * 2 + 1, none⟩ = some (.int .i64 (p : Int)) := get 1 _ (by omega) rfl
  have hne : gb ≠ bf := fun e => by
    subst e
    rw [hf] at hg
    injection hg with hg
    injection hg with _ hg _
    exact absurd hg (by decide)
  have hfl := block_lt hf
  have hgl := block_lt hg
  have htake := owns_take2 hown (r := m) (by omega)
  rw [List.take_append_of_le_length (by omega), List.take_of_length_le (by omega)] at htake
  have cf : w.cell? ⟨bf, 0, none⟩ = some (.slice (some ⟨gb, 0, none⟩) (m + 1) cap) := by rw [cell_of_heap hf]; rfl
  have n0 := World.new_ne w ⟨bf, 0, none⟩ cf
  have n1 := World.new_ne w ⟨gb, m * 2, none⟩ c0
  have n2 := World.new_ne w ⟨gb, m * 2 + 1, none⟩ c1
  have hI : IntKind.i64.wrap (((m + 1 : Nat) : Int) - 1) = (m : Int) := by rw [IntWalk.i64_in _ (by omega)]; omega
  have m0 : (0 : Int) ≤ (m : Int) := by omega
  have m1 : (m : Int) < ((m + 1 : Nat) : Int) := by omega
  have HF := Lib.hid hf
  have HT := Lib.hid (And.intro htake (And.intro hg hown))
  have HC := Lib.hid hcap
  clear hf htake hg hown get htk hyl hcap
  obtain ⟨M1, hM1⟩ : ∃ M1, M1 = m + 1 := ⟨_, rfl⟩
  rw [← hM1] at cf hI m1 HF HC
  have HM1 := Lib.hid hM1
  clear hM1
  go_enter Try.func67, Try.ntmps67
  go_upto_region 4 with (fail)
  obtain ⟨W, hW⟩ : ∃ W, W = w.alloc (.cells #[.int .i64 0, .int .i64 0] 109) := ⟨_, rfl⟩
  rw [← hW]
  obtain ⟨h, hh⟩ : ∃ h, h = w.heap.size := ⟨_, rfl⟩
  rw [← hh]
  have wz : W.heap.size = h + 1 := by rw [hW, hh]; simp
  have wh : W.heap[h]? = some (.cells #[.int .i64 0, .int .i64 0] 109 (0, 0)) := by rw [hW, hh]; exact heap_alloc_new w _
  have wo : ∀ j, j < h → W.heap[j]? = w.heap[j]? := fun j hj => by rw [hW]; exact Below.heap_alloc _ _ _ (by omega)
  have wB : Below B w W := by rw [hW]; exact (Below.refl _ w).alloc hB _
  have d0 : W.cell? ⟨gb, m * 2, none⟩ = some (.int .i64 (g : Int)) := (World.cell?_of_block (wo gb (by omega))).trans c0
  have d1 : W.cell? ⟨gb, m * 2 + 1, none⟩ = some (.int .i64 (p : Int)) := (World.cell?_of_block (wo gb (by omega))).trans c1
  have df : W.cell? ⟨bf, 0, none⟩ = some (.slice (some ⟨gb, 0, none⟩) M1 cap) := (World.cell?_of_block (wo bf (by omega))).trans cf
  have HW := Lib.hid (And.intro hW (And.intro wz (And.intro wh (And.intro wo wB))))
  have HH := Lib.hid hh
  clear c0 c1 cf n0 n1 n2 hW wz wh wo wB hh
  have k0 := World.new_ne W ⟨bf, 0, none⟩ df
  have k1 := World.new_ne W ⟨gb, m * 2, none⟩ d0
  have k2 := World.new_ne W ⟨gb, m * 2 + 1, none⟩ d1
  go_upto_region 5 with (fail)
  obtain ⟨V, hV⟩ : ∃ V, V = W.alloc (.cells #[.int .i64 (g : Int), .int .i64 (p : Int)] 109) := ⟨_, rfl⟩
  rw [← hV]
  obtain ⟨k, hk⟩ : ∃ k, k = W.heap.size := ⟨_, rfl⟩
  rw [← hk]
  have wz := HW.out.2.1
  have wh := HW.out.2.2.1
  have wo := HW.out.2.2.2.1
  have vk : V.heap[k]? = some (.cells #[.int .i64 (g : Int), .int .i64 (p : Int)] 109 (0, 0)) := by rw [hV, hk]; exact heap_alloc_new W _
  have vo : ∀ j, j < k → V.heap[j]? = W.heap[j]? := fun j hj => by rw [hV]; exact Below.heap_alloc _ _ _ (by omega)
  have hh := HH.out
  have vh : V.heap[h]? = some (.cells #[.int .i64 0, .int .i64 0] 109 (0, 0)) := (vo h (by omega)).trans wh
  have vf : V.heap[bf]? = some (.cells #[.slice (some ⟨gb, 0, none⟩) M1 cap] 107 (0, 0)) := (vo bf (by omega)).trans ((wo bf (by omega)).trans HF.out)
  have vB : Below B w V := by rw [hV]; exact HW.out.2.2.2.2.alloc (Nat.le_trans hB HW.out.2.2.2.2.size) _
  have e0 : V.cell? ⟨k, 0, none⟩ = some (.int .i64 (g : Int)) := by rw [cell_of_heap vk]; rfl
  have e1 : V.cell? ⟨k, 1, none⟩ = some (.int .i64 (p : Int)) := by rw [cell_of_heap vk]; rfl
  have ef : V.cell? ⟨bf, 0, none⟩ = some (.slice (some ⟨gb, 0, none⟩) M1 cap) := by rw [cell_of_heap vf]; rfl
  have ff : V.frozen? ⟨bf, 0, none⟩ = false := frozen_of_heap vf 0
  have f0 : V.frozen? ⟨h, 0, none⟩ = false := frozen_of_heap vh 0
  have f1 : V.frozen? ⟨h, 1, none⟩ = false := frozen_of_heap vh 1
  have y0 : V.cell? ⟨h, 0, none⟩ = some (.int .i64 0) := by rw [cell_of_heap vh]; rfl
  have y1 : V.cell? ⟨h, 1, none⟩ = some (.int .i64 0) := by rw [cell_of_heap vh]; rfl
  have hc1 : (m : Int) ≤ (cap : Int) := by have := HC.out; have := HM1.out; omega
  have hc2 : m ≤ cap := by omega
  have b1 : bf ≠ k := by omega
  have b2 : bf ≠ h := by omega
  have b3 : h ≠ k := by omega
  have hold : ∀ j, j < h → V.heap[j]? = w.heap[j]? := fun j hj => (vo j (by omega)).trans (wo j hj)
  have hBh : B ≤ h := by omega
  have HV := Lib.hid (And.intro vh (And.intro vf (And.intro vB (And.intro hold hBh))))
  clear d0 d1 df k0 k1 k2 hV hk wz wh wo vk vo hh vh vf vB hold
  go_upto_region 6 with (fail)
  obtain ⟨U, hU⟩ : ∃ U, U = V.setCell ⟨bf, 0, none⟩ (.slice (some ⟨gb, 0, none⟩) m cap) := ⟨_, rfl⟩
  rw [← hU]
  have uo : ∀ j, j ≠ bf → U.heap[j]? = V.heap[j]? := fun j hj => by rw [hU]; exact Below.heap_setCell _ _ _ _ hj
  have g0 : U.cell? ⟨k, 0, none⟩ = some (.int .i64 (g : Int)) := (World.cell?_of_block (uo k (by omega))).trans e0
  have g1 : U.cell? ⟨k, 1, none⟩ = some (.int .i64 (p : Int)) := (World.cell?_of_block (uo k (by omega))).trans e1
  have uh : U.heap[h]? = some (.cells #[.int .i64 0, .int .i64 0] 109 (0, 0)) := (uo h (by omega)).trans HV.out.1
  have f0 : U.frozen? ⟨h, 0, none⟩ = false := frozen_of_heap uh 0
  have f1 : U.frozen? ⟨h, 1, none⟩ = false := frozen_of_heap uh 1
  have y0 : U.cell? ⟨h, 0, none⟩ = some (.int .i64 0) := by rw [cell_of_heap uh]; rfl
  have y1 : U.cell? ⟨h, 1, none⟩ = some (.int .i64 0) := by rw [cell_of_heap uh]; rfl
  have HU := Lib.hid (And.intro hU (And.intro uo uh))
  clear hU uo uh e0 e1 ef ff
  go_wp2
  have fin := set_twoN (.int .i64 (g : Int)) (.int .i64 (p : Int)) HU.out.2.2
  have hh := HH.out
  have ub : U.heap[bf]? = some (.cells #[.slice (some ⟨gb, 0, none⟩) m cap] 107 (0, 0)) := by
    rw [HU.out.1]
    have h := heap_setCell_same V bf 0 _ _ (Value.slice (some ⟨gb, 0, none⟩) m cap) HV.out.2.1
    simpa using h
  refine bodyPost_ret (v := .tuple #[.agg #[.int .i64 (g : Int), .int .i64 (p : Int)], .bool true]) (results_row_tmpM (p := 1) (u := 2) (ty := 109) Try.results67 _ _ h _ rfl (load_spot fin rfl)) rfl ⟨rfl, ⟨_, (other_twoN U h bf _ _ b2).trans ub, ?_⟩, fun j hj hne => ?_, ?_⟩
  · refine owns_same HT.out.1 fun q hq => ?_
    have hq2 := own_block_lt HT.out.1 hq
    have hqb : q ≠ bf := fun e => hne (by rw [← e]; injection hq)
    exact (other_twoN U h q _ _ (by omega)).trans ((HU.out.2.1 q hqb).trans (HV.out.2.2.2.1 q (by omega)))
  · exact (other_twoN U h j _ _ (by omega)).trans ((HU.out.2.1 j hne).trans (HV.out.2.2.2.1 j (by omega)))
  · refine below_twoN ?_ HV.out.2.2.2.2 _ _
    rw [HU.out.1]
    exact HV.out.2.2.1.setCell (p := ⟨bf, 0, none⟩) hBf _
end Go.Proofs.Ytkgpnlldlekcbaa
namespace Go.Proofs.Ytkgpnlldlekcbaa
open Go.RowKit Go.Lib

/-- Where all lies. -/
structure Cf where
  (B br bR bs bf bw bu bm bn bp bl bt o cap : Nat)
def upC (n : Nat) (f : Nat → Nat) : List Value := (List.range n).map fun q => .int .i64 (f q : Int)
theorem upC_get (n : Nat) (f : Nat → Nat) (q : Nat) (h : q < n) : (upC n f)[q]? = some (.int .i64 (f q : Int)) := by
  unfold upC
  rw [List.getElem?_map, List.getElem?_range h]
  rfl
structure Env (c : Cf) (s : ByteArray) (bk : Bool) (ts : List Nd) (up : Nat → Nat) (w : World) : Prop where
  wk : w.heap[c.bw]? = some (.cells #[.slice (some ⟨c.bt, c.o, none⟩) ts.length c.cap, .string s, .bool bk, .slice (some ⟨c.bu, 0, none⟩) ts.length ts.length, markV c.br c.bs c.bf] 113 (0, 0))
  up : w.heap[c.bu]? = some (.cells ⟨upC ts.length up⟩ 3 (0, 0))
  bm : w.heap[c.bm]? = some (.cells #[markV c.br c.bs c.bf] 59 (0, 0))
  bn : w.heap[c.bn]? = some (.cells #[.func (.func 67) #[] #[.pointer (some ⟨c.bf, 0, none⟩)]] 110 (0, 0))
  bp : w.heap[c.bp]? = some (.cells #[.pointer (some ⟨c.bw, 0, none⟩)] 111 (0, 0))
  bl : w.heap[c.bl]? = some (.cells #[.int .i64 ((ts.length - 1 : Nat) : Int)] 3 (0, 0))
  tree : ∀ (j : Nat) (n : Nd), ts[j]? = some n → NdAt c.bt (c.o + j * 7) n w
  lt : c.bt < c.B
  ge : c.B ≤ c.bw ∧ c.B ≤ c.bu ∧ c.B ≤ c.bm ∧ c.B ≤ c.bn ∧ c.B ≤ c.bp ∧ c.B ≤ c.bl
theorem Env.kept {c : Cf} {s : ByteArray} {bk : Bool} {ts : List Nd} {up : Nat → Nat} {w w' : World} (h : Env c s bk ts up w) (k : Kept c.B w w') : Env c s bk ts up w' :=
  ⟨k.other _ _ _ _ h.wk (by decide) (by decide) (by decide) (by decide), k.other _ _ _ _ h.up (by decide) (by decide) (by decide) (by decide), k.other _ _ _ _ h.bm (by decide) (by decide) (by decide) (by decide),
    k.other _ _ _ _ h.bn (by decide) (by decide) (by decide) (by decide), k.other _ _ _ _ h.bp (by decide) (by decide) (by decide) (by decide), k.other _ _ _ _ h.bl (by decide) (by decide) (by decide) (by decide),
    fun j n hj => (h.tree j n hj).below k.low h.lt, h.lt, h.ge⟩
theorem Mk.below {B br bR bs bf L : Nat} {s : ByteArray} {M : Nat → Nat → Bool} {F : List (Nat × Nat)} {w w' : World} (h : Mk B br bR bs bf L s M F w) (hb : Below w.heap.size w w') : Mk B br bR bs bf L s M F w' := by
  obtain ⟨rv, h1, h2, h3, h4⟩ := h.cells
  obtain ⟨v, h5, h6⟩ := h.fresh
  have e : ∀ {j : Nat} {x : Obj}, w.heap[j]? = some x → w'.heap[j]? = some x := fun hj => (hb.block _ (block_lt hj)).trans hj
  refine ⟨h.hB, e h.rows, ⟨rv, h1, e h2, fun g v hv => ?_, h4⟩, e h.str, ⟨v, e h5, owns_same h6 fun q hq => hb.block q (own_block_lt h6 hq)⟩, h.inb, h.cnt, h.small⟩
  rcases h3 g v hv with hh | ⟨b, e1, e2, e3⟩
  · exact .inl hh
  · exact .inr ⟨b, e1, e2, e e3⟩
def mks : List (Nat × Nat) → ((Nat → Nat → Bool) × List (Nat × Nat)) → ((Nat → Nat → Bool) × List (Nat × Nat))
  | [], S => S
  | q :: r, S => mks r (setM S.1 q.1 q.2, if S.1 q.1 q.2 = true then S.2 else S.2 ++ [q])
structure Srch (c : Cf) (s : ByteArray) (bk : Bool) (ts : List Nd) (up : Nat → Nat) (w0 : World) (S : (Nat → Nat → Bool) × List (Nat × Nat)) (w : World) : Prop where
  env : Env c s bk ts up w
  mm : Mk c.B c.br c.bR c.bs c.bf ts.length s S.1 S.2 w
  kept : Kept c.B w0 w
section
variable {c : Cf} {s : ByteArray} {bk : Bool} {ts : List Nd} {up : Nat → Nat} {w0 w w' : World} {S : (Nat → Nat → Bool) × List (Nat × Nat)}
theorem Srch.below (h : Srch c s bk ts up w0 S w) (hb : Below w.heap.size w w') : Srch c s bk ts up w0 S w' :=
  ⟨h.env.kept (Kept.of_below hb h.mm.B_le), h.mm.below hb, h.kept.trans (Kept.of_below hb h.mm.B_le)⟩
theorem Srch.mark (h : Srch c s bk ts up w0 S w) {g p : Nat} (hg : g < 2 * ts.length) (hp : p ≤ s.size) : Mark c.br c.bs c.bf g p w (Srch c s bk ts up w0 (mks [(g, p)] S)) := fun w1 hb =>
  (mk_any c.B c.br c.bR c.bs c.bf ts.length g p s S.1 S.2 w1 (h.below hb).mm hg hp).mono fun _ _ hh => ⟨hh.1, (h.below hb).env.kept hh.2.2, hh.2.1, (h.below hb).kept.trans hh.2.2⟩
theorem Srch.c4 (h : Srch c s bk ts up w0 S w) : w.cell? ⟨c.bw, 4, none⟩ = some (markV c.br c.bs c.bf) := (wk_cells h.env.wk).2.2.2.2
end
/-- A node as a tree has it. -/
def NdFit (n : Nd) (L : Nat) : Prop := (n.k = 0 ∨ n.k = 1 ∨ n.k = 2 ∨ n.k = 3 ∨ n.k = 4 ∨ n.k = 5 ∨ n.k = 6 ∨ n.k = 7 ∨ n.k = 8) ∧ ∃ x y : Nat, n.x = (x : Int) ∧ n.y = (y : Int) ∧ x < L ∧ y < L
theorem row_fit : ∀ (t : Tr) (n : Nat), t.ok → ∀ (j : Nat) (nd : Nd), (t.row n)[j]? = some nd → ∀ L, n + t.size ≤ L → NdFit nd L
  | .leaf k, n, hok, j, nd, h, L, hL => by
    have ez : (Tr.leaf k).size = 1 := rfl
    rw [ez] at hL
    have h : ([⟨(k : Int), k0, 0, 0⟩] : List Nd)[j]? = some nd := h
    have e : nd = ⟨(k : Int), k0, 0, 0⟩ := by
      cases j with
      | zero => simpa using h.symm
      | succ j => simp at h
    rw [e]
    refine ⟨?_, 0, 0, rfl, rfl, by omega, by omega⟩
    rcases hok with rfl | rfl | rfl <;> simp
  | .set K, n, hok, j, nd, h, L, hL => by
    have ez : (Tr.set K).size = 1 := rfl
    rw [ez] at hL
    have h : ([⟨1, K, 0, 0⟩] : List Nd)[j]? = some nd := h
    have e : nd = ⟨1, K, 0, 0⟩ := by
      cases j with
      | zero => simpa using h.symm
      | succ j => simp at h
    rw [e]
    exact ⟨by simp, 0, 0, rfl, rfl, by omega, by omega⟩
  | .rep k a, n, hok, j, nd, h, L, hL => by
    have ez : (Tr.rep k a).size = a.size + 1 := rfl
    have hp := a.size_pos
    rw [ez] at hL
    have h : (a.row n ++ [⟨(k : Int), k0, (n : Int) + a.size - 1, 0⟩])[j]? = some nd := h
    by_cases hj : j < a.size
    · rw [List.getElem?_append_left (by rw [Tr.row_length]; exact hj)] at h
      exact row_fit a n hok.2 j nd h L (by omega)
    · rw [List.getElem?_append_right (by rw [Tr.row_length]; omega), Tr.row_length] at h
      have e : nd = ⟨(k : Int), k0, (n : Int) + a.size - 1, 0⟩ := by
        cases hq : j - a.size with
        | zero => rw [hq] at h; simpa using h.symm
        | succ q => rw [hq] at h; simp at h
      rw [e]
      refine ⟨?_, n + a.size - 1, 0, by dsimp only; omega, rfl, by omega, by omega⟩
      rcases hok.1 with rfl | rfl | rfl <;> simp
  | .two k a b, n, hok, j, nd, h, L, hL => by
    have ez : (Tr.two k a b).size = a.size + b.size + 1 := rfl
    have hp := a.size_pos
    have hq := b.size_pos
    rw [ez] at hL
    have h : (a.row n ++ (b.row (n + a.size) ++ [⟨(k : Int), k0, (n : Int) + a.size - 1, (n : Int) + a.size + b.size - 1⟩]))[j]? = some nd := h
    by_cases hj : j < a.size
    · rw [List.getElem?_append_left (by rw [Tr.row_length]; exact hj)] at h
      exact row_fit a n hok.2.1 j nd h L (by omega)
    · rw [List.getElem?_append_right (by rw [Tr.row_length]; omega), Tr.row_length] at h
      by_cases hj2 : j - a.size < b.size
      · rw [List.getElem?_append_left (by rw [Tr.row_length]; exact hj2)] at h
        exact row_fit b (n + a.size) hok.2.2 _ nd h L (by omega)
      · rw [List.getElem?_append_right (by rw [Tr.row_length]; omega), Tr.row_length] at h
        have e : nd = ⟨(k : Int), k0, (n : Int) + a.size - 1, (n : Int) + a.size + b.size - 1⟩ := by
          cases hq : j - a.size - b.size with
          | zero => rw [hq] at h; simpa using h.symm
          | succ q => rw [hq] at h; simp at h
        rw [e]
        refine ⟨?_, n + a.size - 1, n + a.size + b.size - 1, by dsimp only; omega, by dsimp only; omega, by omega, by omega⟩
        rcases hok.1 with rfl | rfl <;> simp
theorem stepD_le {bk : Bool} {l : List UInt8} {n : Nd} {p q : Nat} (h : stepD bk l n p = some q) (hp : p ≤ l.length) : q ≤ l.length := by
  unfold stepD at h
  split at h
  · cases h; exact hp
  · split at h
    · split at h
      · cases h; exact hp
      · cases h
    · split at h
      · split at h
        · cases h; exact hp
        · cases h
      · split at h
        · split at h
          · cases h; omega
          · cases h
        · split at h
          · rename_i hin
            cases h
            have := inSet_lt hin
            omega
          · cases h
theorem spotC_len (F : List (Nat × Nat)) : (spotC F).length = 2 * F.length := by
  unfold spotC
  induction F with
  | nil => rfl
  | cons a F ih => rw [List.flatMap_cons, List.length_append, ih]; simp; omega
theorem enter_any {c : Cf} {s : ByteArray} {bk : Bool} {ts : List Nd} {up : Nat → Nat} {w0 w : World} {S : (Nat → Nat → Bool) × List (Nat × Nat)} (h : Srch c s bk ts up w0 S w) {r p : Nat} {n : Nd} (hn : ts[r]? = some n) (hf : NdFit n ts.length) (hp : p ≤ s.size) :
    Calls Try.prog 70 #[.pointer (some ⟨c.bw, 0, none⟩), .int .i64 (r : Int), .int .i64 (p : Int)] w fun e w' => e = .returned (.tuple #[]) ∧ Srch c s bk ts up w0 (mks (enterD bk s.data.toList n r p) S) w' := by
  have hL := h.mm.small
  have hr : r < ts.length := by
    by_cases hl : r < ts.length
    · exact hl
    · rw [List.getElem?_eq_none (by omega)] at hn; cases hn
  have ht := fun (w' : World) (S' : (Nat → Nat → Bool) × List (Nat × Nat)) (h' : Srch c s bk ts up w0 S' w') => h'.env.tree r n hn
  obtain ⟨hk, x, y, hx, hy, hxl, hyl⟩ := hf
  obtain ⟨k, K, x', y'⟩ := n
  dsimp only at hk hx hy
  subst hx hy
  obtain ⟨c0, c1, c2, c3, c4⟩ := wk_cells h.env.wk
  obtain ⟨a0, a1, a2, a3, a4, a5, a6⟩ := ht w S h
  dsimp only at a0 a5 a6
  have hrI : (r : Int) < (ts.length : Int) := by omega
  have leaf : (k = 0 ∨ k = 1 ∨ k = 7 ∨ k = 8) → Calls Try.prog 70 #[.pointer (some ⟨c.bw, 0, none⟩), .int .i64 (r : Int), .int .i64 (p : Int)] w fun e w' => e = .returned (.tuple #[]) ∧ Srch c s bk ts up w0 (mks (enterD bk s.data.toList (⟨k, K, (x : Int), (y : Int)⟩ : Nd) r p) S) w' := fun hk4 => by
    have ee : enterD bk s.data.toList (⟨k, K, (x : Int), (y : Int)⟩ : Nd) r p = match stepD bk s.data.toList (⟨k, K, (x : Int), (y : Int)⟩ : Nd) p with | some q => [(2 * r + 1, q)] | none => [] := by
      unfold enterD
      dsimp only
      rw [if_neg (by omega), if_neg (by omega), if_neg (by omega), if_neg (by omega)]
      cases stepD bk s.data.toList (⟨k, K, (x : Int), (y : Int)⟩ : Nd) p <;> rfl
    obtain ⟨R, hR⟩ : ∃ R, stepD bk s.data.toList (⟨k, K, (x : Int), (y : Int)⟩ : Nd) p = R := ⟨_, rfl⟩
    rw [ee, hR]
    refine enter_leafW c.bw c.bt c.o r p c.br c.bs c.bf ts.length c.cap k hk4 R w _ hrI (by omega) c0 c4 a0 ?_ ?_ ?_ (fun w' h' => h'.c4)
    · have := step_any bk c.bw c.bt (c.o + r * 7) (⟨k, K, (x : Int), (y : Int)⟩ : Nd) p s _ _ _ w hk4 hp hL.2 h.env.wk (ht w S h)
      unfold StepE at this
      rwa [hR] at this
    · rintro rfl w' hb
      exact h.below hb
    · rintro q rfl
      exact h.mark (by omega) (by have := stepD_le hR (by rw [Array.length_toList]; exact hp); rwa [Array.length_toList] at this)
  rcases hk with rfl | rfl | rfl | rfl | rfl | rfl | rfl | rfl | rfl
  · exact leaf (by omega)
  · exact leaf (by omega)
  · have ee : enterD bk s.data.toList (⟨2, K, (x : Int), (y : Int)⟩ : Nd) r p = [(2 * (if bk = true then y else x), p)] := by
      unfold enterD
      cases bk <;> simp
    rw [ee]
    refine enter_cat c.bw c.bt c.o r p x y c.br c.bs c.bf ts.length c.cap bk w _ hrI (by omega) (by omega) c0 c2 c4 a0 a5 a6 (h.mark ?_ hp) (fun w' h' => h'.c4)
    split <;> omega
  · have ee : enterD bk s.data.toList (⟨3, K, (x : Int), (y : Int)⟩ : Nd) r p = [(2 * x, p), (2 * y, p)] := by
      unfold enterD
      simp
    rw [ee]
    refine enter_alt c.bw c.bt c.o r p x y c.br c.bs c.bf ts.length c.cap w _ (Srch c s bk ts up w0 (mks [(2 * x, p)] S)) hrI (by omega) (by omega) c0 c4 a0 a5 (h.mark (by omega) hp) (fun w' h' => ?_) (fun w' h' => ⟨h'.c4, (ht w' _ h').2.2.2.2.2.2⟩)
    exact ⟨h'.c4, (ht w' _ h').2.2.2.2.2.1, (ht w' _ h').2.2.2.2.2.2, h'.mark (by omega) hp⟩
  · have ee : enterD bk s.data.toList (⟨4, K, (x : Int), (y : Int)⟩ : Nd) r p = [(2 * r + 1, p), (2 * x, p)] := by
      unfold enterD
      simp
    rw [ee]
    refine enter_rep c.bw c.bt c.o r p x c.br c.bs c.bf ts.length c.cap 4 (.inl rfl) w _ (Srch c s bk ts up w0 (mks [(2 * r + 1, p)] S)) hrI (by omega) (by omega) c0 c4 a0 (h.mark (by omega) hp) (fun w' h' => ?_) (fun w' h' => ⟨h'.c4, (ht w' _ h').2.2.2.2.2.1⟩)
    exact ⟨h'.c4, (ht w' _ h').2.2.2.2.2.1, h'.mark (by omega) hp⟩
  · have ee : enterD bk s.data.toList (⟨5, K, (x : Int), (y : Int)⟩ : Nd) r p = [(2 * x, p)] := by
      unfold enterD
      simp
    rw [ee]
    exact enter_plus c.bw c.bt c.o r p x c.br c.bs c.bf ts.length c.cap w _ hrI (by omega) c0 c4 a0 a5 (h.mark (by omega) hp) (fun w' h' => ⟨h'.c4, (ht w' _ h').2.2.2.2.2.1⟩)
  · have ee : enterD bk s.data.toList (⟨6, K, (x : Int), (y : Int)⟩ : Nd) r p = [(2 * r + 1, p), (2 * x, p)] := by
      unfold enterD
      simp
    rw [ee]
    refine enter_rep c.bw c.bt c.o r p x c.br c.bs c.bf ts.length c.cap 6 (.inr rfl) w _ (Srch c s bk ts up w0 (mks [(2 * r + 1, p)] S)) hrI (by omega) (by omega) c0 c4 a0 (h.mark (by omega) hp) (fun w' h' => ?_) (fun w' h' => ⟨h'.c4, (ht w' _ h').2.2.2.2.2.1⟩)
    exact ⟨h'.c4, (ht w' _ h').2.2.2.2.2.1, h'.mark (by omega) hp⟩
  · exact leaf (by omega)
  · exact leaf (by omega)
theorem leave_any {c : Cf} {s : ByteArray} {bk : Bool} {ts : List Nd} {up : Nat → Nat} {w0 w : World} {S : (Nat → Nat → Bool) × List (Nat × Nat)} (h : Srch c s bk ts up w0 S w) {r p : Nat} {n : Nd} (hr : r < ts.length) (hn : ts[up r]? = some n) (hf : NdFit n ts.length) (hk : n.k = 2 ∨ n.k = 3 ∨ n.k = 4 ∨ n.k = 5 ∨ n.k = 6) (hp : p ≤ s.size) :
    Calls Try.prog 71 #[.pointer (some ⟨c.bw, 0, none⟩), .int .i64 (r : Int), .int .i64 (p : Int)] w fun e w' => e = .returned (.tuple #[]) ∧ Srch c s bk ts up w0 (mks (leaveD bk n (up r) r p) S) w' := by
  have hL := h.mm.small
  have hu : up r < ts.length := by
    by_cases hl : up r < ts.length
    · exact hl
    · rw [List.getElem?_eq_none (by omega)] at hn; cases hn
  have ht := h.env.tree (up r) n hn
  obtain ⟨_, x, y, hx, hy, hxl, hyl⟩ := hf
  obtain ⟨u, hU⟩ : ∃ u, u = up r := ⟨_, rfl⟩
  obtain ⟨k, K, x', y'⟩ := n
  dsimp only at hk hx hy
  subst hx hy
  obtain ⟨c0, c1, c2, c3, c4⟩ := wk_cells h.env.wk
  obtain ⟨a0, a1, a2, a3, a4, a5, a6⟩ := ht
  dsimp only at a0 a5 a6
  have cu : w.cell? ⟨c.bu, r, none⟩ = some (.int .i64 (up r : Int)) := by rw [cell_of_heap h.env.up]; simpa using upC_get ts.length up r hr
  rw [← hU] at hu a0 a5 a6 cu ⊢
  have hrI : (r : Int) < (ts.length : Int) := by omega
  have huI : (u : Int) < (ts.length : Int) := by omega
  rcases hk with rfl | rfl | rfl | rfl | rfl
  · refine leave_cat c.bw c.bt c.o r u p x y c.br c.bs c.bf ts.length c.cap c.bu ts.length ts.length bk w _ hrI huI (by omega) (by omega) (by omega) c0 c2 c3 c4 cu a0 a5 a6 (fun he => ?_) (fun he => ?_) (fun w' h' => h'.c4)
    · have ee : leaveD bk (⟨2, K, (x : Int), (y : Int)⟩ : Nd) u r p = [(2 * (if bk = true then x else y), p)] := by
        unfold leaveD
        rw [if_pos ⟨rfl, he⟩]
        cases bk <;> simp
      rw [ee]
      refine h.mark ?_ hp
      split <;> omega
    · have ee : leaveD bk (⟨2, K, (x : Int), (y : Int)⟩ : Nd) u r p = [(2 * u + 1, p)] := by
        unfold leaveD
        rw [if_neg (fun hh => he hh.2)]
        simp
      rw [ee]
      exact h.mark (by omega) hp
  · have ee : leaveD bk (⟨3, K, (x : Int), (y : Int)⟩ : Nd) u r p = [(2 * u + 1, p)] := by
      unfold leaveD
      simp
    rw [ee]
    exact leave_up c.bw c.bt c.o r u p c.br c.bs c.bf ts.length c.cap c.bu ts.length ts.length 3 (.inl rfl) w _ hrI huI (by omega) c0 c3 c4 cu a0 (h.mark (by omega) hp) (fun w' h' => h'.c4)
  · have ee : leaveD bk (⟨4, K, (x : Int), (y : Int)⟩ : Nd) u r p = [(2 * r, p), (2 * u + 1, p)] := by
      unfold leaveD
      simp
    rw [ee]
    exact leave_loop c.bw c.bt c.o r u p c.br c.bs c.bf ts.length c.cap c.bu ts.length ts.length 4 (.inl rfl) w _ (Srch c s bk ts up w0 (mks [(2 * r, p)] S)) hrI huI (by omega) (by omega) c0 c3 c4 cu a0 (h.mark (by omega) hp) (fun w' h' => ⟨h'.c4, h'.mark (by omega) hp⟩) (fun w' h' => h'.c4)
  · have ee : leaveD bk (⟨5, K, (x : Int), (y : Int)⟩ : Nd) u r p = [(2 * r, p), (2 * u + 1, p)] := by
      unfold leaveD
      simp
    rw [ee]
    exact leave_loop c.bw c.bt c.o r u p c.br c.bs c.bf ts.length c.cap c.bu ts.length ts.length 5 (.inr rfl) w _ (Srch c s bk ts up w0 (mks [(2 * r, p)] S)) hrI huI (by omega) (by omega) c0 c3 c4 cu a0 (h.mark (by omega) hp) (fun w' h' => ⟨h'.c4, h'.mark (by omega) hp⟩) (fun w' h' => h'.c4)
  · have ee : leaveD bk (⟨6, K, (x : Int), (y : Int)⟩ : Nd) u r p = [(2 * u + 1, p)] := by
      unfold leaveD
      simp
    rw [ee]
    exact leave_up c.bw c.bt c.o r u p c.br c.bs c.bf ts.length c.cap c.bu ts.length ts.length 6 (.inr rfl) w _ hrI huI (by omega) c0 c3 c4 cu a0 (h.mark (by omega) hp) (fun w' h' => h'.c4)
theorem next_empty {c : Cf} {s : ByteArray} {bk : Bool} {ts : List Nd} {up : Nat → Nat} {w0 w : World} {M : Nat → Nat → Bool} (h : Srch c s bk ts up w0 (M, []) w) :
    Calls Try.prog 67 #[.pointer (some ⟨c.bf, 0, none⟩)] w fun e w' => e = .returned (.tuple #[.agg #[.int .i64 0, .int .i64 0], .bool false]) ∧ Srch c s bk ts up w0 (M, []) w' := by
  obtain ⟨v, hf, hown⟩ := h.mm.fresh
  obtain ⟨ao, cap, rfl⟩ : ∃ ao cap, v = .slice ao 0 cap := by
    rcases hown.2 with ⟨rfl, _⟩ | ⟨g', cap, cur, rfl, _⟩
    · exact ⟨_, _, rfl⟩
    · exact ⟨_, _, rfl⟩
  exact (next_none c.bf ao cap w hf).mono fun e w' hh => ⟨hh.1, h.below hh.2⟩
theorem next_last {c : Cf} {s : ByteArray} {bk : Bool} {ts : List Nd} {up : Nat → Nat} {w0 w : World} {M : Nat → Nat → Bool} {F : List (Nat × Nat)} {g p : Nat} (h : Srch c s bk ts up w0 (M, F ++ [(g, p)]) w) :
    Calls Try.prog 67 #[.pointer (some ⟨c.bf, 0, none⟩)] w fun e w' => e = .returned (.tuple #[.agg #[.int .i64 (g : Int), .int .i64 (p : Int)], .bool true]) ∧ Srch c s bk ts up w0 (M, F) w' := by
  obtain ⟨v, hf, hown⟩ := h.mm.fresh
  have hspot : spotC (F ++ [(g, p)]) = spotC F ++ [.int .i64 (g : Int), .int .i64 (p : Int)] := by rw [spotC_append]; rfl
  dsimp only at hown
  rw [hspot, List.length_append] at hown
  have hcnt := h.mm.cnt
  have hsm := h.mm.small
  dsimp only at hcnt
  rw [List.length_append] at hcnt
  have hyl := spotC_len F
  have hm : F.length ≤ 100000000000 := by
    have : 2 * ts.length * (s.size + 1) ≤ 4000 * 1000001 := Nat.mul_le_mul (by omega) (by omega)
    omega
  refine (next_some c.B c.bf F.length g p v (spotC F) w hf hown hyl h.mm.hB.2.2 h.mm.B_le hm).mono ?_
  rintro e w' ⟨rfl, ⟨v', h1, h2⟩, h3, h4⟩
  have ty : ∀ {i : Nat} {a : Array Value} {T : TypeId} {fz : Nat × Nat}, w.heap[i]? = some (.cells a T fz) → T ≠ 107 → w'.heap[i]? = some (.cells a T fz) := fun {i a T fz} hi hne => by
    refine (h3 i (block_lt hi) (fun e => ?_)).trans hi
    subst e
    rw [hf] at hi
    injection hi with hi
    injection hi with _ hi _
    exact hne hi.symm
  have hk : Kept c.B w w' := ⟨h4, fun j cs T fz hj _ _ t3 _ => ty hj t3⟩
  obtain ⟨rv, q1, q2, q3, q4⟩ := h.mm.cells
  refine ⟨rfl, h.env.kept hk, ⟨h.mm.hB, ty h.mm.rows (by decide), ⟨rv, q1, ty q2 (by decide), fun g v hv => ?_, q4⟩, ty h.mm.str (by decide), ⟨v', h1, h2⟩, h.mm.inb, by dsimp only; omega, hsm⟩, h.kept.trans hk⟩
  rcases q3 g v hv with hh | ⟨b, e1, e2, e3⟩
  · exact .inl hh
  · exact .inr ⟨b, e1, e2, ty e3 (by decide)⟩
end Go.Proofs.Ytkgpnlldlekcbaa
