/- What is fresh, taken from its row's end: package match's closure 'next'. Conditions: 100000000000 of them. -/
import Derived.Test.YtolofcfegoeenaaMaWalk
namespace Go.Proofs.Ytolofcfegoeenaa
open Go.RowKit Go.Lib

/-- A result that lies in a block, beside a plain one. -/
theorem results_row_tmpM {fn : Func} {p u : Tmp} {ty : TypeId} (h : fn.results = #[.cell p ty, .tmp u]) (tmps : Array Value) (w : World) (g : Nat) (cs : Array Value)
    (hp : tmps.getD p undef = .pointer (some ⟨g, 0, none⟩)) (hl : (loadVar ty ⟨g, 0, none⟩).run Try.prog w = .ok (.agg cs) w) :
    (results fn tmps).run Try.prog w = .ok (.tuple #[.agg cs, tmps.getD u undef]) w := by
  rw [results_cell_tmp h, hp]
  simp [asAddr, hl, Result.andThen]

theorem Try.infoSpotS : (Try.prog.info? 117).map (·.size) = some 2 := by kernel_rfl
theorem set_twoN {w : World} {g : Nat} {t : TypeId} {p q : Value} (a b : Value) (h : w.heap[g]? = some (.cells #[p, q] t (0, 0))) :
    ((w.setCell ⟨g, 0, none⟩ a).setCell ⟨g, 1, none⟩ b).heap[g]? = some (.cells #[a, b] t (0, 0)) := by
  have h1 := heap_setCell_same w g 0 _ _ a h
  exact heap_setCell_same _ g 1 _ _ b h1
theorem other_twoN (w : World) (g j : Nat) (a b : Value) (h : j ≠ g) : ((w.setCell ⟨g, 0, none⟩ a).setCell ⟨g, 1, none⟩ b).heap[j]? = w.heap[j]? :=
  (Below.heap_setCell _ _ _ _ h).trans (Below.heap_setCell _ _ _ _ h)
theorem below_twoN {B g : Nat} {a w : World} (h : Below B a w) (hB : B ≤ g) (p q : Value) : Below B a ((w.setCell ⟨g, 0, none⟩ p).setCell ⟨g, 1, none⟩ q) :=
  (h.setCell (p := ⟨g, 0, none⟩) hB _).setCell (p := ⟨g, 1, none⟩) hB _
theorem load_spot {w : World} {g : Nat} {cs : Array Value} (hg : w.heap[g]? = some (.cells cs 117 (0, 0))) (hz : cs.size = 2) : (loadVar 117 ⟨g, 0, none⟩).run Try.prog w = .ok (.agg cs) w :=
  run_loadVar_row w g 117 117 cs (0, 0) _ hg Try.underlying117 rfl (by rw [hz]; exact Try.infoSpotS)
theorem owns_take2 {w : World} {B L r cp k : Nat} {e : TypeId} {ao : Option Addr} {xs : List Value} (h : w.ownsRow B e k (.slice ao L cp) L xs) (hr : r ≤ L) : w.ownsRow B e k (.slice ao r cp) r (xs.take (r * k)) := by
  obtain ⟨h1, h2⟩ := h
  have hrk : r * k ≤ L * k := Nat.mul_le_mul_right _ hr
  refine ⟨by rw [List.length_take]; omega, ?_⟩
  rcases h2 with ⟨hv, h0⟩ | ⟨g, cap, cur, hv, hB, hg, hc, hm, hs, htk⟩
  · cases hv
    have : r = 0 := by omega
    subst this
    exact .inl ⟨rfl, rfl⟩
  · cases hv
    refine .inr ⟨g, cp, cur, rfl, hB, hg, by omega, hm, hs, ?_⟩
    rw [← htk, List.take_take]
    congr 1
    omega

set_option maxHeartbeats 1000000 in
set_option maxRecDepth 20000 in
theorem next_none (bf : Nat) (ao : Option Addr) (cap : Nat) (w : World) (hf : w.heap[bf]? = some (.cells #[.slice ao 0 cap] 115 (0, 0))) :
    Calls Try.prog 81 #[.pointer (some ⟨bf, 0, none⟩)] w fun e w' => e = .returned (.tuple #[.agg #[.int .i64 0, .int .i64 0], .bool false]) ∧ Below w.heap.size w w' := by
  have cf : w.cell? ⟨bf, 0, none⟩ = some (.slice ao 0 cap) := by rw [cell_of_heap hf]; rfl
  have n0 := World.new_ne w ⟨bf, 0, none⟩ cf
  have hfl := block_lt hf
  clear hf
  go_enter Try.func81, Try.ntmps81
  go_wp2
  have hh := heap_alloc_new w (.cells #[.int .i64 0, .int .i64 0] 117)
  exact bodyPost_ret (v := .tuple #[.agg #[.int .i64 0, .int .i64 0], .bool false]) (results_row_tmpM (p := 1) (u := 2) (ty := 117) Try.results81 _ _ w.heap.size _ rfl (load_spot hh rfl)) rfl ⟨rfl, (Below.refl _ w).alloc (Nat.le_refl _) _⟩

set_option maxHeartbeats 4000000 in
set_option maxRecDepth 20000 in
theorem next_some (B bf m g p : Nat) (v : Value) (ys : List Value) (w : World) (hf : w.heap[bf]? = some (.cells #[v] 115 (0, 0)))
    (hown : w.ownsRow B 117 2 v (m + 1) (ys ++ [.int .i64 (g : Int), .int .i64 (p : Int)])) (hyl : ys.length = 2 * m) (hBf : B ≤ bf) (hB : B ≤ w.heap.size) (hm : m ≤ 100000000000) :
    Calls Try.prog 81 #[.pointer (some ⟨bf, 0, none⟩)] w fun e w' => e = .returned (.tuple #[.agg #[.int .i64 (g : Int), .int .i64 (p : Int)], .bool true]) ∧
      (∃ v', w'.heap[bf]? = some (.cells #[v'] 115 (0, 0)) ∧ w'.ownsRow B 117 2 v' m ys) ∧ (∀ j, j < w.heap.size → j ≠ bf → w'.heap[j]? = w.heap[j]?) ∧ Below B w w' := by
  obtain ⟨gb, cap, rfl⟩ := owned_slice hown (by omega)
  obtain ⟨cur, hg, htk⟩ : ∃ cur : Array Value, w.heap[gb]? = some (.cells cur 117 (0, 0)) ∧ cur.toList.take ((m + 1) * 2) = ys ++ [.int .i64 (g : Int), .int .i64 (p : Int)] := by
    rcases hown.2 with ⟨h, _⟩ | ⟨g', cap', cur, h, _, hg, _, _, _, htk⟩
    · cases h
    · cases h; exact ⟨cur, hg, htk⟩
  have hcap : m + 1 ≤ cap ∧ cap ≤ maxLen := by
    rcases hown.2 with ⟨h, _⟩ | ⟨g', cap', cur, h, _, _, hc, hm, _, _⟩
    · cases h
    · cases h; exact ⟨hc, hm⟩
  have get : ∀ i u, i < 2 → ([Value.int .i64 (g : Int), .int .i64 (p : Int)])[i]? = some u → w.cell? ⟨gb, m * 2 + i, none⟩ = some u := fun i u hi hu => by
    rw [cell_of_heap hg]
    have h : cur.toList[m * 2 + i]? = (cur.toList.take ((m + 1) * 2))[m * 2 + i]? := (List.getElem?_take_of_lt (by omega)).symm
    rw [htk, List.getElem?_append_right (by omega), hyl, show m * 2 + i - 2 * m = i by omega, hu] at h
    simpa using h
  have c0 : w.cell? ⟨gb, m * 2, none⟩ = some (.int .i64 (g : Int)) := get 0 _ (by omega) rfl
  have c1 : w.cell? ⟨gb, m * 2 + 1, none⟩ = some (.int .i64 (p : Int)) := get 1 _ (by omega) rfl
  have hne : gb ≠ bf := fun e => by
    subst e
    rw [hf] at hg
    injection hg with hg
    injection hg with _ hg _
    exact absurd hg (by decide)
  have hfl := block_lt hf
  have hgl := block_lt hg
  have htake := owns_take2 hown (r := m) (by omega)
  rw [List.take_append_of_le_length (by omega), List.take_of_length_le (by omega)] at htake
  have cf : w.cell? ⟨bf, 0, none⟩ = some (.slice (some ⟨gb, 0, none⟩) (m + 1) cap) := by rw [cell_of_heap hf]; rfl
  have n0 := World.new_ne w ⟨bf, 0, none⟩ cf
  have n1 := World.new_ne w ⟨gb, m * 2, none⟩ c0
  have n2 := World.new_ne w ⟨gb, m * 2 + 1, none⟩ c1
  have hI : IntKind.i64.wrap (((m + 1 : Nat) : Int) - 1) = (m : Int) := by rw [IntWalk.i64_in _ (by omega)]; omega
  have m0 : (0 : Int) ≤ (m : Int) := by omega
  have m1 : (m : Int) < ((m + 1 : Nat) : Int) := by omega
  have HF := Lib.hid hf
  have HT := Lib.hid (And.intro htake (And.intro hg hown))
  have HC := Lib.hid hcap
  clear hf htake hg hown get htk hyl hcap
  obtain ⟨M1, hM1⟩ : ∃ M1, M1 = m + 1 := ⟨_, rfl⟩
  rw [← hM1] at cf hI m1 HF HC
  have HM1 := Lib.hid hM1
  clear hM1
  go_enter Try.func81, Try.ntmps81
  go_upto_region 4 with (fail)
  obtain ⟨W, hW⟩ : ∃ W, W = w.alloc (.cells #[.int .i64 0, .int .i64 0] 117) := ⟨_, rfl⟩
  rw [← hW]
  obtain ⟨h, hh⟩ : ∃ h, h = w.heap.size := ⟨_, rfl⟩
  rw [← hh]
  have wz : W.heap.size = h + 1 := by rw [hW, hh]; simp
  have wh : W.heap[h]? = some (.cells #[.int .i64 0, .int .i64 0] 117 (0, 0)) := by rw [hW, hh]; exact heap_alloc_new w _
  have wo : ∀ j, j < h → W.heap[j]? = w.heap[j]? := fun j hj => by rw [hW]; exact Below.heap_alloc _ _ _ (by omega)
  have wB : Below B w W := by rw [hW]; exact (Below.refl _ w).alloc hB _
  have d0 : W.cell? ⟨gb, m * 2, none⟩ = some (.int .i64 (g : Int)) := (World.cell?_of_block (wo gb (by omega))).trans c0
  have d1 : W.cell? ⟨gb, m * 2 + 1, none⟩ = some (.int .i64 (p : Int)) := (World.cell?_of_block (wo gb (by omega))).trans c1
  have df : W.cell? ⟨bf, 0, none⟩ = some (.slice (some ⟨gb, 0, none⟩) M1 cap) := (World.cell?_of_block (wo bf (by omega))).trans cf
  have HW := Lib.hid (And.intro hW (And.intro wz (And.intro wh (And.intro wo wB))))
  have HH := Lib.hid hh
  clear c0 c1 cf n0 n1 n2 hW wz wh wo wB hh
  have k0 := World.new_ne W ⟨bf, 0, none⟩ df
  have k1 := World.new_ne W ⟨gb, m * 2, none⟩ d0
  have k2 := World.new_ne W ⟨gb, m * 2 + 1, none⟩ d1
  go_upto_region 5 with (fail)
  obtain ⟨V, hV⟩ : ∃ V, V = W.alloc (.cells #[.int .i64 (g : Int), .int .i64 (p : Int)] 117) := ⟨_, rfl⟩
  rw [← hV]
  obtain ⟨k, hk⟩ : ∃ k, k = W.heap.size := ⟨_, rfl⟩
  rw [← hk]
  have wz := HW.out.2.1
  have wh := HW.out.2.2.1
  have wo := HW.out.2.2.2.1
  have vk : V.heap[k]? = some (.cells #[.int .i64 (g : Int), .int .i64 (p : Int)] 117 (0, 0)) := by rw [hV, hk]; exact heap_alloc_new W _
  have vo : ∀ j, j < k → V.heap[j]? = W.heap[j]? := fun j hj => by rw [hV]; exact Below.heap_alloc _ _ _ (by omega)
  have hh := HH.out
  have vh : V.heap[h]? = some (.cells #[.int .i64 0, .int .i64 0] 117 (0, 0)) := (vo h (by omega)).trans wh
  have vf : V.heap[bf]? = some (.cells #[.slice (some ⟨gb, 0, none⟩) M1 cap] 115 (0, 0)) := (vo bf (by omega)).trans ((wo bf (by omega)).trans HF.out)
  have vB : Below B w V := by rw [hV]; exact HW.out.2.2.2.2.alloc (Nat.le_trans hB HW.out.2.2.2.2.size) _
  have e0 : V.cell? ⟨k, 0, none⟩ = some (.int .i64 (g : Int)) := by rw [cell_of_heap vk]; rfl
  have e1 : V.cell? ⟨k, 1, none⟩ = some (.int .i64 (p : Int)) := by rw [cell_of_heap vk]; rfl
  have ef : V.cell? ⟨bf, 0, none⟩ = some (.slice (some ⟨gb, 0, none⟩) M1 cap) := by rw [cell_of_heap vf]; rfl
  have ff : V.frozen? ⟨bf, 0, none⟩ = false := frozen_of_heap vf 0
  have f0 : V.frozen? ⟨h, 0, none⟩ = false := frozen_of_heap vh 0
  have f1 : V.frozen? ⟨h, 1, none⟩ = false := frozen_of_heap vh 1
  have y0 : V.cell? ⟨h, 0, none⟩ = some (.int .i64 0) := by rw [cell_of_heap vh]; rfl
  have y1 : V.cell? ⟨h, 1, none⟩ = some (.int .i64 0) := by rw [cell_of_heap vh]; rfl
  have hc1 : (m : Int) ≤ (cap : Int) := by have := HC.out; have := HM1.out; omega
  have hc2 : m ≤ cap := by omega
  have b1 : bf ≠ k := by omega
  have b2 : bf ≠ h := by omega
  have b3 : h ≠ k := by omega
  have hold : ∀ j, j < h → V.heap[j]? = w.heap[j]? := fun j hj => (vo j (by omega)).trans (wo j hj)
  have hBh : B ≤ h := by omega
  have HV := Lib.hid (And.intro vh (And.intro vf (And.intro vB (And.intro hold hBh))))
  clear d0 d1 df k0 k1 k2 hV hk wz wh wo vk vo hh vh vf vB hold
  go_upto_region 6 with (fail)
  obtain ⟨U, hU⟩ : ∃ U, U = V.setCell ⟨bf, 0, none⟩ (.slice (some ⟨gb, 0, none⟩) m cap) := ⟨_, rfl⟩
  rw [← hU]
  have uo : ∀ j, j ≠ bf → U.heap[j]? = V.heap[j]? := fun j hj => by rw [hU]; exact Below.heap_setCell _ _ _ _ hj
  have g0 : U.cell? ⟨k, 0, none⟩ = some (.int .i64 (g : Int)) := (World.cell?_of_block (uo k (by omega))).trans e0
  have g1 : U.cell? ⟨k, 1, none⟩ = some (.int .i64 (p : Int)) := (World.cell?_of_block (uo k (by omega))).trans e1
  have uh : U.heap[h]? = some (.cells #[.int .i64 0, .int .i64 0] 117 (0, 0)) := (uo h (by omega)).trans HV.out.1
  have f0 : U.frozen? ⟨h, 0, none⟩ = false := frozen_of_heap uh 0
  have f1 : U.frozen? ⟨h, 1, none⟩ = false := frozen_of_heap uh 1
  have y0 : U.cell? ⟨h, 0, none⟩ = some (.int .i64 0) := by rw [cell_of_heap uh]; rfl
  have y1 : U.cell? ⟨h, 1, none⟩ = some (.int .i64 0) := by rw [cell_of_heap uh]; rfl
  have HU := Lib.hid (And.intro hU (And.intro uo uh))
  clear hU uo uh e0 e1 ef ff
  go_wp2
  have fin := set_twoN (.int .i64 (g : Int)) (.int .i64 (p : Int)) HU.out.2.2
  have hh := HH.out
  have ub : U.heap[bf]? = some (.cells #[.slice (some ⟨gb, 0, none⟩) m cap] 115 (0, 0)) := by
    rw [HU.out.1]
    have h := heap_setCell_same V bf 0 _ _ (Value.slice (some ⟨gb, 0, none⟩) m cap) HV.out.2.1
    simpa using h
  refine bodyPost_ret (v := .tuple #[.agg #[.int .i64 (g : Int), .int .i64 (p : Int)], .bool true]) (results_row_tmpM (p := 1) (u := 2) (ty := 117) Try.results81 _ _ h _ rfl (load_spot fin rfl)) rfl ⟨rfl, ⟨_, (other_twoN U h bf _ _ b2).trans ub, ?_⟩, fun j hj hne => ?_, ?_⟩
  · refine owns_same HT.out.1 fun q hq => ?_
    have hq2 := own_block_lt HT.out.1 hq
    have hqb : q ≠ bf := fun e => hne (by rw [← e]; injection hq)
    exact (other_twoN U h q _ _ (by omega)).trans ((HU.out.2.1 q hqb).trans (HV.out.2.2.2.1 q (by omega)))
  · exact (other_twoN U h j _ _ (by omega)).trans ((HU.out.2.1 j hne).trans (HV.out.2.2.2.1 j (by omega)))
  · refine below_twoN ?_ HV.out.2.2.2.2 _ _
    rw [HU.out.1]
    exact HV.out.2.2.1.setCell (p := ⟨bf, 0, none⟩) hBf _
end Go.Proofs.Ytolofcfegoeenaa
