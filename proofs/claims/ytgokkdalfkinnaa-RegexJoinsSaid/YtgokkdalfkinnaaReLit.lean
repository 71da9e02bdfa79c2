/- A text's own tree: package regex's Lit. Condition: the text has 1000 bytes at most. -/
import Derived.Test.YtgokkdalfkinnaaReKids
namespace Go.Proofs.Ytgokkdalfkinnaa
open Go.RowKit Go.Lib

/-- The tree of a text's first bytes (of one at least). -/
def litF (l : List UInt8) : Nat → Tr
  | 0 => .set (k4 (oneK (l.getD 0 0).toNat))
  | j + 1 => .two 2 (litF l j) (.set (k4 (oneK (l.getD (j + 1) 0).toNat)))
def litT (l : List UInt8) : Tr := if l.length = 0 then .leaf 0 else litF l (l.length - 1)
def litR (l : List UInt8) (j : Nat) : List Nd := if j = 0 then [] else (litF l (j - 1)).row 0
theorem litF_size (l : List UInt8) : ∀ j, (litF l j).size = 2 * j + 1
  | 0 => rfl
  | j + 1 => by
    show (litF l j).size + 1 + 1 = _
    rw [litF_size l j]
    omega
theorem litF_ok (l : List UInt8) : ∀ j, (litF l j).ok
  | 0 => trivial
  | j + 1 => ⟨.inl rfl, litF_ok l j, trivial⟩
theorem litR_length (l : List UInt8) (j : Nat) : (litR l j).length = 2 * j - 1 := by
  unfold litR
  by_cases h : j = 0
  · rw [if_pos h, h]; rfl
  · rw [if_neg h, Tr.row_length, litF_size]; omega
theorem litR_next (l : List UInt8) (j : Nat) (hj : 0 < j) (c : UInt8) (hc : l.getD j 0 = c) :
    litR l (j + 1) = (litR l j ++ [⟨1, k4 (oneK c.toNat), 0, 0⟩]) ++ [⟨2, k0, ((litR l j).length : Int) - 1, ((litR l j ++ [(⟨1, k4 (oneK c.toNat), 0, 0⟩ : Nd)]).length : Int) - 1⟩] := by
  obtain ⟨i, rfl⟩ : ∃ i, j = i + 1 := ⟨j - 1, by omega⟩
  have e1 : litR l (i + 1 + 1) = (litF l i).row 0 ++ ([⟨1, k4 (oneK c.toNat), 0, 0⟩] ++ [⟨2, k0, ((0 : Nat) : Int) + (litF l i).size - 1, ((0 : Nat) : Int) + (litF l i).size + ((1 : Nat) : Int) - 1⟩]) := by
    rw [← hc]
    rfl
  have e2 : litR l (i + 1) = (litF l i).row 0 := rfl
  rw [e1, e2, List.length_append, Tr.row_length, List.append_assoc]
  congr 4 <;> simp
theorem litR_one (l : List UInt8) (c : UInt8) (hc : l.getD 0 0 = c) : litR l 1 = [⟨1, k4 (oneK c.toNat), 0, 0⟩] := by
  rw [← hc]
  rfl
theorem litT_ok (l : List UInt8) : (litT l).ok := by
  unfold litT
  by_cases h : l.length = 0
  · rw [if_pos h]; exact .inl rfl
  · rw [if_neg h]; exact litF_ok l _
theorem litT_size (l : List UInt8) (h : l.length ≤ 1000) : (litT l).size ≤ 2000 := by
  unfold litT
  by_cases h : l.length = 0
  · rw [if_pos h]; show 1 ≤ 2000; omega
  · rw [if_neg h, litF_size]; omega
theorem fresh_tree (w : World) : Own w.heap.size w.heap.size 49 [] [] (w.alloc (.cells #[.slice none 0 0] 49)) :=
  ⟨Nat.le_refl _, by simp, by simp, by decide, .slice none 0 0, heap_alloc_new w _, ⟨rfl, .inl ⟨rfl, rfl⟩⟩, by simp [Value.ownBlock]⟩

set_option maxHeartbeats 2000000 in
set_option maxRecDepth 20000 in
theorem lit1_empty (q : Nat) (w : World) (hq : w.heap[q]? = some (.cells #[.string ⟨#[]⟩] 9 (0, 0))) :
    Calls Try.prog 29 #[.pointer (some ⟨q, 0, none⟩)] w fun e w' => (∃ v, e = .returned v ∧ IsRow w.heap.size [⟨0, k0, 0, 0⟩] v w') ∧ Below w.heap.size w w' := by
  have hlt := block_lt hq
  have c0 : w.cell? ⟨q, 0, none⟩ = some (.string ⟨#[]⟩) := by rw [cell_of_heap hq]; rfl
  have k1 := fun w' (h : Own w.heap.size w.heap.size 49 [] [] w') => leaf_ok w.heap.size w.heap.size 49 [] [] 0 w' h (by show 0 < 2000; omega)
  have hE : ((⟨#[]⟩ : ByteArray) == ⟨#[]⟩) = true := by decide
  clear hq
  go_enter Try.func29, Try.ntmps29
  go_wp2_with (first
    | (go_at_call 30; refine (k1 _ (fresh_tree w)).mono ?_; rintro e w1 ⟨rfl, ho, hb1⟩
       have hb1' : Below w.heap.size w w1 := ((Below.refl _ w).alloc (Nat.le_refl _) _).trans hb1
       have d0 : w1.cell? ⟨q, 0, none⟩ = some (.string ⟨#[]⟩) := by unfold World.cell?; rw [hb1'.block q hlt]; exact c0
       obtain ⟨v, f0, hrow⟩ := ho.first
       have HR := Lib.hid hrow
       have HB := Lib.hid hb1'
       clear ho hb1 hb1' hrow)
    | fail)
  go_loopg [10] 1 (fun k i wr => i = .int .i64 0 ∧ wr = w1)
  case atStart => exact ⟨rfl, rfl⟩
  case round =>
    obtain ⟨rfl, rfl⟩ := hrel
    go_wp2
    exact bodyPost_ret (results_tmp rfl _ _ _) rfl ⟨⟨v, rfl, HR.out⟩, HB.out⟩

set_option maxHeartbeats 4000000 in
set_option maxRecDepth 20000 in
theorem lit1_full (l : List UInt8) (S : ByteArray) (hS : S = ⟨l.toArray⟩) (q : Nat) (w : World) (hl : 1 ≤ l.length) (hl2 : l.length ≤ 1000) (hE : S.toList.isEmpty = false) (hq : w.heap[q]? = some (.cells #[.string S] 9 (0, 0))) :
    Calls Try.prog 29 #[.pointer (some ⟨q, 0, none⟩)] w fun e w' => (∃ v, e = .returned v ∧ IsRow w.heap.size (litR l l.length) v w') ∧ Below w.heap.size w w' := by
  have hqlt := block_lt hq
  have c0 : w.cell? ⟨q, 0, none⟩ = some (.string S) := by rw [cell_of_heap hq]; rfl
  have hsz : S.size = l.length := by rw [hS]; simp [ByteArray.size]
  have hget : ∀ j (h : j < S.size), S[j] = l.getD j 0 := fun j h => by
    subst hS
    rw [List.getD_eq_getElem?_getD, List.getElem?_eq_getElem (by omega)]
    rfl
  have kw := fun zs w' (h : Own w.heap.size w.heap.size 49 [] zs w') => last_any w.heap.size w.heap.size 49 [] zs w' h
  have ks := fun zs k w' (h : Own w.heap.size w.heap.size 49 [] zs w') hl => set_ok w.heap.size w.heap.size 49 [] zs k w' h hl
  have kp := fun zs a w' (h : Own w.heap.size w.heap.size 49 [] zs w') hl => pair_ok w.heap.size w.heap.size 49 [] zs 2 a w' h hl
  have hfr := fresh_tree w
  obtain ⟨N, hN⟩ : ∃ N, N = l.length := ⟨_, rfl⟩
  rw [← hN] at hl hl2 hsz
  have HG := Lib.hid (And.intro hN hget)
  have HFR := Lib.hid hfr
  have hc : ∀ W : World, Below w.heap.size w W → W.cell? ⟨q, 0, none⟩ = some (.string S) := fun W hb => by unfold World.cell?; rw [hb.block q hqlt]; exact c0
  have HC := Lib.hid hc
  clear hq hS hN hget hfr hc
  go_enter Try.func29, Try.ntmps29
  go_wp2_with fail
  obtain ⟨W0, hW0⟩ : ∃ W0, W0 = w.alloc (.cells #[.slice none 0 0] 49) := ⟨_, rfl⟩
  have hB0 : Below w.heap.size w W0 := by rw [hW0]; exact (Below.refl _ w).alloc (Nat.le_refl _) _
  have HFR := Lib.hid (show Own w.heap.size w.heap.size 49 [] [] W0 by rw [hW0]; exact HFR.out)
  rw [← hW0]
  have HB0 := Lib.hid hB0
  clear hB0 hW0
  go_loopg [10] (N + 1) (fun k i wr => ∃ (j : Nat) (zs : List Nd), i = .int .i64 j ∧ j ≤ N ∧ Hid (k = N + 1 - j) ∧ Hid (Own w.heap.size w.heap.size 49 [] zs wr) ∧ Hid (zs = litR l j) ∧ Hid (Below w.heap.size w wr))
  case atStart => exact ⟨0, [], rfl, Nat.zero_le _, rfl, HFR.out, rfl, HB0.out⟩
  case round =>
    obtain ⟨j, zs, rfl, hj, HK, HO, HZ, HB⟩ := hrel
    obtain ⟨v, f0, hrow⟩ := HO.out.first
    have HROW := Lib.hid hrow
    clear hrow
    have d0 := HC.out wr HB.out
    by_cases hlt : j < N
    · have hlt2 : j < S.size := by omega
      obtain ⟨c, hcc⟩ : ∃ c, l.getD j 0 = c := ⟨_, rfl⟩
      obtain ⟨x, hx⟩ : ∃ x : Int, (S[j].toNat : Int) = x := ⟨_, rfl⟩
      have hxc : x = (c.toNat : Int) := by rw [← hx, HG.out.2 j hlt2, hcc]
      have hx0 : 0 ≤ x := by omega
      have hx1 : x ≤ 255 := by have := u8_lt c; omega
      have k1 := fun w => one_any x w hx0 hx1
      obtain ⟨K, hK⟩ : ∃ K, K = k4 (oneK c.toNat) := ⟨_, rfl⟩
      have hO : clsV (oneK x.toNat) = .agg #[.int .u64 (K.a.toNat : Int), .int .u64 (K.b.toNat : Int), .int .u64 (K.c.toNat : Int), .int .u64 (K.d.toNat : Int)] := by rw [hK, hxc, Int.toNat_natCast]; rfl
      rw [hO] at k1
      have hzl : zs.length = 2 * j - 1 := by rw [HZ.out, litR_length]
      have ks := fun w' h => ks zs K w' h (by omega)
      have kw := fun w' h => kw zs w' h
      have kp := fun a w' h => kp (zs ++ [⟨1, K, 0, 0⟩]) a w' h (by rw [List.length_append]; simp; omega)
      obtain ⟨LZ, hLZ⟩ : ∃ LZ : Int, LZ = (zs.length : Int) - 1 := ⟨_, rfl⟩
      rw [← hLZ] at kw
      have HH := Lib.hid (And.intro hcc (And.intro hK hLZ))
      have HX := Lib.hid (And.intro hx0 hx1)
      clear hcc hxc hK hO hzl hLZ hx0 hx1
      by_cases hj0 : 0 < j
      · have p0 : decide ((0 : Int) < (j : Int)) = true := by simp; omega
        go_wp2_with (first
          | (go_at_call 31; refine (kw _ HO.out).mono ?_; rintro e w2 ⟨rfl, rfl⟩)
          | (go_at_call 33; refine (k1 _).mono ?_; rintro e w3 ⟨rfl, hb3⟩; have HO3 := Lib.hid (HO.out.below hb3); have HB3 := Lib.hid (HB.out.trans (hb3.mono HB.out.size)); clear hb3)
          | (go_at_call 32; refine (ks _ HO3.out).mono ?_; rintro e w4 ⟨rfl, ho4, hb4⟩; have HO4 := Lib.hid ho4; have HB4 := Lib.hid (HB3.out.trans hb4); clear ho4 hb4)
          | (go_at_call 34; refine (kp _ _ HO4.out).mono ?_; rintro e w5 ⟨rfl, ho5, hb5⟩; have HO5 := Lib.hid ho5; have HB5 := Lib.hid (HB4.out.trans hb5); clear ho5 hb5)
          | fail)
        go_roundg (N - j)
        case rel => exact ⟨j + 1, _, by go_num, by omega, by show _ = _; omega, HO5.out, by show _ = _; rw [litR_next l j hj0 c HH.out.1, ← HZ.out, ← HH.out.2.1, HH.out.2.2], HB5.out⟩
        case measure => have := HK.out; omega
      · have p0 : decide ((0 : Int) < (j : Int)) = false := by simp; omega
        obtain rfl : j = 0 := by omega
        go_wp2_with (first
          | (go_at_call 31; refine (kw _ HO.out).mono ?_; rintro e w2 ⟨rfl, rfl⟩)
          | (go_at_call 33; refine (k1 _).mono ?_; rintro e w3 ⟨rfl, hb3⟩; have HO3 := Lib.hid (HO.out.below hb3); have HB3 := Lib.hid (HB.out.trans (hb3.mono HB.out.size)); clear hb3)
          | (go_at_call 32; refine (ks _ HO3.out).mono ?_; rintro e w4 ⟨rfl, ho4, hb4⟩; have HO4 := Lib.hid ho4; have HB4 := Lib.hid (HB3.out.trans hb4); clear ho4 hb4)
          | fail)
        go_roundg (N - 0)
        case rel => exact ⟨1, _, by go_num, by omega, by show _ = _; omega, HO4.out, by show _ = _; rw [litR_one l c HH.out.1, ← HH.out.2.1, HZ.out]; rfl, HB4.out⟩
        case measure => have := HK.out; omega
    · have hd : decide ((j : Int) < (N : Int)) = false := by simp; omega
      obtain rfl : j = N := by omega
      go_wp2
      exact bodyPost_ret (results_tmp rfl _ _ _) rfl ⟨⟨v, rfl, by have := HROW.out; rw [HZ.out, HG.out.1] at this; exact this⟩, HB.out⟩
set_option maxHeartbeats 1000000 in
set_option maxRecDepth 20000 in
theorem lit_walk (S : ByteArray) (ys : List Nd) (w : World)
    (k1 : ∀ w1 : World, w1.heap[w.heap.size]? = some (.cells #[.string S] 9 (0, 0)) → Calls Try.prog 29 #[.pointer (some ⟨w.heap.size, 0, none⟩)] w1 fun e w2 => (∃ v, e = .returned v ∧ IsRow w1.heap.size ys v w2) ∧ Below w1.heap.size w1 w2) :
    Calls Try.prog 14 #[.string S] w fun e w' => (∃ v, e = .returned (.tuple #[v, .int .i64 0]) ∧ IsRow w.heap.size ys v w') ∧ Below w.heap.size w w' := by
  have hmf : ∀ (fn : Fn) (first cap : Array Value) (w : World), (Instr.makeFunc fn first cap).run Try.prog w = .ok (.func fn first cap) w := fun _ _ _ _ => rfl
  have he : ∀ args w, (callFunc 29 args).run Try.prog w = .ok (.enter 29 args) w := fun args w => enters_of Try.func29 (by kernel_rfl) rfl args w
  have k2 := kept_ok 29 #[.pointer (some ⟨w.heap.size, 0, none⟩)] ys (w.alloc (.cells #[.string S] 9)) he fun w1 hb => k1 w1 ((hb.block _ (by simp)).trans (heap_alloc_new w _))
  clear k1 he
  go_enter Try.func14, Try.ntmps14
  go_wp2_with (first
    | (go_at_call 23; refine k2.mono ?_; rintro e w1 ⟨⟨v, rfl, hrow⟩, hb1⟩))
  exact bodyPost_ret (results_tmp2 rfl _ _ _) rfl ⟨⟨v, rfl, owns_base hrow (by simp)⟩, ((Below.refl _ w).alloc (Nat.le_refl _) _).trans (hb1.mono (by simp))⟩
/-- A text's own tree. -/
theorem lit_any (l : List UInt8) (w : World) (hl : l.length ≤ 1000) :
    Calls Try.prog 14 #[.string ⟨l.toArray⟩] w fun e w' => (∃ v, e = .returned (.tuple #[v, .int .i64 0]) ∧ IsRow w.heap.size ((litT l).row 0) v w') ∧ Below w.heap.size w w' := by
  refine lit_walk ⟨l.toArray⟩ _ w fun w1 hq => ?_
  by_cases h0 : l.length = 0
  · obtain rfl := List.eq_nil_of_length_eq_zero h0
    exact lit1_empty _ w1 hq
  · have h := lit1_full l _ rfl _ w1 (by omega) hl (by
      cases l with
      | nil => exact absurd rfl h0
      | cons c l => exact list_full c l) hq
    have e : litR l l.length = (litT l).row 0 := by
      unfold litR litT
      rw [if_neg h0, if_neg h0]
    rwa [e] at h
end Go.Proofs.Ytgokkdalfkinnaa
