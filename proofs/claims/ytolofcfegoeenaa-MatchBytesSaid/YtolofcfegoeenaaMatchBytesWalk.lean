/- MatchBytes: a class alone stands from a byte of it to the next place, and nowhere else; the beginning and the end stand at theirs. No condition. -/
import Derived.Test.YtolofcfegoeenaaMaShown
import Derived.Test.YtolofcfegoeenaaClsRefHas
namespace Go.Proofs.Ytolofcfegoeenaa
open Go.RowKit Go.Lib

theorem filter_one (n p : Nat) (hp : p < n) : (List.range n).filter (fun b => b == p) = [p] := by
  induction n with
  | zero => omega
  | succ n ih =>
    rw [List.range_succ, List.filter_append]
    by_cases h : p = n
    · subst h
      have : (List.range p).filter (fun b => b == p) = [] := by
        apply List.filter_eq_nil_iff.2
        intro b hb
        have := List.mem_range.1 hb
        simp; omega
      rw [this]; simp
    · rw [ih (by omega)]
      have : ¬ n = p := fun e => h e.symm
      simp [this]
theorem filter_is {n p : Nat} {P : Nat → Prop} {hdec : ∀ b, Decidable (P b)} (hp : p < n) (h : ∀ b, P b ↔ b = p) : (List.range n).filter (fun b => decide (P b)) = [p] := by
  rw [← filter_one n p hp]
  apply List.filter_congr
  intro b _
  by_cases hb : b = p
  · rw [decide_eq_true ((h b).2 hb)]; simp [hb]
  · rw [decide_eq_false (fun g => hb ((h b).1 g))]; simp [hb]
theorem filter_no {n : Nat} {P : Nat → Prop} {hdec : ∀ b, Decidable (P b)} (h : ∀ b, b < n → ¬ P b) : (List.range n).filter (fun b => decide (P b)) = [] := by
  apply List.filter_eq_nil_iff.2
  intro b hb
  have := h b (List.mem_range.1 hb)
  simp [this]
/-- Where a class alone ends. -/
theorem ends_set (s : List UInt8) (k : K4) (a : Int) : (endsL s (.set k) a = [] ∧ ¬ (0 ≤ a ∧ a < (s.length : Int) ∧ inSet s k a.toNat = true)) ∨ (endsL s (.set k) a = [a.toNat + 1] ∧ 0 ≤ a ∧ a < (s.length : Int) ∧ inSet s k a.toNat = true) := by
  by_cases h : 0 ≤ a ∧ a < (s.length : Int) ∧ inSet s k a.toNat = true
  · right
    refine ⟨?_, h⟩
    unfold endsL
    rw [if_neg (by omega)]
    exact filter_is (by omega) (fun b => ⟨fun g => g.1, fun g => ⟨g, h.2.2⟩⟩)
  · left
    refine ⟨?_, h⟩
    unfold endsL
    split
    · rfl
    · refine filter_no fun b hb hs => ?_
      have h2 : b = a.toNat + 1 ∧ inSet s k a.toNat = true := hs
      have := inSet_lt h2.2
      exact h ⟨by omega, by omega, h2.2⟩
theorem ends_begin (s : List UInt8) (a : Int) : ((endsL s (.leaf 7) a).length == 1) = (a == 0) := by
  by_cases h : a = 0
  · subst h
    have : endsL s (.leaf 7) 0 = [0] := by
      unfold endsL
      rw [if_neg (by omega)]
      exact filter_is (by omega) (fun b => ⟨fun g => g.1.symm, fun g => ⟨g.symm, fun _ => rfl, fun g => by omega⟩⟩)
    rw [this]; rfl
  · have : endsL s (.leaf 7) a = [] := by
      unfold endsL
      split
      · rfl
      · exact filter_no fun b hb hs => by have h2 : a.toNat = b ∧ (7 = 7 → a.toNat = 0) ∧ (7 = 8 → a.toNat = s.length) := hs; have := h2.2.1 rfl; omega
    rw [this]
    simp [h]
theorem ends_end (s : List UInt8) (a : Int) : ((endsL s (.leaf 8) a).length == 1) = (a == (s.length : Int)) := by
  by_cases h : a = (s.length : Int)
  · subst h
    have : endsL s (.leaf 8) (s.length : Int) = [s.length] := by
      unfold endsL
      rw [if_neg (by omega)]
      exact filter_is (by omega) (fun b => ⟨fun g => by have h2 : (s.length : Int).toNat = b ∧ _ := g; have := h2.1; omega, fun g => ⟨by omega, fun g => by omega, fun _ => by omega⟩⟩)
    rw [this]; simp
  · have : endsL s (.leaf 8) a = [] := by
      unfold endsL
      split
      · rfl
      · exact filter_no fun b hb hs => by have h2 : a.toNat = b ∧ (8 = 7 → a.toNat = 0) ∧ (8 = 8 → a.toNat = s.length) := hs; have := h2.2.2 rfl; omega
    rw [this]
    simp [h]
theorem lies_new (k : Int) (K : K4) (w : World) : Lies (.slice (some ⟨w.heap.size, 0, none⟩) 1 1) [⟨k, K, 0, 0⟩] (w.alloc (.cells #[.int .i64 k, .int .u64 (K.a.toNat : Int), .int .u64 (K.b.toNat : Int), .int .u64 (K.c.toNat : Int), .int .u64 (K.d.toNat : Int), .int .i64 0, .int .i64 0] 56)) := by
  refine ⟨_, _, rfl, by simp, fun j n hj => ⟨w.heap.size, 0, rfl, by simp, ?_⟩⟩
  have hj0 : j = 0 ∧ n = ⟨k, K, 0, 0⟩ := by
    cases j with
    | zero => exact ⟨rfl, by simpa using hj.symm⟩
    | succ j => simp at hj
  obtain ⟨rfl, rfl⟩ := hj0
  exact node_cells (heap_alloc_new w _)
theorem own_zero {w : World} {B k : Nat} {e : TypeId} {v : Value} {xs : List Value} {n : Nat} (h : w.ownsRow B e k v n xs) : ∃ ao cap, v = .slice ao n cap := by
  rcases h.2 with ⟨hv, h0⟩ | ⟨g, cap, cur, hv, _⟩
  · exact ⟨_, _, by rw [hv, h0]⟩
  · exact ⟨_, _, hv⟩
set_option maxHeartbeats 8000000 in
set_option maxRecDepth 20000 in
theorem matchBytes_in (K : K4) (s : ByteArray) (a : Int) (inn : Bool) (w : World) (hs : s.size ≤ 200) (ha : -9223372036854775808 ≤ a ∧ a ≤ 9223372036854775807)
    (hin : inn = true ↔ (0 ≤ a ∧ a < (s.size : Int) ∧ inSet s.data.toList K a.toNat = true)) :
    Calls Try.prog 9 #[.agg #[.int .u64 (K.a.toNat : Int), .int .u64 (K.b.toNat : Int), .int .u64 (K.c.toNat : Int), .int .u64 (K.d.toNat : Int)], .string s, .int .i64 a] w fun e w' => e = .returned (.bool true) ∧ Below w.heap.size w w' := by
  have hlen : s.data.toList.length = s.size := Array.length_toList
  have hsI : ¬ (200 : Int) < (s.size : Int) := by omega
  have kE : ∀ (T : Tr) (k : Int) (X : K4), T.row 0 = [⟨k, X, 0, 0⟩] → T.ok → ∀ w, Calls Try.prog 25 #[.slice (some ⟨w.heap.size, 0, none⟩) 1 1, .string s, .int .i64 a] (w.alloc (.cells #[.int .i64 k, .int .u64 (X.a.toNat : Int), .int .u64 (X.b.toNat : Int), .int .u64 (X.c.toNat : Int), .int .u64 (X.d.toNat : Int), .int .i64 0, .int .i64 0] 56)) fun e w' => ∃ v', e = .returned v' ∧ w'.ownsRow (w.heap.size + 1) 3 1 v' (endsL s.data.toList T a).length (natsV (endsL s.data.toList T a)) ∧ Below w.heap.size w w' := fun T k X hT hok w => by
    refine (ends_any _ T [⟨k, X, 0, 0⟩] s a _ hT.symm hok (by simp) (by omega) (lies_new k X w)).mono ?_
    rintro e w' ⟨v', h1, h2, h3⟩
    rw [World.size_alloc] at h2 h3
    exact ⟨v', h1, h2, ((Below.refl _ w).alloc (Nat.le_refl _) _).trans (h3.mono (by omega))⟩
  have k1 := kE (.set K) 1 K rfl trivial
  have k2 := kE (.leaf 7) 7 k0 rfl (.inr (.inl rfl))
  have k3 := kE (.leaf 8) 8 k0 rfl (.inr (.inr rfl))
  unfold k0 at k2 k3
  dsimp only at k2 k3
  obtain ⟨n2, hn2⟩ : ∃ n2, n2 = (endsL s.data.toList (.leaf 7) a).length := ⟨_, rfl⟩
  obtain ⟨n3, hn3⟩ : ∃ n3, n3 = (endsL s.data.toList (.leaf 8) a).length := ⟨_, rfl⟩
  rw [← hn2] at k2
  rw [← hn3] at k3
  obtain ⟨x2, hx2⟩ : ∃ x2, x2 = (a == 0) := ⟨_, rfl⟩
  obtain ⟨x3, hx3⟩ : ∃ x3, x3 = (a == (s.size : Int)) := ⟨_, rfl⟩
  have e2 : ((n2 : Int) == 1) = x2 := by
    rw [hx2, ← ends_begin s.data.toList a, ← hn2, Bool.eq_iff_iff]
    simp
    omega
  have e3 : ((n3 : Int) == 1) = x3 := by
    rw [hx3, ← hlen, ← ends_end s.data.toList a, ← hn3, Bool.eq_iff_iff]
    simp
    omega
  have f2 := hx2.symm
  have f3 := hx3.symm
  clear hn2 hn3 kE hx2 hx3
  have ks := fun w => shownM_any w
  have kh : ∀ (m : Nat) (w : World) (b : Bool), m < 256 → has K.cl m = b → Calls Try.prog 31 #[.agg #[.int .u64 (K.a.toNat : Int), .int .u64 (K.b.toNat : Int), .int .u64 (K.c.toNat : Int), .int .u64 (K.d.toNat : Int)], .int .u8 (m : Int)] w fun e w' => e = .returned (.bool b) ∧ Below w.heap.size w w' := fun m w b hm hb => by
    have h := refHas_any K.cl (m : Int) w (by omega) (by omega)
    rwa [Int.toNat_natCast, hb] at h
  have hE := ends_set s.data.toList K a
  rw [hlen] at hE
  have z0 : (((0 : BitVec 64).toNat : Nat) : Int) = 0 := rfl
  rw [z0] at k2 k3
  clear z0
  cases inn with
  | true =>
    obtain ⟨i1, i2, i3⟩ := hin.1 rfl
    rcases hE with ⟨_, hno⟩ | ⟨hE, -⟩
    · exact absurd ⟨i1, i2, i3⟩ hno
    · obtain ⟨p, rfl⟩ : ∃ p : Nat, a = (p : Int) := ⟨a.toNat, by omega⟩
      rw [Int.toNat_natCast] at hE i3
      rw [hE] at k1
      have hp : p < s.size := by omega
      obtain ⟨d, hd⟩ : ∃ d, s[p] = d := ⟨_, rfl⟩
      have kh' := fun w => kh d.toNat w true d.toNat_lt (by rw [← i3]; unfold inSet; rw [at_byte hp, hd])
      have aw : IntKind.i64.wrap ((p : Int) + 1) = ((p + 1 : Nat) : Int) := by rw [IntWalk.i64_in _ (by omega)]; omega
      have hl1 : decide ((0 : Int) ≤ (p : Int)) = true := decide_eq_true i1
      have hl2 : decide ((p : Int) < (s.size : Int)) = true := decide_eq_true i2
      have L1 : ([p + 1] : List Nat).length = 1 := rfl
      rw [L1] at k1
      clear kh hE i3 hin ha hs hlen L1
      go_enter Try.func9, Try.ntmps9
      go_wp2_with (first
        | (go_at_call 20; refine (ks _).mono ?_; rintro e w1 ⟨rfl, hb1⟩
           have hbx : w1.heap[w.heap.size]? = some (.cells #[.int .u64 (K.a.toNat : Int), .int .u64 (K.b.toNat : Int), .int .u64 (K.c.toNat : Int), .int .u64 (K.d.toNat : Int)] 54 (0, 0)) := (hb1.block _ (by simp)).trans (heap_alloc_new w _)
           obtain ⟨⟨c0, c1, c2, c3⟩, -⟩ := res_four hbx
           have hw1 : Below w.heap.size w w1 := ((Below.refl _ w).alloc (Nat.le_refl _) _).trans (hb1.mono (by simp))
           have H1 := Lib.hid (And.intro hbx hw1)
           clear hb1 hbx hw1 ks)
        | (go_at_call 25; with_reducible refine (k1 _).mono ?_; rintro e w2 ⟨v2, rfl, ho2, hb2⟩
           obtain ⟨ao2, cap2, rfl⟩ := own_zero ho2
           have hbx2 : w2.heap[w.heap.size]? = some (.cells #[.int .u64 (K.a.toNat : Int), .int .u64 (K.b.toNat : Int), .int .u64 (K.c.toNat : Int), .int .u64 (K.d.toNat : Int)] 54 (0, 0)) := (hb2.block _ (block_lt H1.out.1)).trans H1.out.1
           have H2 := Lib.hid (And.intro hbx2 (And.intro (H1.out.2.trans (hb2.mono H1.out.2.size)) ho2))
           clear hb2 hbx2 ho2 k1 c0 c1 c2 c3)
        | fail)
      obtain ⟨⟨g0, g1, g2, g3⟩, -⟩ := res_four H2.out.1
      obtain ⟨gr, rfl⟩ : ∃ gr, ao2 = some ⟨gr, 0, none⟩ := by
        obtain ⟨gr, cp, hv⟩ := owned_slice H2.out.2.2 (by decide)
        injection hv with hv
        exact ⟨gr, hv⟩
      have cl := owns_cell H2.out.2.2 (j := 0) rfl
      refine wp_region_held_drew (S := fun W' => W'.cell? ⟨w.heap.size, 0, none⟩ = some (.int .u64 (K.a.toNat : Int)) ∧ W'.cell? ⟨w.heap.size, 1, none⟩ = some (.int .u64 (K.b.toNat : Int)) ∧ W'.cell? ⟨w.heap.size, 2, none⟩ = some (.int .u64 (K.c.toNat : Int)) ∧ W'.cell? ⟨w.heap.size, 3, none⟩ = some (.int .u64 (K.d.toNat : Int))) (by kernel_rfl) ⟨g0, g1, g2, g3⟩ (fun hHeld => ?_)
      refine wpAnyH_take (i := 0) (v := ?_) rfl (by kernel_rfl) (by kernel_rfl) (by kernel_rfl) (fun _ _ _ h => h) ?_ hHeld ?_; rotate_left; · (simp only [List.getElem_toArray, List.getElem_cons_zero]; refine Or.inl ⟨by rfl, ?_⟩; intro w hSw; (try dsimp only at hSw); obtain ⟨s1, s2, s3, s4⟩ := hSw; go_simp; try with_reducible rfl)
      try simp only [List.getElem_toArray, List.getElem_cons_zero, Act.put, List.setIfInBounds_toArray, List.set_cons_zero, List.set_cons_succ]
      refine wpAnyH_take (i := 1) (v := ?_) rfl (by kernel_rfl) (by kernel_rfl) (by kernel_rfl) (fun _ _ _ h => h) ?_ hHeld ?_; rotate_left; · (simp only [List.getElem_toArray, List.getElem_cons_succ, List.getElem_cons_zero]; refine Or.inl ⟨by rfl, ?_⟩; intro w hSw; (try dsimp only at hSw); obtain ⟨s1, s2, s3, s4⟩ := hSw; go_simp; try with_reducible rfl)
      try simp only [List.getElem_toArray, List.getElem_cons_succ, List.getElem_cons_zero, Act.put, List.setIfInBounds_toArray, List.set_cons_zero, List.set_cons_succ]
      refine wpAnyH_take (i := 2) (v := ?_) rfl (by kernel_rfl) (by kernel_rfl) (by kernel_rfl) (fun _ _ _ h => h) ?_ hHeld ?_; rotate_left; · (simp only [List.getElem_toArray, List.getElem_cons_succ, List.getElem_cons_zero]; refine Or.inl ⟨by rfl, ?_⟩; intro w hSw; (try dsimp only at hSw); obtain ⟨s1, s2, s3, s4⟩ := hSw; go_simp; try with_reducible rfl)
      try simp only [List.getElem_toArray, List.getElem_cons_succ, List.getElem_cons_zero, Act.put, List.setIfInBounds_toArray, List.set_cons_zero, List.set_cons_succ]
      refine wpAnyH_take (i := 3) (v := ?_) rfl (by kernel_rfl) (by kernel_rfl) (by kernel_rfl) (fun _ _ _ h => h) ?_ hHeld ?_; rotate_left; · (simp only [List.getElem_toArray, List.getElem_cons_succ, List.getElem_cons_zero]; refine Or.inl ⟨by rfl, ?_⟩; intro w hSw; (try dsimp only at hSw); obtain ⟨s1, s2, s3, s4⟩ := hSw; go_simp; try with_reducible rfl)
      try simp only [List.getElem_toArray, List.getElem_cons_succ, List.getElem_cons_zero, Act.put, List.setIfInBounds_toArray, List.set_cons_zero, List.set_cons_succ]
      refine wpAnyH_take (i := 4) (v := ?_) rfl (by kernel_rfl) (by kernel_rfl) (by kernel_rfl) (fun _ _ _ h => h) ?_ hHeld ?_; rotate_left; · (simp only [List.getElem_toArray, List.getElem_cons_succ, List.getElem_cons_zero]; refine Or.inl ⟨by rfl, ?_⟩; intro w hSw; (try dsimp only at hSw); obtain ⟨s1, s2, s3, s4⟩ := hSw; go_simp; try with_reducible rfl)
      try simp only [List.getElem_toArray, List.getElem_cons_succ, List.getElem_cons_zero, Act.put, List.setIfInBounds_toArray, List.set_cons_zero, List.set_cons_succ]
      refine wpAnyH_take (i := 5) (v := ?_) rfl (by kernel_rfl) (by kernel_rfl) (by kernel_rfl) (fun _ _ _ h => h) ?_ hHeld ?_; rotate_left; · (simp only [List.getElem_toArray, List.getElem_cons_succ, List.getElem_cons_zero]; refine Or.inl ⟨by rfl, ?_⟩; intro w hSw; (try dsimp only at hSw); obtain ⟨s1, s2, s3, s4⟩ := hSw; go_simp; try with_reducible rfl)
      try simp only [List.getElem_toArray, List.getElem_cons_succ, List.getElem_cons_zero, Act.put, List.setIfInBounds_toArray, List.set_cons_zero, List.set_cons_succ]
      refine wpAnyH_take (i := 6) (v := ?_) rfl (by kernel_rfl) (by kernel_rfl) (by kernel_rfl) (fun _ _ _ h => h) ?_ hHeld ?_; rotate_left; · (simp only [List.getElem_toArray, List.getElem_cons_succ, List.getElem_cons_zero]; refine Or.inl ⟨by rfl, ?_⟩; intro w hSw; (try dsimp only at hSw); obtain ⟨s1, s2, s3, s4⟩ := hSw; go_simp; try with_reducible rfl)
      try simp only [List.getElem_toArray, List.getElem_cons_succ, List.getElem_cons_zero, Act.put, List.setIfInBounds_toArray, List.set_cons_zero, List.set_cons_succ]
      refine wpAnyH_take (i := 7) (v := ?_) rfl (by kernel_rfl) (by kernel_rfl) (by kernel_rfl) (fun _ _ _ h => h) ?_ hHeld ?_; rotate_left; · (simp only [List.getElem_toArray, List.getElem_cons_succ, List.getElem_cons_zero]; refine Or.inl ⟨by rfl, ?_⟩; intro w hSw; (try dsimp only at hSw); obtain ⟨s1, s2, s3, s4⟩ := hSw; go_simp; try with_reducible rfl)
      try simp only [List.getElem_toArray, List.getElem_cons_succ, List.getElem_cons_zero, Act.put, List.setIfInBounds_toArray, List.set_cons_zero, List.set_cons_succ]
      refine wpAnyH_take (i := 8) (v := ?_) rfl (by kernel_rfl) (by kernel_rfl) (by kernel_rfl) (fun _ _ _ h => h) ?_ hHeld ?_; rotate_left; · (simp only [List.getElem_toArray, List.getElem_cons_succ, List.getElem_cons_zero]; refine Or.inl ⟨by rfl, ?_⟩; intro w hSw; (try dsimp only at hSw); obtain ⟨s1, s2, s3, s4⟩ := hSw; go_simp; try with_reducible rfl)
      try simp only [List.getElem_toArray, List.getElem_cons_succ, List.getElem_cons_zero, Act.put, List.setIfInBounds_toArray, List.set_cons_zero, List.set_cons_succ]
      refine wpAnyH_take (i := 9) (v := ?_) rfl (by kernel_rfl) (by kernel_rfl) (by kernel_rfl) (fun _ _ _ h => h) ?_ hHeld ?_; rotate_left; · (simp only [List.getElem_toArray, List.getElem_cons_succ, List.getElem_cons_zero]; refine Or.inl ⟨by rfl, ?_⟩; intro w hSw; (try dsimp only at hSw); obtain ⟨s1, s2, s3, s4⟩ := hSw; go_simp; try with_reducible rfl)
      try simp only [List.getElem_toArray, List.getElem_cons_succ, List.getElem_cons_zero, Act.put, List.setIfInBounds_toArray, List.set_cons_zero, List.set_cons_succ]
      refine wpAnyH_take (i := 10) (v := ?_) rfl (by kernel_rfl) (by kernel_rfl) (by kernel_rfl) (fun _ _ _ h => h) ?_ hHeld ?_; rotate_left; · (simp only [List.getElem_toArray, List.getElem_cons_succ, List.getElem_cons_zero]; refine Or.inl ⟨by rfl, ?_⟩; intro w hSw; (try dsimp only at hSw); obtain ⟨s1, s2, s3, s4⟩ := hSw; go_simp; try with_reducible rfl)
      try simp only [List.getElem_toArray, List.getElem_cons_succ, List.getElem_cons_zero, Act.put, List.setIfInBounds_toArray, List.set_cons_zero, List.set_cons_succ]
      refine wpAnyH_take (i := 11) (v := ?_) rfl (by kernel_rfl) (by kernel_rfl) (by kernel_rfl) (fun _ _ _ h => h) ?_ hHeld ?_; rotate_left; · (simp only [List.getElem_toArray, List.getElem_cons_succ, List.getElem_cons_zero]; refine Or.inl ⟨by rfl, ?_⟩; intro w hSw; (try dsimp only at hSw); obtain ⟨s1, s2, s3, s4⟩ := hSw; go_simp; try with_reducible rfl)
      try simp only [List.getElem_toArray, List.getElem_cons_succ, List.getElem_cons_zero, Act.put, List.setIfInBounds_toArray, List.set_cons_zero, List.set_cons_succ]
      refine wpAnyH_take (i := 12) (v := ?_) rfl (by kernel_rfl) (by kernel_rfl) (by kernel_rfl) (fun _ _ _ h => h) ?_ hHeld ?_; rotate_left; · (simp only [List.getElem_toArray, List.getElem_cons_succ, List.getElem_cons_zero]; refine Or.inl ⟨by rfl, ?_⟩; intro w hSw; (try dsimp only at hSw); obtain ⟨s1, s2, s3, s4⟩ := hSw; go_simp; try with_reducible rfl)
      try simp only [List.getElem_toArray, List.getElem_cons_succ, List.getElem_cons_zero, Act.put, List.setIfInBounds_toArray, List.set_cons_zero, List.set_cons_succ]
      refine wpAnyH_ready (rs := [13]) (by kernel_rfl) (by simp) ?_
      refine AllReadyH.cons rfl (fun K' hK => ?_) AllReadyH.nil
      simp only [List.getElem_toArray, List.getElem_cons_succ, List.getElem_cons_zero]
      rw [if_pos (by rfl)]
      go_simp
      (go_at_call 31; refine (kh' _).mono ?_; rintro e w3 ⟨rfl, hb3⟩)
      have hb3' : Below w2.heap.size w2 w3 := (Below.refl _ w2).drew.trans hb3
      refine hK.out _ _ ⟨cell_kept hb3' g0, cell_kept hb3' g1, cell_kept hb3' g2, cell_kept hb3' g3⟩ (fun hHeld2 => ?_)
      clear hHeld hK K' hb3
      have hHeld := hHeld2
      clear hHeld2
      try simp only [List.getElem_toArray, List.getElem_cons_succ, List.getElem_cons_zero, Act.put, List.setIfInBounds_toArray, List.set_cons_zero, List.set_cons_succ]
      refine wpAnyH_take (i := 14) (v := ?_) rfl (by kernel_rfl) (by kernel_rfl) (by kernel_rfl) (fun _ _ _ h => h) ?_ hHeld ?_; rotate_left; · (simp only [List.getElem_toArray, List.getElem_cons_succ, List.getElem_cons_zero]; refine Or.inl ⟨by rfl, ?_⟩; intro w hSw; (try dsimp only at hSw); obtain ⟨s1, s2, s3, s4⟩ := hSw; go_simp; try with_reducible rfl)
      try simp only [List.getElem_toArray, List.getElem_cons_succ, List.getElem_cons_zero, Act.put, List.setIfInBounds_toArray, List.set_cons_zero, List.set_cons_succ]
      refine wpAnyH_take (i := 15) (v := ?_) rfl (by kernel_rfl) (by kernel_rfl) (by kernel_rfl) (fun _ _ _ h => h) ?_ hHeld ?_; rotate_left; · (simp only [List.getElem_toArray, List.getElem_cons_succ, List.getElem_cons_zero]; refine Or.inl ⟨by rfl, ?_⟩; intro w hSw; (try dsimp only at hSw); obtain ⟨s1, s2, s3, s4⟩ := hSw; go_simp; try with_reducible rfl)
      try simp only [List.getElem_toArray, List.getElem_cons_succ, List.getElem_cons_zero, Act.put, List.setIfInBounds_toArray, List.set_cons_zero, List.set_cons_succ]
      refine wpAnyH_done (by kernel_rfl) ?_ _
      have H3 := Lib.hid (H2.out.2.1.trans (hb3'.mono H2.out.2.1.size))
      have cl3 := cell_kept hb3' cl
      clear cl
      clear hHeld hb3' g0 g1 g2 g3
      go_wp2_with (first
        | (go_at_call 25; first
            | (with_reducible refine (k2 _).mono ?_; rintro e w4 ⟨v4, rfl, ho4, hb4⟩
               obtain ⟨ao4, cap4, rfl⟩ := own_zero ho4
               have H4 := Lib.hid (H3.out.trans (hb4.mono H3.out.size))
               have cl4 := cell_kept hb4 cl3
               clear hb4 ho4 k2)
            | (with_reducible refine (k3 _).mono ?_; rintro e w5 ⟨v5, rfl, ho5, hb5⟩
               obtain ⟨ao5, cap5, rfl⟩ := own_zero ho5
               have H5 := Lib.hid (H4.out.trans (hb5.mono H4.out.size))
               have cl5 := cell_kept hb5 cl4
               clear hb5 ho5 k3))
        | fail)
      exact bodyPost_ret (results_tmp rfl _ _ _) rfl ⟨by simp, H5.out⟩
  | false =>
    have hno : ¬ (0 ≤ a ∧ a < (s.size : Int) ∧ inSet s.data.toList K a.toNat = true) := fun h => by have := hin.2 h; cases this
    have hE : endsL s.data.toList (.set K) a = [] := by
      rcases hE with ⟨h, _⟩ | ⟨_, h⟩
      · exact h
      · exact absurd h hno
    rw [hE] at k1
    have L0 : ([] : List Nat).length = 0 := rfl
    rw [L0] at k1
    clear L0 hE
    by_cases h1 : 0 ≤ a
    · by_cases h2 : a < (s.size : Int)
      · obtain ⟨p, rfl⟩ : ∃ p : Nat, a = (p : Int) := ⟨a.toNat, by omega⟩
        have hp : p < s.size := by omega
        obtain ⟨d, hd⟩ : ∃ d, s[p] = d := ⟨_, rfl⟩
        have hf : inSet s.data.toList K p = false := by
          cases h : inSet s.data.toList K p with
          | false => rfl
          | true => exact absurd ⟨h1, h2, by rw [Int.toNat_natCast]; exact h⟩ hno
        have kh' := fun w => kh d.toNat w false d.toNat_lt (by rw [← hf]; unfold inSet; rw [at_byte hp, hd])
        have hl1 : decide ((0 : Int) ≤ (p : Int)) = true := decide_eq_true h1
        have hl2 : decide ((p : Int) < (s.size : Int)) = true := decide_eq_true h2
        clear kh hno hin ha hs hlen hf
        go_enter Try.func9, Try.ntmps9
        go_wp2_with (first
          | (go_at_call 20; refine (ks _).mono ?_; rintro e w1 ⟨rfl, hb1⟩
             have hbx : w1.heap[w.heap.size]? = some (.cells #[.int .u64 (K.a.toNat : Int), .int .u64 (K.b.toNat : Int), .int .u64 (K.c.toNat : Int), .int .u64 (K.d.toNat : Int)] 54 (0, 0)) := (hb1.block _ (by simp)).trans (heap_alloc_new w _)
             obtain ⟨⟨c0, c1, c2, c3⟩, -⟩ := res_four hbx
             have hw1 : Below w.heap.size w w1 := ((Below.refl _ w).alloc (Nat.le_refl _) _).trans (hb1.mono (by simp))
             have H1 := Lib.hid (And.intro hbx hw1)
             clear hb1 hbx hw1 ks)
          | (go_at_call 25; with_reducible refine (k1 _).mono ?_; rintro e w2 ⟨v2, rfl, ho2, hb2⟩
             obtain ⟨ao2, cap2, rfl⟩ := own_zero ho2
             have hbx2 : w2.heap[w.heap.size]? = some (.cells #[.int .u64 (K.a.toNat : Int), .int .u64 (K.b.toNat : Int), .int .u64 (K.c.toNat : Int), .int .u64 (K.d.toNat : Int)] 54 (0, 0)) := (hb2.block _ (block_lt H1.out.1)).trans H1.out.1
             have H2 := Lib.hid (And.intro hbx2 (And.intro (H1.out.2.trans (hb2.mono H1.out.2.size)) ho2))
             clear hb2 hbx2 ho2 k1 c0 c1 c2 c3)
          | fail)
        obtain ⟨⟨g0, g1, g2, g3⟩, -⟩ := res_four H2.out.1
        refine wp_region_held_drew (S := fun W' => W'.cell? ⟨w.heap.size, 0, none⟩ = some (.int .u64 (K.a.toNat : Int)) ∧ W'.cell? ⟨w.heap.size, 1, none⟩ = some (.int .u64 (K.b.toNat : Int)) ∧ W'.cell? ⟨w.heap.size, 2, none⟩ = some (.int .u64 (K.c.toNat : Int)) ∧ W'.cell? ⟨w.heap.size, 3, none⟩ = some (.int .u64 (K.d.toNat : Int))) (by kernel_rfl) ⟨g0, g1, g2, g3⟩ (fun hHeld => ?_)
        refine wpAnyH_take (i := 0) (v := ?_) rfl (by kernel_rfl) (by kernel_rfl) (by kernel_rfl) (fun _ _ _ h => h) ?_ hHeld ?_; rotate_left; · (simp only [List.getElem_toArray, List.getElem_cons_zero]; refine Or.inl ⟨by rfl, ?_⟩; intro w hSw; (try dsimp only at hSw); obtain ⟨s1, s2, s3, s4⟩ := hSw; go_simp; try with_reducible rfl)
        try simp only [List.getElem_toArray, List.getElem_cons_zero, Act.put, List.setIfInBounds_toArray, List.set_cons_zero, List.set_cons_succ]
        refine wpAnyH_take (i := 1) (v := ?_) rfl (by kernel_rfl) (by kernel_rfl) (by kernel_rfl) (fun _ _ _ h => h) ?_ hHeld ?_; rotate_left; · (simp only [List.getElem_toArray, List.getElem_cons_succ, List.getElem_cons_zero]; refine Or.inl ⟨by rfl, ?_⟩; intro w hSw; (try dsimp only at hSw); obtain ⟨s1, s2, s3, s4⟩ := hSw; go_simp; try with_reducible rfl)
        try simp only [List.getElem_toArray, List.getElem_cons_succ, List.getElem_cons_zero, Act.put, List.setIfInBounds_toArray, List.set_cons_zero, List.set_cons_succ]
        refine wpAnyH_take (i := 2) (v := ?_) rfl (by kernel_rfl) (by kernel_rfl) (by kernel_rfl) (fun _ _ _ h => h) ?_ hHeld ?_; rotate_left; · (simp only [List.getElem_toArray, List.getElem_cons_succ, List.getElem_cons_zero]; refine Or.inl ⟨by rfl, ?_⟩; intro w hSw; (try dsimp only at hSw); obtain ⟨s1, s2, s3, s4⟩ := hSw; go_simp; try with_reducible rfl)
        try simp only [List.getElem_toArray, List.getElem_cons_succ, List.getElem_cons_zero, Act.put, List.setIfInBounds_toArray, List.set_cons_zero, List.set_cons_succ]
        refine wpAnyH_take (i := 3) (v := ?_) rfl (by kernel_rfl) (by kernel_rfl) (by kernel_rfl) (fun _ _ _ h => h) ?_ hHeld ?_; rotate_left; · (simp only [List.getElem_toArray, List.getElem_cons_succ, List.getElem_cons_zero]; refine Or.inl ⟨by rfl, ?_⟩; intro w hSw; (try dsimp only at hSw); obtain ⟨s1, s2, s3, s4⟩ := hSw; go_simp; try with_reducible rfl)
        try simp only [List.getElem_toArray, List.getElem_cons_succ, List.getElem_cons_zero, Act.put, List.setIfInBounds_toArray, List.set_cons_zero, List.set_cons_succ]
        refine wpAnyH_take (i := 4) (v := ?_) rfl (by kernel_rfl) (by kernel_rfl) (by kernel_rfl) (fun _ _ _ h => h) ?_ hHeld ?_; rotate_left; · (simp only [List.getElem_toArray, List.getElem_cons_succ, List.getElem_cons_zero]; refine Or.inl ⟨by rfl, ?_⟩; intro w hSw; (try dsimp only at hSw); obtain ⟨s1, s2, s3, s4⟩ := hSw; go_simp; try with_reducible rfl)
        try simp only [List.getElem_toArray, List.getElem_cons_succ, List.getElem_cons_zero, Act.put, List.setIfInBounds_toArray, List.set_cons_zero, List.set_cons_succ]
        refine wpAnyH_take (i := 5) (v := ?_) rfl (by kernel_rfl) (by kernel_rfl) (by kernel_rfl) (fun _ _ _ h => h) ?_ hHeld ?_; rotate_left; · (simp only [List.getElem_toArray, List.getElem_cons_succ, List.getElem_cons_zero]; refine Or.inl ⟨by rfl, ?_⟩; intro w hSw; (try dsimp only at hSw); obtain ⟨s1, s2, s3, s4⟩ := hSw; go_simp; try with_reducible rfl)
        try simp only [List.getElem_toArray, List.getElem_cons_succ, List.getElem_cons_zero, Act.put, List.setIfInBounds_toArray, List.set_cons_zero, List.set_cons_succ]
        refine wpAnyH_take (i := 6) (v := ?_) rfl (by kernel_rfl) (by kernel_rfl) (by kernel_rfl) (fun _ _ _ h => h) ?_ hHeld ?_; rotate_left; · (simp only [List.getElem_toArray, List.getElem_cons_succ, List.getElem_cons_zero]; refine Or.inl ⟨by rfl, ?_⟩; intro w hSw; (try dsimp only at hSw); obtain ⟨s1, s2, s3, s4⟩ := hSw; go_simp; try with_reducible rfl)
        try simp only [List.getElem_toArray, List.getElem_cons_succ, List.getElem_cons_zero, Act.put, List.setIfInBounds_toArray, List.set_cons_zero, List.set_cons_succ]
        refine wpAnyH_take (i := 7) (v := ?_) rfl (by kernel_rfl) (by kernel_rfl) (by kernel_rfl) (fun _ _ _ h => h) ?_ hHeld ?_; rotate_left; · (simp only [List.getElem_toArray, List.getElem_cons_succ, List.getElem_cons_zero]; refine Or.inl ⟨by rfl, ?_⟩; intro w hSw; (try dsimp only at hSw); obtain ⟨s1, s2, s3, s4⟩ := hSw; go_simp; try with_reducible rfl)
        try simp only [List.getElem_toArray, List.getElem_cons_succ, List.getElem_cons_zero, Act.put, List.setIfInBounds_toArray, List.set_cons_zero, List.set_cons_succ]
        refine wpAnyH_take (i := 8) (v := ?_) rfl (by kernel_rfl) (by kernel_rfl) (by kernel_rfl) (fun _ _ _ h => h) ?_ hHeld ?_; rotate_left; · (simp only [List.getElem_toArray, List.getElem_cons_succ, List.getElem_cons_zero]; refine Or.inl ⟨by rfl, ?_⟩; intro w hSw; (try dsimp only at hSw); obtain ⟨s1, s2, s3, s4⟩ := hSw; go_simp; try with_reducible rfl)
        try simp only [List.getElem_toArray, List.getElem_cons_succ, List.getElem_cons_zero, Act.put, List.setIfInBounds_toArray, List.set_cons_zero, List.set_cons_succ]
        refine wpAnyH_take (i := 9) (v := ?_) rfl (by kernel_rfl) (by kernel_rfl) (by kernel_rfl) (fun _ _ _ h => h) ?_ hHeld ?_; rotate_left; · (simp only [List.getElem_toArray, List.getElem_cons_succ, List.getElem_cons_zero]; refine Or.inl ⟨by rfl, ?_⟩; intro w hSw; (try dsimp only at hSw); obtain ⟨s1, s2, s3, s4⟩ := hSw; go_simp; try with_reducible rfl)
        try simp only [List.getElem_toArray, List.getElem_cons_succ, List.getElem_cons_zero, Act.put, List.setIfInBounds_toArray, List.set_cons_zero, List.set_cons_succ]
        refine wpAnyH_take (i := 10) (v := ?_) rfl (by kernel_rfl) (by kernel_rfl) (by kernel_rfl) (fun _ _ _ h => h) ?_ hHeld ?_; rotate_left; · (simp only [List.getElem_toArray, List.getElem_cons_succ, List.getElem_cons_zero]; refine Or.inl ⟨by rfl, ?_⟩; intro w hSw; (try dsimp only at hSw); obtain ⟨s1, s2, s3, s4⟩ := hSw; go_simp; try with_reducible rfl)
        try simp only [List.getElem_toArray, List.getElem_cons_succ, List.getElem_cons_zero, Act.put, List.setIfInBounds_toArray, List.set_cons_zero, List.set_cons_succ]
        refine wpAnyH_take (i := 11) (v := ?_) rfl (by kernel_rfl) (by kernel_rfl) (by kernel_rfl) (fun _ _ _ h => h) ?_ hHeld ?_; rotate_left; · (simp only [List.getElem_toArray, List.getElem_cons_succ, List.getElem_cons_zero]; refine Or.inl ⟨by rfl, ?_⟩; intro w hSw; (try dsimp only at hSw); obtain ⟨s1, s2, s3, s4⟩ := hSw; go_simp; try with_reducible rfl)
        try simp only [List.getElem_toArray, List.getElem_cons_succ, List.getElem_cons_zero, Act.put, List.setIfInBounds_toArray, List.set_cons_zero, List.set_cons_succ]
        refine wpAnyH_take (i := 12) (v := ?_) rfl (by kernel_rfl) (by kernel_rfl) (by kernel_rfl) (fun _ _ _ h => h) ?_ hHeld ?_; rotate_left; · (simp only [List.getElem_toArray, List.getElem_cons_succ, List.getElem_cons_zero]; refine Or.inl ⟨by rfl, ?_⟩; intro w hSw; (try dsimp only at hSw); obtain ⟨s1, s2, s3, s4⟩ := hSw; go_simp; try with_reducible rfl)
        try simp only [List.getElem_toArray, List.getElem_cons_succ, List.getElem_cons_zero, Act.put, List.setIfInBounds_toArray, List.set_cons_zero, List.set_cons_succ]
        refine wpAnyH_ready (rs := [13]) (by kernel_rfl) (by simp) ?_
        refine AllReadyH.cons rfl (fun K' hK => ?_) AllReadyH.nil
        simp only [List.getElem_toArray, List.getElem_cons_succ, List.getElem_cons_zero]
        rw [if_pos (by rfl)]
        go_simp
        (go_at_call 31; refine (kh' _).mono ?_; rintro e w3 ⟨rfl, hb3⟩)
        have hb3' : Below w2.heap.size w2 w3 := (Below.refl _ w2).drew.trans hb3
        refine hK.out _ _ ⟨cell_kept hb3' g0, cell_kept hb3' g1, cell_kept hb3' g2, cell_kept hb3' g3⟩ (fun hHeld2 => ?_)
        clear hHeld hK K' hb3
        have hHeld := hHeld2
        clear hHeld2
        try simp only [List.getElem_toArray, List.getElem_cons_succ, List.getElem_cons_zero, Act.put, List.setIfInBounds_toArray, List.set_cons_zero, List.set_cons_succ]
        refine wpAnyH_take (i := 14) (v := ?_) rfl (by kernel_rfl) (by kernel_rfl) (by kernel_rfl) (fun _ _ _ h => h) ?_ hHeld ?_; rotate_left; · (simp only [List.getElem_toArray, List.getElem_cons_succ, List.getElem_cons_zero]; refine Or.inl ⟨by rfl, ?_⟩; intro w hSw; (try dsimp only at hSw); obtain ⟨s1, s2, s3, s4⟩ := hSw; go_simp; try with_reducible rfl)
        try simp only [List.getElem_toArray, List.getElem_cons_succ, List.getElem_cons_zero, Act.put, List.setIfInBounds_toArray, List.set_cons_zero, List.set_cons_succ]
        refine wpAnyH_take (i := 15) (v := ?_) rfl (by kernel_rfl) (by kernel_rfl) (by kernel_rfl) (fun _ _ _ h => h) ?_ hHeld ?_; rotate_left; · (simp only [List.getElem_toArray, List.getElem_cons_succ, List.getElem_cons_zero]; refine Or.inl ⟨by rfl, ?_⟩; intro w hSw; (try dsimp only at hSw); obtain ⟨s1, s2, s3, s4⟩ := hSw; go_simp; try with_reducible rfl)
        try simp only [List.getElem_toArray, List.getElem_cons_succ, List.getElem_cons_zero, Act.put, List.setIfInBounds_toArray, List.set_cons_zero, List.set_cons_succ]
        refine wpAnyH_done (by kernel_rfl) ?_ _
        have H3 := Lib.hid (H2.out.2.1.trans (hb3'.mono H2.out.2.1.size))
        clear hHeld hb3' g0 g1 g2 g3
        go_wp2_with (first
          | (go_at_call 25; first
              | (with_reducible refine (k2 _).mono ?_; rintro e w4 ⟨v4, rfl, ho4, hb4⟩
                 obtain ⟨ao4, cap4, rfl⟩ := own_zero ho4
                 have H4 := Lib.hid (H3.out.trans (hb4.mono H3.out.size))
                 skip
                 clear hb4 ho4 k2)
              | (with_reducible refine (k3 _).mono ?_; rintro e w5 ⟨v5, rfl, ho5, hb5⟩
                 obtain ⟨ao5, cap5, rfl⟩ := own_zero ho5
                 have H5 := Lib.hid (H4.out.trans (hb5.mono H4.out.size))
                 skip
                 clear hb5 ho5 k3))
          | fail)
        exact bodyPost_ret (results_tmp rfl _ _ _) rfl ⟨by simp, H5.out⟩
      · have hl1 : decide ((0 : Int) ≤ a) = true := decide_eq_true h1
        have hl2 : decide (a < (s.size : Int)) = false := decide_eq_false h2
        clear kh hno hin ha hs hlen
        go_enter Try.func9, Try.ntmps9
        go_wp2_with (first
          | (go_at_call 20; refine (ks _).mono ?_; rintro e w1 ⟨rfl, hb1⟩
             have hbx : w1.heap[w.heap.size]? = some (.cells #[.int .u64 (K.a.toNat : Int), .int .u64 (K.b.toNat : Int), .int .u64 (K.c.toNat : Int), .int .u64 (K.d.toNat : Int)] 54 (0, 0)) := (hb1.block _ (by simp)).trans (heap_alloc_new w _)
             obtain ⟨⟨c0, c1, c2, c3⟩, -⟩ := res_four hbx
             have hw1 : Below w.heap.size w w1 := ((Below.refl _ w).alloc (Nat.le_refl _) _).trans (hb1.mono (by simp))
             have H1 := Lib.hid (And.intro hbx hw1)
             clear hb1 hbx hw1 ks)
          | (go_at_call 25; with_reducible refine (k1 _).mono ?_; rintro e w2 ⟨v2, rfl, ho2, hb2⟩
             obtain ⟨ao2, cap2, rfl⟩ := own_zero ho2
             have hbx2 : w2.heap[w.heap.size]? = some (.cells #[.int .u64 (K.a.toNat : Int), .int .u64 (K.b.toNat : Int), .int .u64 (K.c.toNat : Int), .int .u64 (K.d.toNat : Int)] 54 (0, 0)) := (hb2.block _ (block_lt H1.out.1)).trans H1.out.1
             have H2 := Lib.hid (And.intro hbx2 (And.intro (H1.out.2.trans (hb2.mono H1.out.2.size)) ho2))
             clear hb2 hbx2 ho2 k1 c0 c1 c2 c3)
          | fail)
        obtain ⟨⟨g0, g1, g2, g3⟩, -⟩ := res_four H2.out.1
        refine wp_region_held_drew (S := fun W' => W'.cell? ⟨w.heap.size, 0, none⟩ = some (.int .u64 (K.a.toNat : Int)) ∧ W'.cell? ⟨w.heap.size, 1, none⟩ = some (.int .u64 (K.b.toNat : Int)) ∧ W'.cell? ⟨w.heap.size, 2, none⟩ = some (.int .u64 (K.c.toNat : Int)) ∧ W'.cell? ⟨w.heap.size, 3, none⟩ = some (.int .u64 (K.d.toNat : Int))) (by kernel_rfl) ⟨g0, g1, g2, g3⟩ (fun hHeld => ?_)
        refine wpAnyH_take (i := 0) (v := ?_) rfl (by kernel_rfl) (by kernel_rfl) (by kernel_rfl) (fun _ _ _ h => h) ?_ hHeld ?_; rotate_left; · (simp only [List.getElem_toArray, List.getElem_cons_zero]; refine Or.inl ⟨by rfl, ?_⟩; intro w hSw; (try dsimp only at hSw); obtain ⟨s1, s2, s3, s4⟩ := hSw; go_simp; try with_reducible rfl)
        try simp only [List.getElem_toArray, List.getElem_cons_zero, Act.put, List.setIfInBounds_toArray, List.set_cons_zero, List.set_cons_succ]
        refine wpAnyH_take (i := 1) (v := ?_) rfl (by kernel_rfl) (by kernel_rfl) (by kernel_rfl) (fun _ _ _ h => h) ?_ hHeld ?_; rotate_left; · (simp only [List.getElem_toArray, List.getElem_cons_succ, List.getElem_cons_zero]; refine Or.inl ⟨by rfl, ?_⟩; intro w hSw; (try dsimp only at hSw); obtain ⟨s1, s2, s3, s4⟩ := hSw; go_simp; try with_reducible rfl)
        try simp only [List.getElem_toArray, List.getElem_cons_succ, List.getElem_cons_zero, Act.put, List.setIfInBounds_toArray, List.set_cons_zero, List.set_cons_succ]
        refine wpAnyH_take (i := 2) (v := ?_) rfl (by kernel_rfl) (by kernel_rfl) (by kernel_rfl) (fun _ _ _ h => h) ?_ hHeld ?_; rotate_left; · (simp only [List.getElem_toArray, List.getElem_cons_succ, List.getElem_cons_zero]; refine Or.inl ⟨by rfl, ?_⟩; intro w hSw; (try dsimp only at hSw); obtain ⟨s1, s2, s3, s4⟩ := hSw; go_simp; try with_reducible rfl)
        try simp only [List.getElem_toArray, List.getElem_cons_succ, List.getElem_cons_zero, Act.put, List.setIfInBounds_toArray, List.set_cons_zero, List.set_cons_succ]
        refine wpAnyH_take (i := 3) (v := ?_) rfl (by kernel_rfl) (by kernel_rfl) (by kernel_rfl) (fun _ _ _ h => h) ?_ hHeld ?_; rotate_left; · (simp only [List.getElem_toArray, List.getElem_cons_succ, List.getElem_cons_zero]; refine Or.inl ⟨by rfl, ?_⟩; intro w hSw; (try dsimp only at hSw); obtain ⟨s1, s2, s3, s4⟩ := hSw; go_simp; try with_reducible rfl)
        try simp only [List.getElem_toArray, List.getElem_cons_succ, List.getElem_cons_zero, Act.put, List.setIfInBounds_toArray, List.set_cons_zero, List.set_cons_succ]
        refine wpAnyH_take (i := 4) (v := ?_) rfl (by kernel_rfl) (by kernel_rfl) (by kernel_rfl) (fun _ _ _ h => h) ?_ hHeld ?_; rotate_left; · (simp only [List.getElem_toArray, List.getElem_cons_succ, List.getElem_cons_zero]; refine Or.inl ⟨by rfl, ?_⟩; intro w hSw; (try dsimp only at hSw); obtain ⟨s1, s2, s3, s4⟩ := hSw; go_simp; try with_reducible rfl)
        try simp only [List.getElem_toArray, List.getElem_cons_succ, List.getElem_cons_zero, Act.put, List.setIfInBounds_toArray, List.set_cons_zero, List.set_cons_succ]
        refine wpAnyH_take (i := 5) (v := ?_) rfl (by kernel_rfl) (by kernel_rfl) (by kernel_rfl) (fun _ _ _ h => h) ?_ hHeld ?_; rotate_left; · (simp only [List.getElem_toArray, List.getElem_cons_succ, List.getElem_cons_zero]; refine Or.inl ⟨by rfl, ?_⟩; intro w hSw; (try dsimp only at hSw); obtain ⟨s1, s2, s3, s4⟩ := hSw; go_simp; try with_reducible rfl)
        try simp only [List.getElem_toArray, List.getElem_cons_succ, List.getElem_cons_zero, Act.put, List.setIfInBounds_toArray, List.set_cons_zero, List.set_cons_succ]
        refine wpAnyH_take (i := 6) (v := ?_) rfl (by kernel_rfl) (by kernel_rfl) (by kernel_rfl) (fun _ _ _ h => h) ?_ hHeld ?_; rotate_left; · (simp only [List.getElem_toArray, List.getElem_cons_succ, List.getElem_cons_zero]; refine Or.inl ⟨by rfl, ?_⟩; intro w hSw; (try dsimp only at hSw); obtain ⟨s1, s2, s3, s4⟩ := hSw; go_simp; try with_reducible rfl)
        try simp only [List.getElem_toArray, List.getElem_cons_succ, List.getElem_cons_zero, Act.put, List.setIfInBounds_toArray, List.set_cons_zero, List.set_cons_succ]
        refine wpAnyH_take (i := 7) (v := ?_) rfl (by kernel_rfl) (by kernel_rfl) (by kernel_rfl) (fun _ _ _ h => h) ?_ hHeld ?_; rotate_left; · (simp only [List.getElem_toArray, List.getElem_cons_succ, List.getElem_cons_zero]; refine Or.inl ⟨by rfl, ?_⟩; intro w hSw; (try dsimp only at hSw); obtain ⟨s1, s2, s3, s4⟩ := hSw; go_simp; try with_reducible rfl)
        try simp only [List.getElem_toArray, List.getElem_cons_succ, List.getElem_cons_zero, Act.put, List.setIfInBounds_toArray, List.set_cons_zero, List.set_cons_succ]
        refine wpAnyH_take (i := 8) (v := ?_) rfl (by kernel_rfl) (by kernel_rfl) (by kernel_rfl) (fun _ _ _ h => h) ?_ hHeld ?_; rotate_left; · (simp only [List.getElem_toArray, List.getElem_cons_succ, List.getElem_cons_zero]; refine Or.inl ⟨by rfl, ?_⟩; intro w hSw; (try dsimp only at hSw); obtain ⟨s1, s2, s3, s4⟩ := hSw; go_simp; try with_reducible rfl)
        try simp only [List.getElem_toArray, List.getElem_cons_succ, List.getElem_cons_zero, Act.put, List.setIfInBounds_toArray, List.set_cons_zero, List.set_cons_succ]
        refine wpAnyH_take (i := 9) (v := undef) rfl (by kernel_rfl) (by kernel_rfl) (by kernel_rfl) (fun _ _ _ h => h) ?_ hHeld ?_; · (simp only [List.getElem_toArray, List.getElem_cons_succ, List.getElem_cons_zero]; exact Or.inr ⟨by rfl, rfl⟩)
        try simp only [List.getElem_toArray, List.getElem_cons_succ, List.getElem_cons_zero, Act.put, List.setIfInBounds_toArray, List.set_cons_zero, List.set_cons_succ]
        refine wpAnyH_take (i := 10) (v := undef) rfl (by kernel_rfl) (by kernel_rfl) (by kernel_rfl) (fun _ _ _ h => h) ?_ hHeld ?_; · (simp only [List.getElem_toArray, List.getElem_cons_succ, List.getElem_cons_zero]; exact Or.inr ⟨by rfl, rfl⟩)
        try simp only [List.getElem_toArray, List.getElem_cons_succ, List.getElem_cons_zero, Act.put, List.setIfInBounds_toArray, List.set_cons_zero, List.set_cons_succ]
        refine wpAnyH_take (i := 11) (v := undef) rfl (by kernel_rfl) (by kernel_rfl) (by kernel_rfl) (fun _ _ _ h => h) ?_ hHeld ?_; · (simp only [List.getElem_toArray, List.getElem_cons_succ, List.getElem_cons_zero]; exact Or.inr ⟨by rfl, rfl⟩)
        try simp only [List.getElem_toArray, List.getElem_cons_succ, List.getElem_cons_zero, Act.put, List.setIfInBounds_toArray, List.set_cons_zero, List.set_cons_succ]
        refine wpAnyH_take (i := 12) (v := undef) rfl (by kernel_rfl) (by kernel_rfl) (by kernel_rfl) (fun _ _ _ h => h) ?_ hHeld ?_; · (simp only [List.getElem_toArray, List.getElem_cons_succ, List.getElem_cons_zero]; exact Or.inr ⟨by rfl, rfl⟩)
        try simp only [List.getElem_toArray, List.getElem_cons_succ, List.getElem_cons_zero, Act.put, List.setIfInBounds_toArray, List.set_cons_zero, List.set_cons_succ]
        refine wpAnyH_take (i := 13) (v := undef) rfl (by kernel_rfl) (by kernel_rfl) (by kernel_rfl) (fun _ _ _ h => h) ?_ hHeld ?_; · (simp only [List.getElem_toArray, List.getElem_cons_succ, List.getElem_cons_zero]; exact Or.inr ⟨by rfl, rfl⟩)
        try simp only [List.getElem_toArray, List.getElem_cons_succ, List.getElem_cons_zero, Act.put, List.setIfInBounds_toArray, List.set_cons_zero, List.set_cons_succ]
        refine wpAnyH_take (i := 14) (v := ?_) rfl (by kernel_rfl) (by kernel_rfl) (by kernel_rfl) (fun _ _ _ h => h) ?_ hHeld ?_; rotate_left; · (simp only [List.getElem_toArray, List.getElem_cons_succ, List.getElem_cons_zero]; refine Or.inl ⟨by rfl, ?_⟩; intro w hSw; (try dsimp only at hSw); obtain ⟨s1, s2, s3, s4⟩ := hSw; go_simp; try with_reducible rfl)
        try simp only [List.getElem_toArray, List.getElem_cons_succ, List.getElem_cons_zero, Act.put, List.setIfInBounds_toArray, List.set_cons_zero, List.set_cons_succ]
        refine wpAnyH_take (i := 15) (v := ?_) rfl (by kernel_rfl) (by kernel_rfl) (by kernel_rfl) (fun _ _ _ h => h) ?_ hHeld ?_; rotate_left; · (simp only [List.getElem_toArray, List.getElem_cons_succ, List.getElem_cons_zero]; refine Or.inl ⟨by rfl, ?_⟩; intro w hSw; (try dsimp only at hSw); obtain ⟨s1, s2, s3, s4⟩ := hSw; go_simp; try with_reducible rfl)
        try simp only [List.getElem_toArray, List.getElem_cons_succ, List.getElem_cons_zero, Act.put, List.setIfInBounds_toArray, List.set_cons_zero, List.set_cons_succ]
        have hb3' : Below w2.heap.size w2 w2.drew := (Below.refl _ w2).drew
        refine wpAnyH_done (by kernel_rfl) ?_ _
        obtain ⟨w3, hw3⟩ : ∃ w3, w3 = w2.drew := ⟨_, rfl⟩
        rw [← hw3] at hb3' ⊢
        clear hw3
        have H3 := Lib.hid (H2.out.2.1.trans (hb3'.mono H2.out.2.1.size))
        clear hHeld hb3' g0 g1 g2 g3
        go_wp2_with (first
          | (go_at_call 25; first
              | (with_reducible refine (k2 _).mono ?_; rintro e w4 ⟨v4, rfl, ho4, hb4⟩
                 obtain ⟨ao4, cap4, rfl⟩ := own_zero ho4
                 have H4 := Lib.hid (H3.out.trans (hb4.mono H3.out.size))
                 skip
                 clear hb4 ho4 k2)
              | (with_reducible refine (k3 _).mono ?_; rintro e w5 ⟨v5, rfl, ho5, hb5⟩
                 obtain ⟨ao5, cap5, rfl⟩ := own_zero ho5
                 have H5 := Lib.hid (H4.out.trans (hb5.mono H4.out.size))
                 skip
                 clear hb5 ho5 k3))
          | fail)
        exact bodyPost_ret (results_tmp rfl _ _ _) rfl ⟨by simp, H5.out⟩
    · have hl1 : decide ((0 : Int) ≤ a) = false := decide_eq_false h1
      clear kh hno hin ha hs hlen
      go_enter Try.func9, Try.ntmps9
      go_wp2_with (first
        | (go_at_call 20; refine (ks _).mono ?_; rintro e w1 ⟨rfl, hb1⟩
           have hbx : w1.heap[w.heap.size]? = some (.cells #[.int .u64 (K.a.toNat : Int), .int .u64 (K.b.toNat : Int), .int .u64 (K.c.toNat : Int), .int .u64 (K.d.toNat : Int)] 54 (0, 0)) := (hb1.block _ (by simp)).trans (heap_alloc_new w _)
           obtain ⟨⟨c0, c1, c2, c3⟩, -⟩ := res_four hbx
           have hw1 : Below w.heap.size w w1 := ((Below.refl _ w).alloc (Nat.le_refl _) _).trans (hb1.mono (by simp))
           have H1 := Lib.hid (And.intro hbx hw1)
           clear hb1 hbx hw1 ks)
        | (go_at_call 25; with_reducible refine (k1 _).mono ?_; rintro e w2 ⟨v2, rfl, ho2, hb2⟩
           obtain ⟨ao2, cap2, rfl⟩ := own_zero ho2
           have hbx2 : w2.heap[w.heap.size]? = some (.cells #[.int .u64 (K.a.toNat : Int), .int .u64 (K.b.toNat : Int), .int .u64 (K.c.toNat : Int), .int .u64 (K.d.toNat : Int)] 54 (0, 0)) := (hb2.block _ (block_lt H1.out.1)).trans H1.out.1
           have H2 := Lib.hid (And.intro hbx2 (And.intro (H1.out.2.trans (hb2.mono H1.out.2.size)) ho2))
           clear hb2 hbx2 ho2 k1 c0 c1 c2 c3)
        | fail)
      obtain ⟨⟨g0, g1, g2, g3⟩, -⟩ := res_four H2.out.1
      refine wp_region_held_drew (S := fun W' => W'.cell? ⟨w.heap.size, 0, none⟩ = some (.int .u64 (K.a.toNat : Int)) ∧ W'.cell? ⟨w.heap.size, 1, none⟩ = some (.int .u64 (K.b.toNat : Int)) ∧ W'.cell? ⟨w.heap.size, 2, none⟩ = some (.int .u64 (K.c.toNat : Int)) ∧ W'.cell? ⟨w.heap.size, 3, none⟩ = some (.int .u64 (K.d.toNat : Int))) (by kernel_rfl) ⟨g0, g1, g2, g3⟩ (fun hHeld => ?_)
      refine wpAnyH_take (i := 0) (v := ?_) rfl (by kernel_rfl) (by kernel_rfl) (by kernel_rfl) (fun _ _ _ h => h) ?_ hHeld ?_; rotate_left; · (simp only [List.getElem_toArray, List.getElem_cons_zero]; refine Or.inl ⟨by rfl, ?_⟩; intro w hSw; (try dsimp only at hSw); obtain ⟨s1, s2, s3, s4⟩ := hSw; go_simp; try with_reducible rfl)
      try simp only [List.getElem_toArray, List.getElem_cons_zero, Act.put, List.setIfInBounds_toArray, List.set_cons_zero, List.set_cons_succ]
      refine wpAnyH_take (i := 1) (v := ?_) rfl (by kernel_rfl) (by kernel_rfl) (by kernel_rfl) (fun _ _ _ h => h) ?_ hHeld ?_; rotate_left; · (simp only [List.getElem_toArray, List.getElem_cons_succ, List.getElem_cons_zero]; refine Or.inl ⟨by rfl, ?_⟩; intro w hSw; (try dsimp only at hSw); obtain ⟨s1, s2, s3, s4⟩ := hSw; go_simp; try with_reducible rfl)
      try simp only [List.getElem_toArray, List.getElem_cons_succ, List.getElem_cons_zero, Act.put, List.setIfInBounds_toArray, List.set_cons_zero, List.set_cons_succ]
      refine wpAnyH_take (i := 2) (v := ?_) rfl (by kernel_rfl) (by kernel_rfl) (by kernel_rfl) (fun _ _ _ h => h) ?_ hHeld ?_; rotate_left; · (simp only [List.getElem_toArray, List.getElem_cons_succ, List.getElem_cons_zero]; refine Or.inl ⟨by rfl, ?_⟩; intro w hSw; (try dsimp only at hSw); obtain ⟨s1, s2, s3, s4⟩ := hSw; go_simp; try with_reducible rfl)
      try simp only [List.getElem_toArray, List.getElem_cons_succ, List.getElem_cons_zero, Act.put, List.setIfInBounds_toArray, List.set_cons_zero, List.set_cons_succ]
      refine wpAnyH_take (i := 3) (v := undef) rfl (by kernel_rfl) (by kernel_rfl) (by kernel_rfl) (fun _ _ _ h => h) ?_ hHeld ?_; · (simp only [List.getElem_toArray, List.getElem_cons_succ, List.getElem_cons_zero]; exact Or.inr ⟨by rfl, rfl⟩)
      try simp only [List.getElem_toArray, List.getElem_cons_succ, List.getElem_cons_zero, Act.put, List.setIfInBounds_toArray, List.set_cons_zero, List.set_cons_succ]
      refine wpAnyH_take (i := 4) (v := undef) rfl (by kernel_rfl) (by kernel_rfl) (by kernel_rfl) (fun _ _ _ h => h) ?_ hHeld ?_; · (simp only [List.getElem_toArray, List.getElem_cons_succ, List.getElem_cons_zero]; exact Or.inr ⟨by rfl, rfl⟩)
      try simp only [List.getElem_toArray, List.getElem_cons_succ, List.getElem_cons_zero, Act.put, List.setIfInBounds_toArray, List.set_cons_zero, List.set_cons_succ]
      refine wpAnyH_take (i := 5) (v := undef) rfl (by kernel_rfl) (by kernel_rfl) (by kernel_rfl) (fun _ _ _ h => h) ?_ hHeld ?_; · (simp only [List.getElem_toArray, List.getElem_cons_succ, List.getElem_cons_zero]; exact Or.inr ⟨by rfl, rfl⟩)
      try simp only [List.getElem_toArray, List.getElem_cons_succ, List.getElem_cons_zero, Act.put, List.setIfInBounds_toArray, List.set_cons_zero, List.set_cons_succ]
      refine wpAnyH_take (i := 6) (v := undef) rfl (by kernel_rfl) (by kernel_rfl) (by kernel_rfl) (fun _ _ _ h => h) ?_ hHeld ?_; · (simp only [List.getElem_toArray, List.getElem_cons_succ, List.getElem_cons_zero]; exact Or.inr ⟨by rfl, rfl⟩)
      try simp only [List.getElem_toArray, List.getElem_cons_succ, List.getElem_cons_zero, Act.put, List.setIfInBounds_toArray, List.set_cons_zero, List.set_cons_succ]
      refine wpAnyH_take (i := 7) (v := ?_) rfl (by kernel_rfl) (by kernel_rfl) (by kernel_rfl) (fun _ _ _ h => h) ?_ hHeld ?_; rotate_left; · (simp only [List.getElem_toArray, List.getElem_cons_succ, List.getElem_cons_zero]; refine Or.inl ⟨by rfl, ?_⟩; intro w hSw; (try dsimp only at hSw); obtain ⟨s1, s2, s3, s4⟩ := hSw; go_simp; try with_reducible rfl)
      try simp only [List.getElem_toArray, List.getElem_cons_succ, List.getElem_cons_zero, Act.put, List.setIfInBounds_toArray, List.set_cons_zero, List.set_cons_succ]
      refine wpAnyH_take (i := 8) (v := ?_) rfl (by kernel_rfl) (by kernel_rfl) (by kernel_rfl) (fun _ _ _ h => h) ?_ hHeld ?_; rotate_left; · (simp only [List.getElem_toArray, List.getElem_cons_succ, List.getElem_cons_zero]; refine Or.inl ⟨by rfl, ?_⟩; intro w hSw; (try dsimp only at hSw); obtain ⟨s1, s2, s3, s4⟩ := hSw; go_simp; try with_reducible rfl)
      try simp only [List.getElem_toArray, List.getElem_cons_succ, List.getElem_cons_zero, Act.put, List.setIfInBounds_toArray, List.set_cons_zero, List.set_cons_succ]
      refine wpAnyH_take (i := 9) (v := undef) rfl (by kernel_rfl) (by kernel_rfl) (by kernel_rfl) (fun _ _ _ h => h) ?_ hHeld ?_; · (simp only [List.getElem_toArray, List.getElem_cons_succ, List.getElem_cons_zero]; exact Or.inr ⟨by rfl, rfl⟩)
      try simp only [List.getElem_toArray, List.getElem_cons_succ, List.getElem_cons_zero, Act.put, List.setIfInBounds_toArray, List.set_cons_zero, List.set_cons_succ]
      refine wpAnyH_take (i := 10) (v := undef) rfl (by kernel_rfl) (by kernel_rfl) (by kernel_rfl) (fun _ _ _ h => h) ?_ hHeld ?_; · (simp only [List.getElem_toArray, List.getElem_cons_succ, List.getElem_cons_zero]; exact Or.inr ⟨by rfl, rfl⟩)
      try simp only [List.getElem_toArray, List.getElem_cons_succ, List.getElem_cons_zero, Act.put, List.setIfInBounds_toArray, List.set_cons_zero, List.set_cons_succ]
      refine wpAnyH_take (i := 11) (v := undef) rfl (by kernel_rfl) (by kernel_rfl) (by kernel_rfl) (fun _ _ _ h => h) ?_ hHeld ?_; · (simp only [List.getElem_toArray, List.getElem_cons_succ, List.getElem_cons_zero]; exact Or.inr ⟨by rfl, rfl⟩)
      try simp only [List.getElem_toArray, List.getElem_cons_succ, List.getElem_cons_zero, Act.put, List.setIfInBounds_toArray, List.set_cons_zero, List.set_cons_succ]
      refine wpAnyH_take (i := 12) (v := undef) rfl (by kernel_rfl) (by kernel_rfl) (by kernel_rfl) (fun _ _ _ h => h) ?_ hHeld ?_; · (simp only [List.getElem_toArray, List.getElem_cons_succ, List.getElem_cons_zero]; exact Or.inr ⟨by rfl, rfl⟩)
      try simp only [List.getElem_toArray, List.getElem_cons_succ, List.getElem_cons_zero, Act.put, List.setIfInBounds_toArray, List.set_cons_zero, List.set_cons_succ]
      refine wpAnyH_take (i := 13) (v := undef) rfl (by kernel_rfl) (by kernel_rfl) (by kernel_rfl) (fun _ _ _ h => h) ?_ hHeld ?_; · (simp only [List.getElem_toArray, List.getElem_cons_succ, List.getElem_cons_zero]; exact Or.inr ⟨by rfl, rfl⟩)
      try simp only [List.getElem_toArray, List.getElem_cons_succ, List.getElem_cons_zero, Act.put, List.setIfInBounds_toArray, List.set_cons_zero, List.set_cons_succ]
      refine wpAnyH_take (i := 14) (v := ?_) rfl (by kernel_rfl) (by kernel_rfl) (by kernel_rfl) (fun _ _ _ h => h) ?_ hHeld ?_; rotate_left; · (simp only [List.getElem_toArray, List.getElem_cons_succ, List.getElem_cons_zero]; refine Or.inl ⟨by rfl, ?_⟩; intro w hSw; (try dsimp only at hSw); obtain ⟨s1, s2, s3, s4⟩ := hSw; go_simp; try with_reducible rfl)
      try simp only [List.getElem_toArray, List.getElem_cons_succ, List.getElem_cons_zero, Act.put, List.setIfInBounds_toArray, List.set_cons_zero, List.set_cons_succ]
      refine wpAnyH_take (i := 15) (v := ?_) rfl (by kernel_rfl) (by kernel_rfl) (by kernel_rfl) (fun _ _ _ h => h) ?_ hHeld ?_; rotate_left; · (simp only [List.getElem_toArray, List.getElem_cons_succ, List.getElem_cons_zero]; refine Or.inl ⟨by rfl, ?_⟩; intro w hSw; (try dsimp only at hSw); obtain ⟨s1, s2, s3, s4⟩ := hSw; go_simp; try with_reducible rfl)
      try simp only [List.getElem_toArray, List.getElem_cons_succ, List.getElem_cons_zero, Act.put, List.setIfInBounds_toArray, List.set_cons_zero, List.set_cons_succ]
      have hb3' : Below w2.heap.size w2 w2.drew := (Below.refl _ w2).drew
      refine wpAnyH_done (by kernel_rfl) ?_ _
      obtain ⟨w3, hw3⟩ : ∃ w3, w3 = w2.drew := ⟨_, rfl⟩
      rw [← hw3] at hb3' ⊢
      clear hw3
      have H3 := Lib.hid (H2.out.2.1.trans (hb3'.mono H2.out.2.1.size))
      clear hHeld hb3' g0 g1 g2 g3
      go_wp2_with (first
        | (go_at_call 25; first
            | (with_reducible refine (k2 _).mono ?_; rintro e w4 ⟨v4, rfl, ho4, hb4⟩
               obtain ⟨ao4, cap4, rfl⟩ := own_zero ho4
               have H4 := Lib.hid (H3.out.trans (hb4.mono H3.out.size))
               skip
               clear hb4 ho4 k2)
            | (with_reducible refine (k3 _).mono ?_; rintro e w5 ⟨v5, rfl, ho5, hb5⟩
               obtain ⟨ao5, cap5, rfl⟩ := own_zero ho5
               have H5 := Lib.hid (H4.out.trans (hb5.mono H4.out.size))
               skip
               clear hb5 ho5 k3))
        | fail)
      exact bodyPost_ret (results_tmp rfl _ _ _) rfl ⟨by simp, H5.out⟩
set_option maxHeartbeats 1000000 in
set_option maxRecDepth 20000 in
theorem matchBytes_long (K : K4) (s : ByteArray) (a : Int) (w : World) (hs : ¬ s.size ≤ 200) :
    Calls Try.prog 9 #[.agg #[.int .u64 (K.a.toNat : Int), .int .u64 (K.b.toNat : Int), .int .u64 (K.c.toNat : Int), .int .u64 (K.d.toNat : Int)], .string s, .int .i64 a] w fun e w' => e = .returned (.bool true) ∧ Below w.heap.size w w' := by
  have hsI : (200 : Int) < (s.size : Int) := by omega
  have ks := fun w => shownM_any w
  clear hs
  go_enter Try.func9, Try.ntmps9
  go_wp2_with (first
    | (go_at_call 20; refine (ks _).mono ?_; rintro e w1 ⟨rfl, hb1⟩)
    | fail)
  exact bodyPost_ret (results_tmp rfl _ _ _) rfl ⟨rfl, ((Below.refl _ w).alloc (Nat.le_refl _) _).trans (hb1.mono (by simp))⟩
open Classical in
/-- The statement's function, at every input. -/
theorem matchBytes_walk (k : Cl) (s : ByteArray) (_hz : s.size ≤ 140737488351232) (a : Int) (ha : -9223372036854775808 ≤ a ∧ a ≤ 9223372036854775807) (w : World) :
    Calls Try.prog 9 #[clsV k, .string s, .int .i64 a] w fun e w' => e = .returned (.bool true) ∧ Below w.heap.size w w' := by
  by_cases hs : s.size ≤ 200
  · exact matchBytes_in (k4 k) s a (decide (0 ≤ a ∧ a < (s.size : Int) ∧ inSet s.data.toList (k4 k) a.toNat = true)) w hs ha (by rw [decide_eq_true_eq])
  · exact matchBytes_long (k4 k) s a w hs
end Go.Proofs.Ytolofcfegoeenaa
