/- Packed texts: MaWalk, MaEnter, MaLeave. What each of them proves stands above its theorems; the conditions stand in these. -/
import Derived.Test.YtkgpnlldlekcbaaM5
import Derived.Test.YtkgpnlldlekcbaaM7
import Derived.Test.YtkgpnlldlekcbaaM10
namespace Go.Proofs.Ytkgpnlldlekcbaa
open Go.RowKit Go.Lib

theorem in_any (r : Nat) (w : World) (hr : r ≤ 1000000) : Calls Try.prog 69 #[.int .i64 (r : Int)] w fun e w' => e = .returned (.int .i64 ((2 * r : Nat) : Int)) ∧ w = w' := by
  have h : IntKind.i64.wrap (2 * (r : Int)) = ((2 * r : Nat) : Int) := by rw [IntWalk.i64_in _ (by omega)]; omega
  go_enter Try.func69, Try.ntmps69
  go_wp2
  exact bodyPost_ret (results_tmp rfl _ _ _) rfl ⟨rfl, rfl⟩
theorem out_any (r : Nat) (w : World) (hr : r ≤ 1000000) : Calls Try.prog 88 #[.int .i64 (r : Int)] w fun e w' => e = .returned (.int .i64 ((2 * r + 1 : Nat) : Int)) ∧ w = w' := by
  have h : IntKind.i64.wrap (2 * (r : Int)) = ((2 * r : Nat) : Int) := by rw [IntWalk.i64_in _ (by omega)]; omega
  have h2 : IntKind.i64.wrap (((2 * r : Nat) : Int) + 1) = ((2 * r + 1 : Nat) : Int) := by rw [IntWalk.i64_in _ (by omega)]; omega
  go_enter Try.func88, Try.ntmps88
  go_wp2
  exact bodyPost_ret (results_tmp rfl _ _ _) rfl ⟨rfl, rfl⟩
/-- The walk's own cells. -/
def WkC (tv : Value) (s : ByteArray) (bk : Bool) (uv mv : Value) : Obj := .cells #[tv, .string s, .bool bk, uv, mv] 113 (0, 0)
theorem wk_cells {w : World} {bw : Nat} {tv uv mv : Value} {s : ByteArray} {bk : Bool} (h : w.heap[bw]? = some (WkC tv s bk uv mv)) :
    w.cell? ⟨bw, 0, none⟩ = some tv ∧ w.cell? ⟨bw, 1, none⟩ = some (.string s) ∧ w.cell? ⟨bw, 2, none⟩ = some (.bool bk) ∧ w.cell? ⟨bw, 3, none⟩ = some uv ∧ w.cell? ⟨bw, 4, none⟩ = some mv :=
  ⟨cell_of_row w bw 0 _ _ _ h, cell_of_row w bw 1 _ _ _ h, cell_of_row w bw 2 _ _ _ h, cell_of_row w bw 3 _ _ _ h, cell_of_row w bw 4 _ _ _ h⟩

set_option maxHeartbeats 1000000 in
theorem wkids_any (bw b o : Nat) (bk : Bool) (x y : Int) (w : World) (hc : w.cell? ⟨bw, 2, none⟩ = some (.bool bk)) (hx : w.cell? ⟨b, o + 5, none⟩ = some (.int .i64 x)) (hy : w.cell? ⟨b, o + 6, none⟩ = some (.int .i64 y)) :
    Calls Try.prog 87 #[.pointer (some ⟨bw, 0, none⟩), .pointer (some ⟨b, o, none⟩)] w fun e w' => e = .returned (.tuple #[.int .i64 (if bk = true then y else x), .int .i64 (if bk = true then x else y)]) ∧ Below w.heap.size w w' := by
  cases bk
  · go_enter Try.func87, Try.ntmps87
    go_wp2_with fail
    go_region_law (fail)
    all_goals
      go_wp2
      exact bodyPost_ret (results_tmp2 rfl _ _ _) rfl ⟨rfl, (Below.refl _ w).drew⟩
  · go_enter Try.func87, Try.ntmps87
    go_wp2_with fail
    go_region_law (fail)
    all_goals
      go_wp2
      exact bodyPost_ret (results_tmp2 rfl _ _ _) rfl ⟨rfl, (Below.refl _ w).drew⟩

theorem cell_kept {w w' : World} {a : Addr} {v : Value} (hb : Below w.heap.size w w') (h : w.cell? a = some v) : w'.cell? a = some v := (World.cell?_of_block (hb.block a.block (cell_plainB h))).trans h
/-- What a step answers. -/
def StepE (bk : Bool) (s : List UInt8) (n : Nd) (p : Nat) (e : Ending) : Prop :=
  ∃ (q : Int) (is : Bool), e = .returned (.tuple #[.int .i64 q, .bool is]) ∧ (is = true → ∃ q' : Nat, q = (q' : Int) ∧ stepD bk s n p = some q') ∧ (is = false → stepD bk s n p = none)
set_option maxHeartbeats 8000000 in
set_option maxRecDepth 20000 in
theorem step_any (bk : Bool) (bw b o : Nat) (n : Nd) (p : Nat) (s : ByteArray) (tv uv mv : Value) (w : World) (hk : n.k = 0 ∨ n.k = 1 ∨ n.k = 7 ∨ n.k = 8) (hp : p ≤ s.size) (hs : s.size ≤ 1000000)
    (hw : w.heap[bw]? = some (WkC tv s bk uv mv)) (hn : NdAt b o n w) :
    Calls Try.prog 89 #[.pointer (some ⟨bw, 0, none⟩), .pointer (some ⟨b, o, none⟩), .int .i64 (p : Int)] w fun e w' => StepE bk s.data.toList n p e ∧ Below w.heap.size w w' := by
  obtain ⟨c0, c1, c2, c3, c4⟩ := wk_cells hw
  obtain ⟨a0, a1, a2, a3, a4, a5, a6⟩ := hn
  have hlen : s.data.toList.length = s.size := Array.length_toList
  clear hw c0 c3 c4 a5 a6
  obtain ⟨k, K, x, y⟩ := n
  dsimp only at hk a0 a1 a2 a3 a4
  unfold wd at a1 a2 a3 a4
  rcases hk with rfl | rfl | rfl | rfl
  · go_enter Try.func89, Try.ntmps89
    go_wp2
    exact bodyPost_ret (results_tmp2 rfl _ _ _) rfl ⟨⟨_, _, rfl, fun _ => ⟨p, rfl, rfl⟩, fun h => by cases h⟩, Below.refl _ _⟩
  · have e : ∀ b, stepD b s.data.toList (⟨1, K, x, y⟩ : Nd) p = (if b = true then if 0 < p ∧ inSet s.data.toList K (p - 1) = true then some (p - 1) else none else if inSet s.data.toList K p = true then some (p + 1) else none) := fun b => rfl
    have hin : ∀ q (hq : q < s.size), inSet s.data.toList K q = has K.cl s[q].toNat := fun q hq => by unfold inSet; rw [at_byte hq]
    have hout : ∀ q, ¬ q < s.size → inSet s.data.toList K q = false := fun q hq => by unfold inSet; rw [List.getElem?_eq_none (by omega)]
    have kh : ∀ (m : Nat) (w : World) (b : Bool), m < 256 → has K.cl m = b → Calls Try.prog 100 #[.agg #[.int .u64 (K.a.toNat : Int), .int .u64 (K.b.toNat : Int), .int .u64 (K.c.toNat : Int), .int .u64 (K.d.toNat : Int)], .int .u8 (m : Int)] w fun e w' => e = .returned (.bool b) ∧ Below w.heap.size w w' := fun m w b hm hb => has_nat K.cl m w hm b hb
    have p0 : (0 : Int) ≤ (p : Int) := by omega
    have SB : ∀ W', Below w.heap.size w W' → (W'.cell? ⟨bw, 1, none⟩ = some (.string s) ∧ W'.cell? ⟨b, o + 1, none⟩ = some (.int .u64 (K.a.toNat : Int)) ∧ W'.cell? ⟨b, o + 2, none⟩ = some (.int .u64 (K.b.toNat : Int)) ∧ W'.cell? ⟨b, o + 3, none⟩ = some (.int .u64 (K.c.toNat : Int)) ∧ W'.cell? ⟨b, o + 4, none⟩ = some (.int .u64 (K.d.toNat : Int))) := fun W' hb => ⟨cell_kept hb c1, cell_kept hb a1, cell_kept hb a2, cell_kept hb a3, cell_kept hb a4⟩
    have SBH := Lib.hid SB
    clear SB
    cases bk
    · have hwp : IntKind.i64.wrap ((p : Int) + 1) = ((p + 1 : Nat) : Int) := by rw [IntWalk.i64_in _ (by omega)]; omega
      by_cases hlt : p < s.size
      · obtain ⟨d, hd⟩ : ∃ d, s[p] = d := ⟨_, rfl⟩
        obtain ⟨hb, hhb⟩ : ∃ hb, has K.cl d.toNat = hb := ⟨_, rfl⟩
        have kd := fun w => kh d.toNat w hb d.toNat_lt hhb
        have hst : stepD false s.data.toList (⟨1, K, x, y⟩ : Nd) p = if hb = true then some (p + 1) else none := by rw [e, hin p hlt, hd, hhb]; rfl
        have HS := Lib.hid hst
        have hltI : (p : Int) < (s.size : Int) := by omega
        clear kh hin hout e hst hhb
        go_enter Try.func89, Try.ntmps89
        go_wp2_with fail
        go_region_held3 (fun W' => W'.cell? ⟨bw, 1, none⟩ = some (.string s) ∧ W'.cell? ⟨b, o + 1, none⟩ = some (.int .u64 (K.a.toNat : Int)) ∧ W'.cell? ⟨b, o + 2, none⟩ = some (.int .u64 (K.b.toNat : Int)) ∧ W'.cell? ⟨b, o + 3, none⟩ = some (.int .u64 (K.c.toNat : Int)) ∧ W'.cell? ⟨b, o + 4, none⟩ = some (.int .u64 (K.d.toNat : Int)))
          (first | with_reducible exact SBH.out _ (Below.refl _ w).drew | with_reducible exact SBH.out _ hd2)
          (first | (go_at_call 100; refine (kd _).mono ?_; rintro e w2 ⟨rfl, hb2⟩; have hd2 : Below w.heap.size w w2 := ((Below.refl _ w).drew).trans hb2))
        all_goals
          go_wp2
          exact bodyPost_ret (results_tmp2 rfl _ _ _) rfl ⟨⟨_, _, rfl, fun h => ⟨p + 1, rfl, by rw [HS.out, if_pos h]⟩, fun h => by rw [HS.out, h]; rfl⟩, (Below.refl _ w).drew.trans hb2⟩
      · have hst : stepD false s.data.toList (⟨1, K, x, y⟩ : Nd) p = none := by rw [e, hout p hlt]; rfl
        have HS := Lib.hid hst
        have hltI : decide ((p : Int) < (s.size : Int)) = false := decide_eq_false (by omega)
        clear kh hin hout e hst
        go_enter Try.func89, Try.ntmps89
        go_wp2_with fail
        refine wp_region_held_drew (S := fun W' => W'.cell? ⟨bw, 1, none⟩ = some (.string s)) (by kernel_rfl) (SBH.out _ (Below.refl _ w).drew).1 (fun hHeld => ?_)
        refine wpAnyH_take (i := 0) (v := ?_) rfl (by kernel_rfl) (by kernel_rfl) (by kernel_rfl) (fun _ _ _ h => h) ?_ hHeld ?_; rotate_left; · (simp only [List.getElem_toArray, List.getElem_cons_zero]; refine Or.inl ⟨by rfl, ?_⟩; intro w hSw; (try dsimp only at hSw); go_simp; try with_reducible rfl)
        try simp only [List.getElem_toArray, List.getElem_cons_zero, Act.put, List.setIfInBounds_toArray, List.set_cons_zero, List.set_cons_succ]
        refine wpAnyH_take (i := 1) (v := ?_) rfl (by kernel_rfl) (by kernel_rfl) (by kernel_rfl) (fun _ _ _ h => h) ?_ hHeld ?_; rotate_left; · (simp only [List.getElem_toArray, List.getElem_cons_succ, List.getElem_cons_zero]; refine Or.inl ⟨by rfl, ?_⟩; intro w hSw; (try dsimp only at hSw); go_simp; try with_reducible rfl)
        try simp only [List.getElem_toArray, List.getElem_cons_succ, List.getElem_cons_zero, Act.put, List.setIfInBounds_toArray, List.set_cons_zero, List.set_cons_succ]
        refine wpAnyH_take (i := 2) (v := ?_) rfl (by kernel_rfl) (by kernel_rfl) (by kernel_rfl) (fun _ _ _ h => h) ?_ hHeld ?_; rotate_left; · (simp only [List.getElem_toArray, List.getElem_cons_succ, List.getElem_cons_zero]; refine Or.inl ⟨by rfl, ?_⟩; intro w hSw; (try dsimp only at hSw); go_simp; try with_reducible rfl)
        try simp only [List.getElem_toArray, List.getElem_cons_succ, List.getElem_cons_zero, Act.put, List.setIfInBounds_toArray, List.set_cons_zero, List.set_cons_succ]
        refine wpAnyH_take (i := 3) (v := ?_) rfl (by kernel_rfl) (by kernel_rfl) (by kernel_rfl) (fun _ _ _ h => h) ?_ hHeld ?_; rotate_left; · (simp only [List.getElem_toArray, List.getElem_cons_succ, List.getElem_cons_zero]; refine Or.inl ⟨by rfl, ?_⟩; intro w hSw; (try dsimp only at hSw); go_simp; try with_reducible rfl)
        try simp only [List.getElem_toArray, List.getElem_cons_succ, List.getElem_cons_zero, Act.put, List.setIfInBounds_toArray, List.set_cons_zero, List.set_cons_succ]
        refine wpAnyH_take (i := 4) (v := ?_) rfl (by kernel_rfl) (by kernel_rfl) (by kernel_rfl) (fun _ _ _ h => h) ?_ hHeld ?_; rotate_left; · (simp only [List.getElem_toArray, List.getElem_cons_succ, List.getElem_cons_zero]; refine Or.inl ⟨by rfl, ?_⟩; intro w hSw; (try dsimp only at hSw); go_simp; try with_reducible rfl)
        try simp only [List.getElem_toArray, List.getElem_cons_succ, List.getElem_cons_zero, Act.put, List.setIfInBounds_toArray, List.set_cons_zero, List.set_cons_succ]
        refine wpAnyH_take (i := 5) (v := ?_) rfl (by kernel_rfl) (by kernel_rfl) (by kernel_rfl) (fun _ _ _ h => h) ?_ hHeld ?_; rotate_left; · (simp only [List.getElem_toArray, List.getElem_cons_succ, List.getElem_cons_zero]; refine Or.inl ⟨by rfl, ?_⟩; intro w hSw; (try dsimp only at hSw); go_simp; try with_reducible rfl)
        try simp only [List.getElem_toArray, List.getElem_cons_succ, List.getElem_cons_zero, Act.put, List.setIfInBounds_toArray, List.set_cons_zero, List.set_cons_succ]
        refine wpAnyH_take (i := 6) (v := ?_) rfl (by kernel_rfl) (by kernel_rfl) (by kernel_rfl) (fun _ _ _ h => h) ?_ hHeld ?_; rotate_left; · (simp only [List.getElem_toArray, List.getElem_cons_succ, List.getElem_cons_zero]; refine Or.inl ⟨by rfl, ?_⟩; intro w hSw; (try dsimp only at hSw); go_simp; try with_reducible rfl)
        try simp only [List.getElem_toArray, List.getElem_cons_succ, List.getElem_cons_zero, Act.put, List.setIfInBounds_toArray, List.set_cons_zero, List.set_cons_succ]
        refine wpAnyH_take (i := 7) (v := ?_) rfl (by kernel_rfl) (by kernel_rfl) (by kernel_rfl) (fun _ _ _ h => h) ?_ hHeld ?_; rotate_left; · (simp only [List.getElem_toArray, List.getElem_cons_succ, List.getElem_cons_zero]; refine Or.inl ⟨by rfl, ?_⟩; intro w hSw; (try dsimp only at hSw); go_simp; try with_reducible rfl)
        try simp only [List.getElem_toArray, List.getElem_cons_succ, List.getElem_cons_zero, Act.put, List.setIfInBounds_toArray, List.set_cons_zero, List.set_cons_succ]
        refine wpAnyH_take (i := 8) (v := ?_) rfl (by kernel_rfl) (by kernel_rfl) (by kernel_rfl) (fun _ _ _ h => h) ?_ hHeld ?_; rotate_left; · (simp only [List.getElem_toArray, List.getElem_cons_succ, List.getElem_cons_zero]; refine Or.inl ⟨by rfl, ?_⟩; intro w hSw; (try dsimp only at hSw); go_simp; try with_reducible rfl)
        try simp only [List.getElem_toArray, List.getElem_cons_succ, List.getElem_cons_zero, Act.put, List.setIfInBounds_toArray, List.set_cons_zero, List.set_cons_succ]
        refine wpAnyH_take (i := 9) (v := ?_) rfl (by kernel_rfl) (by kernel_rfl) (by kernel_rfl) (fun _ _ _ h => h) ?_ hHeld ?_; rotate_left; · (simp only [List.getElem_toArray, List.getElem_cons_succ, List.getElem_cons_zero]; refine Or.inl ⟨by rfl, ?_⟩; intro w hSw; (try dsimp only at hSw); go_simp; try with_reducible rfl)
        try simp only [List.getElem_toArray, List.getElem_cons_succ, List.getElem_cons_zero, Act.put, List.setIfInBounds_toArray, List.set_cons_zero, List.set_cons_succ]
        refine wpAnyH_take (i := 10) (v := ?_) rfl (by kernel_rfl) (by kernel_rfl) (by kernel_rfl) (fun _ _ _ h => h) ?_ hHeld ?_; rotate_left; · (simp only [List.getElem_toArray, List.getElem_cons_succ, List.getElem_cons_zero]; refine Or.inl ⟨by rfl, ?_⟩; intro w hSw; (try dsimp only at hSw); go_simp; try with_reducible rfl)
        try simp only [List.getElem_toArray, List.getElem_cons_succ, List.getElem_cons_zero, Act.put, List.setIfInBounds_toArray, List.set_cons_zero, List.set_cons_succ]
        refine wpAnyH_take (i := 11) (v := ?_) rfl (by kernel_rfl) (by kernel_rfl) (by kernel_rfl) (fun _ _ _ h => h) ?_ hHeld ?_; rotate_left; · (simp only [List.getElem_toArray, List.getElem_cons_succ, List.getElem_cons_zero]; refine Or.inl ⟨by rfl, ?_⟩; intro w hSw; (try dsimp only at hSw); go_simp; try with_reducible rfl)
        try simp only [List.getElem_toArray, List.getElem_cons_succ, List.getElem_cons_zero, Act.put, List.setIfInBounds_toArray, List.set_cons_zero, List.set_cons_succ]
        refine wpAnyH_take (i := 12) (v := undef) rfl (by kernel_rfl) (by kernel_rfl) (by kernel_rfl) (fun _ _ _ h => h) ?_ hHeld ?_; · (simp only [List.getElem_toArray, List.getElem_cons_succ, List.getElem_cons_zero]; exact Or.inr ⟨by rfl, rfl⟩)
        try simp only [List.getElem_toArray, List.getElem_cons_succ, List.getElem_cons_zero, Act.put, List.setIfInBounds_toArray, List.set_cons_zero, List.set_cons_succ]
        refine wpAnyH_take (i := 13) (v := undef) rfl (by kernel_rfl) (by kernel_rfl) (by kernel_rfl) (fun _ _ _ h => h) ?_ hHeld ?_; · (simp only [List.getElem_toArray, List.getElem_cons_succ, List.getElem_cons_zero]; exact Or.inr ⟨by rfl, rfl⟩)
        try simp only [List.getElem_toArray, List.getElem_cons_succ, List.getElem_cons_zero, Act.put, List.setIfInBounds_toArray, List.set_cons_zero, List.set_cons_succ]
        refine wpAnyH_take (i := 14) (v := undef) rfl (by kernel_rfl) (by kernel_rfl) (by kernel_rfl) (fun _ _ _ h => h) ?_ hHeld ?_; · (simp only [List.getElem_toArray, List.getElem_cons_succ, List.getElem_cons_zero]; exact Or.inr ⟨by rfl, rfl⟩)
        try simp only [List.getElem_toArray, List.getElem_cons_succ, List.getElem_cons_zero, Act.put, List.setIfInBounds_toArray, List.set_cons_zero, List.set_cons_succ]
        refine wpAnyH_take (i := 15) (v := undef) rfl (by kernel_rfl) (by kernel_rfl) (by kernel_rfl) (fun _ _ _ h => h) ?_ hHeld ?_; · (simp only [List.getElem_toArray, List.getElem_cons_succ, List.getElem_cons_zero]; exact Or.inr ⟨by rfl, rfl⟩)
        try simp only [List.getElem_toArray, List.getElem_cons_succ, List.getElem_cons_zero, Act.put, List.setIfInBounds_toArray, List.set_cons_zero, List.set_cons_succ]
        refine wpAnyH_take (i := 16) (v := undef) rfl (by kernel_rfl) (by kernel_rfl) (by kernel_rfl) (fun _ _ _ h => h) ?_ hHeld ?_; · (simp only [List.getElem_toArray, List.getElem_cons_succ, List.getElem_cons_zero]; exact Or.inr ⟨by rfl, rfl⟩)
        try simp only [List.getElem_toArray, List.getElem_cons_succ, List.getElem_cons_zero, Act.put, List.setIfInBounds_toArray, List.set_cons_zero, List.set_cons_succ]
        refine wpAnyH_take (i := 17) (v := undef) rfl (by kernel_rfl) (by kernel_rfl) (by kernel_rfl) (fun _ _ _ h => h) ?_ hHeld ?_; · (simp only [List.getElem_toArray, List.getElem_cons_succ, List.getElem_cons_zero]; exact Or.inr ⟨by rfl, rfl⟩)
        try simp only [List.getElem_toArray, List.getElem_cons_succ, List.getElem_cons_zero, Act.put, List.setIfInBounds_toArray, List.set_cons_zero, List.set_cons_succ]
        refine wpAnyH_take (i := 18) (v := undef) rfl (by kernel_rfl) (by kernel_rfl) (by kernel_rfl) (fun _ _ _ h => h) ?_ hHeld ?_; · (simp only [List.getElem_toArray, List.getElem_cons_succ, List.getElem_cons_zero]; exact Or.inr ⟨by rfl, rfl⟩)
        try simp only [List.getElem_toArray, List.getElem_cons_succ, List.getElem_cons_zero, Act.put, List.setIfInBounds_toArray, List.set_cons_zero, List.set_cons_succ]
        refine wpAnyH_take (i := 19) (v := undef) rfl (by kernel_rfl) (by kernel_rfl) (by kernel_rfl) (fun _ _ _ h => h) ?_ hHeld ?_; · (simp only [List.getElem_toArray, List.getElem_cons_succ, List.getElem_cons_zero]; exact Or.inr ⟨by rfl, rfl⟩)
        try simp only [List.getElem_toArray, List.getElem_cons_succ, List.getElem_cons_zero, Act.put, List.setIfInBounds_toArray, List.set_cons_zero, List.set_cons_succ]
        refine wpAnyH_take (i := 20) (v := undef) rfl (by kernel_rfl) (by kernel_rfl) (by kernel_rfl) (fun _ _ _ h => h) ?_ hHeld ?_; · (simp only [List.getElem_toArray, List.getElem_cons_succ, List.getElem_cons_zero]; exact Or.inr ⟨by rfl, rfl⟩)
        try simp only [List.getElem_toArray, List.getElem_cons_succ, List.getElem_cons_zero, Act.put, List.setIfInBounds_toArray, List.set_cons_zero, List.set_cons_succ]
        refine wpAnyH_take (i := 21) (v := undef) rfl (by kernel_rfl) (by kernel_rfl) (by kernel_rfl) (fun _ _ _ h => h) ?_ hHeld ?_; · (simp only [List.getElem_toArray, List.getElem_cons_succ, List.getElem_cons_zero]; exact Or.inr ⟨by rfl, rfl⟩)
        try simp only [List.getElem_toArray, List.getElem_cons_succ, List.getElem_cons_zero, Act.put, List.setIfInBounds_toArray, List.set_cons_zero, List.set_cons_succ]
        refine wpAnyH_take (i := 22) (v := undef) rfl (by kernel_rfl) (by kernel_rfl) (by kernel_rfl) (fun _ _ _ h => h) ?_ hHeld ?_; · (simp only [List.getElem_toArray, List.getElem_cons_succ, List.getElem_cons_zero]; exact Or.inr ⟨by rfl, rfl⟩)
        try simp only [List.getElem_toArray, List.getElem_cons_succ, List.getElem_cons_zero, Act.put, List.setIfInBounds_toArray, List.set_cons_zero, List.set_cons_succ]
        refine wpAnyH_take (i := 23) (v := ?_) rfl (by kernel_rfl) (by kernel_rfl) (by kernel_rfl) (fun _ _ _ h => h) ?_ hHeld ?_; rotate_left; · (simp only [List.getElem_toArray, List.getElem_cons_succ, List.getElem_cons_zero]; refine Or.inl ⟨by rfl, ?_⟩; intro w hSw; (try dsimp only at hSw); go_simp; try with_reducible rfl)
        try simp only [List.getElem_toArray, List.getElem_cons_succ, List.getElem_cons_zero, Act.put, List.setIfInBounds_toArray, List.set_cons_zero, List.set_cons_succ]
        refine wpAnyH_take (i := 24) (v := ?_) rfl (by kernel_rfl) (by kernel_rfl) (by kernel_rfl) (fun _ _ _ h => h) ?_ hHeld ?_; rotate_left; · (simp only [List.getElem_toArray, List.getElem_cons_succ, List.getElem_cons_zero]; refine Or.inl ⟨by rfl, ?_⟩; intro w hSw; (try dsimp only at hSw); go_simp; try with_reducible rfl)
        try simp only [List.getElem_toArray, List.getElem_cons_succ, List.getElem_cons_zero, Act.put, List.setIfInBounds_toArray, List.set_cons_zero, List.set_cons_succ]
        refine wpAnyH_done (by kernel_rfl) ?_ _
        all_goals
          go_wp2
          exact bodyPost_ret (results_tmp2 rfl _ _ _) rfl ⟨⟨_, false, rfl, fun h => Bool.noConfusion h, fun _ => HS.out⟩, (Below.refl _ w).drew⟩
    · have hwp : IntKind.i64.wrap ((p : Int) + 1) = (p : Int) + 1 := IntWalk.i64_in _ (by omega)
      have hwm : IntKind.i64.wrap ((p : Int) - 1) = (p : Int) - 1 := IntWalk.i64_in _ (by omega)
      by_cases hz : 0 < p
      · obtain ⟨q, rfl⟩ : ∃ q, p = q + 1 := ⟨p - 1, by omega⟩
        have hlt : q < s.size := by omega
        have hwm : IntKind.i64.wrap (((q + 1 : Nat) : Int) - 1) = (q : Int) := by rw [hwm]; omega
        obtain ⟨d, hd⟩ : ∃ d, s[q] = d := ⟨_, rfl⟩
        obtain ⟨hb, hhb⟩ : ∃ hb, has K.cl d.toNat = hb := ⟨_, rfl⟩
        have kd := fun w => kh d.toNat w hb d.toNat_lt hhb
        have hst : stepD true s.data.toList (⟨1, K, x, y⟩ : Nd) (q + 1) = if hb = true then some q else none := by
          rw [e, if_pos rfl, Nat.add_sub_cancel, hin q hlt, hd, hhb]
          cases hb <;> simp
        have HS := Lib.hid hst
        have hltI : (q : Int) < (s.size : Int) := by omega
        have q0 : (0 : Int) ≤ (q : Int) := by omega
        obtain ⟨P, hP⟩ : ∃ P : Int, P = ((q + 1 : Nat) : Int) := ⟨_, rfl⟩
        rw [← hP] at hwp hwm ⊢
        have HP := Lib.hid hP
        clear kh hin hout e hst hhb hP p0 hp hz
        go_enter Try.func89, Try.ntmps89
        go_wp2_with fail
        go_region_held3 (fun W' => W'.cell? ⟨bw, 1, none⟩ = some (.string s) ∧ W'.cell? ⟨b, o + 1, none⟩ = some (.int .u64 (K.a.toNat : Int)) ∧ W'.cell? ⟨b, o + 2, none⟩ = some (.int .u64 (K.b.toNat : Int)) ∧ W'.cell? ⟨b, o + 3, none⟩ = some (.int .u64 (K.c.toNat : Int)) ∧ W'.cell? ⟨b, o + 4, none⟩ = some (.int .u64 (K.d.toNat : Int)))
          (first | with_reducible exact SBH.out _ (Below.refl _ w).drew | with_reducible exact SBH.out _ hd2)
          (first | (go_at_call 100; refine (kd _).mono ?_; rintro e w2 ⟨rfl, hb2⟩; have hd2 : Below w.heap.size w w2 := ((Below.refl _ w).drew).trans hb2))
        all_goals
          go_wp2
          exact bodyPost_ret (results_tmp2 rfl _ _ _) rfl ⟨⟨_, _, rfl, fun h => ⟨q, rfl, by rw [HS.out, if_pos h]⟩, fun h => by rw [HS.out, h]; rfl⟩, (Below.refl _ w).drew.trans hb2⟩
      · obtain rfl : p = 0 := by omega
        have hst : stepD true s.data.toList (⟨1, K, x, y⟩ : Nd) 0 = none := by rw [e]; rfl
        have HS := Lib.hid hst
        clear kh hin hout e hst
        go_enter Try.func89, Try.ntmps89
        go_wp2_with fail
        refine wp_region_held_drew (S := fun W' => W'.cell? ⟨bw, 1, none⟩ = some (.string s)) (by kernel_rfl) (SBH.out _ (Below.refl _ w).drew).1 (fun hHeld => ?_)
        refine wpAnyH_take (i := 0) (v := ?_) rfl (by kernel_rfl) (by kernel_rfl) (by kernel_rfl) (fun _ _ _ h => h) ?_ hHeld ?_; rotate_left; · (simp only [List.getElem_toArray, List.getElem_cons_zero]; refine Or.inl ⟨by rfl, ?_⟩; intro w hSw; (try dsimp only at hSw); go_simp; try with_reducible rfl)
        try simp only [List.getElem_toArray, List.getElem_cons_zero, Act.put, List.setIfInBounds_toArray, List.set_cons_zero, List.set_cons_succ]
        refine wpAnyH_take (i := 1) (v := ?_) rfl (by kernel_rfl) (by kernel_rfl) (by kernel_rfl) (fun _ _ _ h => h) ?_ hHeld ?_; rotate_left; · (simp only [List.getElem_toArray, List.getElem_cons_succ, List.getElem_cons_zero]; refine Or.inl ⟨by rfl, ?_⟩; intro w hSw; (try dsimp only at hSw); go_simp; try with_reducible rfl)
        try simp only [List.getElem_toArray, List.getElem_cons_succ, List.getElem_cons_zero, Act.put, List.setIfInBounds_toArray, List.set_cons_zero, List.set_cons_succ]
        refine wpAnyH_take (i := 2) (v := ?_) rfl (by kernel_rfl) (by kernel_rfl) (by kernel_rfl) (fun _ _ _ h => h) ?_ hHeld ?_; rotate_left; · (simp only [List.getElem_toArray, List.getElem_cons_succ, List.getElem_cons_zero]; refine Or.inl ⟨by rfl, ?_⟩; intro w hSw; (try dsimp only at hSw); go_simp; try with_reducible rfl)
        try simp only [List.getElem_toArray, List.getElem_cons_succ, List.getElem_cons_zero, Act.put, List.setIfInBounds_toArray, List.set_cons_zero, List.set_cons_succ]
        refine wpAnyH_take (i := 3) (v := undef) rfl (by kernel_rfl) (by kernel_rfl) (by kernel_rfl) (fun _ _ _ h => h) ?_ hHeld ?_; · (simp only [List.getElem_toArray, List.getElem_cons_succ, List.getElem_cons_zero]; exact Or.inr ⟨by rfl, rfl⟩)
        try simp only [List.getElem_toArray, List.getElem_cons_succ, List.getElem_cons_zero, Act.put, List.setIfInBounds_toArray, List.set_cons_zero, List.set_cons_succ]
        refine wpAnyH_take (i := 4) (v := undef) rfl (by kernel_rfl) (by kernel_rfl) (by kernel_rfl) (fun _ _ _ h => h) ?_ hHeld ?_; · (simp only [List.getElem_toArray, List.getElem_cons_succ, List.getElem_cons_zero]; exact Or.inr ⟨by rfl, rfl⟩)
        try simp only [List.getElem_toArray, List.getElem_cons_succ, List.getElem_cons_zero, Act.put, List.setIfInBounds_toArray, List.set_cons_zero, List.set_cons_succ]
        refine wpAnyH_take (i := 5) (v := undef) rfl (by kernel_rfl) (by kernel_rfl) (by kernel_rfl) (fun _ _ _ h => h) ?_ hHeld ?_; · (simp only [List.getElem_toArray, List.getElem_cons_succ, List.getElem_cons_zero]; exact Or.inr ⟨by rfl, rfl⟩)
        try simp only [List.getElem_toArray, List.getElem_cons_succ, List.getElem_cons_zero, Act.put, List.setIfInBounds_toArray, List.set_cons_zero, List.set_cons_succ]
        refine wpAnyH_take (i := 6) (v := undef) rfl (by kernel_rfl) (by kernel_rfl) (by kernel_rfl) (fun _ _ _ h => h) ?_ hHeld ?_; · (simp only [List.getElem_toArray, List.getElem_cons_succ, List.getElem_cons_zero]; exact Or.inr ⟨by rfl, rfl⟩)
        try simp only [List.getElem_toArray, List.getElem_cons_succ, List.getElem_cons_zero, Act.put, List.setIfInBounds_toArray, List.set_cons_zero, List.set_cons_succ]
        refine wpAnyH_take (i := 7) (v := undef) rfl (by kernel_rfl) (by kernel_rfl) (by kernel_rfl) (fun _ _ _ h => h) ?_ hHeld ?_; · (simp only [List.getElem_toArray, List.getElem_cons_succ, List.getElem_cons_zero]; exact Or.inr ⟨by rfl, rfl⟩)
        try simp only [List.getElem_toArray, List.getElem_cons_succ, List.getElem_cons_zero, Act.put, List.setIfInBounds_toArray, List.set_cons_zero, List.set_cons_succ]
        refine wpAnyH_take (i := 8) (v := undef) rfl (by kernel_rfl) (by kernel_rfl) (by kernel_rfl) (fun _ _ _ h => h) ?_ hHeld ?_; · (simp only [List.getElem_toArray, List.getElem_cons_succ, List.getElem_cons_zero]; exact Or.inr ⟨by rfl, rfl⟩)
        try simp only [List.getElem_toArray, List.getElem_cons_succ, List.getElem_cons_zero, Act.put, List.setIfInBounds_toArray, List.set_cons_zero, List.set_cons_succ]
        refine wpAnyH_take (i := 9) (v := undef) rfl (by kernel_rfl) (by kernel_rfl) (by kernel_rfl) (fun _ _ _ h => h) ?_ hHeld ?_; · (simp only [List.getElem_toArray, List.getElem_cons_succ, List.getElem_cons_zero]; exact Or.inr ⟨by rfl, rfl⟩)
        try simp only [List.getElem_toArray, List.getElem_cons_succ, List.getElem_cons_zero, Act.put, List.setIfInBounds_toArray, List.set_cons_zero, List.set_cons_succ]
        refine wpAnyH_take (i := 10) (v := ?_) rfl (by kernel_rfl) (by kernel_rfl) (by kernel_rfl) (fun _ _ _ h => h) ?_ hHeld ?_; rotate_left; · (simp only [List.getElem_toArray, List.getElem_cons_succ, List.getElem_cons_zero]; refine Or.inl ⟨by rfl, ?_⟩; intro w hSw; (try dsimp only at hSw); go_simp; try with_reducible rfl)
        try simp only [List.getElem_toArray, List.getElem_cons_succ, List.getElem_cons_zero, Act.put, List.setIfInBounds_toArray, List.set_cons_zero, List.set_cons_succ]
        refine wpAnyH_take (i := 11) (v := ?_) rfl (by kernel_rfl) (by kernel_rfl) (by kernel_rfl) (fun _ _ _ h => h) ?_ hHeld ?_; rotate_left; · (simp only [List.getElem_toArray, List.getElem_cons_succ, List.getElem_cons_zero]; refine Or.inl ⟨by rfl, ?_⟩; intro w hSw; (try dsimp only at hSw); go_simp; try with_reducible rfl)
        try simp only [List.getElem_toArray, List.getElem_cons_succ, List.getElem_cons_zero, Act.put, List.setIfInBounds_toArray, List.set_cons_zero, List.set_cons_succ]
        refine wpAnyH_take (i := 12) (v := undef) rfl (by kernel_rfl) (by kernel_rfl) (by kernel_rfl) (fun _ _ _ h => h) ?_ hHeld ?_; · (simp only [List.getElem_toArray, List.getElem_cons_succ, List.getElem_cons_zero]; exact Or.inr ⟨by rfl, rfl⟩)
        try simp only [List.getElem_toArray, List.getElem_cons_succ, List.getElem_cons_zero, Act.put, List.setIfInBounds_toArray, List.set_cons_zero, List.set_cons_succ]
        refine wpAnyH_take (i := 13) (v := undef) rfl (by kernel_rfl) (by kernel_rfl) (by kernel_rfl) (fun _ _ _ h => h) ?_ hHeld ?_; · (simp only [List.getElem_toArray, List.getElem_cons_succ, List.getElem_cons_zero]; exact Or.inr ⟨by rfl, rfl⟩)
        try simp only [List.getElem_toArray, List.getElem_cons_succ, List.getElem_cons_zero, Act.put, List.setIfInBounds_toArray, List.set_cons_zero, List.set_cons_succ]
        refine wpAnyH_take (i := 14) (v := undef) rfl (by kernel_rfl) (by kernel_rfl) (by kernel_rfl) (fun _ _ _ h => h) ?_ hHeld ?_; · (simp only [List.getElem_toArray, List.getElem_cons_succ, List.getElem_cons_zero]; exact Or.inr ⟨by rfl, rfl⟩)
        try simp only [List.getElem_toArray, List.getElem_cons_succ, List.getElem_cons_zero, Act.put, List.setIfInBounds_toArray, List.set_cons_zero, List.set_cons_succ]
        refine wpAnyH_take (i := 15) (v := undef) rfl (by kernel_rfl) (by kernel_rfl) (by kernel_rfl) (fun _ _ _ h => h) ?_ hHeld ?_; · (simp only [List.getElem_toArray, List.getElem_cons_succ, List.getElem_cons_zero]; exact Or.inr ⟨by rfl, rfl⟩)
        try simp only [List.getElem_toArray, List.getElem_cons_succ, List.getElem_cons_zero, Act.put, List.setIfInBounds_toArray, List.set_cons_zero, List.set_cons_succ]
        refine wpAnyH_take (i := 16) (v := undef) rfl (by kernel_rfl) (by kernel_rfl) (by kernel_rfl) (fun _ _ _ h => h) ?_ hHeld ?_; · (simp only [List.getElem_toArray, List.getElem_cons_succ, List.getElem_cons_zero]; exact Or.inr ⟨by rfl, rfl⟩)
        try simp only [List.getElem_toArray, List.getElem_cons_succ, List.getElem_cons_zero, Act.put, List.setIfInBounds_toArray, List.set_cons_zero, List.set_cons_succ]
        refine wpAnyH_take (i := 17) (v := undef) rfl (by kernel_rfl) (by kernel_rfl) (by kernel_rfl) (fun _ _ _ h => h) ?_ hHeld ?_; · (simp only [List.getElem_toArray, List.getElem_cons_succ, List.getElem_cons_zero]; exact Or.inr ⟨by rfl, rfl⟩)
        try simp only [List.getElem_toArray, List.getElem_cons_succ, List.getElem_cons_zero, Act.put, List.setIfInBounds_toArray, List.set_cons_zero, List.set_cons_succ]
        refine wpAnyH_take (i := 18) (v := undef) rfl (by kernel_rfl) (by kernel_rfl) (by kernel_rfl) (fun _ _ _ h => h) ?_ hHeld ?_; · (simp only [List.getElem_toArray, List.getElem_cons_succ, List.getElem_cons_zero]; exact Or.inr ⟨by rfl, rfl⟩)
        try simp only [List.getElem_toArray, List.getElem_cons_succ, List.getElem_cons_zero, Act.put, List.setIfInBounds_toArray, List.set_cons_zero, List.set_cons_succ]
        refine wpAnyH_take (i := 19) (v := undef) rfl (by kernel_rfl) (by kernel_rfl) (by kernel_rfl) (fun _ _ _ h => h) ?_ hHeld ?_; · (simp only [List.getElem_toArray, List.getElem_cons_succ, List.getElem_cons_zero]; exact Or.inr ⟨by rfl, rfl⟩)
        try simp only [List.getElem_toArray, List.getElem_cons_succ, List.getElem_cons_zero, Act.put, List.setIfInBounds_toArray, List.set_cons_zero, List.set_cons_succ]
        refine wpAnyH_take (i := 20) (v := undef) rfl (by kernel_rfl) (by kernel_rfl) (by kernel_rfl) (fun _ _ _ h => h) ?_ hHeld ?_; · (simp only [List.getElem_toArray, List.getElem_cons_succ, List.getElem_cons_zero]; exact Or.inr ⟨by rfl, rfl⟩)
        try simp only [List.getElem_toArray, List.getElem_cons_succ, List.getElem_cons_zero, Act.put, List.setIfInBounds_toArray, List.set_cons_zero, List.set_cons_succ]
        refine wpAnyH_take (i := 21) (v := undef) rfl (by kernel_rfl) (by kernel_rfl) (by kernel_rfl) (fun _ _ _ h => h) ?_ hHeld ?_; · (simp only [List.getElem_toArray, List.getElem_cons_succ, List.getElem_cons_zero]; exact Or.inr ⟨by rfl, rfl⟩)
        try simp only [List.getElem_toArray, List.getElem_cons_succ, List.getElem_cons_zero, Act.put, List.setIfInBounds_toArray, List.set_cons_zero, List.set_cons_succ]
        refine wpAnyH_take (i := 22) (v := undef) rfl (by kernel_rfl) (by kernel_rfl) (by kernel_rfl) (fun _ _ _ h => h) ?_ hHeld ?_; · (simp only [List.getElem_toArray, List.getElem_cons_succ, List.getElem_cons_zero]; exact Or.inr ⟨by rfl, rfl⟩)
        try simp only [List.getElem_toArray, List.getElem_cons_succ, List.getElem_cons_zero, Act.put, List.setIfInBounds_toArray, List.set_cons_zero, List.set_cons_succ]
        refine wpAnyH_take (i := 23) (v := ?_) rfl (by kernel_rfl) (by kernel_rfl) (by kernel_rfl) (fun _ _ _ h => h) ?_ hHeld ?_; rotate_left; · (simp only [List.getElem_toArray, List.getElem_cons_succ, List.getElem_cons_zero]; refine Or.inl ⟨by rfl, ?_⟩; intro w hSw; (try dsimp only at hSw); go_simp; try with_reducible rfl)
        try simp only [List.getElem_toArray, List.getElem_cons_succ, List.getElem_cons_zero, Act.put, List.setIfInBounds_toArray, List.set_cons_zero, List.set_cons_succ]
        refine wpAnyH_take (i := 24) (v := ?_) rfl (by kernel_rfl) (by kernel_rfl) (by kernel_rfl) (fun _ _ _ h => h) ?_ hHeld ?_; rotate_left; · (simp only [List.getElem_toArray, List.getElem_cons_succ, List.getElem_cons_zero]; refine Or.inl ⟨by rfl, ?_⟩; intro w hSw; (try dsimp only at hSw); go_simp; try with_reducible rfl)
        try simp only [List.getElem_toArray, List.getElem_cons_succ, List.getElem_cons_zero, Act.put, List.setIfInBounds_toArray, List.set_cons_zero, List.set_cons_succ]
        refine wpAnyH_done (by kernel_rfl) ?_ _
        all_goals
          go_wp2
          exact bodyPost_ret (results_tmp2 rfl _ _ _) rfl ⟨⟨_, false, rfl, fun h => Bool.noConfusion h, fun _ => HS.out⟩, (Below.refl _ w).drew⟩
  · go_enter Try.func89, Try.ntmps89
    go_wp2
    refine bodyPost_ret (results_tmp2 rfl _ _ _) rfl ⟨⟨_, _, rfl, fun h => ⟨p, rfl, ?_⟩, fun h => ?_⟩, Below.refl _ _⟩
    · have : p = 0 := by simpa using h
      subst this
      rfl
    · have : ¬ p = 0 := by simpa using h
      have e : stepD bk s.data.toList (⟨7, K, x, y⟩ : Nd) p = if p = 0 then some p else none := rfl
      rw [e, if_neg this]
  · have e8 : stepD bk s.data.toList (⟨8, K, x, y⟩ : Nd) p = if p = s.data.toList.length then some p else none := rfl
    go_enter Try.func89, Try.ntmps89
    go_wp2_with fail
    go_region_law (fail)
    all_goals
      go_wp2
      refine bodyPost_ret (results_tmp2 rfl _ _ _) rfl ⟨⟨_, _, rfl, fun h => ⟨p, rfl, ?_⟩, fun h => ?_⟩, (Below.refl _ w).drew⟩
      · have h2 : (p : Int) = (s.size : Int) := by simpa using h
        rw [e8, if_pos (by rw [hlen]; omega)]
      · have h2 : ¬ (p : Int) = (s.size : Int) := by simpa using h
        rw [e8, if_neg (by rw [hlen]; omega)]
end Go.Proofs.Ytkgpnlldlekcbaa
namespace Go.Proofs.Ytkgpnlldlekcbaa
open Go.RowKit Go.Lib

def markV (br bs bf : Nat) : Value := .func (.func 66) #[] #[.pointer (some ⟨br, 0, none⟩), .pointer (some ⟨bs, 0, none⟩), .pointer (some ⟨bf, 0, none⟩)]
/-- A call of the closure that marks, from w on, whatever has been made meanwhile. -/
def Mark (br bs bf g p : Nat) (w : World) (P : World → Prop) : Prop :=
  ∀ w', Below w.heap.size w w' → Calls Try.prog 66 #[.int .i64 (g : Int), .int .i64 (p : Int), .pointer (some ⟨br, 0, none⟩), .pointer (some ⟨bs, 0, none⟩), .pointer (some ⟨bf, 0, none⟩)] w' fun e w'' => e = .returned (.tuple #[]) ∧ P w''
theorem Mark.below {br bs bf g p : Nat} {w w1 : World} {P : World → Prop} (h : Mark br bs bf g p w P) (hb : Below w.heap.size w w1) : Mark br bs bf g p w1 P := fun w' h' => h w' (hb.trans (h'.mono hb.size))

set_option maxHeartbeats 4000000 in
set_option maxRecDepth 20000 in
theorem enter_cat (bw b o r p x y br bs bf N cap : Nat) (bk : Bool) (w : World) (P : World → Prop) (hr : (r : Int) < (N : Int)) (hx : x ≤ 1000000) (hy : y ≤ 1000000)
    (c0 : w.cell? ⟨bw, 0, none⟩ = some (.slice (some ⟨b, o, none⟩) N cap)) (c2 : w.cell? ⟨bw, 2, none⟩ = some (.bool bk)) (c4 : w.cell? ⟨bw, 4, none⟩ = some (markV br bs bf))
    (a0 : w.cell? ⟨b, o + r * 7, none⟩ = some (.int .i64 2)) (a5 : w.cell? ⟨b, o + r * 7 + 5, none⟩ = some (.int .i64 (x : Int))) (a6 : w.cell? ⟨b, o + r * 7 + 6, none⟩ = some (.int .i64 (y : Int)))
    (km : Mark br bs bf (2 * (if bk = true then y else x)) p w P) (hP : ∀ w', P w' → w'.cell? ⟨bw, 4, none⟩ = some (markV br bs bf)) :
    Calls Try.prog 70 #[.pointer (some ⟨bw, 0, none⟩), .int .i64 (r : Int), .int .i64 (p : Int)] w fun e w' => e = .returned (.tuple #[]) ∧ P w' := by
  unfold markV at c4 hP
  have r0 : (0 : Int) ≤ (r : Int) := by omega
  have kk := wkids_any bw b (o + r * 7) bk x y w c2 a5 a6
  obtain ⟨z, hz⟩ : ∃ z : Nat, z = (if bk = true then y else x) := ⟨_, rfl⟩
  obtain ⟨z2, hz2⟩ : ∃ z2 : Nat, z2 = (if bk = true then x else y) := ⟨_, rfl⟩
  have e1 : (if bk = true then (y : Int) else (x : Int)) = (z : Int) := by rw [hz]; split <;> rfl
  have e2 : (if bk = true then (x : Int) else (y : Int)) = (z2 : Int) := by rw [hz2]; split <;> rfl
  rw [e1, e2] at kk
  rw [← hz] at km
  have hzl : z ≤ 1000000 := by rw [hz]; split <;> omega
  have ki := fun w => in_any z w hzl
  have C4 := Lib.hid c4
  have HP := Lib.hid hP
  clear e1 e2 hz hz2 hx hy a5 a6 c2 c4 hP
  go_enter Try.func70, Try.ntmps70
  go_wp2_with (first
    | (go_at_call 87; refine kk.mono ?_; rintro e w1 ⟨rfl, hb1⟩; have c4 := cell_kept hb1 C4.out; have km1 := km.below hb1; clear km kk c0 a0)
    | fail)
  have SB := Lib.hid (fun W' (hb : Below w1.heap.size w1 W') => (show W'.cell? ⟨bw, 4, none⟩ = some (.func (.func 66) #[] #[.pointer (some ⟨br, 0, none⟩), .pointer (some ⟨bs, 0, none⟩), .pointer (some ⟨bf, 0, none⟩)]) from cell_kept hb c4))
  clear c4
  go_region_held3 (fun W' => W'.cell? ⟨bw, 4, none⟩ = some (.func (.func 66) #[] #[.pointer (some ⟨br, 0, none⟩), .pointer (some ⟨bs, 0, none⟩), .pointer (some ⟨bf, 0, none⟩)]))
    (first | with_reducible exact SB.out _ (Below.refl _ w1).drew | with_reducible exact HP.out _ hP)
    (first
      | (go_at_call 69; refine (ki _).mono ?_; rintro e w2 ⟨rfl, rfl⟩)
      | (go_at_call 66; refine (km1 _ (Below.refl _ _).drew).mono ?_; rintro e w3 ⟨rfl, hP⟩))
  go_wp2
  go_end0
  exact ⟨rfl, hP⟩
set_option maxHeartbeats 4000000 in
set_option maxRecDepth 20000 in
theorem enter_alt (bw b o r p x y br bs bf N cap : Nat) (w : World) (P Q : World → Prop) (hr : (r : Int) < (N : Int)) (hx : x ≤ 1000000) (hy : y ≤ 1000000)
    (c0 : w.cell? ⟨bw, 0, none⟩ = some (.slice (some ⟨b, o, none⟩) N cap)) (c4 : w.cell? ⟨bw, 4, none⟩ = some (markV br bs bf))
    (a0 : w.cell? ⟨b, o + r * 7, none⟩ = some (.int .i64 3)) (a5 : w.cell? ⟨b, o + r * 7 + 5, none⟩ = some (.int .i64 (x : Int)))
    (km : Mark br bs bf (2 * x) p w Q)
    (hQ : ∀ w', Q w' → w'.cell? ⟨bw, 4, none⟩ = some (markV br bs bf) ∧ w'.cell? ⟨b, o + r * 7 + 5, none⟩ = some (.int .i64 (x : Int)) ∧ w'.cell? ⟨b, o + r * 7 + 6, none⟩ = some (.int .i64 (y : Int)) ∧ Mark br bs bf (2 * y) p w' P) (hP : ∀ w', P w' → w'.cell? ⟨bw, 4, none⟩ = some (markV br bs bf) ∧ w'.cell? ⟨b, o + r * 7 + 6, none⟩ = some (.int .i64 (y : Int))) :
    Calls Try.prog 70 #[.pointer (some ⟨bw, 0, none⟩), .int .i64 (r : Int), .int .i64 (p : Int)] w fun e w' => e = .returned (.tuple #[]) ∧ P w' := by
  have ki := fun w => in_any x w hx
  have kj := fun w => in_any y w hy
  clear hx hy
  unfold markV at c4 hP hQ
  have r0 : (0 : Int) ≤ (r : Int) := by omega
  have HP := Lib.hid hP
  have HQ := Lib.hid hQ
  have SB := Lib.hid (fun W' (hb : Below w.heap.size w W') => (show W'.cell? ⟨bw, 4, none⟩ = some (.func (.func 66) #[] #[.pointer (some ⟨br, 0, none⟩), .pointer (some ⟨bs, 0, none⟩), .pointer (some ⟨bf, 0, none⟩)]) ∧ W'.cell? ⟨b, o + r * 7 + 5, none⟩ = some (.int .i64 (x : Int)) from ⟨cell_kept hb c4, cell_kept hb a5⟩))
  clear hP hQ c4 a5
  go_enter Try.func70, Try.ntmps70
  go_wp2_with fail
  go_region_held3 (fun W' => W'.cell? ⟨bw, 4, none⟩ = some (.func (.func 66) #[] #[.pointer (some ⟨br, 0, none⟩), .pointer (some ⟨bs, 0, none⟩), .pointer (some ⟨bf, 0, none⟩)]) ∧ W'.cell? ⟨b, o + r * 7 + 5, none⟩ = some (.int .i64 (x : Int)))
    (first | with_reducible exact SB.out _ (Below.refl _ w).drew | with_reducible exact ⟨(HQ.out _ hq).1, (HQ.out _ hq).2.1⟩)
    (first
      | (go_at_call 69; refine (ki _).mono ?_; rintro e w2 ⟨rfl, rfl⟩)
      | (go_at_call 66; refine (km _ (Below.refl _ _).drew).mono ?_; rintro e w3 ⟨rfl, hq⟩))
  obtain ⟨c4, -, a6, km2⟩ := HQ.out _ hq
  clear SB
  have SB := Lib.hid (fun W' (hb : Below w3.heap.size w3 W') => (show W'.cell? ⟨bw, 4, none⟩ = some (.func (.func 66) #[] #[.pointer (some ⟨br, 0, none⟩), .pointer (some ⟨bs, 0, none⟩), .pointer (some ⟨bf, 0, none⟩)]) ∧ W'.cell? ⟨b, o + r * 7 + 6, none⟩ = some (.int .i64 (y : Int)) from ⟨cell_kept hb c4, cell_kept hb a6⟩))
  clear hq km c4 a6 c0 a0
  go_wp2_with fail
  go_region_held3 (fun W' => W'.cell? ⟨bw, 4, none⟩ = some (.func (.func 66) #[] #[.pointer (some ⟨br, 0, none⟩), .pointer (some ⟨bs, 0, none⟩), .pointer (some ⟨bf, 0, none⟩)]) ∧ W'.cell? ⟨b, o + r * 7 + 6, none⟩ = some (.int .i64 (y : Int)))
    (first | with_reducible exact SB.out _ (Below.refl _ w3).drew | with_reducible exact HP.out _ hP)
    (first
      | (go_at_call 69; refine (kj _).mono ?_; rintro e w2 ⟨rfl, rfl⟩)
      | (go_at_call 66; refine (km2 _ (Below.refl _ _).drew).mono ?_; rintro e w4 ⟨rfl, hP⟩))
  go_wp2
  go_end0
  exact ⟨rfl, hP⟩
set_option maxHeartbeats 4000000 in
set_option maxRecDepth 20000 in
theorem enter_rep (bw b o r p x br bs bf N cap : Nat) (k : Int) (hk : k = 4 ∨ k = 6) (w : World) (P Q : World → Prop) (hr : (r : Int) < (N : Int)) (hx : x ≤ 1000000) (hr2 : r ≤ 1000000)
    (c0 : w.cell? ⟨bw, 0, none⟩ = some (.slice (some ⟨b, o, none⟩) N cap)) (c4 : w.cell? ⟨bw, 4, none⟩ = some (markV br bs bf))
    (a0 : w.cell? ⟨b, o + r * 7, none⟩ = some (.int .i64 k))
    (km : Mark br bs bf (2 * r + 1) p w Q)
    (hQ : ∀ w', Q w' → w'.cell? ⟨bw, 4, none⟩ = some (markV br bs bf) ∧ w'.cell? ⟨b, o + r * 7 + 5, none⟩ = some (.int .i64 (x : Int)) ∧ Mark br bs bf (2 * x) p w' P) (hP : ∀ w', P w' → w'.cell? ⟨bw, 4, none⟩ = some (markV br bs bf) ∧ w'.cell? ⟨b, o + r * 7 + 5, none⟩ = some (.int .i64 (x : Int))) :
    Calls Try.prog 70 #[.pointer (some ⟨bw, 0, none⟩), .int .i64 (r : Int), .int .i64 (p : Int)] w fun e w' => e = .returned (.tuple #[]) ∧ P w' := by
  have ki := fun w => out_any r w hr2
  have kj := fun w => in_any x w hx
  clear hx hr2
  unfold markV at c4 hP hQ
  have r0 : (0 : Int) ≤ (r : Int) := by omega
  have HP := Lib.hid hP
  have HQ := Lib.hid hQ
  have SB := Lib.hid (fun W' (hb : Below w.heap.size w W') => (show W'.cell? ⟨bw, 4, none⟩ = some (.func (.func 66) #[] #[.pointer (some ⟨br, 0, none⟩), .pointer (some ⟨bs, 0, none⟩), .pointer (some ⟨bf, 0, none⟩)]) from cell_kept hb c4))
  clear hP hQ c4
  rcases hk with rfl | rfl
  · go_enter Try.func70, Try.ntmps70
    go_wp2_with fail
    go_region_held3 (fun W' => W'.cell? ⟨bw, 4, none⟩ = some (.func (.func 66) #[] #[.pointer (some ⟨br, 0, none⟩), .pointer (some ⟨bs, 0, none⟩), .pointer (some ⟨bf, 0, none⟩)]))
      (first | with_reducible exact SB.out _ (Below.refl _ w).drew | with_reducible exact (HQ.out _ hq).1)
      (first
        | (go_at_call 88; refine (ki _).mono ?_; rintro e w2 ⟨rfl, rfl⟩)
        | (go_at_call 66; refine (km _ (Below.refl _ _).drew).mono ?_; rintro e w3 ⟨rfl, hq⟩))
    obtain ⟨c4, a5, km2⟩ := HQ.out _ hq
    clear SB
    have SB := Lib.hid (fun W' (hb : Below w3.heap.size w3 W') => (show W'.cell? ⟨bw, 4, none⟩ = some (.func (.func 66) #[] #[.pointer (some ⟨br, 0, none⟩), .pointer (some ⟨bs, 0, none⟩), .pointer (some ⟨bf, 0, none⟩)]) ∧ W'.cell? ⟨b, o + r * 7 + 5, none⟩ = some (.int .i64 (x : Int)) from ⟨cell_kept hb c4, cell_kept hb a5⟩))
    clear hq km c4 a5 c0 a0
    go_wp2_with fail
    go_region_held3 (fun W' => W'.cell? ⟨bw, 4, none⟩ = some (.func (.func 66) #[] #[.pointer (some ⟨br, 0, none⟩), .pointer (some ⟨bs, 0, none⟩), .pointer (some ⟨bf, 0, none⟩)]) ∧ W'.cell? ⟨b, o + r * 7 + 5, none⟩ = some (.int .i64 (x : Int)))
      (first | with_reducible exact SB.out _ (Below.refl _ w3).drew | with_reducible exact HP.out _ hP)
      (first
        | (go_at_call 69; refine (kj _).mono ?_; rintro e w2 ⟨rfl, rfl⟩)
        | (go_at_call 66; refine (km2 _ (Below.refl _ _).drew).mono ?_; rintro e w4 ⟨rfl, hP⟩))
    go_wp2
    go_end0
    exact ⟨rfl, hP⟩
  · go_enter Try.func70, Try.ntmps70
    go_wp2_with fail
    go_region_held3 (fun W' => W'.cell? ⟨bw, 4, none⟩ = some (.func (.func 66) #[] #[.pointer (some ⟨br, 0, none⟩), .pointer (some ⟨bs, 0, none⟩), .pointer (some ⟨bf, 0, none⟩)]))
      (first | with_reducible exact SB.out _ (Below.refl _ w).drew | with_reducible exact (HQ.out _ hq).1)
      (first
        | (go_at_call 88; refine (ki _).mono ?_; rintro e w2 ⟨rfl, rfl⟩)
        | (go_at_call 66; refine (km _ (Below.refl _ _).drew).mono ?_; rintro e w3 ⟨rfl, hq⟩))
    obtain ⟨c4, a5, km2⟩ := HQ.out _ hq
    clear SB
    have SB := Lib.hid (fun W' (hb : Below w3.heap.size w3 W') => (show W'.cell? ⟨bw, 4, none⟩ = some (.func (.func 66) #[] #[.pointer (some ⟨br, 0, none⟩), .pointer (some ⟨bs, 0, none⟩), .pointer (some ⟨bf, 0, none⟩)]) ∧ W'.cell? ⟨b, o + r * 7 + 5, none⟩ = some (.int .i64 (x : Int)) from ⟨cell_kept hb c4, cell_kept hb a5⟩))
    clear hq km c4 a5 c0 a0
    go_wp2_with fail
    go_region_held3 (fun W' => W'.cell? ⟨bw, 4, none⟩ = some (.func (.func 66) #[] #[.pointer (some ⟨br, 0, none⟩), .pointer (some ⟨bs, 0, none⟩), .pointer (some ⟨bf, 0, none⟩)]) ∧ W'.cell? ⟨b, o + r * 7 + 5, none⟩ = some (.int .i64 (x : Int)))
      (first | with_reducible exact SB.out _ (Below.refl _ w3).drew | with_reducible exact HP.out _ hP)
      (first
        | (go_at_call 69; refine (kj _).mono ?_; rintro e w2 ⟨rfl, rfl⟩)
        | (go_at_call 66; refine (km2 _ (Below.refl _ _).drew).mono ?_; rintro e w4 ⟨rfl, hP⟩))
    go_wp2
    go_end0
    exact ⟨rfl, hP⟩
set_option maxHeartbeats 4000000 in
set_option maxRecDepth 20000 in
theorem enter_plus (bw b o r p x br bs bf N cap : Nat) (w : World) (P : World → Prop) (hr : (r : Int) < (N : Int)) (hx : x ≤ 1000000)
    (c0 : w.cell? ⟨bw, 0, none⟩ = some (.slice (some ⟨b, o, none⟩) N cap)) (c4 : w.cell? ⟨bw, 4, none⟩ = some (markV br bs bf))
    (a0 : w.cell? ⟨b, o + r * 7, none⟩ = some (.int .i64 5)) (a5 : w.cell? ⟨b, o + r * 7 + 5, none⟩ = some (.int .i64 (x : Int)))
    (km : Mark br bs bf (2 * x) p w P) (hP : ∀ w', P w' → w'.cell? ⟨bw, 4, none⟩ = some (markV br bs bf) ∧ w'.cell? ⟨b, o + r * 7 + 5, none⟩ = some (.int .i64 (x : Int))) :
    Calls Try.prog 70 #[.pointer (some ⟨bw, 0, none⟩), .int .i64 (r : Int), .int .i64 (p : Int)] w fun e w' => e = .returned (.tuple #[]) ∧ P w' := by
  unfold markV at c4 hP
  have r0 : (0 : Int) ≤ (r : Int) := by omega
  have ki := fun w => in_any x w hx
  have HP := Lib.hid hP
  have SB := Lib.hid (fun W' (hb : Below w.heap.size w W') => (show W'.cell? ⟨bw, 4, none⟩ = some (.func (.func 66) #[] #[.pointer (some ⟨br, 0, none⟩), .pointer (some ⟨bs, 0, none⟩), .pointer (some ⟨bf, 0, none⟩)]) ∧ W'.cell? ⟨b, o + r * 7 + 5, none⟩ = some (.int .i64 (x : Int)) from ⟨cell_kept hb c4, cell_kept hb a5⟩))
  clear hx hP c4 a5
  go_enter Try.func70, Try.ntmps70
  go_wp2_with fail
  go_region_held3 (fun W' => W'.cell? ⟨bw, 4, none⟩ = some (.func (.func 66) #[] #[.pointer (some ⟨br, 0, none⟩), .pointer (some ⟨bs, 0, none⟩), .pointer (some ⟨bf, 0, none⟩)]) ∧ W'.cell? ⟨b, o + r * 7 + 5, none⟩ = some (.int .i64 (x : Int)))
    (first | with_reducible exact SB.out _ (Below.refl _ w).drew | with_reducible exact HP.out _ hP)
    (first
      | (go_at_call 69; refine (ki _).mono ?_; rintro e w2 ⟨rfl, rfl⟩)
      | (go_at_call 66; refine (km _ (Below.refl _ _).drew).mono ?_; rintro e w3 ⟨rfl, hP⟩))
  go_wp2
  go_end0
  exact ⟨rfl, hP⟩
set_option maxHeartbeats 4000000 in
set_option maxRecDepth 20000 in
theorem enter_leafW (bw b o r p br bs bf N cap : Nat) (k : Int) (hk : k = 0 ∨ k = 1 ∨ k = 7 ∨ k = 8) (R : Option Nat) (w : World) (P : World → Prop) (hr : (r : Int) < (N : Int)) (hr2 : r ≤ 1000000)
    (c0 : w.cell? ⟨bw, 0, none⟩ = some (.slice (some ⟨b, o, none⟩) N cap)) (c4 : w.cell? ⟨bw, 4, none⟩ = some (markV br bs bf))
    (a0 : w.cell? ⟨b, o + r * 7, none⟩ = some (.int .i64 k))
    (ks : Calls Try.prog 89 #[.pointer (some ⟨bw, 0, none⟩), .pointer (some ⟨b, o + r * 7, none⟩), .int .i64 (p : Int)] w fun e w' => (∃ (q : Int) (is : Bool), e = .returned (.tuple #[.int .i64 q, .bool is]) ∧ (is = true → ∃ q' : Nat, q = (q' : Int) ∧ R = some q') ∧ (is = false → R = none)) ∧ Below w.heap.size w w')
    (hno : R = none → ∀ w', Below w.heap.size w w' → P w') (km : ∀ q', R = some q' → Mark br bs bf (2 * r + 1) q' w P) (hP : ∀ w', P w' → w'.cell? ⟨bw, 4, none⟩ = some (markV br bs bf)) :
    Calls Try.prog 70 #[.pointer (some ⟨bw, 0, none⟩), .int .i64 (r : Int), .int .i64 (p : Int)] w fun e w' => e = .returned (.tuple #[]) ∧ P w' := by
  unfold markV at c4 hP
  have r0 : (0 : Int) ≤ (r : Int) := by omega
  have ki := fun w => out_any r w hr2
  have C4 := Lib.hid c4
  have HP := Lib.hid hP
  clear hr2 c4 hP
  rcases hk with rfl | rfl | rfl | rfl
  · go_enter Try.func70, Try.ntmps70
    go_wp2_with (first
      | (go_at_call 89; refine ks.mono ?_; rintro e w1 ⟨⟨q, is, rfl, hyes, hnot⟩, hb1⟩; clear ks c0 a0)
      | fail)
    rotate_left
    · go_end0
      exact ⟨rfl, hno (hnot (by assumption)) _ hb1⟩
    · obtain ⟨q', rfl, hR⟩ := hyes (by assumption)
      have km1 := (km q' hR).below hb1
      have c4 := cell_kept hb1 C4.out
      have SB := Lib.hid (fun W' (hb : Below w1.heap.size w1 W') => (show W'.cell? ⟨bw, 4, none⟩ = some (.func (.func 66) #[] #[.pointer (some ⟨br, 0, none⟩), .pointer (some ⟨bs, 0, none⟩), .pointer (some ⟨bf, 0, none⟩)]) from cell_kept hb c4))
      clear hyes hnot hno km c4
      go_wp2_with fail
      go_region_held3 (fun W' => W'.cell? ⟨bw, 4, none⟩ = some (.func (.func 66) #[] #[.pointer (some ⟨br, 0, none⟩), .pointer (some ⟨bs, 0, none⟩), .pointer (some ⟨bf, 0, none⟩)]))
        (first | with_reducible exact SB.out _ (Below.refl _ w1).drew | with_reducible exact HP.out _ hP)
        (first
          | (go_at_call 88; refine (ki _).mono ?_; rintro e w2 ⟨rfl, rfl⟩)
          | (go_at_call 66; refine (km1 _ (Below.refl _ _).drew).mono ?_; rintro e w3 ⟨rfl, hP⟩))
      go_wp2
      go_end0
      exact ⟨rfl, hP⟩
  · go_enter Try.func70, Try.ntmps70
    go_wp2_with (first
      | (go_at_call 89; refine ks.mono ?_; rintro e w1 ⟨⟨q, is, rfl, hyes, hnot⟩, hb1⟩; clear ks c0 a0)
      | fail)
    rotate_left
    · go_end0
      exact ⟨rfl, hno (hnot (by assumption)) _ hb1⟩
    · obtain ⟨q', rfl, hR⟩ := hyes (by assumption)
      have km1 := (km q' hR).below hb1
      have c4 := cell_kept hb1 C4.out
      have SB := Lib.hid (fun W' (hb : Below w1.heap.size w1 W') => (show W'.cell? ⟨bw, 4, none⟩ = some (.func (.func 66) #[] #[.pointer (some ⟨br, 0, none⟩), .pointer (some ⟨bs, 0, none⟩), .pointer (some ⟨bf, 0, none⟩)]) from cell_kept hb c4))
      clear hyes hnot hno km c4
      go_wp2_with fail
      go_region_held3 (fun W' => W'.cell? ⟨bw, 4, none⟩ = some (.func (.func 66) #[] #[.pointer (some ⟨br, 0, none⟩), .pointer (some ⟨bs, 0, none⟩), .pointer (some ⟨bf, 0, none⟩)]))
        (first | with_reducible exact SB.out _ (Below.refl _ w1).drew | with_reducible exact HP.out _ hP)
        (first
          | (go_at_call 88; refine (ki _).mono ?_; rintro e w2 ⟨rfl, rfl⟩)
          | (go_at_call 66; refine (km1 _ (Below.refl _ _).drew).mono ?_; rintro e w3 ⟨rfl, hP⟩))
      go_wp2
      go_end0
      exact ⟨rfl, hP⟩
  · go_enter Try.func70, Try.ntmps70
    go_wp2_with (first
      | (go_at_call 89; refine ks.mono ?_; rintro e w1 ⟨⟨q, is, rfl, hyes, hnot⟩, hb1⟩; clear ks c0 a0)
      | fail)
    rotate_left
    · go_end0
      exact ⟨rfl, hno (hnot (by assumption)) _ hb1⟩
    · obtain ⟨q', rfl, hR⟩ := hyes (by assumption)
      have km1 := (km q' hR).below hb1
      have c4 := cell_kept hb1 C4.out
      have SB := Lib.hid (fun W' (hb : Below w1.heap.size w1 W') => (show W'.cell? ⟨bw, 4, none⟩ = some (.func (.func 66) #[] #[.pointer (some ⟨br, 0, none⟩), .pointer (some ⟨bs, 0, none⟩), .pointer (some ⟨bf, 0, none⟩)]) from cell_kept hb c4))
      clear hyes hnot hno km c4
      go_wp2_with fail
      go_region_held3 (fun W' => W'.cell? ⟨bw, 4, none⟩ = some (.func (.func 66) #[] #[.pointer (some ⟨br, 0, none⟩), .pointer (some ⟨bs, 0, none⟩), .pointer (some ⟨bf, 0, none⟩)]))
        (first | with_reducible exact SB.out _ (Below.refl _ w1).drew | with_reducible exact HP.out _ hP)
        (first
          | (go_at_call 88; refine (ki _).mono ?_; rintro e w2 ⟨rfl, rfl⟩)
          | (go_at_call 66; refine (km1 _ (Below.refl _ _).drew).mono ?_; rintro e w3 ⟨rfl, hP⟩))
      go_wp2
      go_end0
      exact ⟨rfl, hP⟩
  · go_enter Try.func70, Try.ntmps70
    go_wp2_with (first
      | (go_at_call 89; refine ks.mono ?_; rintro e w1 ⟨⟨q, is, rfl, hyes, hnot⟩, hb1⟩; clear ks c0 a0)
      | fail)
    rotate_left
    · go_end0
      exact ⟨rfl, hno (hnot (by assumption)) _ hb1⟩
    · obtain ⟨q', rfl, hR⟩ := hyes (by assumption)
      have km1 := (km q' hR).below hb1
      have c4 := cell_kept hb1 C4.out
      have SB := Lib.hid (fun W' (hb : Below w1.heap.size w1 W') => (show W'.cell? ⟨bw, 4, none⟩ = some (.func (.func 66) #[] #[.pointer (some ⟨br, 0, none⟩), .pointer (some ⟨bs, 0, none⟩), .pointer (some ⟨bf, 0, none⟩)]) from cell_kept hb c4))
      clear hyes hnot hno km c4
      go_wp2_with fail
      go_region_held3 (fun W' => W'.cell? ⟨bw, 4, none⟩ = some (.func (.func 66) #[] #[.pointer (some ⟨br, 0, none⟩), .pointer (some ⟨bs, 0, none⟩), .pointer (some ⟨bf, 0, none⟩)]))
        (first | with_reducible exact SB.out _ (Below.refl _ w1).drew | with_reducible exact HP.out _ hP)
        (first
          | (go_at_call 88; refine (ki _).mono ?_; rintro e w2 ⟨rfl, rfl⟩)
          | (go_at_call 66; refine (km1 _ (Below.refl _ _).drew).mono ?_; rintro e w3 ⟨rfl, hP⟩))
      go_wp2
      go_end0
      exact ⟨rfl, hP⟩
end Go.Proofs.Ytkgpnlldlekcbaa
namespace Go.Proofs.Ytkgpnlldlekcbaa
open Go.RowKit Go.Lib

set_option maxHeartbeats 4000000 in
set_option maxRecDepth 20000 in
theorem leave_cat (bw b o r u p x y br bs bf N cap bu Lu Cu : Nat) (bk : Bool) (w : World) (P : World → Prop) (hr : (r : Int) < (Lu : Int)) (hu : (u : Int) < (N : Int)) (hu2 : u ≤ 1000000) (hx : x ≤ 1000000) (hy : y ≤ 1000000)
    (c0 : w.cell? ⟨bw, 0, none⟩ = some (.slice (some ⟨b, o, none⟩) N cap)) (c2 : w.cell? ⟨bw, 2, none⟩ = some (.bool bk)) (c3 : w.cell? ⟨bw, 3, none⟩ = some (.slice (some ⟨bu, 0, none⟩) Lu Cu)) (c4 : w.cell? ⟨bw, 4, none⟩ = some (markV br bs bf))
    (cu : w.cell? ⟨bu, r, none⟩ = some (.int .i64 (u : Int)))
    (a0 : w.cell? ⟨b, o + u * 7, none⟩ = some (.int .i64 2)) (a5 : w.cell? ⟨b, o + u * 7 + 5, none⟩ = some (.int .i64 (x : Int))) (a6 : w.cell? ⟨b, o + u * 7 + 6, none⟩ = some (.int .i64 (y : Int)))
    (k1 : (r : Int) = (if bk = true then (y : Int) else (x : Int)) → Mark br bs bf (2 * (if bk = true then x else y)) p w P) (k2 : ¬ (r : Int) = (if bk = true then (y : Int) else (x : Int)) → Mark br bs bf (2 * u + 1) p w P) (hP : ∀ w', P w' → w'.cell? ⟨bw, 4, none⟩ = some (markV br bs bf)) :
    Calls Try.prog 71 #[.pointer (some ⟨bw, 0, none⟩), .int .i64 (r : Int), .int .i64 (p : Int)] w fun e w' => e = .returned (.tuple #[]) ∧ P w' := by
  unfold markV at c4 hP
  have HP := Lib.hid hP
  clear hP
  have r0 : (0 : Int) ≤ (r : Int) := by omega
  have u0 : (0 : Int) ≤ (u : Int) := by omega
  have kk := wkids_any bw b (o + u * 7) bk x y w c2 a5 a6
  obtain ⟨z, hz⟩ : ∃ z : Nat, z = (if bk = true then y else x) := ⟨_, rfl⟩
  obtain ⟨z2, hz2⟩ : ∃ z2 : Nat, z2 = (if bk = true then x else y) := ⟨_, rfl⟩
  have e1 : (if bk = true then (y : Int) else (x : Int)) = (z : Int) := by rw [hz]; split <;> rfl
  have e2 : (if bk = true then (x : Int) else (y : Int)) = (z2 : Int) := by rw [hz2]; split <;> rfl
  rw [e1, e2] at kk
  rw [e1, ← hz2] at k1
  rw [e1] at k2
  have hzl : z2 ≤ 1000000 := by rw [hz2]; split <;> omega
  have ki := fun w => in_any z2 w hzl
  have ko := fun w => out_any u w hu2
  have C4 := Lib.hid c4
  clear e1 e2 hz hz2 hx hy a5 a6 c2 c4 hu2
  by_cases he : (r : Int) = (z : Int)
  · have km := k1 he
    have hd : ((r : Int) == (z : Int)) = true := by simpa using he
    clear k1 k2 he
    go_enter Try.func71, Try.ntmps71
    go_wp2_with (first
      | (go_at_call 87; refine kk.mono ?_; rintro e w1 ⟨rfl, hb1⟩; have d4 := cell_kept hb1 C4.out; have SB := Lib.hid (fun W' (hb : Below w1.heap.size w1 W') => (show W'.cell? ⟨bw, 4, none⟩ = some (.func (.func 66) #[] #[.pointer (some ⟨br, 0, none⟩), .pointer (some ⟨bs, 0, none⟩), .pointer (some ⟨bf, 0, none⟩)]) from cell_kept hb (cell_kept hb1 C4.out))); have km1 := km.below hb1; clear km kk c0 c3 cu a0)
      | fail)
    clear d4
    go_region_held3 (fun W' => W'.cell? ⟨bw, 4, none⟩ = some (.func (.func 66) #[] #[.pointer (some ⟨br, 0, none⟩), .pointer (some ⟨bs, 0, none⟩), .pointer (some ⟨bf, 0, none⟩)]))
      (first | with_reducible exact SB.out _ (Below.refl _ w1).drew | with_reducible exact HP.out _ hP)
      (first
        | (go_at_call 69; refine (ki _).mono ?_; rintro e w2 ⟨rfl, rfl⟩)
        | (go_at_call 66; refine (km1 _ (Below.refl _ _).drew).mono ?_; rintro e w3 ⟨rfl, hP⟩))
    go_wp2
    exact bodyPost_ret (results_none rfl _ _ _) rfl ⟨rfl, hP⟩
  · have km := k2 he
    have hd : ((r : Int) == (z : Int)) = false := by simpa using he
    clear k1 k2 he
    go_enter Try.func71, Try.ntmps71
    go_wp2_with (first
      | (go_at_call 87; refine kk.mono ?_; rintro e w1 ⟨rfl, hb1⟩; have d4 := cell_kept hb1 C4.out; have SB := Lib.hid (fun W' (hb : Below w1.heap.size w1 W') => (show W'.cell? ⟨bw, 4, none⟩ = some (.func (.func 66) #[] #[.pointer (some ⟨br, 0, none⟩), .pointer (some ⟨bs, 0, none⟩), .pointer (some ⟨bf, 0, none⟩)]) from cell_kept hb (cell_kept hb1 C4.out))); have km1 := km.below hb1; clear km kk c0 c3 cu a0)
      | fail)
    clear d4
    go_region_held3 (fun W' => W'.cell? ⟨bw, 4, none⟩ = some (.func (.func 66) #[] #[.pointer (some ⟨br, 0, none⟩), .pointer (some ⟨bs, 0, none⟩), .pointer (some ⟨bf, 0, none⟩)]))
      (first | with_reducible exact SB.out _ (Below.refl _ w1).drew | with_reducible exact HP.out _ hP)
      (first
        | (go_at_call 88; refine (ko _).mono ?_; rintro e w2 ⟨rfl, rfl⟩)
        | (go_at_call 66; refine (km1 _ (Below.refl _ _).drew).mono ?_; rintro e w3 ⟨rfl, hP⟩))
    go_wp2
    go_end0
    exact ⟨rfl, hP⟩
set_option maxHeartbeats 4000000 in
set_option maxRecDepth 20000 in
theorem leave_loop (bw b o r u p br bs bf N cap bu Lu Cu : Nat) (k : Int) (hk : k = 4 ∨ k = 5) (w : World) (P Q : World → Prop) (hr : (r : Int) < (Lu : Int)) (hu : (u : Int) < (N : Int)) (hu2 : u ≤ 1000000) (hr2 : r ≤ 1000000)
    (c0 : w.cell? ⟨bw, 0, none⟩ = some (.slice (some ⟨b, o, none⟩) N cap)) (c3 : w.cell? ⟨bw, 3, none⟩ = some (.slice (some ⟨bu, 0, none⟩) Lu Cu)) (c4 : w.cell? ⟨bw, 4, none⟩ = some (markV br bs bf))
    (cu : w.cell? ⟨bu, r, none⟩ = some (.int .i64 (u : Int)))
    (a0 : w.cell? ⟨b, o + u * 7, none⟩ = some (.int .i64 k))
    (km : Mark br bs bf (2 * r) p w Q)
    (hQ : ∀ w', Q w' → w'.cell? ⟨bw, 4, none⟩ = some (markV br bs bf) ∧ Mark br bs bf (2 * u + 1) p w' P) (hP : ∀ w', P w' → w'.cell? ⟨bw, 4, none⟩ = some (markV br bs bf)) :
    Calls Try.prog 71 #[.pointer (some ⟨bw, 0, none⟩), .int .i64 (r : Int), .int .i64 (p : Int)] w fun e w' => e = .returned (.tuple #[]) ∧ P w' := by
  unfold markV at c4 hQ hP
  have HP := Lib.hid hP
  have HQ := Lib.hid hQ
  have SB := Lib.hid (fun W' (hb : Below w.heap.size w W') => (show W'.cell? ⟨bw, 4, none⟩ = some (.func (.func 66) #[] #[.pointer (some ⟨br, 0, none⟩), .pointer (some ⟨bs, 0, none⟩), .pointer (some ⟨bf, 0, none⟩)]) from cell_kept hb c4))
  clear hP hQ c4
  have r0 : (0 : Int) ≤ (r : Int) := by omega
  have u0 : (0 : Int) ≤ (u : Int) := by omega
  have ki := fun w => in_any r w hr2
  have ko := fun w => out_any u w hu2
  clear hr2 hu2
  rcases hk with rfl | rfl
  · go_enter Try.func71, Try.ntmps71
    go_wp2_with fail
    go_region_held3 (fun W' => W'.cell? ⟨bw, 4, none⟩ = some (.func (.func 66) #[] #[.pointer (some ⟨br, 0, none⟩), .pointer (some ⟨bs, 0, none⟩), .pointer (some ⟨bf, 0, none⟩)]))
      (first | with_reducible exact SB.out _ (Below.refl _ w).drew | with_reducible exact (HQ.out _ hq).1)
      (first
        | (go_at_call 69; refine (ki _).mono ?_; rintro e w2 ⟨rfl, rfl⟩)
        | (go_at_call 66; refine (km _ (Below.refl _ _).drew).mono ?_; rintro e w3 ⟨rfl, hq⟩))
    obtain ⟨c4, km2⟩ := HQ.out _ hq
    clear SB
    have SB := Lib.hid (fun W' (hb : Below w3.heap.size w3 W') => (show W'.cell? ⟨bw, 4, none⟩ = some (.func (.func 66) #[] #[.pointer (some ⟨br, 0, none⟩), .pointer (some ⟨bs, 0, none⟩), .pointer (some ⟨bf, 0, none⟩)]) from cell_kept hb c4))
    clear hq km c0 c3 c4 cu a0
    go_wp2_with fail
    go_region_held3 (fun W' => W'.cell? ⟨bw, 4, none⟩ = some (.func (.func 66) #[] #[.pointer (some ⟨br, 0, none⟩), .pointer (some ⟨bs, 0, none⟩), .pointer (some ⟨bf, 0, none⟩)]))
      (first | with_reducible exact SB.out _ (Below.refl _ w3).drew | with_reducible exact HP.out _ hP)
      (first
        | (go_at_call 88; refine (ko _).mono ?_; rintro e w2 ⟨rfl, rfl⟩)
        | (go_at_call 66; refine (km2 _ (Below.refl _ _).drew).mono ?_; rintro e w4 ⟨rfl, hP⟩))
    go_wp2
    go_end0
    exact ⟨rfl, hP⟩
  · go_enter Try.func71, Try.ntmps71
    go_wp2_with fail
    go_region_held3 (fun W' => W'.cell? ⟨bw, 4, none⟩ = some (.func (.func 66) #[] #[.pointer (some ⟨br, 0, none⟩), .pointer (some ⟨bs, 0, none⟩), .pointer (some ⟨bf, 0, none⟩)]))
      (first | with_reducible exact SB.out _ (Below.refl _ w).drew | with_reducible exact (HQ.out _ hq).1)
      (first
        | (go_at_call 69; refine (ki _).mono ?_; rintro e w2 ⟨rfl, rfl⟩)
        | (go_at_call 66; refine (km _ (Below.refl _ _).drew).mono ?_; rintro e w3 ⟨rfl, hq⟩))
    obtain ⟨c4, km2⟩ := HQ.out _ hq
    clear SB
    have SB := Lib.hid (fun W' (hb : Below w3.heap.size w3 W') => (show W'.cell? ⟨bw, 4, none⟩ = some (.func (.func 66) #[] #[.pointer (some ⟨br, 0, none⟩), .pointer (some ⟨bs, 0, none⟩), .pointer (some ⟨bf, 0, none⟩)]) from cell_kept hb c4))
    clear hq km c0 c3 c4 cu a0
    go_wp2_with fail
    go_region_held3 (fun W' => W'.cell? ⟨bw, 4, none⟩ = some (.func (.func 66) #[] #[.pointer (some ⟨br, 0, none⟩), .pointer (some ⟨bs, 0, none⟩), .pointer (some ⟨bf, 0, none⟩)]))
      (first | with_reducible exact SB.out _ (Below.refl _ w3).drew | with_reducible exact HP.out _ hP)
      (first
        | (go_at_call 88; refine (ko _).mono ?_; rintro e w2 ⟨rfl, rfl⟩)
        | (go_at_call 66; refine (km2 _ (Below.refl _ _).drew).mono ?_; rintro e w4 ⟨rfl, hP⟩))
    go_wp2
    go_end0
    exact ⟨rfl, hP⟩
set_option maxHeartbeats 4000000 in
set_option maxRecDepth 20000 in
theorem leave_up (bw b o r u p br bs bf N cap bu Lu Cu : Nat) (k : Int) (hk : k = 3 ∨ k = 6) (w : World) (P : World → Prop) (hr : (r : Int) < (Lu : Int)) (hu : (u : Int) < (N : Int)) (hu2 : u ≤ 1000000)
    (c0 : w.cell? ⟨bw, 0, none⟩ = some (.slice (some ⟨b, o, none⟩) N cap)) (c3 : w.cell? ⟨bw, 3, none⟩ = some (.slice (some ⟨bu, 0, none⟩) Lu Cu)) (c4 : w.cell? ⟨bw, 4, none⟩ = some (markV br bs bf))
    (cu : w.cell? ⟨bu, r, none⟩ = some (.int .i64 (u : Int)))
    (a0 : w.cell? ⟨b, o + u * 7, none⟩ = some (.int .i64 k))
    (km : Mark br bs bf (2 * u + 1) p w P) (hP : ∀ w', P w' → w'.cell? ⟨bw, 4, none⟩ = some (markV br bs bf)) :
    Calls Try.prog 71 #[.pointer (some ⟨bw, 0, none⟩), .int .i64 (r : Int), .int .i64 (p : Int)] w fun e w' => e = .returned (.tuple #[]) ∧ P w' := by
  unfold markV at c4 hP
  have HP := Lib.hid hP
  clear hP
  have r0 : (0 : Int) ≤ (r : Int) := by omega
  have u0 : (0 : Int) ≤ (u : Int) := by omega
  have ko := fun w => out_any u w hu2
  clear hu2
  have SB := Lib.hid (fun W' (hb : Below w.heap.size w W') => (show W'.cell? ⟨bw, 4, none⟩ = some (.func (.func 66) #[] #[.pointer (some ⟨br, 0, none⟩), .pointer (some ⟨bs, 0, none⟩), .pointer (some ⟨bf, 0, none⟩)]) from cell_kept hb c4))
  clear c4
  rcases hk with rfl | rfl
  · go_enter Try.func71, Try.ntmps71
    go_wp2_with fail
    go_region_held3 (fun W' => W'.cell? ⟨bw, 4, none⟩ = some (.func (.func 66) #[] #[.pointer (some ⟨br, 0, none⟩), .pointer (some ⟨bs, 0, none⟩), .pointer (some ⟨bf, 0, none⟩)]))
      (first | with_reducible exact SB.out _ (Below.refl _ w).drew | with_reducible exact HP.out _ hP)
      (first
        | (go_at_call 88; refine (ko _).mono ?_; rintro e w2 ⟨rfl, rfl⟩)
        | (go_at_call 66; refine (km _ (Below.refl _ _).drew).mono ?_; rintro e w3 ⟨rfl, hP⟩))
    go_wp2
    go_end0
    exact ⟨rfl, hP⟩
  · go_enter Try.func71, Try.ntmps71
    go_wp2_with fail
    go_region_held3 (fun W' => W'.cell? ⟨bw, 4, none⟩ = some (.func (.func 66) #[] #[.pointer (some ⟨br, 0, none⟩), .pointer (some ⟨bs, 0, none⟩), .pointer (some ⟨bf, 0, none⟩)]))
      (first | with_reducible exact SB.out _ (Below.refl _ w).drew | with_reducible exact HP.out _ hP)
      (first
        | (go_at_call 88; refine (ko _).mono ?_; rintro e w2 ⟨rfl, rfl⟩)
        | (go_at_call 66; refine (km _ (Below.refl _ _).drew).mono ?_; rintro e w3 ⟨rfl, hP⟩))
    go_wp2
    go_end0
    exact ⟨rfl, hP⟩
end Go.Proofs.Ytkgpnlldlekcbaa
