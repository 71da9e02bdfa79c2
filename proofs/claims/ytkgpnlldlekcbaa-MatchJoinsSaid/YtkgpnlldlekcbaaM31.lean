/- Packed texts: ReRefJoin, ReRefJoinC. What each of them proves stands above its theorems; the conditions stand in these. -/
import Derived.Deep.LoopGhost
import Derived.Laws.CopyOwn
import Derived.Test.YtkgpnlldlekcbaaM8
import Derived.Test.YtkgpnlldlekcbaaM9
import Derived.Test.YtkgpnlldlekcbaaM25
namespace Go.Proofs.Ytkgpnlldlekcbaa
open Go.RowKit Go.Lib

/-- A node whose row begins so much later. -/
def movedN (n : Nat) (q : Nd) : Nd := ⟨q.k, q.s, if 0 < kidsN q.k then q.x + n else q.x, if 1 < kidsN q.k then q.y + n else q.y⟩
theorem row_moved (n : Nat) : ∀ (t : Tr), t.ok → ∀ m, t.row (n + m) = (t.row m).map (movedN n)
  | .leaf j, h, m => by
    have hj : j = 0 ∨ j = 7 ∨ j = 8 := h
    rcases hj with rfl | rfl | rfl <;> rfl
  | .set k, _, m => rfl
  | .rep j a, h, m => by
    obtain ⟨hj, ha⟩ := h
    show a.row (n + m) ++ [_] = (a.row m ++ [_]).map (movedN n)
    rw [row_moved n a ha m, List.map_append]
    congr 1
    show [(⟨_, _, _, _⟩ : Nd)] = [movedN n ⟨_, _, _, _⟩]
    have e : kidsN (j : Int) = 1 := by rcases hj with rfl | rfl | rfl <;> rfl
    unfold movedN
    dsimp only
    rw [e, if_pos (by omega), if_neg (by omega)]
    congr 2
    omega
  | .two j a b, h, m => by
    obtain ⟨hj, ha, hb⟩ := h
    show a.row (n + m) ++ (b.row (n + m + a.size) ++ [_]) = (a.row m ++ (b.row (m + a.size) ++ [_])).map (movedN n)
    rw [row_moved n a ha m, Nat.add_assoc n m, row_moved n b hb (m + a.size), List.map_append, List.map_append]
    congr 2
    show [(⟨_, _, _, _⟩ : Nd)] = [movedN n ⟨_, _, _, _⟩]
    have e : kidsN (j : Int) = 2 := by rcases hj with rfl | rfl <;> rfl
    unfold movedN
    dsimp only
    rw [e, if_pos (by omega), if_pos (by omega)]
    congr 2 <;> omega
/-- Kids that are small whole numbers. -/
def Small (ys : List Nd) : Prop := ∀ q ∈ ys, 0 ≤ q.x ∧ q.x ≤ 4000 ∧ 0 ≤ q.y ∧ q.y ≤ 4000
theorem row_small : ∀ (t : Tr) (n : Nat), n + t.size ≤ 4000 → Small (t.row n)
  | .leaf j, n, _ => fun q hq => by
    have : q = ⟨j, k0, 0, 0⟩ := List.mem_singleton.1 hq
    subst this
    dsimp only
    omega
  | .set k, n, _ => fun q hq => by
    have : q = ⟨1, k, 0, 0⟩ := List.mem_singleton.1 hq
    subst this
    dsimp only
    omega
  | .rep j a, n, h => fun q hq => by
    have h : n + (a.size + 1) ≤ 4000 := h
    have hp := a.size_pos
    rcases List.mem_append.1 (show q ∈ a.row n ++ [_] from hq) with hq | hq
    · exact row_small a n (by omega) q hq
    · rw [List.mem_singleton.1 hq]
      dsimp only
      omega
  | .two j a b, n, h => fun q hq => by
    have h : n + (a.size + b.size + 1) ≤ 4000 := h
    have hp := a.size_pos
    have hp2 := b.size_pos
    rcases List.mem_append.1 (show q ∈ a.row n ++ (b.row (n + a.size) ++ [_]) from hq) with hq | hq
    · exact row_small a n (by omega) q hq
    · rcases List.mem_append.1 hq with hq | hq
      · exact row_small b (n + a.size) (by omega) q hq
      · rw [List.mem_singleton.1 hq]
        dsimp only
        omega
theorem two_row (j : Nat) (S T : Tr) (h : T.ok) : (Tr.two j S T).row 0 = (S.row 0 ++ (T.row 0).map (movedN S.size)) ++ [⟨(j : Int), k0, (S.size : Int) - 1, (S.size : Int) + T.size - 1⟩] := by
  have e := row_moved S.size T h 0
  show S.row 0 ++ (T.row (0 + S.size) ++ [(⟨(j : Int), k0, ((0 : Nat) : Int) + S.size - 1, ((0 : Nat) : Int) + S.size + T.size - 1⟩ : Nd)]) = _
  rw [Nat.zero_add, ← e, Nat.add_zero, List.append_assoc]
  simp

/-- The cells of a row that lies, from its beginning. -/
theorem lies_cells {b o N cap : Nat} {ts : List Nd} {w : World} (h : Lies (.slice (some ⟨b, o, none⟩) N cap) ts w) : ∀ j u, (ndC ts)[j]? = some u → w.cell? ((⟨b, o, none⟩ : Addr).add j) = some u := by
  intro j u hj
  have hl : j < (ndC ts).length := by
    by_cases hlt : j < (ndC ts).length
    · exact hlt
    · rw [List.getElem?_eq_none (by omega)] at hj; cases hj
  rw [ndC_length] at hl
  have hq : j / 7 < ts.length := by omega
  have hm : j % 7 < 7 := by omega
  have e : j = j / 7 * 7 + j % 7 := by omega
  have hn : ts[j / 7]? = some (ts[j / 7]'hq) := List.getElem?_eq_getElem _
  generalize (ts[j / 7]'hq) = n at hn
  rw [e, ndC_get ts (j / 7) (j % 7) n hn hm] at hj
  obtain ⟨b', o', h1, _, a0, a1, a2, a3, a4, a5, a6⟩ := h.at hn
  cases h1
  have ea : (⟨b, o, none⟩ : Addr).add j = ⟨b, o + j / 7 * 7 + j % 7, none⟩ := by
    by_cases h0 : j = 0
    · subst h0; rfl
    · show (if j = 0 then _ else _) = _
      rw [if_neg h0]
      show (⟨b, o + j, none⟩ : Addr) = _
      rw [show o + j / 7 * 7 + j % 7 = o + j by omega]
  rw [ea]
  have hk : j % 7 = 0 ∨ j % 7 = 1 ∨ j % 7 = 2 ∨ j % 7 = 3 ∨ j % 7 = 4 ∨ j % 7 = 5 ∨ j % 7 = 6 := by omega
  rcases hk with h | h | h | h | h | h | h <;> rw [h] at hj ⊢ <;> cases hj
  · exact a0
  · exact a1
  · exact a2
  · exact a3
  · exact a4
  · exact a5
  · exact a6
theorem ndC_one : ∀ (ts : List Nd), ∀ u ∈ ndC ts, u.oneCell' = true
  | [], u, h => by cases h
  | t :: ts, u, h => by
    rcases List.mem_append.1 (show u ∈ t.cells ++ ndC ts from h) with h | h
    · unfold Nd.cells wd at h
      simp at h
      rcases h with rfl | rfl | rfl | rfl | rfl | rfl | rfl <;> rfl
    · exact ndC_one ts u h
theorem owns_empty (w : World) (B : Nat) (hB : B ≤ w.heap.size) : (w.alloc (.cells #[] 50)).ownsRow B 50 7 (.slice (some ⟨w.heap.size, 0, none⟩) 0 0) 0 [] :=
  ⟨rfl, .inr ⟨w.heap.size, 0, #[], rfl, hB, heap_alloc_new w _, Nat.le_refl _, Nat.zero_le _, rfl, rfl⟩⟩

theorem owns_below {w w' : World} {B n size : Nat} {e : TypeId} {v : Value} {xs : List Value} (h : w.ownsRow B e size v n xs) (hb : Below w.heap.size w w') : w'.ownsRow B e size v n xs :=
  owns_same h fun g hg => hb.block g (own_block_lt h hg)
theorem cells_seven_at (w : World) (h : Nat) (hw : w.heap.size = h) (t : TypeId) (p q r s u v z : Value) : ∀ j x, [p, q, r, s, u, v, z][j]? = some x → (w.alloc (.cells #[p, q, r, s, u, v, z] t)).cell? ((⟨h, 0, none⟩ : Addr).add j) = some x := by
  subst hw
  exact cells_seven w t p q r s u v z
theorem take_map_snoc (f : Nd → Nd) (ys : List Nd) (j : Nat) (n : Nd) (h : ys[j]? = some n) : (ys.take (j + 1)).map f = (ys.take j).map f ++ [f n] := by
  rw [List.take_add_one, h, List.map_append]
  rfl
theorem below_put {w0 w W w5 : World} {B N : Nat} {v : Value} {xs : List Value} (hb : Below B w0 w) (h : w.ownsRow B 50 7 v N xs) (hB : B ≤ w.heap.size) (hW : Below w.heap.size w W) (hg : W.grownBy w5 v.ownBlock) : Below B w0 w5 :=
  (hb.trans (hW.mono hB)).grown hg (Nat.le_trans hB hW.size) (fun _r hr => own_base h hr)

set_option maxHeartbeats 2000000 in
set_option maxRecDepth 20000 in
theorem join_walk (N M cap cap2 b o b2 o2 : Nat) (xs ys : List Nd) (w : World) (hN : N = xs.length) (hM : M = ys.length) (h : N + M < 2000)
    (hL : Lies (.slice (some ⟨b, o, none⟩) N cap) xs w) (hL2 : Lies (.slice (some ⟨b2, o2, none⟩) M cap2) ys w) (hs : Small ys) :
    Calls Try.prog 12 #[.slice (some ⟨b, o, none⟩) N cap, .slice (some ⟨b2, o2, none⟩) M cap2, .int .i64 3] w fun e w' =>
      (∃ v, e = .returned (.tuple #[v, .int .i64 0]) ∧ IsRow w.heap.size ((xs ++ ys.map (movedN N)) ++ [⟨3, k0, (N : Int) - 1, (N : Int) + M - 1⟩]) v w') ∧ Below w.heap.size w w' := by
  have hI : IntKind.i64.wrap ((N : Int) + (M : Int)) = (N : Int) + M := IntWalk.i64_in _ (by omega)
  have hI1 : IntKind.i64.wrap ((N : Int) - 1) = (N : Int) - 1 := IntWalk.i64_in _ (by omega)
  have hI2 : IntKind.i64.wrap ((N : Int) + (M : Int) - 1) = (N : Int) + M - 1 := IntWalk.i64_in _ (by omega)
  have h1 : decide ((2000 : Int) ≤ (N : Int) + (M : Int)) = false := by simp; omega
  obtain ⟨i0, hi, hz0, hz1, hz2⟩ := info_parts Try.infoRe
  obtain ⟨cs, hcs⟩ : ∃ cs, cs = ndC xs := ⟨_, rfl⟩
  have hcl : cs.length = N * 7 := by rw [hcs, ndC_length]; omega
  have HC := Lib.hid (show ∀ j u, cs[j]? = some u → w.cell? ((⟨b, o, none⟩ : Addr).add j) = some u by rw [hcs]; exact lies_cells hL)
  have HC1 := Lib.hid (show ∀ u ∈ cs, u.oneCell' = true by rw [hcs]; exact ndC_one xs)
  have HL2 := Lib.hid hL2
  have HN := Lib.hid (And.intro hN (And.intro hM hcs))
  have HS := Lib.hid hs
  clear hL hL2 hN hM hcs hs
  go_enter Try.func12, Try.ntmps12
  go_wp2_with (first
    | (at_builtin; refine wpList_append_own _ rfl (.tmp 26) (.tmp 27) 22 rfl w.heap.size 50 i0 _ 7 56 Try.underlying22 hi hz0 hz1 hz2 rfl (by decide) _ 0 [] rfl (owns_empty w _ (Nat.le_refl _)) ⟨b, o, none⟩ N cap cs rfl hcl (fun j u hj => World.cell?_alloc_some w _ _ (by rw [HC.out j u hj]; rfl) |>.trans (HC.out j u hj)) HC1.out (by unfold maxLen; omega) (by omega) (by simp) ?_; intro v1 w1 hown1 hgrow1 _)
    | fail)
  have hb1 : Below w.heap.size w w1 := ((Below.refl _ w).alloc (Nat.le_refl _) _).grown hgrow1 (by simp) (fun q hq => own_base (owns_empty w _ (Nat.le_refl _)) hq)
  rw [Nat.zero_add, List.nil_append] at hown1
  have H1 := Lib.hid (And.intro hown1 hb1)
  clear hown1 hb1 hgrow1
  obtain ⟨kf, hkf⟩ : ∃ f : Int → Int, f = kidsN := ⟨_, rfl⟩
  have kk := fun k w => many_any k w
  rw [← hkf] at kk
  have HF := Lib.hid hkf
  clear hkf
  go_loopg [9, 10] (M + 1) (fun k out i wr => ∃ (j : Nat) (zs : List Nd), i = .int .i64 j ∧ j ≤ M ∧ Hid (k = M + 1 - j) ∧ Hid (wr.ownsRow w.heap.size 50 7 out (N + j) (ndC zs)) ∧ Hid (zs = xs ++ (ys.take j).map (movedN N)) ∧ Hid (Below w.heap.size w wr))
  case atStart => exact ⟨0, xs, rfl, Nat.zero_le _, rfl, by show World.ownsRow _ _ _ _ _ _ _; rw [← HN.out.2.2]; exact H1.out.1, by simp [Hid], H1.out.2⟩
  case round =>
    obtain ⟨j, zs, rfl, hj, HK, HZ, HE, HB⟩ := hrel
    by_cases hlt : j < M
    · obtain ⟨n, hn⟩ : ∃ n, ys[j]? = some n := ⟨ys[j]'(by have := HN.out.2.1; omega), List.getElem?_eq_getElem _⟩
      obtain ⟨b', o', e', hb, ha⟩ := HL2.out.at hn
      cases e'
      obtain ⟨a0, a1, a2, a3, a4, a5, a6⟩ := ha.below HB.out hb
      obtain ⟨q0, q1, q2, q3⟩ := HS.out n (List.mem_of_getElem? hn)
      have hI : IntKind.i64.wrap ((j : Int) + 1) = ((j + 1 : Nat) : Int) := by rw [IntWalk.i64_in _ (by omega)]; omega
      have hx : IntKind.i64.wrap (n.x + (N : Int)) = n.x + N := IntWalk.i64_in _ (by omega)
      have hy : IntKind.i64.wrap (n.y + (N : Int)) = n.y + N := IntWalk.i64_in _ (by omega)
      have HM := Lib.hid (And.intro hn (show movedN N n = ⟨n.k, n.s, if 0 < kf n.k then n.x + N else n.x, if 1 < kf n.k then n.y + N else n.y⟩ by rw [HF.out]; rfl))
      clear hn ha hb q0 q1 q2 q3
      obtain ⟨k, ⟨p, q, r, s⟩, x, y⟩ := n
      unfold wd at a1 a2 a3 a4
      dsimp only at a0 a1 a2 a3 a4 a5 a6 hx hy HM
      have kk := fun w => kk k w
      obtain ⟨m, hm⟩ : ∃ m, m = kf k := ⟨_, rfl⟩
      rw [← hm] at kk HM
      clear hm
      have h63 : N + j + 1 ≤ 2000 := by omega
      by_cases m0 : 0 < m
      · have c0 : decide (0 < m) = true := decide_eq_true m0
        have m0 : m > 0 := m0
        by_cases m1 : 1 < m
        · have c1 : decide (1 < m) = true := decide_eq_true m1
          go_wp2_with (first
        | (go_at_call 31; refine (kk _).mono ?_; rintro e w2 ⟨rfl, rfl⟩)
            | (at_builtin; refine wpList_append_own _ rfl (.tmp 60) (.tmp 62) 22 rfl w.heap.size 50 i0 _ 7 56 Try.underlying22 hi hz0 hz1 hz2 rfl (by decide) _ (N + j) (ndC zs) rfl (owns_below HZ.out (((Below.refl _ wr).alloc (Nat.le_refl _) _).alloc (by simp) _)) ⟨wr.heap.size + 1, 0, none⟩ 1 1 [.int .i64 k, .int .u64 (p.toNat : Int), .int .u64 (q.toNat : Int), .int .u64 (r.toNat : Int), .int .u64 (s.toNat : Int), .int .i64 (x + N), .int .i64 (y + N)] rfl rfl (cells_seven_at _ _ (by simp) _ _ _ _ _ _ _ _) (by simp [Value.oneCell']) (by unfold maxLen; omega) (by omega) (by have := HB.out.size; simp; omega) ?_; intro v5 w5 hown5 hgrow5 _
               have hb5 : Below w.heap.size w w5 := below_put HB.out HZ.out HB.out.size (((Below.refl _ wr).alloc (Nat.le_refl _) _).alloc (by simp) _) hgrow5
               have H5 := Lib.hid (And.intro hown5 hb5)
               clear hown5 hgrow5 hb5)
            | fail)
          go_roundg (M - j)
          case rel => exact ⟨j + 1, zs ++ [movedN N ⟨k, ⟨p, q, r, s⟩, x, y⟩], by go_num, by omega, by show _ = _; omega, (by
              show World.ownsRow _ _ _ _ _ _ _
              have h := H5.out.1
              rw [HM.out.2, if_pos (show 0 < m by omega), if_pos (show 1 < m by omega), ndC_append]
              exact h), (by show _ = _; rw [HE.out, List.append_assoc, ← take_map_snoc _ _ _ _ HM.out.1]), H5.out.2⟩
          case measure => have := HK.out; omega
        · have c1 : decide (1 < m) = false := decide_eq_false m1
          go_wp2_with (first
        | (go_at_call 31; refine (kk _).mono ?_; rintro e w2 ⟨rfl, rfl⟩)
            | (at_builtin; refine wpList_append_own _ rfl (.tmp 60) (.tmp 62) 22 rfl w.heap.size 50 i0 _ 7 56 Try.underlying22 hi hz0 hz1 hz2 rfl (by decide) _ (N + j) (ndC zs) rfl (owns_below HZ.out (((Below.refl _ wr).alloc (Nat.le_refl _) _).alloc (by simp) _)) ⟨wr.heap.size + 1, 0, none⟩ 1 1 [.int .i64 k, .int .u64 (p.toNat : Int), .int .u64 (q.toNat : Int), .int .u64 (r.toNat : Int), .int .u64 (s.toNat : Int), .int .i64 (x + N), .int .i64 y] rfl rfl (cells_seven_at _ _ (by simp) _ _ _ _ _ _ _ _) (by simp [Value.oneCell']) (by unfold maxLen; omega) (by omega) (by have := HB.out.size; simp; omega) ?_; intro v5 w5 hown5 hgrow5 _
               have hb5 : Below w.heap.size w w5 := below_put HB.out HZ.out HB.out.size (((Below.refl _ wr).alloc (Nat.le_refl _) _).alloc (by simp) _) hgrow5
               have H5 := Lib.hid (And.intro hown5 hb5)
               clear hown5 hgrow5 hb5)
            | fail)
          go_roundg (M - j)
          case rel => exact ⟨j + 1, zs ++ [movedN N ⟨k, ⟨p, q, r, s⟩, x, y⟩], by go_num, by omega, by show _ = _; omega, (by
              show World.ownsRow _ _ _ _ _ _ _
              have h := H5.out.1
              rw [HM.out.2, if_pos (show 0 < m by omega), if_neg (show ¬ 1 < m by omega), ndC_append]
              exact h), (by show _ = _; rw [HE.out, List.append_assoc, ← take_map_snoc _ _ _ _ HM.out.1]), H5.out.2⟩
          case measure => have := HK.out; omega
      · have m1 : ¬ 1 < m := by omega
        have c0 : decide (0 < m) = false := decide_eq_false m0
        have c1 : decide (1 < m) = false := decide_eq_false m1
        go_wp2_with (first
          | (go_at_call 31; refine (kk _).mono ?_; rintro e w2 ⟨rfl, rfl⟩)
          | (at_builtin; refine wpList_append_own _ rfl (.tmp 60) (.tmp 62) 22 rfl w.heap.size 50 i0 _ 7 56 Try.underlying22 hi hz0 hz1 hz2 rfl (by decide) _ (N + j) (ndC zs) rfl (owns_below HZ.out (((Below.refl _ wr).alloc (Nat.le_refl _) _).alloc (by simp) _)) ⟨wr.heap.size + 1, 0, none⟩ 1 1 [.int .i64 k, .int .u64 (p.toNat : Int), .int .u64 (q.toNat : Int), .int .u64 (r.toNat : Int), .int .u64 (s.toNat : Int), .int .i64 x, .int .i64 y] rfl rfl (cells_seven_at _ _ (by simp) _ _ _ _ _ _ _ _) (by simp [Value.oneCell']) (by unfold maxLen; omega) (by omega) (by have := HB.out.size; simp; omega) ?_; intro v5 w5 hown5 hgrow5 _
             have hb5 : Below w.heap.size w w5 := below_put HB.out HZ.out HB.out.size (((Below.refl _ wr).alloc (Nat.le_refl _) _).alloc (by simp) _) hgrow5
             have H5 := Lib.hid (And.intro hown5 hb5)
             clear hown5 hgrow5 hb5)
          | fail)
        go_roundg (M - j)
        case rel => exact ⟨j + 1, zs ++ [movedN N ⟨k, ⟨p, q, r, s⟩, x, y⟩], by go_num, by omega, by show _ = _; omega, (by
            show World.ownsRow _ _ _ _ _ _ _
            have h := H5.out.1
            rw [HM.out.2, if_neg (show ¬ 0 < m by omega), if_neg (show ¬ 1 < m by omega), ndC_append]
            exact h), (by show _ = _; rw [HE.out, List.append_assoc, ← take_map_snoc _ _ _ _ HM.out.1]), H5.out.2⟩
        case measure => have := HK.out; omega
    · have hd : decide ((j : Int) < (M : Int)) = false := by simp; omega
      have hjM : j = M := by omega
      subst hjM
      go_wp2_with (first
        | (at_builtin; refine wpList_append_own _ rfl (.tmp 64) (.tmp 75) 22 rfl w.heap.size 50 i0 _ 7 56 Try.underlying22 hi hz0 hz1 hz2 rfl (by decide) _ (N + j) (ndC zs) rfl (owns_below HZ.out ((Below.refl _ wr).alloc (Nat.le_refl _) _)) ⟨wr.heap.size, 0, none⟩ 1 1 [.int .i64 3, .int .u64 0, .int .u64 0, .int .u64 0, .int .u64 0, .int .i64 ((N : Int) - 1), .int .i64 ((N : Int) + j - 1)] rfl rfl (cells_seven_at _ _ rfl _ _ _ _ _ _ _ _) (by simp [Value.oneCell']) (by unfold maxLen; omega) (by omega) (by have := HB.out.size; simp; omega) ?_; intro v5 w5 hown5 hgrow5 _
           have hb5 : Below w.heap.size w w5 := below_put HB.out HZ.out HB.out.size ((Below.refl _ wr).alloc (Nat.le_refl _) _) hgrow5
           have H5 := Lib.hid (And.intro hown5 hb5)
           clear hown5 hgrow5 hb5)
        | fail)
      refine bodyPost_ret (results_tmp2 rfl _ _ _) rfl ⟨⟨v5, rfl, ?_⟩, H5.out.2⟩
      unfold IsRow
      have h := H5.out.1
      have ez : xs ++ ys.map (movedN N) = zs := by rw [HE.out, List.take_of_length_le (by rw [← HN.out.2.1]; omega)]
      rw [ez, ndC_append, List.length_append, HE.out, List.length_append, List.length_map, List.length_take, ← HN.out.1, ← HN.out.2.1, Nat.min_self, ← HE.out]
      exact h
/-- The document's Join of two trees' rows, of the kind 3. -/
theorem refJoin_trees (u v : Value) (S T : Tr) (w : World) (hT : T.ok) (hn : S.size + T.size < 2000) (hL : Lies u (S.row 0) w) (hL2 : Lies v (T.row 0) w) :
    Calls Try.prog 12 #[u, v, .int .i64 3] w fun e w' => (∃ r, e = .returned (.tuple #[r, .int .i64 0]) ∧ Lies r ((Tr.two 3 S T).row 0) w') ∧ Below w.heap.size w w' := by
  have hp := S.size_pos
  have hp2 := T.size_pos
  have hs := S.row_length 0
  have ht := T.row_length 0
  have H1 := hL
  have H2 := hL2
  obtain ⟨ao, cap, rfl, _⟩ := hL
  obtain ⟨bo, cap2, rfl, _⟩ := hL2
  obtain ⟨b, o, rfl, _⟩ := H1.at (j := 0) (List.getElem?_eq_getElem (by omega))
  obtain ⟨b2, o2, rfl, _⟩ := H2.at (j := 0) (List.getElem?_eq_getElem (by omega))
  refine (join_walk _ _ cap cap2 b o b2 o2 (S.row 0) (T.row 0) w rfl rfl (by omega) H1 H2 (row_small T 0 (by omega))).mono ?_
  rintro e w' ⟨⟨r, rfl, hr⟩, hb⟩
  refine ⟨⟨r, rfl, ?_⟩, hb⟩
  rw [hs, ht] at hr
  rw [two_row 3 S T hT]
  exact hr.lies (by rw [List.length_append, List.length_append, List.length_map, hs, ht]; simp; omega)
end Go.Proofs.Ytkgpnlldlekcbaa
namespace Go.Proofs.Ytkgpnlldlekcbaa
open Go.RowKit Go.Lib

set_option maxHeartbeats 2000000 in
set_option maxRecDepth 20000 in
theorem joinC_walk (N M cap cap2 b o b2 o2 : Nat) (xs ys : List Nd) (w : World) (hN : N = xs.length) (hM : M = ys.length) (h : N + M < 2000)
    (hL : Lies (.slice (some ⟨b, o, none⟩) N cap) xs w) (hL2 : Lies (.slice (some ⟨b2, o2, none⟩) M cap2) ys w) (hs : Small ys) :
    Calls Try.prog 12 #[.slice (some ⟨b, o, none⟩) N cap, .slice (some ⟨b2, o2, none⟩) M cap2, .int .i64 2] w fun e w' =>
      (∃ v, e = .returned (.tuple #[v, .int .i64 0]) ∧ IsRow w.heap.size ((xs ++ ys.map (movedN N)) ++ [⟨2, k0, (N : Int) - 1, (N : Int) + M - 1⟩]) v w') ∧ Below w.heap.size w w' := by
  have hI : IntKind.i64.wrap ((N : Int) + (M : Int)) = (N : Int) + M := IntWalk.i64_in _ (by omega)
  have hI1 : IntKind.i64.wrap ((N : Int) - 1) = (N : Int) - 1 := IntWalk.i64_in _ (by omega)
  have hI2 : IntKind.i64.wrap ((N : Int) + (M : Int) - 1) = (N : Int) + M - 1 := IntWalk.i64_in _ (by omega)
  have h1 : decide ((2000 : Int) ≤ (N : Int) + (M : Int)) = false := by simp; omega
  obtain ⟨i0, hi, hz0, hz1, hz2⟩ := info_parts Try.infoRe
  obtain ⟨cs, hcs⟩ : ∃ cs, cs = ndC xs := ⟨_, rfl⟩
  have hcl : cs.length = N * 7 := by rw [hcs, ndC_length]; omega
  have HC := Lib.hid (show ∀ j u, cs[j]? = some u → w.cell? ((⟨b, o, none⟩ : Addr).add j) = some u by rw [hcs]; exact lies_cells hL)
  have HC1 := Lib.hid (show ∀ u ∈ cs, u.oneCell' = true by rw [hcs]; exact ndC_one xs)
  have HL2 := Lib.hid hL2
  have HN := Lib.hid (And.intro hN (And.intro hM hcs))
  have HS := Lib.hid hs
  clear hL hL2 hN hM hcs hs
  go_enter Try.func12, Try.ntmps12
  go_wp2_with (first
    | (at_builtin; refine wpList_append_own _ rfl (.tmp 26) (.tmp 27) 22 rfl w.heap.size 50 i0 _ 7 56 Try.underlying22 hi hz0 hz1 hz2 rfl (by decide) _ 0 [] rfl (owns_empty w _ (Nat.le_refl _)) ⟨b, o, none⟩ N cap cs rfl hcl (fun j u hj => World.cell?_alloc_some w _ _ (by rw [HC.out j u hj]; rfl) |>.trans (HC.out j u hj)) HC1.out (by unfold maxLen; omega) (by omega) (by simp) ?_; intro v1 w1 hown1 hgrow1 _)
    | fail)
  have hb1 : Below w.heap.size w w1 := ((Below.refl _ w).alloc (Nat.le_refl _) _).grown hgrow1 (by simp) (fun q hq => own_base (owns_empty w _ (Nat.le_refl _)) hq)
  rw [Nat.zero_add, List.nil_append] at hown1
  have H1 := Lib.hid (And.intro hown1 hb1)
  clear hown1 hb1 hgrow1
  obtain ⟨kf, hkf⟩ : ∃ f : Int → Int, f = kidsN := ⟨_, rfl⟩
  have kk := fun k w => many_any k w
  rw [← hkf] at kk
  have HF := Lib.hid hkf
  clear hkf
  go_loopg [9, 10] (M + 1) (fun k out i wr => ∃ (j : Nat) (zs : List Nd), i = .int .i64 j ∧ j ≤ M ∧ Hid (k = M + 1 - j) ∧ Hid (wr.ownsRow w.heap.size 50 7 out (N + j) (ndC zs)) ∧ Hid (zs = xs ++ (ys.take j).map (movedN N)) ∧ Hid (Below w.heap.size w wr))
  case atStart => exact ⟨0, xs, rfl, Nat.zero_le _, rfl, by show World.ownsRow _ _ _ _ _ _ _; rw [← HN.out.2.2]; exact H1.out.1, by simp [Hid], H1.out.2⟩
  case round =>
    obtain ⟨j, zs, rfl, hj, HK, HZ, HE, HB⟩ := hrel
    by_cases hlt : j < M
    · obtain ⟨n, hn⟩ : ∃ n, ys[j]? = some n := ⟨ys[j]'(by have := HN.out.2.1; omega), List.getElem?_eq_getElem _⟩
      obtain ⟨b', o', e', hb, ha⟩ := HL2.out.at hn
      cases e'
      obtain ⟨a0, a1, a2, a3, a4, a5, a6⟩ := ha.below HB.out hb
      obtain ⟨q0, q1, q2, q3⟩ := HS.out n (List.mem_of_getElem? hn)
      have hI : IntKind.i64.wrap ((j : Int) + 1) = ((j + 1 : Nat) : Int) := by rw [IntWalk.i64_in _ (by omega)]; omega
      have hx : IntKind.i64.wrap (n.x + (N : Int)) = n.x + N := IntWalk.i64_in _ (by omega)
      have hy : IntKind.i64.wrap (n.y + (N : Int)) = n.y + N := IntWalk.i64_in _ (by omega)
      have HM := Lib.hid (And.intro hn (show movedN N n = ⟨n.k, n.s, if 0 < kf n.k then n.x + N else n.x, if 1 < kf n.k then n.y + N else n.y⟩ by rw [HF.out]; rfl))
      clear hn ha hb q0 q1 q2 q3
      obtain ⟨k, ⟨p, q, r, s⟩, x, y⟩ := n
      unfold wd at a1 a2 a3 a4
      dsimp only at a0 a1 a2 a3 a4 a5 a6 hx hy HM
      have kk := fun w => kk k w
      obtain ⟨m, hm⟩ : ∃ m, m = kf k := ⟨_, rfl⟩
      rw [← hm] at kk HM
      clear hm
      have h63 : N + j + 1 ≤ 2000 := by omega
      by_cases m0 : 0 < m
      · have c0 : decide (0 < m) = true := decide_eq_true m0
        have m0 : m > 0 := m0
        by_cases m1 : 1 < m
        · have c1 : decide (1 < m) = true := decide_eq_true m1
          go_wp2_with (first
        | (go_at_call 31; refine (kk _).mono ?_; rintro e w2 ⟨rfl, rfl⟩)
            | (at_builtin; refine wpList_append_own _ rfl (.tmp 60) (.tmp 62) 22 rfl w.heap.size 50 i0 _ 7 56 Try.underlying22 hi hz0 hz1 hz2 rfl (by decide) _ (N + j) (ndC zs) rfl (owns_below HZ.out (((Below.refl _ wr).alloc (Nat.le_refl _) _).alloc (by simp) _)) ⟨wr.heap.size + 1, 0, none⟩ 1 1 [.int .i64 k, .int .u64 (p.toNat : Int), .int .u64 (q.toNat : Int), .int .u64 (r.toNat : Int), .int .u64 (s.toNat : Int), .int .i64 (x + N), .int .i64 (y + N)] rfl rfl (cells_seven_at _ _ (by simp) _ _ _ _ _ _ _ _) (by simp [Value.oneCell']) (by unfold maxLen; omega) (by omega) (by have := HB.out.size; simp; omega) ?_; intro v5 w5 hown5 hgrow5 _
               have hb5 : Below w.heap.size w w5 := below_put HB.out HZ.out HB.out.size (((Below.refl _ wr).alloc (Nat.le_refl _) _).alloc (by simp) _) hgrow5
               have H5 := Lib.hid (And.intro hown5 hb5)
               clear hown5 hgrow5 hb5)
            | fail)
          go_roundg (M - j)
          case rel => exact ⟨j + 1, zs ++ [movedN N ⟨k, ⟨p, q, r, s⟩, x, y⟩], by go_num, by omega, by show _ = _; omega, (by
              show World.ownsRow _ _ _ _ _ _ _
              have h := H5.out.1
              rw [HM.out.2, if_pos (show 0 < m by omega), if_pos (show 1 < m by omega), ndC_append]
              exact h), (by show _ = _; rw [HE.out, List.append_assoc, ← take_map_snoc _ _ _ _ HM.out.1]), H5.out.2⟩
          case measure => have := HK.out; omega
        · have c1 : decide (1 < m) = false := decide_eq_false m1
          go_wp2_with (first
        | (go_at_call 31; refine (kk _).mono ?_; rintro e w2 ⟨rfl, rfl⟩)
            | (at_builtin; refine wpList_append_own _ rfl (.tmp 60) (.tmp 62) 22 rfl w.heap.size 50 i0 _ 7 56 Try.underlying22 hi hz0 hz1 hz2 rfl (by decide) _ (N + j) (ndC zs) rfl (owns_below HZ.out (((Below.refl _ wr).alloc (Nat.le_refl _) _).alloc (by simp) _)) ⟨wr.heap.size + 1, 0, none⟩ 1 1 [.int .i64 k, .int .u64 (p.toNat : Int), .int .u64 (q.toNat : Int), .int .u64 (r.toNat : Int), .int .u64 (s.toNat : Int), .int .i64 (x + N), .int .i64 y] rfl rfl (cells_seven_at _ _ (by simp) _ _ _ _ _ _ _ _) (by simp [Value.oneCell']) (by unfold maxLen; omega) (by omega) (by have := HB.out.size; simp; omega) ?_; intro v5 w5 hown5 hgrow5 _
               have hb5 : Below w.heap.size w w5 := below_put HB.out HZ.out HB.out.size (((Below.refl _ wr).alloc (Nat.le_refl _) _).alloc (by simp) _) hgrow5
               have H5 := Lib.hid (And.intro hown5 hb5)
               clear hown5 hgrow5 hb5)
            | fail)
          go_roundg (M - j)
          case rel => exact ⟨j + 1, zs ++ [movedN N ⟨k, ⟨p, q, r, s⟩, x, y⟩], by go_num, by omega, by show _ = _; omega, (by
              show World.ownsRow _ _ _ _ _ _ _
              have h := H5.out.1
              rw [HM.out.2, if_pos (show 0 < m by omega), if_neg (show ¬ 1 < m by omega), ndC_append]
              exact h), (by show _ = _; rw [HE.out, List.append_assoc, ← take_map_snoc _ _ _ _ HM.out.1]), H5.out.2⟩
          case measure => have := HK.out; omega
      · have m1 : ¬ 1 < m := by omega
        have c0 : decide (0 < m) = false := decide_eq_false m0
        have c1 : decide (1 < m) = false := decide_eq_false m1
        go_wp2_with (first
          | (go_at_call 31; refine (kk _).mono ?_; rintro e w2 ⟨rfl, rfl⟩)
          | (at_builtin; refine wpList_append_own _ rfl (.tmp 60) (.tmp 62) 22 rfl w.heap.size 50 i0 _ 7 56 Try.underlying22 hi hz0 hz1 hz2 rfl (by decide) _ (N + j) (ndC zs) rfl (owns_below HZ.out (((Below.refl _ wr).alloc (Nat.le_refl _) _).alloc (by simp) _)) ⟨wr.heap.size + 1, 0, none⟩ 1 1 [.int .i64 k, .int .u64 (p.toNat : Int), .int .u64 (q.toNat : Int), .int .u64 (r.toNat : Int), .int .u64 (s.toNat : Int), .int .i64 x, .int .i64 y] rfl rfl (cells_seven_at _ _ (by simp) _ _ _ _ _ _ _ _) (by simp [Value.oneCell']) (by unfold maxLen; omega) (by omega) (by have := HB.out.size; simp; omega) ?_; intro v5 w5 hown5 hgrow5 _
             have hb5 : Below w.heap.size w w5 := below_put HB.out HZ.out HB.out.size (((Below.refl _ wr).alloc (Nat.le_refl _) _).alloc (by simp) _) hgrow5
             have H5 := Lib.hid (And.intro hown5 hb5)
             clear hown5 hgrow5 hb5)
          | fail)
        go_roundg (M - j)
        case rel => exact ⟨j + 1, zs ++ [movedN N ⟨k, ⟨p, q, r, s⟩, x, y⟩], by go_num, by omega, by show _ = _; omega, (by
            show World.ownsRow _ _ _ _ _ _ _
            have h := H5.out.1
            rw [HM.out.2, if_neg (show ¬ 0 < m by omega), if_neg (show ¬ 1 < m by omega), ndC_append]
            exact h), (by show _ = _; rw [HE.out, List.append_assoc, ← take_map_snoc _ _ _ _ HM.out.1]), H5.out.2⟩
        case measure => have := HK.out; omega
    · have hd : decide ((j : Int) < (M : Int)) = false := by simp; omega
      have hjM : j = M := by omega
      subst hjM
      go_wp2_with (first
        | (at_builtin; refine wpList_append_own _ rfl (.tmp 64) (.tmp 75) 22 rfl w.heap.size 50 i0 _ 7 56 Try.underlying22 hi hz0 hz1 hz2 rfl (by decide) _ (N + j) (ndC zs) rfl (owns_below HZ.out ((Below.refl _ wr).alloc (Nat.le_refl _) _)) ⟨wr.heap.size, 0, none⟩ 1 1 [.int .i64 2, .int .u64 0, .int .u64 0, .int .u64 0, .int .u64 0, .int .i64 ((N : Int) - 1), .int .i64 ((N : Int) + j - 1)] rfl rfl (cells_seven_at _ _ rfl _ _ _ _ _ _ _ _) (by simp [Value.oneCell']) (by unfold maxLen; omega) (by omega) (by have := HB.out.size; simp; omega) ?_; intro v5 w5 hown5 hgrow5 _
           have hb5 : Below w.heap.size w w5 := below_put HB.out HZ.out HB.out.size ((Below.refl _ wr).alloc (Nat.le_refl _) _) hgrow5
           have H5 := Lib.hid (And.intro hown5 hb5)
           clear hown5 hgrow5 hb5)
        | fail)
      refine bodyPost_ret (results_tmp2 rfl _ _ _) rfl ⟨⟨v5, rfl, ?_⟩, H5.out.2⟩
      unfold IsRow
      have h := H5.out.1
      have ez : xs ++ ys.map (movedN N) = zs := by rw [HE.out, List.take_of_length_le (by rw [← HN.out.2.1]; omega)]
      rw [ez, ndC_append, List.length_append, HE.out, List.length_append, List.length_map, List.length_take, ← HN.out.1, ← HN.out.2.1, Nat.min_self, ← HE.out]
      exact h
/-- The document's Join of two trees' rows, of the kind 2. -/
theorem refJoinC_trees (u v : Value) (S T : Tr) (w : World) (hT : T.ok) (hn : S.size + T.size < 2000) (hL : Lies u (S.row 0) w) (hL2 : Lies v (T.row 0) w) :
    Calls Try.prog 12 #[u, v, .int .i64 2] w fun e w' => (∃ r, e = .returned (.tuple #[r, .int .i64 0]) ∧ Lies r ((Tr.two 2 S T).row 0) w') ∧ Below w.heap.size w w' := by
  have hp := S.size_pos
  have hp2 := T.size_pos
  have hs := S.row_length 0
  have ht := T.row_length 0
  have H1 := hL
  have H2 := hL2
  obtain ⟨ao, cap, rfl, _⟩ := hL
  obtain ⟨bo, cap2, rfl, _⟩ := hL2
  obtain ⟨b, o, rfl, _⟩ := H1.at (j := 0) (List.getElem?_eq_getElem (by omega))
  obtain ⟨b2, o2, rfl, _⟩ := H2.at (j := 0) (List.getElem?_eq_getElem (by omega))
  refine (joinC_walk _ _ cap cap2 b o b2 o2 (S.row 0) (T.row 0) w rfl rfl (by omega) H1 H2 (row_small T 0 (by omega))).mono ?_
  rintro e w' ⟨⟨r, rfl, hr⟩, hb⟩
  refine ⟨⟨r, rfl, ?_⟩, hb⟩
  rw [hs, ht] at hr
  rw [two_row 2 S T hT]
  exact hr.lies (by rw [List.length_append, List.length_append, List.length_map, hs, ht]; simp; omega)
end Go.Proofs.Ytkgpnlldlekcbaa
