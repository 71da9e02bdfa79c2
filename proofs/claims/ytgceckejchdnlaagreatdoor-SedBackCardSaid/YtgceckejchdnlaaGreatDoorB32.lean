/- Packed texts: SeGood, ReRight. What each of them proves stands above its theorems; the conditions stand in these. -/
import Derived.Deep.LoopGhost
import Derived.Laws.CopyOwn
import Derived.Test.YtgceckejchdnlaaGreatDoorB19
import Derived.Test.YtgceckejchdnlaaGreatDoorB23
import Derived.Test.YtgceckejchdnlaaGreatDoorB24
namespace Go.Proofs.YtgceckejchdnlaaGreatDoor
open Go.RowKit Go.Lib

def Ad.good : Ad → Prop
  | .line n => 1 ≤ n ∧ n ≤ 1000000000
  | .re t => t.ok ∧ t.size ≤ 2000
  | _ => True
structure Cm.Good (c : Cm) : Prop where
  a : c.a.good
  b : c.b.good
  ab : c.a.k = 0 → c.b.k = 0
  kind : (c.op = 115 ∧ (∃ t, c.re = some t ∧ t.ok ∧ t.size ≤ 2000) ∧ c.put ≠ [] ∧ c.label = [])
    ∨ ((c.re = none ∧ c.put = [] ∧ c.all = false ∧ c.prt = false) ∧
      (((c.op = 98 ∨ c.op = 116) ∧ (c.label = [] ∨ isNameB c.label = true))
        ∨ (c.op = 58 ∧ c.a.k = 0 ∧ c.neg = false ∧ isNameB c.label = true)
        ∨ (plainS.contains c.op = true ∧ c.label = [])))
def Rok (R : List UInt8 → Res) : Prop := ∀ p t l, R p = .ok t l → t.ok ∧ t.size ≤ 2000
theorem treeP_good {R : List UInt8 → Res} (hR : Rok R) {l r : List UInt8} {t : Tr} (h : treeP R l = .ok t r) : t.ok ∧ t.size ≤ 2000 := by
  unfold treeP at h
  split at h
  · cases h
  · rename_i p r' _
    cases hp : R p with
    | ok t' l' => rw [hp] at h; cases h; exact hR _ _ _ hp
    | bad e => rw [hp] at h; cases h
theorem readR_ne : ∀ (f : Nat) (l : List UInt8) (acc : List (List UInt8)) (now : List UInt8) (ys : List (List UInt8)), readR f l acc now = some ys → ys ≠ []
  | 0, _, _, _, _, h => by cases h
  | f + 1, l, acc, now, ys, h => by
    unfold readR at h
    split at h
    · cases h; simp
    · split at h
      · cases h
      · exact readR_ne f _ _ _ _ h
      · exact readR_ne f _ _ _ _ h
theorem putP_good {l r : List UInt8} {ys : List (List UInt8)} (h : putP l = .ok ys r) : ys ≠ [] := by
  unfold putP at h
  split at h
  · cases h
  · split at h
    · rename_i hp; cases h; exact readR_ne _ _ _ _ _ hp
    · cases h
theorem adP_good {R : List UInt8 → Res} (hR : Rok R) {l r : List UInt8} {a : Ad} (h : adP R l = .ok a r) : a.good := by
  cases l with
  | nil => cases h; exact trivial
  | cons c l =>
    unfold adP at h
    dsimp only at h
    split at h
    · cases h; exact trivial
    · split at h
      · obtain ⟨t, r', ht, h⟩ := got_bind h
        cases h
        exact treeP_good hR ht
      · split at h
        · obtain ⟨n, r', hn, h⟩ := got_bind h
          cases h
          unfold lineP at hn
          split at hn
          · rename_i h1; cases hn; exact h1
          · cases hn
        · cases h; exact trivial
theorem secP_good {R : List UInt8 → Res} (hR : Rok R) {a b : Ad} {l r : List UInt8} (h : secP R a l = .ok b r) : b.good ∧ (a.k = 0 → b.k = 0) := by
  unfold secP at h
  split at h
  · rename_i h1
    obtain ⟨b', r', hb, h⟩ := got_bind h
    split at h
    · cases h
    · cases h; exact ⟨adP_good hR hb, fun e => absurd e h1.1⟩
  · cases h; exact ⟨trivial, fun _ => rfl⟩
theorem tw_all (p : UInt8 → Bool) : ∀ l : List UInt8, (l.takeWhile p).all p = true
  | [] => rfl
  | c :: l => by
    unfold List.takeWhile
    split
    · rename_i h; simp only [List.all_cons, h, Bool.true_and]; exact tw_all p l
    · rfl
theorem labP_good {l r y : List UInt8} (h : labP l = .ok y r) : isNameB y = true := by
  cases l with
  | nil => cases h
  | cons c l =>
    unfold labP at h
    dsimp only at h
    split at h
    · rename_i hc
      cases h
      show (!(c :: l.takeWhile restOk).isEmpty && (isLet c && (l.takeWhile restOk).all restOk)) = true
      rw [hc, tw_all]; rfl
    · cases h
theorem letP_good {R : List UInt8 → Res} (hR : Rok R) {a b : Ad} {neg : Bool} {l r : List UInt8} {c : Cm} (ha : a.good) (hb : b.good ∧ (a.k = 0 → b.k = 0)) (h : letP R a b neg l = .ok c r) : c.Good := by
  cases l with
  | nil => cases h
  | cons o l =>
    unfold letP at h
    dsimp only at h
    split at h
    · rename_i h1
      cases l with
      | nil => cases h
      | cons d l1 =>
        dsimp only at h
        split at h
        · obtain ⟨t, l2, ht, h⟩ := got_bind h
          obtain ⟨ys, l3, hy, h⟩ := got_bind h
          cases h
          exact ⟨ha, hb.1, hb.2, .inl ⟨h1, ⟨t, rfl, treeP_good hR ht⟩, putP_good hy, rfl⟩⟩
        · cases h
    · split at h
      · rename_i h2
        split at h
        · cases h
          exact ⟨ha, hb.1, hb.2, .inr ⟨⟨rfl, rfl, rfl, rfl⟩, .inl ⟨h2, .inl rfl⟩⟩⟩
        · obtain ⟨y, r', hy, h⟩ := got_bind h
          cases h
          exact ⟨ha, hb.1, hb.2, .inr ⟨⟨rfl, rfl, rfl, rfl⟩, .inl ⟨h2, .inr (labP_good hy)⟩⟩⟩
      · split at h
        · rename_i h3
          split at h
          · rename_i h4
            obtain ⟨y, r', hy, h⟩ := got_bind h
            cases h
            exact ⟨ha, hb.1, hb.2, .inr ⟨⟨rfl, rfl, rfl, rfl⟩, .inr (.inl ⟨h3, h4.1, h4.2, labP_good hy⟩)⟩⟩
          · cases h
        · split at h
          · rename_i h5
            cases h
            exact ⟨ha, hb.1, hb.2, .inr ⟨⟨rfl, rfl, rfl, rfl⟩, .inr (.inr ⟨h5, rfl⟩)⟩⟩
          · cases h
theorem comP_good {R : List UInt8 → Res} (hR : Rok R) {l r : List UInt8} {c : Cm} (h : comP R l = .ok c r) : c.Good := by
  unfold comP at h
  obtain ⟨a, l1, ha, h⟩ := got_bind h
  obtain ⟨b, l2, hb, h⟩ := got_bind h
  obtain ⟨c', l3, hc, h⟩ := got_bind h
  have := letP_good hR (adP_good hR ha) (secP_good hR hb) hc
  split at h
  · cases h; exact this
  · cases h
theorem scr_good {R : List UInt8 → Res} (hR : Rok R) : ∀ (k : Nat) (l : List UInt8) (cs ds : List Cm), l.length = k → scr R l cs = .ok ds → (∀ c ∈ cs, c.Good) → ∀ c ∈ ds, c.Good := by
  intro k
  induction k using Nat.strongRecOn with
  | ind k ih =>
    intro l cs ds hk h hc
    rw [scr_eq] at h
    rcases scrS_ok h with ⟨he, rfl⟩ | ⟨c, l1, d, l2, he, h1, h2, h3, h4⟩
    · exact hc
    · have hd := dw_len sepS l
      rw [he] at hd
      have hl := comP_len h3
      refine ih l2.length (by omega) l2 _ _ rfl h4 fun c' hc' => ?_
      rcases List.mem_append.mp hc' with h | h
      · exact hc c' h
      · rw [List.mem_singleton] at h; subst h; exact comP_good hR h3

end Go.Proofs.YtgceckejchdnlaaGreatDoor
namespace Go.Proofs.YtgceckejchdnlaaGreatDoor
open Go.RowKit Go.Lib

set_option maxHeartbeats 4000000 in
set_option maxRecDepth 20000 in
theorem right_walk (v : Value) (ts : List Nd) (w : World) (h : Lies v ts w) (hl : ¬ 2000 < ts.length) :
    Calls Tryz.prog 47 #[v] w fun e w' => e = .returned (.bool (rightD ts)) ∧ Below w.heap.size w w' := by
  have H := Lib.hid h
  obtain ⟨ao, cap, rfl, _⟩ := h
  have HL := Lib.hid hl
  obtain ⟨N, hN⟩ : ∃ N, N = ts.length := ⟨_, rfl⟩
  rw [← hN] at hl H ⊢
  have HN := Lib.hid hN
  clear hN
  have hlen : decide ((2000 : Int) < (N : Int)) = false := by simp; omega
  obtain ⟨i0, hi, hz0, hz1, hz2⟩ := info_parts Tryz.infoInt
  have HI0 := Lib.hid (And.intro hi (And.intro hz0 (And.intro hz1 hz2)))
  clear hi hz0 hz1 hz2
  go_enter Tryz.func47, Tryz.ntmps47
  go_wp2
  go_loopg [3, 14] (N + 1) (fun k v i wr => ∃ (j : Nat) (st : List Int), i = .int .i64 j ∧ j ≤ N ∧ st.length ≤ 2000 ∧ Hid (k = N + 1 - j) ∧ Hid (st.length ≤ j) ∧ wr.ownsRow w.heap.size 3 1 v st.length (ints st) ∧ Hid (rightRun ts 0 [] = rightRun (ts.drop j) j st) ∧ Below w.heap.size w wr)
  case atStart => exact ⟨0, [], rfl, by omega, by simp, rfl, Nat.zero_le _, World.ownsRow_nil _ _ _ _, rfl, Below.refl _ _⟩
  case round =>
    obtain ⟨j, st, rfl, hj, hst, HK, HSJ, hown, HR, hbel⟩ := hrel
    obtain ⟨L, hL⟩ : ∃ L, L = st.length := ⟨_, rfl⟩
    rw [← hL] at hown hst
    have HLS := Lib.hid hL
    clear hL
    obtain ⟨ao, cp, rfl⟩ : ∃ ao cp, u3 = .slice ao L cp := by
      rcases hown.2 with ⟨hv, h0⟩ | ⟨g, cap, cur, hv, _⟩
      · exact ⟨_, _, by rw [hv, h0]⟩
      · exact ⟨_, _, hv⟩
    by_cases hlt : j < N
    · obtain ⟨n, hn⟩ : ∃ n, ts[j]? = some n := ⟨ts[j], List.getElem?_eq_getElem (by rw [← HN.out]; exact hlt)⟩
      obtain ⟨b, o, rfl, hbw, hat⟩ := H.out.at hn
      have hat2 := hat.below hbel hbw
      obtain ⟨a0, a1, a2, a3, a4, a5, a6⟩ := hat2
      unfold wd at a1 a2 a3 a4
      have hI : IntKind.i64.wrap ((j : Int) + 1) = ((j + 1 : Nat) : Int) := by rw [IntWalk.i64_in _ (by omega)]; omega
      have kk := fun w => kids_any n.k w
      have hm : kidsN n.k = -1 ∨ kidsN n.k = 0 ∨ kidsN n.k = 1 ∨ kidsN n.k = 2 := by
        unfold kidsN
        split
        · exact .inr (.inl rfl)
        · split
          · exact .inr (.inr (.inl rfl))
          · split
            · exact .inr (.inr (.inr rfl))
            · exact .inl rfl
      obtain ⟨m, hmm⟩ : ∃ m, m = kidsN n.k := ⟨_, rfl⟩
      rw [← hmm] at kk hm
      have HMM := Lib.hid hmm
      have HRD := Lib.hid (run_drop st hn)
      have HAT := Lib.hid hat
      have hcap := owns_cap hown
      have HOWN := Lib.hid hown
      have HBEL := Lib.hid hbel
      clear hmm hn hat hown
      rcases hm with rfl | rfl | rfl | rfl
      · go_wp2_with (first | (go_at_call 70; refine (kk _).mono ?_; rintro e w1 ⟨rfl, rfl⟩) | fail)
        have hD : rightD ts = false := rightD_false (by rw [HR.out, HRD.out]; unfold rightStep; rw [← HMM.out, if_pos (.inl (by omega))]; rfl)
        rw [hD]
        exact bodyPost_ret (results_tmp rfl _ _ _) rfl ⟨rfl, hbel.alloc hbel.size _⟩
      · obtain ⟨r, hr⟩ : ∃ r, r = L - 0 := ⟨_, rfl⟩
        have hrL : r + 0 = L := by omega
        have hrle : r ≤ L := by omega
        have hLr : L - r = 0 := by omega
        have hcr : True := by first | trivial | omega
        have hwr : IntKind.i64.wrap ((L : Int) - 0) = (r : Int) := by rw [IntWalk.i64_in _ (by unfold maxLen at hcap; omega)]; omega
        obtain ⟨s, hsx⟩ : ∃ s : List Int, st = s ++ [] := ⟨st, (List.append_nil st).symm⟩
        have hsl : s.length = r := by have e := HLS.out; rw [hsx, List.length_append] at e; simp at e; omega
        have HSX := Lib.hid (And.intro hsx hsl)
        clear hsx hsl hr
        go_wp2_with (first | (go_at_call 70; refine (kk _).mono ?_; rintro e w1 ⟨rfl, rfl⟩) | fail)
        obtain ⟨X, hX⟩ : ∃ X, X = Obj.cells #[.int .i64 n.k, .int .u64 (n.s.a.toNat : Int), .int .u64 (n.s.b.toNat : Int), .int .u64 (n.s.c.toNat : Int), .int .u64 (n.s.d.toNat : Int), .int .i64 n.x, .int .i64 n.y] 72 := ⟨_, rfl⟩
        rw [← hX]
        obtain ⟨V, hV⟩ : ∃ V, V = (wr.alloc X).alloc (.cells #[.int .i64 0, .int .i64 0] 70) := ⟨_, rfl⟩
        rw [← hV]
        obtain ⟨G, hG⟩ : ∃ G, G = wr.heap.size := ⟨_, rfl⟩
        rw [← hG]
        have v1 : V.heap[G + 1]? = some (.cells #[.int .i64 0, .int .i64 0] 70 (0, 0)) := by
          rw [hV, hG, show wr.heap.size + 1 = (wr.alloc X).heap.size by simp]; exact heap_alloc_new _ _
        have v0 : V.heap[G]? = some X := by rw [hV, hG]; exact (Below.heap_alloc _ _ _ (by simp)).trans (heap_alloc_new _ _)
        have vb : Below w.heap.size w V := by rw [hV]; exact (HBEL.out.alloc HBEL.out.size _).alloc (HBEL.out.alloc HBEL.out.size _).size _
        have vz : V.heap.size = G + 2 := by rw [hV, hG]; simp
        have vo : ∀ q, q < G → V.heap[q]? = wr.heap[q]? := fun q hq => by rw [hV]; exact (Below.heap_alloc _ _ _ (by simp; omega)).trans (Below.heap_alloc _ _ _ (by omega))
        have vG : w.heap.size ≤ G := by rw [hG]; exact HBEL.out.size
        have vown : V.ownsRow w.heap.size 3 1 (.slice ao L cp) L (ints st) := owns_same HOWN.out fun q hq => vo q (by rw [hG]; exact own_block_lt HOWN.out hq)
        have vg : ∀ g, ao = some ⟨g, 0, none⟩ → g < G := fun g hg => by rw [hG]; exact own_block_lt HOWN.out (by rw [hg]; rfl)
        have HX := Lib.hid hX
        have HV := Lib.hid (And.intro v1 (And.intro v0 (And.intro vb (And.intro vz (And.intro vo (And.intro vG (And.intro vown vg)))))))
        clear hX hV hG v1 v0 vb vz vo vG vown vg a0 a1 a2 a3 a4 a5 a6 hbel
        have fin : True := trivial
        rcases HOWN.out.2 with ⟨hv0, h00⟩ | ⟨g, cap2, cur, hv0, _⟩
        · cases hv0
          clear h00
          have hr0 : r = 0 := by omega
          subst hr0
          go_region_law (first
            | (refine step_copy_splice rfl (.tmp 34) (.tmp 37) 86 86 rfl 3 Tryz.underlying86 Tryz.sizeInt _ _ 2 2 _ _ rfl rfl (G + 1) 0 [.int .i64 0, .int .i64 0] 70 HV.out.1 ([] : List Value) (by first | rfl | (simp)) (fun h => absurd h (by simp)) (by simp) (by simp [Value.oneCell']) (G + 1) V (Below.refl _ V).drew (Nat.le_refl _) ?_; intro w4 hg4 hb4))
          have g4 : w4.heap[G + 1]? = some (.cells #[.int .i64 0, .int .i64 0] 70 (0, 0)) := hg4
          have x4 : w4.heap[G]? = some (.cells #[.int .i64 n.k, .int .u64 (n.s.a.toNat : Int), .int .u64 (n.s.b.toNat : Int), .int .u64 (n.s.c.toNat : Int), .int .u64 (n.s.d.toNat : Int), .int .i64 n.x, .int .i64 n.y] 72 (0, 0)) := (hb4.block _ (by omega)).trans (HV.out.2.1.trans (by rw [HX.out]))
          have wown : w4.ownsRow w.heap.size 3 1 (.slice none 0 0) 0 (ints st) := owns_same HV.out.2.2.2.2.2.2.1 fun q hq => hb4.block q (Nat.lt_of_lt_of_le (by cases hq) (Nat.le_succ _))
          have wb : Below w.heap.size w w4 := HV.out.2.2.1.trans (hb4.mono (by have := HV.out.2.2.2.2.2.1; omega))
          have wz : w.heap.size ≤ w4.heap.size := wb.size
          obtain ⟨q0, q1, q2, q3, q4, q5, q6⟩ := node_cells x4
          obtain ⟨p0, p1⟩ := pair_cells g4
          have e2 := run_neq_two n.x n.y 0 0
          have e3 := run_neq_cls (n.s.a.toNat : Int) (n.s.b.toNat : Int) (n.s.c.toNat : Int) (n.s.d.toNat : Int) 0 0 0 0
          obtain ⟨bb, hbb⟩ : ∃ bb, (n.x == 0 && n.y == 0) = bb := ⟨_, rfl⟩
          obtain ⟨es, hes⟩ : ∃ es, ((n.s.a.toNat : Int) == 0 && ((n.s.b.toNat : Int) == 0 && ((n.s.c.toNat : Int) == 0 && (n.s.d.toNat : Int) == 0))) = es := ⟨_, rfl⟩
          rw [hbb] at e2
          rw [hes] at e3
          have HBB := Lib.hid hbb
          have HES := Lib.hid hes
          have HW4 := Lib.hid (And.intro wown (And.intro wb wz))
          clear hbb hes g4 x4 wown wb hg4 hb4
          have hst2 : wantL st 0 = (0, 0) := by rw [HSX.out.1]; unfold wantL; simp
          have HW := Lib.hid hst2
          clear hst2
          cases bb
          · go_wp2
            have hD : rightD ts = false := rightD_false (by rw [HR.out, HRD.out]; unfold rightStep; rw [← HMM.out, if_neg (by rw [← HLS.out]; omega), HW.out, if_pos (.inl (fun h => by have e := HBB.out; simp [h.1, h.2] at e))]; rfl)
            rw [hD]
            exact bodyPost_ret (results_tmp rfl _ _ _) rfl ⟨rfl, HW4.out.2.1⟩
          · have hgo : n.k = 1 ∨ es = true → rightStep st j n = some (st.take 0 ++ [(j : Int)]) := fun h => by
              unfold rightStep
              rw [← HMM.out, if_neg (by rw [← HLS.out]; omega), HW.out, if_neg ?_, ← HLS.out]
              · first | rfl | (congr 3; omega)
              · rintro (h2 | ⟨h2, h3⟩)
                · exact h2 (by have e := HBB.out; simpa using e)
                · rcases h with h | h
                  · exact h2 h
                  · exact h3 (set_zero (HES.out.trans h))
            have HGO := Lib.hid hgo
            clear hgo
            by_cases hk1 : n.k = 1
            · have k1 : (n.k != 1) = false := by simp [hk1]
              have hgo2 := HGO.out (.inl hk1)
              have HG2 := Lib.hid hgo2
              clear hgo2 hk1
              go_wp2_with (first
                | (refine wpList_prefix_own rfl (.tmp 54) (.tmp 55) 86 3 Tryz.underlying86 Tryz.sizeOf3 rfl w.heap.size 0 0 _ (ints st) rfl (by first | rfl | exact congrArg (Value.int .i64) (by omega)) HW4.out.1 (by omega) ?_; intro v6 hv6 hob6; rw [ints_take] at hv6; have HT := Lib.hid hv6; clear hv6)
                | (at_builtin; refine wpList_append_own _ rfl (.tmp 56) (.tmp 58) 86 rfl w.heap.size 3 i0 (.int .i64 0) 1 8 Tryz.underlying86 HI0.out.1 HI0.out.2.1 HI0.out.2.2.1 HI0.out.2.2.2 rfl (by decide) _ 0 (ints (st.take 0)) rfl (owns_alloc HT.out) ⟨w4.heap.size, 0, none⟩ 1 1 [.int .i64 j] rfl rfl (cell_one' _ _ _) (by simp [Value.oneCell']) (by unfold maxLen; omega) (by omega) (by simp; omega) ?_; intro v5 w5 hown5 hgrow5 _
                   have hb5 : Below w.heap.size w w5 := (HW4.out.2.1.alloc HW4.out.2.2 _).grown hgrow5 (by simp; omega) (fun q hq => own_base HT.out hq)
                   have H5 := Lib.hid (And.intro hown5 hb5)
                   clear hown5 hgrow5 hb5)
                | fail)
              go_roundg (N - j)
              case rel => exact ⟨j + 1, st.take 0 ++ [(j : Int)], by go_num, by omega, (by rw [take_snoc_len st _ j (by rw [← HLS.out]; omega)]; have := HSJ.out; have := HLS.out; omega), by show _ = _; omega, (by show _ ≤ _; rw [take_snoc_len st _ j (by rw [← HLS.out]; omega)]; have := HSJ.out; have := HLS.out; omega), (by have h := H5.out.1; rw [← ints_snoc, ← take_snoc_len st 0 j (by rw [← HLS.out]; omega)] at h; exact h), by show _ = _; rw [HR.out, HRD.out, HG2.out]; rfl, H5.out.2⟩
              case measure => have := HK.out; omega
            · have k1 : (n.k != 1) = true := by simpa using hk1
              have HK1 := Lib.hid hk1
              clear hk1
              cases es
              · go_wp2
                have hD : rightD ts = false := rightD_false (by
                  rw [HR.out, HRD.out]
                  unfold rightStep
                  rw [← HMM.out, if_neg (by rw [← HLS.out]; omega), HW.out, if_pos (.inr ⟨HK1.out, fun h => by have e := HES.out; rw [h] at e; revert e; decide⟩)]
                  rfl)
                rw [hD]
                exact bodyPost_ret (results_tmp rfl _ _ _) rfl ⟨rfl, HW4.out.2.1⟩
              · have hgo2 := HGO.out (.inr rfl)
                have HG2 := Lib.hid hgo2
                clear hgo2
                go_wp2_with (first
                  | (refine wpList_prefix_own rfl (.tmp 54) (.tmp 55) 86 3 Tryz.underlying86 Tryz.sizeOf3 rfl w.heap.size 0 0 _ (ints st) rfl (by first | rfl | exact congrArg (Value.int .i64) (by omega)) HW4.out.1 (by omega) ?_; intro v6 hv6 hob6; rw [ints_take] at hv6; have HT := Lib.hid hv6; clear hv6)
                  | (at_builtin; refine wpList_append_own _ rfl (.tmp 56) (.tmp 58) 86 rfl w.heap.size 3 i0 (.int .i64 0) 1 8 Tryz.underlying86 HI0.out.1 HI0.out.2.1 HI0.out.2.2.1 HI0.out.2.2.2 rfl (by decide) _ 0 (ints (st.take 0)) rfl (owns_alloc HT.out) ⟨w4.heap.size, 0, none⟩ 1 1 [.int .i64 j] rfl rfl (cell_one' _ _ _) (by simp [Value.oneCell']) (by unfold maxLen; omega) (by omega) (by simp; omega) ?_; intro v5 w5 hown5 hgrow5 _
                     have hb5 : Below w.heap.size w w5 := (HW4.out.2.1.alloc HW4.out.2.2 _).grown hgrow5 (by simp; omega) (fun q hq => own_base HT.out hq)
                     have H5 := Lib.hid (And.intro hown5 hb5)
                     clear hown5 hgrow5 hb5)
                  | fail)
                go_roundg (N - j)
                case rel => exact ⟨j + 1, st.take 0 ++ [(j : Int)], by go_num, by omega, (by rw [take_snoc_len st _ j (by rw [← HLS.out]; omega)]; have := HSJ.out; have := HLS.out; omega), by show _ = _; omega, (by show _ ≤ _; rw [take_snoc_len st _ j (by rw [← HLS.out]; omega)]; have := HSJ.out; have := HLS.out; omega), (by have h := H5.out.1; rw [← ints_snoc, ← take_snoc_len st 0 j (by rw [← HLS.out]; omega)] at h; exact h), by show _ = _; rw [HR.out, HRD.out, HG2.out]; rfl, H5.out.2⟩
                case measure => have := HK.out; omega
        · cases hv0
          go_region_law (first
            | (refine step_copy_splice rfl (.tmp 34) (.tmp 37) 86 86 rfl 3 Tryz.underlying86 Tryz.sizeInt _ _ 2 2 _ _ rfl rfl (G + 1) 0 [.int .i64 0, .int .i64 0] 70 HV.out.1 ([] : List Value) (by first | rfl | (simp)) (fun h => absurd h (by simp)) (by simp) (by simp [Value.oneCell']) (G + 1) V (Below.refl _ V).drew (Nat.le_refl _) ?_; intro w4 hg4 hb4))
          generalize (if cp = L then (some ⟨g, 0, none⟩ : Option Addr) else some ⟨g, L, none⟩) = apx
          have g4 : w4.heap[G + 1]? = some (.cells #[.int .i64 0, .int .i64 0] 70 (0, 0)) := hg4
          have x4 : w4.heap[G]? = some (.cells #[.int .i64 n.k, .int .u64 (n.s.a.toNat : Int), .int .u64 (n.s.b.toNat : Int), .int .u64 (n.s.c.toNat : Int), .int .u64 (n.s.d.toNat : Int), .int .i64 n.x, .int .i64 n.y] 72 (0, 0)) := (hb4.block _ (by omega)).trans (HV.out.2.1.trans (by rw [HX.out]))
          have wown : w4.ownsRow w.heap.size 3 1 (.slice (some ⟨g, 0, none⟩) L cp) L (ints st) := owns_same HV.out.2.2.2.2.2.2.1 fun q hq => hb4.block q (Nat.lt_of_lt_of_le (by cases hq; exact HV.out.2.2.2.2.2.2.2 _ rfl) (Nat.le_succ _))
          have wb : Below w.heap.size w w4 := HV.out.2.2.1.trans (hb4.mono (by have := HV.out.2.2.2.2.2.1; omega))
          have wz : w.heap.size ≤ w4.heap.size := wb.size
          obtain ⟨q0, q1, q2, q3, q4, q5, q6⟩ := node_cells x4
          obtain ⟨p0, p1⟩ := pair_cells g4
          have e2 := run_neq_two n.x n.y 0 0
          have e3 := run_neq_cls (n.s.a.toNat : Int) (n.s.b.toNat : Int) (n.s.c.toNat : Int) (n.s.d.toNat : Int) 0 0 0 0
          obtain ⟨bb, hbb⟩ : ∃ bb, (n.x == 0 && n.y == 0) = bb := ⟨_, rfl⟩
          obtain ⟨es, hes⟩ : ∃ es, ((n.s.a.toNat : Int) == 0 && ((n.s.b.toNat : Int) == 0 && ((n.s.c.toNat : Int) == 0 && (n.s.d.toNat : Int) == 0))) = es := ⟨_, rfl⟩
          rw [hbb] at e2
          rw [hes] at e3
          have HBB := Lib.hid hbb
          have HES := Lib.hid hes
          have HW4 := Lib.hid (And.intro wown (And.intro wb wz))
          clear hbb hes g4 x4 wown wb hg4 hb4
          have hst2 : wantL st 0 = (0, 0) := by rw [HSX.out.1]; unfold wantL; simp
          have HW := Lib.hid hst2
          clear hst2
          cases bb
          · go_wp2
            have hD : rightD ts = false := rightD_false (by rw [HR.out, HRD.out]; unfold rightStep; rw [← HMM.out, if_neg (by rw [← HLS.out]; omega), HW.out, if_pos (.inl (fun h => by have e := HBB.out; simp [h.1, h.2] at e))]; rfl)
            rw [hD]
            exact bodyPost_ret (results_tmp rfl _ _ _) rfl ⟨rfl, HW4.out.2.1⟩
          · have hgo : n.k = 1 ∨ es = true → rightStep st j n = some (st.take r ++ [(j : Int)]) := fun h => by
              unfold rightStep
              rw [← HMM.out, if_neg (by rw [← HLS.out]; omega), HW.out, if_neg ?_, ← HLS.out]
              · first | rfl | (congr 3; omega)
              · rintro (h2 | ⟨h2, h3⟩)
                · exact h2 (by have e := HBB.out; simpa using e)
                · rcases h with h | h
                  · exact h2 h
                  · exact h3 (set_zero (HES.out.trans h))
            have HGO := Lib.hid hgo
            clear hgo
            by_cases hk1 : n.k = 1
            · have k1 : (n.k != 1) = false := by simp [hk1]
              have hgo2 := HGO.out (.inl hk1)
              have HG2 := Lib.hid hgo2
              clear hgo2 hk1
              go_wp2_with (first
                | (refine wpList_prefix_own rfl (.tmp 54) (.tmp 55) 86 3 Tryz.underlying86 Tryz.sizeOf3 rfl w.heap.size L r _ (ints st) rfl (by first | rfl | exact congrArg (Value.int .i64) (by omega)) HW4.out.1 (by omega) ?_; intro v6 hv6 hob6; rw [ints_take] at hv6; have HT := Lib.hid hv6; clear hv6)
                | (at_builtin; refine wpList_append_own _ rfl (.tmp 56) (.tmp 58) 86 rfl w.heap.size 3 i0 (.int .i64 0) 1 8 Tryz.underlying86 HI0.out.1 HI0.out.2.1 HI0.out.2.2.1 HI0.out.2.2.2 rfl (by decide) _ r (ints (st.take r)) rfl (owns_alloc HT.out) ⟨w4.heap.size, 0, none⟩ 1 1 [.int .i64 j] rfl rfl (cell_one' _ _ _) (by simp [Value.oneCell']) (by unfold maxLen; omega) (by omega) (by simp; omega) ?_; intro v5 w5 hown5 hgrow5 _
                   have hb5 : Below w.heap.size w w5 := (HW4.out.2.1.alloc HW4.out.2.2 _).grown hgrow5 (by simp; omega) (fun q hq => own_base HT.out hq)
                   have H5 := Lib.hid (And.intro hown5 hb5)
                   clear hown5 hgrow5 hb5)
                | fail)
              go_roundg (N - j)
              case rel => exact ⟨j + 1, st.take r ++ [(j : Int)], by go_num, by omega, (by rw [take_snoc_len st _ j (by rw [← HLS.out]; omega)]; have := HSJ.out; have := HLS.out; omega), by show _ = _; omega, (by show _ ≤ _; rw [take_snoc_len st _ j (by rw [← HLS.out]; omega)]; have := HSJ.out; have := HLS.out; omega), (by have h := H5.out.1; rw [← ints_snoc, ← take_snoc_len st r j (by rw [← HLS.out]; omega)] at h; exact h), by show _ = _; rw [HR.out, HRD.out, HG2.out]; rfl, H5.out.2⟩
              case measure => have := HK.out; omega
            · have k1 : (n.k != 1) = true := by simpa using hk1
              have HK1 := Lib.hid hk1
              clear hk1
              cases es
              · go_wp2
                have hD : rightD ts = false := rightD_false (by
                  rw [HR.out, HRD.out]
                  unfold rightStep
                  rw [← HMM.out, if_neg (by rw [← HLS.out]; omega), HW.out, if_pos (.inr ⟨HK1.out, fun h => by have e := HES.out; rw [h] at e; revert e; decide⟩)]
                  rfl)
                rw [hD]
                exact bodyPost_ret (results_tmp rfl _ _ _) rfl ⟨rfl, HW4.out.2.1⟩
              · have hgo2 := HGO.out (.inr rfl)
                have HG2 := Lib.hid hgo2
                clear hgo2
                go_wp2_with (first
                  | (refine wpList_prefix_own rfl (.tmp 54) (.tmp 55) 86 3 Tryz.underlying86 Tryz.sizeOf3 rfl w.heap.size L r _ (ints st) rfl (by first | rfl | exact congrArg (Value.int .i64) (by omega)) HW4.out.1 (by omega) ?_; intro v6 hv6 hob6; rw [ints_take] at hv6; have HT := Lib.hid hv6; clear hv6)
                  | (at_builtin; refine wpList_append_own _ rfl (.tmp 56) (.tmp 58) 86 rfl w.heap.size 3 i0 (.int .i64 0) 1 8 Tryz.underlying86 HI0.out.1 HI0.out.2.1 HI0.out.2.2.1 HI0.out.2.2.2 rfl (by decide) _ r (ints (st.take r)) rfl (owns_alloc HT.out) ⟨w4.heap.size, 0, none⟩ 1 1 [.int .i64 j] rfl rfl (cell_one' _ _ _) (by simp [Value.oneCell']) (by unfold maxLen; omega) (by omega) (by simp; omega) ?_; intro v5 w5 hown5 hgrow5 _
                     have hb5 : Below w.heap.size w w5 := (HW4.out.2.1.alloc HW4.out.2.2 _).grown hgrow5 (by simp; omega) (fun q hq => own_base HT.out hq)
                     have H5 := Lib.hid (And.intro hown5 hb5)
                     clear hown5 hgrow5 hb5)
                  | fail)
                go_roundg (N - j)
                case rel => exact ⟨j + 1, st.take r ++ [(j : Int)], by go_num, by omega, (by rw [take_snoc_len st _ j (by rw [← HLS.out]; omega)]; have := HSJ.out; have := HLS.out; omega), by show _ = _; omega, (by show _ ≤ _; rw [take_snoc_len st _ j (by rw [← HLS.out]; omega)]; have := HSJ.out; have := HLS.out; omega), (by have h := H5.out.1; rw [← ints_snoc, ← take_snoc_len st r j (by rw [← HLS.out]; omega)] at h; exact h), by show _ = _; rw [HR.out, HRD.out, HG2.out]; rfl, H5.out.2⟩
                case measure => have := HK.out; omega
      · by_cases hLm : L < 1
        · have d1 : decide ((L : Int) < 1) = true := by simp; omega
          go_wp2_with (first | (go_at_call 70; refine (kk _).mono ?_; rintro e w1 ⟨rfl, rfl⟩) | fail)
          have hD : rightD ts = false := rightD_false (by rw [HR.out, HRD.out]; unfold rightStep; rw [← HMM.out, if_pos (.inr (by rw [← HLS.out]; omega))]; rfl)
          rw [hD]
          exact bodyPost_ret (results_tmp rfl _ _ _) rfl ⟨rfl, hbel.alloc hbel.size _⟩
        have d1 : decide ((L : Int) < 1) = false := by simp; omega
        obtain ⟨r, hr⟩ : ∃ r, r = L - 1 := ⟨_, rfl⟩
        have hrL : r + 1 = L := by omega
        have hrle : r ≤ L := by omega
        have hLr : L - r = 1 := by omega
        have hcr : ¬ cp = r := by first | trivial | omega
        have hwr : IntKind.i64.wrap ((L : Int) - 1) = (r : Int) := by rw [IntWalk.i64_in _ (by unfold maxLen at hcap; omega)]; omega
        obtain ⟨s, x, hsx⟩ : ∃ (s : List Int) (x : Int), st = s ++ [x] := split_one st (by rw [← HLS.out]; omega)
        have hsl : s.length = r := by have e := HLS.out; rw [hsx, List.length_append] at e; simp at e; omega
        have HSX := Lib.hid (And.intro hsx hsl)
        clear hsx hsl hr
        go_wp2_with (first | (go_at_call 70; refine (kk _).mono ?_; rintro e w1 ⟨rfl, rfl⟩) | fail)
        obtain ⟨X, hX⟩ : ∃ X, X = Obj.cells #[.int .i64 n.k, .int .u64 (n.s.a.toNat : Int), .int .u64 (n.s.b.toNat : Int), .int .u64 (n.s.c.toNat : Int), .int .u64 (n.s.d.toNat : Int), .int .i64 n.x, .int .i64 n.y] 72 := ⟨_, rfl⟩
        rw [← hX]
        obtain ⟨V, hV⟩ : ∃ V, V = (wr.alloc X).alloc (.cells #[.int .i64 0, .int .i64 0] 70) := ⟨_, rfl⟩
        rw [← hV]
        obtain ⟨G, hG⟩ : ∃ G, G = wr.heap.size := ⟨_, rfl⟩
        rw [← hG]
        have v1 : V.heap[G + 1]? = some (.cells #[.int .i64 0, .int .i64 0] 70 (0, 0)) := by
          rw [hV, hG, show wr.heap.size + 1 = (wr.alloc X).heap.size by simp]; exact heap_alloc_new _ _
        have v0 : V.heap[G]? = some X := by rw [hV, hG]; exact (Below.heap_alloc _ _ _ (by simp)).trans (heap_alloc_new _ _)
        have vb : Below w.heap.size w V := by rw [hV]; exact (HBEL.out.alloc HBEL.out.size _).alloc (HBEL.out.alloc HBEL.out.size _).size _
        have vz : V.heap.size = G + 2 := by rw [hV, hG]; simp
        have vo : ∀ q, q < G → V.heap[q]? = wr.heap[q]? := fun q hq => by rw [hV]; exact (Below.heap_alloc _ _ _ (by simp; omega)).trans (Below.heap_alloc _ _ _ (by omega))
        have vG : w.heap.size ≤ G := by rw [hG]; exact HBEL.out.size
        have vown : V.ownsRow w.heap.size 3 1 (.slice ao L cp) L (ints st) := owns_same HOWN.out fun q hq => vo q (by rw [hG]; exact own_block_lt HOWN.out hq)
        have vg : ∀ g, ao = some ⟨g, 0, none⟩ → g < G := fun g hg => by rw [hG]; exact own_block_lt HOWN.out (by rw [hg]; rfl)
        have HX := Lib.hid hX
        have HV := Lib.hid (And.intro v1 (And.intro v0 (And.intro vb (And.intro vz (And.intro vo (And.intro vG (And.intro vown vg)))))))
        clear hX hV hG v1 v0 vb vz vo vG vown vg a0 a1 a2 a3 a4 a5 a6 hbel
        rcases HOWN.out.2 with ⟨hv0, h00⟩ | ⟨g, cap2, cur, hv0, _⟩
        · exact absurd h00 (by omega)
        · cases hv0
          have q0 := owns_cell (j := r) (v := .int .i64 x) HV.out.2.2.2.2.2.2.1 (by rw [HSX.out.1]; unfold ints; simp [← HSX.out.2])
          go_region_law (first
            | (refine step_copy_splice rfl (.tmp 34) (.tmp 37) 86 86 rfl 3 Tryz.underlying86 Tryz.sizeInt _ _ 2 2 _ _ rfl rfl (G + 1) 0 [.int .i64 0, .int .i64 0] 70 HV.out.1 [Value.int .i64 x] (by first | rfl | (simp; omega)) (fun _ => ⟨rfl, ⟨g, r, none⟩, by simp, fun j v hj => by match j, hj with | 0, hj => simp at hj; subst hj; simpa [Addr.add] using q0⟩) (by simp) (by simp [Value.oneCell']) (G + 1) V (Below.refl _ V).drew (Nat.le_refl _) ?_; intro w4 hg4 hb4))
          have g4 : w4.heap[G + 1]? = some (.cells #[.int .i64 x, .int .i64 0] 70 (0, 0)) := hg4
          have x4 : w4.heap[G]? = some (.cells #[.int .i64 n.k, .int .u64 (n.s.a.toNat : Int), .int .u64 (n.s.b.toNat : Int), .int .u64 (n.s.c.toNat : Int), .int .u64 (n.s.d.toNat : Int), .int .i64 n.x, .int .i64 n.y] 72 (0, 0)) := (hb4.block _ (by omega)).trans (HV.out.2.1.trans (by rw [HX.out]))
          have wown : w4.ownsRow w.heap.size 3 1 (.slice (some ⟨g, 0, none⟩) L cp) L (ints st) := owns_same HV.out.2.2.2.2.2.2.1 fun q hq => hb4.block q (Nat.lt_of_lt_of_le (by cases hq; exact HV.out.2.2.2.2.2.2.2 _ rfl) (Nat.le_succ _))
          have wb : Below w.heap.size w w4 := HV.out.2.2.1.trans (hb4.mono (by have := HV.out.2.2.2.2.2.1; omega))
          have wz : w.heap.size ≤ w4.heap.size := wb.size
          obtain ⟨q0, q1, q2, q3, q4, q5, q6⟩ := node_cells x4
          obtain ⟨p0, p1⟩ := pair_cells g4
          have e2 := run_neq_two n.x n.y x 0
          have e3 := run_neq_cls (n.s.a.toNat : Int) (n.s.b.toNat : Int) (n.s.c.toNat : Int) (n.s.d.toNat : Int) 0 0 0 0
          obtain ⟨bb, hbb⟩ : ∃ bb, (n.x == x && n.y == 0) = bb := ⟨_, rfl⟩
          obtain ⟨es, hes⟩ : ∃ es, ((n.s.a.toNat : Int) == 0 && ((n.s.b.toNat : Int) == 0 && ((n.s.c.toNat : Int) == 0 && (n.s.d.toNat : Int) == 0))) = es := ⟨_, rfl⟩
          rw [hbb] at e2
          rw [hes] at e3
          have HBB := Lib.hid hbb
          have HES := Lib.hid hes
          have HW4 := Lib.hid (And.intro wown (And.intro wb wz))
          clear hbb hes g4 x4 wown wb hg4 hb4
          have hst2 : wantL st 1 = (x, 0) := by rw [HSX.out.1]; unfold wantL; simp
          have HW := Lib.hid hst2
          clear hst2
          cases bb
          · go_wp2
            have hD : rightD ts = false := rightD_false (by rw [HR.out, HRD.out]; unfold rightStep; rw [← HMM.out, if_neg (by rw [← HLS.out]; omega), HW.out, if_pos (.inl (fun h => by have e := HBB.out; simp [h.1, h.2] at e))]; rfl)
            rw [hD]
            exact bodyPost_ret (results_tmp rfl _ _ _) rfl ⟨rfl, HW4.out.2.1⟩
          · have hgo : n.k = 1 ∨ es = true → rightStep st j n = some (st.take r ++ [(j : Int)]) := fun h => by
              unfold rightStep
              rw [← HMM.out, if_neg (by rw [← HLS.out]; omega), HW.out, if_neg ?_, ← HLS.out]
              · first | rfl | (congr 3; omega)
              · rintro (h2 | ⟨h2, h3⟩)
                · exact h2 (by have e := HBB.out; simpa using e)
                · rcases h with h | h
                  · exact h2 h
                  · exact h3 (set_zero (HES.out.trans h))
            have HGO := Lib.hid hgo
            clear hgo
            by_cases hk1 : n.k = 1
            · have k1 : (n.k != 1) = false := by simp [hk1]
              have hgo2 := HGO.out (.inl hk1)
              have HG2 := Lib.hid hgo2
              clear hgo2 hk1
              go_wp2_with (first
                | (refine wpList_prefix_own rfl (.tmp 54) (.tmp 55) 86 3 Tryz.underlying86 Tryz.sizeOf3 rfl w.heap.size L r _ (ints st) rfl (by first | rfl | exact congrArg (Value.int .i64) (by omega)) HW4.out.1 (by omega) ?_; intro v6 hv6 hob6; rw [ints_take] at hv6; have HT := Lib.hid hv6; clear hv6)
                | (at_builtin; refine wpList_append_own _ rfl (.tmp 56) (.tmp 58) 86 rfl w.heap.size 3 i0 (.int .i64 0) 1 8 Tryz.underlying86 HI0.out.1 HI0.out.2.1 HI0.out.2.2.1 HI0.out.2.2.2 rfl (by decide) _ r (ints (st.take r)) rfl (owns_alloc HT.out) ⟨w4.heap.size, 0, none⟩ 1 1 [.int .i64 j] rfl rfl (cell_one' _ _ _) (by simp [Value.oneCell']) (by unfold maxLen; omega) (by omega) (by simp; omega) ?_; intro v5 w5 hown5 hgrow5 _
                   have hb5 : Below w.heap.size w w5 := (HW4.out.2.1.alloc HW4.out.2.2 _).grown hgrow5 (by simp; omega) (fun q hq => own_base HT.out hq)
                   have H5 := Lib.hid (And.intro hown5 hb5)
                   clear hown5 hgrow5 hb5)
                | fail)
              go_roundg (N - j)
              case rel => exact ⟨j + 1, st.take r ++ [(j : Int)], by go_num, by omega, (by rw [take_snoc_len st _ j (by rw [← HLS.out]; omega)]; have := HSJ.out; have := HLS.out; omega), by show _ = _; omega, (by show _ ≤ _; rw [take_snoc_len st _ j (by rw [← HLS.out]; omega)]; have := HSJ.out; have := HLS.out; omega), (by have h := H5.out.1; rw [← ints_snoc, ← take_snoc_len st r j (by rw [← HLS.out]; omega)] at h; exact h), by show _ = _; rw [HR.out, HRD.out, HG2.out]; rfl, H5.out.2⟩
              case measure => have := HK.out; omega
            · have k1 : (n.k != 1) = true := by simpa using hk1
              have HK1 := Lib.hid hk1
              clear hk1
              cases es
              · go_wp2
                have hD : rightD ts = false := rightD_false (by
                  rw [HR.out, HRD.out]
                  unfold rightStep
                  rw [← HMM.out, if_neg (by rw [← HLS.out]; omega), HW.out, if_pos (.inr ⟨HK1.out, fun h => by have e := HES.out; rw [h] at e; revert e; decide⟩)]
                  rfl)
                rw [hD]
                exact bodyPost_ret (results_tmp rfl _ _ _) rfl ⟨rfl, HW4.out.2.1⟩
              · have hgo2 := HGO.out (.inr rfl)
                have HG2 := Lib.hid hgo2
                clear hgo2
                go_wp2_with (first
                  | (refine wpList_prefix_own rfl (.tmp 54) (.tmp 55) 86 3 Tryz.underlying86 Tryz.sizeOf3 rfl w.heap.size L r _ (ints st) rfl (by first | rfl | exact congrArg (Value.int .i64) (by omega)) HW4.out.1 (by omega) ?_; intro v6 hv6 hob6; rw [ints_take] at hv6; have HT := Lib.hid hv6; clear hv6)
                  | (at_builtin; refine wpList_append_own _ rfl (.tmp 56) (.tmp 58) 86 rfl w.heap.size 3 i0 (.int .i64 0) 1 8 Tryz.underlying86 HI0.out.1 HI0.out.2.1 HI0.out.2.2.1 HI0.out.2.2.2 rfl (by decide) _ r (ints (st.take r)) rfl (owns_alloc HT.out) ⟨w4.heap.size, 0, none⟩ 1 1 [.int .i64 j] rfl rfl (cell_one' _ _ _) (by simp [Value.oneCell']) (by unfold maxLen; omega) (by omega) (by simp; omega) ?_; intro v5 w5 hown5 hgrow5 _
                     have hb5 : Below w.heap.size w w5 := (HW4.out.2.1.alloc HW4.out.2.2 _).grown hgrow5 (by simp; omega) (fun q hq => own_base HT.out hq)
                     have H5 := Lib.hid (And.intro hown5 hb5)
                     clear hown5 hgrow5 hb5)
                  | fail)
                go_roundg (N - j)
                case rel => exact ⟨j + 1, st.take r ++ [(j : Int)], by go_num, by omega, (by rw [take_snoc_len st _ j (by rw [← HLS.out]; omega)]; have := HSJ.out; have := HLS.out; omega), by show _ = _; omega, (by show _ ≤ _; rw [take_snoc_len st _ j (by rw [← HLS.out]; omega)]; have := HSJ.out; have := HLS.out; omega), (by have h := H5.out.1; rw [← ints_snoc, ← take_snoc_len st r j (by rw [← HLS.out]; omega)] at h; exact h), by show _ = _; rw [HR.out, HRD.out, HG2.out]; rfl, H5.out.2⟩
                case measure => have := HK.out; omega
      · by_cases hLm : L < 2
        · have d1 : decide ((L : Int) < 2) = true := by simp; omega
          go_wp2_with (first | (go_at_call 70; refine (kk _).mono ?_; rintro e w1 ⟨rfl, rfl⟩) | fail)
          have hD : rightD ts = false := rightD_false (by rw [HR.out, HRD.out]; unfold rightStep; rw [← HMM.out, if_pos (.inr (by rw [← HLS.out]; omega))]; rfl)
          rw [hD]
          exact bodyPost_ret (results_tmp rfl _ _ _) rfl ⟨rfl, hbel.alloc hbel.size _⟩
        have d1 : decide ((L : Int) < 2) = false := by simp; omega
        obtain ⟨r, hr⟩ : ∃ r, r = L - 2 := ⟨_, rfl⟩
        have hrL : r + 2 = L := by omega
        have hrle : r ≤ L := by omega
        have hLr : L - r = 2 := by omega
        have hcr : ¬ cp = r := by first | trivial | omega
        have hwr : IntKind.i64.wrap ((L : Int) - 2) = (r : Int) := by rw [IntWalk.i64_in _ (by unfold maxLen at hcap; omega)]; omega
        obtain ⟨s, x, y, hsx⟩ : ∃ (s : List Int) (x y : Int), st = s ++ [x, y] := split_two st (by rw [← HLS.out]; omega)
        have hsl : s.length = r := by have e := HLS.out; rw [hsx, List.length_append] at e; simp at e; omega
        have HSX := Lib.hid (And.intro hsx hsl)
        clear hsx hsl hr
        go_wp2_with (first | (go_at_call 70; refine (kk _).mono ?_; rintro e w1 ⟨rfl, rfl⟩) | fail)
        obtain ⟨X, hX⟩ : ∃ X, X = Obj.cells #[.int .i64 n.k, .int .u64 (n.s.a.toNat : Int), .int .u64 (n.s.b.toNat : Int), .int .u64 (n.s.c.toNat : Int), .int .u64 (n.s.d.toNat : Int), .int .i64 n.x, .int .i64 n.y] 72 := ⟨_, rfl⟩
        rw [← hX]
        obtain ⟨V, hV⟩ : ∃ V, V = (wr.alloc X).alloc (.cells #[.int .i64 0, .int .i64 0] 70) := ⟨_, rfl⟩
        rw [← hV]
        obtain ⟨G, hG⟩ : ∃ G, G = wr.heap.size := ⟨_, rfl⟩
        rw [← hG]
        have v1 : V.heap[G + 1]? = some (.cells #[.int .i64 0, .int .i64 0] 70 (0, 0)) := by
          rw [hV, hG, show wr.heap.size + 1 = (wr.alloc X).heap.size by simp]; exact heap_alloc_new _ _
        have v0 : V.heap[G]? = some X := by rw [hV, hG]; exact (Below.heap_alloc _ _ _ (by simp)).trans (heap_alloc_new _ _)
        have vb : Below w.heap.size w V := by rw [hV]; exact (HBEL.out.alloc HBEL.out.size _).alloc (HBEL.out.alloc HBEL.out.size _).size _
        have vz : V.heap.size = G + 2 := by rw [hV, hG]; simp
        have vo : ∀ q, q < G → V.heap[q]? = wr.heap[q]? := fun q hq => by rw [hV]; exact (Below.heap_alloc _ _ _ (by simp; omega)).trans (Below.heap_alloc _ _ _ (by omega))
        have vG : w.heap.size ≤ G := by rw [hG]; exact HBEL.out.size
        have vown : V.ownsRow w.heap.size 3 1 (.slice ao L cp) L (ints st) := owns_same HOWN.out fun q hq => vo q (by rw [hG]; exact own_block_lt HOWN.out hq)
        have vg : ∀ g, ao = some ⟨g, 0, none⟩ → g < G := fun g hg => by rw [hG]; exact own_block_lt HOWN.out (by rw [hg]; rfl)
        have HX := Lib.hid hX
        have HV := Lib.hid (And.intro v1 (And.intro v0 (And.intro vb (And.intro vz (And.intro vo (And.intro vG (And.intro vown vg)))))))
        clear hX hV hG v1 v0 vb vz vo vG vown vg a0 a1 a2 a3 a4 a5 a6 hbel
        rcases HOWN.out.2 with ⟨hv0, h00⟩ | ⟨g, cap2, cur, hv0, _⟩
        · exact absurd h00 (by omega)
        · cases hv0
          have q0 := owns_cell (j := r) (v := .int .i64 x) HV.out.2.2.2.2.2.2.1 (by rw [HSX.out.1]; unfold ints; simp [← HSX.out.2])
          have q1 := owns_cell (j := r + 1) (v := .int .i64 y) HV.out.2.2.2.2.2.2.1 (by rw [HSX.out.1]; unfold ints; simp [← HSX.out.2])
          go_region_law (first
            | (refine step_copy_splice rfl (.tmp 34) (.tmp 37) 86 86 rfl 3 Tryz.underlying86 Tryz.sizeInt _ _ 2 2 _ _ rfl rfl (G + 1) 0 [.int .i64 0, .int .i64 0] 70 HV.out.1 [Value.int .i64 x, .int .i64 y] (by first | rfl | (simp; omega)) (fun _ => ⟨rfl, ⟨g, r, none⟩, by simp, fun j v hj => by match j, hj with | 0, hj => simp at hj; subst hj; simpa [Addr.add] using q0 | 1, hj => simp at hj; subst hj; simpa [Addr.add] using q1⟩) (by simp) (by simp [Value.oneCell']) (G + 1) V (Below.refl _ V).drew (Nat.le_refl _) ?_; intro w4 hg4 hb4))
          have g4 : w4.heap[G + 1]? = some (.cells #[.int .i64 x, .int .i64 y] 70 (0, 0)) := hg4
          have x4 : w4.heap[G]? = some (.cells #[.int .i64 n.k, .int .u64 (n.s.a.toNat : Int), .int .u64 (n.s.b.toNat : Int), .int .u64 (n.s.c.toNat : Int), .int .u64 (n.s.d.toNat : Int), .int .i64 n.x, .int .i64 n.y] 72 (0, 0)) := (hb4.block _ (by omega)).trans (HV.out.2.1.trans (by rw [HX.out]))
          have wown : w4.ownsRow w.heap.size 3 1 (.slice (some ⟨g, 0, none⟩) L cp) L (ints st) := owns_same HV.out.2.2.2.2.2.2.1 fun q hq => hb4.block q (Nat.lt_of_lt_of_le (by cases hq; exact HV.out.2.2.2.2.2.2.2 _ rfl) (Nat.le_succ _))
          have wb : Below w.heap.size w w4 := HV.out.2.2.1.trans (hb4.mono (by have := HV.out.2.2.2.2.2.1; omega))
          have wz : w.heap.size ≤ w4.heap.size := wb.size
          obtain ⟨q0, q1, q2, q3, q4, q5, q6⟩ := node_cells x4
          obtain ⟨p0, p1⟩ := pair_cells g4
          have e2 := run_neq_two n.x n.y x y
          have e3 := run_neq_cls (n.s.a.toNat : Int) (n.s.b.toNat : Int) (n.s.c.toNat : Int) (n.s.d.toNat : Int) 0 0 0 0
          obtain ⟨bb, hbb⟩ : ∃ bb, (n.x == x && n.y == y) = bb := ⟨_, rfl⟩
          obtain ⟨es, hes⟩ : ∃ es, ((n.s.a.toNat : Int) == 0 && ((n.s.b.toNat : Int) == 0 && ((n.s.c.toNat : Int) == 0 && (n.s.d.toNat : Int) == 0))) = es := ⟨_, rfl⟩
          rw [hbb] at e2
          rw [hes] at e3
          have HBB := Lib.hid hbb
          have HES := Lib.hid hes
          have HW4 := Lib.hid (And.intro wown (And.intro wb wz))
          clear hbb hes g4 x4 wown wb hg4 hb4
          have hst2 : wantL st 2 = (x, y) := by rw [HSX.out.1]; unfold wantL; simp
          have HW := Lib.hid hst2
          clear hst2
          cases bb
          · go_wp2
            have hD : rightD ts = false := rightD_false (by rw [HR.out, HRD.out]; unfold rightStep; rw [← HMM.out, if_neg (by rw [← HLS.out]; omega), HW.out, if_pos (.inl (fun h => by have e := HBB.out; simp [h.1, h.2] at e))]; rfl)
            rw [hD]
            exact bodyPost_ret (results_tmp rfl _ _ _) rfl ⟨rfl, HW4.out.2.1⟩
          · have hgo : n.k = 1 ∨ es = true → rightStep st j n = some (st.take r ++ [(j : Int)]) := fun h => by
              unfold rightStep
              rw [← HMM.out, if_neg (by rw [← HLS.out]; omega), HW.out, if_neg ?_, ← HLS.out]
              · first | rfl | (congr 3; omega)
              · rintro (h2 | ⟨h2, h3⟩)
                · exact h2 (by have e := HBB.out; simpa using e)
                · rcases h with h | h
                  · exact h2 h
                  · exact h3 (set_zero (HES.out.trans h))
            have HGO := Lib.hid hgo
            clear hgo
            by_cases hk1 : n.k = 1
            · have k1 : (n.k != 1) = false := by simp [hk1]
              have hgo2 := HGO.out (.inl hk1)
              have HG2 := Lib.hid hgo2
              clear hgo2 hk1
              go_wp2_with (first
                | (refine wpList_prefix_own rfl (.tmp 54) (.tmp 55) 86 3 Tryz.underlying86 Tryz.sizeOf3 rfl w.heap.size L r _ (ints st) rfl (by first | rfl | exact congrArg (Value.int .i64) (by omega)) HW4.out.1 (by omega) ?_; intro v6 hv6 hob6; rw [ints_take] at hv6; have HT := Lib.hid hv6; clear hv6)
                | (at_builtin; refine wpList_append_own _ rfl (.tmp 56) (.tmp 58) 86 rfl w.heap.size 3 i0 (.int .i64 0) 1 8 Tryz.underlying86 HI0.out.1 HI0.out.2.1 HI0.out.2.2.1 HI0.out.2.2.2 rfl (by decide) _ r (ints (st.take r)) rfl (owns_alloc HT.out) ⟨w4.heap.size, 0, none⟩ 1 1 [.int .i64 j] rfl rfl (cell_one' _ _ _) (by simp [Value.oneCell']) (by unfold maxLen; omega) (by omega) (by simp; omega) ?_; intro v5 w5 hown5 hgrow5 _
                   have hb5 : Below w.heap.size w w5 := (HW4.out.2.1.alloc HW4.out.2.2 _).grown hgrow5 (by simp; omega) (fun q hq => own_base HT.out hq)
                   have H5 := Lib.hid (And.intro hown5 hb5)
                   clear hown5 hgrow5 hb5)
                | fail)
              go_roundg (N - j)
              case rel => exact ⟨j + 1, st.take r ++ [(j : Int)], by go_num, by omega, (by rw [take_snoc_len st _ j (by rw [← HLS.out]; omega)]; have := HSJ.out; have := HLS.out; omega), by show _ = _; omega, (by show _ ≤ _; rw [take_snoc_len st _ j (by rw [← HLS.out]; omega)]; have := HSJ.out; have := HLS.out; omega), (by have h := H5.out.1; rw [← ints_snoc, ← take_snoc_len st r j (by rw [← HLS.out]; omega)] at h; exact h), by show _ = _; rw [HR.out, HRD.out, HG2.out]; rfl, H5.out.2⟩
              case measure => have := HK.out; omega
            · have k1 : (n.k != 1) = true := by simpa using hk1
              have HK1 := Lib.hid hk1
              clear hk1
              cases es
              · go_wp2
                have hD : rightD ts = false := rightD_false (by
                  rw [HR.out, HRD.out]
                  unfold rightStep
                  rw [← HMM.out, if_neg (by rw [← HLS.out]; omega), HW.out, if_pos (.inr ⟨HK1.out, fun h => by have e := HES.out; rw [h] at e; revert e; decide⟩)]
                  rfl)
                rw [hD]
                exact bodyPost_ret (results_tmp rfl _ _ _) rfl ⟨rfl, HW4.out.2.1⟩
              · have hgo2 := HGO.out (.inr rfl)
                have HG2 := Lib.hid hgo2
                clear hgo2
                go_wp2_with (first
                  | (refine wpList_prefix_own rfl (.tmp 54) (.tmp 55) 86 3 Tryz.underlying86 Tryz.sizeOf3 rfl w.heap.size L r _ (ints st) rfl (by first | rfl | exact congrArg (Value.int .i64) (by omega)) HW4.out.1 (by omega) ?_; intro v6 hv6 hob6; rw [ints_take] at hv6; have HT := Lib.hid hv6; clear hv6)
                  | (at_builtin; refine wpList_append_own _ rfl (.tmp 56) (.tmp 58) 86 rfl w.heap.size 3 i0 (.int .i64 0) 1 8 Tryz.underlying86 HI0.out.1 HI0.out.2.1 HI0.out.2.2.1 HI0.out.2.2.2 rfl (by decide) _ r (ints (st.take r)) rfl (owns_alloc HT.out) ⟨w4.heap.size, 0, none⟩ 1 1 [.int .i64 j] rfl rfl (cell_one' _ _ _) (by simp [Value.oneCell']) (by unfold maxLen; omega) (by omega) (by simp; omega) ?_; intro v5 w5 hown5 hgrow5 _
                     have hb5 : Below w.heap.size w w5 := (HW4.out.2.1.alloc HW4.out.2.2 _).grown hgrow5 (by simp; omega) (fun q hq => own_base HT.out hq)
                     have H5 := Lib.hid (And.intro hown5 hb5)
                     clear hown5 hgrow5 hb5)
                  | fail)
                go_roundg (N - j)
                case rel => exact ⟨j + 1, st.take r ++ [(j : Int)], by go_num, by omega, (by rw [take_snoc_len st _ j (by rw [← HLS.out]; omega)]; have := HSJ.out; have := HLS.out; omega), by show _ = _; omega, (by show _ ≤ _; rw [take_snoc_len st _ j (by rw [← HLS.out]; omega)]; have := HSJ.out; have := HLS.out; omega), (by have h := H5.out.1; rw [← ints_snoc, ← take_snoc_len st r j (by rw [← HLS.out]; omega)] at h; exact h), by show _ = _; rw [HR.out, HRD.out, HG2.out]; rfl, H5.out.2⟩
                case measure => have := HK.out; omega
    · have hnd : decide ((j : Int) < (N : Int)) = false := by simp; omega
      have hfin : rightRun ts 0 [] = some st := by rw [HR.out, List.drop_of_length_le (by have := HN.out; omega)]; rfl
      have hD := rightD_some HL.out hfin
      rw [← HLS.out] at hD
      have HD := Lib.hid hD
      have hq : ((L : Int) == 1) = (L == 1) := by rw [Bool.eq_iff_iff, beq_iff_eq, beq_iff_eq]; omega
      clear hD hfin
      go_wp2
      exact bodyPost_ret (results_tmp rfl _ _ _) rfl ⟨by rw [HD.out]; first | rfl | (rw [← hq]; rfl), hbel⟩
set_option maxHeartbeats 1000000 in
set_option maxRecDepth 20000 in
theorem right_long (ao : Option Addr) (N cap : Nat) (w : World) (hl : 2000 < N) :
    Calls Tryz.prog 47 #[.slice ao N cap] w fun e w' => e = .returned (.bool false) ∧ Below w.heap.size w w' := by
  have hlen : decide ((2000 : Int) < (N : Int)) = true := by simp; omega
  go_enter Tryz.func47, Tryz.ntmps47
  go_wp2
  exact bodyPost_ret (results_tmp rfl _ _ _) rfl ⟨rfl, Below.refl _ _⟩
/-- Package regex's Right. -/
theorem right_any (v : Value) (ts : List Nd) (w : World) (h : Lies v ts w) :
    Calls Tryz.prog 47 #[v] w fun e w' => e = .returned (.bool (rightD ts)) ∧ Below w.heap.size w w' := by
  by_cases hl : 2000 < ts.length
  · obtain ⟨ao, cap, rfl, _⟩ := h
    have hD : rightD ts = false := by unfold rightD; rw [if_pos hl]
    rw [hD]
    exact right_long ao ts.length cap w hl
  · exact right_walk v ts w h hl
end Go.Proofs.YtgceckejchdnlaaGreatDoor
