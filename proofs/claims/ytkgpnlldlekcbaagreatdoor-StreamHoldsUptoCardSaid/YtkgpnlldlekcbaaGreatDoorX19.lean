/- Packed texts: SuRead. What each of them proves stands above its theorems; the conditions stand in these. -/
import Derived.WalkMore
import Derived.Test.YtkgpnlldlekcbaaGreatDoorX18
namespace Go.Proofs.YtkgpnlldlekcbaaGreatDoor
open Go.RowKit Go.Lib
attribute [local go_sem] Oper.semAt_some

def mkB (l : List UInt8) : ByteArray := ⟨l.toArray⟩
theorem readR_place {f : Nat} {l : List UInt8} {acc : List (List UInt8)} {now : List UInt8} {n : Nat} (hl : l ≠ []) (h : stepR l = some (none, n)) : readR (f + 1) l acc now = readR f (l.drop n) (acc ++ [now]) [] := by
  show (if l = [] then _ else match stepR l with | none => none | some (none, n) => readR f (l.drop n) (acc ++ [now]) [] | some (some c, n) => readR f (l.drop n) acc (now ++ [c])) = _
  rw [if_neg hl, h]
theorem readR_byte {f : Nat} {l : List UInt8} {acc : List (List UInt8)} {now : List UInt8} {c : UInt8} {n : Nat} (hl : l ≠ []) (h : stepR l = some (some c, n)) : readR (f + 1) l acc now = readR f (l.drop n) acc (now ++ [c]) := by
  show (if l = [] then _ else match stepR l with | none => none | some (none, n) => readR f (l.drop n) (acc ++ [now]) [] | some (some c, n) => readR f (l.drop n) acc (now ++ [c])) = _
  rw [if_neg hl, h]
theorem readR_bad {f : Nat} {l : List UInt8} {acc : List (List UInt8)} {now : List UInt8} (hl : l ≠ []) (h : stepR l = none) : readR (f + 1) l acc now = none := by
  show (if l = [] then _ else match stepR l with | none => none | some (none, n) => readR f (l.drop n) (acc ++ [now]) [] | some (some c, n) => readR f (l.drop n) acc (now ++ [c])) = _
  rw [if_neg hl, h]
theorem readR_end {f : Nat} {acc : List (List UInt8)} {now : List UInt8} : readR (f + 1) [] acc now = some (acc ++ [now]) := rfl
/-- What holds between two rounds. -/
structure RdS (s : List UInt8) (B : Nat) (w : World) (v4 v5 : Value) (k : Nat) (W : World) : Prop where
  list : ∃ acc now f, readD' s = readR f (s.drop k) acc now ∧ s.length - k < f ∧ acc.length ≤ k ∧ now.length ≤ k ∧ W.ownsRow B 9 1 v4 acc.length (strC (acc.map mkB)) ∧ W.ownsRow B 5 1 v5 now.length (byteCells now)
  low : Below B w W
theorem rows_apart {w : World} {B n1 n2 s1 s2 : Nat} {e1 e2 : TypeId} {v1 v2 : Value} {xs ys : List Value} (h1 : w.ownsRow B e1 s1 v1 n1 xs) (h2 : w.ownsRow B e2 s2 v2 n2 ys) (hne : e2 ≠ e1) {q : Nat} (hq : v2.ownBlock = some q) : v1.ownBlock ≠ some q := by
  rcases h2.2 with ⟨hv, _⟩ | ⟨g, cap, cur, hv, _, hg, _⟩
  · rw [hv] at hq; cases hq
  · rw [hv] at hq
    cases hq
    exact owns_kind h1 hg hne
/-- What Read answers. -/
def ReadA (B : Nat) (o : Option (List (List UInt8))) (e : Ending) (w' : World) : Prop := match o with
  | none => e = .returned (.tuple #[.slice none 0 0, .int .i64 2])
  | some xs => ∃ v, e = .returned (.tuple #[v, .int .i64 0]) ∧ w'.ownsRow B 9 1 v xs.length (strC (xs.map mkB))
theorem Tryz.infoU8R : (Tryz.prog.info? 5).map (fun i => (i.zero, i.size, i.bytes)) = some (some (.int .u8 0), 1, 1) := by kernel_rfl
set_option maxHeartbeats 8000000 in
set_option maxRecDepth 100000 in
theorem suRead_walk (s : ByteArray) (w : World) (hs : s.size ≤ 1000000000) :
    Calls Tryz.prog 142 #[.string s] w fun e w' => ReadA w.heap.size (readD' s.data.toList) e w' ∧ Below w.heap.size w w' := by
  have hlen : s.data.toList.length = s.size := Array.length_toList
  obtain ⟨i0, hi, hz0, hz1, hz2⟩ := info_parts Tryz.infoStrU
  obtain ⟨j0, gi, gz0, gz1, gz2⟩ := info_parts Tryz.infoU8R
  have HI0 := Lib.hid (And.intro hi (And.intro hz0 (And.intro hz1 hz2)))
  have HJ0 := Lib.hid (And.intro gi (And.intro gz0 (And.intro gz1 gz2)))
  have HL := Lib.hid hlen
  clear hlen hi hz0 hz1 hz2 gi gz0 gz1 gz2
  go_enter Tryz.func142, Tryz.ntmps142
  go_wp2_with fail
  go_step3
  go_wp2_with fail
  go_step3
  go_wp2_with fail
  go_loopg [4, 5, 6] (s.size + 1) (fun g v4 v5 v6 wr => ∃ k : Nat, v6 = .int .i64 k ∧ k ≤ s.size ∧ Hid (g = s.size + 1 - k) ∧ Hid (RdS s.data.toList w.heap.size w v4 v5 k wr))
  case atStart =>
    refine ⟨0, rfl, by omega, rfl, ⟨[], [], _, rfl, by rw [HL.out]; omega, Nat.le_refl _, Nat.le_refl _, World.ownsRow_nil _ _ _ _, World.ownsRow_nil _ _ _ _⟩, Below.refl _ _⟩
  case round =>
    obtain ⟨k, rfl, hk, HK, HS⟩ := hrel
    obtain ⟨acc, now, f, hrd, hf, hac, hno, hown4, hown5⟩ := HS.out.list
    have hlow := HS.out.low
    obtain ⟨a4, c4, rfl⟩ := own_zeroB hown4
    obtain ⟨a5, c5, rfl⟩ := own_zeroB hown5
    obtain ⟨m4, hm4⟩ : ∃ m4, m4 = acc.length := ⟨_, rfl⟩
    obtain ⟨m5, hm5⟩ : ∃ m5, m5 = now.length := ⟨_, rfl⟩
    rw [← hm4] at hown4 hac ⊢
    rw [← hm5] at hown5 hno ⊢
    have hsz := hlow.size
    by_cases hlt : k < s.size
    · have hltI : (k : Int) < (s.size : Int) := by omega
      obtain ⟨c, hc⟩ : ∃ c, s[k] = c := ⟨_, rfl⟩
      have hd : s.data.toList.drop k = c :: s.data.toList.drop (k + 1) := by
        rw [List.drop_eq_getElem_cons (by rw [HL.out]; exact hlt)]
        congr 1
      have hne : s.data.toList.drop k ≠ [] := by rw [hd]; simp
      obtain ⟨f', rfl⟩ : ∃ f', f = f' + 1 := ⟨f - 1, by omega⟩
      have hln : (s.data.toList.drop k).length = s.size - k := by rw [List.length_drop, HL.out]
      -- behind a byte
      have hbyte : ∀ (c' : UInt8) (n : Nat), stepR (s.data.toList.drop k) = some (some c', n) → 1 ≤ n ∧ k + n ≤ s.size ∧ ∀ (v : Value) (W : World), W.ownsRow w.heap.size 5 1 v (m5 + 1) (byteCells now ++ [.int .u8 (c'.toNat : Int)]) → W.ownsRow w.heap.size 9 1 (.slice a4 m4 c4) m4 (strC (acc.map mkB)) → Below w.heap.size w W → RdS s.data.toList w.heap.size w (.slice a4 m4 c4) v (k + n) W := fun c' n hst => by
        obtain ⟨h1, h2⟩ := stepR_fit hst
        rw [hln] at h2
        refine ⟨h1, by omega, fun v W ho5 ho4 hb => ⟨⟨acc, now ++ [c'], f', ?_, by have := HL.out; omega, by omega, by rw [List.length_append]; simp; omega, by rw [← hm4]; exact ho4, ?_⟩, hb⟩⟩
        · rw [hrd, readR_byte hne hst, List.drop_drop]
        · rw [List.length_append, ← hm5, bc_append]
          exact ho5
      have hplace : ∀ n, stepR (s.data.toList.drop k) = some (none, n) → 1 ≤ n ∧ k + n ≤ s.size ∧ ∀ (v u : Value) (W : World), W.ownsRow w.heap.size 9 1 v (m4 + 1) (strC (acc.map mkB) ++ [.string ⟨now.toArray⟩]) → W.ownsRow w.heap.size 5 1 u 0 [] → Below w.heap.size w W → RdS s.data.toList w.heap.size w v u (k + n) W := fun n hst => by
        obtain ⟨h1, h2⟩ := stepR_fit hst
        rw [hln] at h2
        refine ⟨h1, by omega, fun v u W ho4 ho5 hb => ⟨⟨acc ++ [now], [], f', ?_, by have := HL.out; omega, by rw [List.length_append]; simp; omega, Nat.zero_le _, ?_, ho5⟩, hb⟩⟩
        · rw [hrd, readR_place hne hst, List.drop_drop]
        · rw [List.length_append, List.map_append, strC_append, ← hm4]
          exact ho4
      have hbad : stepR (s.data.toList.drop k) = none → readD' s.data.toList = none := fun hst => by rw [hrd, readR_bad hne hst]
      have HF := Lib.hid (And.intro hbyte (And.intro hplace hbad))
      have HO := Lib.hid (And.intro hown4 (And.intro hown5 hlow))
      have m4b : m4 ≤ 1000000000 := by omega
      have m5b : m5 ≤ 1000000000 := by omega
      have k0 : (0 : Int) ≤ (k : Int) := by omega
      have hke : (k : Int) ≤ (s.size : Int) := by omega
      have hcl := c.toNat_lt
      have cx : ∀ (d : UInt8), ((c.toNat : Int) == (d.toNat : Int)) = decide (c = d) := fun d => by
        rw [Bool.eq_iff_iff]
        simp only [beq_iff_eq, decide_eq_true_eq]
        constructor
        · intro h; exact UInt8.toNat_inj.1 (by omega)
        · intro h; rw [h]
      have c38 : ((c.toNat : Int) == 38) = decide (c = 38) := cx 38
      have c47 : ((c.toNat : Int) == 47) = decide (c = 47) := cx 47
      have c10 : ((c.toNat : Int) == 10) = decide (c = 10) := cx 10
      have c92 : ((c.toNat : Int) == 92) = decide (c = 92) := cx 92
      have hstep : stepR (s.data.toList.drop k) = (if c = 38 then some (none, 1) else if c = 47 ∨ c = 10 then none else if c ≠ 92 then some (some c, 1)
        else if (s.data.toList.drop (k + 1)).head? = some 38 then some (some 38, 2) else (signU (c :: s.data.toList.drop (k + 1))).map fun p => (some p.1, p.2)) := by rw [hd]; rfl
      have HST := Lib.hid (And.intro hstep hd)
      clear hbyte hplace hbad hown4 hown5 hlow hrd hf hac hno hm4 hm5 hd hne hln hcl cx hstep
      by_cases e38 : c = 38
      · rw [decide_eq_true e38] at c38
        have hI : IntKind.i64.wrap ((k : Int) + 1) = ((k + 1 : Nat) : Int) := by rw [IntWalk.i64_in _ (by omega)]; omega
        have hcv := conv_owned (P := Tryz.prog) (w := wr.drew) (src := 67) (dst := 9) Tryz.underlying67 Tryz.underlying5 Tryz.underlying9 (show wr.drew.ownsRow w.heap.size 5 1 (.slice a5 m5 c5) m5 (byteCells now) from HO.out.2.1)
        have hcv2 := conv_owned (P := Tryz.prog) (w := wr) (src := 67) (dst := 9) Tryz.underlying67 Tryz.underlying5 Tryz.underlying9 HO.out.2.1
        obtain ⟨hn1, hn2, hF⟩ := HF.out.2.1 1 (by rw [HST.out.1, if_pos e38])
        have HFF := Lib.hid hF
        have m5c : (0 : Int) ≤ (c5 : Int) := by omega
        have ha5 : (a5 = none ∧ m5 = 0 ∧ c5 = 0) ∨ ∃ g5, a5 = some ⟨g5, 0, none⟩ := by
          rcases HO.out.2.1.2 with ⟨hv, h0⟩ | ⟨g, cap, cur, hv, _⟩
          · cases hv; exact .inl ⟨rfl, h0, rfl⟩
          · cases hv; exact .inr ⟨g, rfl⟩
        have hu : ∀ W : World, wr.drew.grownBy W (Value.slice a4 m4 c4).ownBlock → True := fun _ _ => trivial
        clear c47 c10 c92 e38 hF hn1 hn2 hu
        rcases ha5 with ⟨rfl, rfl, rfl⟩ | ⟨g5, rfl⟩
        · go_wp2_with fail
          go_region_law
            (first
              | (refine step_append_own rfl (.tmp 24) (.tmp 27) 22 rfl w.heap.size 9 i0 (.string ByteArray.empty) 1 16 Tryz.underlying22 HI0.out.1 HI0.out.2.1 HI0.out.2.2.1 HI0.out.2.2.2 rfl (by decide) _ m4 (strC (acc.map mkB)) (by simp [Act.eval]) (owns_alloc (show wr.drew.ownsRow w.heap.size 9 1 (.slice a4 m4 c4) m4 (strC (acc.map mkB)) from HO.out.1)) ⟨wr.heap.size, 0, none⟩ 1 1 [.string ⟨now.toArray⟩] (by simp [Act.eval]) rfl (cell_one' _ _ _) (by simp [Value.oneCell']) (by unfold maxLen; omega) (by omega) (by simp; omega) ?_; intro v6 w6 hown6 hgrow6
                 obtain ⟨g6, cap6, rfl⟩ := owned_slice hown6 (by omega)
                 have hb6 : Below w.heap.size w w6 := ((HO.out.2.2.drew).alloc (by simp; omega) _).grown hgrow6 (by simp; omega) (fun r hr => own_base HO.out.1 hr)
                 have ht6 := owns_same HO.out.2.1 fun q hq => (hgrow6.block q (by have := own_block_lt HO.out.2.1 hq; simp; omega) (fun e => rows_apart HO.out.1 HO.out.2.1 (by decide) hq e.symm)).trans (Below.heap_alloc _ _ _ (own_block_lt HO.out.2.1 hq))
                 have H6 := Lib.hid (And.intro hown6 (And.intro hb6 ht6))
                 clear hown6 hb6 hgrow6 ht6))
          all_goals
            go_wp2
            go_roundg (s.size - k)
            case rel =>
              refine ⟨k + 1, by go_num, by omega, by show _ = _; omega, HFF.out _ _ _ H6.out.1 (World.ownsRow_nil _ _ _ _) H6.out.2.1⟩
            case measure => have := HK.out; omega
        · go_wp2_with fail
          go_region_law
            (first
              | (refine step_append_own rfl (.tmp 24) (.tmp 27) 22 rfl w.heap.size 9 i0 (.string ByteArray.empty) 1 16 Tryz.underlying22 HI0.out.1 HI0.out.2.1 HI0.out.2.2.1 HI0.out.2.2.2 rfl (by decide) _ m4 (strC (acc.map mkB)) (by simp [Act.eval]) (owns_alloc (show wr.drew.ownsRow w.heap.size 9 1 (.slice a4 m4 c4) m4 (strC (acc.map mkB)) from HO.out.1)) ⟨wr.heap.size, 0, none⟩ 1 1 [.string ⟨now.toArray⟩] (by simp [Act.eval]) rfl (cell_one' _ _ _) (by simp [Value.oneCell']) (by unfold maxLen; omega) (by omega) (by simp; omega) ?_; intro v6 w6 hown6 hgrow6
                 obtain ⟨g6, cap6, rfl⟩ := owned_slice hown6 (by omega)
                 have hb6 : Below w.heap.size w w6 := ((HO.out.2.2.drew).alloc (by simp; omega) _).grown hgrow6 (by simp; omega) (fun r hr => own_base HO.out.1 hr)
                 have ht6 := owns_same HO.out.2.1 fun q hq => (hgrow6.block q (by have := own_block_lt HO.out.2.1 hq; simp; omega) (fun e => rows_apart HO.out.1 HO.out.2.1 (by decide) hq e.symm)).trans (Below.heap_alloc _ _ _ (own_block_lt HO.out.2.1 hq))
                 have H6 := Lib.hid (And.intro hown6 (And.intro hb6 ht6))
                 clear hown6 hb6 hgrow6 ht6))
          all_goals
            go_wp2
            go_roundg (s.size - k)
            case rel =>
              refine ⟨k + 1, by go_num, by omega, by show _ = _; omega, HFF.out _ _ _ H6.out.1 (owns_take H6.out.2.2 (Nat.zero_le _)) H6.out.2.1⟩
            case measure => have := HK.out; omega
      · rw [decide_eq_false e38] at c38
        by_cases e47 : c = 47 ∨ c = 10
        · have hb := HF.out.2.2 (by rw [HST.out.1, if_neg e38, if_pos e47])
          have HB := Lib.hid hb
          have hcase : ((c.toNat : Int) == 92) = false ∧ (((c.toNat : Int) == 47) = true ∨ (((c.toNat : Int) == 47) = false ∧ ((c.toNat : Int) == 10) = true)) := by
            rcases e47 with rfl | rfl
            · exact ⟨by decide, .inl (by decide)⟩
            · exact ⟨by decide, .inr ⟨by decide, by decide⟩⟩
          clear c47 c10 c92 e47 e38 hb
          obtain ⟨c92, hcase⟩ := hcase
          rcases hcase with c47 | ⟨c47, c10⟩
          all_goals
            go_wp2
            try rw [Exit.noGoto_ret]
            refine bodyPost_ret (results_tmp2 rfl _ _ _) rfl ⟨?_, HO.out.2.2⟩
            rw [HB.out]
            rfl
        · rw [decide_eq_false (fun h => e47 (.inl h))] at c47
          rw [decide_eq_false (fun h => e47 (.inr h))] at c10
          by_cases e92 : c = 92
          · rw [decide_eq_true e92] at c92
            have kE := escaped_any (s.extract k s.size) wr
            have hex : (s.extract k s.size).data.toList = s.data.toList.drop k := by
              rw [Lib.extract_data, List.take_of_length_le (by rw [List.length_drop, HL.out]; exact Nat.le_refl _)]
            have hes : escV (s.data.toList.drop k) = (if (s.data.toList.drop (k + 1)).head? = some 38 then .returned (.tuple #[.int .u8 38, .int .i64 2]) else match signU (s.data.toList.drop k) with
                | some (c, n) => .returned (.tuple #[.int .u8 (c.toNat : Int), .int .i64 (n : Int)])
                | none => .returned (.tuple #[.int .u8 0, .int .i64 0])) := by
              unfold escV
              rw [HST.out.2]
              show (if (s.data.toList.drop (k + 1)).head? = some 38 ∧ some c = some 92 then _ else _) = _
              by_cases h : (s.data.toList.drop (k + 1)).head? = some 38
              · rw [if_pos ⟨h, by rw [e92]⟩, if_pos h]
              · rw [if_neg (fun g : _ ∧ _ => h g.1), if_neg h]
                all_goals (cases signU (c :: s.data.toList.drop (k + 1)) <;> rfl)
            rw [hex, hes] at kE
            have hst2 : stepR (s.data.toList.drop k) = if (s.data.toList.drop (k + 1)).head? = some 38 then some (some 38, 2) else (signU (s.data.toList.drop k)).map fun p => (some p.1, p.2) := by
              rw [HST.out.1, if_neg e38, if_neg e47, if_neg (by simp [e92]), HST.out.2]
            have key : (stepR (s.data.toList.drop k) = none ∧ Calls Tryz.prog 155 #[.string (s.extract k s.size)] wr fun e w' => e = .returned (.tuple #[.int .u8 0, .int .i64 0]) ∧ Below wr.heap.size wr w') ∨
                ∃ (c' : UInt8) (n : Nat), stepR (s.data.toList.drop k) = some (some c', n) ∧ Calls Tryz.prog 155 #[.string (s.extract k s.size)] wr fun e w' => e = .returned (.tuple #[.int .u8 (c'.toNat : Int), .int .i64 (n : Int)]) ∧ Below wr.heap.size wr w' := by
              by_cases h38 : (s.data.toList.drop (k + 1)).head? = some 38
              · rw [if_pos h38] at kE hst2
                exact .inr ⟨38, 2, hst2, kE⟩
              · rw [if_neg h38] at kE hst2
                cases hsu : signU (s.data.toList.drop k) with
                | none =>
                  rw [hsu] at kE hst2
                  exact .inl ⟨hst2, kE⟩
                | some p =>
                  rw [hsu] at kE hst2
                  exact .inr ⟨p.1, p.2, hst2, kE⟩
            clear kE hex hes hst2 c47 c10 e38 e47 e92
            rcases key with ⟨hst, kE⟩ | ⟨c', n, hst, kE⟩
            · have HB := Lib.hid (HF.out.2.2 hst)
              clear hst
              go_wp2_with (first
                | (go_at_call 155; refine kE.mono ?_; rintro e w5 ⟨rfl, hb5⟩; have H5 := Lib.hid hb5; clear hb5 kE)
                | fail)
              try rw [Exit.noGoto_ret]
              refine bodyPost_ret (results_tmp2 rfl _ _ _) rfl ⟨?_, HO.out.2.2.trans (H5.out.mono HO.out.2.2.size)⟩
              rw [HB.out]
              rfl
            · obtain ⟨hn1, hn2, hF⟩ := HF.out.1 c' n hst
              have HFF := Lib.hid hF
              have hN : IntKind.i64.wrap ((k : Int) + (n : Int)) = ((k + n : Nat) : Int) := by rw [IntWalk.i64_in _ (by omega)]; omega
              have hn0 : decide (0 < n) = true := by simp; omega
              have hn3 : (n : Int) ≤ 1000000000 := by omega
              have hn4 : (0 : Int) < (n : Int) := by omega
              clear hst hF
              go_wp2_with (first
                | (go_at_call 155; refine kE.mono ?_; rintro e w5 ⟨rfl, hb5⟩
                   have h4 := owns_same HO.out.1 fun q hq => hb5.block q (own_block_lt HO.out.1 hq)
                   have h5 := owns_same HO.out.2.1 fun q hq => hb5.block q (own_block_lt HO.out.2.1 hq)
                   have H5 := Lib.hid (And.intro h4 (And.intro h5 (HO.out.2.2.trans (hb5.mono HO.out.2.2.size))))
                   clear hb5 kE h4 h5)
                | (at_builtin; refine wpList_append_own _ rfl (.tmp 42) (.tmp 44) 67 rfl w.heap.size 5 j0 (.int .u8 0) 1 1 Tryz.underlying67 HJ0.out.1 HJ0.out.2.1 HJ0.out.2.2.1 HJ0.out.2.2.2 rfl (by decide) _ m5 (byteCells now) rfl (owns_alloc H5.out.2.1) ⟨w5.heap.size, 0, none⟩ 1 1 [.int .u8 (c'.toNat : Int)] rfl rfl (cell_one' _ _ _) (by simp [Value.oneCell']) (by unfold maxLen; omega) (by omega) (by have := H5.out.2.2.size; simp; omega) ?_; intro v6 w6 hown6 hgrow6 _
                   have hb6 : Below w.heap.size w w6 := (H5.out.2.2.alloc (by have := H5.out.2.2.size; omega) _).grown hgrow6 (by have := H5.out.2.2.size; simp; omega) (fun r hr => own_base H5.out.2.1 hr)
                   have ht6 := owns_same H5.out.1 fun q hq => (hgrow6.block q (by have := own_block_lt H5.out.1 hq; simp; omega) (fun e => rows_apart H5.out.2.1 H5.out.1 (by decide) hq e.symm)).trans (Below.heap_alloc _ _ _ (own_block_lt H5.out.1 hq))
                   obtain ⟨g6, cap6, rfl⟩ := owned_slice hown6 (by omega)
                   have H6 := Lib.hid (And.intro hown6 (And.intro hb6 ht6))
                   clear hown6 hb6 hgrow6 ht6)
                | fail)
              go_roundg (s.size + 1 - (k + n))
              case rel => exact ⟨k + n, by go_num, by omega, by show _ = _; omega, HFF.out _ _ H6.out.1 H6.out.2.2 H6.out.2.1⟩
              case measure => have := HK.out; omega
          · rw [decide_eq_false e92] at c92
            obtain ⟨hn1, hn2, hF⟩ := HF.out.1 c 1 (by rw [HST.out.1, if_neg e38, if_neg e47, if_pos e92])
            have HFF := Lib.hid hF
            have hI : IntKind.i64.wrap ((k : Int) + 1) = ((k + 1 : Nat) : Int) := by rw [IntWalk.i64_in _ (by omega)]; omega
            clear e38 e47 e92 hF hn1 hn2
            go_wp2_with (first
              | (at_builtin; refine wpList_append_own _ rfl (.tmp 42) (.tmp 44) 67 rfl w.heap.size 5 j0 (.int .u8 0) 1 1 Tryz.underlying67 HJ0.out.1 HJ0.out.2.1 HJ0.out.2.2.1 HJ0.out.2.2.2 rfl (by decide) _ m5 (byteCells now) rfl (owns_alloc HO.out.2.1) ⟨wr.heap.size, 0, none⟩ 1 1 [.int .u8 (c.toNat : Int)] rfl rfl (cell_one' _ _ _) (by simp [Value.oneCell']) (by unfold maxLen; omega) (by omega) (by simp; omega) ?_; intro v6 w6 hown6 hgrow6 _
                 have hb6 : Below w.heap.size w w6 := (HO.out.2.2.alloc (by omega) _).grown hgrow6 (by simp; omega) (fun r hr => own_base HO.out.2.1 hr)
                 have ht6 := owns_same HO.out.1 fun q hq => (hgrow6.block q (by have := own_block_lt HO.out.1 hq; simp; omega) (fun e => rows_apart HO.out.2.1 HO.out.1 (by decide) hq e.symm)).trans (Below.heap_alloc _ _ _ (own_block_lt HO.out.1 hq))
                 obtain ⟨g6, cap6, rfl⟩ := owned_slice hown6 (by omega)
                 have H6 := Lib.hid (And.intro hown6 (And.intro hb6 ht6))
                 clear hown6 hb6 hgrow6 ht6)
              | fail)
            go_roundg (s.size - k)
            case rel => exact ⟨k + 1, by go_num, by omega, by show _ = _; omega, HFF.out _ _ H6.out.1 H6.out.2.2 H6.out.2.1⟩
            case measure => have := HK.out; omega
    · obtain rfl : k = s.size := by omega
      have hd : s.data.toList.drop s.size = [] := List.drop_eq_nil_of_le (by rw [HL.out]; exact Nat.le_refl _)
      rw [hd] at hrd
      have hrd : readD' s.data.toList = some (acc ++ [now]) := by
        cases f with
        | zero => omega
        | succ f => rw [hrd, readR_end]
      have hcv := conv_owned (P := Tryz.prog) (w := wr) (src := 67) (dst := 9) Tryz.underlying67 Tryz.underlying5 Tryz.underlying9 hown5
      have hdec : decide ((s.size : Int) < (s.size : Int)) = false := by simp
      have HR := Lib.hid (And.intro hrd (And.intro hown4 (And.intro hlow hm4)))
      clear hrd hf hown4 hown5 hlow hm4 hm5 hd
      go_wp2_with (first
        | (at_builtin; refine wpList_append_own _ rfl (.tmp 53) (.tmp 56) 22 rfl w.heap.size 9 i0 (.string ByteArray.empty) 1 16 Tryz.underlying22 HI0.out.1 HI0.out.2.1 HI0.out.2.2.1 HI0.out.2.2.2 rfl (by decide) _ m4 (strC (acc.map mkB)) rfl (owns_alloc HR.out.2.1) ⟨wr.heap.size, 0, none⟩ 1 1 [.string ⟨now.toArray⟩] rfl rfl (cell_one' _ _ _) (by simp [Value.oneCell']) (by unfold maxLen; omega) (by omega) (by simp; omega) ?_; intro v6 w6 hown6 hgrow6 _
           have hb6 : Below w.heap.size w w6 := (HR.out.2.2.1.alloc (by omega) _).grown hgrow6 (by simp; omega) (fun r hr => own_base HR.out.2.1 hr)
           obtain ⟨g6, cap6, rfl⟩ := owned_slice hown6 (by omega)
           have H6 := Lib.hid (And.intro hown6 hb6)
           clear hown6 hgrow6 hb6)
        | fail)
      try rw [Exit.noGoto_ret]
      refine bodyPost_ret (results_tmp2 rfl _ _ _) rfl ⟨?_, H6.out.2⟩
      rw [HR.out.1]
      refine ⟨_, rfl, ?_⟩
      rw [List.length_append, List.map_append, strC_append, ← HR.out.2.2.2]
      exact H6.out.1
end Go.Proofs.YtkgpnlldlekcbaaGreatDoor
