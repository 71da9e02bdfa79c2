/- Packed texts: UtFieldsW. What each of them proves stands above its theorems; the conditions stand in these. -/
import Derived.Test.YtjdollmfjflkoaaGreatDoorA20
import Derived.Test.YtjdollmfjflkoaaGreatDoorA21
namespace Go.Proofs.YtjdollmfjflkoaaGreatDoor
open Go.RowKit Go.Lib

theorem strs_row {w : World} {A : Nat} {xs : List ByteArray} (h : RowW w A xs) (hl : xs.length ≤ 140737488355328) : Strs (.slice (some ⟨A, 0, none⟩) xs.length xs.length) xs w :=
  ⟨_, _, rfl, Nat.le_refl _, hl, fun j x hj => ⟨A, 0, rfl, lt_cell (h j x hj), by rw [Nat.zero_add]; exact h j x hj⟩⟩
theorem mem_le_sum : ∀ (l : List Nat) (a : Nat), a ∈ l → a ≤ l.sum
  | b :: l, a, h => by
    rw [List.sum_cons]
    rcases List.mem_cons.1 h with rfl | h
    · omega
    · have := mem_le_sum l a h
      omega
theorem spread_len (fs : List (List UInt8)) : (spread fs).length = fs.length + (fs.map List.length).sum := by
  induction fs with
  | nil => rfl
  | cons f r ih => simp [spread, ih]; omega
theorem fields_spreadB (l : List UInt8) : fldB (ba (spread (fieldsU l))).data.toList = fldB l := by
  unfold fldB
  rw [ba_list, fields_again]
theorem spread_more {L : List (List UInt8)} {k : Nat} {f : List UInt8} (h : L[k]? = some f) : ba (spread (L.take (k + 1))) = ba (spread (L.take k)) ++ ⟨#[32]⟩ ++ ba f := by
  rw [List.take_add_one, h]
  show ba (spread (L.take k ++ [f])) = ba (spread (L.take k)) ++ ba [32] ++ ba f
  rw [spread_snoc, ba_append, ba_append, List.append_assoc]
  rfl
theorem spread_take {L : List (List UInt8)} (k : Nat) : (ba (spread (L.take k))).size ≤ L.length + (L.map List.length).sum := by
  rw [ba_len, spread_len, List.length_take]
  have h := List.take_append_drop k L
  have h2 := congrArg (fun x => (x.map List.length).sum) h
  simp only [List.map_append, List.sum_append] at h2
  omega
set_option maxHeartbeats 4000000 in
set_option maxRecDepth 20000 in
theorem utilFields_walk (s : ByteArray) (hs : s.size ≤ 140737488351232) (w : World) (ht : Tab w) :
    Calls Tryz.prog 5 #[.string s] w fun e w' => e = .returned (.bool true) ∧ Below w.heap.size w w' := by
  have HT := Lib.hid ht
  clear ht
  by_cases hl : 500 < s.size
  · go_enter Tryz.func5, Tryz.ntmps5
    go_wp2_with (first
      | (go_at_call 9; refine (shown13_any _ HT.out).mono ?_; rintro e w1 ⟨rfl, hb1⟩; have HB1 := Lib.hid hb1; clear hb1))
    go_ret
    exact ⟨rfl, HB1.out⟩
  · obtain ⟨L, hL⟩ : ∃ L, fieldsU s.data.toList = L := ⟨_, rfl⟩
    obtain ⟨F, hF⟩ : ∃ F, fldB s.data.toList = F := ⟨_, rfl⟩
    obtain ⟨n, hn⟩ : ∃ n, F.length = n := ⟨_, rfl⟩
    have hFL : F = L.map ba := by rw [← hF, ← hL]; rfl
    have hnL : L.length = n := by rw [← hn, hFL, List.length_map]
    have hmem := fieldsU_mem s.data.toList
    have hlen := fieldsU_len s.data.toList
    rw [hL] at hmem hlen
    have hsz := size_eq s
    have hn5 : n ≤ 500 := by omega
    have hsum : (L.map List.length).sum ≤ 500 := by omega
    have KF : Hid (∀ W : World, Calls Tryz.prog 11 #[.string s] W fun e w' => ∃ A, e = .returned (.slice (some ⟨A, 0, none⟩) n n) ∧ RowW w' A F ∧ Below W.heap.size W w') := Lib.hid (fun W => by
      have h := fieldsU_any s W (by omega)
      rw [hF, hn] at h
      exact h.mono fun _ _ ⟨A, h1, h2, h3⟩ => ⟨A, h1, fun j x hj => (h2 j x hj).2, h3⟩)
    have KX : Hid (∀ (W : World) (j : Nat) (x : ByteArray), F[j]? = some x → Calls Tryz.prog 13 #[.string s, .int .i64 ((j : Int) + 1)] W fun e w' => e = .returned (.string x) ∧ Below W.heap.size W w') := Lib.hid (fun W j x hj => field_some s j x W (by omega) (by rw [hF]; exact hj))
    have KN : Hid (∀ W : World, Calls Tryz.prog 13 #[.string s, .int .i64 ((n : Int) + 1)] W fun e w' => e = .returned (.string ⟨#[]⟩) ∧ Below W.heap.size W w') := Lib.hid (fun W => field_none s _ W (by omega) (by omega) (.inr (by rw [hL, hnL]; omega)))
    have K2 : Hid (∀ W : World, Calls Tryz.prog 11 #[.string (ba (spread L))] W fun e w' => ∃ A, e = .returned (.slice (some ⟨A, 0, none⟩) n n) ∧ RowW w' A F ∧ Below W.heap.size W w') := Lib.hid (fun W => by
      have h := fieldsU_any (ba (spread L)) W (by rw [ba_len, spread_len]; omega)
      rw [← hL, fields_spreadB, hF, hn] at h
      rw [← hL]
      exact h.mono fun _ _ ⟨A, h1, h2, h3⟩ => ⟨A, h1, fun j x hj => (h2 j x hj).2, h3⟩)
    have KS : Hid (∀ (W : World) (A B : Nat), RowW W A F → RowW W B F → Calls Tryz.prog 10 #[.slice (some ⟨A, 0, none⟩) n n, .slice (some ⟨B, 0, none⟩) n n] W fun e w' => e = .returned (.bool true) ∧ Below W.heap.size W w') := Lib.hid (fun W A B hA hB => by
      have h := refSameS_any _ _ F F W (strs_row hA (by omega)) (strs_row hB (by omega))
      rw [hn, show decide (F = F) = true by simp] at h
      exact h)
    have HL := Lib.hid (And.intro hFL (And.intro hnL (And.intro hmem hsum)))
    clear hFL hnL hmem hlen hL hF hn hsum hsz
    go_enter Tryz.func5, Tryz.ntmps5
    go_wp2_with (first
      | (go_at_call 9; refine (shown13_any _ HT.out).mono ?_; rintro e w1 ⟨rfl, hb1⟩; have HB1 := Lib.hid hb1; clear hb1)
      | (go_at_call 11; refine (KF.out _).mono ?_; rintro e w2 ⟨A, rfl, hr, hb2⟩; have HR0 := Lib.hid hr; have HB2 := Lib.hid (below_at HB1.out hb2 HB1.out.size); clear hr hb2))
    go_loopw [5, 6] (fun v i wr => ∃ k : Nat, k ≤ n ∧ v = .string (ba (spread (L.take k))) ∧ i = .int .i64 k ∧ Hid (RowW wr A F) ∧ Hid (Below w.heap.size w wr)) (fun _ i _ => n - (RowKit.intOf i).toNat)
    case atStart => exact ⟨0, Nat.zero_le _, rfl, rfl, HR0.out, HB2.out⟩
    case round =>
      obtain ⟨k, hk, rfl, rfl, HR, HB⟩ := hrel
      clear HR0 HB2 HB1
      by_cases hlt : k < n
      · have hltI : (k : Int) < (n : Int) := by omega
        obtain ⟨f, hf⟩ : ∃ f, L[k]? = some f := ⟨_, List.getElem?_eq_getElem (by have := HL.out.2.1; omega)⟩
        obtain ⟨x, hx⟩ : ∃ x, ba f = x := ⟨_, rfl⟩
        have hFk : F[k]? = some x := by rw [HL.out.1, List.getElem?_map, hf, ← hx]; rfl
        have hxl : x.data.toList = f := by rw [← hx, ba_list]
        obtain ⟨hne, hbl⟩ := HL.out.2.2.1 f (List.mem_of_getElem? hf)
        have hxe : x.toList.isEmpty = false := by rw [ByteArray.toList_eq, hxl]; cases f <;> simp_all
        have hxs : x.size ≤ 500 := by
          rw [size_eq x, hxl]
          have h1 := HL.out.2.2.2
          have h2 := mem_le_sum (L.map List.length) f.length (List.mem_map.2 ⟨f, List.mem_of_getElem? hf, rfl⟩)
          omega
        have kx := Lib.hid (KX.out wr.drew k x hFk)
        have c0 := HR.out k x hFk
        have c1 : wr.drew.cell? ⟨A, k, none⟩ = some (.string x) := c0
        have HXF := Lib.hid (And.intro hf (And.intro hx (And.intro hFk (And.intro hxl hbl))))
        clear hf hx hFk hxl hne hbl
        obtain ⟨T, hT⟩ : ∃ T, ba (spread (L.take k)) = T := ⟨_, rfl⟩
        have zT : T.size ≤ 1000 := by
          have h1 := spread_take (L := L) k
          rw [hT] at h1
          have h2 := HL.out.2.1
          have h3 := HL.out.2.2.2
          omega
        have z1 : (⟨#[32]⟩ : ByteArray).size = 1 := rfl
        have hwk : IntKind.i64.wrap ((k : Int) + 1) = (k : Int) + 1 := IntWalk.i64_in _ (by omega)
        rw [hT]
        have HTT := Lib.hid hT
        clear hT
        go_wp2_with fail
        go_region_law (go_simp; go_at_call 13; (with_reducible refine (kx.out).mono ?_); rintro e w3 ⟨rfl, hb3⟩; have HR3 := Lib.hid (HR.out.later (((Below.refl _ wr).drew).trans hb3)); have c2 := HR3.out k x HXF.out.2.2.1; have HB3 := Lib.hid (below_at HB.out (((Below.refl _ wr).drew).trans hb3) HB.out.size); clear hb3)
        all_goals
          go_wp2_with fail
          go_loopw [7] (fun v wr2 => ∃ q : Nat, q ≤ x.size ∧ v = .int .i64 q ∧ Hid (RowW wr2 A F) ∧ Hid (Below w.heap.size w wr2)) (fun v _ => x.size - (RowKit.intOf v).toNat)
          case atStart => exact ⟨0, Nat.zero_le _, rfl, HR3.out, HB3.out⟩
          case round =>
            obtain ⟨q, hq, rfl, HR4, HB4⟩ := hrel
            clear c0 c1 c2
            have c3 := HR4.out k x HXF.out.2.2.1
            by_cases hlt2 : q < x.size
            · have hqI : (q : Int) < (x.size : Int) := by omega
              obtain ⟨b, hb⟩ : ∃ b, x[q] = b := ⟨_, rfl⟩
              have hbk := HXF.out.2.2.2.2 b (by
                rw [← HXF.out.2.2.2.1, ← hb]
                exact List.mem_of_getElem? (data_getElem? x q hlt2))
              have hb2 : ((b.toNat : Int) == 32) = false ∧ ((b.toNat : Int) == 9) = false := by
                unfold blankU at hbk
                rw [Bool.or_eq_false_iff, beq_eq_false_iff_ne, beq_eq_false_iff_ne] at hbk
                refine ⟨beq_eq_false_iff_ne.2 fun h => hbk.1 (UInt8.toNat_inj.1 ?_), beq_eq_false_iff_ne.2 fun h => hbk.2 (UInt8.toNat_inj.1 ?_)⟩
                · have : b.toNat = 32 := by omega
                  rw [this]; rfl
                · have : b.toNat = 9 := by omega
                  rw [this]; rfl
              obtain ⟨hb3, hb4⟩ := hb2
              clear hbk
              go_wp2_with fail
              go_roundw
              case rel => exact ⟨q + 1, by omega, by go_num, HR4.out, HB4.out⟩
              case measure => simp [RowKit.intOf]; omega
            · have hqI : ¬ (q : Int) < (x.size : Int) := by omega
              go_wp2_with fail
              go_roundw
              case rel => exact ⟨k + 1, by omega, by rw [spread_more HXF.out.1, ← HXF.out.2.1, ← HTT.out], by go_num, HR4.out, HB4.out⟩
              case measure => simp [RowKit.intOf]; omega
      · obtain rfl : k = n := by omega
        rw [List.take_of_length_le (by rw [HL.out.2.1]; exact Nat.le_refl _)]
        go_wp2_with (first
          | (go_at_call 11; refine (K2.out _).mono ?_; rintro e w3 ⟨A2, rfl, hr2, hb3⟩; have HR2 := Lib.hid hr2; have HR3 := Lib.hid (HR.out.later hb3); have HB := Lib.hid (below_at HB.out hb3 HB.out.size); clear hr2 hb3)
          | (go_at_call 10; refine (KS.out _ _ _ HR2.out HR3.out).mono ?_; rintro e w4 ⟨rfl, hb3⟩; have HB := Lib.hid (below_at HB.out hb3 HB.out.size); clear hb3)
          | (go_at_call 13; first
              | (with_reducible refine (KN.out _).mono ?_; rintro e w5 ⟨rfl, hb3⟩; have HB := Lib.hid (below_at HB.out hb3 HB.out.size); clear hb3)
              | (with_reducible refine (field_nought s _).mono ?_; rintro e w6 ⟨rfl, rfl⟩)))
        go_ret
        exact ⟨rfl, HB.out⟩
end Go.Proofs.YtjdollmfjflkoaaGreatDoor
