/- Packed texts: UtDigits. What each of them proves stands above its theorems; the conditions stand in these. -/
import Derived.Test.YtjdollmfjflkoaaGreatDoorShelf
import Derived.Test.YtjdollmfjflkoaaGreatDoorA10
import Derived.Test.YtjdollmfjflkoaaGreatDoorA11
import Derived.Test.YtjdollmfjflkoaaGreatDoorA15
import Derived.Test.YtjdollmfjflkoaaGreatDoorA16
import Derived.Test.YtjdollmfjflkoaaGreatDoorA17
namespace Go.Proofs.YtjdollmfjflkoaaGreatDoor
open Go.RowKit Go.Lib

theorem ba_mk (s : ByteArray) : ba s.data.toList = s := ba_ext rfl
theorem hexU_any (s : ByteArray) (w : World) (hs : s.size ≤ 1000000) : Calls Tryz.prog 37 #[.string s] w fun e w' => e = .returned (resV (ba (hexT s.data.toList ++ [10])) 0 0) ∧ Below w.heap.size w w' := by
  have HR := Lib.hid (RI.start w)
  have k1 := Lib.hid (fun W => hex_any s W (by omega))
  have k2 := Lib.hid (fun W => said_any (ba (hexT s.data.toList)) W (by rw [ba_len, hexT_length, ← size_eq]; omega))
  rw [lineB_ba] at k2
  rw [show (⟨(hexT s.data.toList).toArray⟩ : ByteArray) = ba (hexT s.data.toList) from rfl] at k1
  generalize ba (hexT s.data.toList ++ [10]) = R at *
  generalize ba (hexT s.data.toList) = R0 at *
  go_enter Tryz.func37, Tryz.ntmps37
  go_wp2_with (first
    | (go_at_call 38; with_reducible refine (k1.out _).mono ?_; rintro e w1 ⟨rfl, hb1⟩; have HR := Lib.hid (HR.out.later hb1); clear hb1)
    | (go_at_call 30; with_reducible refine (k2.out _).mono ?_; rintro e w2 ⟨rfl, hb1⟩; have HR := Lib.hid (HR.out.later hb1); clear hb1)
    | (refine wpList_store_res rfl _ _ rfl HR.out rfl _ _ _ rfl ?_; intro w3 hr1; have HD := Lib.hid hr1; clear hr1))
  exact res_end HD.out Tryz.results37 _ rfl rfl _ (fun hb => ⟨rfl, hb⟩)
theorem unhexU_any (s : ByteArray) (l : List UInt8) (w : World) (hs : s.size ≤ 1000000) (hl : l.length ≤ 1000000) (h : unhexO s.data.toList = some l) : Calls Tryz.prog 39 #[.string s] w fun e w' => e = .returned (resV (ba (l ++ [10])) 0 0) ∧ Below w.heap.size w w' := by
  have HR := Lib.hid (RI.start w)
  have k1 := Lib.hid (fun W => unhex_any s W (by omega))
  have he : unhexE s.data.toList = .returned (.tuple #[.string (ba l), .int .i64 0]) := by unfold unhexE; rw [h]; rfl
  rw [he] at k1
  have k2 := Lib.hid (fun W => tried_any (ba l) 0 W (by rw [ba_len]; omega))
  rw [if_pos rfl, lineB_ba] at k2
  clear h he
  generalize ba (l ++ [10]) = R at *
  generalize ba l = R0 at *
  go_enter Tryz.func39, Tryz.ntmps39
  go_wp2_with (first
    | (go_at_call 41; with_reducible refine (k1.out _).mono ?_; rintro e w1 ⟨rfl, hb1⟩; have HR := Lib.hid (HR.out.later hb1); clear hb1)
    | (go_at_call 40; with_reducible refine (k2.out _).mono ?_; rintro e w2 ⟨rfl, hb1⟩; have HR := Lib.hid (HR.out.later hb1); clear hb1)
    | (refine wpList_store_res rfl _ _ rfl HR.out rfl _ _ _ rfl ?_; intro w3 hr1; have HD := Lib.hid hr1; clear hr1))
  exact res_end HD.out Tryz.results39 _ rfl rfl _ (fun hb => ⟨rfl, hb⟩)
theorem echo_one (bk o c : Nat) (s : ByteArray) (w : World) (hs : s.size ≤ 1000000) (hx : w.cell? ⟨bk, o, none⟩ = some (.string s)) : Calls Tryz.prog 29 #[.slice (some ⟨bk, o, none⟩) 1 c] w fun e w' => e = .returned (resV (lineB s) 0 0) ∧ Below w.heap.size w w' := by
  have HR := Lib.hid (RI.start w)
  have c0 := cell_later HR.out.below hx
  have k1 := Any.strings_Join_one Tryz.lays156 Tryz.Builder_Extra_156 bk o c s ⟨#[32]⟩ _ c0
  have k1' : Calls Tryz.prog 31 #[.slice (some ⟨bk, o, none⟩) 1 c, .string ⟨#[32]⟩] (w.alloc (.cells #[.string ⟨#[]⟩, .int .i64 0, .int .i64 0] 49)) fun e w' => e = .returned (.string s) ∧ w' = (w.alloc (.cells #[.string ⟨#[]⟩, .int .i64 0, .int .i64 0] 49)) := k1
  have k2 := Lib.hid (fun W => said_any s W (by omega))
  clear hx c0 k1
  have K1 := Lib.hid k1'
  clear k1'
  go_enter Tryz.func29, Tryz.ntmps29
  go_wp2_with (first
    | (go_at_call 31; with_reducible refine (K1.out).mono ?_; rintro e w1 ⟨rfl, rfl⟩)
    | (go_at_call 30; with_reducible refine (k2.out _).mono ?_; rintro e w1 ⟨rfl, hb1⟩; have HR := Lib.hid (HR.out.later hb1); clear hb1)
    | (refine wpList_store_res rfl _ _ rfl HR.out rfl _ _ _ rfl ?_; intro w1 hr1; have HD := Lib.hid hr1; clear hr1))
  exact res_end HD.out Tryz.results29 _ rfl rfl _ (fun hb => ⟨rfl, hb⟩)

theorem run_hex (bk : Nat) (s inp : ByteArray) (fuel : Int) (w : World) (hr : RowW w bk [⟨#[104, 101, 120]⟩, s]) (hs : s.size ≤ 1000000) :
    Calls Tryz.prog 23 #[.slice (some ⟨bk, 0, none⟩) 2 2, .string inp, .int .i64 fuel] w fun en w' => en = .returned (runV (ba (hexT s.data.toList ++ [10])) 0 fuel 0) ∧ Below w.heap.size w w' := by
  refine run_known bk 0 1 2 ⟨#[104, 101, 120]⟩ inp _ _ 0 fuel w (hr 0 _ rfl) (by decide) (by decide) (by decide) (some ⟨bk, 1, none⟩) rfl ?_
  intro W h u d t i f hW hk
  refine ⟨55, #[.pointer (some ⟨h, 0, none⟩)], rfl, ?_⟩
  exact fnp_one 37 h bk 1 1 #[] s _ _ 0 W (hk (h, fnU 37) (by simp [utKs])) (hr.later hW 1 _ rfl) ⟨enters_of Tryz.func37 (by kernel_rfl) rfl, fun W3 _ => hexU_any s W3 hs⟩
theorem run_unhex (bk : Nat) (s inp : ByteArray) (l : List UInt8) (fuel : Int) (w : World) (hr : RowW w bk [⟨#[117, 110, 104, 101, 120]⟩, s]) (hs : s.size ≤ 1000000) (hl : l.length ≤ 1000000) (h0 : unhexO s.data.toList = some l) :
    Calls Tryz.prog 23 #[.slice (some ⟨bk, 0, none⟩) 2 2, .string inp, .int .i64 fuel] w fun en w' => en = .returned (runV (ba (l ++ [10])) 0 fuel 0) ∧ Below w.heap.size w w' := by
  refine run_known bk 0 1 2 ⟨#[117, 110, 104, 101, 120]⟩ inp _ _ 0 fuel w (hr 0 _ rfl) (by decide) (by decide) (by decide) (some ⟨bk, 1, none⟩) rfl ?_
  intro W h u d t i f hW hk
  refine ⟨55, #[.pointer (some ⟨u, 0, none⟩)], rfl, ?_⟩
  exact fnp_one 39 u bk 1 1 #[] s _ _ 0 W (hk (u, fnU 39) (by simp [utKs])) (hr.later hW 1 _ rfl) ⟨enters_of Tryz.func39 (by kernel_rfl) rfl, fun W3 _ => unhexU_any s l W3 hs hl h0⟩
theorem run_echo (bk : Nat) (s inp : ByteArray) (fuel : Int) (w : World) (hr : RowW w bk [⟨#[101, 99, 104, 111]⟩, s]) (hs : s.size ≤ 1000000) :
    Calls Tryz.prog 23 #[.slice (some ⟨bk, 0, none⟩) 2 2, .string inp, .int .i64 fuel] w fun en w' => en = .returned (runV (lineB s) 0 fuel 0) ∧ Below w.heap.size w w' := by
  refine run_known bk 0 1 2 ⟨#[101, 99, 104, 111]⟩ inp _ _ 0 fuel w (hr 0 _ rfl) (by decide) (by decide) (by decide) (some ⟨bk, 1, none⟩) rfl ?_
  intro W h u d t i f hW hk
  exact ⟨29, #[], rfl, enters_of Tryz.func29 (by kernel_rfl) rfl, fun W3 h3 => echo_one bk 1 1 s W3 hs ((hr.later hW).later h3 1 _ rfl)⟩
theorem case_two (l : List UInt8) : caseU true (caseU true l) = caseU true l ∧ caseU false (caseU true l) = caseU false l := by
  unfold caseU
  rw [List.map_map, List.map_map]
  exact ⟨List.map_congr_left fun c _ => (case_twice c).1, List.map_congr_left fun c _ => (case_twice c).2⟩
set_option maxHeartbeats 2000000 in
set_option maxRecDepth 20000 in
theorem utilDigits_walk (s : ByteArray) (hs : s.size ≤ 140737488351232) (fuel : Int) (_hfu : -9223372036854775808 ≤ fuel ∧ fuel ≤ 9223372036854775807) (w : World) (ht : Tab w) :
    Calls Tryz.prog 6 #[.string s, .int .i64 fuel] w fun e w' => e = .returned (.bool true) ∧ Below w.heap.size w w' := by
  have HT := Lib.hid ht
  clear ht
  by_cases hl : 500 < s.size
  · go_enter Tryz.func6, Tryz.ntmps6
    go_wp2_with (first
      | (go_at_call 9; refine (shown13_any _ HT.out).mono ?_; rintro e w1 ⟨rfl, hb1⟩; have HB1 := Lib.hid hb1; clear hb1))
    go_ret
    exact ⟨rfl, HB1.out⟩
  · obtain ⟨A, hA⟩ : ∃ A, ba (hexT s.data.toList ++ [10]) = A := ⟨_, rfl⟩
    obtain ⟨A1, hA1⟩ : ∃ A1, ba (hexT s.data.toList) = A1 := ⟨_, rfl⟩
    have hsz := size_eq s
    have zA : A.size = 2 * s.size + 2 := by rw [← hA, ba_len, List.length_append, hexT_length, ← hsz]; simp; omega
    have eA : A.extract 0 (2 * s.size + 1) = A1 := by
      apply ba_ext
      rw [extract_piece, ← hA, ← hA1, ba_list, ba_list]
      unfold pieceU
      rw [List.drop_zero, Nat.sub_zero, List.take_append_of_le_length (by rw [hexT_length, ← hsz]; omega), List.take_of_length_le (by rw [hexT_length, ← hsz]; omega)]
    have zA1 : A1.size ≤ 1000000 := by rw [← hA1, ba_len, hexT_length, ← hsz]; omega
    have uA1 : unhexO A1.data.toList = some s.data.toList := by rw [← hA1, ba_list]; exact unhexO_hexT _
    obtain ⟨U, hU⟩ : ∃ U, ba (caseU true s.data.toList) = U := ⟨_, rfl⟩
    obtain ⟨V, hV⟩ : ∃ V, ba (caseU false s.data.toList) = V := ⟨_, rfl⟩
    have zU : U.size ≤ 70368744177664 := by rw [← hU, ba_len]; unfold caseU; rw [List.length_map, ← hsz]; omega
    have C1 : Hid (∀ W : World, Calls Tryz.prog 19 #[.string s, .bool true] W fun e w' => e = .returned (.string U) ∧ Below W.heap.size W w') := Lib.hid (fun W => hU ▸ caseU_any true s W (by omega))
    have C2 : Hid (∀ W : World, Calls Tryz.prog 19 #[.string s, .bool false] W fun e w' => e = .returned (.string V) ∧ Below W.heap.size W w') := Lib.hid (fun W => hV ▸ caseU_any false s W (by omega))
    have C3 : Hid (∀ W : World, Calls Tryz.prog 19 #[.string U, .bool true] W fun e w' => e = .returned (.string U) ∧ Below W.heap.size W w') := Lib.hid (fun W => by
      have := caseU_any true U W zU
      rw [show ba (caseU true U.data.toList) = U by rw [← hU, ba_list, (case_two _).1]] at this
      exact this)
    have C4 : Hid (∀ W : World, Calls Tryz.prog 19 #[.string U, .bool false] W fun e w' => e = .returned (.string V) ∧ Below W.heap.size W w') := Lib.hid (fun W => by
      have := caseU_any false U W zU
      rw [show ba (caseU false U.data.toList) = V by rw [← hU, ba_list, (case_two _).2, hV]] at this
      exact this)
    have K1 : Hid (∀ W : World, Calls Tryz.prog 23 #[.slice (some ⟨W.heap.size, 0, none⟩) 2 2, .string ⟨#[]⟩, .int .i64 fuel] (W.alloc (.cells #[.string ⟨#[104, 101, 120]⟩, .string s] 9)) fun en w' =>
        en = .returned (.tuple #[.string A, .int .i64 0, .int .i64 fuel, .int .i64 0]) ∧ Below W.heap.size W w') :=
      Lib.hid (fun W => (hA ▸ run_hex W.heap.size s ⟨#[]⟩ fuel _ (rowW_new W [⟨#[104, 101, 120]⟩, s] 9) (by omega)).mono fun _ _ h => ⟨h.1, below_new h.2⟩)
    rw [← eA] at uA1 zA1
    have K2 : Hid (∀ W : World, Calls Tryz.prog 23 #[.slice (some ⟨W.heap.size, 0, none⟩) 2 2, .string ⟨#[]⟩, .int .i64 fuel] (W.alloc (.cells #[.string ⟨#[117, 110, 104, 101, 120]⟩, .string (A.extract 0 (2 * s.size + 1))] 9)) fun en w' =>
        en = .returned (.tuple #[.string (s ++ ⟨#[10]⟩), .int .i64 0, .int .i64 fuel, .int .i64 0]) ∧ Below W.heap.size W w') :=
      Lib.hid (fun W => by
        have h := run_unhex W.heap.size (A.extract 0 (2 * s.size + 1)) ⟨#[]⟩ s.data.toList fuel _ (rowW_new W [⟨#[117, 110, 104, 101, 120]⟩, A.extract 0 (2 * s.size + 1)] 9) zA1 (by rw [← hsz]; omega) uA1
        rw [← lineB_ba, ba_mk] at h
        exact h.mono fun _ _ h => ⟨h.1, below_new h.2⟩)
    have K3 : Hid (∀ W : World, Calls Tryz.prog 23 #[.slice (some ⟨W.heap.size, 0, none⟩) 2 2, .string ⟨#[]⟩, .int .i64 fuel] (W.alloc (.cells #[.string ⟨#[101, 99, 104, 111]⟩, .string s] 9)) fun en w' =>
        en = .returned (.tuple #[.string (s ++ ⟨#[10]⟩), .int .i64 0, .int .i64 fuel, .int .i64 0]) ∧ Below W.heap.size W w') :=
      Lib.hid (fun W => (run_echo W.heap.size s ⟨#[]⟩ fuel _ (rowW_new W [⟨#[101, 99, 104, 111]⟩, s] 9) (by omega)).mono fun _ _ h => ⟨h.1, below_new h.2⟩)
    have zA' : (A.size : Int) = 2 * (s.size : Int) + 2 := by omega
    have hz1 : (⟨#[10]⟩ : ByteArray).size = 1 := rfl
    clear hA hA1 uA1 zA1 zA eA hU hV zU hsz
    go_enter Tryz.func6, Tryz.ntmps6
    go_wp2_with (first
      | (go_at_call 9; refine (shown13_any _ HT.out).mono ?_; rintro e w1 ⟨rfl, hb1⟩; have HB1 := Lib.hid hb1; clear hb1)
      | (go_at_call 23; first
          | (with_reducible refine (K1.out _).mono ?_; rintro e w2 ⟨rfl, hb2⟩; have HB1 := Lib.hid (below_at HB1.out hb2 HB1.out.size); clear hb2)
          | (with_reducible refine (K2.out _).mono ?_; rintro e w2 ⟨rfl, hb2⟩; have HB1 := Lib.hid (below_at HB1.out hb2 HB1.out.size); clear hb2)
          | (with_reducible refine (K3.out _).mono ?_; rintro e w2 ⟨rfl, hb2⟩; have HB1 := Lib.hid (below_at HB1.out hb2 HB1.out.size); clear hb2))
      | (go_at_call 19; first
          | (with_reducible refine (C1.out _).mono ?_; rintro e w2 ⟨rfl, hb2⟩; have HB1 := Lib.hid (below_at HB1.out hb2 HB1.out.size); clear hb2)
          | (with_reducible refine (C2.out _).mono ?_; rintro e w2 ⟨rfl, hb2⟩; have HB1 := Lib.hid (below_at HB1.out hb2 HB1.out.size); clear hb2)
          | (with_reducible refine (C3.out _).mono ?_; rintro e w2 ⟨rfl, hb2⟩; have HB1 := Lib.hid (below_at HB1.out hb2 HB1.out.size); clear hb2)
          | (with_reducible refine (C4.out _).mono ?_; rintro e w2 ⟨rfl, hb2⟩; have HB1 := Lib.hid (below_at HB1.out hb2 HB1.out.size); clear hb2)))
    go_ret
    exact ⟨rfl, HB1.out⟩
end Go.Proofs.YtjdollmfjflkoaaGreatDoor
