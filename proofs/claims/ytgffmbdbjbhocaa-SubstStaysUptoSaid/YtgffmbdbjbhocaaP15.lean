/- Packed texts: SubstLengthsWalk, SuFrame, SuFrameUp, SuFirst, SuRefAll, SuRefFirst, SubstTellsWalk. What each of them proves stands above its theorems; the conditions stand in these. -/
import Derived.Test.YtgffmbdbjbhocaaRows
import Derived.Test.YtgffmbdbjbhocaaP0
import Derived.Test.YtgffmbdbjbhocaaP13
import Derived.Test.YtgffmbdbjbhocaaP14
namespace Go.Proofs.Ytgffmbdbjbhocaa
open Go.RowKit Go.Lib

/-- How many bytes spans have. -/
def lenD (L : List (Nat × Nat)) : Nat := (L.map fun x => x.2 - x.1).sum
def putD (s : ByteArray) (xs : List ByteArray) (L : List (Nat × Nat)) : Nat := (L.map fun x => (joinB xs (s.extract x.1 x.2)).size).sum
theorem cat_size_cons (x : ByteArray) (r : List ByteArray) : (joinB (x :: r) ⟨#[]⟩).size = x.size + (joinB r ⟨#[]⟩).size := by
  rw [joinB_size, joinB_size, List.map_cons, Lib.join_cons]
  have e : (⟨#[]⟩ : ByteArray).data.toList = [] := rfl
  rw [e, List.length_append]
  congr 1
  cases r with
  | nil => rfl
  | cons y r => rw [List.map_cons, Lib.join_cons]; simp [Lib.joinTail]
theorem pieces_size (s : ByteArray) (T : Tr) (xs : List ByteArray) : ∀ (L : List (Nat × Nat)) (d : Nat) (e : Int), Apart s.data.toList T d e L → d ≤ s.size → (joinB (piecesB s xs d L) ⟨#[]⟩).size + lenD L = s.size - d + putD s xs L
  | [], d, _, _, hd => by
    show (joinB [s.extract d s.size] ⟨#[]⟩).size + 0 = _
    rw [cat_size_cons, ByteArray.size_extract]
    show min s.size s.size - d + (joinB [] ⟨#[]⟩).size + 0 = s.size - d + 0
    have : (joinB [] ⟨#[]⟩).size = 0 := rfl
    omega
  | (a, b) :: r, d, e, h, hd => by
    have hlen : s.data.toList.length = s.size := Array.length_toList
    obtain ⟨h1, h2, _, h4, h5, _, h7⟩ := h
    rw [hlen] at h2 h5
    have ih := pieces_size s T xs r b b h7 h5
    show (joinB (s.extract d a :: joinB xs (s.extract a b) :: piecesB s xs b r) ⟨#[]⟩).size + (b - a + lenD r) = s.size - d + ((joinB xs (s.extract a b)).size + putD s xs r)
    rw [cat_size_cons, cat_size_cons, ByteArray.size_extract]
    omega
theorem put_one (s word : ByteArray) : ∀ L, putD s [word] L = L.length * word.size
  | [] => by simp [putD]
  | (a, b) :: r => by
    have ih := put_one s word r
    show (joinB [word] (s.extract a b)).size + putD s [word] r = _
    have e : joinB [word] (s.extract a b) = word := by
      apply ba_ext
      rw [joinB_list]
      simp [Lib.join_one]
    rw [e, ih, List.length_cons, Nat.add_mul]
    omega
theorem put_two (s : ByteArray) (T : Tr) (p q : ByteArray) : ∀ (L : List (Nat × Nat)) (d : Nat) (e : Int), Apart s.data.toList T d e L → putD s [p, q] L = L.length * (p.size + q.size) + lenD L
  | [], _, _, _ => by simp [putD, lenD]
  | (a, b) :: r, d, e, h => by
    have hlen : s.data.toList.length = s.size := Array.length_toList
    obtain ⟨h1, h2, _, h4, h5, _, h7⟩ := h
    rw [hlen] at h2 h5
    have ih := put_two s T p q r b b h7
    show (joinB [p, q] (s.extract a b)).size + putD s [p, q] r = _ + (b - a + lenD r)
    have e : (joinB [p, q] (s.extract a b)).size = p.size + (b - a) + q.size := by
      rw [joinB_size]
      simp only [List.map_cons, List.map_nil, Lib.join_cons, Lib.joinTail, List.flatten_cons, List.flatten_nil, List.length_append, List.length_nil]
      have e1 : (s.extract a b).data.toList.length = b - a := by
        rw [show (s.extract a b).data.toList.length = (s.extract a b).size from Array.length_toList, ByteArray.size_extract]; omega
      have e2 : p.data.toList.length = p.size := Array.length_toList
      have e3 : q.data.toList.length = q.size := Array.length_toList
      omega
    rw [e, ih, List.length_cons, Nat.add_mul]
    omega
theorem lenD_take {L : List (Nat × Nat)} {i : Nat} {x : Nat × Nat} (h : L[i]? = some x) : lenD (L.take (i + 1)) = lenD (L.take i) + (x.2 - x.1) := by
  unfold lenD
  rw [List.take_add_one, h]
  simp
theorem lenD_le {s : List UInt8} {T : Tr} : ∀ (L : List (Nat × Nat)) (d : Nat) (e : Int), Apart s T d e L → d ≤ s.length → d + lenD L ≤ s.length
  | [], d, _, _, hd => by show d + 0 ≤ _; omega
  | (a, b) :: r, d, e, h, hd => by
    obtain ⟨h1, h2, _, h4, h5, _, h7⟩ := h
    have := lenD_le r b b h7 h5
    show d + (b - a + lenD r) ≤ _
    omega
theorem strs_one (w : World) (p : ByteArray) : Strs (.slice (some ⟨w.heap.size, 0, none⟩) 1 1) [p] (w.alloc (.cells #[.string p] 9)) := by
  refine ⟨_, _, rfl, Nat.le_refl _, by simp, fun j x hj => ⟨w.heap.size, 0, rfl, by simp, ?_⟩⟩
  have h := heap_alloc_new w (.cells #[.string p] 9)
  rw [cell_of_heap h, Nat.zero_add]
  match j, hj with
  | 0, hj => simp at hj; subst hj; rfl
theorem strs_two (w : World) (p q : ByteArray) : Strs (.slice (some ⟨w.heap.size, 0, none⟩) 2 2) [p, q] (w.alloc (.cells #[.string p, .string q] 9)) := by
  refine ⟨_, _, rfl, Nat.le_refl _, by simp, fun j x hj => ⟨w.heap.size, 0, rfl, by simp, ?_⟩⟩
  have h := heap_alloc_new w (.cells #[.string p, .string q] 9)
  rw [cell_of_heap h, Nat.zero_add]
  match j, hj with
  | 0, hj => simp at hj; subst hj; rfl
  | 1, hj => simp at hj; subst hj; rfl
set_option maxHeartbeats 4000000 in
set_option maxRecDepth 100000 in
theorem lengths_in (ao : Option Addr) (N cap K : Nat) (L : List (Nat × Nat)) (T : Tr) (s word R1 R2 : ByteArray) (w : World) (ts : List Nd) (hs : s.size ≤ 30) (hwd : word.size ≤ 200) (hK : K = L.length) (hKb : K ≤ 100) (hL : Lies (.slice ao N cap) ts w) (hA : Apart s.data.toList T 0 (-1) L)
    (hR1 : R1 = allB s [word] L) (hR2 : R2 = allB s [⟨#[60]⟩, ⟨#[62]⟩] L)
    (kf : ∀ (al : Option Addr) (M cl : Nat) (w' : World), Below w.heap.size w w' → Strs (.slice al M cl) [word] w' → Calls Try.prog 46 #[.slice ao N cap, .string s, .slice al M cl] w' fun e w'' => e = .returned (.bool true) ∧ Below w'.heap.size w' w'')
    (k1 : ∀ w, Lies (.slice ao N cap) ts w → Calls Try.prog 30 #[.slice ao N cap, .string s] w fun e w' => ∃ v', e = .returned v' ∧ w'.ownsRow w.heap.size 41 2 v' K (pairC L) ∧ Below w.heap.size w w')
    (k2 : ∀ (al : Option Addr) (cl : Nat) w, Lies (.slice ao N cap) ts w → Strs (.slice al 1 cl) [word] w → Calls Try.prog 49 #[.slice ao N cap, .string s, .slice al 1 cl] w fun e w' => e = .returned (.tuple #[.string R1, .int .i64 (K : Int)]) ∧ Below w.heap.size w w')
    (k3 : ∀ (al : Option Addr) (cl : Nat) w, Lies (.slice ao N cap) ts w → Strs (.slice al 2 cl) [⟨#[60]⟩, ⟨#[62]⟩] w → Calls Try.prog 49 #[.slice ao N cap, .string s, .slice al 2 cl] w fun e w' => e = .returned (.tuple #[.string R2, .int .i64 (K : Int)]) ∧ Below w.heap.size w w') :
    Calls Try.prog 13 #[.slice ao N cap, .string s, .string word] w fun e w' => e = .returned (.bool true) ∧ Below w.heap.size w w' := by
  have ks := fun w => shownS_any w
  have hlen : s.data.toList.length = s.size := Array.length_toList
  have p1 := pieces_size s T [word] L 0 (-1) hA (Nat.zero_le _)
  rw [put_one] at p1
  have p2 := pieces_size s T [⟨#[60]⟩, ⟨#[62]⟩] L 0 (-1) hA (Nat.zero_le _)
  rw [put_two s T ⟨#[60]⟩ ⟨#[62]⟩ L 0 (-1) hA] at p2
  have p3 := lenD_le L 0 (-1) hA (Nat.zero_le _)
  have z1 : R1.size + lenD L = s.size + K * word.size := by rw [hR1, hK]; unfold allB; omega
  have z2 : R2.size = s.size + 2 * K := by
    have : (⟨#[60]⟩ : ByteArray).size + (⟨#[62]⟩ : ByteArray).size = 2 := rfl
    rw [this] at p2
    rw [hR2, hK]
    unfold allB
    omega
  have z3 : ∀ i, lenD (L.take i) ≤ 30 := fun i => by
    have h : lenD (L.take i) ≤ lenD L := by
      have e : lenD L = lenD (L.take i) + lenD (L.drop i) := by
        unfold lenD
        rw [← List.sum_append, ← List.map_append, List.take_append_drop]
      omega
    rw [hlen] at p3
    omega
  have H := Lib.hid (And.intro hlen (And.intro hL (And.intro hA (And.intro hK (And.intro z1 (And.intro z2 z3))))))
  clear hlen hL hA hK p1 p2 p3 z1 z2 z3 hR1 hR2
  go_enter Try.func13, Try.ntmps13
  go_wp2_with (first
    | (go_at_call 37; refine (ks _).mono ?_; rintro e w1 ⟨rfl, hb1⟩; have H1 := Lib.hid hb1; have hz1 := hb1.size; clear hb1 ks)
    | (go_at_call 46; refine (kf _ _ _ _ (H1.out.alloc (by omega) _) (strs_one _ _)).mono ?_; rintro e w2 ⟨rfl, hb2⟩
       have H2 := Lib.hid ((H1.out.alloc (by omega) (.cells #[.string word] 9)).trans (hb2.mono (by simp; omega))); clear hb2 kf)
    | (go_at_call 30; refine (k1 _ (H.out.2.1.below H2.out)).mono ?_; rintro e w3 ⟨v3, rfl, ho3, hb3⟩; obtain ⟨a3, c3, rfl⟩ := own_zeroB ho3; have H3 := Lib.hid (And.intro ho3 (H2.out.trans (hb3.mono H2.out.size))); clear hb3 k1 ho3)
    | fail)
  go_loopg [10, 11] (K + 1) (fun g v10 v11 wr => ∃ (i : Nat) (z : Int), v10 = .int .i64 z ∧ v11 = .int .i64 i ∧ i ≤ K ∧ Hid (g = K + 1 - i ∧ z = (s.size : Int) - (lenD (L.take i) : Int) + (i : Int) * (word.size : Int)) ∧ Hid (Below w3.heap.size w3 wr))
  case atStart => exact ⟨0, s.size, rfl, rfl, by omega, ⟨rfl, by show (s.size : Int) = (s.size : Int) - ((0 : Nat) : Int) + _; simp⟩, Below.refl _ _⟩
  case round =>
    obtain ⟨i, z, rfl, rfl, hi, HR, HB⟩ := hrel
    have hiw : (i : Int) * (word.size : Int) ≤ 20000 := by
      have : i * word.size ≤ 100 * 200 := Nat.mul_le_mul (by omega) hwd
      have e : (i : Int) * (word.size : Int) = ((i * word.size : Nat) : Int) := (Int.natCast_mul _ _).symm
      omega
    have hiw0 : 0 ≤ (i : Int) * (word.size : Int) := by
      have e : (i : Int) * (word.size : Int) = ((i * word.size : Nat) : Int) := (Int.natCast_mul _ _).symm
      omega
    have hzb : -30 ≤ z ∧ z ≤ 30000 := by have := HR.out.2; have := H.out.2.2.2.2.2.2 i; omega
    by_cases hlt : i < K
    · obtain ⟨⟨x, y⟩, hx⟩ : ∃ x, L[i]? = some x := ⟨L[i]'(by have := H.out.2.2.2.1; omega), List.getElem?_eq_getElem _⟩
      obtain ⟨g1, c1, e1⟩ := owned_slice H3.out.1 (by omega)
      cases e1
      have kk := owns_same H3.out.1 fun q hq => HB.out.block q (own_block_lt H3.out.1 hq)
      obtain ⟨a0, a1⟩ := span_cells kk hx
      dsimp only at a0 a1
      have hlt2 := lenD_take hx
      have hb30 := H.out.2.2.2.2.2.2 (i + 1)
      have hxy : x ≤ y ∧ y ≤ 30 := by
        have key : ∀ (l : List (Nat × Nat)) (d : Nat) (e : Int), Apart s.data.toList T d e l → ∀ (j : Nat) (u : Nat × Nat), l[j]? = some u → u.1 ≤ u.2 ∧ u.2 ≤ s.data.toList.length := by
          intro l
          induction l with
          | nil => intro d e _ j u h; simp at h
          | cons v l ih =>
            intro d e h j u hj
            obtain ⟨p, q⟩ := v
            cases j with
            | zero => simp at hj; subst hj; exact ⟨h.2.2.2.1, h.2.2.2.2.1⟩
            | succ j => exact ih q q h.2.2.2.2.2.2 j u (by simpa using hj)
        have := key L 0 (-1) H.out.2.2.1 i (x, y) hx
        rw [H.out.1] at this
        exact ⟨this.1, Nat.le_trans this.2 hs⟩
      have hltI : (i : Int) < (K : Int) := by omega
      have hI : IntKind.i64.wrap ((i : Int) + 1) = ((i + 1 : Nat) : Int) := by rw [IntWalk.i64_in _ (by omega)]; omega
      have w1' : IntKind.i64.wrap ((y : Int) - (x : Int)) = (y : Int) - (x : Int) := IntWalk.i64_in _ (by omega)
      have w2' : IntKind.i64.wrap (z - ((y : Int) - (x : Int))) = z - ((y : Int) - (x : Int)) := IntWalk.i64_in _ (by omega)
      have w3' : IntKind.i64.wrap (z - ((y : Int) - (x : Int)) + (word.size : Int)) = z - ((y : Int) - (x : Int)) + (word.size : Int) := IntWalk.i64_in _ (by omega)
      have HN := Lib.hid (show z - ((y : Int) - (x : Int)) + (word.size : Int) = (s.size : Int) - (lenD (L.take (i + 1)) : Int) + ((i + 1 : Nat) : Int) * (word.size : Int) by
        rw [HR.out.2, hlt2]
        have e : ((i + 1 : Nat) : Int) * (word.size : Int) = (i : Int) * (word.size : Int) + (word.size : Int) := by
          rw [Int.natCast_add, Int.add_mul]
          simp
        rw [e]
        dsimp only
        omega)
      clear kk hx hlt2 hb30 hiw hiw0
      go_wp2_with fail
      go_region
      all_goals
        go_wp2
        go_roundg (K - i)
        case rel => exact ⟨i + 1, z - ((y : Int) - (x : Int)) + (word.size : Int), rfl, by go_num, by omega, ⟨by omega, HN.out⟩, HB.out.drew⟩
        case measure => have := HR.out.1; omega
    · obtain rfl : i = K := by omega
      have hd0 : decide ((i : Int) < (i : Int)) = false := by simp
      have hz : (R1.size : Int) = z := by
        have := H.out.2.2.2.2.1
        have e := HR.out.2
        rw [List.take_of_length_le (by rw [← H.out.2.2.2.1]; exact Nat.le_refl _)] at e
        have e2 : (i : Int) * (word.size : Int) = ((i * word.size : Nat) : Int) := (Int.natCast_mul _ _).symm
        omega
      have q1 : ((R1.size : Int) == z) = true := by rw [hz]; simp
      have hm2 : IntKind.i64.wrap (2 * (i : Int)) = 2 * (i : Int) := IntWalk.i64_in _ (by omega)
      have hm3 : IntKind.i64.wrap ((s.size : Int) + 2 * (i : Int)) = (s.size : Int) + 2 * (i : Int) := IntWalk.i64_in _ (by omega)
      have q2 : ((R2.size : Int) == (s.size : Int) + 2 * (i : Int)) = true := by
        have := H.out.2.2.2.2.2.1
        rw [beq_iff_eq]
        omega
      have hB3 := H3.out.2.trans (HB.out.mono H3.out.2.size)
      have HB3 := Lib.hid hB3
      have hsz3 := hB3.size
      clear hz hiw hiw0 hB3
      go_wp2_with (first
        | (go_at_call 49; first
            | (with_reducible refine (k2 _ _ _ (H.out.2.1.below (HB3.out.alloc (by omega) _)) (strs_one _ _)).mono ?_; rintro e w5 ⟨rfl, hb5⟩
               have hq5 := (HB3.out.alloc (by omega) (.cells #[.string word] 9)).trans (hb5.mono (by simp; omega))
               have hz5 := hq5.size
               have H5 := Lib.hid hq5; clear hb5 k2 hq5)
            | (with_reducible refine (k3 _ _ _ (H.out.2.1.below (H5.out.alloc (by omega) _)) (strs_two _ _ _)).mono ?_; rintro e w6 ⟨rfl, hb6⟩
               have H6 := Lib.hid ((H5.out.alloc (by omega) (.cells #[.string ⟨#[60]⟩, .string ⟨#[62]⟩] 9)).trans (hb6.mono (by simp; omega))); clear hb6 k3))
        | fail)
      exact bodyPost_ret (results_tmp rfl _ _ _) rfl ⟨rfl, H6.out⟩
set_option maxHeartbeats 1000000 in
set_option maxRecDepth 20000 in
theorem lengths_out (ao : Option Addr) (N cap : Nat) (s word : ByteArray) (w : World)
    (kf : ∀ (al : Option Addr) (M cl : Nat) (w' : World), Below w.heap.size w w' → Strs (.slice al M cl) [word] w' → Calls Try.prog 46 #[.slice ao N cap, .string s, .slice al M cl] w' fun e w'' => e = .returned (.bool false) ∧ Below w'.heap.size w' w'') :
    Calls Try.prog 13 #[.slice ao N cap, .string s, .string word] w fun e w' => e = .returned (.bool true) ∧ Below w.heap.size w w' := by
  have ks := fun w => shownS_any w
  go_enter Try.func13, Try.ntmps13
  go_wp2_with (first
    | (go_at_call 37; refine (ks _).mono ?_; rintro e w1 ⟨rfl, hb1⟩; have H1 := Lib.hid hb1; have hz1 := hb1.size; clear hb1 ks)
    | (go_at_call 46; refine (kf _ _ _ _ (H1.out.alloc (by omega) _) (strs_one _ _)).mono ?_; rintro e w2 ⟨rfl, hb2⟩
       have H2 := Lib.hid ((H1.out.alloc (by omega) (.cells #[.string word] 9)).trans (hb2.mono (by simp; omega))); clear hb2 kf)
    | fail)
  exact bodyPost_ret (results_tmp rfl _ _ _) rfl ⟨rfl, H2.out⟩
theorem spansL_few {s : List UInt8} {T : Tr} (hs : s.length ≤ 30) : (spansL s T 0).length ≤ 100 := by
  have := goL_length (farG s T) s.length (2 * (s.length + 1 - 0) + 2) 0 (-1)
  unfold spansL
  omega
theorem join_bd {xs : List ByteArray} {s : ByteArray} (hx : longN xs ≤ 200) (hs : s.size ≤ 30) (a b : Nat) : (joinB xs (s.extract a b)).size ≤ 7000 := by
  refine Nat.le_trans (join_le _ _) ?_
  unfold longN at hx
  have h1 : (s.extract a b).size ≤ 30 := by rw [ByteArray.size_extract]; omega
  have h2 : xs.length * (s.extract a b).size ≤ 200 * 30 := Nat.mul_le_mul (by omega) h1
  omega
theorem putD_bd {s : ByteArray} {xs : List ByteArray} (h : ∀ a b, (joinB xs (s.extract a b)).size ≤ 7000) : ∀ L, putD s xs L ≤ L.length * 7000
  | [] => Nat.zero_le _
  | (a, b) :: r => by
    have ih := putD_bd h r
    have h1 := h a b
    show (joinB xs (s.extract a b)).size + putD s xs r ≤ _
    rw [List.length_cons, Nat.add_mul]
    omega
theorem all_bd {s : ByteArray} {xs : List ByteArray} {T : Tr} (hx : longN xs ≤ 200) (hs : s.size ≤ 30) : (allB s xs (spansL s.data.toList T 0)).size ≤ 1000000 := by
  have hlen : s.data.toList.length = s.size := Array.length_toList
  have h1 := pieces_size s T xs (spansL s.data.toList T 0) 0 (-1) (goL_apart s.data.toList T _ 0 (-1)) (Nat.zero_le _)
  have h2 := putD_bd (join_bd hx hs) (spansL s.data.toList T 0)
  have h3 := spansL_few (s := s.data.toList) (T := T) (by omega)
  have h1 : (allB s xs (spansL s.data.toList T 0)).size + lenD (spansL s.data.toList T 0) = s.size - 0 + putD s xs (spansL s.data.toList T 0) := h1
  have h4 : (spansL s.data.toList T 0).length * 7000 ≤ 100 * 7000 := Nat.mul_le_mul_right _ h3
  omega
/-- subst.All, of a right tree, a short text and a short replacement. -/
theorem all_few (ao : Option Addr) (cap : Nat) (T : Tr) (ts : List Nd) (s : ByteArray) (xs : List ByteArray) (hts : ts = T.row 0) (hok : T.ok) (hN : ts.length ≤ 60) (hs : s.size ≤ 30) (hx : longN xs ≤ 200) (al : Option Addr) (M cl : Nat) (w : World)
    (hL : Lies (.slice ao ts.length cap) ts w) (hxs : Strs (.slice al M cl) xs w) :
    Calls Try.prog 49 #[.slice ao ts.length cap, .string s, .slice al M cl] w fun e w' => e = .returned (.tuple #[.string (allB s xs (spansL s.data.toList T 0)), .int .i64 ((spansL s.data.toList T 0).length : Int)]) ∧ Below w.heap.size w w' := by
  have hlen : s.data.toList.length = s.size := Array.length_toList
  have h3 := spansL_few (s := s.data.toList) (T := T) (by omega)
  exact suAll_walk _ al M cl _ 0 ts T xs (spansL s.data.toList T 0) s w ⟨_, _, _, rfl⟩ (by omega) rfl (by omega) (goL_apart s.data.toList T _ 0 (-1)) hL hxs (fun a b => Nat.le_trans (join_bd hx hs a b) (by omega)) (Nat.le_trans (all_bd hx hs) (by omega))
    (fun w h => spans_any _ T ts s w hts hok (by omega) (by omega) h)
/-- The statement's function, at every input. -/
theorem substLengths_walk (w : World) (ao : Option Addr) (cap : Nat) (ts : List Nd) (_h63 : ts.length ≤ 9223372036854775807) (hL : ts.length ≤ 140737488355328 → Lies (.slice ao ts.length cap) ts w) (s : ByteArray) (_hs : s.size ≤ 140737488351232) (word : ByteArray) (hwd : word.size ≤ 140737488351232) :
    Calls Try.prog 13 #[.slice ao ts.length cap, .string s, .string word] w fun e w' => e = .returned (.bool true) ∧ Below w.heap.size w w' := by
  have e1 : longN [word] = 1 + word.size := by simp [longN]
  obtain ⟨q, hq, kf⟩ := few07_any ao cap ts s [word] w hL (by rw [e1]; omega)
  cases q
  · exact lengths_out ao _ cap s word w kf
  · obtain ⟨hN, hs, hx, hL, T, hok, hts⟩ := hq rfl
    have hlen : s.data.toList.length = s.size := Array.length_toList
    have h3 := spansL_few (s := s.data.toList) (T := T) (by omega)
    exact lengths_in ao _ cap _ (spansL s.data.toList T 0) T s word _ _ w ts hs (by rw [e1] at hx; omega) rfl h3 hL (goL_apart s.data.toList T _ 0 (-1)) rfl rfl kf
      (fun w h => refSpans_any _ T ts s w hts hok (by omega) (by omega) h) (fun al cl w h hxs => all_few ao cap T ts s [word] hts hok hN hs hx al 1 cl w h hxs) (fun al cl w h hxs => all_few ao cap T ts s _ hts hok hN hs (by decide) al 2 cl w h hxs)
end Go.Proofs.Ytgffmbdbjbhocaa
namespace Go.Proofs.Ytgffmbdbjbhocaa
open Go.ChangeShapes Go.WideShapes Go.ChangeAt Go.RowKit Go.Deep

theorem cellsStr : Try.prog.cellsOf 9 = 1 := by kernel_rfl
set_option maxRecDepth 20000 in
/-- An argument that is a row of texts. -/
theorem open_texts {H : Type} {enc : TypeId × Value → H} {W : World} {base : Nat} {v : Value} {d : DataW H} {p : List MemPlace} (hv : Value.okWide Try.prog W .any base 59 v) (h : DataW.Trod enc Try.prog W 0 (fun _ => true) true 59 v d p) :
    ∃ (ao : Option Addr) (cap : Nat) (xs : List ByteArray), v = .slice ao xs.length cap ∧ (xs.length ≤ 9223372036854775807 ∧ (∀ x ∈ xs, x.size ≤ 9223372036854775807) ∧ (xs.length ≤ 140737488355328 → Strs v xs W)) := by
  obtain ⟨ao, N, cap, rfl⟩ : ∃ ao N cap, v = .slice ao N cap := by
    cases v <;> first | exact ⟨_, _, _, rfl⟩ | (exfalso; simp [Value.okWide, Cell.okWide, Cell.ok, Try.underlying59] at hv)
  obtain ⟨fuel, hf⟩ := h
  have hf : DataW.trod enc Try.prog W 0 (fun _ => true) true fuel 59 [.slice ao N cap] = some (d, p) := hf
  rcases open_strs Try.underlying59 Try.underlying9 cellsStr hf with ⟨h1, _⟩ | ⟨a, len, cap', m, Sx, h1, _, hl, hm, hmm, _, hx⟩
  · obtain ⟨rfl, rfl, rfl⟩ : ao = none ∧ N = 0 ∧ cap = 0 := by simpa using h1
    exact ⟨none, 0, [], rfl, Nat.zero_le _, fun x hx => (by simp at hx), fun _ => Strs.nil W⟩
  · obtain ⟨rfl, rfl, rfl⟩ : ao = some a ∧ N = len ∧ cap = cap' := by simpa using h1
    rw [if_pos rfl] at hmm
    unfold maxLen at hm
    refine ⟨some a, cap, (List.range N).map Sx, by simp, by simp; omega, fun x hxm => ?_, fun hN => ⟨some a, cap, by simp, by simpa using hl, hN, fun j x hj => ?_⟩⟩
    · obtain ⟨i, hi, rfl⟩ := List.mem_map.1 hxm
      have h2 := (hx i (by have := List.mem_range.1 hi; omega)).2
      unfold maxLen at h2
      omega
    · have hjN : j < N := by
        by_cases h : j < N
        · exact h
        · rw [List.getElem?_eq_none (by simp; omega)] at hj; cases hj
      have hq : Sx j = x := by simpa [hjN] using hj
      have hc := (hx j (by omega)).1
      have hc0 := (hx 0 (by omega)).1
      rw [hq] at hc
      obtain ⟨ab, aoff, asp⟩ := a
      have hsp : asp = none := by
        have e : (⟨ab, aoff, asp⟩ : Addr).add 0 = ⟨ab, aoff, asp⟩ := rfl
        rw [e] at hc0
        exact (cell_plain hc0).1
      subst hsp
      have ea : (⟨ab, aoff, none⟩ : Addr).add j = ⟨ab, aoff + j, none⟩ := by
        unfold Addr.add
        by_cases h2 : j = 0 <;> simp [h2]
      rw [ea] at hc
      exact ⟨ab, aoff, rfl, (cell_plain hc).2, hc⟩
/-- It reads again behind a call that laid new memory alone. -/
theorem texts_again {H : Type} {enc : TypeId × Value → H} {W W' : World} {v : Value} {d : DataW H} {p : List MemPlace} {sp : Nat → Bool} (h : DataW.Trod enc Try.prog W 0 (fun _ => true) true 59 v d p)
    (hlt : ∀ q ∈ p, q.block < W.heap.size) (hb : Below W.heap.size W W') (hs : ∀ q ∈ p, sp q.block = true) : DataW.Trod enc Try.prog W' 0 sp true 59 v d p :=
  Go.WideElems.Trod_stays laidOut (by kernel_rfl) (of_decide_eq_true (by kernel_rfl)) h (fun q hq => hb.same (hlt q hq)) hs
end Go.Proofs.Ytgffmbdbjbhocaa
namespace Go.Proofs.Ytgffmbdbjbhocaa
open Go.ChangeShapes Go.WideShapes Go.ChangeAt Go.RowKit Go.Deep

theorem up_string {H : Type} (bytes : List UInt8) : Rows.uptoBulk (DataW.lit (H := H) (.string bytes)) = bytes.length + 1 := by
  simp [Rows.uptoBulk]
theorem up_range {H : Type} (F : Nat → ByteArray) : ∀ n, Rows.uptoBulkAll ((List.range n).map fun i => DataW.lit (H := H) (.string (F i).data.toList)) = longN ((List.range n).map F) := by
  have app : ∀ l r : List (DataW H), Rows.uptoBulkAll (l ++ r) = Rows.uptoBulkAll l + Rows.uptoBulkAll r := by
    intro l r
    induction l with
    | nil => simp [Rows.uptoBulkAll]
    | cons x l ih => simp only [List.cons_append, Rows.uptoBulkAll, ih]; omega
  intro n
  induction n with
  | zero => rfl
  | succ n ih =>
    rw [List.range_succ, List.map_append, app, ih, List.map_append]
    have e : (F n).data.toList.length = (F n).size := Array.length_toList
    simp only [List.map_cons, List.map_nil, Rows.uptoBulkAll, up_string, longN, List.length_append, List.map_append, List.sum_append, List.length_cons, List.length_nil, List.sum_cons, List.sum_nil]
    omega
theorem long_len (xs : List ByteArray) : xs.length ≤ longN xs := Nat.le_add_right _ _
set_option maxRecDepth 20000 in
/-- An argument that is a row of texts, and its bulk. -/
theorem open_bulk {H : Type} {enc : TypeId × Value → H} {W : World} {base : Nat} {v : Value} {d : DataW H} {p : List MemPlace} (hv : Value.okWide Try.prog W .any base 59 v) (h : DataW.Trod enc Try.prog W 0 (fun _ => true) true 59 v d p) :
    ∃ (ao : Option Addr) (cap : Nat) (xs : List ByteArray), v = .slice ao xs.length cap ∧ (xs.length ≤ 140737488355328 → Strs v xs W) ∧ longN xs ≤ Rows.uptoBulk d := by
  obtain ⟨ao, N, cap, rfl⟩ : ∃ ao N cap, v = .slice ao N cap := by
    cases v <;> first | exact ⟨_, _, _, rfl⟩ | (exfalso; simp [Value.okWide, Cell.okWide, Cell.ok, Try.underlying59] at hv)
  obtain ⟨fuel, hf⟩ := h
  have hf : DataW.trod enc Try.prog W 0 (fun _ => true) true fuel 59 [.slice ao N cap] = some (d, p) := hf
  rcases open_strs Try.underlying59 Try.underlying9 cellsStr hf with ⟨h1, h2⟩ | ⟨a, len, cap', m, Sx, h1, _, hl, hm, hmm, h2, hx⟩
  · obtain ⟨rfl, rfl, rfl⟩ : ao = none ∧ N = 0 ∧ cap = 0 := by simpa using h1
    exact ⟨none, 0, [], rfl, fun _ => Strs.nil W, Nat.zero_le _⟩
  · obtain ⟨rfl, rfl, rfl⟩ : ao = some a ∧ N = len ∧ cap = cap' := by simpa using h1
    have hd : d = .slice ((List.range N).map fun i => .lit (.string (Sx i).data.toList)) ((List.range (m - N)).map fun j => .lit (.string (Sx (N + j)).data.toList)) := (Prod.mk.inj h2).1
    rw [if_pos rfl] at hmm
    refine ⟨some a, cap, (List.range N).map Sx, by simp, fun hN => ⟨some a, cap, by simp, by simpa using hl, hN, fun j x hj => ?_⟩, ?_⟩
    · have hjN : j < N := by
        by_cases h : j < N
        · exact h
        · rw [List.getElem?_eq_none (by simp; omega)] at hj; cases hj
      have hq : Sx j = x := by simpa [hjN] using hj
      have hc := (hx j (by omega)).1
      have hc0 := (hx 0 (by omega)).1
      rw [hq] at hc
      obtain ⟨ab, aoff, asp⟩ := a
      have hsp : asp = none := by
        have e : (⟨ab, aoff, asp⟩ : Addr).add 0 = ⟨ab, aoff, asp⟩ := rfl
        rw [e] at hc0
        exact (cell_plain hc0).1
      subst hsp
      have ea : (⟨ab, aoff, none⟩ : Addr).add j = ⟨ab, aoff + j, none⟩ := by
        unfold Addr.add
        by_cases h2 : j = 0 <;> simp [h2]
      rw [ea] at hc
      exact ⟨ab, aoff, rfl, (cell_plain hc).2, hc⟩
    · rw [hd, ← up_range (H := H) Sx N]
      simp only [Rows.uptoBulk]
      omega
end Go.Proofs.Ytgffmbdbjbhocaa
namespace Go.Proofs.Ytgffmbdbjbhocaa
open Go.RowKit Go.Lib
attribute [local go_sem] Oper.semAt_some

theorem strs_three (w : World) (p q r : ByteArray) : Strs (.slice (some ⟨w.heap.size, 0, none⟩) 3 3) [p, q, r] (w.alloc (.cells #[.string p, .string q, .string r] 9)) := by
  refine ⟨_, _, rfl, Nat.le_refl _, by simp, fun j x hj => ⟨w.heap.size, 0, rfl, by simp, ?_⟩⟩
  have h := heap_alloc_new w (.cells #[.string p, .string q, .string r] 9)
  rw [cell_of_heap h, Nat.zero_add]
  match j, hj with
  | 0, hj => simp at hj; subst hj; rfl
  | 1, hj => simp at hj; subst hj; rfl
  | 2, hj => simp at hj; subst hj; rfl
def firstB (s : ByteArray) (xs : List ByteArray) : List (Nat × Nat) → ByteArray
  | [] => s
  | (a, b) :: _ => joinB [s.extract 0 a, joinB xs (s.extract a b), s.extract b s.size] ⟨#[]⟩
set_option maxHeartbeats 4000000 in
set_option maxRecDepth 100000 in
theorem suFirst_none (vt vl : Value) (s : ByteArray) (w : World) (hvt : ∃ ao N cap, vt = .slice ao N cap) (hvl : ∃ ao N cap, vl = .slice ao N cap)
    (k1 : ∀ w', w = w' → Calls Try.prog 34 #[vt, .string s, .int .i64 0] w' fun e w' => e = .returned (.tuple #[.int .i64 0, .int .i64 0, .bool false]) ∧ Below w.heap.size w w') :
    Calls Try.prog 47 #[vt, .string s, vl] w fun e w' => e = .returned (.tuple #[.string s, .int .i64 0]) ∧ Below w.heap.size w w' := by
  obtain ⟨ao, N, cap, rfl⟩ := hvt
  obtain ⟨al, M, cl, rfl⟩ := hvl
  have k1 := k1 w rfl
  go_enter Try.func47, Try.ntmps47
  go_wp2_with (first
    | (go_at_call 34; refine k1.mono ?_; rintro e w1 ⟨rfl, hb1⟩)
    | fail)
  exact bodyPost_ret (results_tmp2 rfl _ _ _) rfl ⟨rfl, hb1⟩
set_option maxHeartbeats 4000000 in
set_option maxRecDepth 100000 in
theorem suFirst_some (vt : Value) (al : Option Addr) (M cl x y : Nat) (xs : List ByteArray) (s F : ByteArray) (w : World) (hvt : ∃ ao N cap, vt = .slice ao N cap) (_hs : s.size ≤ 1000000) (hxy : x ≤ y ∧ y ≤ s.size)
    (hx : Strs (.slice al M cl) xs w) (hBd : (joinB xs (s.extract x y)).size ≤ 140737488355328) (hF : F = joinB [s.extract 0 x, joinB xs (s.extract x y), s.extract y s.size] ⟨#[]⟩) (hAll : F.size ≤ 140737488355328)
    (k1 : ∀ w', w = w' → Calls Try.prog 34 #[vt, .string s, .int .i64 0] w' fun e w' => e = .returned (.tuple #[.int .i64 (x : Int), .int .i64 (y : Int), .bool true]) ∧ Below w.heap.size w w') :
    Calls Try.prog 47 #[vt, .string s, .slice al M cl] w fun e w' => e = .returned (.tuple #[.string F, .int .i64 1]) ∧ Below w.heap.size w w' := by
  obtain ⟨ao, N, cap, rfl⟩ := hvt
  have k1 := k1 w rfl
  have kP := fun w h => putS_any (.slice al M cl) xs (s.extract x y) w h hBd
  have kL := fun v w h => layS_any v [s.extract 0 x, joinB xs (s.extract x y), s.extract y s.size] ⟨#[]⟩ w h (by rw [← hF]; exact hAll)
  rw [← hF] at kL
  obtain ⟨P, hP⟩ : ∃ P, P = joinB xs (s.extract x y) := ⟨_, rfl⟩
  rw [← hP] at kP kL
  have HX := Lib.hid hx
  have x0 : (0 : Int) ≤ (x : Int) := by omega
  have x1 : (x : Int) ≤ (y : Int) := by omega
  have x2 : (y : Int) ≤ (s.size : Int) := by omega
  have x3 : (x : Int) ≤ (s.size : Int) := by omega
  have y0 : (0 : Int) ≤ (y : Int) := by omega
  clear hx hBd hAll hF hP hxy
  go_enter Try.func47, Try.ntmps47
  go_wp2_with (first
    | (go_at_call 34; refine k1.mono ?_; rintro e w1 ⟨rfl, hb1⟩
       have HB1 := Lib.hid hb1
       have hz1 := hb1.size
       clear hb1 k1)
    | fail)
  go_region_held3 (fun W => Below w1.heap.size w1 W)
    (first | with_reducible exact (Below.refl _ w1).drew | with_reducible exact hd2 | (with_reducible exact hd3) | (with_reducible exact hd2.alloc hz2 _))
    (first
      | (go_at_call 44; refine (kP _ (HX.out.below (by first | exact HB1.out.drew | exact HB1.out))).mono ?_; rintro e w2 ⟨rfl, hb2⟩
         have hd2 : Below w1.heap.size w1 w2 := ((Below.refl _ w1).drew).trans hb2
         have hz2 := hd2.size
         have HB2 := Lib.hid hd2)
      | (go_at_call 83; refine (kL _ _ (strs_three _ _ _ _)).mono ?_; rintro e w3 ⟨rfl, hb3⟩
         have hd3 : Below w1.heap.size w1 w3 := (HB2.out.alloc hz2 _).trans (hb3.mono (by simp; omega)))
      | fail)
  all_goals
    go_wp2
    exact bodyPost_ret (results_tmp2 rfl _ _ _) rfl ⟨rfl, HB1.out.trans (hd3.mono hz1)⟩
end Go.Proofs.Ytgffmbdbjbhocaa
namespace Go.Proofs.Ytgffmbdbjbhocaa
open Go.RowKit Go.Lib
attribute [local go_sem] Oper.semAt_some

theorem catB_cons (x : ByteArray) (r : List ByteArray) : joinB (x :: r) ⟨#[]⟩ = x ++ joinB r ⟨#[]⟩ := by
  apply ba_ext
  rw [ByteArray.data_append, Array.toList_append, joinB_list, joinB_list, List.map_cons, Lib.join_cons]
  congr 1
  cases r with
  | nil => rfl
  | cons y r => rw [List.map_cons, Lib.join_cons]; simp [Lib.joinTail]
theorem catB_nil : joinB [] ⟨#[]⟩ = ⟨#[]⟩ := rfl
theorem ba_assoc (a b c : ByteArray) : a ++ (b ++ c) = a ++ b ++ c := by
  apply ba_ext
  simp [ByteArray.data_append]
theorem ba_nil (a : ByteArray) : a ++ ⟨#[]⟩ = a := by
  apply ba_ext
  simp [ByteArray.data_append]
theorem ba_none (a : ByteArray) : ⟨#[]⟩ ++ a = a := by
  apply ba_ext
  simp [ByteArray.data_append]
set_option maxHeartbeats 8000000 in
set_option maxRecDepth 100000 in
theorem refAllS_walk (vt : Value) (al : Option Addr) (M cl K : Nat) (ts : List Nd) (T : Tr) (xs : List ByteArray) (L : List (Nat × Nat)) (s : ByteArray) (w : World) (hvt : ∃ ao N cap, vt = .slice ao N cap) (hs : s.size ≤ 1000000) (hK : K = L.length) (hK2 : K ≤ 2000010) (hA : Apart s.data.toList T 0 (-1) L)
    (hL : Lies vt ts w) (hx : Strs (.slice al M cl) xs w) (hBd : ∀ a b, (joinB xs (s.extract a b)).size ≤ 140737488355328) (hAll : (allB s xs L).size ≤ 140737488355328)
    (k1 : ∀ w, Lies vt ts w → Calls Try.prog 30 #[vt, .string s] w fun e w' => ∃ v', e = .returned v' ∧ w'.ownsRow w.heap.size 41 2 v' K (pairC L) ∧ Below w.heap.size w w') :
    Calls Try.prog 50 #[vt, .string s, .slice al M cl] w fun e w' => e = .returned (.tuple #[.string (allB s xs L), .int .i64 (K : Int)]) ∧ Below w.heap.size w w' := by
  obtain ⟨ao, N, cap, rfl⟩ := hvt
  have hlen : s.data.toList.length = s.size := Array.length_toList
  have kP := fun a b w h => refPut_any (.slice al M cl) xs (s.extract a b) w h (hBd a b)
  obtain ⟨R, hR⟩ : ∃ R, R = allB s xs L := ⟨_, rfl⟩
  rw [← hR] at hAll ⊢
  have H := Lib.hid (And.intro hlen (And.intro hL (And.intro hx (And.intro hA (And.intro hK hR)))))
  clear hlen hL hx hA hK hR hBd
  go_enter Try.func50, Try.ntmps50
  go_wp2_with (first
    | (go_at_call 30; refine (k1 _ H.out.2.1).mono ?_; rintro e w1 ⟨v1, rfl, ho1, hb1⟩; obtain ⟨a1, c1, rfl⟩ := own_zeroB ho1; have H1 := Lib.hid (And.intro ho1 hb1); clear hb1 k1 ho1)
    | fail)
  go_loopg [9, 10, 11] (K + 1) (fun g v9 v10 v11 wr => ∃ (d i : Nat) (acc : ByteArray) , v9 = .string acc ∧ v10 = .int .i64 d ∧ v11 = .int .i64 i ∧ i ≤ K ∧ d ≤ s.size ∧ Hid (g = K + 1 - i) ∧ Hid (∃ e, R = acc ++ joinB (piecesB s xs d (L.drop i)) ⟨#[]⟩ ∧ Apart s.data.toList T d e (L.drop i)) ∧ Hid (Below w1.heap.size w1 wr))
  case atStart => exact ⟨0, 0, ⟨#[]⟩, rfl, rfl, rfl, by omega, by omega, rfl, ⟨-1, (by rw [H.out.2.2.2.2.2, ba_none]; rfl), H.out.2.2.2.1⟩, Below.refl _ _⟩
  case round =>
    obtain ⟨d, i, acc, rfl, rfl, rfl, hi, hdn, HK, HS, HB⟩ := hrel
    by_cases hlt : i < K
    · obtain ⟨⟨x, y⟩, hx⟩ : ∃ x, L[i]? = some x := ⟨L[i]'(by have := H.out.2.2.2.2.1; omega), List.getElem?_eq_getElem _⟩
      have hd : L.drop i = (x, y) :: L.drop (i + 1) := by
        have hil : i < L.length := by have := H.out.2.2.2.2.1; omega
        rw [List.getElem?_eq_getElem hil] at hx
        rw [List.drop_eq_getElem_cons hil, Option.some.inj hx]
      obtain ⟨e, hp, hap⟩ := HS.out
      obtain ⟨h1, h2, h3, h4, h5, h6, h7⟩ := apart_at _ _ _ hap _ _ hd
      dsimp only at h1 h2 h3 h4 h5 h6 h7
      rw [H.out.1] at h2 h5
      obtain ⟨g1, c1, e1⟩ := owned_slice H1.out.1 (by omega)
      cases e1
      have kk := owns_same H1.out.1 fun q hq => HB.out.block q (own_block_lt H1.out.1 hq)
      obtain ⟨a0, a1⟩ := span_cells kk hx
      dsimp only at a0 a1
      have hI : IntKind.i64.wrap ((i : Int) + 1) = ((i + 1 : Nat) : Int) := by rw [IntWalk.i64_in _ (by omega)]; omega
      obtain ⟨P, hP⟩ : ∃ P, P = joinB xs (s.extract x y) := ⟨_, rfl⟩
      obtain ⟨E, hE⟩ : ∃ E, E = s.extract d x := ⟨_, rfl⟩
      have hnew : R = (acc ++ E ++ P) ++ joinB (piecesB s xs y (L.drop (i + 1))) ⟨#[]⟩ := by
        rw [hp, hd]
        show acc ++ joinB (s.extract d x :: joinB xs (s.extract x y) :: piecesB s xs y (L.drop (i + 1))) ⟨#[]⟩ = _
        rw [catB_cons, catB_cons, ← hP, ← hE, ba_assoc, ba_assoc]
      have hz := congrArg ByteArray.size hnew
      rw [ByteArray.size_append, ByteArray.size_append, ByteArray.size_append] at hz
      have n1 : ¬ 9223372036854775807 < acc.size + E.size := by omega
      have n2 : ¬ 9223372036854775807 < acc.size + E.size + P.size := by omega
      have kP1 := kP x y wr (H.out.2.2.1.below (H1.out.2.trans (HB.out.mono H1.out.2.size)))
      rw [← hP] at kP1
      have kP2 := kP x y wr.drew ((H.out.2.2.1.below (H1.out.2.trans (HB.out.mono H1.out.2.size))).below (Below.refl _ wr).drew)
      rw [← hP] at kP2
      have HN := Lib.hid (And.intro hnew (And.intro h7 hE))
      have d0 : (0 : Int) ≤ (d : Int) := by omega
      have d1 : (d : Int) ≤ (x : Int) := by omega
      have d2 : (x : Int) ≤ (s.size : Int) := by omega
      have x0 : (0 : Int) ≤ (x : Int) := by omega
      have x1 : (x : Int) ≤ (y : Int) := by omega
      have x2 : (y : Int) ≤ (s.size : Int) := by omega
      have hy2 : y ≤ s.size := h5
      have hE2 := hE.symm
      clear hnew hz hp hd hx hap kk h1 h2 h3 h4 h5 h6 h7 hP hE
      go_wp2_with fail
      have SB : wr.drew.cell? ⟨g1, i * 2, none⟩ = some (.int .i64 (x : Int)) ∧ wr.drew.cell? ⟨g1, i * 2 + 1, none⟩ = some (.int .i64 (y : Int)) := ⟨a0, a1⟩
      go_region_held3 (fun W' => W'.cell? ⟨g1, i * 2, none⟩ = some (.int .i64 (x : Int)) ∧ W'.cell? ⟨g1, i * 2 + 1, none⟩ = some (.int .i64 (y : Int)))
        (first | with_reducible exact SB)
        (first | (go_at_call 45; refine kP2.mono ?_; rintro e w2 ⟨rfl, rfl⟩))
      all_goals
        go_wp2
        go_roundg (K - i)
        case rel =>
          refine ⟨y, i + 1, acc ++ E ++ P, rfl, rfl, by go_num, by omega, hy2, by show _ = _; omega, ⟨y, HN.out.1, HN.out.2.1⟩, HB.out.drew⟩
        case measure => have := HK.out; omega
    · have hd0 : decide ((i : Int) < (K : Int)) = false := by simp; omega
      obtain ⟨e, hp, hap⟩ := HS.out
      have hiK : L.drop i = [] := List.drop_eq_nil_of_le (by have := H.out.2.2.2.2.1; omega)
      rw [hiK] at hp
      have hp : R = acc ++ joinB [s.extract d s.size] ⟨#[]⟩ := hp
      rw [catB_cons, catB_nil, ba_nil] at hp
      have hz := congrArg ByteArray.size hp
      rw [ByteArray.size_append] at hz
      obtain ⟨E, hE⟩ : ∃ E, s.extract d s.size = E := ⟨_, rfl⟩
      rw [hE] at hz hp
      have n1 : ¬ 9223372036854775807 < acc.size + E.size := by omega
      have d0 : (0 : Int) ≤ (d : Int) := by omega
      have d2 : (d : Int) ≤ (s.size : Int) := by omega
      have HP := Lib.hid hp
      clear hz hp hap hiK hAll
      go_wp2
      refine bodyPost_ret (results_tmp2 rfl _ _ _) rfl ⟨by rw [HP.out]; rfl, H1.out.2.trans (HB.out.mono H1.out.2.size)⟩
end Go.Proofs.Ytgffmbdbjbhocaa
namespace Go.Proofs.Ytgffmbdbjbhocaa
open Go.RowKit Go.Lib
attribute [local go_sem] Oper.semAt_some

set_option maxHeartbeats 4000000 in
set_option maxRecDepth 100000 in
theorem refFirst_none (vt vl : Value) (s : ByteArray) (w : World) (hvt : ∃ ao N cap, vt = .slice ao N cap) (hvl : ∃ ao N cap, vl = .slice ao N cap)
    (k1 : ∀ w', w = w' → Calls Try.prog 30 #[vt, .string s] w' fun e w' => (∃ ao cap, e = .returned (.slice ao 0 cap)) ∧ Below w.heap.size w w') :
    Calls Try.prog 48 #[vt, .string s, vl] w fun e w' => e = .returned (.tuple #[.string s, .int .i64 0]) ∧ Below w.heap.size w w' := by
  obtain ⟨ao, N, cap, rfl⟩ := hvt
  obtain ⟨al, M, cl, rfl⟩ := hvl
  have k1 := k1 w rfl
  go_enter Try.func48, Try.ntmps48
  go_wp2_with (first
    | (go_at_call 30; refine k1.mono ?_; rintro e w1 ⟨⟨a1, c1, rfl⟩, hb1⟩)
    | fail)
  exact bodyPost_ret (results_tmp2 rfl _ _ _) rfl ⟨rfl, hb1⟩
set_option maxHeartbeats 4000000 in
set_option maxRecDepth 100000 in
theorem refFirst_some (vt : Value) (al : Option Addr) (M cl x y K : Nat) (xs : List ByteArray) (s F : ByteArray) (rest : List (Nat × Nat)) (w : World) (hvt : ∃ ao N cap, vt = .slice ao N cap) (_hs : s.size ≤ 1000000) (hxy : x ≤ y ∧ y ≤ s.size) (hK : 0 < K)
    (hx : Strs (.slice al M cl) xs w) (hBd : (joinB xs (s.extract x y)).size ≤ 140737488355328) (hF : F = joinB [s.extract 0 x, joinB xs (s.extract x y), s.extract y s.size] ⟨#[]⟩) (hAll : F.size ≤ 140737488355328)
    (k1 : ∀ w', w = w' → Calls Try.prog 30 #[vt, .string s] w' fun e w' => ∃ v', e = .returned v' ∧ w'.ownsRow w.heap.size 41 2 v' K (pairC ((x, y) :: rest)) ∧ Below w.heap.size w w') :
    Calls Try.prog 48 #[vt, .string s, .slice al M cl] w fun e w' => e = .returned (.tuple #[.string F, .int .i64 1]) ∧ Below w.heap.size w w' := by
  obtain ⟨ao, N, cap, rfl⟩ := hvt
  have k1 := k1 w rfl
  obtain ⟨P, hP⟩ : ∃ P, P = joinB xs (s.extract x y) := ⟨_, rfl⟩
  obtain ⟨E, hE⟩ : ∃ E, s.extract 0 x = E := ⟨_, rfl⟩
  obtain ⟨G, hG⟩ : ∃ G, s.extract y s.size = G := ⟨_, rfl⟩
  have kP := fun w h => refPut_any (.slice al M cl) xs (s.extract x y) w h hBd
  rw [← hP] at kP hF
  rw [hE, hG, catB_cons, catB_cons, catB_cons, catB_nil, ba_nil, ba_assoc] at hF
  have hz := congrArg ByteArray.size hF
  rw [ByteArray.size_append, ByteArray.size_append] at hz
  have n1 : ¬ 9223372036854775807 < E.size + P.size := by omega
  have n2 : ¬ 9223372036854775807 < E.size + P.size + G.size := by omega
  have HX := Lib.hid (And.intro hx hF)
  have x0 : (0 : Int) ≤ (x : Int) := by omega
  have x1 : (x : Int) ≤ (y : Int) := by omega
  have x2 : (y : Int) ≤ (s.size : Int) := by omega
  have x3 : (x : Int) ≤ (s.size : Int) := by omega
  have y0 : (0 : Int) ≤ (y : Int) := by omega
  have hK0 : ((K : Int) == 0) = false := by rw [beq_eq_false_iff_ne]; omega
  have hK1 : (0 : Int) < (K : Int) := by omega
  have hpx : (pairC ((x, y) :: rest))[0]? = some (.int .i64 (x : Int)) := rfl
  have hpy : (pairC ((x, y) :: rest))[1]? = some (.int .i64 (y : Int)) := rfl
  have HP := Lib.hid (And.intro hpx hpy)
  clear hx hBd hAll hF hP hxy hz hpx hpy
  go_enter Try.func48, Try.ntmps48
  go_wp2_with (first
    | (go_at_call 30; refine k1.mono ?_; rintro e w1 ⟨v1, rfl, ho1, hb1⟩
       obtain ⟨g1, c1, rfl⟩ := owned_slice ho1 (by omega)
       have a0 := owns_cell2 ho1 HP.out.1
       have a1 := owns_cell2 ho1 HP.out.2
       have HB1 := Lib.hid hb1
       clear hb1 k1 ho1)
    | fail)
  have kP1 := kP w1.drew (HX.out.1.below HB1.out.drew)
  clear a0 a1
  go_region_held3 (fun W => True)
    (first | trivial)
    (first | (go_at_call 45; refine kP1.mono ?_; rintro e w2 ⟨rfl, rfl⟩))
  all_goals
    go_wp2
    exact bodyPost_ret (results_tmp2 rfl _ _ _) rfl ⟨by rw [HX.out.2]; rfl, HB1.out.drew⟩
end Go.Proofs.Ytgffmbdbjbhocaa
namespace Go.Proofs.Ytgffmbdbjbhocaa
open Go.RowKit Go.Lib

def firstN (L : List (Nat × Nat)) : Nat := if L = [] then 0 else 1
theorem first_bd {s : ByteArray} {xs : List ByteArray} (hx : longN xs ≤ 200) (hs : s.size ≤ 30) (x y : Nat) : (joinB [s.extract 0 x, joinB xs (s.extract x y), s.extract y s.size] ⟨#[]⟩).size ≤ 1000000 := by
  rw [cat_size_cons, cat_size_cons, cat_size_cons]
  have h1 : (s.extract 0 x).size ≤ 30 := by rw [ByteArray.size_extract]; omega
  have h2 : (s.extract y s.size).size ≤ 30 := by rw [ByteArray.size_extract]; omega
  have h3 := join_bd hx hs x y
  have h4 : (joinB [] ⟨#[]⟩).size = 0 := rfl
  omega
/-- subst.First, of a right tree, a short text and a short replacement. -/
theorem first_few (ao : Option Addr) (cap : Nat) (T : Tr) (ts : List Nd) (s : ByteArray) (xs : List ByteArray) (hts : ts = T.row 0) (hok : T.ok) (hN : ts.length ≤ 60) (hs : s.size ≤ 30) (hx : longN xs ≤ 200) (al : Option Addr) (M cl : Nat) (w : World)
    (hL : Lies (.slice ao ts.length cap) ts w) (hxs : Strs (.slice al M cl) xs w) :
    Calls Try.prog 47 #[.slice ao ts.length cap, .string s, .slice al M cl] w fun e w' => e = .returned (.tuple #[.string (firstB s xs (spansL s.data.toList T 0)), .int .i64 (firstN (spansL s.data.toList T 0) : Int)]) ∧ Below w.heap.size w w' := by
  have hlen : s.data.toList.length = s.size := Array.length_toList
  have k := span_first (.slice ao ts.length cap) 0 T ts s w hts hok (by omega) (by omega) hL
  have k : Calls Try.prog 34 #[.slice ao ts.length cap, .string s, .int .i64 0] w fun e w' => e = .returned (spanV (spansL s.data.toList T 0)) ∧ Below w.heap.size w w' := k
  have hA := goL_apart s.data.toList T (2 * (s.data.toList.length + 1 - 0) + 2) 0 (-1)
  have hA : Apart s.data.toList T 0 (-1) (spansL s.data.toList T 0) := hA
  cases hS : spansL s.data.toList T 0 with
  | nil =>
    rw [hS] at k
    exact suFirst_none _ _ s w ⟨_, _, _, rfl⟩ ⟨_, _, _, rfl⟩ fun w' e => by subst e; exact k
  | cons p rest =>
    obtain ⟨x, y⟩ := p
    rw [hS] at k hA
    obtain ⟨_, h2, _, h4, h5, _⟩ := hA
    exact suFirst_some _ al M cl x y xs s _ w ⟨_, _, _, rfl⟩ (by omega) ⟨h4, by omega⟩ hxs (Nat.le_trans (join_bd hx hs x y) (by omega)) rfl (Nat.le_trans (first_bd hx hs x y) (by omega)) fun w' e => by subst e; exact k
theorem refFirst_few (ao : Option Addr) (cap : Nat) (T : Tr) (ts : List Nd) (s : ByteArray) (xs : List ByteArray) (hts : ts = T.row 0) (hok : T.ok) (hN : ts.length ≤ 60) (hs : s.size ≤ 30) (hx : longN xs ≤ 200) (al : Option Addr) (M cl : Nat) (w : World)
    (hL : Lies (.slice ao ts.length cap) ts w) (hxs : Strs (.slice al M cl) xs w) :
    Calls Try.prog 48 #[.slice ao ts.length cap, .string s, .slice al M cl] w fun e w' => e = .returned (.tuple #[.string (firstB s xs (spansL s.data.toList T 0)), .int .i64 (firstN (spansL s.data.toList T 0) : Int)]) ∧ Below w.heap.size w w' := by
  have hlen : s.data.toList.length = s.size := Array.length_toList
  have k := refSpans_any (.slice ao ts.length cap) T ts s w hts hok (by omega) (by omega) hL
  have hA := goL_apart s.data.toList T (2 * (s.data.toList.length + 1 - 0) + 2) 0 (-1)
  have hA : Apart s.data.toList T 0 (-1) (spansL s.data.toList T 0) := hA
  cases hS : spansL s.data.toList T 0 with
  | nil =>
    rw [hS] at k
    refine refFirst_none _ _ s w ⟨_, _, _, rfl⟩ ⟨_, _, _, rfl⟩ fun w' e => ?_
    subst e
    refine k.mono fun e w' h => ?_
    obtain ⟨v, rfl, h2, h3⟩ := h
    obtain ⟨a, c, hv⟩ := own_zeroB h2
    exact ⟨⟨a, c, by rw [hv]; rfl⟩, h3⟩
  | cons p rest =>
    obtain ⟨x, y⟩ := p
    rw [hS] at k hA
    obtain ⟨_, h2, _, h4, h5, _⟩ := hA
    exact refFirst_some _ al M cl x y _ xs s _ rest w ⟨_, _, _, rfl⟩ (by omega) ⟨h4, by omega⟩ (Nat.succ_pos _) hxs (Nat.le_trans (join_bd hx hs x y) (by omega)) rfl (Nat.le_trans (first_bd hx hs x y) (by omega)) fun w' e => by subst e; exact k
theorem refAll_few (ao : Option Addr) (cap : Nat) (T : Tr) (ts : List Nd) (s : ByteArray) (xs : List ByteArray) (hts : ts = T.row 0) (hok : T.ok) (hN : ts.length ≤ 60) (hs : s.size ≤ 30) (hx : longN xs ≤ 200) (al : Option Addr) (M cl : Nat) (w : World)
    (hL : Lies (.slice ao ts.length cap) ts w) (hxs : Strs (.slice al M cl) xs w) :
    Calls Try.prog 50 #[.slice ao ts.length cap, .string s, .slice al M cl] w fun e w' => e = .returned (.tuple #[.string (allB s xs (spansL s.data.toList T 0)), .int .i64 ((spansL s.data.toList T 0).length : Int)]) ∧ Below w.heap.size w w' := by
  have hlen : s.data.toList.length = s.size := Array.length_toList
  have h3 := spansL_few (s := s.data.toList) (T := T) (by omega)
  exact refAllS_walk _ al M cl _ ts T xs (spansL s.data.toList T 0) s w ⟨_, _, _, rfl⟩ (by omega) rfl (by omega) (goL_apart s.data.toList T _ 0 (-1)) hL hxs (fun a b => Nat.le_trans (join_bd hx hs a b) (by omega)) (Nat.le_trans (all_bd hx hs) (by omega))
    (fun w h => refSpans_any _ T ts s w hts hok (by omega) (by omega) h)
set_option maxHeartbeats 2000000 in
set_option maxRecDepth 20000 in
theorem tells_in (ao al : Option Addr) (N cap M cl n K : Nat) (s R1 R2 : ByteArray) (xs : List ByteArray) (w : World) (ts : List Nd) (hL : Lies (.slice ao N cap) ts w) (hX : Strs (.slice al M cl) xs w)
    (kf : ∀ w', Below w.heap.size w w' → Calls Try.prog 46 #[.slice ao N cap, .string s, .slice al M cl] w' fun e w'' => e = .returned (.bool true) ∧ Below w'.heap.size w' w'')
    (k1 : ∀ w, Lies (.slice ao N cap) ts w → Strs (.slice al M cl) xs w → Calls Try.prog 47 #[.slice ao N cap, .string s, .slice al M cl] w fun e w' => e = .returned (.tuple #[.string R1, .int .i64 (n : Int)]) ∧ Below w.heap.size w w')
    (k2 : ∀ w, Lies (.slice ao N cap) ts w → Strs (.slice al M cl) xs w → Calls Try.prog 48 #[.slice ao N cap, .string s, .slice al M cl] w fun e w' => e = .returned (.tuple #[.string R1, .int .i64 (n : Int)]) ∧ Below w.heap.size w w')
    (k3 : ∀ w, Lies (.slice ao N cap) ts w → Strs (.slice al M cl) xs w → Calls Try.prog 49 #[.slice ao N cap, .string s, .slice al M cl] w fun e w' => e = .returned (.tuple #[.string R2, .int .i64 (K : Int)]) ∧ Below w.heap.size w w')
    (k4 : ∀ w, Lies (.slice ao N cap) ts w → Strs (.slice al M cl) xs w → Calls Try.prog 50 #[.slice ao N cap, .string s, .slice al M cl] w fun e w' => e = .returned (.tuple #[.string R2, .int .i64 (K : Int)]) ∧ Below w.heap.size w w') :
    Calls Try.prog 10 #[.slice ao N cap, .string s, .slice al M cl] w fun e w' => e = .returned (.bool true) ∧ Below w.heap.size w w' := by
  have ks := fun w => shownS_any w
  have H := Lib.hid (And.intro hL hX)
  clear hL hX
  go_enter Try.func10, Try.ntmps10
  go_wp2_with (first
    | (go_at_call 37; refine (ks _).mono ?_; rintro e w1 ⟨rfl, hb1⟩; have H1 := Lib.hid hb1; clear hb1 ks)
    | (go_at_call 46; refine (kf _ H1.out).mono ?_; rintro e w2 ⟨rfl, hb2⟩; have H2 := Lib.hid (H1.out.trans (hb2.mono H1.out.size)); clear hb2 kf)
    | (go_at_call 47; refine (k1 _ (H.out.1.below H2.out) (H.out.2.below H2.out)).mono ?_; rintro e w3 ⟨rfl, hb3⟩; have H3 := Lib.hid (H2.out.trans (hb3.mono H2.out.size)); clear hb3 k1)
    | (go_at_call 48; refine (k2 _ (H.out.1.below H3.out) (H.out.2.below H3.out)).mono ?_; rintro e w4 ⟨rfl, hb4⟩; have H4 := Lib.hid (H3.out.trans (hb4.mono H3.out.size)); clear hb4 k2)
    | (go_at_call 49; refine (k3 _ (H.out.1.below H4.out) (H.out.2.below H4.out)).mono ?_; rintro e w5 ⟨rfl, hb5⟩; have H5 := Lib.hid (H4.out.trans (hb5.mono H4.out.size)); clear hb5 k3)
    | (go_at_call 50; refine (k4 _ (H.out.1.below H5.out) (H.out.2.below H5.out)).mono ?_; rintro e w6 ⟨rfl, hb6⟩; have H6 := Lib.hid (H5.out.trans (hb6.mono H5.out.size)); clear hb6 k4)
    | fail)
  exact bodyPost_ret (results_tmp rfl _ _ _) rfl ⟨by simp, H6.out⟩
set_option maxHeartbeats 1000000 in
set_option maxRecDepth 20000 in
theorem tells_out (ao al : Option Addr) (N cap M cl : Nat) (s : ByteArray) (w : World)
    (kf : ∀ w', Below w.heap.size w w' → Calls Try.prog 46 #[.slice ao N cap, .string s, .slice al M cl] w' fun e w'' => e = .returned (.bool false) ∧ Below w'.heap.size w' w'') :
    Calls Try.prog 10 #[.slice ao N cap, .string s, .slice al M cl] w fun e w' => e = .returned (.bool true) ∧ Below w.heap.size w w' := by
  have ks := fun w => shownS_any w
  go_enter Try.func10, Try.ntmps10
  go_wp2_with (first
    | (go_at_call 37; refine (ks _).mono ?_; rintro e w1 ⟨rfl, hb1⟩; have H1 := Lib.hid hb1; clear hb1 ks)
    | (go_at_call 46; refine (kf _ H1.out).mono ?_; rintro e w2 ⟨rfl, hb2⟩; have H2 := Lib.hid (H1.out.trans (hb2.mono H1.out.size)); clear hb2 kf)
    | fail)
  exact bodyPost_ret (results_tmp rfl _ _ _) rfl ⟨rfl, H2.out⟩
/-- The statement's function, where the replacement's bytes are not too many to be counted. -/
theorem substTells_walk (w : World) (ao : Option Addr) (cap : Nat) (ts : List Nd) (_h63 : ts.length ≤ 9223372036854775807) (hL : ts.length ≤ 140737488355328 → Lies (.slice ao ts.length cap) ts w) (s : ByteArray) (_hs : s.size ≤ 140737488351232) (al : Option Addr) (cl : Nat) (xs : List ByteArray) (hX : Strs (.slice al xs.length cl) xs w) (hx : longN xs ≤ 9223372036854775807) :
    Calls Try.prog 10 #[.slice ao ts.length cap, .string s, .slice al xs.length cl] w fun e w' => e = .returned (.bool true) ∧ Below w.heap.size w w' := by
  obtain ⟨q, hq, kf⟩ := few07_any ao cap ts s xs w hL hx
  cases q
  · exact tells_out ao al _ cap _ cl s w fun w' hb => kf al _ cl w' hb (hX.below hb)
  · obtain ⟨hN, hs, hx2, hL, T, hok, hts⟩ := hq rfl
    exact tells_in ao al _ cap _ cl _ _ s _ _ xs w ts hL hX (fun w' hb => kf al _ cl w' hb (hX.below hb)) (fun w h h2 => first_few ao cap T ts s xs hts hok hN hs hx2 al _ cl w h h2) (fun w h h2 => refFirst_few ao cap T ts s xs hts hok hN hs hx2 al _ cl w h h2)
      (fun w h h2 => all_few ao cap T ts s xs hts hok hN hs hx2 al _ cl w h h2) (fun w h h2 => refAll_few ao cap T ts s xs hts hok hN hs hx2 al _ cl w h h2)
end Go.Proofs.Ytgffmbdbjbhocaa
