/- Packed texts: DecRefReadAny, DecRefCalls, ValRef. What each of them proves stands above its theorems; the conditions stand in these. -/
import Derived.Test.YtbodnhpjfdnjfaaGreatDoorE8
import Derived.Test.YtbodnhpjfdnjfaaGreatDoorE9
import Derived.Test.YtbodnhpjfdnjfaaGreatDoorE11
import Derived.Test.YtbodnhpjfdnjfaaGreatDoorE18
import Derived.Test.YtbodnhpjfdnjfaaGreatDoorE20
namespace Go.Proofs.YtbodnhpjfdnjfaaGreatDoor
open Go.RowKit

theorem fig_range (c : UInt8) (h : isFig c = true) : 48 ≤ (c.toNat : Int) ∧ (c.toNat : Int) ≤ 57 := by
  unfold isFig at h
  rw [Bool.and_eq_true, decide_eq_true_eq, decide_eq_true_eq] at h
  exact h
theorem byteZ_of {s : ByteArray} {i m : Nat} {X : List UInt8} (hX : s.data.toList.drop i = X) (hm : m < X.length) : byteZ s (i + m) (X[m].toNat : Int) := by
  subst hX
  rw [List.length_drop] at hm
  have hl : s.data.toList.length = s.size := by rw [Array.length_toList]; rfl
  refine ⟨by omega, ?_⟩
  rw [List.getElem_drop]; rfl
theorem byteZ_inv {s : ByteArray} {i m : Nat} {X : List UInt8} {z : Int} (hX : s.data.toList.drop i = X) (h : byteZ s (i + m) z) : ∃ hm : m < X.length, z = (X[m].toNat : Int) := by
  subst hX
  obtain ⟨h1, h2⟩ := h
  have hl : s.data.toList.length = s.size := by rw [Array.length_toList]; rfl
  refine ⟨by rw [List.length_drop]; omega, ?_⟩
  rw [← h2, List.getElem_drop]; rfl
theorem byteZ_eq {s : ByteArray} {k : Nat} {z y : Int} (h : byteZ s k z) (h2 : byteZ s k y) : z = y := by
  obtain ⟨_, h⟩ := h
  obtain ⟨_, h2⟩ := h2
  rw [← h, ← h2]
theorem u8_beq (c k : UInt8) (h : c ≠ k) : (((c.toNat : Int)) == (k.toNat : Int)) = false :=
  beq_eq_false_iff_ne.2 (fun e => h (UInt8.toNat_inj.1 (by omega)))
theorem dropWhile_at (p : UInt8 → Bool) (l : List UInt8) : l.drop (l.takeWhile p).length = l.dropWhile p := by
  conv => lhs; arg 2; rw [← List.takeWhile_append_dropWhile (p := p) (l := l)]
  rw [List.drop_left']
  rfl
theorem takeWhile_all (p : UInt8 → Bool) (l : List UInt8) (k : Nat) (h : k < (l.takeWhile p).length) : ∃ h2 : k < l.length, p l[k] = true := by
  induction l generalizing k with
  | nil => simp at h
  | cons c r ih =>
    cases hc : p c with
    | false => rw [List.takeWhile_cons_of_neg (by rw [hc]; simp)] at h; simp at h
    | true =>
      rw [List.takeWhile_cons_of_pos hc] at h
      cases k with
      | zero => exact ⟨by simp, hc⟩
      | succ k =>
        obtain ⟨h2, h3⟩ := ih k (by simpa using h)
        exact ⟨by simpa using h2, by simpa using h3⟩
theorem blank_cases (c : UInt8) (h : [(32 : UInt8), 9].contains c = true) : c = 32 ∨ c = 9 := by
  simpa using h
theorem figs_get {X : List UInt8} {m : Nat} (h : m < (figs X).length) (h2 : m < X.length) : (figs X)[m] = X[m] := by
  have h5 : (figs X)[m]? = (X.take (figs X).length)[m]? := by rw [← figs_prefix X]
  rw [List.getElem?_take_of_lt h, List.getElem?_eq_getElem h, List.getElem?_eq_getElem h2] at h5
  exact Option.some.inj h5
theorem figs_facts {s : ByteArray} {i : Nat} {X : List UInt8} (hX : s.data.toList.drop i = X) :
    (∀ m, m < (figs X).length → ∃ zz : Int, ∃ h : i + m < s.size, (s[i + m].toNat : Int) = zz ∧ 48 ≤ zz ∧ zz ≤ 57 ∧ figAt s.data.toList (i + m) = true) ∧
    figAt s.data.toList (i + (figs X).length) = false ∧
    (∀ m, m < (figs X).length → ∀ (h2 : m < X.length) (zz : Int), byteZ s (i + m) zz → zz - 48 = (figV X[m] : Int)) := by
  have hfd : ∀ m, figAt s.data.toList (i + m) = figAt X m := fun m => by rw [figAt_drop, hX]
  refine ⟨fun m hm => ?_, ?_, fun m hm h2 zz hz => ?_⟩
  · obtain ⟨h2, h3, _⟩ := figs_in hm
    obtain ⟨hk, hz⟩ := byteZ_of hX h2
    have hr := fig_range _ h3
    exact ⟨_, hk, hz, hr.1, hr.2, by rw [hfd, figAt_in h2]; exact h3⟩
  · rw [hfd]; exact figAt_end X
  · obtain ⟨_, h3, _⟩ := figs_in hm
    have hr := fig_range _ h3
    obtain ⟨_, e⟩ := byteZ_inv hX hz
    rw [e]
    unfold figV
    omega
theorem natOf_noughts (A : List UInt8) : ∀ k : Nat, natOf (A ++ List.replicate k 48) = natOf A * 10 ^ k := by
  intro k
  induction k with
  | zero => simp
  | succ k ih =>
    rw [List.replicate_succ', ← List.append_assoc, natOf_snoc, ih]
    have : figV 48 = 0 := rfl
    rw [this, Nat.pow_succ]
    rw [Nat.add_zero, Nat.mul_comm 10, Nat.mul_assoc]
theorem fill6 (F : List UInt8) : (F ++ zeros6).take 6 = F.take (min 6 F.length) ++ List.replicate (6 - min 6 F.length) 48 := by
  have hz : zeros6 = List.replicate 6 48 := rfl
  rw [List.take_append, hz, List.take_replicate]
  by_cases h : F.length ≤ 6
  · rw [Nat.min_eq_right h, List.take_of_length_le h, List.take_length, show min (6 - F.length) 6 = 6 - F.length by omega]
  · rw [show min 6 F.length = 6 by omega, show 6 - F.length = 0 by omega]; rfl
theorem backP_into (b : Bool) (n : Nat) : backP b (n : Int) = numD b n := by
  unfold backP numD
  cases b
  · simp only [Bool.false_eq_true, if_false]
    by_cases h : n ≤ 9223372036854775807
    · rw [if_pos (by omega), if_pos h]
    · rw [if_neg (by omega), if_neg h]
  · by_cases h : n ≤ 9223372036854775808
    · rw [if_pos rfl, if_pos rfl, if_pos (by omega), if_pos h]
    · rw [if_pos rfl, if_pos rfl, if_neg (by omega), if_neg h]
theorem numD_far (b : Bool) (n : Nat) (h : 115792089237316195423570985008687907853269984665640564039457584007913129639936 ≤ n) : numD b n = (0, 3) := by
  unfold numD
  cases b
  · rw [if_neg (by simp), if_neg (by omega)]
  · rw [if_pos rfl, if_neg (by omega)]
theorem numD_zero (b : Bool) (n : Nat) (h : (numD b n).2 ≠ 0) : numD b n = (0, 3) := by
  unfold numD at *
  cases b
  · simp only [Bool.false_eq_true, if_false] at *
    by_cases h2 : n ≤ 9223372036854775807
    · rw [if_pos h2] at h; exact absurd rfl h
    · rw [if_neg h2]
  · simp only [if_true] at *
    by_cases h2 : n ≤ 9223372036854775808
    · rw [if_pos h2] at h; exact absurd rfl h
    · rw [if_neg h2]

theorem refRead_any (s : ByteArray) (w : World) (hs : s.size ≤ 30000000000000) :
    Calls Tryz.prog 100 #[.string s] w fun e w' => e = readE s.data.toList ∧ Below w.heap.size w w' := by
  have hl : s.data.toList.length = s.size := by rw [Array.length_toList]; rfl
  obtain ⟨kA, hkA⟩ : ∃ kA, kA = (s.data.toList.takeWhile ([(32 : UInt8), 9].contains ·)).length := ⟨_, rfl⟩
  have hA : s.data.toList.drop kA = atSign s.data.toList := by rw [hkA]; exact dropWhile_at _ _
  have hAl : (atSign s.data.toList).length = s.size - kA := by rw [← hA, List.length_drop, hl]
  have hkl : kA ≤ s.size := by
    have := (List.takeWhile_sublist ([(32 : UInt8), 9].contains ·) (l := s.data.toList)).length_le
    omega
  have hblank : ∀ k, k < kA → byteZ s k 32 ∨ byteZ s k 9 := by
    intro k hk
    rw [hkA] at hk
    obtain ⟨h2, h3⟩ := takeWhile_all _ _ k hk
    have hb := byteZ_of (s := s) (i := 0) (m := k) (X := s.data.toList) rfl h2
    rw [Nat.zero_add] at hb
    rcases blank_cases _ h3 with h | h
    · rw [h] at hb; exact .inl hb
    · rw [h] at hb; exact .inr hb
  have hfirst : ∀ z, byteZ s kA z → ∃ c r, atSign s.data.toList = c :: r ∧ z = (c.toNat : Int) ∧ [(32 : UInt8), 9].contains c = false := by
    intro z hz
    obtain ⟨hm, e⟩ := byteZ_inv (m := 0) hA hz
    have hd : atSign s.data.toList = s.data.toList.dropWhile ([(32 : UInt8), 9].contains ·) := rfl
    generalize hAA : atSign s.data.toList = AA at *
    cases AA with
    | nil => simp at hm
    | cons c r =>
      refine ⟨c, r, rfl, e, ?_⟩
      have := List.head?_dropWhile_not ([(32 : UInt8), 9].contains ·) s.data.toList
      rw [← hd] at this
      simpa using this
  obtain ⟨bs, hbs⟩ : ∃ bs, bs = (signL (atSign s.data.toList) == [45]) := ⟨_, rfl⟩
  obtain ⟨sg, hsg⟩ : ∃ sg, sg = !(signL (atSign s.data.toList)).isEmpty := ⟨_, rfl⟩
  obtain ⟨i0, hi0⟩ : ∃ i0, i0 = kA + (signL (atSign s.data.toList)).length := ⟨_, rfl⟩
  have hU : s.data.toList.drop i0 = unsign (atSign s.data.toList) := by
    unfold unsign
    rw [← hA, List.drop_drop, hA, hi0]
  have hS : (sg = false ∧ bs = false ∧ i0 = kA ∧ (∀ z, byteZ s kA z → ((z : Int) == 45) = false ∧ ((z : Int) == 43) = false)) ∨ (sg = true ∧ i0 = kA + 1 ∧ ((bs = true ∧ byteZ s kA 45) ∨ (bs = false ∧ byteZ s kA 43))) := by
    have hb0 : ∀ c r, atSign s.data.toList = c :: r → byteZ s kA (c.toNat : Int) := by
      intro c r h
      have := byteZ_of (s := s) (i := kA) (m := 0) (X := c :: r) (by rw [hA, h]) (by simp)
      simpa using this
    rw [hbs, hsg, hi0]
    cases hAA : atSign s.data.toList with
    | nil =>
      left
      refine ⟨rfl, rfl, rfl, fun z hz => ?_⟩
      obtain ⟨c, r, h, _⟩ := hfirst z hz
      rw [hAA] at h; cases h
    | cons c r =>
      have h0 := hb0 c r hAA
      cases hc : isSgn c with
      | false =>
        left
        have e : signL (c :: r) = [] := by show (if isSgn c then [c] else []) = []; rw [hc]; rfl
        rw [e]
        refine ⟨rfl, rfl, rfl, fun z hz => ?_⟩
        have := byteZ_eq hz h0
        subst this
        unfold isSgn at hc
        rw [Bool.or_eq_false_iff] at hc
        exact ⟨u8_beq c 45 (by intro e; rw [e] at hc; exact absurd hc.1 (by decide)), u8_beq c 43 (by intro e; rw [e] at hc; exact absurd hc.2 (by decide))⟩
      | true =>
        right
        have e : signL (c :: r) = [c] := by show (if isSgn c then [c] else []) = [c]; rw [hc]; rfl
        rw [e]
        refine ⟨rfl, rfl, ?_⟩
        unfold isSgn at hc
        rw [Bool.or_eq_true, beq_iff_eq, beq_iff_eq] at hc
        rcases hc with rfl | rfl
        · left; exact ⟨rfl, h0⟩
        · right; exact ⟨rfl, h0⟩
  have hW : wholeP s.data.toList = figs (unsign (atSign s.data.toList)) := rfl
  have hPt : pointP s.data.toList = pointL (rest1 (unsign (atSign s.data.toList))) := rfl
  have hNum : numP s.data.toList = numD (signL (atSign s.data.toList) == [45]) (natOf (wholeP s.data.toList ++ ((pointP s.data.toList).1 ++ zeros6).take 6)) := rfl
  have hUsed : usedP s.data.toList = (s.data.toList.length : Int) - ((pointP s.data.toList).2.length : Int) := rfl
  have hRead : readE s.data.toList = .returned (.tuple #[.int .i64 (readD s.data.toList).1, .int .i64 (readD s.data.toList).2.1, .int .i64 (readD s.data.toList).2.2]) := rfl
  have hReadD : readD s.data.toList = if wholeP s.data.toList ++ (pointP s.data.toList).1 = [] then (0, 0, 2) else if (numP s.data.toList).2 = 0 then ((numP s.data.toList).1, usedP s.data.toList, 0) else (0, 0, (numP s.data.toList).2) := rfl
  rw [← hbs] at hNum
  generalize unsign (atSign s.data.toList) = U at *
  obtain ⟨nf, hnf⟩ : ∃ nf, nf = (figs U).length := ⟨_, rfl⟩
  have hUl : U.length = s.size - i0 := by rw [← hU, List.length_drop, hl]
  have hi0l : i0 ≤ s.size := by
    rcases hS with ⟨_, _, e, _⟩ | ⟨_, e, ⟨_, h, _⟩ | ⟨_, h, _⟩⟩ <;> omega
  have hnfl : nf ≤ U.length := by rw [hnf]; exact figs_length_le U
  obtain ⟨jp, hjp⟩ : ∃ jp, jp = i0 + nf := ⟨_, rfl⟩
  obtain ⟨R, hR⟩ : ∃ R, R = rest1 U := ⟨_, rfl⟩
  have hRd : s.data.toList.drop jp = R := by rw [hR, hjp, ← List.drop_drop, hU, hnf]; rfl
  have hRl : R.length = s.size - jp := by rw [← hRd, List.length_drop, hl]
  obtain ⟨F, hF⟩ : ∃ F, F = (pointP s.data.toList).1 := ⟨_, rfl⟩
  rw [← hR] at hPt
  rw [← hF] at hNum hReadD
  rw [hW] at hNum hReadD
  have hRtail : s.data.toList.drop (jp + 1) = R.tail := by rw [← hRd, List.tail_drop]
  have hcase : (R.head? = some 46 ∧ F = figs R.tail ∧ (pointP s.data.toList).2 = rest1 R.tail) ∨ (R.head? ≠ some 46 ∧ F = [] ∧ (pointP s.data.toList).2 = R) := by
    rw [hF, hPt]
    unfold pointL
    by_cases h : R.head? = some 46
    · left; rw [if_pos h]; exact ⟨h, rfl, rfl⟩
    · right; rw [if_neg h]; exact ⟨h, rfl, rfl⟩
  have hFl : F.length ≤ R.tail.length := by
    rcases hcase with ⟨_, e, _⟩ | ⟨_, e, _⟩
    · rw [e]; exact figs_length_le _
    · rw [e]; exact Nat.zero_le _
  have hRt : R.tail.length = R.length - 1 := List.length_tail
  obtain ⟨pt, hpt⟩ : ∃ pt : Bool, pt = decide (R.head? = some 46 ∧ (0 < nf ∨ 0 < F.length)) := ⟨_, rfl⟩
  have hfg1 : R.head? = some 46 → (figAt s.data.toList (jp + 1) = true ↔ 0 < F.length) := by
    intro h
    have e1 : figAt s.data.toList (jp + 1) = figAt R.tail 0 := by
      have := figAt_drop s.data.toList (jp + 1) 0
      rw [hRtail] at this
      exact this
    have e2 : F = figs R.tail := by
      rcases hcase with ⟨_, e, _⟩ | ⟨h2, _⟩
      · exact e
      · exact absurd h h2
    rw [e1, e2]
    cases hT : R.tail with
    | nil => simp [figAt, figs]
    | cons c r =>
      unfold figAt figs
      cases hc : isFig c with
      | false => rw [List.takeWhile_cons_of_neg (by rw [hc]; simp)]; simp [hc]
      | true => rw [List.takeWhile_cons_of_pos hc]; simp [hc]
  have hptc : (pt = true ∧ R.head? = some 46 ∧ (0 < nf ∨ 0 < F.length)) ∨ (pt = false ∧ R.head? ≠ some 46 ∧ F.length = 0) ∨ (pt = false ∧ R.head? = some 46 ∧ nf = 0 ∧ F.length = 0) := by
    rw [hpt]
    by_cases h : R.head? = some 46
    · by_cases h2 : 0 < nf ∨ 0 < F.length
      · left; exact ⟨decide_eq_true ⟨h, h2⟩, h, h2⟩
      · right; right; exact ⟨decide_eq_false (fun x => h2 x.2), h, by omega, by omega⟩
    · right; left
      refine ⟨decide_eq_false (fun x => h x.1), h, ?_⟩
      rcases hcase with ⟨h2, _⟩ | ⟨_, e, _⟩
      · exact absurd h2 h
      · rw [e]; rfl
  clear hpt
  have hRne : R.head? = some 46 → 1 ≤ R.length := by
    intro h
    cases R with
    | nil => cases h
    | cons _ _ => simp
  have hbR : R.head? = some 46 → byteZ s jp 46 := by
    intro h
    cases R with
    | nil => cases h
    | cons c r =>
      have e : c = 46 := Option.some.inj h
      have := byteZ_of (m := 0) hRd (by simp)
      rw [e] at this
      simpa using this
  obtain ⟨fU1, fU2, fU3⟩ := figs_facts hU
  obtain ⟨fR1, fR2, fR3⟩ := figs_facts hRtail
  have hlen0 : nf + F.length = 0 → figs U ++ F = [] := by
    intro h
    have h1 : (figs U).length = 0 := by omega
    have h2 : F.length = 0 := by omega
    rw [List.eq_nil_of_length_eq_zero h1, List.eq_nil_of_length_eq_zero h2]; rfl
  have hlen1 : nf + F.length ≠ 0 → figs U ++ F ≠ [] := by
    intro h e
    have := congrArg List.length e
    rw [List.length_append] at this
    simp only [List.length_nil] at this
    omega
  have hFF : pt = true → F = figs R.tail := by
    intro h
    rcases hcase with ⟨_, e, _⟩ | ⟨h2, _⟩
    · exact e
    · rcases hptc with ⟨_, h3, _⟩ | ⟨h3, _⟩ | ⟨h3, _⟩
      · exact absurd h3 h2
      · rw [h] at h3; cases h3
      · rw [h] at h3; cases h3
  refine refRead_walk s w (by omega) kA i0 nf jp F.length (if pt then jp + 1 + F.length else jp) (nf + F.length) (min 6 F.length) (jp + 1) bs sg pt U F hkl (by omega) (fun k w => refFigure_any s k w (by omega))
    ?_ hjp (by omega) (by omega) ?_ ?_ ?_ ⟨rfl, rfl⟩ ?_ ?_ (Nat.min_le_left _ _) _ ?_ ?_ ?_ ?_ hnf ?_ hblank ?_ hS
  · intro m hm; exact fU1 m (by omega)
  · rcases hptc with ⟨e, h, h2⟩ | ⟨e, h, h2⟩ | ⟨e, h, h2, h3⟩
    · left
      refine ⟨e, hbR h, ?_⟩
      rcases h2 with h2 | h2
      · exact .inl h2
      · exact .inr ((hfg1 h).2 h2)
    · right
      refine ⟨e, .inl (fun z hz => ?_)⟩
      obtain ⟨hm, ez⟩ := byteZ_inv (m := 0) hRd hz
      cases R with
      | nil => simp at hm
      | cons c r =>
        rw [ez]
        exact u8_beq c 46 (fun e => h (by rw [e]; rfl))
    · right
      refine ⟨e, .inr ⟨hbR h, h2, ?_⟩⟩
      cases hh : figAt s.data.toList (jp + 1) with
      | false => rfl
      | true => have := (hfg1 h).1 hh; omega
  · intro m hm
    rcases hptc with ⟨e, h, h2⟩ | ⟨e, h, h2⟩ | ⟨e, h, h2, h3⟩
    · have := hFF e
      exact fR1 m (by rw [← this]; exact hm)
    · omega
    · omega
  · intro e
    rw [hFF e]; exact fR2
  · intro m hm h2 zz hz
    rcases hptc with ⟨e, h, h3⟩ | ⟨e, h, h3⟩ | ⟨e, h, h3, h4⟩
    · have e2 := hFF e
      subst e2
      obtain ⟨h5, _⟩ := figs_in hm
      rw [figs_get hm h5]
      exact fR3 m hm h5 zz hz
    · omega
    · omega
  · rcases hptc with ⟨e, h, h2⟩ | ⟨e, h, h2⟩ | ⟨e, h, h2, h3⟩
    · left
      have := hRne h
      exact ⟨e, by rw [e, if_pos rfl], rfl, rfl, by omega⟩
    · right; exact ⟨e, by rw [e]; rfl, by omega, by omega, h2⟩
    · right; exact ⟨e, by rw [e]; rfl, by omega, by omega, h3⟩
  · intro h
    rw [hRead, hReadD, if_pos (hlen0 h)]
  · intro V hV h
    obtain ⟨_, ⟨e, _⟩ | ⟨_, hbig⟩⟩ := hV
    · cases e
    · have e1 : U.take nf = figs U := by rw [hnf]; exact (figs_prefix U).symm
      rw [e1] at hbig
      have hN : numP s.data.toList = (0, 3) := by
        rw [hNum]
        refine numD_far _ _ ?_
        have := natOf_mono (figs U) ((F ++ zeros6).take 6)
        omega
      rw [hRead, hReadD, if_neg (hlen1 h), hN, if_neg (by simp)]
  · intro h V6 hV6
    have hN6 : natOf (figs U ++ (F ++ zeros6).take 6) = natOf (figs U ++ F.take (min 6 F.length)) * 10 ^ (6 - min 6 F.length) := by
      rw [fill6, ← List.append_assoc, natOf_noughts]
    have hV7 : V6 = ((natOf (figs U ++ (F ++ zeros6).take 6) : Nat) : Int) := by rw [hV6, hN6]; simp
    have hbp : backP bs V6 = numP s.data.toList := by rw [hV7, hNum, backP_into]
    rw [hbp, hRead, hReadD, if_neg (hlen1 h)]
    refine ⟨fun h0 => ?_, fun h0 => ?_⟩
    · rw [if_pos h0, hUsed]
      suffices hu : (s.data.toList.length : Int) - ((pointP s.data.toList).2.length : Int) = ((if pt = true then jp + 1 + F.length else jp : Nat) : Int) by rw [hu]
      rcases hptc with ⟨e, h1, h2⟩ | ⟨e, h1, h2⟩ | ⟨e, h1, h2, h3⟩
      · rw [e, if_pos rfl]
        have h5 : (pointP s.data.toList).2 = rest1 R.tail := by
          rcases hcase with ⟨_, _, e⟩ | ⟨h6, _⟩
          · exact e
          · exact absurd h1 h6
        have := hRne h1
        have e2 := hFF e
        rw [h5, rest1_length, ← e2]
        omega
      · have h5 : (pointP s.data.toList).2 = R := by
          rcases hcase with ⟨h6, _⟩ | ⟨_, _, e⟩
          · exact absurd h6 h1
          · exact e
        rw [e, h5]
        simp only [Bool.false_eq_true, if_false]
        omega
      · omega
    · rw [if_neg h0]
      have := numD_zero bs _ (by rw [hNum] at h0; exact h0)
      rw [hNum, this]
  · rw [hnf]; exact fU2
  · intro m hm; exact fU3 m (by omega)
  · intro z hz
    obtain ⟨c, r, _, e, h⟩ := hfirst z hz
    rw [e]
    refine ⟨u8_beq c 32 ?_, u8_beq c 9 ?_⟩
    · intro e; rw [e] at h; exact absurd h (by decide)
    · intro e; rw [e] at h; exact absurd h (by decide)
end Go.Proofs.YtbodnhpjfdnjfaaGreatDoor
namespace Go.Proofs.YtbodnhpjfdnjfaaGreatDoor
open Go.RowKit

theorem backP_into2 (b : Bool) (n : Nat) : backP b (n : Int) = into (sgn b n) := by rw [backP_into, numD_into]
/-- What 'back' answers at a number. -/
theorem backV (b : Bool) (v : Nat) (x : Int) (w : World) (h1 : (v : Int) < wide 12) (hx : sgn b v = x) :
    Calls Tryz.prog 101 #[big b (v : Int)] w fun e w' => e = .returned (.tuple #[.int .i64 (into x).1, .int .i64 (into x).2]) ∧ Below w.heap.size w w' := by
  have := back_pair b (v : Int) w (by omega) h1
  rw [backP_into2, hx] at this
  exact this
theorem divB (b b2 : Bool) (n m : Int) (w : World) (hn0 : 0 ≤ n) (hn1 : n < wide 12) (hm0 : 0 < m) (hm1 : m * 2 < wide 12) :
    Calls Tryz.prog 102 #[big b n, big b2 m] w fun e w' => e = .returned (big (b != b2) (n / m)) ∧ Below w.heap.size w w' :=
  div_walk b b2 (b != b2) n m w rfl hn0 hn1 hm0 hm1
theorem wide12 : (340282366920938463463374607431768211456 : Int) < wide 12 := by decide +kernel

theorem refTrunc_walk (a r er : Int) (A M Q : Value) (w : World)
    (k1 : ∀ w, Calls Tryz.prog 103 #[.int .i64 a] w fun e w' => e = .returned A ∧ Below w.heap.size w w')
    (k4 : ∀ w, Calls Tryz.prog 104 #[] w fun e w' => e = .returned M ∧ Below w.heap.size w w')
    (k5 : ∀ w, Calls Tryz.prog 102 #[A, M] w fun e w' => e = .returned Q ∧ Below w.heap.size w w')
    (k6 : ∀ w, Calls Tryz.prog 101 #[Q] w fun e w' => e = .returned (.tuple #[.int .i64 r, .int .i64 er]) ∧ Below w.heap.size w w') :
    Calls Tryz.prog 53 #[.int .i64 a] w fun e w' => e = .returned (.int .i64 r) ∧ Below w.heap.size w w' := by
  go_enter Tryz.func53, Tryz.ntmps53
  go_wp2_with (first
    | (go_at_call 103; refine (k1 _).mono ?_; rintro e w1 ⟨rfl, hb1⟩)
    | (go_at_call 104; refine (k4 _).mono ?_; rintro e w2 ⟨rfl, hb2⟩; have HB2 := below_at hb1 hb2 hb1.size)
    | (go_at_call 102; refine (k5 _).mono ?_; rintro e w3 ⟨rfl, hb3⟩; have HB3 := below_at HB2 hb3 HB2.size)
    | (go_at_call 101; refine (k6 _).mono ?_; rintro e w4 ⟨rfl, hb4⟩; have HB4 := below_at HB3 hb4 HB3.size))
  go_ret
  exact ⟨rfl, HB4⟩
theorem small_wide {v : Int} (h : v ≤ 340282366920938463463374607431768211456) : v < wide 12 := Int.lt_of_le_of_lt h wide12
theorem refTrunc_any (a : Int) (w : World) (ha : -9223372036854775808 ≤ a ∧ a ≤ 9223372036854775807) :
    Calls Tryz.prog 53 #[.int .i64 a] w fun e w' => e = .returned (.int .i64 (a.tdiv 1000000)) ∧ Below w.heap.size w w' := by
  have hq : (a.tdiv 1000000).natAbs = a.natAbs / 1000000 := Int.natAbs_tdiv a 1000000
  have hin : (into (a.tdiv 1000000)).1 = a.tdiv 1000000 := by unfold into; rw [if_pos (by omega)]
  rw [← hin]
  refine refTrunc_walk a _ (into (a.tdiv 1000000)).2 _ _ _ w (fun w => ofB a w ha.1 ha.2) (fun w => millionB w) (fun w => divB _ _ _ _ w (by omega) (small_wide (by omega)) (by omega) (small_wide (by omega))) (fun w => ?_)
  have hv : (a.natAbs : Int) / 1000000 = ((a.natAbs / 1000000 : Nat) : Int) := by omega
  rw [hv]
  refine backV _ _ _ w (small_wide (by omega)) ?_
  exact tdiv_abs a 1000000 _ (fun _ => rfl)
end Go.Proofs.YtbodnhpjfdnjfaaGreatDoor
namespace Go.Proofs.YtbodnhpjfdnjfaaGreatDoor
open Go.RowKit

theorem refNumber_walk (s : ByteArray) (n u er m f : Int) (w : World) (k1 : ∀ w, Calls Tryz.prog 100 #[.string s] w fun e w' => e = .returned (.tuple #[.int .i64 n, .int .i64 u, .int .i64 er]) ∧ Below w.heap.size w w')
    (h : er = 2 ∧ m = 0 ∧ f = 0 ∨ ((er : Int) == 2) = false ∧ m = n ∧ f = er) :
    Calls Tryz.prog 52 #[.string s] w fun e w' => e = .returned (.tuple #[.int .i64 m, .int .i64 f]) ∧ Below w.heap.size w w' := by
  rcases h with ⟨rfl, rfl, rfl⟩ | ⟨h1, rfl, rfl⟩
  all_goals
    go_enter Tryz.func52, Tryz.ntmps52
    go_wp2_with (go_at_call 100; refine (k1 _).mono ?_; rintro e w1 ⟨rfl, hb1⟩)
    go_ret2
    exact ⟨rfl, hb1⟩
theorem refNumber_any (s : ByteArray) (w : World) (hs : s.size ≤ 30000000000000) :
    Calls Tryz.prog 52 #[.string s] w fun e w' => e = numberE s.data.toList ∧ Below w.heap.size w w' := by
  refine refNumber_walk s _ _ _ _ _ w (fun w => refRead_any s w hs) ?_
  unfold numberD
  by_cases h : (readD s.data.toList).2.2 = 2
  · left; rw [if_pos h]; exact ⟨h, rfl, rfl⟩
  · right; rw [if_neg h]; exact ⟨beq_eq_false_iff_ne.2 h, rfl, rfl⟩
end Go.Proofs.YtbodnhpjfdnjfaaGreatDoor
