/- Packed texts: ReClass, ReBack. What each of them proves stands above its theorems; the conditions stand in these. -/
import Derived.Test.YtgceckejchdnlaaGreatDoorB14
import Derived.Test.YtgceckejchdnlaaGreatDoorB25
namespace Go.Proofs.YtgceckejchdnlaaGreatDoor
open Go.RowKit Go.Lib

theorem back_256 (c : UInt8) : c.toNat.toUInt8 = c := by simp
theorem told_digs : ∀ n : Fin 256, restOk n.val.toUInt8 = false → (n.val.toUInt8 == 32) = false → toldD (hexL [n.val.toUInt8]) = some ((n.val : Int), 4) := by decide +kernel
theorem rest_plains : ∀ n : Fin 256, restOk n.val.toUInt8 = true ∨ n.val.toUInt8 = 32 → (n.val.toUInt8 ≠ 92 ∧ ¬ (n.val.toUInt8 = 10 ∨ heldL.contains n.val.toUInt8 = true)) := by decide +kernel
theorem heads : ∀ n : Fin 256, (match plainL n.val.toUInt8 with | [] => false | h :: _ => !(strangeL.contains h) && h != 40 && h != 46 && h != 94 && h != 36 && h != 91) = true := by decide +kernel
theorem plain_head (c : UInt8) : ∃ h t, plainL c = h :: t ∧ strangeL.contains h = false ∧ h ≠ 40 ∧ h ≠ 46 ∧ h ≠ 94 ∧ h ≠ 36 ∧ h ≠ 91 ∧ h ≠ 45 ∧ h ≠ 93 := by
  have h := heads ⟨c.toNat, c.toNat_lt⟩
  dsimp only at h
  rw [back_256] at h
  cases hp : plainL c with
  | nil => rw [hp] at h; cases h
  | cons a t =>
    rw [hp] at h
    simp only [Bool.and_eq_true, bne_iff_ne, Bool.not_eq_true'] at h
    obtain ⟨⟨⟨⟨⟨h1, h2⟩, h3⟩, h4⟩, h5⟩, h6⟩ := h
    refine ⟨a, t, rfl, h1, h2, h3, h4, h5, h6, ?_, ?_⟩
    · rintro rfl; revert h1; decide
    · rintro rfl; revert h1; decide
theorem plain_sign (c : UInt8) (x : List UInt8) : signD (plainL c ++ x) = some ((c.toNat : Int), ((plainL c).length : Int)) := by
  have h1 := told_digs ⟨c.toNat, c.toNat_lt⟩
  have h2 := rest_plains ⟨c.toNat, c.toNat_lt⟩
  dsimp only at h1 h2
  rw [back_256] at h1 h2
  unfold plainL
  by_cases hc : c = 32 ∨ restOk c = true
  · rw [if_pos hc]
    obtain ⟨h3, h4⟩ := h2 (hc.symm)
    show signD (c :: x) = _
    simp only [signD, if_neg h3, if_neg h4]
    rfl
  · rw [if_neg hc]
    have hr : restOk c = false := by cases h : restOk c with
      | false => rfl
      | true => exact absurd (.inr h) hc
    have h32 : (c == 32) = false := by rw [beq_eq_false_iff_ne]; exact fun e => hc (.inl e)
    have h5 := h1 hr h32
    show signD (92 :: 120 :: (hexL [c] ++ x)) = _
    have hl : ∃ p q, hexL [c] = [p, q] := ⟨_, _, rfl⟩
    obtain ⟨p, q, hpq⟩ := hl
    have hlen : ((92 :: hexT [c]).length : Int) = 4 := by unfold hexT; rw [hpq]; rfl
    rw [hlen]
    rw [hpq] at h5 ⊢
    exact h5
/-- A byte's own text is read as the byte. -/
theorem plain_list (c : UInt8) (x : List UInt8) : listD (plainL c ++ x) = some (k4 (oneK c.toNat), (plainL c).length) := by
  obtain ⟨h, t, hp, _, _, _, _, _, h91, _⟩ := plain_head c
  have hr : readD (plainL c ++ x) = none := by
    unfold readD
    rw [hp]
    show (if (h :: (t ++ x)).head? = some 91 then _ else none) = none
    rw [if_neg (by simpa using h91)]
  unfold listD
  rw [hr, plain_sign]
  rfl

/- The runs of a class, and what reading them comes to. -/
def open_ (K : Cl) (m : Nat) : Prop := 1 ≤ m ∧ m < 256 ∧ has K (m - 1) = true ∧ has K m = true
structure RunI (K : Cl) (m : Nat) (a : UInt8) (rs : List (UInt8 × UInt8)) : Prop where
  ins : ∀ r ∈ rs, r.1.toNat ≤ r.2.toNat ∧ ∀ d, r.1.toNat ≤ d → d ≤ r.2.toNat → has K d = true
  opn : open_ K m → a.toNat ≤ m - 1 ∧ ∀ d, a.toNat ≤ d → d ≤ m - 1 → has K d = true
  all : ∀ d, d < m → has K d = true → (∃ r ∈ rs, r.1.toNat ≤ d ∧ d ≤ r.2.toNat) ∨ (open_ K m ∧ a.toNat ≤ d)
theorem nat_u8 {m : Nat} (h : m < 256) : m.toUInt8.toNat = m := by
  show m % 256 = m
  omega
theorem runs_inv (K : Cl) : ∀ m, m ≤ 256 → RunI K m (runsP K (uptoL K m)).1 (runsP K (uptoL K m)).2 := by
  intro m
  induction m with
  | zero => intro _; exact ⟨fun r h => (by cases h), fun h => (by have := h.1; omega), fun d h => (by omega)⟩
  | succ m ih =>
    intro hm
    have I := ih (by omega)
    rw [upto_succ]
    cases hk : has K m with
    | false =>
      rw [if_neg (by simp), List.append_nil]
      refine ⟨I.ins, fun h => ?_, fun d hd hh => ?_⟩
      · have := h.2.2.1
        rw [Nat.add_sub_cancel, hk] at this
        cases this
      · by_cases hdm : d = m
        · rw [hdm, hk] at hh; cases hh
        · rcases I.all d (by omega) hh with h | ⟨h, _⟩
          · exact .inl h
          · have := h.2.2.2; rw [hk] at this; cases this
    | true =>
      rw [if_pos rfl, runs_snoc]
      revert I
      generalize runsP K (uptoL K m) = P
      obtain ⟨a, rs⟩ := P
      intro I0
      have I : RunI K m a rs := I0
      clear I0
      have hmu : m.toUInt8.toNat = m := nat_u8 (by omega)
      -- where the run begins
      have hA : (headA K a m.toUInt8).toNat ≤ m ∧ (∀ d, (headA K a m.toUInt8).toNat ≤ d → d ≤ m → has K d = true) ∧ (open_ K m → headA K a m.toUInt8 = a) := by
        unfold headA
        by_cases h0 : m.toUInt8 = 0
        · have hm0 : m = 0 := by have := congrArg UInt8.toNat h0; rw [hmu] at this; exact this
          rw [if_pos h0]
          refine ⟨by omega, fun d h1 h2 => by rw [show d = m by omega]; exact hk, fun h => by have := h.1; omega⟩
        · have hm1 : 1 ≤ m := by
            by_cases h : m = 0
            · exact absurd (by rw [h]; rfl) h0
            · omega
          rw [if_neg h0, hmu]
          cases hp : has K (m - 1) with
          | false =>
            rw [if_neg (by simp)]
            refine ⟨by omega, fun d h1 h2 => by rw [show d = m by omega]; exact hk, fun h => by have := h.2.2.1; rw [hp] at this; cases this⟩
          | true =>
            rw [if_pos rfl]
            obtain ⟨o1, o2⟩ := I.opn ⟨hm1, by omega, hp, hk⟩
            refine ⟨by omega, fun d h1 h2 => ?_, fun _ => rfl⟩
            by_cases hdm : d = m
            · rw [hdm]; exact hk
            · exact o2 d h1 (by omega)
      obtain ⟨hA1, hA2, hA3⟩ := hA
      have hE : endsB K m.toUInt8 = true ∨ (endsB K m.toUInt8 = false ∧ m + 1 < 256 ∧ has K (m + 1) = true) := by
        unfold endsB
        by_cases h255 : m.toUInt8 = 255
        · rw [if_pos h255]; exact .inl rfl
        · rw [if_neg h255, hmu]
          have hm255 : m ≠ 255 := fun e => h255 (by rw [e]; rfl)
          cases hn : has K (m + 1) with
          | false => exact .inl rfl
          | true => exact .inr ⟨rfl, by omega, rfl⟩
      unfold runsStep
      dsimp only
      rcases hE with hE | ⟨hE, hlt, hn⟩
      · rw [hE, if_pos rfl]
        refine ⟨fun r hr => ?_, fun h => ⟨by omega, fun d h1 h2 => hA2 d h1 (by omega)⟩, fun d hd hh => ?_⟩
        · rw [List.mem_append, List.mem_singleton] at hr
          rcases hr with hr | rfl
          · exact I.ins r hr
          · exact ⟨by rw [hmu]; exact hA1, fun d h1 h2 => hA2 d h1 (by rw [hmu] at h2; exact h2)⟩
        · refine .inl ?_
          by_cases hdm : d = m
          · exact ⟨_, List.mem_append_right _ (List.mem_singleton.2 rfl), by dsimp only; omega, by dsimp only; rw [hmu]; omega⟩
          · rcases I.all d (by omega) hh with ⟨r, h1, h2⟩ | ⟨h1, h2⟩
            · exact ⟨r, List.mem_append_left _ h1, h2⟩
            · exact ⟨_, List.mem_append_right _ (List.mem_singleton.2 rfl), by dsimp only; rw [hA3 h1]; exact h2, by dsimp only; rw [hmu]; omega⟩
      · rw [hE, if_neg (by simp)]
        refine ⟨I.ins, fun h => ⟨by omega, fun d h1 h2 => hA2 d h1 (by omega)⟩, fun d hd hh => ?_⟩
        have hop : open_ K (m + 1) := ⟨by omega, hlt, by rw [Nat.add_sub_cancel]; exact hk, hn⟩
        by_cases hdm : d = m
        · exact .inr ⟨hop, by omega⟩
        · rcases I.all d (by omega) hh with h | ⟨h1, h2⟩
          · exact .inl h
          · exact .inr ⟨hop, by rw [hA3 h1]; exact h2⟩
theorem runs_all (K : Cl) : (∀ r ∈ runsL K, r.1.toNat ≤ r.2.toNat) ∧ ∀ d, d < 256 → (has K d = true ↔ ∃ r ∈ runsL K, r.1.toNat ≤ d ∧ d ≤ r.2.toNat) := by
  have I := runs_inv K 256 (Nat.le_refl _)
  refine ⟨fun r hr => (I.ins r hr).1, fun d hd => ⟨fun h => ?_, fun ⟨r, h1, h2, h3⟩ => (I.ins r h1).2 d h2 h3⟩⟩
  rcases I.all d hd h with h | ⟨h, _⟩
  · exact h
  · have := h.2.1; omega

/-- The union of runs, on top of a class. -/
def union (K : Cl) : List (UInt8 × UInt8) → Cl
  | [] => K
  | r :: rs => union (orK K (spanK r.1.toNat r.2.toNat)) rs
theorem has_union (rs : List (UInt8 × UInt8)) : ∀ (K : Cl) (d : Nat), has (union K rs) d = true ↔ has K d = true ∨ ∃ r ∈ rs, r.1.toNat ≤ d ∧ d ≤ r.2.toNat := by
  induction rs with
  | nil => intro K d; simp [union]
  | cons r rs ih =>
    intro K d
    show has (union (orK K (spanK r.1.toNat r.2.toNat)) rs) d = true ↔ _
    rw [ih, has_or, has_span]
    simp only [Bool.or_eq_true, Bool.and_eq_true, decide_eq_true_eq, List.mem_cons, exists_eq_or_imp]
    constructor
    · rintro ((h | h) | h)
      · exact .inl h
      · exact .inr (.inl h)
      · exact .inr (.inr h)
    · rintro (h | h | h)
      · exact .inl (.inl h)
      · exact .inl (.inr h)
      · exact .inr h
/-- A text that goes on with a byte's own text, or with the ]. -/
def Goes (l : List UInt8) : Prop := ∃ h t, l = h :: t ∧ h ≠ 45
theorem goes_runs (rs : List (UInt8 × UInt8)) (x : List UInt8) : Goes (rs.flatMap runT ++ 93 :: x) := by
  cases rs with
  | nil => exact ⟨93, x, rfl, by decide⟩
  | cons r rs =>
    obtain ⟨h, t, hp, _, _, _, _, _, _, h45, _⟩ := plain_head r.1
    exact ⟨h, _, by rw [List.flatMap_cons]; unfold runT; rw [hp]; rfl, h45⟩
theorem goes_head {l : List UInt8} (h : Goes l) : l.head? ≠ some 45 := by
  obtain ⟨c, t, rfl, hc⟩ := h
  simpa using hc
/-- One sign alone; two with - between. -/
theorem item_one (c : UInt8) (l : List UInt8) (h : Goes l) : itemD (plainL c ++ l) = some ((c.toNat : Int), (c.toNat : Int), (plainL c).length) := by
  unfold itemD
  rw [plain_sign]
  dsimp only
  rw [Int.toNat_natCast, List.drop_left, if_neg (goes_head h)]
theorem item_two (a b : UInt8) (l : List UInt8) (hab : a.toNat ≤ b.toNat) : itemD (plainL a ++ (45 :: (plainL b ++ l))) = some ((a.toNat : Int), (b.toNat : Int), (plainL a).length + 1 + (plainL b).length) := by
  unfold itemD
  rw [plain_sign]
  dsimp only
  have e : (plainL a ++ (45 :: (plainL b ++ l))).drop ((plainL a).length + 1) = plainL b ++ l := by
    rw [show plainL a ++ (45 :: (plainL b ++ l)) = (plainL a ++ [45]) ++ (plainL b ++ l) by simp, show (plainL a).length + 1 = (plainL a ++ [45]).length by simp, List.drop_left]
  rw [Int.toNat_natCast, List.drop_left, if_pos (by rfl), e, plain_sign]
  dsimp only
  rw [if_neg (by omega), Int.toNat_natCast]
/-- Reading runs' texts: the spans, one behind the other. -/
theorem listed_next {l r : List UInt8} {K : Cl} {pos n : Nat} {a b : Int} (h : itemD l = some (a, b, n)) (hr : l.drop n = r) (he : ¬ r.head? = some 93) : listedD l K pos = listedD r (orK K (spanK a.toNat b.toNat)) (pos + n) := by
  have := listed_more (K := K) (pos := pos) h (by rw [hr]; exact he)
  rwa [hr] at this
theorem listed_stop {l r : List UInt8} {K : Cl} {pos n : Nat} {a b : Int} (h : itemD l = some (a, b, n)) (hr : l.drop n = 93 :: r) : listedD l K pos = some (orK K (spanK a.toNat b.toNat), pos + n + 1) :=
  listed_end h (by rw [hr]; rfl)
/-- Two classes of the same bytes. -/
def SameB (K L : Cl) : Prop := ∀ d, d < 256 → has K d = has L d
theorem runs_listed (x : List UInt8) : ∀ (rs : List (UInt8 × UInt8)), rs ≠ [] → (∀ r ∈ rs, r.1.toNat ≤ r.2.toNat) → ∀ (K : Cl) (pos : Nat), ∃ K', listedD (rs.flatMap runT ++ 93 :: x) K pos = some (K', pos + (rs.flatMap runT).length + 1) ∧ SameB K' (union K rs) := by
  intro rs
  induction rs with
  | nil => intro h; exact absurd rfl h
  | cons r rs ih =>
    intro _ hle K pos
    obtain ⟨a, b⟩ := r
    have hab : a.toNat ≤ b.toNat := hle (a, b) (List.mem_cons_self)
    have hle' : ∀ r ∈ rs, r.1.toNat ≤ r.2.toNat := fun r hr => hle r (List.mem_cons_of_mem _ hr)
    have hG := goes_runs rs x
    obtain ⟨L, hL⟩ : ∃ L, L = rs.flatMap runT ++ 93 :: x := ⟨_, rfl⟩
    have e0 : ((a, b) :: rs).flatMap runT ++ 93 :: x = runT (a, b) ++ L := by rw [List.flatMap_cons, List.append_assoc, hL]
    have el : (((a, b) :: rs).flatMap runT).length = (runT (a, b)).length + (rs.flatMap runT).length := by rw [List.flatMap_cons, List.length_append]
    -- what the rest comes to, on any class with the run's bytes
    have rest : ∀ (K1 : Cl) (p : Nat), SameB K1 (orK K (spanK a.toNat b.toNat)) → (∀ l n (x y : Int), itemD l = some (x, y, n) → l.drop n = L → orK K (spanK a.toNat b.toNat) = orK K (spanK a.toNat b.toNat)) →
        (rs = [] ∧ L = 93 :: x) ∨ (L.head? ≠ some 93 ∧ ∃ K', listedD L K1 p = some (K', p + (rs.flatMap runT).length + 1) ∧ SameB K' (union K ((a, b) :: rs))) := fun K1 p hs _ => by
      cases rs with
      | nil => exact .inl ⟨rfl, hL⟩
      | cons r2 rs2 =>
        refine .inr ⟨?_, ?_⟩
        · obtain ⟨h, t, hp, _, _, _, _, _, _, _, h93⟩ := plain_head r2.1
          rw [hL, List.flatMap_cons]
          unfold runT
          rw [hp]
          simpa using h93
        · obtain ⟨K', h1, h2⟩ := ih (by simp) hle' K1 p
          rw [hL]
          refine ⟨K', h1, fun d hd => (h2 d hd).trans ?_⟩
          show has (union K1 _) d = has (union (orK K (spanK a.toNat b.toNat)) _) d
          rw [Bool.eq_iff_iff, has_union, has_union, hs d hd]
    have restT := fun K1 p hs => rest K1 p hs (fun _ _ _ _ _ _ => rfl)
    clear rest
    have ha := a.toNat_lt
    have hb := b.toNat_lt
    rw [e0, el]
    by_cases h1 : 1 < ((b.toNat : Int) - (a.toNat : Int)) % 256
    · have h2 : a.toNat < b.toNat := by omega
      have er : runT (a, b) ++ L = plainL a ++ (45 :: (plainL b ++ L)) := by rw [runT_pp h1 h2]; simp
      have eln : (runT (a, b)).length = (plainL a).length + 1 + (plainL b).length := by rw [runT_pp h1 h2]; simp; omega
      rw [er, eln]
      have hi := item_two a b L hab
      have hd : (plainL a ++ (45 :: (plainL b ++ L))).drop ((plainL a).length + 1 + (plainL b).length) = L := by
        rw [show plainL a ++ (45 :: (plainL b ++ L)) = (plainL a ++ [45] ++ plainL b) ++ L by simp, show (plainL a).length + 1 + (plainL b).length = (plainL a ++ [45] ++ plainL b).length by simp; omega, List.drop_left]
      rcases restT (orK K (spanK a.toNat b.toNat)) (pos + ((plainL a).length + 1 + (plainL b).length)) (fun _ _ => rfl) with ⟨hrs, hL2⟩ | ⟨hh, K', h3, h4⟩
      · rw [listed_stop hi (hd.trans hL2), hrs]
        exact ⟨_, rfl, fun d _ => rfl⟩
      · rw [listed_next hi hd hh]
        exact ⟨K', h3.trans (by congr 2; omega), h4⟩
    · by_cases h2 : a.toNat < b.toNat
      · have hba : b.toNat = a.toNat + 1 := by
          have e : ((b.toNat : Int) - (a.toNat : Int)) % 256 = (b.toNat : Int) - (a.toNat : Int) := Int.emod_eq_of_lt (by omega) (by omega)
          rw [e] at h1
          omega
        have er : runT (a, b) ++ L = plainL a ++ (plainL b ++ L) := by rw [runT_np h1 h2]; simp
        have eln : (runT (a, b)).length = (plainL a).length + (plainL b).length := by rw [runT_np h1 h2]; simp
        rw [er, eln]
        have hgb : Goes (plainL b ++ L) := by
          obtain ⟨h, t, hp, _, _, _, _, _, _, h45, _⟩ := plain_head b
          exact ⟨h, _, by rw [hp]; rfl, h45⟩
        have hi := item_one a (plainL b ++ L) hgb
        have hd : (plainL a ++ (plainL b ++ L)).drop (plainL a).length = plainL b ++ L := List.drop_left
        have hn : ¬ (plainL b ++ L).head? = some 93 := by
          obtain ⟨h, t, hp, _, _, _, _, _, _, _, h93⟩ := plain_head b
          rw [hp]
          simpa using h93
        rw [listed_next hi hd hn]
        have hj := item_one b L (by rw [hL]; exact hG)
        have hdj : (plainL b ++ L).drop (plainL b).length = L := List.drop_left
        have hsame : SameB (orK (orK K (spanK a.toNat a.toNat)) (spanK b.toNat b.toNat)) (orK K (spanK a.toNat b.toNat)) := fun d hd => by
          rw [has_or, has_or, has_or, has_span, has_span, has_span, Bool.eq_iff_iff]
          simp only [Bool.or_eq_true, Bool.and_eq_true, decide_eq_true_eq]
          by_cases hk : has K d = true
          · simp [hk]
          · simp only [hk, false_or, Bool.false_eq_true]
            omega
        rcases restT (orK (orK K (spanK a.toNat a.toNat)) (spanK b.toNat b.toNat)) (pos + (plainL a).length + (plainL b).length) hsame with ⟨hrs, hL2⟩ | ⟨hh, K', h3, h4⟩
        · rw [listed_stop hj (hdj.trans hL2), hrs]
          refine ⟨_, by rw [Int.toNat_natCast, Int.toNat_natCast]; congr 2; simp; omega, fun d hd => ?_⟩
          exact hsame d hd
        · rw [listed_next hj hdj hh]
          exact ⟨K', h3.trans (by congr 2; omega), h4⟩
      · have hEq : a = b := UInt8.toNat_inj.1 (by omega)
        subst hEq
        have er : runT (a, a) ++ L = plainL a ++ L := by rw [runT_nn h1 h2]; simp
        have eln : (runT (a, a)).length = (plainL a).length := by rw [runT_nn h1 h2]; simp
        rw [er, eln]
        have hi := item_one a L (by rw [hL]; exact hG)
        have hd : (plainL a ++ L).drop (plainL a).length = L := List.drop_left
        rcases restT (orK K (spanK a.toNat a.toNat)) (pos + (plainL a).length) (fun _ _ => rfl) with ⟨hrs, hL2⟩ | ⟨hh, K', h3, h4⟩
        · rw [listed_stop hi (hd.trans hL2), hrs]
          exact ⟨_, rfl, fun d _ => rfl⟩
        · rw [listed_next hi hd hh]
          exact ⟨K', h3.trans (by congr 2; omega), h4⟩
/-- A class's text is read as the class, whatever stands behind. -/
theorem text_read (K : Cl) (x : List UInt8) (hne : ∃ d, d < 256 ∧ has K d = true) : ∃ K', readD (textL K ++ x) = some (K', (textL K).length) ∧ SameB K' K := by
  obtain ⟨hle, hall⟩ := runs_all K
  have hrs : runsL K ≠ [] := fun e => by
    obtain ⟨d, hd, h⟩ := hne
    obtain ⟨r, hr, _⟩ := (hall d hd).1 h
    rw [e] at hr
    cases hr
  have et : textL K ++ x = 91 :: ((runsL K).flatMap runT ++ 93 :: x) := by unfold textL; simp
  have el : (textL K).length = 1 + ((runsL K).flatMap runT).length + 1 := by unfold textL; simp; omega
  rw [et, el]
  obtain ⟨K', h1, h2⟩ := runs_listed x (runsL K) hrs hle zeroK 1
  refine ⟨K', ?_, fun d hd => (h2 d hd).trans ?_⟩
  · have e91 : (91 :: ((runsL K).flatMap runT ++ 93 :: x)).head? = some 91 := rfl
    have e94 : ¬ (91 :: ((runsL K).flatMap runT ++ 93 :: x))[1]? = some 94 := by
      cases hr : runsL K with
      | nil => exact absurd hr hrs
      | cons r rs =>
        obtain ⟨h, t, hp, _, _, _, h94, _⟩ := plain_head r.1
        rw [List.flatMap_cons]
        unfold runT
        rw [hp]
        simpa using h94
    unfold readD
    rw [if_pos e91, if_neg e94]
    exact h1
  · rw [Bool.eq_iff_iff, has_union, hall d hd]
    simp [has, zeroK]
end Go.Proofs.YtgceckejchdnlaaGreatDoor
namespace Go.Proofs.YtgceckejchdnlaaGreatDoor
open Go.RowKit Go.Lib

theorem cnt_filter (K : Cl) : cntK K = ((List.range 256).filter (has K)).length := by unfold cntK; rw [List.countP_eq_length_filter]
theorem cnt_some {K : Cl} (h : cntK K ≠ 0) : ∃ d, d < 256 ∧ has K d = true := by
  rw [cnt_filter] at h
  cases hf : (List.range 256).filter (has K) with
  | nil => rw [hf] at h; exact absurd rfl h
  | cons d F =>
    have hm : d ∈ (List.range 256).filter (has K) := by rw [hf]; exact List.mem_cons_self
    rw [List.mem_filter, List.mem_range] at hm
    exact ⟨d, hm⟩
theorem cnt_none {K : Cl} (h : cntK K = 0) : ∀ d, d < 256 → has K d = false := fun d hd => by
  rw [cnt_filter] at h
  have hf := List.eq_nil_of_length_eq_zero h
  cases hk : has K d with
  | false => rfl
  | true =>
    have hm : d ∈ (List.range 256).filter (has K) := List.mem_filter.2 ⟨List.mem_range.2 hd, hk⟩
    rw [hf] at hm
    cases hm
theorem cnt_one {K : Cl} (h : cntK K = 1) : ∃ c : UInt8, uptoL K 256 = [c] ∧ ∀ d, d < 256 → has K d = decide (d = c.toNat) := by
  rw [cnt_filter] at h
  cases hf : (List.range 256).filter (has K) with
  | nil => rw [hf] at h; cases h
  | cons c F =>
    cases F with
    | cons _ _ => rw [hf] at h; simp at h
    | nil =>
      have hm : c ∈ (List.range 256).filter (has K) := by rw [hf]; exact List.mem_cons_self
      rw [List.mem_filter, List.mem_range] at hm
      refine ⟨c.toUInt8, by unfold uptoL; rw [hf]; rfl, fun d hd => ?_⟩
      rw [nat_u8 hm.1, Bool.eq_iff_iff, decide_eq_true_eq]
      constructor
      · intro hk
        have hm2 : d ∈ (List.range 256).filter (has K) := List.mem_filter.2 ⟨List.mem_range.2 hd, hk⟩
        rw [hf, List.mem_singleton] at hm2
        exact hm2
      · intro e; rw [e]; exact hm.2
theorem text_single {K : Cl} {c : UInt8} (h : uptoL K 256 = [c]) (hk : ∀ d, d < 256 → has K d = decide (d = c.toNat)) : textL K = 91 :: (plainL c ++ [93]) := by
  have hc := c.toNat_lt
  have hr : runsL K = [(c, c)] := by
    unfold runsL runsP
    rw [h]
    show (runsStep K (0, []) c).2 = _
    have hA : headA K 0 c = c := by
      unfold headA
      by_cases h0 : c = 0
      · rw [if_pos h0]
      · rw [if_neg h0]
        have h1 : 1 ≤ c.toNat := by
          by_cases hz : c.toNat = 0
          · exact absurd (UInt8.toNat_inj.1 hz) h0
          · omega
        rw [hk _ (by omega), if_neg (by simp; omega)]
    have hE : endsB K c = true := by
      unfold endsB
      by_cases h255 : c = 255
      · rw [if_pos h255]
      · rw [if_neg h255]
        have h1 : c.toNat ≠ 255 := fun e => h255 (UInt8.toNat_inj.1 e)
        rw [hk _ (by omega)]
        simp
    unfold runsStep
    dsimp only
    rw [hE, if_pos rfl, hA]
    rfl
  unfold textL
  rw [hr]
  have e : runT (c, c) = plainL c := by
    rw [runT_nn (by omega) (by omega)]
    simp
  show 91 :: (([(c, c)] : List (UInt8 × UInt8)).flatMap runT ++ [93]) = _
  rw [List.flatMap_cons, e]
  simp
theorem told_one (c : UInt8) : toldK (k4 (oneK c.toNat)) = plainL c := by
  have hc := c.toNat_lt
  have hk : ∀ d, d < 256 → has (k4 (oneK c.toNat)).cl d = decide (d = c.toNat) := fun d hd => by rw [has_k4 _ hd, has_one]
  have h1 : cntK (k4 (oneK c.toNat)).cl = 1 := by
    have h := cnt_span c.toNat c.toNat hc
    have e : cntK (k4 (oneK c.toNat)).cl = cntK (oneK c.toNat) := by
      unfold cntK
      exact countP_cong fun d hd => has_k4 _ (List.mem_range.1 hd)
    rw [e]
    unfold oneK
    rw [h]
    omega
  have hp : k4 (oneK c.toNat) ≠ kPoint := fun e => by
    have ha : cntK (k4 (oneK c.toNat)).cl = cntK kPoint.cl := congrArg (fun k => cntK k.cl) e
    rw [h1] at ha
    have : cntK kPoint.cl = 255 := by decide +kernel
    omega
  have h0 : k4 (oneK c.toNat) ≠ k0 := fun e => by
    have ha : cntK (k4 (oneK c.toNat)).cl = cntK k0.cl := congrArg (fun k => cntK k.cl) e
    rw [h1] at ha
    have : cntK k0.cl = 0 := by decide +kernel
    omega
  obtain ⟨c', hu, hk'⟩ := cnt_one h1
  have hcc : c' = c := by
    have h2 := hk c.toNat hc
    rw [hk' c.toNat hc] at h2
    have h3 : c.toNat = c'.toNat := by simpa using h2
    exact UInt8.toNat_inj.1 h3.symm
  subst hcc
  unfold toldK
  rw [if_neg hp, if_neg h0, if_pos h1, text_single hu hk']
  simp
/-- A class's text in a regular expression is read as the class. -/
theorem nothing_read (x : List UInt8) : listD ([91, 94, 92, 120, 48, 48, 45, 92, 120, 102, 102, 93] ++ x) = some (k0, 12) := by
  have hi : itemD ([92, 120, 48, 48, 45, 92, 120, 102, 102, 93] ++ x) = some (0, 255, 9) := rfl
  have hd : ([92, 120, 48, 48, 45, 92, 120, 102, 102, 93] ++ x).drop 9 = 93 :: x := rfl
  have hl := listed_stop (K := zeroK) (pos := 2) hi hd
  have e91 : ([91, 94, 92, 120, 48, 48, 45, 92, 120, 102, 102, 93] ++ x).head? = some 91 := rfl
  have e94 : ([91, 94, 92, 120, 48, 48, 45, 92, 120, 102, 102, 93] ++ x)[1]? = some 94 := rfl
  have ed : ([91, 94, 92, 120, 48, 48, 45, 92, 120, 102, 102, 93] ++ x).drop 2 = [92, 120, 48, 48, 45, 92, 120, 102, 102, 93] ++ x := rfl
  have hr : readD ([91, 94, 92, 120, 48, 48, 45, 92, 120, 102, 102, 93] ++ x) = some (notK (orK (orK zeroK (spanK (0 : Int).toNat (255 : Int).toNat)) (oneK 10)), 12) := by
    unfold readD
    rw [if_pos e91, if_pos e94, ed, hl]
    rfl
  have e : k4 (notK (orK (orK zeroK (spanK (0 : Int).toNat (255 : Int).toNat)) (oneK 10))) = k4 k0.cl := k4_ext fun d hd => by
    rw [has_not, has_or, has_or, has_span]
    have : (decide ((0 : Int).toNat ≤ d) && decide (d ≤ (255 : Int).toNat)) = true := by simp; omega
    rw [this]
    have hz : has k0.cl d = false := cnt_none (by decide +kernel) d hd
    rw [hz]
    simp
  have e2 := e.trans (k4_cl k0)
  unfold listD
  rw [hr]
  show some (k4 _, 12) = some (k0, 12)
  rw [e2]
theorem told_atom (k : K4) (d n : Nat) (x : List UInt8) (hn : n < 2000) : Ev .atom d n (toldK k ++ x) (.ok (.set k) x) ∧ ∃ h t, toldK k = h :: t ∧ strangeL.contains h = false := by
  have lst : ∀ (m : Nat) (l : List UInt8) (h : UInt8) (t : List UInt8), toldK k = l → l = h :: t → h ≠ 40 → h ≠ 46 → h ≠ 94 → h ≠ 36 → m = l.length → listD (l ++ x) = some (k, m) → Ev .atom d n (toldK k ++ x) (.ok (.set k) x) := fun m l h t h0 h1 h40 h46 h94 h36 hm hD => by
    rw [h0]
    have e : x = (l ++ x).drop m := by rw [hm, List.drop_left]
    have hev := Ev.atom_set (d := d) (n := n) (l := l ++ x) (k := k) (m := m) (by rw [h1]; simpa using h40) (by rw [h1]; show leafK h = none; unfold leafK; rw [if_neg h46, if_neg h94, if_neg h36]) hD hn
    rwa [← e] at hev
  by_cases h1 : k = kPoint
  · have e : toldK k = [46] := by unfold toldK; rw [if_pos h1]
    refine ⟨?_, 46, [], e, by decide⟩
    rw [e]
    have hev := Ev.atom_leaf (d := d) (n := n) (c := 46) (l := x) (t := .set kPoint) rfl hn
    rwa [← h1] at hev
  · by_cases h2 : k = k0
    · have e : toldK k = [91, 94, 92, 120, 48, 48, 45, 92, 120, 102, 102, 93] := by unfold toldK; rw [if_neg h1, if_pos h2]
      refine ⟨lst 12 _ 91 _ e rfl (by decide) (by decide) (by decide) (by decide) rfl (by rw [nothing_read, h2]), 91, _, e, by decide⟩
    · by_cases h3 : cntK k.cl = 1
      · obtain ⟨c, hu, hk⟩ := cnt_one h3
        have ek : k = k4 (oneK c.toNat) := by
          have : k4 k.cl = k4 (oneK c.toNat) := k4_ext fun d hd => by rw [hk d hd, has_one]
          rwa [k4_cl] at this
        have e : toldK k = plainL c := by rw [ek]; exact told_one c
        obtain ⟨h, t, hp, hs, h40, h46, h94, h36, _⟩ := plain_head c
        refine ⟨lst _ _ h t e hp h40 h46 h94 h36 rfl (by rw [plain_list, ← ek]), h, t, e.trans hp, hs⟩
      · have e : toldK k = textL k.cl := by unfold toldK; rw [if_neg h1, if_neg h2, if_neg h3]
        have hne : cntK k.cl ≠ 0 := fun h => h2 (by
          have hz := cnt_none h
          have : k4 k.cl = k4 k0.cl := k4_ext fun d hd => by
            have hz0 : has k0.cl d = false := cnt_none (by decide +kernel) d hd
            rw [hz d hd, hz0]
          rwa [k4_cl, k4_cl] at this)
        obtain ⟨K', hr, hs⟩ := text_read k.cl x (cnt_some hne)
        have hD : listD (textL k.cl ++ x) = some (k, (textL k.cl).length) := by
          unfold listD
          rw [hr]
          show some (k4 K', _) = _
          rw [k4_ext hs, k4_cl]
        exact ⟨lst _ _ 91 _ e rfl (by decide) (by decide) (by decide) (by decide) rfl hD, 91, _, e.trans rfl, by decide⟩

/-- A text's first byte is none with which no atom begins. -/
def Beg (l : List UInt8) : Prop := ∃ h t, l = h :: t ∧ strangeL.contains h = false
theorem Beg.app {l : List UInt8} (h : Beg l) (x : List UInt8) : Beg (l ++ x) := by
  obtain ⟨c, t, rfl, hc⟩ := h
  exact ⟨c, t ++ x, rfl, hc⟩
theorem Beg.brk {l : List UInt8} (h : Beg l) (c : Bool) : Beg (brk c l) := by
  unfold Go.Proofs.YtgceckejchdnlaaGreatDoor.brk
  cases c
  · exact h
  · exact ⟨40, _, rfl, by decide⟩
theorem Beg.begins {l : List UInt8} (h : Beg l) : begins l = true := by
  obtain ⟨c, t, rfl, hc⟩ := h
  show (!strangeL.contains c) = true
  rw [hc]; rfl
theorem Beg.sign {l : List UInt8} (h : Beg l) : signH l = none := by
  obtain ⟨c, t, rfl, hc⟩ := h
  show signK c = none
  unfold signK
  rw [if_neg (fun e => by rw [e] at hc; revert hc; decide), if_neg (fun e => by rw [e] at hc; revert hc; decide), if_neg (fun e => by rw [e] at hc; revert hc; decide)]
theorem txt_beg : ∀ t : Tr, Beg t.txt
  | .leaf j => by
    show Beg (leafL j)
    unfold leafL
    split
    · exact ⟨94, [], rfl, by decide⟩
    · split
      · exact ⟨36, [], rfl, by decide⟩
      · exact ⟨40, [41], rfl, by decide⟩
  | .set k => (told_atom k 0 0 [] (by omega)).2
  | .rep j a => ((txt_beg a).brk _).app _
  | .two j a b => by
    show Beg (if j = 2 then _ else _)
    split
    · exact ((txt_beg a).brk _).app _
    · exact (txt_beg a).app _

/-- A job comes to r, or the text is too deep. -/
def Bk (J : Job) (d n : Nat) (l : List UInt8) (r : Res) : Prop := Ev J d n l r ∨ Ev J d n l (.bad 7)
/-- Nothing goes on behind. -/
def Stop (x : List UInt8) : Prop := begins x = false ∧ signH x = none
def BAll (t : Tr) : Prop := ∀ d n x r, d ≤ 30 → Stop x → n + t.size ≤ 2000 → Ev (.allL t) d n x r → Bk .all d n (t.txt ++ x) r
def BCat (t : Tr) (l : List UInt8) : Prop := ∀ d n x r, d ≤ 30 → signH x = none → n + t.size ≤ 2000 → Ev (.catL t) d n x r → Bk .cat d n (l ++ x) r
def BPiece (t : Tr) (l : List UInt8) : Prop := ∀ d n x r, d ≤ 30 → n + t.size ≤ 2000 → Ev (.pieceL t) d n x r → Bk .piece d n (l ++ x) r

theorem piece_cat {t : Tr} {l : List UInt8} (hb : Beg l) (h : BPiece t l) : BCat t l := fun d n x r hd hx hn hev => by
  rcases h d n x (.ok t x) hd hn (.pieceL_end hx) with h | h
  · exact .inl (.cat_ok (hb.app x).begins h hev)
  · exact .inr (.cat_bad (hb.app x).begins h)
theorem cat_all {t : Tr} (h : BCat t t.txt) : BAll t := fun d n x r hd hx hn hev => by
  rcases h d n x (.ok t x) hd hx.2 hn (.catL_end hx.1) with h | h
  · exact .inl (.all_ok h hev)
  · exact .inr (.all_bad h)
theorem stop41 (x : List UInt8) : Stop (41 :: x) := ⟨rfl, rfl⟩
theorem brk_piece {t : Tr} (h : BAll t) : BPiece t (brk true t.txt) := fun d n x r hd hn hev => by
  have e : brk true t.txt ++ x = 40 :: (t.txt ++ (41 :: x)) := by unfold brk; simp
  rw [e]
  by_cases h30 : d = 30
  · exact .inr (.piece_bad (.atom_deep h30))
  · rcases h (d + 1) n (41 :: x) (.ok t (41 :: x)) (by omega) (stop41 x) hn (.allL_end (by simp)) with h | h
    · exact .inl (.piece_ok (.atom_ok (by omega) h) hev)
    · exact .inr (.piece_bad (.atom_in (by omega) h))
/-- A kid's text. -/
theorem kid_piece {t : Tr} {c : Bool} (h1 : BAll t) (h2 : c = false → BPiece t t.txt) : BPiece t (brk c t.txt) := by
  cases c with
  | true => exact brk_piece h1
  | false => exact h2 rfl
theorem kid_cat {t : Tr} {c : Bool} (h1 : BAll t) (h2 : c = false → BCat t t.txt) : BCat t (brk c t.txt) := by
  cases c with
  | true => exact piece_cat ((txt_beg t).brk true) (brk_piece h1)
  | false => exact h2 rfl
theorem sign_back (j : Nat) (h : j = 4 ∨ j = 5 ∨ j = 6) : signK (signL j) = some j := by rcases h with rfl | rfl | rfl <;> rfl
theorem or32 {k : Nat} (h : (k == 3 || k == 2) = false) : k ≠ 3 ∧ k ≠ 2 := by simpa using h
theorem eq3 {k : Nat} (h : (k == 3) = false) : k ≠ 3 := by simpa using h
theorem back_all : ∀ t : Tr, t.ok → BAll t ∧ (t.kind ≠ 3 → BCat t t.txt) ∧ (t.kind ≠ 3 → t.kind ≠ 2 → BPiece t t.txt)
  | .leaf j, hok => by
    have hp : BPiece (.leaf j) (Tr.leaf j).txt := fun d n x r hd hn hev => by
      have hn : n + 1 ≤ 2000 := hn
      rcases hok with rfl | rfl | rfl
      · show Bk .piece d n (40 :: 41 :: x) r
        by_cases h30 : d = 30
        · exact .inr (.piece_bad (.atom_deep h30))
        · exact .inl (.piece_ok (.atom_ok (by omega) (.all_ok (.cat_none rfl (by omega)) (.allL_end (by simp)))) hev)
      · exact .inl (.piece_ok (.atom_leaf rfl (by omega)) hev)
      · exact .inl (.piece_ok (.atom_leaf rfl (by omega)) hev)
    have hc := piece_cat (txt_beg _) hp
    exact ⟨cat_all hc, fun _ => hc, fun _ _ => hp⟩
  | .set k, _ => by
    have hp : BPiece (.set k) (Tr.set k).txt := fun d n x r hd hn hev => by
      have hn : n + 1 ≤ 2000 := hn
      exact .inl (.piece_ok (told_atom k d n x (by omega)).1 hev)
    have hc := piece_cat (txt_beg _) hp
    exact ⟨cat_all hc, fun _ => hc, fun _ _ => hp⟩
  | .rep j a, hok => by
    obtain ⟨ha1, ha2, ha3⟩ := back_all a hok.2
    have hp : BPiece (.rep j a) (Tr.rep j a).txt := fun d n x r hd hn hev => by
      have hn : n + (a.size + 1) ≤ 2000 := hn
      have hk := kid_piece (t := a) (c := a.kind == 3 || a.kind == 2) ha1 (fun h => ha3 (or32 h).1 (or32 h).2)
      have h := hk d n (signL j :: x) r hd (by omega) (.pieceL_more (sign_back j hok.1) (by omega) hev)
      show Bk .piece d n ((brk (a.kind == 3 || a.kind == 2) a.txt ++ [signL j]) ++ x) r
      rwa [List.append_assoc]
    have hc := piece_cat (txt_beg _) hp
    exact ⟨cat_all hc, fun _ => hc, fun _ _ => hp⟩
  | .two j a b, hok => by
    obtain ⟨ha1, ha2, ha3⟩ := back_all a hok.2.1
    obtain ⟨hb1, hb2, hb3⟩ := back_all b hok.2.2
    rcases hok.1 with rfl | rfl
    · have hc : BCat (.two 2 a b) (Tr.two 2 a b).txt := fun d n x r hd hx hn hev => by
        have hn : n + (a.size + b.size + 1) ≤ 2000 := hn
        have hka := kid_cat (t := a) (c := a.kind == 3) ha1 (fun h => ha2 (eq3 h))
        have hkb := kid_piece (t := b) (c := b.kind == 3 || b.kind == 2) hb1 (fun h => hb3 (or32 h).1 (or32 h).2)
        have hbeg : Beg (brk (b.kind == 3 || b.kind == 2) b.txt ++ x) := ((txt_beg b).brk _).app x
        show Bk .cat d n ((brk (a.kind == 3) a.txt ++ brk (b.kind == 3 || b.kind == 2) b.txt) ++ x) r
        rw [List.append_assoc]
        rcases hkb d (n + a.size) x (.ok b x) hd (by omega) (.pieceL_end hx) with h | h
        · exact hka d n _ r hd hbeg.sign (by omega) (.catL_more hbeg.begins h (by omega) hev)
        · rcases hka d n _ (.bad 7) hd hbeg.sign (by omega) (.catL_bad hbeg.begins h) with h | h
          · exact .inr h
          · exact .inr h
      exact ⟨cat_all hc, fun _ => hc, fun _ h => absurd rfl h⟩
    · refine ⟨fun d n x r hd hx hn hev => ?_, fun h => absurd rfl h, fun h => absurd rfl h⟩
      have hn : n + (a.size + b.size + 1) ≤ 2000 := hn
      have hkb := kid_cat (t := b) (c := b.kind == 3) hb1 (fun h => hb2 (eq3 h))
      show Bk .all d n ((a.txt ++ 124 :: brk (b.kind == 3) b.txt) ++ x) r
      rw [List.append_assoc, List.cons_append]
      have hst : Stop (124 :: (brk (b.kind == 3) b.txt ++ x)) := ⟨rfl, rfl⟩
      rcases hkb d (n + a.size) x (.ok b x) hd hx.2 (by omega) (.catL_end hx.1) with h | h
      · exact ha1 d n _ r hd hst (by omega) (.allL_more h (by omega) hev)
      · rcases ha1 d n _ (.bad 7) hd hst (by omega) (.allL_bad h) with h | h
        · exact .inr h
        · exact .inr h
/-- A right tree's text is read as the tree, or is too deep. -/
theorem back_reads (t : Tr) (hok : t.ok) (hn : t.size ≤ 2000) : Reads t.txt (.ok t []) ∨ Reads t.txt (.bad 7) := by
  have h := (back_all t hok).1 0 0 [] (.ok t []) (by omega) ⟨rfl, rfl⟩ (by omega) (.allL_end (by simp))
  rw [List.append_nil] at h
  rcases h with h | h
  · exact .inl (.ok h)
  · exact .inr (.bad h)
end Go.Proofs.YtgceckejchdnlaaGreatDoor
