/- Packed texts: SeShown. What each of them proves stands above its theorems; the conditions stand in these. -/
import Derived.Test.YtgceckejchdnlaaGreatDoorB31
import Derived.Test.YtgceckejchdnlaaGreatDoorB34
import Derived.Test.YtgceckejchdnlaaGreatDoorB35
namespace Go.Proofs.YtgceckejchdnlaaGreatDoor
open Go.RowKit Go.Lib

theorem rok_reR : Rok reR := fun p t l h => reR_ok p t l h
theorem readR_count : ∀ (f : Nat) (l : List UInt8) (acc : List (List UInt8)) (now : List UInt8) (ys : List (List UInt8)), readR f l acc now = some ys → ys.length ≤ acc.length + f := by
  intro f
  induction f with
  | zero => intro l acc now ys h; cases h
  | succ f ih =>
    intro l acc now ys h
    by_cases hl : l = []
    · subst hl
      rw [readR_end] at h
      cases h
      rw [List.length_append]
      simp
    · cases hst : stepR l with
      | none => rw [readR_bad hl hst] at h; cases h
      | some p =>
        obtain ⟨o, n⟩ := p
        cases o with
        | none =>
          rw [readR_place hl hst] at h
          have := ih _ _ _ _ h
          rw [List.length_append] at this
          simp at this
          omega
        | some c =>
          rw [readR_byte hl hst] at h
          have := ih _ _ _ _ h
          omega
theorem read_count {l : List UInt8} {ys : List (List UInt8)} (h : readD' l = some ys) : ys.length ≤ l.length + 1 := by
  have := readR_count _ _ _ _ _ h
  simpa using this
theorem letP_put {R : List UInt8 → Res} {a b : Ad} {neg : Bool} {l r : List UInt8} {c : Cm} (h : letP R a b neg l = .ok c r) : c.put.length ≤ l.length + 1 := by
  cases l with
  | nil => cases h
  | cons o l =>
    unfold letP at h
    dsimp only at h
    simp only [List.length_cons]
    split at h
    · cases l with
      | nil => cases h
      | cons d l1 =>
        dsimp only at h
        split at h
        · obtain ⟨t, l2, ht, h⟩ := got_bind h
          obtain ⟨ys, l3, hy, h⟩ := got_bind h
          cases h
          have h1 := treeP_len ht
          unfold putP at hy
          split at hy
          · cases hy
          · rename_i p r' hp
            have h2 := partL_short _ _ _ hp
            split at hy
            · rename_i zs hz
              have h3 := read_count hz
              cases hy
              simp only [List.length_cons]
              omega
            · cases hy
        · cases h
    · split at h
      · split at h
        · cases h; simp
        · obtain ⟨y, r', hy, h⟩ := got_bind h
          cases h; simp
      · split at h
        · split at h
          · obtain ⟨y, r', hy, h⟩ := got_bind h
            cases h; simp
          · cases h
        · split at h
          · cases h; simp
          · cases h
theorem comP_put {R : List UInt8 → Res} {l r : List UInt8} {c : Cm} (h : comP R l = .ok c r) : c.put.length ≤ l.length + 1 := by
  unfold comP at h
  obtain ⟨a, l1, ha, h⟩ := got_bind h
  obtain ⟨b, l2, hb, h⟩ := got_bind h
  obtain ⟨c', l3, hc, h⟩ := got_bind h
  have h1 := adP_len ha
  have h2 := secP_len hb
  have h3 := letP_put hc
  have h4 := notL_len l2
  split at h
  · cases h; omega
  · cases h
theorem scr_put {R : List UInt8 → Res} (m : Nat) : ∀ (k : Nat) (l : List UInt8) (cs ds : List Cm), l.length = k → l.length ≤ m → scr R l cs = .ok ds → (∀ c ∈ cs, c.put.length ≤ m + 1) → ∀ c ∈ ds, c.put.length ≤ m + 1 := by
  intro k
  induction k using Nat.strongRecOn with
  | ind k ih =>
    intro l cs ds hk hm h hc
    rw [scr_eq] at h
    rcases scrS_ok h with ⟨he, rfl⟩ | ⟨c, l1, d, l2, he, h1, h2, h3, h4⟩
    · exact hc
    · have hd := dw_len sepS l
      rw [he] at hd
      have hl := comP_len h3
      have hb := comP_put h3
      refine ih l2.length (by omega) l2 _ _ rfl (by omega) h4 fun c' hc' => ?_
      rcases List.mem_append.mp hc' with h | h
      · exact hc c' h
      · rw [List.mem_singleton] at h; subst h; omega
/-- What is known of commands that were read. -/
structure Rdy (l : List UInt8) (cs : List Cm) : Prop where
  scr : scr reR l [] = .ok cs
  bound : boundD cs = true
  short : l.length ≤ 8192
  good : ∀ c ∈ cs, c.Good
  lab : ∀ c ∈ cs, c.label.length ≤ 8192
  put : ∀ c ∈ cs, c.put.length ≤ 8193
  len : cs.length ≤ l.length
theorem sedR_ok {l : List UInt8} {cs : List Cm} (h : sedR l = .ok cs) : Rdy l cs := by
  unfold sedR at h
  split at h
  · cases h
  · rename_i hl
    obtain ⟨h1, h2⟩ := readSd_ok h
    refine ⟨h1, h2, by omega, scr_good rok_reR _ l [] cs rfl h1 (by simp), scr_lab 8192 _ l [] cs rfl (by omega) h1 (by simp), scr_put 8192 _ l [] cs rfl (by omega) h1 (by simp), ?_⟩
    have := (scr_len _ l [] cs rfl h1).2
    simpa using this
def tA : Tr := .set (k4 (oneK 97))
theorem reR_a : reR [97] = .ok tA [] := by
  refine reR_of (.ok ?_)
  have h1 := (told_atom (k4 (oneK 97)) 0 0 [] (by omega)).1
  rw [List.append_nil] at h1
  have h2 : toldK (k4 (oneK 97)) = [97] := told_one 97
  rw [h2] at h1
  exact .all_ok (.cat_ok rfl (.piece_ok h1 (.pieceL_end rfl)) (.catL_end rfl)) (.allL_end (by simp))
def shownC : Cm := ⟨115, .line 1, .last, true, some tA, [[98]], true, false, []⟩
theorem shown_tree : treeP reR [97, 47, 98, 47, 103] = .ok tA [98, 47, 103] := by
  unfold treeP
  rw [show partL [97, 47, 98, 47, 103] = some ([97], [98, 47, 103]) from rfl]
  dsimp only
  rw [reR_a]
theorem shown_put : putP [98, 47, 103] = .ok [[98]] [103] := by
  unfold putP
  rw [show partL [98, 47, 103] = some ([98], [103]) from rfl]
  rfl
theorem shown_let : letP reR (.line 1) .last true [115, 47, 97, 47, 98, 47, 103] = .ok shownC [] := by
  unfold letP
  dsimp only
  rw [if_pos rfl, if_pos rfl, shown_tree]
  dsimp only [Got.bind]
  rw [shown_put]
  rfl
theorem shown_com : comP reR [49, 44, 36, 33, 115, 47, 97, 47, 98, 47, 103] = .ok shownC [] := by
  unfold comP
  rw [show adP reR [49, 44, 36, 33, 115, 47, 97, 47, 98, 47, 103] = .ok (.line 1) [44, 36, 33, 115, 47, 97, 47, 98, 47, 103] from rfl]
  dsimp only [Got.bind]
  rw [show secP reR (.line 1) [44, 36, 33, 115, 47, 97, 47, 98, 47, 103] = .ok .last [33, 115, 47, 97, 47, 98, 47, 103] from rfl]
  dsimp only
  rw [show notB [33, 115, 47, 97, 47, 98, 47, 103] = true from rfl, show notL [33, 115, 47, 97, 47, 98, 47, 103] = [115, 47, 97, 47, 98, 47, 103] from rfl, shown_let]
  rfl
theorem shown_sed : sedR [49, 44, 36, 33, 115, 47, 97, 47, 98, 47, 103] = .ok [shownC] := by
  unfold sedR
  rw [if_neg (by decide)]
  rw [readSd_of (cs := [shownC])]
  · rfl
  · rw [scr_eq, show List.dropWhile sepS [49, 44, 36, 33, 115, 47, 97, 47, 98, 47, 103] = [49, 44, 36, 33, 115, 47, 97, 47, 98, 47, 103] from rfl, scrS_more rfl (by simp) shown_com, scr_eq]
    rfl
set_option maxHeartbeats 2000000 in
set_option maxRecDepth 20000 in
theorem shown8_any (w : World) : Calls Tryz.prog 5 #[] w fun e w' => e = .returned (.bool true) ∧ Below w.heap.size w w' := by
  have k := read8_any ⟨#[49, 44, 36, 33, 115, 47, 97, 47, 98, 47, 103]⟩ w (by decide)
  have hs : sedR (⟨#[49, 44, 36, 33, 115, 47, 97, 47, 98, 47, 103]⟩ : ByteArray).data.toList = .ok [shownC] := shown_sed
  rw [hs] at k
  clear hs
  have cl : ∀ v w', ScrS w.heap.size [shownC] v w' → ∃ g cap, v = .slice (some ⟨g, 0, none⟩) 1 cap ∧ w'.cell? ⟨g, 0, none⟩ = some (.int .u8 115) ∧ w'.cell? ⟨g, 2, none⟩ = some (.int .i64 1) ∧ w'.cell? ⟨g, 4, none⟩ = some (.int .i64 2) ∧ w'.cell? ⟨g, 7, none⟩ = some (.bool true) ∧ w'.cell? ⟨g, 10, none⟩ = some (.bool true) ∧ w'.cell? ⟨g, 11, none⟩ = some (.bool false) := fun v w' h => by
    obtain ⟨ao, cap, rfl⟩ := h.shape
    obtain ⟨g, a1, a2, a3, b1, b2, b3, d1, d2, d3, q1, q2, q3, rfl, _, _, ⟨r0, r1, r2, r3, r4, r5, r6, r7, r8, r9, r10, r11, r12⟩⟩ := h.row (k := 0) (c := shownC) rfl
    simp only [Nat.zero_mul, Nat.zero_add] at r0 r2 r4 r7 r10 r11
    exact ⟨g, cap, rfl, r0, r2, r4, r7, r10, r11⟩
  have CL := Lib.hid cl
  clear cl
  unfold Rd8 at k
  go_enter Tryz.func5, Tryz.ntmps5
  go_wp2_with (go_at_call 6; refine k.mono ?_; rintro e w1 ⟨⟨v, rfl, hs⟩, hb⟩; obtain ⟨g, cap, rfl, r0, r2, r4, r7, r10, r11⟩ := CL.out _ _ hs)
  exact bodyPost_ret (results_tmp rfl _ _ _) rfl ⟨rfl, hb⟩
theorem got_bad {α β : Type} {x : Got α} {f : α → List UInt8 → Got β} {e : Int} (h : x.bind f = .bad e) : x = .bad e ∨ ∃ a l, x = .ok a l ∧ f a l = .bad e := by
  cases x with
  | ok a l => exact .inr ⟨a, l, rfl, h⟩
  | bad e' => cases h; exact .inl rfl
theorem treeP_bad0 {l : List UInt8} {e : Int} (h : treeP reR l = .bad e) : (e == 0) = false := by
  unfold treeP at h
  split at h
  · cases h; rfl
  · split at h
    · cases h
    · rename_i hR
      cases h
      rcases reR_bad hR with rfl | rfl | rfl <;> rfl
theorem putP_bad0 {l : List UInt8} {e : Int} (h : putP l = .bad e) : (e == 0) = false := by
  unfold putP at h
  split at h
  · cases h; rfl
  · split at h
    · cases h
    · cases h; rfl
theorem adP_bad0 {l : List UInt8} {e : Int} (h : adP reR l = .bad e) : (e == 0) = false := by
  cases l with
  | nil => cases h
  | cons c l =>
    unfold adP at h
    dsimp only at h
    split at h
    · cases h
    · split at h
      · rcases got_bad h with h | ⟨_, _, _, h⟩
        · exact treeP_bad0 h
        · cases h
      · split at h
        · rcases got_bad h with h | ⟨_, _, _, h⟩
          · unfold lineP at h
            split at h
            · cases h
            · cases h; rfl
          · cases h
        · cases h
theorem labP_bad0 {l : List UInt8} {e : Int} (h : labP l = .bad e) : (e == 0) = false := by
  cases l with
  | nil => cases h; rfl
  | cons c l =>
    unfold labP at h
    dsimp only at h
    split at h
    · cases h
    · cases h; rfl
theorem letP_bad0 {a b : Ad} {neg : Bool} {l : List UInt8} {e : Int} (h : letP reR a b neg l = .bad e) : (e == 0) = false := by
  cases l with
  | nil => cases h; rfl
  | cons o l =>
    unfold letP at h
    dsimp only at h
    split at h
    · cases l with
      | nil => cases h; rfl
      | cons d l1 =>
        dsimp only at h
        split at h
        · rcases got_bad h with h | ⟨_, _, _, h⟩
          · exact treeP_bad0 h
          · rcases got_bad h with h | ⟨_, _, _, h⟩
            · exact putP_bad0 h
            · cases h
        · cases h; rfl
    · split at h
      · split at h
        · cases h
        · rcases got_bad h with h | ⟨_, _, _, h⟩
          · exact labP_bad0 h
          · cases h
      · split at h
        · split at h
          · rcases got_bad h with h | ⟨_, _, _, h⟩
            · exact labP_bad0 h
            · cases h
          · cases h; rfl
        · split at h
          · cases h
          · cases h; rfl
theorem comP_bad0 {l : List UInt8} {e : Int} (h : comP reR l = .bad e) : (e == 0) = false := by
  unfold comP at h
  rcases got_bad h with h | ⟨_, _, _, h⟩
  · exact adP_bad0 h
  · rcases got_bad h with h | ⟨_, _, _, h⟩
    · unfold secP at h
      split at h
      · rcases got_bad h with h | ⟨_, _, _, h⟩
        · exact adP_bad0 h
        · split at h
          · cases h; rfl
          · cases h
      · cases h
    · rcases got_bad h with h | ⟨_, _, _, h⟩
      · exact letP_bad0 h
      · split at h
        · cases h
        · cases h; rfl
theorem sedR_bad0 {l : List UInt8} {x : Int} (h : sedR l = .bad x) : (x == 0) = false := by
  unfold sedR at h
  split at h
  · cases h; rfl
  · have hb : ∀ {α : Type} (y : Got α) (P : Prop), P → P := fun _ _ h => h
    have h1 : ∀ f l cs, scrP reR f l cs = .bad x → (x == 0) = false := by
      intro f
      induction f with
      | zero => intro l cs h; cases h; rfl
      | succ f ih =>
        intro l cs h
        rw [scrP_eq] at h
        unfold scrS at h
        split at h
        · cases h
        · rename_i c l1 _
          split at h
          · cases h; rfl
          · split at h
            · cases h; rfl
            · split at h
              · exact ih _ _ h
              · rename_i e hc
                cases h
                exact comP_bad0 hc
    unfold readSd at h
    split at h
    · split at h
      · cases h
      · cases h; rfl
    · rename_i e he
      cases h
      exact h1 _ _ _ he
end Go.Proofs.YtgceckejchdnlaaGreatDoor
