/- Packed texts: SePart, SeLine, SeAddr, SeFlags, SeLabel, SeLetter, SeLetP, SeLetB. What each of them proves stands above its theorems; the conditions stand in these. -/
import Derived.Deep.LoopGhost
import Derived.Test.YtgceckejchdnlaaDoorA0
import Derived.Test.YtgceckejchdnlaaDoorA16
import Derived.Test.YtgceckejchdnlaaDoorA17
import Derived.Test.YtgceckejchdnlaaDoorA19
namespace Go.Proofs.YtgceckejchdnlaaDoor
open Go.RowKit Go.Lib

theorem part_one (l : List UInt8) (k : Nat) (c : UInt8) (hk : l[k]? = some c) : l.drop k = c :: l.drop (k + 1) := by
  have hlt : k < l.length := by
    by_cases h : k < l.length
    · exact h
    · rw [List.getElem?_eq_none (by omega)] at hk; cases hk
  rw [List.drop_eq_getElem_cons hlt]
  rw [List.getElem?_eq_getElem hlt] at hk
  cases hk; rfl
/-- What is known of a text's part at a place. -/
def PartI (l : List UInt8) (k : Nat) : Prop := partL l = (partL (l.drop k)).map fun p => (l.take k ++ p.1, p.2)
theorem PartI.start (l : List UInt8) : PartI l 0 := by
  unfold PartI
  rw [List.drop_zero, List.take_zero]
  cases partL l <;> rfl
theorem PartI.esc {l : List UInt8} {k : Nat} (h : PartI l k) (hk : l[k]? = some 92) : PartI l (k + 2) := by
  unfold PartI at h ⊢
  rw [h, part_one l k 92 hk]
  cases hd : l[k + 1]? with
  | none =>
    have hn : l.length ≤ k + 1 := by simpa using hd
    rw [List.drop_of_length_le hn, List.drop_of_length_le (by omega), partL_92]
    rfl
  | some d =>
    rw [part_one l (k + 1) d hd, partL_esc]
    rw [show k + 2 = k + 1 + 1 from rfl, take_snocL l (k + 1) d hd, take_snocL l k 92 hk]
    cases partL (l.drop (k + 1 + 1)) with
    | none => rfl
    | some q => simp
theorem PartI.next {l : List UInt8} {k : Nat} {c : UInt8} (h : PartI l k) (hk : l[k]? = some c) (h1 : c ≠ 92) (h2 : c ≠ 47) : PartI l (k + 1) := by
  unfold PartI at h ⊢
  rw [h, part_one l k c hk, partL_other _ h2 h1, take_snocL l k c hk]
  cases partL (l.drop (k + 1)) with
  | none => rfl
  | some q => simp
theorem PartI.stop {l : List UInt8} {k : Nat} (h : PartI l k) (hk : l[k]? = some 47) : partL l = some (l.take k, l.drop (k + 1)) := by
  unfold PartI at h
  rw [h, part_one l k 47 hk, partL_47]
  simp
theorem PartI.none {l : List UInt8} {k : Nat} (h : PartI l k) (hk : l.length ≤ k) : partL l = none := by
  unfold PartI at h
  rw [h, List.drop_of_length_le hk]
  rfl
/-- What part does. -/
def PartE (p : Nat) (l : List UInt8) (w : World) (e : Ending) (w' : World) : Prop := match partL l with
  | some (x, r) => e = .returned (.string ⟨x.toArray⟩) ∧ Rd p r w' ∧ Moved p w w'
  | none => e = errV 9 ∧ w' = w

set_option maxHeartbeats 2000000 in
set_option maxRecDepth 20000 in
theorem part_any (p : Nat) (l : List UInt8) (w : World) (h : Rd p l w) (hl : l.length ≤ 70000000000000) :
    Calls Tryd.prog 62 #[.pointer (some ⟨p, 0, none⟩)] w (PartE p l w) := by
  obtain ⟨c1, f1⟩ := h.cell
  have hput := fun m => h.put m
  have HP := Lib.hid hput
  clear hput h
  obtain ⟨S, hS⟩ : ∃ S : ByteArray, S = ⟨l.toArray⟩ := ⟨_, rfl⟩
  rw [← hS] at c1
  have hz : S.size = l.length := by rw [hS]; simp [ByteArray.size]
  have hget : ∀ (k : Nat) (h : k < S.size), l[k]? = some S[k] := fun k hk => by
    subst hS
    rw [List.getElem?_eq_getElem (by rw [← hz]; exact hk)]
    rfl
  have HG := Lib.hid hget
  have HS := Lib.hid hS
  clear hS hget
  have hs : S.size ≤ 70000000000000 := by omega
  go_enter Tryd.func62, Tryd.ntmps62
  go_wp2
  go_loop [3] (fun i => ∃ k : Nat, k ≤ S.size + 1 ∧ i = .int .i64 k ∧ Hid (PartI l k)) (fun i => S.size + 1 - (RowKit.intOf i).toNat)
  case atStart => exact ⟨0, Nat.zero_le _, rfl, PartI.start l⟩
  case round =>
    obtain ⟨k, hk, rfl, HI⟩ := hrel
    by_cases hlt : k < S.size
    · have HC := Lib.hid (HG.out k hlt)
      obtain ⟨c, hc⟩ : ∃ c, S[k] = c := ⟨_, rfl⟩
      rw [hc] at HC
      by_cases h92 : c = 92
      · subst h92
        have HN := Lib.hid (HI.out.esc HC.out)
        go_wp2
        go_round
        case rel => exact ⟨k + 2, by omega, by go_num, HN.out⟩
        case measure => simp [RowKit.intOf]; omega
      · have e92 : ((c.toNat : Int) == 92) = false := ne_int (y := 92) h92
        by_cases h47 : c = 47
        · subst h47
          have HN := Lib.hid (HI.out.stop HC.out)
          go_wp2
          have h1 : S.extract 0 k = ⟨(l.take k).toArray⟩ := by rw [HS.out]; exact extract_to l k
          have h2 : S.extract (k + 1) l.length = ⟨(l.drop (k + 1)).toArray⟩ := by
            rw [HS.out]
            exact extract_from l (k + 1) l.length (Nat.le_refl _)
          have h3 : PartE p l w = fun e w' => e = .returned (.string ⟨(l.take k).toArray⟩) ∧ Rd p (l.drop (k + 1)) w' ∧ Moved p w w' := by
            funext e w'; unfold PartE; rw [HN.out]
          rw [h3]
          rw [h1, h2]
          exact bodyPost_ret (results_tmp rfl _ _ _) rfl ⟨rfl, HP.out _, Moved.set _ _ _ _⟩
        · have e47 : ((c.toNat : Int) == 47) = false := ne_int (y := 47) h47
          have HN := Lib.hid (HI.out.next HC.out h92 h47)
          go_wp2
          go_round
          case rel => exact ⟨k + 1, by omega, by go_num, HN.out⟩
          case measure => simp [RowKit.intOf]; omega
    · have HN := Lib.hid (HI.out.none (by omega))
      have h3 : PartE p l w = fun e w' => e = errV 9 ∧ w' = w := by
        funext e w'; unfold PartE; rw [HN.out]
      rw [h3]
      unfold errV
      go_wp2
      exact ⟨rfl, rfl, rfl⟩

theorem ev_bad {J : Job} {d n : Nat} {l : List UInt8} {r : Res} (h : Ev J d n l r) : ∀ e, r = .bad e → e = 6 ∨ e = 7 ∨ e = 9 := by
  induction h <;> intro e he <;> grind
theorem reR_bad {l : List UInt8} {e : Int} (h : reR l = .bad e) : e = 6 ∨ e = 7 ∨ e = 9 := by
  have h1 := reR_reads l
  rw [h] at h1
  cases h1 with
  | bad h => exact ev_bad h _ rfl
  | more h => exact .inr (.inr rfl)
/-- What tree does. -/
def TreeE (p : Nat) (l : List UInt8) (w : World) (e : Ending) (w' : World) : Prop := match treeP reR l with
  | .ok t r => ∃ v, e = .returned v ∧ IsRow w.heap.size (t.row 0) v w' ∧ Rd p r w' ∧ Moved p w w'
  | .bad x => e = errV x ∧ Below p w w'
theorem partE_some {p : Nat} {l x r : List UInt8} {w : World} (h : partL l = some (x, r)) : PartE p l w = fun e w' => e = .returned (.string ⟨x.toArray⟩) ∧ Rd p r w' ∧ Moved p w w' := by
  funext e w'; unfold PartE; rw [h]
theorem partE_none {p : Nat} {l : List UInt8} {w : World} (h : partL l = none) : PartE p l w = fun e w' => e = errV 9 ∧ w' = w := by
  funext e w'; unfold PartE; rw [h]
theorem partL_short : ∀ (l x r : List UInt8), partL l = some (x, r) → x.length ≤ l.length
  | [], _, _, h => by cases h
  | c :: l, x, r, h => by
    unfold partL at h
    by_cases h1 : c = 47
    · rw [if_pos h1] at h; cases h; simp
    · rw [if_neg h1] at h
      by_cases h2 : c = 92
      · rw [if_pos h2] at h
        cases l with
        | nil => cases h
        | cons d l' =>
          dsimp only at h
          cases hp : partL l' with
          | none => rw [hp] at h; cases h
          | some q =>
            obtain ⟨q1, q2⟩ := q
            have := partL_short l' q1 q2 hp
            rw [hp] at h
            cases h
            simp only [List.length_cons]
            omega
      · rw [if_neg h2] at h
        cases hp : partL l with
        | none => rw [hp] at h; cases h
        | some q =>
          obtain ⟨q1, q2⟩ := q
          have := partL_short l q1 q2 hp
          rw [hp] at h
          cases h
          simp only [List.length_cons]
          omega
set_option maxHeartbeats 2000000 in
set_option maxRecDepth 20000 in
theorem tree8_ok (p : Nat) (x r : List UInt8) (ts : List Nd) (w : World)
    (k1 : Calls Tryd.prog 62 #[.pointer (some ⟨p, 0, none⟩)] w fun e w' => e = .returned (.string ⟨x.toArray⟩) ∧ Rd p r w' ∧ Moved p w w')
    (k2 : ∀ w1 : World, Calls Tryd.prog 61 #[.string ⟨x.toArray⟩] w1 fun e w' => (∃ v, e = .returned (.tuple #[v, .int .i64 0]) ∧ IsRow w1.heap.size ts v w') ∧ Below w1.heap.size w1 w') :
    Calls Tryd.prog 52 #[.pointer (some ⟨p, 0, none⟩)] w fun e w' => ∃ v, e = .returned v ∧ IsRow w.heap.size ts v w' ∧ Rd p r w' ∧ Moved p w w' := by
  generalize (⟨x.toArray⟩ : ByteArray) = X at k1 k2
  go_enter Tryd.func52, Tryd.ntmps52
  go_wp2_with (first
    | (go_at_call 62; refine k1.mono ?_; rintro e w1 ⟨rfl, h1, m1⟩)
    | (go_at_call 61; refine (k2 _).mono ?_; rintro e w2 ⟨⟨v, rfl, hrow⟩, hb⟩))
  exact bodyPost_ret (results_tmp rfl _ _ _) rfl ⟨v, rfl, owns_base hrow m1.low.size, h1.below hb, m1.trans (.of hb h1.lt)⟩
set_option maxHeartbeats 2000000 in
set_option maxRecDepth 20000 in
theorem tree8_bad (p : Nat) (x r : List UInt8) (er : Int) (w : World) (hb : (er == 0) = false)
    (k1 : Calls Tryd.prog 62 #[.pointer (some ⟨p, 0, none⟩)] w fun e w' => e = .returned (.string ⟨x.toArray⟩) ∧ Rd p r w' ∧ Moved p w w')
    (k2 : ∀ w1 : World, Calls Tryd.prog 61 #[.string ⟨x.toArray⟩] w1 fun e w' => e = .returned (.tuple #[.slice none 0 0, .int .i64 er]) ∧ Below w1.heap.size w1 w') :
    Calls Tryd.prog 52 #[.pointer (some ⟨p, 0, none⟩)] w fun e w' => e = errV er ∧ Below p w w' := by
  generalize (⟨x.toArray⟩ : ByteArray) = X at k1 k2
  unfold errV
  go_enter Tryd.func52, Tryd.ntmps52
  go_wp2_with (first
    | (go_at_call 62; refine k1.mono ?_; rintro e w1 ⟨rfl, h1, m1⟩)
    | (go_at_call 61; refine (k2 _).mono ?_; rintro e w2 ⟨rfl, hb2⟩))
  exact ⟨rfl, rfl, (m1.trans (.of hb2 h1.lt)).low⟩
set_option maxHeartbeats 2000000 in
set_option maxRecDepth 20000 in
theorem tree8_none (p : Nat) (w : World)
    (k1 : Calls Tryd.prog 62 #[.pointer (some ⟨p, 0, none⟩)] w fun e w' => e = errV 9 ∧ w' = w) :
    Calls Tryd.prog 52 #[.pointer (some ⟨p, 0, none⟩)] w fun e w' => e = errV 9 ∧ Below p w w' := by
  unfold errV at k1 ⊢
  go_enter Tryd.func52, Tryd.ntmps52
  go_wp2_with (go_at_call 62; refine k1.mono ?_; rintro e w1 ⟨rfl, rfl⟩)
  exact ⟨rfl, rfl, Below.refl _ _⟩
/-- tree: an expression, up to its slash and behind it. -/
theorem tree8_any (p : Nat) (l : List UInt8) (w : World) (h : Rd p l w) (hl : l.length ≤ 70000000000000) :
    Calls Tryd.prog 52 #[.pointer (some ⟨p, 0, none⟩)] w (TreeE p l w) := by
  have k1 := part_any p l w h hl
  unfold TreeE treeP
  cases hp : partL l with
  | none =>
    rw [partE_none hp] at k1
    exact tree8_none p w k1
  | some q =>
    obtain ⟨x, r⟩ := q
    rw [partE_some hp] at k1
    have hx := partL_short l x r hp
    have k2 := fun w1 => readRe_any x (reR x) w1 (by omega) (reR_reads x)
    dsimp only
    cases hR : reR x with
    | ok t l' =>
      rw [hR] at k2
      exact tree8_ok p x r (t.row 0) w k1 k2
    | bad e =>
      rw [hR] at k2
      refine tree8_bad p x r e w ?_ k1 k2
      rcases reR_bad hR with rfl | rfl | rfl <;> rfl
/-- What replacement does. -/
def PutE (p : Nat) (l : List UInt8) (w : World) (e : Ending) (w' : World) : Prop := match putP l with
  | .ok ys r => ∃ v, e = .returned v ∧ w'.ownsRow w.heap.size 9 1 v ys.length (strC (ys.map mkB)) ∧ Rd p r w' ∧ Moved p w w'
  | .bad x => e = errV x ∧ Below p w w'
set_option maxHeartbeats 2000000 in
set_option maxRecDepth 20000 in
theorem put8_ok (p n : Nat) (x r : List UInt8) (cs : List Value) (w : World)
    (k1 : Calls Tryd.prog 62 #[.pointer (some ⟨p, 0, none⟩)] w fun e w' => e = .returned (.string ⟨x.toArray⟩) ∧ Rd p r w' ∧ Moved p w w')
    (k2 : ∀ w1 : World, Calls Tryd.prog 64 #[.string ⟨x.toArray⟩] w1 fun e w' => (∃ v, e = .returned (.tuple #[v, .int .i64 0]) ∧ w'.ownsRow w1.heap.size 9 1 v n cs) ∧ Below w1.heap.size w1 w') :
    Calls Tryd.prog 55 #[.pointer (some ⟨p, 0, none⟩)] w fun e w' => ∃ v, e = .returned v ∧ w'.ownsRow w.heap.size 9 1 v n cs ∧ Rd p r w' ∧ Moved p w w' := by
  generalize (⟨x.toArray⟩ : ByteArray) = X at k1 k2
  go_enter Tryd.func55, Tryd.ntmps55
  go_wp2_with (first
    | (go_at_call 62; refine k1.mono ?_; rintro e w1 ⟨rfl, h1, m1⟩)
    | (go_at_call 64; refine (k2 _).mono ?_; rintro e w2 ⟨⟨v, rfl, hrow⟩, hb⟩))
  exact bodyPost_ret (results_tmp rfl _ _ _) rfl ⟨v, rfl, owns_base hrow m1.low.size, h1.below hb, m1.trans (.of hb h1.lt)⟩
set_option maxHeartbeats 2000000 in
set_option maxRecDepth 20000 in
theorem put8_bad (p : Nat) (x r : List UInt8) (w : World)
    (k1 : Calls Tryd.prog 62 #[.pointer (some ⟨p, 0, none⟩)] w fun e w' => e = .returned (.string ⟨x.toArray⟩) ∧ Rd p r w' ∧ Moved p w w')
    (k2 : ∀ w1 : World, Calls Tryd.prog 64 #[.string ⟨x.toArray⟩] w1 fun e w' => e = .returned (.tuple #[.slice none 0 0, .int .i64 2]) ∧ Below w1.heap.size w1 w') :
    Calls Tryd.prog 55 #[.pointer (some ⟨p, 0, none⟩)] w fun e w' => e = errV 9 ∧ Below p w w' := by
  generalize (⟨x.toArray⟩ : ByteArray) = X at k1 k2
  unfold errV
  go_enter Tryd.func55, Tryd.ntmps55
  go_wp2_with (first
    | (go_at_call 62; refine k1.mono ?_; rintro e w1 ⟨rfl, h1, m1⟩)
    | (go_at_call 64; refine (k2 _).mono ?_; rintro e w2 ⟨rfl, hb2⟩))
  exact ⟨rfl, rfl, (m1.trans (.of hb2 h1.lt)).low⟩
set_option maxHeartbeats 2000000 in
set_option maxRecDepth 20000 in
theorem put8_none (p : Nat) (w : World)
    (k1 : Calls Tryd.prog 62 #[.pointer (some ⟨p, 0, none⟩)] w fun e w' => e = errV 9 ∧ w' = w) :
    Calls Tryd.prog 55 #[.pointer (some ⟨p, 0, none⟩)] w fun e w' => e = errV 9 ∧ Below p w w' := by
  unfold errV at k1 ⊢
  go_enter Tryd.func55, Tryd.ntmps55
  go_wp2_with (go_at_call 62; refine k1.mono ?_; rintro e w1 ⟨rfl, rfl⟩)
  exact ⟨rfl, rfl, Below.refl _ _⟩
/-- replacement: a replacement, up to its slash and behind it. -/
theorem put8_any (p : Nat) (l : List UInt8) (w : World) (h : Rd p l w) (hl : l.length ≤ 1000000000) :
    Calls Tryd.prog 55 #[.pointer (some ⟨p, 0, none⟩)] w (PutE p l w) := by
  have k1 := part_any p l w h (by omega)
  unfold PutE putP
  cases hp : partL l with
  | none =>
    rw [partE_none hp] at k1
    exact put8_none p w k1
  | some q =>
    obtain ⟨x, r⟩ := q
    rw [partE_some hp] at k1
    have hx := partL_short l x r hp
    have k2 := fun w1 => suRead_walk ⟨x.toArray⟩ w1 (by show x.toArray.size ≤ _; rw [List.size_toArray]; omega)
    dsimp only at k2 ⊢
    unfold ReadA at k2
    cases hR : readD' x with
    | some ys =>
      rw [hR] at k2
      dsimp only at k2 ⊢
      exact put8_ok p _ x r _ w k1 fun w1 => (k2 w1)
    | none =>
      rw [hR] at k2
      exact put8_bad p x r w k1 k2
end Go.Proofs.YtgceckejchdnlaaDoor
namespace Go.Proofs.YtgceckejchdnlaaDoor
open Go.RowKit Go.Lib

/-- What line does. -/
def LineE (p : Nat) (l : List UInt8) (w : World) (e : Ending) (w' : World) : Prop := match lineP l with
  | .ok n r => e = .returned (.int .i64 (n : Int)) ∧ Rd p r w' ∧ Moved p w w'
  | .bad x => e = errV x ∧ Below p w w'
set_option maxHeartbeats 2000000 in
set_option maxRecDepth 20000 in
theorem line8_err (p : Nat) (S : ByteArray) (w : World) (c1 : w.cell? ⟨p, 0, none⟩ = some (.string S))
    (k1 : ∀ w, Calls Tryd.prog 63 #[.string S] w fun e w' => e = .returned (.tuple #[.int .i64 0, .int .i64 0, .int .i64 3]) ∧ w = w') :
    Calls Tryd.prog 53 #[.pointer (some ⟨p, 0, none⟩)] w fun e w' => e = errV 9 ∧ Below p w w' := by
  unfold errV
  go_enter Tryd.func53, Tryd.ntmps53
  go_wp2_with (go_at_call 63; refine (k1 _).mono ?_; rintro e w1 ⟨rfl, rfl⟩)
  exact ⟨rfl, rfl, Below.refl _ _⟩
set_option maxHeartbeats 2000000 in
set_option maxRecDepth 20000 in
theorem line8_far (p : Nat) (S : ByteArray) (n u : Int) (w : World) (c1 : w.cell? ⟨p, 0, none⟩ = some (.string S)) (hn : 1000000000 < n)
    (k1 : ∀ w, Calls Tryd.prog 63 #[.string S] w fun e w' => e = .returned (.tuple #[.int .i64 n, .int .i64 u, .int .i64 0]) ∧ w = w') :
    Calls Tryd.prog 53 #[.pointer (some ⟨p, 0, none⟩)] w fun e w' => e = errV 9 ∧ Below p w w' := by
  have h1 : decide (n < 1) = false := by simp; omega
  have h2 : decide (1000000000 < n) = true := by simpa using hn
  unfold errV
  go_enter Tryd.func53, Tryd.ntmps53
  go_wp2_with (go_at_call 63; refine (k1 _).mono ?_; rintro e w1 ⟨rfl, rfl⟩)
  exact ⟨rfl, rfl, Below.refl _ _⟩
set_option maxHeartbeats 2000000 in
set_option maxRecDepth 20000 in
theorem line8_low (p : Nat) (S : ByteArray) (n u : Int) (w : World) (c1 : w.cell? ⟨p, 0, none⟩ = some (.string S)) (hn : n < 1)
    (k1 : ∀ w, Calls Tryd.prog 63 #[.string S] w fun e w' => e = .returned (.tuple #[.int .i64 n, .int .i64 u, .int .i64 0]) ∧ w = w') :
    Calls Tryd.prog 53 #[.pointer (some ⟨p, 0, none⟩)] w fun e w' => e = errV 9 ∧ Below p w w' := by
  have h1 : decide (n < 1) = true := by simpa using hn
  unfold errV
  go_enter Tryd.func53, Tryd.ntmps53
  go_wp2_with (go_at_call 63; refine (k1 _).mono ?_; rintro e w1 ⟨rfl, rfl⟩)
  exact ⟨rfl, rfl, Below.refl _ _⟩
set_option maxHeartbeats 2000000 in
set_option maxRecDepth 20000 in
theorem line8_ok (p : Nat) (S : ByteArray) (n : Int) (u : Nat) (w : World) (c1 : w.cell? ⟨p, 0, none⟩ = some (.string S)) (f1 : w.frozen? ⟨p, 0, none⟩ = false) (hn : 1 ≤ n) (hn2 : n ≤ 1000000000) (hu : u ≤ S.size) (_hs : S.size ≤ 70000000000000)
    (k1 : ∀ w, Calls Tryd.prog 63 #[.string S] w fun e w' => e = .returned (.tuple #[.int .i64 n, .int .i64 (u : Int), .int .i64 0]) ∧ w = w') :
    Calls Tryd.prog 53 #[.pointer (some ⟨p, 0, none⟩)] w fun e w' => e = .returned (.int .i64 n) ∧ w' = w.setCell ⟨p, 0, none⟩ (.string (S.extract u S.size)) := by
  have h1 : decide (n < 1) = false := by simp; omega
  have h2 : decide (1000000000 < n) = false := by simp; omega
  go_enter Tryd.func53, Tryd.ntmps53
  go_wp2_with (go_at_call 63; refine (k1 _).mono ?_; rintro e w1 ⟨rfl, rfl⟩)
  exact bodyPost_ret (results_tmp rfl _ _ _) rfl ⟨rfl, rfl⟩
theorem fig_whole {c : UInt8} {r : List UInt8} (hc : isFig c = true) : wholeD (c :: r) = if natOf (figs (c :: r)) ≤ 9223372036854775807 then ((natOf (figs (c :: r)) : Int), (((figs (c :: r)).length : Nat) : Int), 0) else (0, 0, 3) := by
  have h1 : isNeg (c :: r) = false := by
    unfold isNeg
    rw [List.head?_cons, beq_eq_false_iff_ne]
    rintro h; cases h; cases hc
  have h2 : afterSign (c :: r) = c :: r := by unfold afterSign; rw [if_neg (by rw [h1]; simp)]
  have h3 : figs (c :: r) ≠ [] := by unfold figs; rw [List.takeWhile_cons_of_pos hc]; simp
  unfold wholeD
  rw [h2, if_neg h3, if_neg (by rw [h1]; simp)]
/-- line: the number of a line. -/
theorem line8_any (p : Nat) (c : UInt8) (r : List UInt8) (w : World) (h : Rd p (c :: r) w) (hc : isFig c = true) (hl : (c :: r).length ≤ 70000000000000) :
    Calls Tryd.prog 53 #[.pointer (some ⟨p, 0, none⟩)] w (LineE p (c :: r) w) := by
  obtain ⟨c1, f1⟩ := h.cell
  have k1 : ∀ w, Calls Tryd.prog 63 #[.string ⟨(c :: r).toArray⟩] w fun e w' => e = wholeE (c :: r) ∧ w = w' := fun w => whole_any ⟨(c :: r).toArray⟩ w (by show (c :: r).toArray.size ≤ _; rw [List.size_toArray]; exact hl)
  have hz : (⟨(c :: r).toArray⟩ : ByteArray).size = (c :: r).length := by simp [ByteArray.size]
  have hw := fig_whole (c := c) (r := r) hc
  have hfl := figs_length_le (c :: r)
  unfold wholeE at k1
  rw [hw] at k1
  unfold LineE lineP
  by_cases h1 : natOf (figs (c :: r)) ≤ 9223372036854775807
  · rw [if_pos h1] at k1
    by_cases h2 : natOf (figs (c :: r)) ≤ 1000000000
    · by_cases h3 : 1 ≤ natOf (figs (c :: r))
      · rw [if_pos ⟨h3, h2⟩]
        have h4 := line8_ok p ⟨(c :: r).toArray⟩ (natOf (figs (c :: r)) : Int) (figs (c :: r)).length w c1 f1 (by omega) (by omega) (by rw [hz]; exact hfl) (by rw [hz]; exact hl) k1
        refine h4.mono ?_
        rintro e w' ⟨rfl, rfl⟩
        have h5 : (⟨(c :: r).toArray⟩ : ByteArray).extract (figs (c :: r)).length (⟨(c :: r).toArray⟩ : ByteArray).size = ⟨((c :: r).drop (figs (c :: r)).length).toArray⟩ := extract_from (c :: r) _ _ (by rw [hz]; exact Nat.le_refl _)
        rw [h5]
        exact ⟨rfl, h.put _, Moved.set _ _ _ _⟩
      · rw [if_neg (fun e => h3 e.1)]
        exact line8_low p _ _ _ w c1 (by omega) k1
    · rw [if_neg (fun e => h2 e.2)]
      exact line8_far p _ _ _ w c1 (by omega) k1
  · rw [if_neg h1] at k1
    rw [if_neg (fun e => h1 (by have := e.2; omega))]
    exact line8_err p _ w c1 k1
end Go.Proofs.YtgceckejchdnlaaDoor
namespace Go.Proofs.YtgceckejchdnlaaDoor
open Go.RowKit Go.Lib

/-- An address's slice. -/
def AdS (B : Nat) (a : Ad) (v : Value) (w : World) : Prop := match a with
  | .re t => IsRow B (t.row 0) v w
  | _ => v = .slice none 0 0
theorem AdS.moved {p B : Nat} {a : Ad} {v : Value} {w w' : World} (h : AdS B a v w) (hp : p < B) (hm : Moved p w w') : AdS B a v w' := by
  cases a with
  | re t => exact owns_moved h hp hm
  | none => exact h
  | line n => exact h
  | last => exact h
theorem AdS.base {B B' : Nat} {a : Ad} {v : Value} {w : World} (h : AdS B a v w) (hB : B' ≤ B) : AdS B' a v w := by
  cases a with
  | re t => exact owns_base h hB
  | none => exact h
  | line n => exact h
  | last => exact h
theorem AdS.below {B : Nat} {a : Ad} {v : Value} {w w' : World} (h : AdS B a v w) (hb : Below w.heap.size w w') : AdS B a v w' := by
  cases a with
  | re t => exact owns_same h fun g hg => hb.block g (own_block_lt h hg)
  | none => exact h
  | line n => exact h
  | last => exact h
/-- What address does. -/
def AdE (p : Nat) (l : List UInt8) (w : World) (e : Ending) (w' : World) : Prop := match adP reR l with
  | .ok a r => ∃ v, e = .returned (.agg #[.int .i64 (a.k : Int), .int .i64 (a.n : Int), v]) ∧ AdS w.heap.size a v w' ∧ Rd p r w' ∧ Moved p w w'
  | .bad x => e = errV x ∧ Below p w w'
def figS : List UInt8 := [48, 49, 50, 51, 52, 53, 54, 55, 56, 57]
theorem figS_all : ∀ n : Fin 256, figS.contains (UInt8.ofNat n.val) = isFig (UInt8.ofNat n.val) := by decide +kernel
theorem figS_is (c : UInt8) : figS.contains c = isFig c := by
  have := figS_all ⟨c.toNat, c.toNat_lt⟩
  simpa using this
theorem cell_three {w : World} {g : Nat} {t : TypeId} {p q r : Value} (h : w.heap[g]? = some (.cells #[p, q, r] t (0, 0))) :
    w.cell? ⟨g, 0, none⟩ = some p ∧ w.cell? ⟨g, 1, none⟩ = some q ∧ w.cell? ⟨g, 2, none⟩ = some r :=
  ⟨cell_of_row w g 0 _ _ _ h, cell_of_row w g 1 _ _ _ h, cell_of_row w g 2 _ _ _ h⟩
theorem Tryd.infoAddr : (Tryd.prog.info? 33).map (·.size) = some 3 := by kernel_rfl
theorem three_frozen {w : World} {g : Nat} {t : TypeId} {p q r : Value} (h : w.heap[g]? = some (.cells #[p, q, r] t (0, 0))) :
    w.frozen? ⟨g, 0, none⟩ = false ∧ w.frozen? ⟨g, 1, none⟩ = false ∧ w.frozen? ⟨g, 2, none⟩ = false := ⟨frozen_of_row w g 0 _ _ h, frozen_of_row w g 1 _ _ h, frozen_of_row w g 2 _ _ h⟩
/-- The block of the answer, as it is made. -/
def W3 (w : World) : World := w.alloc (.cells #[.int .i64 0, .int .i64 0, .slice none 0 0] 33)
theorem W3.below (w : World) : Below w.heap.size w (W3 w) := (Below.refl _ w).alloc (Nat.le_refl _) _
theorem W3.size (w : World) : (W3 w).heap.size = w.heap.size + 1 := by simp [W3]
theorem W3.cells {p : Nat} {w w1 : World} (hp : p < w.heap.size) (m1 : Moved p (W3 w) w1) : w1.heap[w.heap.size]? = some (.cells #[.int .i64 0, .int .i64 0, .slice none 0 0] 33 (0, 0)) :=
  (m1.high _ (by omega) (by rw [W3.size]; omega)).trans (heap_alloc_new w _)
theorem addr_done {p : Nat} {w w1 : World} {r : List UInt8} (k n v : Value) (hp : p < w.heap.size) (m1 : Moved p (W3 w) w1) (h1 : Rd p r w1) :
    (((w1.setCell ⟨w.heap.size, 0, none⟩ k).setCell ⟨w.heap.size, 1, none⟩ n).setCell ⟨w.heap.size, 2, none⟩ v).heap[w.heap.size]? = some (.cells #[k, n, v] 33 (0, 0)) ∧
    Rd p r (((w1.setCell ⟨w.heap.size, 0, none⟩ k).setCell ⟨w.heap.size, 1, none⟩ n).setCell ⟨w.heap.size, 2, none⟩ v) ∧
    Moved p w (((w1.setCell ⟨w.heap.size, 0, none⟩ k).setCell ⟨w.heap.size, 1, none⟩ n).setCell ⟨w.heap.size, 2, none⟩ v) ∧
    ∀ g, g ≠ w.heap.size → (((w1.setCell ⟨w.heap.size, 0, none⟩ k).setCell ⟨w.heap.size, 1, none⟩ n).setCell ⟨w.heap.size, 2, none⟩ v).heap[g]? = w1.heap[g]? := by
  have h0 := W3.cells hp m1
  have a1 := heap_setCell_same w1 w.heap.size 0 _ _ k h0
  have a2 := heap_setCell_same _ w.heap.size 1 _ _ n a1
  have a3 := heap_setCell_same _ w.heap.size 2 _ _ v a2
  have ho : ∀ g, g ≠ w.heap.size → (((w1.setCell ⟨w.heap.size, 0, none⟩ k).setCell ⟨w.heap.size, 1, none⟩ n).setCell ⟨w.heap.size, 2, none⟩ v).heap[g]? = w1.heap[g]? := fun g hg => by
    rw [Below.heap_setCell _ _ _ _ hg, Below.heap_setCell _ _ _ _ hg, Below.heap_setCell _ _ _ _ hg]
  refine ⟨a3, (ho p (by omega)).trans h1, ⟨?_, fun g hg hs => ?_⟩, ho⟩
  · have hb : Below p w w1 := ((W3.below w).mono (Nat.le_of_lt hp)).trans m1.low
    exact ((hb.setCell (p := ⟨w.heap.size, 0, none⟩) (Nat.le_of_lt hp) _).setCell (p := ⟨w.heap.size, 1, none⟩) (Nat.le_of_lt hp) _).setCell (p := ⟨w.heap.size, 2, none⟩) (Nat.le_of_lt hp) _
  · rw [ho g (by omega), m1.high g hg (by rw [W3.size]; omega)]
    exact (W3.below w).block g hs
set_option maxHeartbeats 4000000 in
set_option maxRecDepth 20000 in
/-- None of these. -/
theorem addr_none (p : Nat) (l : List UInt8) (w : World) (h : Rd p l w) (h1 : isI 36 l = false) (h2 : isI 47 l = false) (h3 : atB figS l = false) :
    Calls Tryd.prog 38 #[.pointer (some ⟨p, 0, none⟩)] w fun e w' => ∃ v, e = .returned (.agg #[.int .i64 0, .int .i64 0, v]) ∧ v = .slice none 0 0 ∧ Rd p l w' ∧ Moved p w w' := by
  have n := fun w' (h : Rd p l w') => takeI_no p l w' h
  have at' : ∀ w', Rd p l w' → Calls Tryd.prog 26 #[.pointer (some ⟨p, 0, none⟩), .string ⟨#[48, 49, 50, 51, 52, 53, 54, 55, 56, 57]⟩] w' fun e w'' => e = .returned (.bool false) ∧ w'' = w' := fun w' hr => by
    have := at8_any p figS l w' hr
    rwa [h3] at this
  have hb : Rd p l (w.alloc (.cells #[.int .i64 0, .int .i64 0, .slice none 0 0] 33)) := h.below (W3.below w)
  have HM := Lib.hid (Moved.of (W3.below w) h.lt)
  have HH := Lib.hid (heap_alloc_new w (.cells #[.int .i64 0, .int .i64 0, .slice none 0 0] 33))
  clear h h3
  go_enter Tryd.func38, Tryd.ntmps38
  go_wp2_with (first
    | (go_at_call 39; refine (n _ hb _ (by decide) (by decide) (by assumption)).mono ?_; rintro e w1 ⟨rfl, rfl⟩)
    | (go_at_call 26; refine (at' _ hb).mono ?_; rintro e w1 ⟨rfl, rfl⟩))
  exact bodyPost_ret (v := .agg _) (results_cell_row (p := 2) (ty := 33) Tryd.results38 _ _ w.heap.size 33 _ (0, 0) _ rfl HH.out Tryd.underlying33 rfl Tryd.infoAddr) rfl ⟨_, rfl, rfl, hb, HM.out⟩
set_option maxHeartbeats 4000000 in
set_option maxRecDepth 20000 in
/-- The last line. -/
theorem addr_last (p : Nat) (l : List UInt8) (w : World) (h : Rd p l w) (hl : l.length ≤ 1000000000) (h1 : isI 36 l = true) :
    Calls Tryd.prog 38 #[.pointer (some ⟨p, 0, none⟩)] w fun e w' => ∃ v, e = .returned (.agg #[.int .i64 2, .int .i64 0, v]) ∧ v = .slice none 0 0 ∧ Rd p l.tail w' ∧ Moved p w w' := by
  have hb : Rd p l (W3 w) := h.below (W3.below w)
  have y := takeI_yes p l (W3 w) hb (by omega) 36 (by decide) (by decide) h1
  have HP := Lib.hid h.lt
  clear h hb h1
  have HW := Lib.hid (show W3 w = w.alloc (.cells #[.int .i64 0, .int .i64 0, .slice none 0 0] 33) from rfl)
  go_enter Tryd.func38, Tryd.ntmps38
  go_wp2_with (first
    | (go_at_call 39; rw [← HW.out]; refine y.mono ?_; rintro e w1 ⟨rfl, h1, m1⟩
       have hc := W3.cells HP.out m1
       obtain ⟨c0, c1, c2⟩ := cell_three hc
       obtain ⟨f0, f1, f2⟩ := three_frozen hc
       have HD := Lib.hid (addr_done (.int .i64 2) (.int .i64 0) (.slice none 0 0) HP.out m1 h1)
       clear hc h1 m1))
  exact bodyPost_ret (v := .agg _) (results_cell_row (p := 2) (ty := 33) Tryd.results38 _ _ w.heap.size 33 _ (0, 0) _ rfl HD.out.1 Tryd.underlying33 rfl Tryd.infoAddr) rfl ⟨_, rfl, rfl, HD.out.2.1, HD.out.2.2.1⟩
set_option maxHeartbeats 4000000 in
set_option maxRecDepth 20000 in
/-- An expression. -/
theorem addr_re_ok (p : Nat) (l r : List UInt8) (ts : List Nd) (w : World) (h : Rd p l w) (hl : l.length ≤ 1000000000) (h1 : isI 36 l = false) (h2 : isI 47 l = true)
    (k : ∀ w1, Rd p l.tail w1 → Calls Tryd.prog 52 #[.pointer (some ⟨p, 0, none⟩)] w1 fun e w' => ∃ v, e = .returned v ∧ IsRow w1.heap.size ts v w' ∧ Rd p r w' ∧ Moved p w1 w') :
    Calls Tryd.prog 38 #[.pointer (some ⟨p, 0, none⟩)] w fun e w' => ∃ v, e = .returned (.agg #[.int .i64 3, .int .i64 0, v]) ∧ IsRow w.heap.size ts v w' ∧ Rd p r w' ∧ Moved p w w' := by
  have hb : Rd p l (W3 w) := h.below (W3.below w)
  have n := takeI_no p l (W3 w) hb 36 (by decide) (by decide) h1
  have y := takeI_yes p l (W3 w) hb (by omega) 47 (by decide) (by decide) h2
  have HP := Lib.hid h.lt
  clear h hb
  have HW := Lib.hid (show W3 w = w.alloc (.cells #[.int .i64 0, .int .i64 0, .slice none 0 0] 33) from rfl)
  have HSZ := Lib.hid (W3.size w)
  go_enter Tryd.func38, Tryd.ntmps38
  go_wp2_with fail
  rw [← HW.out]
  refine n.mono ?_
  rintro e w1 ⟨rfl, hw1⟩
  rw [hw1]
  clear hw1 n
  go_wp2_with fail
  refine y.mono ?_
  rintro e w2 ⟨rfl, r2, m2⟩
  have k2 := k w2 r2
  have HR := Lib.hid (And.intro r2 m2)
  clear y k r2 m2
  go_wp2_with (first
    | (go_at_call 52; refine k2.mono ?_; rintro e w3 ⟨v, rfl, hrow, h3, m3⟩
       obtain ⟨ao, cap, rfl⟩ := isRow_slice hrow
       have m13 := HR.out.2.trans m3
       have hc := W3.cells HP.out m13
       obtain ⟨c0, c1, c2⟩ := cell_three hc
       obtain ⟨f0, f1, f2⟩ := three_frozen hc
       have HD := Lib.hid (addr_done (.int .i64 3) (.int .i64 0) (.slice ao ts.length cap) HP.out m13 h3)
       have HRow := Lib.hid hrow
       clear hc h3 m3 m13 hrow))
  have hsz : w.heap.size < w2.heap.size := by have := HR.out.2.low.size; have := HSZ.out; omega
  have hX := owns_same (owns_base HRow.out (Nat.le_of_lt hsz)) fun g hg => HD.out.2.2.2 g (by
    have := HRow.out
    rcases this.2 with ⟨hv, _⟩ | ⟨g', _, _, hv, hB, _⟩
    · rw [hv] at hg; cases hg
    · rw [hv] at hg; cases hg; show g' ≠ _; omega)
  exact bodyPost_ret (v := .agg _) (results_cell_row (p := 2) (ty := 33) Tryd.results38 _ _ w.heap.size 33 _ (0, 0) _ rfl HD.out.1 Tryd.underlying33 rfl Tryd.infoAddr) rfl ⟨_, rfl, hX, HD.out.2.1, HD.out.2.2.1⟩
set_option maxHeartbeats 4000000 in
set_option maxRecDepth 20000 in
theorem addr_re_bad (p : Nat) (l : List UInt8) (x : Int) (w : World) (h : Rd p l w) (hl : l.length ≤ 1000000000) (h1 : isI 36 l = false) (h2 : isI 47 l = true)
    (k : ∀ w1, Rd p l.tail w1 → Calls Tryd.prog 52 #[.pointer (some ⟨p, 0, none⟩)] w1 fun e w' => e = errV x ∧ Below p w1 w') :
    Calls Tryd.prog 38 #[.pointer (some ⟨p, 0, none⟩)] w fun e w' => e = errV x ∧ Below p w w' := by
  have hb : Rd p l (W3 w) := h.below (W3.below w)
  have n := takeI_no p l (W3 w) hb 36 (by decide) (by decide) h1
  have y := takeI_yes p l (W3 w) hb (by omega) 47 (by decide) (by decide) h2
  have HP := Lib.hid h.lt
  clear h hb
  have HW := Lib.hid (show W3 w = w.alloc (.cells #[.int .i64 0, .int .i64 0, .slice none 0 0] 33) from rfl)
  have HB := Lib.hid ((W3.below w).mono (Nat.le_of_lt HP.out))
  unfold errV at k ⊢
  go_enter Tryd.func38, Tryd.ntmps38
  go_wp2_with fail
  rw [← HW.out]
  refine n.mono ?_
  rintro e w1 ⟨rfl, hw1⟩
  rw [hw1]
  clear hw1 n
  go_wp2_with fail
  refine y.mono ?_
  rintro e w2 ⟨rfl, r2, m2⟩
  have k2 := k w2 r2
  have HR := Lib.hid (And.intro r2 m2)
  clear y k r2 m2
  go_wp2_with (first
    | (go_at_call 52; refine k2.mono ?_; rintro e w3 ⟨rfl, hb3⟩))
  exact ⟨rfl, rfl, HB.out.trans (HR.out.2.low.trans hb3)⟩
set_option maxHeartbeats 4000000 in
set_option maxRecDepth 20000 in
/-- A line. -/
theorem addr_line_ok (p : Nat) (l r : List UInt8) (m : Int) (w : World) (h : Rd p l w) (h1 : isI 36 l = false) (h2 : isI 47 l = false) (h3 : atB figS l = true)
    (k : ∀ w1, Rd p l w1 → Calls Tryd.prog 53 #[.pointer (some ⟨p, 0, none⟩)] w1 fun e w' => e = .returned (.int .i64 m) ∧ Rd p r w' ∧ Moved p w1 w') :
    Calls Tryd.prog 38 #[.pointer (some ⟨p, 0, none⟩)] w fun e w' => ∃ v, e = .returned (.agg #[.int .i64 1, .int .i64 m, v]) ∧ v = .slice none 0 0 ∧ Rd p r w' ∧ Moved p w w' := by
  have hb : Rd p l (W3 w) := h.below (W3.below w)
  have n := takeI_no p l (W3 w) hb
  have at' : Calls Tryd.prog 26 #[.pointer (some ⟨p, 0, none⟩), .string ⟨#[48, 49, 50, 51, 52, 53, 54, 55, 56, 57]⟩] (W3 w) fun e w'' => e = .returned (.bool true) ∧ w'' = W3 w := by
    have := at8_any p figS l (W3 w) hb
    rwa [h3] at this
  have HP := Lib.hid h.lt
  have HH := Lib.hid hb
  have k2 := k (W3 w) hb
  clear h hb h3 k
  have HW := Lib.hid (show W3 w = w.alloc (.cells #[.int .i64 0, .int .i64 0, .slice none 0 0] 33) from rfl)
  go_enter Tryd.func38, Tryd.ntmps38
  go_wp2_with fail
  rw [← HW.out]
  refine (n _ (by decide) (by decide) h1).mono ?_
  rintro e w1 ⟨rfl, hw1⟩
  rw [hw1]
  clear hw1
  go_wp2_with fail
  refine (n _ (by decide) (by decide) h2).mono ?_
  rintro e w1 ⟨rfl, hw1⟩
  rw [hw1]
  clear hw1 n
  go_wp2_with fail
  refine at'.mono ?_
  rintro e w1 ⟨rfl, hw1⟩
  rw [hw1]
  clear hw1 at'
  go_wp2_with (first
    | (go_at_call 53; refine k2.mono ?_; rintro e w3 ⟨rfl, h3, m3⟩
       have hc := W3.cells HP.out m3
       obtain ⟨c0, c1, c2⟩ := cell_three hc
       obtain ⟨f0, f1, f2⟩ := three_frozen hc
       have HD := Lib.hid (addr_done (.int .i64 1) (.int .i64 m) (.slice none 0 0) HP.out m3 h3)
       clear hc h3 m3))
  exact bodyPost_ret (v := .agg _) (results_cell_row (p := 2) (ty := 33) Tryd.results38 _ _ w.heap.size 33 _ (0, 0) _ rfl HD.out.1 Tryd.underlying33 rfl Tryd.infoAddr) rfl ⟨_, rfl, rfl, HD.out.2.1, HD.out.2.2.1⟩
set_option maxHeartbeats 4000000 in
set_option maxRecDepth 20000 in
theorem addr_line_bad (p : Nat) (l : List UInt8) (x : Int) (w : World) (h : Rd p l w) (h1 : isI 36 l = false) (h2 : isI 47 l = false) (h3 : atB figS l = true)
    (k : ∀ w1, Rd p l w1 → Calls Tryd.prog 53 #[.pointer (some ⟨p, 0, none⟩)] w1 fun e w' => e = errV x ∧ Below p w1 w') :
    Calls Tryd.prog 38 #[.pointer (some ⟨p, 0, none⟩)] w fun e w' => e = errV x ∧ Below p w w' := by
  have hb : Rd p l (W3 w) := h.below (W3.below w)
  have n := takeI_no p l (W3 w) hb
  have at' : Calls Tryd.prog 26 #[.pointer (some ⟨p, 0, none⟩), .string ⟨#[48, 49, 50, 51, 52, 53, 54, 55, 56, 57]⟩] (W3 w) fun e w'' => e = .returned (.bool true) ∧ w'' = W3 w := by
    have := at8_any p figS l (W3 w) hb
    rwa [h3] at this
  have k2 := k (W3 w) hb
  have HB := Lib.hid ((W3.below w).mono (Nat.le_of_lt h.lt))
  clear h hb h3 k
  have HW := Lib.hid (show W3 w = w.alloc (.cells #[.int .i64 0, .int .i64 0, .slice none 0 0] 33) from rfl)
  unfold errV at k2 ⊢
  go_enter Tryd.func38, Tryd.ntmps38
  go_wp2_with fail
  rw [← HW.out]
  refine (n _ (by decide) (by decide) h1).mono ?_
  rintro e w1 ⟨rfl, hw1⟩
  rw [hw1]
  clear hw1
  go_wp2_with fail
  refine (n _ (by decide) (by decide) h2).mono ?_
  rintro e w1 ⟨rfl, hw1⟩
  rw [hw1]
  clear hw1 n
  go_wp2_with fail
  refine at'.mono ?_
  rintro e w1 ⟨rfl, hw1⟩
  rw [hw1]
  clear hw1 at'
  go_wp2_with (first
    | (go_at_call 53; refine k2.mono ?_; rintro e w3 ⟨rfl, hb3⟩))
  exact ⟨rfl, rfl, HB.out.trans hb3⟩
theorem isI_cons (i : UInt8) (c : UInt8) (l : List UInt8) : isI (i.toNat : Int) (c :: l) = decide (c = i) := by
  rw [Bool.eq_iff_iff, isI_head]
  simp
/-- address: an address, or none. -/
theorem addr_any (p : Nat) (l : List UInt8) (w : World) (h : Rd p l w) (hl : l.length ≤ 1000000000) :
    Calls Tryd.prog 38 #[.pointer (some ⟨p, 0, none⟩)] w (AdE p l w) := by
  unfold AdE
  cases l with
  | nil => exact addr_none p [] w h rfl rfl rfl
  | cons c l =>
    have e36 : isI 36 (c :: l) = decide (c = 36) := isI_cons 36 c l
    have e47 : isI 47 (c :: l) = decide (c = 47) := isI_cons 47 c l
    have ef : atB figS (c :: l) = isFig c := figS_is c
    simp only [List.length_cons] at hl
    unfold adP
    dsimp only
    by_cases h36 : c = 36
    · rw [if_pos h36]
      exact addr_last p (c :: l) w h (by simp only [List.length_cons]; omega) (by rw [e36]; simpa using h36)
    · rw [if_neg h36]
      have f36 : isI 36 (c :: l) = false := by rw [e36]; simpa using h36
      by_cases h47 : c = 47
      · rw [if_pos h47]
        have f47 : isI 47 (c :: l) = true := by rw [e47]; simpa using h47
        have k := fun w1 (h1 : Rd p l w1) => tree8_any p l w1 h1 (by omega)
        unfold TreeE at k
        cases ht : treeP reR l with
        | ok t r =>
          rw [ht] at k
          exact addr_re_ok p (c :: l) r (t.row 0) w h (by simp only [List.length_cons]; omega) f36 f47 k
        | bad x =>
          rw [ht] at k
          exact addr_re_bad p (c :: l) x w h (by simp only [List.length_cons]; omega) f36 f47 k
      · rw [if_neg h47]
        have f47 : isI 47 (c :: l) = false := by rw [e47]; simpa using h47
        cases hf : isFig c with
        | false =>
          rw [hf] at ef
          exact addr_none p (c :: l) w h f36 f47 ef
        | true =>
          rw [hf] at ef
          rw [if_pos rfl]
          have k := fun w1 (h1 : Rd p (c :: l) w1) => line8_any p c l w1 h1 hf (by simp only [List.length_cons]; omega)
          unfold LineE at k
          cases ht : lineP (c :: l) with
          | ok n r =>
            rw [ht] at k
            exact addr_line_ok p (c :: l) r (n : Int) w h f36 f47 ef k
          | bad x =>
            rw [ht] at k
            exact addr_line_bad p (c :: l) x w h f36 f47 ef k
end Go.Proofs.YtgceckejchdnlaaDoor
namespace Go.Proofs.YtgceckejchdnlaaDoor
open Go.RowKit Go.Lib

/-- All but two blocks is as it was. -/
structure Moved2 (p q : Nat) (w w' : World) : Prop where
  low : Below p w w'
  high : ∀ g, g ≠ p → g ≠ q → g < w.heap.size → w'.heap[g]? = w.heap[g]?
theorem Moved2.refl (p q : Nat) (w : World) : Moved2 p q w w := ⟨Below.refl _ _, fun _ _ _ _ => rfl⟩
theorem Moved2.trans {p q : Nat} {a b c : World} (h : Moved2 p q a b) (k : Moved2 p q b c) : Moved2 p q a c := ⟨h.low.trans k.low, fun g hg hq hs => (k.high g hg hq (Nat.lt_of_lt_of_le hs h.low.size)).trans (h.high g hg hq hs)⟩
theorem Moved.two {p : Nat} (q : Nat) {w w' : World} (h : Moved p w w') : Moved2 p q w w' := ⟨h.low, fun g hg _ hs => h.high g hg hs⟩
theorem Moved2.set (p q i : Nat) (v : Value) (w : World) (hpq : p ≤ q) : Moved2 p q w (w.setCell ⟨q, i, none⟩ v) := ⟨(Below.refl _ w).setCell (p := ⟨q, i, none⟩) hpq v, fun _g _ hg _ => Below.heap_setCell _ _ _ _ hg⟩
/-- A command in the making: its thirteen cells. -/
def Cq (q : Nat) (l : List Value) (w : World) : Prop := w.heap[q]? = some (.cells ⟨l⟩ 36 (0, 0))
theorem Cq.lt {q : Nat} {l : List Value} {w : World} (h : Cq q l w) : q < w.heap.size := block_lt h
theorem Cq.cell {q : Nat} {l : List Value} {w : World} (h : Cq q l w) (i : Nat) {v : Value} (hi : l[i]? = some v) : w.cell? ⟨q, i, none⟩ = some v ∧ w.frozen? ⟨q, i, none⟩ = false := by
  refine ⟨?_, frozen_of_heap h _⟩
  rw [cell_of_heap h]
  simpa using hi
theorem Cq.put {q : Nat} {l : List Value} {w : World} (h : Cq q l w) (i : Nat) (v : Value) : Cq q (l.set i v) (w.setCell ⟨q, i, none⟩ v) := by
  have h := heap_setCell_same w q i _ _ v h
  unfold Cq
  simpa using h
theorem Cq.moved {p q : Nat} {l : List Value} {w w' : World} (h : Cq q l w) (hpq : q ≠ p) (hm : Moved p w w') : Cq q l w' := (hm.high q hpq h.lt).trans h
theorem Rd.moved2 {p q : Nat} {l : List UInt8} {w : World} (h : Rd p l w) (hpq : p ≠ q) (i : Nat) (v : Value) : Rd p l (w.setCell ⟨q, i, none⟩ v) := (Below.heap_setCell _ _ _ _ hpq).trans h

/-- Where flags may be. -/
structure FlI (p q : Nat) (w : World) (u : Bool → Bool → List Value) (R : Bool × Bool × List UInt8) (m : Nat) (wr : World) : Prop where
  at' : ∃ a b l, R = flagP a b l ∧ Rd p l wr ∧ Cq q (u a b) wr ∧ l.length ≤ m ∧ l.length ≤ 4611686018427387904
  moved : Moved2 p q w wr
set_option maxHeartbeats 4000000 in
set_option maxRecDepth 20000 in
theorem flags_walk (p q : Nat) (x0 x1 x2 x3 x4 x5 x6 x7 x8 x9 x12 : Value) (a0 b0 : Bool) (l0 : List UInt8) (w : World) (hpq : p < q) (h : Rd p l0 w) (hl : l0.length ≤ 70000000000)
    (hq : Cq q [x0, x1, x2, x3, x4, x5, x6, x7, x8, x9, .bool a0, .bool b0, x12] w) :
    Calls Tryd.prog 56 #[.pointer (some ⟨p, 0, none⟩), .pointer (some ⟨q, 0, none⟩)] w fun e w' => e = .returned (.tuple #[]) ∧ Rd p (flagP a0 b0 l0).2.2 w' ∧ Cq q [x0, x1, x2, x3, x4, x5, x6, x7, x8, x9, .bool (flagP a0 b0 l0).1, .bool (flagP a0 b0 l0).2.1, x12] w' ∧ Moved2 p q w w' := by
  obtain ⟨u, hu⟩ : ∃ u : Bool → Bool → List Value, u = fun a b => [x0, x1, x2, x3, x4, x5, x6, x7, x8, x9, .bool a, .bool b, x12] := ⟨_, rfl⟩
  have u10 : ∀ a b, (u a b)[10]? = some (.bool a) := fun a b => by rw [hu]; rfl
  have u11 : ∀ a b, (u a b)[11]? = some (.bool b) := fun a b => by rw [hu]; rfl
  have s10 : ∀ a b c, (u a b).set 10 (.bool c) = u c b := fun a b c => by rw [hu]; rfl
  have s11 : ∀ a b c, (u a b).set 11 (.bool c) = u a c := fun a b c => by rw [hu]; rfl
  have HU := Lib.hid (And.intro u10 (And.intro u11 (And.intro s10 s11)))
  have hq' : Cq q (u a0 b0) w := by rw [hu]; exact hq
  have hgoal : ∀ R : Bool × Bool × List UInt8, [x0, x1, x2, x3, x4, x5, x6, x7, x8, x9, .bool R.1, .bool R.2.1, x12] = u R.1 R.2.1 := fun R => by rw [hu]
  rw [hgoal]
  clear u10 u11 s10 s11 hu hq hgoal
  obtain ⟨R, hR⟩ : ∃ R, R = flagP a0 b0 l0 := ⟨_, rfl⟩
  have HI := Lib.hid (show FlI p q w u R l0.length w from ⟨⟨a0, b0, l0, hR, h, hq', Nat.le_refl _, by omega⟩, .refl _ _ _⟩)
  rw [← hR]
  clear hR h hq'
  go_enter Tryd.func56, Tryd.ntmps56
  go_wp2
  go_loopg [] (l0.length + 1) (fun g wr => Hid (∃ m, g = m + 1 ∧ FlI p q w u R m wr))
  case atStart => exact ⟨_, rfl, HI.out⟩
  case round =>
    obtain ⟨m, rfl, HF⟩ := hrel.out
    obtain ⟨a, b, l, hR, hrd, hcq, hlm, hl2⟩ := HF.at'
    have hmv := HF.moved
    clear hrel HF
    obtain ⟨d10, f10⟩ := hcq.cell 10 (HU.out.1 a b)
    obtain ⟨d11, f11⟩ := hcq.cell 11 (HU.out.2.1 a b)
    -- a flag more
    have hA : ∀ r, a = false → l = 103 :: r → ∀ w1, Rd p r w1 → Moved p wr w1 → (w1.cell? ⟨q, 10, none⟩ = some (.bool a) ∧ w1.frozen? ⟨q, 10, none⟩ = false) ∧ 1 ≤ m ∧ FlI p q w u R (m - 1) (w1.setCell ⟨q, 10, none⟩ (.bool true)) := fun r ha hlr w1 h1 m1 => by
      subst ha
      subst hlr
      simp only [List.length_cons] at hlm hl2
      have hc1 := hcq.moved (by omega) m1
      refine ⟨hc1.cell 10 (HU.out.1 _ _), by omega, ⟨true, b, r, ?_, h1.moved2 (by omega) _ _, ?_, by omega, by omega⟩, ?_⟩
      · rw [hR, flagP, if_pos ⟨rfl, rfl⟩]
      · have := hc1.put 10 (.bool true)
        rwa [HU.out.2.2.1] at this
      · exact hmv.trans ((m1.two q).trans (.set p q 10 _ w1 (by omega)))
    have hB : ∀ r, b = false → l = 112 :: r → ∀ w1, Rd p r w1 → Moved p wr w1 → (w1.cell? ⟨q, 11, none⟩ = some (.bool b) ∧ w1.frozen? ⟨q, 11, none⟩ = false) ∧ 1 ≤ m ∧ FlI p q w u R (m - 1) (w1.setCell ⟨q, 11, none⟩ (.bool true)) := fun r hb hlr w1 h1 m1 => by
      subst hb
      subst hlr
      simp only [List.length_cons] at hlm hl2
      have hc1 := hcq.moved (by omega) m1
      refine ⟨hc1.cell 11 (HU.out.2.1 _ _), by omega, ⟨a, true, r, ?_, h1.moved2 (by omega) _ _, ?_, by omega, by omega⟩, ?_⟩
      · rw [hR, flagP, if_neg (fun e => by cases e.1), if_pos ⟨rfl, rfl⟩]
      · have := hc1.put 11 (.bool true)
        rwa [HU.out.2.2.2] at this
      · exact hmv.trans ((m1.two q).trans (.set p q 11 _ w1 (by omega)))
    have HA := Lib.hid hA
    have HB := Lib.hid hB
    clear hA hB
    have n := takeI_no p l wr hrd
    have y := takeI_yes p l wr hrd hl2
    have i103 : isI 103 l = true ↔ l.head? = some 103 := isI_head 103 l
    have i112 : isI 112 l = true ↔ l.head? = some 112 := isI_head 112 l
    have HK := Lib.hid (And.intro hR (And.intro hrd (And.intro hcq hmv)))
    have HM := Lib.hid (And.intro hlm hl2)
    clear hR hrd hcq hmv hlm hl2
    by_cases h103 : a = false ∧ l.head? = some 103
    · obtain ⟨rfl, hh⟩ := h103
      cases l with
      | nil => cases hh
      | cons c r =>
        cases hh
        have f1 := i103.2 rfl
        have HA2 := Lib.hid (HA.out r rfl rfl)
        clear n i103 i112 HA HB HK HM
        go_wp2_with (go_at_call 39; refine (y _ (by decide) (by decide) (by assumption)).mono ?_; rintro e w1 ⟨rfl, h1, m1⟩; obtain ⟨⟨e1, e2⟩, e3, e4'⟩ := HA2.out w1 h1 m1; have e4 := Lib.hid e4'; clear e4' h1 m1)
        go_roundg m
        case rel => exact ⟨m - 1, by omega, e4.out⟩
        case measure => omega
    · by_cases h112 : b = false ∧ l.head? = some 112
      · obtain ⟨rfl, hh⟩ := h112
        cases l with
        | nil => cases hh
        | cons c r =>
          cases hh
          have f2 := i112.2 rfl
          have f1 : isI 103 (112 :: r) = false := rfl
          have HB2 := Lib.hid (HB.out r rfl rfl)
          clear i103 i112 HA HB HK HM h103
          cases a
          all_goals
            go_wp2_with (go_at_call 39; first
              | (refine (n _ (by decide) (by decide) (by assumption)).mono ?_; rintro e w1 ⟨rfl, rfl⟩)
              | (refine (y _ (by decide) (by decide) (by assumption)).mono ?_; rintro e w1 ⟨rfl, h1, m1⟩; obtain ⟨⟨e1, e2⟩, e3, e4'⟩ := HB2.out w1 h1 m1; have e4 := Lib.hid e4'; clear e4' h1 m1))
            go_roundg m
            case rel => exact ⟨m - 1, by omega, e4.out⟩
            case measure => omega
      · have hRv : R = (a, b, l) := by
          rw [HK.out.1]
          cases l with
          | nil => rfl
          | cons c r =>
            rw [flagP, if_neg (fun e => h103 ⟨e.2, by rw [e.1]; rfl⟩), if_neg (fun e => h112 ⟨e.2, by rw [e.1]; rfl⟩)]
        have HV := Lib.hid (show Rd p R.2.2 wr ∧ Cq q (u R.1 R.2.1) wr ∧ Moved2 p q w wr by rw [hRv]; exact HK.out.2)
        have fa : a = false → isI 103 l = false := fun e => by
          cases h : isI 103 l
          · rfl
          · exact absurd ⟨e, i103.1 h⟩ h103
        have fb : b = false → isI 112 l = false := fun e => by
          cases h : isI 112 l
          · rfl
          · exact absurd ⟨e, i112.1 h⟩ h112
        clear hRv HA HB HK HM y h103 h112 i103 i112
        cases a <;> cases b
        all_goals
          (try have na := fa rfl)
          (try have nb := fb rfl)
          clear fa fb
          go_wp2_with (go_at_call 39; refine (n _ (by decide) (by decide) (by assumption)).mono ?_; rintro e w1 ⟨rfl, rfl⟩)
          try rw [Exit.noGoto_ret]
          exact bodyPost_ret (results_none rfl _ _ _) rfl ⟨rfl, HV.out⟩
end Go.Proofs.YtgceckejchdnlaaDoor
namespace Go.Proofs.YtgceckejchdnlaaDoor
open Go.RowKit Go.Lib

/-- What label does. -/
def LabE (p : Nat) (l : List UInt8) (w : World) (e : Ending) (w' : World) : Prop := match labP l with
  | .ok y r => e = .returned (.string ⟨y.toArray⟩) ∧ Rd p r w' ∧ Moved p w w'
  | .bad x => e = errV x ∧ Below p w w'
theorem rest_tw : ∀ (l : List UInt8) (k : Nat), (l.take k).all restOk = true → k ≤ l.length → (k = l.length ∨ ∃ c, l[k]? = some c ∧ restOk c = false) → l.takeWhile restOk = l.take k ∧ l.dropWhile restOk = l.drop k
  | [], k, _, hk, _ => by
    have : k = 0 := by simpa using hk
    subst this; exact ⟨rfl, rfl⟩
  | d :: l, 0, _, _, h => by
    rcases h with h | ⟨c, hc, h⟩
    · simp at h
    · cases hc
      simp [List.takeWhile, List.dropWhile, h]
  | d :: l, k + 1, ha, hk, h => by
    simp only [List.take_succ_cons, List.all_cons, Bool.and_eq_true] at ha
    have := rest_tw l k ha.2 (by simpa using hk) (by
      rcases h with h | ⟨c, hc, h⟩
      · left; simpa using h
      · right; exact ⟨c, by simpa using hc, h⟩)
    simp [List.takeWhile, List.dropWhile, ha.1, this.1, this.2]
theorem lab_stop {l : List UInt8} {k : Nat} (h : namePre (l.take k) = true) (hk : k ≤ l.length) (he : k = l.length ∨ ∃ c, l[k]? = some c ∧ nameOk k c = false) : labP l = if k = 0 then .bad 9 else .ok (l.take k) (l.drop k) := by
  cases l with
  | nil =>
    have : k = 0 := by simpa using hk
    subst this; rfl
  | cons d l =>
    cases k with
    | zero =>
      rcases he with he | ⟨c, hc, he⟩
      · simp at he
      · cases hc
        have hd : isLet d = false := by
          unfold nameOk at he
          simpa using he
        unfold labP
        dsimp only
        rw [hd]
        rfl
    | succ k =>
      have hd : isLet d = true ∧ (l.take k).all restOk = true := by
        have : (isLet d && (l.take k).all restOk) = true := h
        simpa using this
      obtain ⟨h1, h2⟩ := rest_tw l k hd.2 (by simpa using hk) (by
        rcases he with he | ⟨c, hc, he⟩
        · left; simpa using he
        · right
          refine ⟨c, by simpa using hc, ?_⟩
          unfold nameOk at he
          unfold restOk
          simpa using he)
      unfold labP
      dsimp only
      rw [if_pos hd.1, h1, h2, if_neg (by simp)]
      rfl
def aheadB (k : Nat) : ByteArray := if k = 0 then ⟨#[]⟩ else ⟨#[95]⟩
theorem ahead_name (k : Nat) (c : UInt8) (T : ByteArray) (hT : T = ⟨#[c]⟩) : isNameB (aheadB k ++ T).data.toList = nameOk k c := by
  subst hT
  unfold aheadB nameOk
  by_cases h : k = 0
  · rw [if_pos h]
    subst h
    simp [isNameB, namePre]
  · rw [if_neg h]
    have : 0 < k := by omega
    have h95 : isLet 95 = true := by decide
    simp [isNameB, namePre, this, restOk, h95]
theorem extract_one (S : ByteArray) (k : Nat) (h : k < S.size) : S.extract k (k + 1) = ⟨#[S[k]]⟩ := by
  apply ByteArray.ext
  rw [ByteArray.data_extract]
  apply Array.ext'
  have h' : k < S.data.toList.length := by rw [Array.length_toList]; exact h
  simp only [Array.toList_extract, List.extract_eq_drop_take']
  have e : S.data.toList.drop k = S[k] :: S.data.toList.drop (k + 1) := by
    rw [List.drop_eq_getElem_cons h']; rfl
  rw [List.drop_take, e]
  simp

set_option maxHeartbeats 40000000 in
set_option maxRecDepth 20000 in
theorem label_any (p : Nat) (l : List UInt8) (w : World) (h : Rd p l w) (hl : l.length ≤ 70000000000) :
    Calls Tryd.prog 57 #[.pointer (some ⟨p, 0, none⟩)] w (LabE p l w) := by
  obtain ⟨S, hS⟩ : ∃ S : ByteArray, S = ⟨l.toArray⟩ := ⟨_, rfl⟩
  have hz : S.size = l.length := by rw [hS]; simp [ByteArray.size]
  have hget : ∀ (k : Nat) (h : k < S.size), l[k]? = some S[k] := fun k hk => by
    subst hS
    rw [List.getElem?_eq_getElem (by rw [← hz]; exact hk)]
    rfl
  have HG := Lib.hid hget
  have HS := Lib.hid hS
  have HR := Lib.hid h
  have HZ := Lib.hid hz
  clear hget h hS
  have hs : S.size ≤ 70000000000 := by omega
  clear hz
  go_enter Tryd.func57, Tryd.ntmps57
  go_wp2
  go_loopw [3, 4] (fun i a wr => ∃ k : Nat, k ≤ S.size ∧ i = .int .i64 k ∧ a = .string (aheadB k) ∧ Hid (namePre (l.take k) = true) ∧ Hid (Below w.heap.size w wr)) (fun i _ _ => S.size + 1 - (RowKit.intOf i).toNat)
  case atStart => exact ⟨0, Nat.zero_le _, rfl, rfl, rfl, Below.refl _ _⟩
  case round =>
    obtain ⟨k, hk, rfl, rfl, HI, HW⟩ := hrel
    have hr2 := HR.out.below HW.out
    obtain ⟨c1, f1⟩ := hr2.cell
    rw [← HS.out] at c1
    have HR2 := Lib.hid hr2
    clear hr2
    by_cases hlt : k < S.size
    · have HC := Lib.hid (HG.out k hlt)
      have he := extract_one S k hlt
      obtain ⟨c, hc⟩ : ∃ c, S[k] = c := ⟨_, rfl⟩
      rw [hc] at HC he
      have hn := ahead_name k c _ he
      have hA : (aheadB k).size ≤ 1 := by unfold aheadB; split <;> decide
      have kn := fun w => isName_any (aheadB k ++ S.extract k (k + 1)) w (by rw [ByteArray.size_append, he]; show (aheadB k).size + 1 ≤ _; omega)
      rw [hn] at kn
      have hX : (S.extract k (k + 1)).size = 1 := by rw [he]; rfl
      have HT := Lib.hid (take_snocL l k c HC.out)
      clear he hn
      generalize aheadB k = A at kn hA ⊢
      cases hq : nameOk k c with
      | true =>
        rw [hq] at kn
        have HQ := Lib.hid hq
        clear hq
        go_wp2_with (go_at_call 30; refine (kn _).mono ?_; rintro e w1 ⟨rfl, hb1⟩)
        go_round
        case rel =>
          refine ⟨k + 1, by omega, by go_num, by unfold aheadB; rw [if_neg (by omega)], ?_, HW.out.trans (hb1.mono HW.out.size)⟩
          show namePre (l.take (k + 1)) = true
          rw [HT.out, namePre_snoc, HI.out, List.length_take, Nat.min_eq_left (by have := HZ.out; omega), HQ.out]; rfl
        case measure => simp [RowKit.intOf]; omega
      | false =>
        rw [hq] at kn
        have HN := Lib.hid (lab_stop HI.out (by have := HZ.out; omega) (.inr ⟨c, HC.out, hq⟩))
        clear hq
        by_cases h0 : k = 0
        · subst h0
          have h3 : LabE p l w = fun e w' => e = errV 9 ∧ Below p w w' := by
            funext e w'; unfold LabE; rw [HN.out]; rfl
          rw [h3]
          clear h3
          unfold errV
          go_wp2_with (go_at_call 30; refine (kn _).mono ?_; rintro e w1 ⟨rfl, hb1⟩)
          refine ⟨rfl, ?_⟩
          show LabE p l w _ _
          unfold LabE
          rw [HN.out]
          exact ⟨rfl, (HW.out.trans (hb1.mono HW.out.size)).mono (Nat.le_of_lt HR.out.lt)⟩
        · have e0 : ((k : Int) == 0) = false := by rw [beq_eq_false_iff_ne]; omega
          have h3 : LabE p l w = fun e w' => e = .returned (.string ⟨(l.take k).toArray⟩) ∧ Rd p (l.drop k) w' ∧ Moved p w w' := by
            funext e w'; unfold LabE; rw [HN.out, if_neg h0]
          rw [h3]
          clear h3
          go_wp2_with (go_at_call 30; refine (kn _).mono ?_; rintro e w1 ⟨rfl, hb1⟩; have hr3 := HR2.out.below hb1; obtain ⟨c2, f2⟩ := hr3.cell; rw [← HS.out] at c2; have HR3 := Lib.hid hr3; clear hr3)
          refine bodyPost_ret (results_tmp rfl _ _ _) rfl ?_
          show LabE p l w _ _
          unfold LabE
          have h1 : S.extract 0 k = ⟨(l.take k).toArray⟩ := by rw [HS.out]; exact extract_to l k
          have h2 : S.extract k S.size = ⟨(l.drop k).toArray⟩ := by
            have := HZ.out
            rw [HS.out]
            exact extract_from l k _ (by show l.length ≤ l.toArray.size; rw [List.size_toArray]; exact Nat.le_refl _)
          rw [HN.out, if_neg h0, h1, h2]
          exact ⟨rfl, HR3.out.put _, (Moved.of HW.out HR.out.lt).trans ((Moved.of hb1 HR2.out.lt).trans (.set _ _ _ _))⟩
    · have hke : k = S.size := by omega
      have HN := Lib.hid (lab_stop HI.out (by have := HZ.out; omega) (.inl (by rw [hke]; exact HZ.out)))
      clear hke
      by_cases h0 : k = 0
      · subst h0
        have h3 : LabE p l w = fun e w' => e = errV 9 ∧ Below p w w' := by
          funext e w'; unfold LabE; rw [HN.out]; rfl
        rw [h3]
        clear h3
        unfold errV
        go_wp2
        refine ⟨rfl, ?_⟩
        show LabE p l w _ _
        unfold LabE
        rw [HN.out]
        exact ⟨rfl, HW.out.mono (Nat.le_of_lt HR.out.lt)⟩
      · have e0 : ((k : Int) == 0) = false := by rw [beq_eq_false_iff_ne]; omega
        have h3 : LabE p l w = fun e w' => e = .returned (.string ⟨(l.take k).toArray⟩) ∧ Rd p (l.drop k) w' ∧ Moved p w w' := by
          funext e w'; unfold LabE; rw [HN.out, if_neg h0]
        rw [h3]
        clear h3
        go_wp2
        refine bodyPost_ret (results_tmp rfl _ _ _) rfl ?_
        show LabE p l w _ _
        unfold LabE
        have h1 : S.extract 0 k = ⟨(l.take k).toArray⟩ := by rw [HS.out]; exact extract_to l k
        have h2 : S.extract k S.size = ⟨(l.drop k).toArray⟩ := by
          have := HZ.out
          rw [HS.out]
          exact extract_from l k _ (by show l.length ≤ l.toArray.size; rw [List.size_toArray]; exact Nat.le_refl _)
        rw [HN.out, if_neg h0, h1, h2]
        exact ⟨rfl, HR2.out.put _, (Moved.of HW.out HR.out.lt).trans (.set _ _ _ _)⟩
end Go.Proofs.YtgceckejchdnlaaDoor
namespace Go.Proofs.YtgceckejchdnlaaDoor
open Go.RowKit Go.Lib

/-- A command's slices: its expression, its replacement. -/
def ReS (B : Nat) (o : Option Tr) (v : Value) (w : World) : Prop := match o with
  | some t => IsRow B (t.row 0) v w
  | none => v = .slice none 0 0
def PutS (B : Nat) (ys : List (List UInt8)) (v : Value) (w : World) : Prop := w.ownsRow B 9 1 v ys.length (strC (ys.map mkB))
/-- Behind the letter. -/
theorem let_after {p q : Nat} {c : UInt8} {l : List UInt8} {S : ByteArray} {o : Value} {xs : List Value} {w : World} (hpq : p < q) (h : Rd p (c :: l) w) (hq : Cq q (o :: xs) w) (hS : S = ⟨(c :: l).toArray⟩) (n : Nat) (hn : n = l.length + 1) :
    let W := ((w.setCell ⟨q, 0, none⟩ (.int .u8 (c.toNat : Int))).setCell ⟨p, 0, none⟩ (.string (S.extract 1 n))).drew
    Rd p l W ∧ Cq q (.int .u8 (c.toNat : Int) :: xs) W ∧ Moved2 p q w W := by
  subst hS
  subst hn
  have he : (⟨(c :: l).toArray⟩ : ByteArray).extract 1 (l.length + 1) = ⟨l.toArray⟩ := extract_from (c :: l) 1 (l.length + 1) (by simp)
  rw [he]
  have h1 := h.moved2 (q := q) (by omega) 0 (.int .u8 (c.toNat : Int))
  have h2 := hq.put 0 (.int .u8 (c.toNat : Int))
  refine ⟨h1.put l, (Below.heap_setCell _ _ _ _ (show q ≠ p by omega)).trans h2, ?_⟩
  have h3 := (Moved2.set p q 0 (.int .u8 (c.toNat : Int)) w (Nat.le_of_lt hpq)).trans ((Moved.set p 0 (.string ⟨l.toArray⟩) _).two q)
  exact ⟨h3.low.drew, h3.high⟩
theorem owns_moved2 {w w' : World} {B n size p q : Nat} {e : TypeId} {v : Value} {xs : List Value} (h : w.ownsRow B e size v n xs) (hp : p < B) (hq : q < B) (hm : Moved2 p q w w') : w'.ownsRow B e size v n xs := owns_same h fun g hg => by
  have h1 := own_block_lt h hg
  rcases h.2 with ⟨hv, _⟩ | ⟨g', _, _, hv, hB, _⟩
  · rw [hv] at hg; cases hg
  · rw [hv] at hg; cases hg; exact hm.high _ (by show g' ≠ p; omega) (by show g' ≠ q; omega) h1
theorem Cq.moved2 {p q : Nat} {l : List Value} {w w' : World} (h : Cq q l w) (hpq : q ≠ p) (hm : Moved p w w') : Cq q l w' := h.moved hpq hm
theorem ne_byte {c d : UInt8} (h : c ≠ d) : ((c.toNat : Int) == (d.toNat : Int)) = false := ne_int h
end Go.Proofs.YtgceckejchdnlaaDoor
namespace Go.Proofs.YtgceckejchdnlaaDoor
open Go.RowKit Go.Lib
set_option maxHeartbeats 8000000 in
set_option maxRecDepth 20000 in
theorem let_plain (p q : Nat) (c : UInt8) (l : List UInt8) (x1 x2 x3 x4 x5 x6 x7 x8 x9 x12 : Value) (w : World) (hpq : p < q) (h : Rd p (c :: l) w) (hq : Cq q [.int .u8 0, x1, x2, x3, x4, x5, x6, x7, x8, x9, .bool false, .bool false, x12] w) (hl : l.length ≤ 1000000000) (h115 : c ≠ 115) (h98 : c ≠ 98) (h116 : c ≠ 116) (h58 : c ≠ 58) (k : ∀ w, Calls Tryd.prog 31 #[.int .u8 (c.toNat : Int)] w fun e w' => e = .returned (.bool true) ∧ w' = w) :
    Calls Tryd.prog 41 #[.pointer (some ⟨p, 0, none⟩), .pointer (some ⟨q, 0, none⟩)] w fun e w' => e = .returned (.tuple #[]) ∧ Rd p l w' ∧ Cq q [.int .u8 (c.toNat : Int), x1, x2, x3, x4, x5, x6, x7, x8, x9, .bool false, .bool false, x12] w' ∧ Moved2 p q w w' := by
  obtain ⟨c1, f1⟩ := h.cell
  obtain ⟨d1, e1⟩ := hq.cell 0 rfl
  obtain ⟨S, hS⟩ : ∃ S : ByteArray, S = ⟨(c :: l).toArray⟩ := ⟨_, rfl⟩
  have hAf := let_after hpq h hq hS
  rw [← hS] at c1
  have hE : S.toList.isEmpty = false := by rw [hS]; exact list_full c l
  have hz : S.size = l.length + 1 := by rw [hS]; simp [ByteArray.size]
  have hs : 0 < S.size := by omega
  have hb : S[0] = c := byte0 (r := l) (by rw [hS]) hs
  have hle : (1 : Int) ≤ (l.length : Int) + 1 := by omega
  have HAf := Lib.hid hAf
  clear hS hAf
  clear h hq
  have e115 : ((c.toNat : Int) == 115) = false := ne_byte (d := 115) h115
  have e98 : ((c.toNat : Int) == 98) = false := ne_byte (d := 98) h98
  have e116 : ((c.toNat : Int) == 116) = false := ne_byte (d := 116) h116
  have e58 : ((c.toNat : Int) == 58) = false := ne_byte (d := 58) h58
  go_enter Tryd.func41, Tryd.ntmps41
  go_wp2_with fail
  go_region_law (fail)
  all_goals
    have hA := HAf.out _ rfl
    generalize ((w.setCell ⟨q, 0, none⟩ (.int .u8 (c.toNat : Int))).setCell ⟨p, 0, none⟩ (.string (S.extract 1 (l.length + 1)))).drew = W at hA ⊢
    obtain ⟨hr, hc, hm⟩ := hA
    obtain ⟨g0, _⟩ := hc.cell 0 rfl
    have HM := Lib.hid hm
    clear hm
    go_wp2_with (first | (go_at_call 31; refine (k _).mono ?_; rintro e w1 ⟨rfl, rfl⟩))
    go_end0
    exact ⟨rfl, hr, hc, HM.out⟩

set_option maxHeartbeats 8000000 in
set_option maxRecDepth 20000 in
theorem let_odd (p q : Nat) (c : UInt8) (l : List UInt8) (x1 x2 x3 x4 x5 x6 x7 x8 x9 x12 : Value) (w : World) (hpq : p < q) (h : Rd p (c :: l) w) (hq : Cq q [.int .u8 0, x1, x2, x3, x4, x5, x6, x7, x8, x9, .bool false, .bool false, x12] w) (hl : l.length ≤ 1000000000) (h115 : c ≠ 115) (h98 : c ≠ 98) (h116 : c ≠ 116) (h58 : c ≠ 58) (k : ∀ w, Calls Tryd.prog 31 #[.int .u8 (c.toNat : Int)] w fun e w' => e = .returned (.bool false) ∧ w' = w) :
    Calls Tryd.prog 41 #[.pointer (some ⟨p, 0, none⟩), .pointer (some ⟨q, 0, none⟩)] w fun e w' => e = errV 9 ∧ Below p w w' := by
  unfold errV
  obtain ⟨c1, f1⟩ := h.cell
  obtain ⟨d1, e1⟩ := hq.cell 0 rfl
  obtain ⟨S, hS⟩ : ∃ S : ByteArray, S = ⟨(c :: l).toArray⟩ := ⟨_, rfl⟩
  have hAf := let_after hpq h hq hS
  rw [← hS] at c1
  have hE : S.toList.isEmpty = false := by rw [hS]; exact list_full c l
  have hz : S.size = l.length + 1 := by rw [hS]; simp [ByteArray.size]
  have hs : 0 < S.size := by omega
  have hb : S[0] = c := byte0 (r := l) (by rw [hS]) hs
  have hle : (1 : Int) ≤ (l.length : Int) + 1 := by omega
  have HAf := Lib.hid hAf
  clear hS hAf
  clear h hq
  have e115 : ((c.toNat : Int) == 115) = false := ne_byte (d := 115) h115
  have e98 : ((c.toNat : Int) == 98) = false := ne_byte (d := 98) h98
  have e116 : ((c.toNat : Int) == 116) = false := ne_byte (d := 116) h116
  have e58 : ((c.toNat : Int) == 58) = false := ne_byte (d := 58) h58
  go_enter Tryd.func41, Tryd.ntmps41
  go_wp2_with fail
  go_region_law (fail)
  all_goals
    have hA := HAf.out _ rfl
    generalize ((w.setCell ⟨q, 0, none⟩ (.int .u8 (c.toNat : Int))).setCell ⟨p, 0, none⟩ (.string (S.extract 1 (l.length + 1)))).drew = W at hA ⊢
    obtain ⟨hr, hc, hm⟩ := hA
    obtain ⟨g0, _⟩ := hc.cell 0 rfl
    have HM := Lib.hid hm
    clear hm
    go_wp2_with (first | (go_at_call 31; refine (k _).mono ?_; rintro e w1 ⟨rfl, rfl⟩))
    exact ⟨rfl, rfl, HM.out.low⟩
end Go.Proofs.YtgceckejchdnlaaDoor
namespace Go.Proofs.YtgceckejchdnlaaDoor
open Go.RowKit Go.Lib
set_option maxHeartbeats 8000000 in
set_option maxRecDepth 20000 in
theorem let_b_bare (p q : Nat) (c : UInt8) (l : List UInt8) (x1 x2 x3 x4 x5 x6 x7 x8 x9 x12 : Value) (w : World) (hpq : p < q) (h : Rd p (c :: l) w) (hq : Cq q [.int .u8 0, x1, x2, x3, x4, x5, x6, x7, x8, x9, .bool false, .bool false, x12] w) (hl : l.length ≤ 1000000000) (hc0 : c = 98) (he : endedB (blk l) = true) :
    Calls Tryd.prog 41 #[.pointer (some ⟨p, 0, none⟩), .pointer (some ⟨q, 0, none⟩)] w fun e w' => e = .returned (.tuple #[]) ∧ Rd p (blk l) w' ∧ Cq q [.int .u8 (c.toNat : Int), x1, x2, x3, x4, x5, x6, x7, x8, x9, .bool false, .bool false, x12] w' ∧ Moved2 p q w w' := by
  obtain ⟨c1, f1⟩ := h.cell
  obtain ⟨d1, e1⟩ := hq.cell 0 rfl
  obtain ⟨S, hS⟩ : ∃ S : ByteArray, S = ⟨(c :: l).toArray⟩ := ⟨_, rfl⟩
  have hAf := let_after hpq h hq hS
  rw [← hS] at c1
  have hE : S.toList.isEmpty = false := by rw [hS]; exact list_full c l
  have hz : S.size = l.length + 1 := by rw [hS]; simp [ByteArray.size]
  have hs : 0 < S.size := by omega
  have hb : S[0] = c := byte0 (r := l) (by rw [hS]) hs
  have hle : (1 : Int) ≤ (l.length : Int) + 1 := by omega
  have HAf := Lib.hid hAf
  clear hS hAf
  clear h hq
  have e115 : ((c.toNat : Int) == 115) = false := by rw [hc0]; rfl
  have e98 : ((c.toNat : Int) == 98) = true := by rw [hc0]; rfl
  have e116 : ((c.toNat : Int) == 116) = false := by rw [hc0]; rfl
  have e58 : ((c.toNat : Int) == 58) = false := by rw [hc0]; rfl
  clear hc0
  go_enter Tryd.func41, Tryd.ntmps41
  go_wp2_with fail
  go_region_law (fail)
  all_goals
    have hA := HAf.out _ rfl
    generalize ((w.setCell ⟨q, 0, none⟩ (.int .u8 (c.toNat : Int))).setCell ⟨p, 0, none⟩ (.string (S.extract 1 (l.length + 1)))).drew = W at hA ⊢
    obtain ⟨hr, hc, hm⟩ := hA
    obtain ⟨g0, _⟩ := hc.cell 0 rfl
    have HM := Lib.hid hm
    clear hm
    go_wp2_with (first | (go_at_call 40; refine (blanks_any p l _ hr).mono ?_; rintro e w1 ⟨rfl, r1, m1⟩; have hc1 := hc.moved (by omega) m1; obtain ⟨i0, _⟩ := hc1.cell 0 rfl; have HC1 := Lib.hid (And.intro r1 (And.intro hc1 (HM.out.trans (m1.two q)))); have hr1 := r1; clear hc1 m1 r1) | (go_at_call 42; refine (ended_any p (blk l) _ hr1).mono ?_; rintro e w2 ⟨rfl, rfl⟩))
    first | go_end0 | exact bodyPost_ret (results_none rfl _ _ _) rfl ⟨rfl, HC1.out.1, HC1.out.2.1, HC1.out.2.2⟩
    try exact ⟨rfl, HC1.out.1, HC1.out.2.1, HC1.out.2.2⟩

set_option maxHeartbeats 8000000 in
set_option maxRecDepth 20000 in
theorem let_b_lab (p q : Nat) (c : UInt8) (l : List UInt8) (x1 x2 x3 x4 x5 x6 x7 x8 x9 x12 : Value) (w : World) (hpq : p < q) (h : Rd p (c :: l) w) (hq : Cq q [.int .u8 0, x1, x2, x3, x4, x5, x6, x7, x8, x9, .bool false, .bool false, x12] w) (hl : l.length ≤ 1000000000) (hc0 : c = 98) (he : endedB (blk l) = false) (r : List UInt8) (Y : ByteArray) (k : ∀ w1, Rd p (blk l) w1 → Calls Tryd.prog 57 #[.pointer (some ⟨p, 0, none⟩)] w1 fun e w' => e = .returned (.string Y) ∧ Rd p r w' ∧ Moved p w1 w') :
    Calls Tryd.prog 41 #[.pointer (some ⟨p, 0, none⟩), .pointer (some ⟨q, 0, none⟩)] w fun e w' => e = .returned (.tuple #[]) ∧ Rd p r w' ∧ Cq q [.int .u8 (c.toNat : Int), x1, x2, x3, x4, x5, x6, x7, x8, x9, .bool false, .bool false, .string Y] w' ∧ Moved2 p q w w' := by
  obtain ⟨c1, f1⟩ := h.cell
  obtain ⟨d1, e1⟩ := hq.cell 0 rfl
  obtain ⟨S, hS⟩ : ∃ S : ByteArray, S = ⟨(c :: l).toArray⟩ := ⟨_, rfl⟩
  have hAf := let_after hpq h hq hS
  rw [← hS] at c1
  have hE : S.toList.isEmpty = false := by rw [hS]; exact list_full c l
  have hz : S.size = l.length + 1 := by rw [hS]; simp [ByteArray.size]
  have hs : 0 < S.size := by omega
  have hb : S[0] = c := byte0 (r := l) (by rw [hS]) hs
  have hle : (1 : Int) ≤ (l.length : Int) + 1 := by omega
  have HAf := Lib.hid hAf
  clear hS hAf
  clear h hq
  have e115 : ((c.toNat : Int) == 115) = false := by rw [hc0]; rfl
  have e98 : ((c.toNat : Int) == 98) = true := by rw [hc0]; rfl
  have e116 : ((c.toNat : Int) == 116) = false := by rw [hc0]; rfl
  have e58 : ((c.toNat : Int) == 58) = false := by rw [hc0]; rfl
  clear hc0
  go_enter Tryd.func41, Tryd.ntmps41
  go_wp2_with fail
  go_region_law (fail)
  all_goals
    have hA := HAf.out _ rfl
    generalize ((w.setCell ⟨q, 0, none⟩ (.int .u8 (c.toNat : Int))).setCell ⟨p, 0, none⟩ (.string (S.extract 1 (l.length + 1)))).drew = W at hA ⊢
    obtain ⟨hr, hc, hm⟩ := hA
    obtain ⟨g0, _⟩ := hc.cell 0 rfl
    have HM := Lib.hid hm
    clear hm
    go_wp2_with (first | (go_at_call 40; refine (blanks_any p l _ hr).mono ?_; rintro e w1 ⟨rfl, r1, m1⟩; have hc1 := hc.moved (by omega) m1; obtain ⟨i0, _⟩ := hc1.cell 0 rfl; have HC1 := Lib.hid (And.intro r1 (And.intro hc1 (HM.out.trans (m1.two q)))); have hr1 := r1; clear hc1 m1 r1) | (go_at_call 42; refine (ended_any p (blk l) _ hr1).mono ?_; rintro e w2 ⟨rfl, rfl⟩) | (go_at_call 57; refine (k _ hr1).mono ?_; rintro e w3 ⟨rfl, r3, m3⟩; have hc3 := HC1.out.2.1.moved (by omega) m3; obtain ⟨i12, j12⟩ := hc3.cell 12 rfl; have HC3 := Lib.hid (And.intro (r3.moved2 (q := q) (by omega) 12 (.string Y)) (And.intro (hc3.put 12 (.string Y)) (HC1.out.2.2.trans ((m3.two q).trans (.set p q 12 (.string Y) w3 (Nat.le_of_lt hpq)))))); clear hc3 r3 m3))
    go_end0
    exact ⟨rfl, HC3.out.1, HC3.out.2.1, HC3.out.2.2⟩

set_option maxHeartbeats 8000000 in
set_option maxRecDepth 20000 in
theorem let_b_bad (p q : Nat) (c : UInt8) (l : List UInt8) (x1 x2 x3 x4 x5 x6 x7 x8 x9 x12 : Value) (w : World) (hpq : p < q) (h : Rd p (c :: l) w) (hq : Cq q [.int .u8 0, x1, x2, x3, x4, x5, x6, x7, x8, x9, .bool false, .bool false, x12] w) (hl : l.length ≤ 1000000000) (hc0 : c = 98) (he : endedB (blk l) = false) (k : ∀ w1, Rd p (blk l) w1 → Calls Tryd.prog 57 #[.pointer (some ⟨p, 0, none⟩)] w1 fun e w' => e = errV 9 ∧ Below p w1 w') :
    Calls Tryd.prog 41 #[.pointer (some ⟨p, 0, none⟩), .pointer (some ⟨q, 0, none⟩)] w fun e w' => e = errV 9 ∧ Below p w w' := by
  unfold errV
  obtain ⟨c1, f1⟩ := h.cell
  obtain ⟨d1, e1⟩ := hq.cell 0 rfl
  obtain ⟨S, hS⟩ : ∃ S : ByteArray, S = ⟨(c :: l).toArray⟩ := ⟨_, rfl⟩
  have hAf := let_after hpq h hq hS
  rw [← hS] at c1
  have hE : S.toList.isEmpty = false := by rw [hS]; exact list_full c l
  have hz : S.size = l.length + 1 := by rw [hS]; simp [ByteArray.size]
  have hs : 0 < S.size := by omega
  have hb : S[0] = c := byte0 (r := l) (by rw [hS]) hs
  have hle : (1 : Int) ≤ (l.length : Int) + 1 := by omega
  have HAf := Lib.hid hAf
  clear hS hAf
  clear h hq
  have e115 : ((c.toNat : Int) == 115) = false := by rw [hc0]; rfl
  have e98 : ((c.toNat : Int) == 98) = true := by rw [hc0]; rfl
  have e116 : ((c.toNat : Int) == 116) = false := by rw [hc0]; rfl
  have e58 : ((c.toNat : Int) == 58) = false := by rw [hc0]; rfl
  clear hc0
  unfold errV at k
  go_enter Tryd.func41, Tryd.ntmps41
  go_wp2_with fail
  go_region_law (fail)
  all_goals
    have hA := HAf.out _ rfl
    generalize ((w.setCell ⟨q, 0, none⟩ (.int .u8 (c.toNat : Int))).setCell ⟨p, 0, none⟩ (.string (S.extract 1 (l.length + 1)))).drew = W at hA ⊢
    obtain ⟨hr, hc, hm⟩ := hA
    obtain ⟨g0, _⟩ := hc.cell 0 rfl
    have HM := Lib.hid hm
    clear hm
    go_wp2_with (first | (go_at_call 40; refine (blanks_any p l _ hr).mono ?_; rintro e w1 ⟨rfl, r1, m1⟩; have hc1 := hc.moved (by omega) m1; obtain ⟨i0, _⟩ := hc1.cell 0 rfl; have HC1 := Lib.hid (And.intro r1 (And.intro hc1 (HM.out.trans (m1.two q)))); have hr1 := r1; clear hc1 m1 r1) | (go_at_call 42; refine (ended_any p (blk l) _ hr1).mono ?_; rintro e w2 ⟨rfl, rfl⟩) | (go_at_call 57; refine (k _ hr1).mono ?_; rintro e w3 ⟨rfl, hb3⟩))
    exact ⟨rfl, rfl, HC1.out.2.2.low.trans hb3⟩
end Go.Proofs.YtgceckejchdnlaaDoor
