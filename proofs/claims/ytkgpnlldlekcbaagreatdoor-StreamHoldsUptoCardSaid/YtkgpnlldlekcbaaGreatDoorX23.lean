/- Packed texts: SePart, SeLine, SeAddr, SeFlags. What each of them proves stands above its theorems; the conditions stand in these. -/
import Derived.Deep.LoopGhost
import Derived.Test.YtkgpnlldlekcbaaGreatDoorX0
import Derived.Test.YtkgpnlldlekcbaaGreatDoorX21
import Derived.Test.YtkgpnlldlekcbaaGreatDoorX22
namespace Go.Proofs.YtkgpnlldlekcbaaGreatDoor
open Go.RowKit Go.Lib

theorem part_one (l : List UInt8) (k : Nat) (c : UInt8) (hk : l[k]? = some c) : l.drop k = c :: l.drop (k + 1) := by
  have hlt : k < l.length := by
    by_cases h : k < l.length
    · exact h
    · rw [List.getElem?_eq_none (by omega)] at hk; cases hk
  rw [List.drop_eq_getElem_cons hlt]
  rw [List.getElem?_eq_getElem hlt] at hk
  cases hk; rfl
/-- What is known of a text's part at a place. -/
def PartI (l : List UInt8) (k : Nat) : Prop := partL l = (partL (l.drop k)).map fun p => (l.take k ++ p.1, p.2)
theorem PartI.start (l : List UInt8) : PartI l 0 := by
  unfold PartI
  rw [List.drop_zero, List.take_zero]
  cases partL l <;> rfl
theorem PartI.esc {l : List UInt8} {k : Nat} (h : PartI l k) (hk : l[k]? = some 92) : PartI l (k + 2) := by
  unfold PartI at h ⊢
  rw [h, part_one l k 92 hk]
  cases hd : l[k + 1]? with
  | none =>
    have hn : l.length ≤ k + 1 := by simpa using hd
    rw [List.drop_of_length_le hn, List.drop_of_length_le (by omega), partL_92]
    rfl
  | some d =>
    rw [part_one l (k + 1) d hd, partL_esc]
    rw [show k + 2 = k + 1 + 1 from rfl, take_snocL l (k + 1) d hd, take_snocL l k 92 hk]
    cases partL (l.drop (k + 1 + 1)) with
    | none => rfl
    | some q => simp
theorem PartI.next {l : List UInt8} {k : Nat} {c : UInt8} (h : PartI l k) (hk : l[k]? = some c) (h1 : c ≠ 92) (h2 : c ≠ 47) : PartI l (k + 1) := by
  unfold PartI at h ⊢
  rw [h, part_one l k c hk, partL_other _ h2 h1, take_snocL l k c hk]
  cases partL (l.drop (k + 1)) with
  | none => rfl
  | some q => simp
theorem PartI.stop {l : List UInt8} {k : Nat} (h : PartI l k) (hk : l[k]? = some 47) : partL l = some (l.take k, l.drop (k + 1)) := by
  unfold PartI at h
  rw [h, part_one l k 47 hk, partL_47]
  simp
theorem PartI.none {l : List UInt8} {k : Nat} (h : PartI l k) (hk : l.length ≤ k) : partL l = none := by
  unfold PartI at h
  rw [h, List.drop_of_length_le hk]
  rfl
/-- What part does. -/
def PartE (p : Nat) (l : List UInt8) (w : World) (e : Ending) (w' : World) : Prop := match partL l with
  | some (x, r) => e = .returned (.string ⟨x.toArray⟩) ∧ Rd p r w' ∧ Moved p w w'
  | none => e = errV 9 ∧ w' = w

set_option maxHeartbeats 2000000 in
set_option maxRecDepth 20000 in
theorem part_any (p : Nat) (l : List UInt8) (w : World) (h : Rd p l w) (hl : l.length ≤ 70000000000000) :
    Calls Tryz.prog 140 #[.pointer (some ⟨p, 0, none⟩)] w (PartE p l w) := by
  obtain ⟨c1, f1⟩ := h.cell
  have hput := fun m => h.put m
  have HP := Lib.hid hput
  clear hput h
  obtain ⟨S, hS⟩ : ∃ S : ByteArray, S = ⟨l.toArray⟩ := ⟨_, rfl⟩
  rw [← hS] at c1
  have hz : S.size = l.length := by rw [hS]; simp [ByteArray.size]
  have hget : ∀ (k : Nat) (h : k < S.size), l[k]? = some S[k] := fun k hk => by
    subst hS
    rw [List.getElem?_eq_getElem (by rw [← hz]; exact hk)]
    rfl
  have HG := Lib.hid hget
  have HS := Lib.hid hS
  clear hS hget
  have hs : S.size ≤ 70000000000000 := by omega
  go_enter Tryz.func140, Tryz.ntmps140
  go_wp2
  go_loop [3] (fun i => ∃ k : Nat, k ≤ S.size + 1 ∧ i = .int .i64 k ∧ Hid (PartI l k)) (fun i => S.size + 1 - (RowKit.intOf i).toNat)
  case atStart => exact ⟨0, Nat.zero_le _, rfl, PartI.start l⟩
  case round =>
    obtain ⟨k, hk, rfl, HI⟩ := hrel
    by_cases hlt : k < S.size
    · have HC := Lib.hid (HG.out k hlt)
      obtain ⟨c, hc⟩ : ∃ c, S[k] = c := ⟨_, rfl⟩
      rw [hc] at HC
      by_cases h92 : c = 92
      · subst h92
        have HN := Lib.hid (HI.out.esc HC.out)
        go_wp2
        go_round
        case rel => exact ⟨k + 2, by omega, by go_num, HN.out⟩
        case measure => simp [RowKit.intOf]; omega
      · have e92 : ((c.toNat : Int) == 92) = false := ne_int (y := 92) h92
        by_cases h47 : c = 47
        · subst h47
          have HN := Lib.hid (HI.out.stop HC.out)
          go_wp2
          have h1 : S.extract 0 k = ⟨(l.take k).toArray⟩ := by rw [HS.out]; exact extract_to l k
          have h2 : S.extract (k + 1) l.length = ⟨(l.drop (k + 1)).toArray⟩ := by
            rw [HS.out]
            exact extract_from l (k + 1) l.length (Nat.le_refl _)
          have h3 : PartE p l w = fun e w' => e = .returned (.string ⟨(l.take k).toArray⟩) ∧ Rd p (l.drop (k + 1)) w' ∧ Moved p w w' := by
            funext e w'; unfold PartE; rw [HN.out]
          rw [h3]
          rw [h1, h2]
          exact bodyPost_ret (results_tmp rfl _ _ _) rfl ⟨rfl, HP.out _, Moved.set _ _ _ _⟩
        · have e47 : ((c.toNat : Int) == 47) = false := ne_int (y := 47) h47
          have HN := Lib.hid (HI.out.next HC.out h92 h47)
          go_wp2
          go_round
          case rel => exact ⟨k + 1, by omega, by go_num, HN.out⟩
          case measure => simp [RowKit.intOf]; omega
    · have HN := Lib.hid (HI.out.none (by omega))
      have h3 : PartE p l w = fun e w' => e = errV 9 ∧ w' = w := by
        funext e w'; unfold PartE; rw [HN.out]
      rw [h3]
      unfold errV
      go_wp2
      exact ⟨rfl, rfl, rfl⟩

theorem ev_bad {J : Job} {d n : Nat} {l : List UInt8} {r : Res} (h : Ev J d n l r) : ∀ e, r = .bad e → e = 6 ∨ e = 7 ∨ e = 9 := by
  induction h <;> intro e he <;> grind
theorem reR_bad {l : List UInt8} {e : Int} (h : reR l = .bad e) : e = 6 ∨ e = 7 ∨ e = 9 := by
  have h1 := reR_reads l
  rw [h] at h1
  cases h1 with
  | bad h => exact ev_bad h _ rfl
  | more h => exact .inr (.inr rfl)
/-- What tree does. -/
def TreeE (p : Nat) (l : List UInt8) (w : World) (e : Ending) (w' : World) : Prop := match treeP reR l with
  | .ok t r => ∃ v, e = .returned v ∧ IsRow w.heap.size (t.row 0) v w' ∧ Rd p r w' ∧ Moved p w w'
  | .bad x => e = errV x ∧ Below p w w'
theorem partE_some {p : Nat} {l x r : List UInt8} {w : World} (h : partL l = some (x, r)) : PartE p l w = fun e w' => e = .returned (.string ⟨x.toArray⟩) ∧ Rd p r w' ∧ Moved p w w' := by
  funext e w'; unfold PartE; rw [h]
theorem partE_none {p : Nat} {l : List UInt8} {w : World} (h : partL l = none) : PartE p l w = fun e w' => e = errV 9 ∧ w' = w := by
  funext e w'; unfold PartE; rw [h]
theorem partL_short : ∀ (l x r : List UInt8), partL l = some (x, r) → x.length ≤ l.length
  | [], _, _, h => by cases h
  | c :: l, x, r, h => by
    unfold partL at h
    by_cases h1 : c = 47
    · rw [if_pos h1] at h; cases h; simp
    · rw [if_neg h1] at h
      by_cases h2 : c = 92
      · rw [if_pos h2] at h
        cases l with
        | nil => cases h
        | cons d l' =>
          dsimp only at h
          cases hp : partL l' with
          | none => rw [hp] at h; cases h
          | some q =>
            obtain ⟨q1, q2⟩ := q
            have := partL_short l' q1 q2 hp
            rw [hp] at h
            cases h
            simp only [List.length_cons]
            omega
      · rw [if_neg h2] at h
        cases hp : partL l with
        | none => rw [hp] at h; cases h
        | some q =>
          obtain ⟨q1, q2⟩ := q
          have := partL_short l q1 q2 hp
          rw [hp] at h
          cases h
          simp only [List.length_cons]
          omega
set_option maxHeartbeats 2000000 in
set_option maxRecDepth 20000 in
theorem tree8_ok (p : Nat) (x r : List UInt8) (ts : List Nd) (w : World)
    (k1 : Calls Tryz.prog 140 #[.pointer (some ⟨p, 0, none⟩)] w fun e w' => e = .returned (.string ⟨x.toArray⟩) ∧ Rd p r w' ∧ Moved p w w')
    (k2 : ∀ w1 : World, Calls Tryz.prog 139 #[.string ⟨x.toArray⟩] w1 fun e w' => (∃ v, e = .returned (.tuple #[v, .int .i64 0]) ∧ IsRow w1.heap.size ts v w') ∧ Below w1.heap.size w1 w') :
    Calls Tryz.prog 124 #[.pointer (some ⟨p, 0, none⟩)] w fun e w' => ∃ v, e = .returned v ∧ IsRow w.heap.size ts v w' ∧ Rd p r w' ∧ Moved p w w' := by
  generalize (⟨x.toArray⟩ : ByteArray) = X at k1 k2
  go_enter Tryz.func124, Tryz.ntmps124
  go_wp2_with (first
    | (go_at_call 140; refine k1.mono ?_; rintro e w1 ⟨rfl, h1, m1⟩)
    | (go_at_call 139; refine (k2 _).mono ?_; rintro e w2 ⟨⟨v, rfl, hrow⟩, hb⟩))
  exact bodyPost_ret (results_tmp rfl _ _ _) rfl ⟨v, rfl, owns_base hrow m1.low.size, h1.below hb, m1.trans (.of hb h1.lt)⟩
set_option maxHeartbeats 2000000 in
set_option maxRecDepth 20000 in
theorem tree8_bad (p : Nat) (x r : List UInt8) (er : Int) (w : World) (hb : (er == 0) = false)
    (k1 : Calls Tryz.prog 140 #[.pointer (some ⟨p, 0, none⟩)] w fun e w' => e = .returned (.string ⟨x.toArray⟩) ∧ Rd p r w' ∧ Moved p w w')
    (k2 : ∀ w1 : World, Calls Tryz.prog 139 #[.string ⟨x.toArray⟩] w1 fun e w' => e = .returned (.tuple #[.slice none 0 0, .int .i64 er]) ∧ Below w1.heap.size w1 w') :
    Calls Tryz.prog 124 #[.pointer (some ⟨p, 0, none⟩)] w fun e w' => e = errV er ∧ Below p w w' := by
  generalize (⟨x.toArray⟩ : ByteArray) = X at k1 k2
  unfold errV
  go_enter Tryz.func124, Tryz.ntmps124
  go_wp2_with (first
    | (go_at_call 140; refine k1.mono ?_; rintro e w1 ⟨rfl, h1, m1⟩)
    | (go_at_call 139; refine (k2 _).mono ?_; rintro e w2 ⟨rfl, hb2⟩))
  exact ⟨rfl, rfl, (m1.trans (.of hb2 h1.lt)).low⟩
set_option maxHeartbeats 2000000 in
set_option maxRecDepth 20000 in
theorem tree8_none (p : Nat) (w : World)
    (k1 : Calls Tryz.prog 140 #[.pointer (some ⟨p, 0, none⟩)] w fun e w' => e = errV 9 ∧ w' = w) :
    Calls Tryz.prog 124 #[.pointer (some ⟨p, 0, none⟩)] w fun e w' => e = errV 9 ∧ Below p w w' := by
  unfold errV at k1 ⊢
  go_enter Tryz.func124, Tryz.ntmps124
  go_wp2_with (go_at_call 140; refine k1.mono ?_; rintro e w1 ⟨rfl, rfl⟩)
  exact ⟨rfl, rfl, Below.refl _ _⟩
/-- tree: an expression, up to its slash and behind it. -/
theorem tree8_any (p : Nat) (l : List UInt8) (w : World) (h : Rd p l w) (hl : l.length ≤ 70000000000000) :
    Calls Tryz.prog 124 #[.pointer (some ⟨p, 0, none⟩)] w (TreeE p l w) := by
  have k1 := part_any p l w h hl
  unfold TreeE treeP
  cases hp : partL l with
  | none =>
    rw [partE_none hp] at k1
    exact tree8_none p w k1
  | some q =>
    obtain ⟨x, r⟩ := q
    rw [partE_some hp] at k1
    have hx := partL_short l x r hp
    have k2 := fun w1 => readRe_any x (reR x) w1 (by omega) (reR_reads x)
    dsimp only
    cases hR : reR x with
    | ok t l' =>
      rw [hR] at k2
      exact tree8_ok p x r (t.row 0) w k1 k2
    | bad e =>
      rw [hR] at k2
      refine tree8_bad p x r e w ?_ k1 k2
      rcases reR_bad hR with rfl | rfl | rfl <;> rfl
/-- What replacement does. -/
def PutE (p : Nat) (l : List UInt8) (w : World) (e : Ending) (w' : World) : Prop := match putP l with
  | .ok ys r => ∃ v, e = .returned v ∧ w'.ownsRow w.heap.size 9 1 v ys.length (strC (ys.map mkB)) ∧ Rd p r w' ∧ Moved p w w'
  | .bad x => e = errV x ∧ Below p w w'
set_option maxHeartbeats 2000000 in
set_option maxRecDepth 20000 in
theorem put8_ok (p n : Nat) (x r : List UInt8) (cs : List Value) (w : World)
    (k1 : Calls Tryz.prog 140 #[.pointer (some ⟨p, 0, none⟩)] w fun e w' => e = .returned (.string ⟨x.toArray⟩) ∧ Rd p r w' ∧ Moved p w w')
    (k2 : ∀ w1 : World, Calls Tryz.prog 142 #[.string ⟨x.toArray⟩] w1 fun e w' => (∃ v, e = .returned (.tuple #[v, .int .i64 0]) ∧ w'.ownsRow w1.heap.size 9 1 v n cs) ∧ Below w1.heap.size w1 w') :
    Calls Tryz.prog 127 #[.pointer (some ⟨p, 0, none⟩)] w fun e w' => ∃ v, e = .returned v ∧ w'.ownsRow w.heap.size 9 1 v n cs ∧ Rd p r w' ∧ Moved p w w' := by
  generalize (⟨x.toArray⟩ : ByteArray) = X at k1 k2
  go_enter Tryz.func127, Tryz.ntmps127
  go_wp2_with (first
    | (go_at_call 140; refine k1.mono ?_; rintro e w1 ⟨rfl, h1, m1⟩)
    | (go_at_call 142; refine (k2 _).mono ?_; rintro e w2 ⟨⟨v, rfl, hrow⟩, hb⟩))
  exact bodyPost_ret (results_tmp rfl _ _ _) rfl ⟨v, rfl, owns_base hrow m1.low.size, h1.below hb, m1.trans (.of hb h1.lt)⟩
set_option maxHeartbeats 2000000 in
set_option maxRecDepth 20000 in
theorem put8_bad (p : Nat) (x r : List UInt8) (w : World)
    (k1 : Calls Tryz.prog 140 #[.pointer (some ⟨p, 0, none⟩)] w fun e w' => e = .returned (.string ⟨x.toArray⟩) ∧ Rd p r w' ∧ Moved p w w')
    (k2 : ∀ w1 : World, Calls Tryz.prog 142 #[.string ⟨x.toArray⟩] w1 fun e w' => e = .returned (.tuple #[.slice none 0 0, .int .i64 2]) ∧ Below w1.heap.size w1 w') :
    Calls Tryz.prog 127 #[.pointer (some ⟨p, 0, none⟩)] w fun e w' => e = errV 9 ∧ Below p w w' := by
  generalize (⟨x.toArray⟩ : ByteArray) = X at k1 k2
  unfold errV
  go_enter Tryz.func127, Tryz.ntmps127
  go_wp2_with (first
    | (go_at_call 140; refine k1.mono ?_; rintro e w1 ⟨rfl, h1, m1⟩)
    | (go_at_call 142; refine (k2 _).mono ?_; rintro e w2 ⟨rfl, hb2⟩))
  exact ⟨rfl, rfl, (m1.trans (.of hb2 h1.lt)).low⟩
set_option maxHeartbeats 2000000 in
set_option maxRecDepth 20000 in
theorem put8_none (p : Nat) (w : World)
    (k1 : Calls Tryz.prog 140 #[.pointer (some ⟨p, 0, none⟩)] w fun e w' => e = errV 9 ∧ w' = w) :
    Calls Tryz.prog 127 #[.pointer (some ⟨p, 0, none⟩)] w fun e w' => e = errV 9 ∧ Below p w w' := by
  unfold errV at k1 ⊢
  go_enter Tryz.func127, Tryz.ntmps127
  go_wp2_with (go_at_call 140; refine k1.mono ?_; rintro e w1 ⟨rfl, rfl⟩)
  exact ⟨rfl, rfl, Below.refl _ _⟩
/-- replacement: a replacement, up to its slash and behind it. -/
theorem put8_any (p : Nat) (l : List UInt8) (w : World) (h : Rd p l w) (hl : l.length ≤ 1000000000) :
    Calls Tryz.prog 127 #[.pointer (some ⟨p, 0, none⟩)] w (PutE p l w) := by
  have k1 := part_any p l w h (by omega)
  unfold PutE putP
  cases hp : partL l with
  | none =>
    rw [partE_none hp] at k1
    exact put8_none p w k1
  | some q =>
    obtain ⟨x, r⟩ := q
    rw [partE_some hp] at k1
    have hx := partL_short l x r hp
    have k2 := fun w1 => suRead_walk ⟨x.toArray⟩ w1 (by show x.toArray.size ≤ _; rw [List.size_toArray]; omega)
    dsimp only at k2 ⊢
    unfold ReadA at k2
    cases hR : readD' x with
    | some ys =>
      rw [hR] at k2
      dsimp only at k2 ⊢
      exact put8_ok p _ x r _ w k1 fun w1 => (k2 w1)
    | none =>
      rw [hR] at k2
      exact put8_bad p x r w k1 k2
end Go.Proofs.YtkgpnlldlekcbaaGreatDoor
namespace Go.Proofs.YtkgpnlldlekcbaaGreatDoor
open Go.RowKit Go.Lib

/-- What line does. -/
def LineE (p : Nat) (l : List UInt8) (w : World) (e : Ending) (w' : World) : Prop := match lineP l with
  | .ok n r => e = .returned (.int .i64 (n : Int)) ∧ Rd p r w' ∧ Moved p w w'
  | .bad x => e = errV x ∧ Below p w w'
set_option maxHeartbeats 2000000 in
set_option maxRecDepth 20000 in
theorem line8_err (p : Nat) (S : ByteArray) (w : World) (c1 : w.cell? ⟨p, 0, none⟩ = some (.string S))
    (k1 : ∀ w, Calls Tryz.prog 141 #[.string S] w fun e w' => e = .returned (.tuple #[.int .i64 0, .int .i64 0, .int .i64 3]) ∧ w = w') :
    Calls Tryz.prog 125 #[.pointer (some ⟨p, 0, none⟩)] w fun e w' => e = errV 9 ∧ Below p w w' := by
  unfold errV
  go_enter Tryz.func125, Tryz.ntmps125
  go_wp2_with (go_at_call 141; refine (k1 _).mono ?_; rintro e w1 ⟨rfl, rfl⟩)
  exact ⟨rfl, rfl, Below.refl _ _⟩
set_option maxHeartbeats 2000000 in
set_option maxRecDepth 20000 in
theorem line8_far (p : Nat) (S : ByteArray) (n u : Int) (w : World) (c1 : w.cell? ⟨p, 0, none⟩ = some (.string S)) (hn : 1000000000 < n)
    (k1 : ∀ w, Calls Tryz.prog 141 #[.string S] w fun e w' => e = .returned (.tuple #[.int .i64 n, .int .i64 u, .int .i64 0]) ∧ w = w') :
    Calls Tryz.prog 125 #[.pointer (some ⟨p, 0, none⟩)] w fun e w' => e = errV 9 ∧ Below p w w' := by
  have h1 : decide (n < 1) = false := by simp; omega
  have h2 : decide (1000000000 < n) = true := by simpa using hn
  unfold errV
  go_enter Tryz.func125, Tryz.ntmps125
  go_wp2_with (go_at_call 141; refine (k1 _).mono ?_; rintro e w1 ⟨rfl, rfl⟩)
  exact ⟨rfl, rfl, Below.refl _ _⟩
set_option maxHeartbeats 2000000 in
set_option maxRecDepth 20000 in
theorem line8_low (p : Nat) (S : ByteArray) (n u : Int) (w : World) (c1 : w.cell? ⟨p, 0, none⟩ = some (.string S)) (hn : n < 1)
    (k1 : ∀ w, Calls Tryz.prog 141 #[.string S] w fun e w' => e = .returned (.tuple #[.int .i64 n, .int .i64 u, .int .i64 0]) ∧ w = w') :
    Calls Tryz.prog 125 #[.pointer (some ⟨p, 0, none⟩)] w fun e w' => e = errV 9 ∧ Below p w w' := by
  have h1 : decide (n < 1) = true := by simpa using hn
  unfold errV
  go_enter Tryz.func125, Tryz.ntmps125
  go_wp2_with (go_at_call 141; refine (k1 _).mono ?_; rintro e w1 ⟨rfl, rfl⟩)
  exact ⟨rfl, rfl, Below.refl _ _⟩
set_option maxHeartbeats 2000000 in
set_option maxRecDepth 20000 in
theorem line8_ok (p : Nat) (S : ByteArray) (n : Int) (u : Nat) (w : World) (c1 : w.cell? ⟨p, 0, none⟩ = some (.string S)) (f1 : w.frozen? ⟨p, 0, none⟩ = false) (hn : 1 ≤ n) (hn2 : n ≤ 1000000000) (hu : u ≤ S.size) (_hs : S.size ≤ 70000000000000)
    (k1 : ∀ w, Calls Tryz.prog 141 #[.string S] w fun e w' => e = .returned (.tuple #[.int .i64 n, .int .i64 (u : Int), .int .i64 0]) ∧ w = w') :
    Calls Tryz.prog 125 #[.pointer (some ⟨p, 0, none⟩)] w fun e w' => e = .returned (.int .i64 n) ∧ w' = w.setCell ⟨p, 0, none⟩ (.string (S.extract u S.size)) := by
  have h1 : decide (n < 1) = false := by simp; omega
  have h2 : decide (1000000000 < n) = false := by simp; omega
  go_enter Tryz.func125, Tryz.ntmps125
  go_wp2_with (go_at_call 141; refine (k1 _).mono ?_; rintro e w1 ⟨rfl, rfl⟩)
  exact bodyPost_ret (results_tmp rfl _ _ _) rfl ⟨rfl, rfl⟩
theorem fig_whole {c : UInt8} {r : List UInt8} (hc : isFig c = true) : wholeD (c :: r) = if natOf (figs (c :: r)) ≤ 9223372036854775807 then ((natOf (figs (c :: r)) : Int), (((figs (c :: r)).length : Nat) : Int), 0) else (0, 0, 3) := by
  have h1 : isNeg (c :: r) = false := by
    unfold isNeg
    rw [List.head?_cons, beq_eq_false_iff_ne]
    rintro h; cases h; cases hc
  have h2 : afterSign (c :: r) = c :: r := by unfold afterSign; rw [if_neg (by rw [h1]; simp)]
  have h3 : figs (c :: r) ≠ [] := by unfold figs; rw [List.takeWhile_cons_of_pos hc]; simp
  unfold wholeD
  rw [h2, if_neg h3, if_neg (by rw [h1]; simp)]
/-- line: the number of a line. -/
theorem line8_any (p : Nat) (c : UInt8) (r : List UInt8) (w : World) (h : Rd p (c :: r) w) (hc : isFig c = true) (hl : (c :: r).length ≤ 70000000000000) :
    Calls Tryz.prog 125 #[.pointer (some ⟨p, 0, none⟩)] w (LineE p (c :: r) w) := by
  obtain ⟨c1, f1⟩ := h.cell
  have k1 : ∀ w, Calls Tryz.prog 141 #[.string ⟨(c :: r).toArray⟩] w fun e w' => e = wholeE (c :: r) ∧ w = w' := fun w => whole_any ⟨(c :: r).toArray⟩ w (by show (c :: r).toArray.size ≤ _; rw [List.size_toArray]; exact hl)
  have hz : (⟨(c :: r).toArray⟩ : ByteArray).size = (c :: r).length := by simp [ByteArray.size]
  have hw := fig_whole (c := c) (r := r) hc
  have hfl := figs_length_le (c :: r)
  unfold wholeE at k1
  rw [hw] at k1
  unfold LineE lineP
  by_cases h1 : natOf (figs (c :: r)) ≤ 9223372036854775807
  · rw [if_pos h1] at k1
    by_cases h2 : natOf (figs (c :: r)) ≤ 1000000000
    · by_cases h3 : 1 ≤ natOf (figs (c :: r))
      · rw [if_pos ⟨h3, h2⟩]
        have h4 := line8_ok p ⟨(c :: r).toArray⟩ (natOf (figs (c :: r)) : Int) (figs (c :: r)).length w c1 f1 (by omega) (by omega) (by rw [hz]; exact hfl) (by rw [hz]; exact hl) k1
        refine h4.mono ?_
        rintro e w' ⟨rfl, rfl⟩
        have h5 : (⟨(c :: r).toArray⟩ : ByteArray).extract (figs (c :: r)).length (⟨(c :: r).toArray⟩ : ByteArray).size = ⟨((c :: r).drop (figs (c :: r)).length).toArray⟩ := extract_from (c :: r) _ _ (by rw [hz]; exact Nat.le_refl _)
        rw [h5]
        exact ⟨rfl, h.put _, Moved.set _ _ _ _⟩
      · rw [if_neg (fun e => h3 e.1)]
        exact line8_low p _ _ _ w c1 (by omega) k1
    · rw [if_neg (fun e => h2 e.2)]
      exact line8_far p _ _ _ w c1 (by omega) k1
  · rw [if_neg h1] at k1
    rw [if_neg (fun e => h1 (by have := e.2; omega))]
    exact line8_err p _ w c1 k1
end Go.Proofs.YtkgpnlldlekcbaaGreatDoor
namespace Go.Proofs.YtkgpnlldlekcbaaGreatDoor
open Go.RowKit Go.Lib

/-- An address's slice. -/
def AdS (B : Nat) (a : Ad) (v : Value) (w : World) : Prop := match a with
  | .re t => IsRow B (t.row 0) v w
  | _ => v = .slice none 0 0
theorem AdS.moved {p B : Nat} {a : Ad} {v : Value} {w w' : World} (h : AdS B a v w) (hp : p < B) (hm : Moved p w w') : AdS B a v w' := by
  cases a with
  | re t => exact owns_moved h hp hm
  | none => exact h
  | line n => exact h
  | last => exact h
theorem AdS.base {B B' : Nat} {a : Ad} {v : Value} {w : World} (h : AdS B a v w) (hB : B' ≤ B) : AdS B' a v w := by
  cases a with
  | re t => exact owns_base h hB
  | none => exact h
  | line n => exact h
  | last => exact h
theorem AdS.below {B : Nat} {a : Ad} {v : Value} {w w' : World} (h : AdS B a v w) (hb : Below w.heap.size w w') : AdS B a v w' := by
  cases a with
  | re t => exact owns_same h fun g hg => hb.block g (own_block_lt h hg)
  | none => exact h
  | line n => exact h
  | last => exact h
/-- What address does. -/
def AdE (p : Nat) (l : List UInt8) (w : World) (e : Ending) (w' : World) : Prop := match adP reR l with
  | .ok a r => ∃ v, e = .returned (.agg #[.int .i64 (a.k : Int), .int .i64 (a.n : Int), v]) ∧ AdS w.heap.size a v w' ∧ Rd p r w' ∧ Moved p w w'
  | .bad x => e = errV x ∧ Below p w w'
def figS : List UInt8 := [48, 49, 50, 51, 52, 53, 54, 55, 56, 57]
theorem figS_all : ∀ n : Fin 256, figS.contains (UInt8.ofNat n.val) = isFig (UInt8.ofNat n.val) := by decide +kernel
theorem figS_is (c : UInt8) : figS.contains c = isFig c := by
  have := figS_all ⟨c.toNat, c.toNat_lt⟩
  simpa using this
theorem cell_three {w : World} {g : Nat} {t : TypeId} {p q r : Value} (h : w.heap[g]? = some (.cells #[p, q, r] t (0, 0))) :
    w.cell? ⟨g, 0, none⟩ = some p ∧ w.cell? ⟨g, 1, none⟩ = some q ∧ w.cell? ⟨g, 2, none⟩ = some r :=
  ⟨cell_of_row w g 0 _ _ _ h, cell_of_row w g 1 _ _ _ h, cell_of_row w g 2 _ _ _ h⟩
theorem Tryz.infoAddr : (Tryz.prog.info? 39).map (·.size) = some 3 := by kernel_rfl
theorem three_frozen {w : World} {g : Nat} {t : TypeId} {p q r : Value} (h : w.heap[g]? = some (.cells #[p, q, r] t (0, 0))) :
    w.frozen? ⟨g, 0, none⟩ = false ∧ w.frozen? ⟨g, 1, none⟩ = false ∧ w.frozen? ⟨g, 2, none⟩ = false := ⟨frozen_of_row w g 0 _ _ h, frozen_of_row w g 1 _ _ h, frozen_of_row w g 2 _ _ h⟩
/-- The block of the answer, as it is made. -/
def W3 (w : World) : World := w.alloc (.cells #[.int .i64 0, .int .i64 0, .slice none 0 0] 39)
theorem W3.below (w : World) : Below w.heap.size w (W3 w) := (Below.refl _ w).alloc (Nat.le_refl _) _
theorem W3.size (w : World) : (W3 w).heap.size = w.heap.size + 1 := by simp [W3]
theorem W3.cells {p : Nat} {w w1 : World} (hp : p < w.heap.size) (m1 : Moved p (W3 w) w1) : w1.heap[w.heap.size]? = some (.cells #[.int .i64 0, .int .i64 0, .slice none 0 0] 39 (0, 0)) :=
  (m1.high _ (by omega) (by rw [W3.size]; omega)).trans (heap_alloc_new w _)
theorem addr_done {p : Nat} {w w1 : World} {r : List UInt8} (k n v : Value) (hp : p < w.heap.size) (m1 : Moved p (W3 w) w1) (h1 : Rd p r w1) :
    (((w1.setCell ⟨w.heap.size, 0, none⟩ k).setCell ⟨w.heap.size, 1, none⟩ n).setCell ⟨w.heap.size, 2, none⟩ v).heap[w.heap.size]? = some (.cells #[k, n, v] 39 (0, 0)) ∧
    Rd p r (((w1.setCell ⟨w.heap.size, 0, none⟩ k).setCell ⟨w.heap.size, 1, none⟩ n).setCell ⟨w.heap.size, 2, none⟩ v) ∧
    Moved p w (((w1.setCell ⟨w.heap.size, 0, none⟩ k).setCell ⟨w.heap.size, 1, none⟩ n).setCell ⟨w.heap.size, 2, none⟩ v) ∧
    ∀ g, g ≠ w.heap.size → (((w1.setCell ⟨w.heap.size, 0, none⟩ k).setCell ⟨w.heap.size, 1, none⟩ n).setCell ⟨w.heap.size, 2, none⟩ v).heap[g]? = w1.heap[g]? := by
  have h0 := W3.cells hp m1
  have a1 := heap_setCell_same w1 w.heap.size 0 _ _ k h0
  have a2 := heap_setCell_same _ w.heap.size 1 _ _ n a1
  have a3 := heap_setCell_same _ w.heap.size 2 _ _ v a2
  have ho : ∀ g, g ≠ w.heap.size → (((w1.setCell ⟨w.heap.size, 0, none⟩ k).setCell ⟨w.heap.size, 1, none⟩ n).setCell ⟨w.heap.size, 2, none⟩ v).heap[g]? = w1.heap[g]? := fun g hg => by
    rw [Below.heap_setCell _ _ _ _ hg, Below.heap_setCell _ _ _ _ hg, Below.heap_setCell _ _ _ _ hg]
  refine ⟨a3, (ho p (by omega)).trans h1, ⟨?_, fun g hg hs => ?_⟩, ho⟩
  · have hb : Below p w w1 := ((W3.below w).mono (Nat.le_of_lt hp)).trans m1.low
    exact ((hb.setCell (p := ⟨w.heap.size, 0, none⟩) (Nat.le_of_lt hp) _).setCell (p := ⟨w.heap.size, 1, none⟩) (Nat.le_of_lt hp) _).setCell (p := ⟨w.heap.size, 2, none⟩) (Nat.le_of_lt hp) _
  · rw [ho g (by omega), m1.high g hg (by rw [W3.size]; omega)]
    exact (W3.below w).block g hs
set_option maxHeartbeats 4000000 in
set_option maxRecDepth 20000 in
/-- None of these. -/
theorem addr_none (p : Nat) (l : List UInt8) (w : World) (h : Rd p l w) (h1 : isI 36 l = false) (h2 : isI 47 l = false) (h3 : atB figS l = false) :
    Calls Tryz.prog 103 #[.pointer (some ⟨p, 0, none⟩)] w fun e w' => ∃ v, e = .returned (.agg #[.int .i64 0, .int .i64 0, v]) ∧ v = .slice none 0 0 ∧ Rd p l w' ∧ Moved p w w' := by
  have n := fun w' (h : Rd p l w') => takeI_no p l w' h
  have at' : ∀ w', Rd p l w' → Calls Tryz.prog 79 #[.pointer (some ⟨p, 0, none⟩), .string ⟨#[48, 49, 50, 51, 52, 53, 54, 55, 56, 57]⟩] w' fun e w'' => e = .returned (.bool false) ∧ w'' = w' := fun w' hr => by
    have := at8_any p figS l w' hr
    rwa [h3] at this
  have hb : Rd p l (w.alloc (.cells #[.int .i64 0, .int .i64 0, .slice none 0 0] 39)) := h.below (W3.below w)
  have HM := Lib.hid (Moved.of (W3.below w) h.lt)
  have HH := Lib.hid (heap_alloc_new w (.cells #[.int .i64 0, .int .i64 0, .slice none 0 0] 39))
  clear h h3
  go_enter Tryz.func103, Tryz.ntmps103
  go_wp2_with (first
    | (go_at_call 104; refine (n _ hb _ (by decide) (by decide) (by assumption)).mono ?_; rintro e w1 ⟨rfl, rfl⟩)
    | (go_at_call 79; refine (at' _ hb).mono ?_; rintro e w1 ⟨rfl, rfl⟩))
  exact bodyPost_ret (v := .agg _) (results_cell_row (p := 2) (ty := 39) Tryz.results103 _ _ w.heap.size 39 _ (0, 0) _ rfl HH.out Tryz.underlying39 rfl Tryz.infoAddr) rfl ⟨_, rfl, rfl, hb, HM.out⟩
set_option maxHeartbeats 4000000 in
set_option maxRecDepth 20000 in
/-- The last line. -/
theorem addr_last (p : Nat) (l : List UInt8) (w : World) (h : Rd p l w) (hl : l.length ≤ 1000000000) (h1 : isI 36 l = true) :
    Calls Tryz.prog 103 #[.pointer (some ⟨p, 0, none⟩)] w fun e w' => ∃ v, e = .returned (.agg #[.int .i64 2, .int .i64 0, v]) ∧ v = .slice none 0 0 ∧ Rd p l.tail w' ∧ Moved p w w' := by
  have hb : Rd p l (W3 w) := h.below (W3.below w)
  have y := takeI_yes p l (W3 w) hb (by omega) 36 (by decide) (by decide) h1
  have HP := Lib.hid h.lt
  clear h hb h1
  have HW := Lib.hid (show W3 w = w.alloc (.cells #[.int .i64 0, .int .i64 0, .slice none 0 0] 39) from rfl)
  go_enter Tryz.func103, Tryz.ntmps103
  go_wp2_with (first
    | (go_at_call 104; rw [← HW.out]; refine y.mono ?_; rintro e w1 ⟨rfl, h1, m1⟩
       have hc := W3.cells HP.out m1
       obtain ⟨c0, c1, c2⟩ := cell_three hc
       obtain ⟨f0, f1, f2⟩ := three_frozen hc
       have HD := Lib.hid (addr_done (.int .i64 2) (.int .i64 0) (.slice none 0 0) HP.out m1 h1)
       clear hc h1 m1))
  exact bodyPost_ret (v := .agg _) (results_cell_row (p := 2) (ty := 39) Tryz.results103 _ _ w.heap.size 39 _ (0, 0) _ rfl HD.out.1 Tryz.underlying39 rfl Tryz.infoAddr) rfl ⟨_, rfl, rfl, HD.out.2.1, HD.out.2.2.1⟩
set_option maxHeartbeats 4000000 in
set_option maxRecDepth 20000 in
/-- An expression. -/
theorem addr_re_ok (p : Nat) (l r : List UInt8) (ts : List Nd) (w : World) (h : Rd p l w) (hl : l.length ≤ 1000000000) (h1 : isI 36 l = false) (h2 : isI 47 l = true)
    (k : ∀ w1, Rd p l.tail w1 → Calls Tryz.prog 124 #[.pointer (some ⟨p, 0, none⟩)] w1 fun e w' => ∃ v, e = .returned v ∧ IsRow w1.heap.size ts v w' ∧ Rd p r w' ∧ Moved p w1 w') :
    Calls Tryz.prog 103 #[.pointer (some ⟨p, 0, none⟩)] w fun e w' => ∃ v, e = .returned (.agg #[.int .i64 3, .int .i64 0, v]) ∧ IsRow w.heap.size ts v w' ∧ Rd p r w' ∧ Moved p w w' := by
  have hb : Rd p l (W3 w) := h.below (W3.below w)
  have n := takeI_no p l (W3 w) hb 36 (by decide) (by decide) h1
  have y := takeI_yes p l (W3 w) hb (by omega) 47 (by decide) (by decide) h2
  have HP := Lib.hid h.lt
  clear h hb
  have HW := Lib.hid (show W3 w = w.alloc (.cells #[.int .i64 0, .int .i64 0, .slice none 0 0] 39) from rfl)
  have HSZ := Lib.hid (W3.size w)
  go_enter Tryz.func103, Tryz.ntmps103
  go_wp2_with fail
  rw [← HW.out]
  refine n.mono ?_
  rintro e w1 ⟨rfl, hw1⟩
  rw [hw1]
  clear hw1 n
  go_wp2_with fail
  refine y.mono ?_
  rintro e w2 ⟨rfl, r2, m2⟩
  have k2 := k w2 r2
  have HR := Lib.hid (And.intro r2 m2)
  clear y k r2 m2
  go_wp2_with (first
    | (go_at_call 124; refine k2.mono ?_; rintro e w3 ⟨v, rfl, hrow, h3, m3⟩
       obtain ⟨ao, cap, rfl⟩ := isRow_slice hrow
       have m13 := HR.out.2.trans m3
       have hc := W3.cells HP.out m13
       obtain ⟨c0, c1, c2⟩ := cell_three hc
       obtain ⟨f0, f1, f2⟩ := three_frozen hc
       have HD := Lib.hid (addr_done (.int .i64 3) (.int .i64 0) (.slice ao ts.length cap) HP.out m13 h3)
       have HRow := Lib.hid hrow
       clear hc h3 m3 m13 hrow))
  have hsz : w.heap.size < w2.heap.size := by have := HR.out.2.low.size; have := HSZ.out; omega
  have hX := owns_same (owns_base HRow.out (Nat.le_of_lt hsz)) fun g hg => HD.out.2.2.2 g (by
    have := HRow.out
    rcases this.2 with ⟨hv, _⟩ | ⟨g', _, _, hv, hB, _⟩
    · rw [hv] at hg; cases hg
    · rw [hv] at hg; cases hg; show g' ≠ _; omega)
  exact bodyPost_ret (v := .agg _) (results_cell_row (p := 2) (ty := 39) Tryz.results103 _ _ w.heap.size 39 _ (0, 0) _ rfl HD.out.1 Tryz.underlying39 rfl Tryz.infoAddr) rfl ⟨_, rfl, hX, HD.out.2.1, HD.out.2.2.1⟩
set_option maxHeartbeats 4000000 in
set_option maxRecDepth 20000 in
theorem addr_re_bad (p : Nat) (l : List UInt8) (x : Int) (w : World) (h : Rd p l w) (hl : l.length ≤ 1000000000) (h1 : isI 36 l = false) (h2 : isI 47 l = true)
    (k : ∀ w1, Rd p l.tail w1 → Calls Tryz.prog 124 #[.pointer (some ⟨p, 0, none⟩)] w1 fun e w' => e = errV x ∧ Below p w1 w') :
    Calls Tryz.prog 103 #[.pointer (some ⟨p, 0, none⟩)] w fun e w' => e = errV x ∧ Below p w w' := by
  have hb : Rd p l (W3 w) := h.below (W3.below w)
  have n := takeI_no p l (W3 w) hb 36 (by decide) (by decide) h1
  have y := takeI_yes p l (W3 w) hb (by omega) 47 (by decide) (by decide) h2
  have HP := Lib.hid h.lt
  clear h hb
  have HW := Lib.hid (show W3 w = w.alloc (.cells #[.int .i64 0, .int .i64 0, .slice none 0 0] 39) from rfl)
  have HB := Lib.hid ((W3.below w).mono (Nat.le_of_lt HP.out))
  unfold errV at k ⊢
  go_enter Tryz.func103, Tryz.ntmps103
  go_wp2_with fail
  rw [← HW.out]
  refine n.mono ?_
  rintro e w1 ⟨rfl, hw1⟩
  rw [hw1]
  clear hw1 n
  go_wp2_with fail
  refine y.mono ?_
  rintro e w2 ⟨rfl, r2, m2⟩
  have k2 := k w2 r2
  have HR := Lib.hid (And.intro r2 m2)
  clear y k r2 m2
  go_wp2_with (first
    | (go_at_call 124; refine k2.mono ?_; rintro e w3 ⟨rfl, hb3⟩))
  exact ⟨rfl, rfl, HB.out.trans (HR.out.2.low.trans hb3)⟩
set_option maxHeartbeats 4000000 in
set_option maxRecDepth 20000 in
/-- A line. -/
theorem addr_line_ok (p : Nat) (l r : List UInt8) (m : Int) (w : World) (h : Rd p l w) (h1 : isI 36 l = false) (h2 : isI 47 l = false) (h3 : atB figS l = true)
    (k : ∀ w1, Rd p l w1 → Calls Tryz.prog 125 #[.pointer (some ⟨p, 0, none⟩)] w1 fun e w' => e = .returned (.int .i64 m) ∧ Rd p r w' ∧ Moved p w1 w') :
    Calls Tryz.prog 103 #[.pointer (some ⟨p, 0, none⟩)] w fun e w' => ∃ v, e = .returned (.agg #[.int .i64 1, .int .i64 m, v]) ∧ v = .slice none 0 0 ∧ Rd p r w' ∧ Moved p w w' := by
  have hb : Rd p l (W3 w) := h.below (W3.below w)
  have n := takeI_no p l (W3 w) hb
  have at' : Calls Tryz.prog 79 #[.pointer (some ⟨p, 0, none⟩), .string ⟨#[48, 49, 50, 51, 52, 53, 54, 55, 56, 57]⟩] (W3 w) fun e w'' => e = .returned (.bool true) ∧ w'' = W3 w := by
    have := at8_any p figS l (W3 w) hb
    rwa [h3] at this
  have HP := Lib.hid h.lt
  have HH := Lib.hid hb
  have k2 := k (W3 w) hb
  clear h hb h3 k
  have HW := Lib.hid (show W3 w = w.alloc (.cells #[.int .i64 0, .int .i64 0, .slice none 0 0] 39) from rfl)
  go_enter Tryz.func103, Tryz.ntmps103
  go_wp2_with fail
  rw [← HW.out]
  refine (n _ (by decide) (by decide) h1).mono ?_
  rintro e w1 ⟨rfl, hw1⟩
  rw [hw1]
  clear hw1
  go_wp2_with fail
  refine (n _ (by decide) (by decide) h2).mono ?_
  rintro e w1 ⟨rfl, hw1⟩
  rw [hw1]
  clear hw1 n
  go_wp2_with fail
  refine at'.mono ?_
  rintro e w1 ⟨rfl, hw1⟩
  rw [hw1]
  clear hw1 at'
  go_wp2_with (first
    | (go_at_call 125; refine k2.mono ?_; rintro e w3 ⟨rfl, h3, m3⟩
       have hc := W3.cells HP.out m3
       obtain ⟨c0, c1, c2⟩ := cell_three hc
       obtain ⟨f0, f1, f2⟩ := three_frozen hc
       have HD := Lib.hid (addr_done (.int .i64 1) (.int .i64 m) (.slice none 0 0) HP.out m3 h3)
       clear hc h3 m3))
  exact bodyPost_ret (v := .agg _) (results_cell_row (p := 2) (ty := 39) Tryz.results103 _ _ w.heap.size 39 _ (0, 0) _ rfl HD.out.1 Tryz.underlying39 rfl Tryz.infoAddr) rfl ⟨_, rfl, rfl, HD.out.2.1, HD.out.2.2.1⟩
set_option maxHeartbeats 4000000 in
set_option maxRecDepth 20000 in
theorem addr_line_bad (p : Nat) (l : List UInt8) (x : Int) (w : World) (h : Rd p l w) (h1 : isI 36 l = false) (h2 : isI 47 l = false) (h3 : atB figS l = true)
    (k : ∀ w1, Rd p l w1 → Calls Tryz.prog 125 #[.pointer (some ⟨p, 0, none⟩)] w1 fun e w' => e = errV x ∧ Below p w1 w') :
    Calls Tryz.prog 103 #[.pointer (some ⟨p, 0, none⟩)] w fun e w' => e = errV x ∧ Below p w w' := by
  have hb : Rd p l (W3 w) := h.below (W3.below w)
  have n := takeI_no p l (W3 w) hb
  have at' : Calls Tryz.prog 79 #[.pointer (some ⟨p, 0, none⟩), .string ⟨#[48, 49, 50, 51, 52, 53, 54, 55, 56, 57]⟩] (W3 w) fun e w'' => e = .returned (.bool true) ∧ w'' = W3 w := by
    have := at8_any p figS l (W3 w) hb
    rwa [h3] at this
  have k2 := k (W3 w) hb
  have HB := Lib.hid ((W3.below w).mono (Nat.le_of_lt h.lt))
  clear h hb h3 k
  have HW := Lib.hid (show W3 w = w.alloc (.cells #[.int .i64 0, .int .i64 0, .slice none 0 0] 39) from rfl)
  unfold errV at k2 ⊢
  go_enter Tryz.func103, Tryz.ntmps103
  go_wp2_with fail
  rw [← HW.out]
  refine (n _ (by decide) (by decide) h1).mono ?_
  rintro e w1 ⟨rfl, hw1⟩
  rw [hw1]
  clear hw1
  go_wp2_with fail
  refine (n _ (by decide) (by decide) h2).mono ?_
  rintro e w1 ⟨rfl, hw1⟩
  rw [hw1]
  clear hw1 n
  go_wp2_with fail
  refine at'.mono ?_
  rintro e w1 ⟨rfl, hw1⟩
  rw [hw1]
  clear hw1 at'
  go_wp2_with (first
    | (go_at_call 125; refine k2.mono ?_; rintro e w3 ⟨rfl, hb3⟩))
  exact ⟨rfl, rfl, HB.out.trans hb3⟩
theorem isI_cons (i : UInt8) (c : UInt8) (l : List UInt8) : isI (i.toNat : Int) (c :: l) = decide (c = i) := by
  rw [Bool.eq_iff_iff, isI_head]
  simp
/-- address: an address, or none. -/
theorem addr_any (p : Nat) (l : List UInt8) (w : World) (h : Rd p l w) (hl : l.length ≤ 1000000000) :
    Calls Tryz.prog 103 #[.pointer (some ⟨p, 0, none⟩)] w (AdE p l w) := by
  unfold AdE
  cases l with
  | nil => exact addr_none p [] w h rfl rfl rfl
  | cons c l =>
    have e36 : isI 36 (c :: l) = decide (c = 36) := isI_cons 36 c l
    have e47 : isI 47 (c :: l) = decide (c = 47) := isI_cons 47 c l
    have ef : atB figS (c :: l) = isFig c := figS_is c
    simp only [List.length_cons] at hl
    unfold adP
    dsimp only
    by_cases h36 : c = 36
    · rw [if_pos h36]
      exact addr_last p (c :: l) w h (by simp only [List.length_cons]; omega) (by rw [e36]; simpa using h36)
    · rw [if_neg h36]
      have f36 : isI 36 (c :: l) = false := by rw [e36]; simpa using h36
      by_cases h47 : c = 47
      · rw [if_pos h47]
        have f47 : isI 47 (c :: l) = true := by rw [e47]; simpa using h47
        have k := fun w1 (h1 : Rd p l w1) => tree8_any p l w1 h1 (by omega)
        unfold TreeE at k
        cases ht : treeP reR l with
        | ok t r =>
          rw [ht] at k
          exact addr_re_ok p (c :: l) r (t.row 0) w h (by simp only [List.length_cons]; omega) f36 f47 k
        | bad x =>
          rw [ht] at k
          exact addr_re_bad p (c :: l) x w h (by simp only [List.length_cons]; omega) f36 f47 k
      · rw [if_neg h47]
        have f47 : isI 47 (c :: l) = false := by rw [e47]; simpa using h47
        cases hf : isFig c with
        | false =>
          rw [hf] at ef
          exact addr_none p (c :: l) w h f36 f47 ef
        | true =>
          rw [hf] at ef
          rw [if_pos rfl]
          have k := fun w1 (h1 : Rd p (c :: l) w1) => line8_any p c l w1 h1 hf (by simp only [List.length_cons]; omega)
          unfold LineE at k
          cases ht : lineP (c :: l) with
          | ok n r =>
            rw [ht] at k
            exact addr_line_ok p (c :: l) r (n : Int) w h f36 f47 ef k
          | bad x =>
            rw [ht] at k
            exact addr_line_bad p (c :: l) x w h f36 f47 ef k
end Go.Proofs.YtkgpnlldlekcbaaGreatDoor
namespace Go.Proofs.YtkgpnlldlekcbaaGreatDoor
open Go.RowKit Go.Lib

/-- All but two blocks is as it was. -/
structure Moved2 (p q : Nat) (w w' : World) : Prop where
  low : Below p w w'
  high : ∀ g, g ≠ p → g ≠ q → g < w.heap.size → w'.heap[g]? = w.heap[g]?
theorem Moved2.refl (p q : Nat) (w : World) : Moved2 p q w w := ⟨Below.refl _ _, fun _ _ _ _ => rfl⟩
theorem Moved2.trans {p q : Nat} {a b c : World} (h : Moved2 p q a b) (k : Moved2 p q b c) : Moved2 p q a c := ⟨h.low.trans k.low, fun g hg hq hs => (k.high g hg hq (Nat.lt_of_lt_of_le hs h.low.size)).trans (h.high g hg hq hs)⟩
theorem Moved.two {p : Nat} (q : Nat) {w w' : World} (h : Moved p w w') : Moved2 p q w w' := ⟨h.low, fun g hg _ hs => h.high g hg hs⟩
theorem Moved2.set (p q i : Nat) (v : Value) (w : World) (hpq : p ≤ q) : Moved2 p q w (w.setCell ⟨q, i, none⟩ v) := ⟨(Below.refl _ w).setCell (p := ⟨q, i, none⟩) hpq v, fun _g _ hg _ => Below.heap_setCell _ _ _ _ hg⟩
/-- A command in the making: its thirteen cells. -/
def Cq (q : Nat) (l : List Value) (w : World) : Prop := w.heap[q]? = some (.cells ⟨l⟩ 41 (0, 0))
theorem Cq.lt {q : Nat} {l : List Value} {w : World} (h : Cq q l w) : q < w.heap.size := block_lt h
theorem Cq.cell {q : Nat} {l : List Value} {w : World} (h : Cq q l w) (i : Nat) {v : Value} (hi : l[i]? = some v) : w.cell? ⟨q, i, none⟩ = some v ∧ w.frozen? ⟨q, i, none⟩ = false := by
  refine ⟨?_, frozen_of_heap h _⟩
  rw [cell_of_heap h]
  simpa using hi
theorem Cq.put {q : Nat} {l : List Value} {w : World} (h : Cq q l w) (i : Nat) (v : Value) : Cq q (l.set i v) (w.setCell ⟨q, i, none⟩ v) := by
  have h := heap_setCell_same w q i _ _ v h
  unfold Cq
  simpa using h
theorem Cq.moved {p q : Nat} {l : List Value} {w w' : World} (h : Cq q l w) (hpq : q ≠ p) (hm : Moved p w w') : Cq q l w' := (hm.high q hpq h.lt).trans h
theorem Rd.moved2 {p q : Nat} {l : List UInt8} {w : World} (h : Rd p l w) (hpq : p ≠ q) (i : Nat) (v : Value) : Rd p l (w.setCell ⟨q, i, none⟩ v) := (Below.heap_setCell _ _ _ _ hpq).trans h

/-- Where flags may be. -/
structure FlI (p q : Nat) (w : World) (u : Bool → Bool → List Value) (R : Bool × Bool × List UInt8) (m : Nat) (wr : World) : Prop where
  at' : ∃ a b l, R = flagP a b l ∧ Rd p l wr ∧ Cq q (u a b) wr ∧ l.length ≤ m ∧ l.length ≤ 4611686018427387904
  moved : Moved2 p q w wr
set_option maxHeartbeats 4000000 in
set_option maxRecDepth 20000 in
theorem flags_walk (p q : Nat) (x0 x1 x2 x3 x4 x5 x6 x7 x8 x9 x12 : Value) (a0 b0 : Bool) (l0 : List UInt8) (w : World) (hpq : p < q) (h : Rd p l0 w) (hl : l0.length ≤ 70000000000)
    (hq : Cq q [x0, x1, x2, x3, x4, x5, x6, x7, x8, x9, .bool a0, .bool b0, x12] w) :
    Calls Tryz.prog 128 #[.pointer (some ⟨p, 0, none⟩), .pointer (some ⟨q, 0, none⟩)] w fun e w' => e = .returned (.tuple #[]) ∧ Rd p (flagP a0 b0 l0).2.2 w' ∧ Cq q [x0, x1, x2, x3, x4, x5, x6, x7, x8, x9, .bool (flagP a0 b0 l0).1, .bool (flagP a0 b0 l0).2.1, x12] w' ∧ Moved2 p q w w' := by
  obtain ⟨u, hu⟩ : ∃ u : Bool → Bool → List Value, u = fun a b => [x0, x1, x2, x3, x4, x5, x6, x7, x8, x9, .bool a, .bool b, x12] := ⟨_, rfl⟩
  have u10 : ∀ a b, (u a b)[10]? = some (.bool a) := fun a b => by rw [hu]; rfl
  have u11 : ∀ a b, (u a b)[11]? = some (.bool b) := fun a b => by rw [hu]; rfl
  have s10 : ∀ a b c, (u a b).set 10 (.bool c) = u c b := fun a b c => by rw [hu]; rfl
  have s11 : ∀ a b c, (u a b).set 11 (.bool c) = u a c := fun a b c => by rw [hu]; rfl
  have HU := Lib.hid (And.intro u10 (And.intro u11 (And.intro s10 s11)))
  have hq' : Cq q (u a0 b0) w := by rw [hu]; exact hq
  have hgoal : ∀ R : Bool × Bool × List UInt8, [x0, x1, x2, x3, x4, x5, x6, x7, x8, x9, .bool R.1, .bool R.2.1, x12] = u R.1 R.2.1 := fun R => by rw [hu]
  rw [hgoal]
  clear u10 u11 s10 s11 hu hq hgoal
  obtain ⟨R, hR⟩ : ∃ R, R = flagP a0 b0 l0 := ⟨_, rfl⟩
  have HI := Lib.hid (show FlI p q w u R l0.length w from ⟨⟨a0, b0, l0, hR, h, hq', Nat.le_refl _, by omega⟩, .refl _ _ _⟩)
  rw [← hR]
  clear hR h hq'
  go_enter Tryz.func128, Tryz.ntmps128
  go_wp2
  go_loopg [] (l0.length + 1) (fun g wr => Hid (∃ m, g = m + 1 ∧ FlI p q w u R m wr))
  case atStart => exact ⟨_, rfl, HI.out⟩
  case round =>
    obtain ⟨m, rfl, HF⟩ := hrel.out
    obtain ⟨a, b, l, hR, hrd, hcq, hlm, hl2⟩ := HF.at'
    have hmv := HF.moved
    clear hrel HF
    obtain ⟨d10, f10⟩ := hcq.cell 10 (HU.out.1 a b)
    obtain ⟨d11, f11⟩ := hcq.cell 11 (HU.out.2.1 a b)
    -- a flag more
    have hA : ∀ r, a = false → l = 103 :: r → ∀ w1, Rd p r w1 → Moved p wr w1 → (w1.cell? ⟨q, 10, none⟩ = some (.bool a) ∧ w1.frozen? ⟨q, 10, none⟩ = false) ∧ 1 ≤ m ∧ FlI p q w u R (m - 1) (w1.setCell ⟨q, 10, none⟩ (.bool true)) := fun r ha hlr w1 h1 m1 => by
      subst ha
      subst hlr
      simp only [List.length_cons] at hlm hl2
      have hc1 := hcq.moved (by omega) m1
      refine ⟨hc1.cell 10 (HU.out.1 _ _), by omega, ⟨true, b, r, ?_, h1.moved2 (by omega) _ _, ?_, by omega, by omega⟩, ?_⟩
      · rw [hR, flagP, if_pos ⟨rfl, rfl⟩]
      · have := hc1.put 10 (.bool true)
        rwa [HU.out.2.2.1] at this
      · exact hmv.trans ((m1.two q).trans (.set p q 10 _ w1 (by omega)))
    have hB : ∀ r, b = false → l = 112 :: r → ∀ w1, Rd p r w1 → Moved p wr w1 → (w1.cell? ⟨q, 11, none⟩ = some (.bool b) ∧ w1.frozen? ⟨q, 11, none⟩ = false) ∧ 1 ≤ m ∧ FlI p q w u R (m - 1) (w1.setCell ⟨q, 11, none⟩ (.bool true)) := fun r hb hlr w1 h1 m1 => by
      subst hb
      subst hlr
      simp only [List.length_cons] at hlm hl2
      have hc1 := hcq.moved (by omega) m1
      refine ⟨hc1.cell 11 (HU.out.2.1 _ _), by omega, ⟨a, true, r, ?_, h1.moved2 (by omega) _ _, ?_, by omega, by omega⟩, ?_⟩
      · rw [hR, flagP, if_neg (fun e => by cases e.1), if_pos ⟨rfl, rfl⟩]
      · have := hc1.put 11 (.bool true)
        rwa [HU.out.2.2.2] at this
      · exact hmv.trans ((m1.two q).trans (.set p q 11 _ w1 (by omega)))
    have HA := Lib.hid hA
    have HB := Lib.hid hB
    clear hA hB
    have n := takeI_no p l wr hrd
    have y := takeI_yes p l wr hrd hl2
    have i103 : isI 103 l = true ↔ l.head? = some 103 := isI_head 103 l
    have i112 : isI 112 l = true ↔ l.head? = some 112 := isI_head 112 l
    have HK := Lib.hid (And.intro hR (And.intro hrd (And.intro hcq hmv)))
    have HM := Lib.hid (And.intro hlm hl2)
    clear hR hrd hcq hmv hlm hl2
    by_cases h103 : a = false ∧ l.head? = some 103
    · obtain ⟨rfl, hh⟩ := h103
      cases l with
      | nil => cases hh
      | cons c r =>
        cases hh
        have f1 := i103.2 rfl
        have HA2 := Lib.hid (HA.out r rfl rfl)
        clear n i103 i112 HA HB HK HM
        go_wp2_with (go_at_call 104; refine (y _ (by decide) (by decide) (by assumption)).mono ?_; rintro e w1 ⟨rfl, h1, m1⟩; obtain ⟨⟨e1, e2⟩, e3, e4'⟩ := HA2.out w1 h1 m1; have e4 := Lib.hid e4'; clear e4' h1 m1)
        go_roundg m
        case rel => exact ⟨m - 1, by omega, e4.out⟩
        case measure => omega
    · by_cases h112 : b = false ∧ l.head? = some 112
      · obtain ⟨rfl, hh⟩ := h112
        cases l with
        | nil => cases hh
        | cons c r =>
          cases hh
          have f2 := i112.2 rfl
          have f1 : isI 103 (112 :: r) = false := rfl
          have HB2 := Lib.hid (HB.out r rfl rfl)
          clear i103 i112 HA HB HK HM h103
          cases a
          all_goals
            go_wp2_with (go_at_call 104; first
              | (refine (n _ (by decide) (by decide) (by assumption)).mono ?_; rintro e w1 ⟨rfl, rfl⟩)
              | (refine (y _ (by decide) (by decide) (by assumption)).mono ?_; rintro e w1 ⟨rfl, h1, m1⟩; obtain ⟨⟨e1, e2⟩, e3, e4'⟩ := HB2.out w1 h1 m1; have e4 := Lib.hid e4'; clear e4' h1 m1))
            go_roundg m
            case rel => exact ⟨m - 1, by omega, e4.out⟩
            case measure => omega
      · have hRv : R = (a, b, l) := by
          rw [HK.out.1]
          cases l with
          | nil => rfl
          | cons c r =>
            rw [flagP, if_neg (fun e => h103 ⟨e.2, by rw [e.1]; rfl⟩), if_neg (fun e => h112 ⟨e.2, by rw [e.1]; rfl⟩)]
        have HV := Lib.hid (show Rd p R.2.2 wr ∧ Cq q (u R.1 R.2.1) wr ∧ Moved2 p q w wr by rw [hRv]; exact HK.out.2)
        have fa : a = false → isI 103 l = false := fun e => by
          cases h : isI 103 l
          · rfl
          · exact absurd ⟨e, i103.1 h⟩ h103
        have fb : b = false → isI 112 l = false := fun e => by
          cases h : isI 112 l
          · rfl
          · exact absurd ⟨e, i112.1 h⟩ h112
        clear hRv HA HB HK HM y h103 h112 i103 i112
        cases a <;> cases b
        all_goals
          (try have na := fa rfl)
          (try have nb := fb rfl)
          clear fa fb
          go_wp2_with (go_at_call 104; refine (n _ (by decide) (by decide) (by assumption)).mono ?_; rintro e w1 ⟨rfl, rfl⟩)
          try rw [Exit.noGoto_ret]
          exact bodyPost_ret (results_none rfl _ _ _) rfl ⟨rfl, HV.out⟩
end Go.Proofs.YtkgpnlldlekcbaaGreatDoor
