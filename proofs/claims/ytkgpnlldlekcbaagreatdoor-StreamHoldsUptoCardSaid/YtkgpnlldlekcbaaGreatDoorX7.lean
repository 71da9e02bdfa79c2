/- Packed texts: ClsSign. What each of them proves stands above its theorems; the conditions stand in these. -/
import Derived.BigQuiet
import Derived.Deep.Cut
import Derived.Deep.DeepCutAuto
import Derived.Deep.QuietTactic
import Derived.Lib.Hide
import Derived.Lib.IndexLaws
import Derived.Test.YtkgpnlldlekcbaaGreatDoorShelf
import Derived.Test.YtkgpnlldlekcbaaGreatDoorX0
import Derived.Test.YtkgpnlldlekcbaaGreatDoorX4
namespace Go.Proofs.YtkgpnlldlekcbaaGreatDoor
open Go.RowKit Go.Lib

/-- The bytes that have a meaning between brackets; those, and the ones of a regular expression. -/
def heldL : List UInt8 := [92, 93, 91, 94, 45]
def namedL : List UInt8 := [92, 93, 91, 94, 45, 47, 46, 42, 43, 63, 40, 41, 124, 123, 125, 36]
/-- The byte of two digits that a text begins with. -/
def toldD : List UInt8 → Option (Int × Int)
  | h :: k :: _ => if digN h < 0 ∨ digN k < 0 then none else some ((16 : Int) * digN h + digN k, 4)
  | _ => none
/-- The sign that a text begins with: its byte, and how many bytes it has. -/
def signD : List UInt8 → Option (Int × Int)
  | [] => none
  | c :: r =>
    if c = 92 then
      match r with
      | [] => none
      | d :: t => if d = 120 then toldD t else if namedL.contains d then some ((d.toNat : Int), 2) else none
    else if c = 10 ∨ heldL.contains c = true then none else some ((c.toNat : Int), 1)
def signE : Option (Int × Int) → Ending
  | none => .returned (.tuple #[.int .u8 0, .int .i64 0, .int .i64 2])
  | some (c, n) => .returned (.tuple #[.int .u8 c, .int .i64 n, .int .i64 0])

theorem contains_index (l : List UInt8) (c : UInt8) : decide (0 ≤ indexByte l c) = l.contains c := by
  rw [Bool.eq_iff_iff]
  simp only [decide_eq_true_eq, List.contains_iff_mem]
  constructor
  · intro h
    obtain ⟨o, ho⟩ := Int.eq_ofNat_of_zero_le h
    exact List.mem_of_getElem? (indexByte_some ho).1
  · intro h
    obtain ⟨k, hk⟩ := List.mem_iff_getElem?.1 h
    have hg := indexByte_ge l c
    by_cases hn : indexByte l c = -1
    · exact absurd hk (indexByte_none hn k)
    · omega
theorem u8_back (c : UInt8) : (c.toNat : Int).toNat.toUInt8 = c := by simp
theorem among_any (s : ByteArray) (c : UInt8) (w : World) :
    Calls Tryz.prog 189 #[.string s, .int .u8 (c.toNat : Int)] w fun e w' => e = .returned (.bool (s.data.toList.contains c)) ∧ w = w' := by
  have k : ∀ w, Calls Tryz.prog 102 #[.string s, .int .u8 (c.toNat : Int)] w fun e w' => e = .returned (.int .i64 (indexByte s.data.toList c)) ∧ w' = w := fun w => by
    have := Tryz.strings_IndexByte s (c.toNat : Int) w
    rwa [u8_back] at this
  have hg := contains_index s.data.toList c
  obtain ⟨b, hb⟩ : ∃ b, b = s.data.toList.contains c := ⟨_, rfl⟩
  obtain ⟨i, hi⟩ : ∃ i, i = indexByte s.data.toList c := ⟨_, rfl⟩
  rw [← hi] at k hg
  rw [← hb] at hg ⊢
  clear hb hi
  go_enter Tryz.func189, Tryz.ntmps189
  go_wp2_with (go_at_call 102; refine (k _).mono ?_; rintro e w1 ⟨rfl, rfl⟩)
  go_ret
  exact ⟨by rw [← hg]; rfl, rfl⟩

theorem or_digits : ∀ p q : Fin 16, bits BinOp.or IntKind.i64 ((p.val : Int) * 16) (q.val : Int) = 16 * (p.val : Int) + (q.val : Int) := by decide +kernel
theorem digN_ge (c : UInt8) : -1 ≤ digN c ∧ digN c ≤ 15 := by
  unfold digN
  split
  · omega
  · split
    · omega
    · split <;> omega

set_option maxHeartbeats 1000000 in
theorem told_any (s : ByteArray) (w : World) :
    Calls Tryz.prog 188 #[.string s] w fun e w' => e = signE (toldD s.data.toList) ∧ Below w.heap.size w w' := by
  obtain ⟨E, hE⟩ : ∃ E, E = signE (toldD s.data.toList) := ⟨_, rfl⟩
  rw [← hE]
  by_cases h2 : s.size < 2
  · have hn : E = .returned (.tuple #[.int .u8 0, .int .i64 0, .int .i64 2]) := by
      rw [hE]
      have hl : s.data.toList.length < 2 := by rw [Array.length_toList]; exact h2
      match h : s.data.toList, hl with
      | [], _ => rfl
      | [_], _ => rfl
      | _ :: _ :: _, hl => simp at hl; omega
    rw [hn]
    go_enter Tryz.func188, Tryz.ntmps188
    go_wp2
    exact bodyPost_ret (results_tmp3 rfl _ _ _) rfl ⟨rfl, Below.refl _ _⟩
  · have h2' : 2 ≤ s.size := by omega
    have h1' : 1 < s.size := by omega
    have h0' : 0 < s.size := by omega
    have hl : s.data.toList = s[0] :: s[1] :: s.data.toList.drop 2 := by
      have hlen : s.data.toList.length = s.size := Array.length_toList ..
      have e0 : s.data.toList[0]'(by omega) = s[0] := rfl
      have e1 : s.data.toList[1]'(by omega) = s[1] := rfl
      rw [← e0, ← e1, List.getElem_cons_drop, List.getElem_cons_drop, List.drop_zero]
    have hE2 : E = signE (if digN s[0] < 0 ∨ digN s[1] < 0 then none else some ((16 : Int) * digN s[0] + digN s[1], 4)) := by rw [hE, hl]; rfl
    obtain ⟨a, ha⟩ : ∃ a, s[0] = a := ⟨_, rfl⟩
    obtain ⟨b, hb⟩ : ∃ b, s[1] = b := ⟨_, rfl⟩
    rw [ha, hb] at hE2
    have c1 := fun w => (digit_any a w).mono (fun e w' h => (⟨h.1, h.2.symm⟩ : e = .returned (.int .i64 (digN a)) ∧ w' = w))
    have c2 := fun w => (digit_any b w).mono (fun e w' h => (⟨h.1, h.2.symm⟩ : e = .returned (.int .i64 (digN b)) ∧ w' = w))
    have b1 := digN_ge a
    have b2 := digN_ge b
    obtain ⟨p, hp⟩ : ∃ p, digN a = p := ⟨_, rfl⟩
    obtain ⟨q, hq⟩ : ∃ q, digN b = q := ⟨_, rfl⟩
    rw [hp] at c1 b1 hE2
    rw [hq] at c2 b2 hE2
    clear hp hq hl hE h2
    have HE := Lib.hid hE2
    clear hE2
    by_cases hp : p < 0 ∨ q < 0
    · have hE : E = signE none := by rw [HE.out, if_pos hp]
      rw [hE]
      have hor : (decide (p < 0) || decide (q < 0)) = true := by simpa using hp
      go_enter Tryz.func188, Tryz.ntmps188
      go_wp2
      go_quiet ((go_at_call 203; first | with_reducible exact Calls.quiet_of_same (c1 _) | with_reducible exact Calls.quiet_of_same (c2 _)))
      go_wp2
      all_goals exact bodyPost_ret (results_tmp3 rfl _ _ _) rfl ⟨rfl, below_draws (Below.refl _ w) _⟩
    · have hE : E = signE (some ((16 : Int) * p + q, 4)) := by rw [HE.out, if_neg hp]
      rw [hE]
      have hp0 : 0 ≤ p := by omega
      have hq0 : 0 ≤ q := by omega
      go_enter Tryz.func188, Tryz.ntmps188
      go_wp2
      go_quiet ((go_at_call 203; first | with_reducible exact Calls.quiet_of_same (c1 _) | with_reducible exact Calls.quiet_of_same (c2 _)))
      go_wp2
      refine bodyPost_ret (results_tmp3 rfl _ _ _) rfl ⟨?_, below_draws (Below.refl _ w) _⟩
      have e := or_digits ⟨p.toNat, by omega⟩ ⟨q.toNat, by omega⟩
      simp only [Int.toNat_of_nonneg hp0, Int.toNat_of_nonneg hq0] at e
      show Ending.returned (.tuple #[.int .u8 (bits BinOp.or IntKind.i64 (p * 16) q % 256), .int .i64 4, .int .i64 0]) = _
      rw [e, Int.emod_eq_of_lt (by omega) (by omega)]
      rfl

theorem u8_of_int {x : UInt8} (h : (x.toNat : Int) = 10) : x = 10 := by
  apply UInt8.toNat_inj.1
  show x.toNat = 10
  omega
theorem cut_hit (c : UInt8) (r : List UInt8) (p : UInt8) (s : ByteArray) (hs : s.data.toList = c :: r) (hc : c = p) (w : World) :
    Calls Tryz.prog 187 #[.string s, .string ⟨#[p]⟩] w fun e w' => e = .returned (.tuple #[.string ⟨r.toArray⟩, .bool true]) ∧ w' = w := by
  have h := Tryz.strings_CutPrefix s ⟨#[p]⟩ w
  have e1 : hasPrefix (c :: r) [p] = true := by simp [hasPrefix, hc]
  have e2 : trimPrefix (c :: r) [p] = r := by unfold trimPrefix; rw [e1]; rfl
  rw [hs] at h
  rwa [show (⟨#[p]⟩ : ByteArray).data.toList = [p] from rfl, e1, e2] at h
theorem cut_miss (l : List UInt8) (p : UInt8) (s : ByteArray) (hs : s.data.toList = l) (hc : l.head? ≠ some p) (w : World) :
    Calls Tryz.prog 187 #[.string s, .string ⟨#[p]⟩] w fun e w' => e = .returned (.tuple #[.string s, .bool false]) ∧ w' = w := by
  have h := Tryz.strings_CutPrefix s ⟨#[p]⟩ w
  have e1 : hasPrefix s.data.toList [p] = false := by
    rw [hs]
    cases l with
    | nil => rfl
    | cons c r =>
      have : c ≠ p := by simpa using hc
      show (p == c && ([] : List UInt8).isPrefixOf r) = false
      rw [show (p == c) = false by rw [beq_eq_false_iff_ne]; exact Ne.symm this]
      rfl
  have e2 : trimPrefix s.data.toList [p] = s.data.toList := by unfold trimPrefix; rw [e1]; rfl
  rwa [show (⟨#[p]⟩ : ByteArray).data.toList = [p] from rfl, e1, e2] at h

set_option maxHeartbeats 1000000 in
/-- A text that does not begin with a backslash. -/
theorem sign_plain (s t2 : ByteArray) (b2 : Bool) (w : World)
    (k1 : ∀ w, Calls Tryz.prog 187 #[.string s, .string ⟨#[92]⟩] w fun e w' => e = .returned (.tuple #[.string s, .bool false]) ∧ w' = w)
    (k2 : ∀ w, Calls Tryz.prog 187 #[.string s, .string ⟨#[120]⟩] w fun e w' => e = .returned (.tuple #[.string t2, .bool b2]) ∧ w' = w)
    (he : s.toList.isEmpty = false) (hs : 0 < s.size) (x : UInt8) (hx : s[0] = x) (a : Bool) (k3 : ∀ w, Calls Tryz.prog 189 #[.string ⟨#[92, 93, 91, 94, 45]⟩, .int .u8 (x.toNat : Int)] w fun e w' => e = .returned (.bool a) ∧ w = w') :
    Calls Tryz.prog 173 #[.string s] w fun e w' => e = signE (if x = 10 ∨ a = true then none else some ((x.toNat : Int), 1)) ∧ Below w.heap.size w w' := by
  obtain ⟨E, hE⟩ : ∃ E, E = signE (if x = 10 ∨ a = true then none else some ((x.toNat : Int), 1)) := ⟨_, rfl⟩
  rw [← hE]
  have HE := Lib.hid hE
  clear hE
  go_enter Tryz.func173, Tryz.ntmps173
  go_wp2_with (first
    | (go_at_call 187; first
        | (with_reducible refine (k1 _).mono ?_; rintro e w1 ⟨rfl, rfl⟩)
        | (with_reducible refine (k2 _).mono ?_; rintro e w1 ⟨rfl, rfl⟩))
    | (go_at_call 189; with_reducible refine (k3 _).mono ?_; rintro e w1 ⟨rfl, rfl⟩))
  all_goals refine bodyPost_ret (results_tmp3 rfl _ _ _) rfl ⟨?_, Below.refl _ _⟩
  all_goals rw [HE.out]
  · rename_i h
    rw [if_pos (.inl (u8_of_int h))]
    rfl
  · rename_i h0 h
    rw [if_neg (fun hn => by
      rcases hn with hn | hn
      · rw [hn] at h0; exact h0 rfl
      · rw [hn] at h; exact absurd h.2 (by decide))]
    rfl
  · rename_i h0 h
    rw [if_pos (by
      rcases h with h | h
      · exact .inl (u8_of_int (by simpa using h))
      · exact .inr (by simpa using h))]
    rfl

set_option maxHeartbeats 1000000 in
/-- A text that begins with a backslash and x. -/
theorem sign_told (s t1 t2 : ByteArray) (w : World)
    (k1 : ∀ w, Calls Tryz.prog 187 #[.string s, .string ⟨#[92]⟩] w fun e w' => e = .returned (.tuple #[.string t1, .bool true]) ∧ w' = w)
    (k2 : ∀ w, Calls Tryz.prog 187 #[.string t1, .string ⟨#[120]⟩] w fun e w' => e = .returned (.tuple #[.string t2, .bool true]) ∧ w' = w)
    (c n er : Int) (k3 : ∀ w, Calls Tryz.prog 188 #[.string t2] w fun e w' => e = .returned (.tuple #[.int .u8 c, .int .i64 n, .int .i64 er]) ∧ Below w.heap.size w w') :
    Calls Tryz.prog 173 #[.string s] w fun e w' => e = .returned (.tuple #[.int .u8 c, .int .i64 n, .int .i64 er]) ∧ Below w.heap.size w w' := by
  go_enter Tryz.func173, Tryz.ntmps173
  go_wp2_with (first
    | (go_at_call 187; first
        | (with_reducible refine (k1 _).mono ?_; rintro e w1 ⟨rfl, rfl⟩)
        | (with_reducible refine (k2 _).mono ?_; rintro e w1 ⟨rfl, rfl⟩))
    | (go_at_call 188; with_reducible refine (k3 _).mono ?_; rintro e w1 ⟨rfl, hb⟩))
  exact bodyPost_ret (results_tmp3 rfl _ _ _) rfl ⟨rfl, hb⟩

set_option maxHeartbeats 1000000 in
/-- A backslash alone. -/
theorem sign_alone (s t1 t2 : ByteArray) (w : World)
    (k1 : ∀ w, Calls Tryz.prog 187 #[.string s, .string ⟨#[92]⟩] w fun e w' => e = .returned (.tuple #[.string t1, .bool true]) ∧ w' = w)
    (k2 : ∀ w, Calls Tryz.prog 187 #[.string t1, .string ⟨#[120]⟩] w fun e w' => e = .returned (.tuple #[.string t2, .bool false]) ∧ w' = w)
    (ht : t1.toList.isEmpty = true) :
    Calls Tryz.prog 173 #[.string s] w fun e w' => e = signE none ∧ Below w.heap.size w w' := by
  go_enter Tryz.func173, Tryz.ntmps173
  go_wp2_with (first
    | (go_at_call 187; first
        | (with_reducible refine (k1 _).mono ?_; rintro e w1 ⟨rfl, rfl⟩)
        | (with_reducible refine (k2 _).mono ?_; rintro e w1 ⟨rfl, rfl⟩)))
  all_goals exact bodyPost_ret (results_tmp3 rfl _ _ _) rfl ⟨rfl, Below.refl _ _⟩

set_option maxHeartbeats 1000000 in
/-- A backslash with another byte behind it. -/
theorem sign_named (s t1 t2 : ByteArray) (w : World)
    (k1 : ∀ w, Calls Tryz.prog 187 #[.string s, .string ⟨#[92]⟩] w fun e w' => e = .returned (.tuple #[.string t1, .bool true]) ∧ w' = w)
    (k2 : ∀ w, Calls Tryz.prog 187 #[.string t1, .string ⟨#[120]⟩] w fun e w' => e = .returned (.tuple #[.string t2, .bool false]) ∧ w' = w)
    (ht : t1.toList.isEmpty = false) (hs : 0 < t1.size) (x : UInt8) (hx : t1[0] = x) (a : Bool)
    (k3 : ∀ w, Calls Tryz.prog 189 #[.string ⟨#[92, 93, 91, 94, 45, 47, 46, 42, 43, 63, 40, 41, 124, 123, 125, 36]⟩, .int .u8 (x.toNat : Int)] w fun e w' => e = .returned (.bool a) ∧ w = w') :
    Calls Tryz.prog 173 #[.string s] w fun e w' => e = signE (if a = true then some ((x.toNat : Int), 2) else none) ∧ Below w.heap.size w w' := by
  obtain ⟨E, hE⟩ : ∃ E, E = signE (if a = true then some ((x.toNat : Int), 2) else none) := ⟨_, rfl⟩
  rw [← hE]
  have HE := Lib.hid hE
  clear hE
  cases a
  all_goals
    go_enter Tryz.func173, Tryz.ntmps173
    go_wp2_with (first
      | (go_at_call 187; first
          | (with_reducible refine (k1 _).mono ?_; rintro e w1 ⟨rfl, rfl⟩)
          | (with_reducible refine (k2 _).mono ?_; rintro e w1 ⟨rfl, rfl⟩))
      | (go_at_call 189; with_reducible refine (k3 _).mono ?_; rintro e w1 ⟨rfl, rfl⟩))
    all_goals first
      | (rename_i h; rw [h] at ht; cases ht)
      | exact bodyPost_ret (results_tmp3 rfl _ _ _) rfl ⟨by rw [HE.out]; rfl, Below.refl _ _⟩

set_option maxHeartbeats 1000000 in
theorem sign_empty (s : ByteArray) (w : World)
    (k1 : ∀ w, Calls Tryz.prog 187 #[.string s, .string ⟨#[92]⟩] w fun e w' => e = .returned (.tuple #[.string s, .bool false]) ∧ w' = w)
    (k2 : ∀ w, Calls Tryz.prog 187 #[.string s, .string ⟨#[120]⟩] w fun e w' => e = .returned (.tuple #[.string s, .bool false]) ∧ w' = w)
    (ht : s.toList.isEmpty = true) :
    Calls Tryz.prog 173 #[.string s] w fun e w' => e = signE none ∧ Below w.heap.size w w' := by
  go_enter Tryz.func173, Tryz.ntmps173
  go_wp2_with (first
    | (go_at_call 187; first
        | (with_reducible refine (k1 _).mono ?_; rintro e w1 ⟨rfl, rfl⟩)
        | (with_reducible refine (k2 _).mono ?_; rintro e w1 ⟨rfl, rfl⟩)))
  all_goals exact bodyPost_ret (results_tmp3 rfl _ _ _) rfl ⟨rfl, Below.refl _ _⟩
theorem mk_list (l : List UInt8) : (⟨l.toArray⟩ : ByteArray).data.toList = l := rfl
theorem size_list {s : ByteArray} {l : List UInt8} (h : s.data.toList = l) : s.size = l.length := by
  rw [← h]; exact Array.length_toList.symm
theorem byte0 {s : ByteArray} {c : UInt8} {r : List UInt8} (h : s.data.toList = c :: r) (hs : 0 < s.size) : s[0] = c := by
  have : s.data.toList[0]? = some s[0] := by rw [List.getElem?_eq_getElem (by rw [Array.length_toList]; exact hs)]; rfl
  rw [h] at this
  exact (Option.some.inj this).symm
theorem full (s : ByteArray) {c : UInt8} {r : List UInt8} (h : s.data.toList = c :: r) : s.toList.isEmpty = false := by
  rw [toList_data, h]; rfl
theorem sign_any (s : ByteArray) (w : World) : Calls Tryz.prog 173 #[.string s] w fun e w' => e = signE (signD s.data.toList) ∧ Below w.heap.size w w' := by
  obtain ⟨l, hl⟩ : ∃ l, s.data.toList = l := ⟨_, rfl⟩
  rw [hl]
  cases l with
  | nil => exact sign_empty s w (cut_miss [] 92 s hl (by simp)) (cut_miss [] 120 s hl (by simp)) (by rw [toList_data, hl]; rfl)
  | cons c r =>
    have hs : 0 < s.size := by rw [size_list hl]; simp
    by_cases hc : c = 92
    · cases r with
      | nil =>
        have h := sign_alone s ⟨([] : List UInt8).toArray⟩ ⟨([] : List UInt8).toArray⟩ w (cut_hit c [] 92 s hl hc) (cut_miss [] 120 _ rfl (by simp)) (by rw [toList_data]; rfl)
        simpa [signD, hc] using h
      | cons d t =>
        by_cases hd : d = 120
        · have e : signD (c :: d :: t) = toldD t := by simp [signD, hc, hd]
          rw [e]
          have k := told_any ⟨t.toArray⟩
          rw [mk_list] at k
          cases hq : toldD t with
          | none =>
            rw [hq] at k
            exact sign_told s ⟨(d :: t).toArray⟩ ⟨t.toArray⟩ w (cut_hit c (d :: t) 92 s hl hc) (cut_hit d t 120 _ rfl hd) 0 0 2 k
          | some p =>
            obtain ⟨x, n⟩ := p
            rw [hq] at k
            exact sign_told s ⟨(d :: t).toArray⟩ ⟨t.toArray⟩ w (cut_hit c (d :: t) 92 s hl hc) (cut_hit d t 120 _ rfl hd) x n 0 k
        · have e : signD (c :: d :: t) = if namedL.contains d = true then some ((d.toNat : Int), 2) else none := by simp only [signD, if_pos hc, if_neg hd]
          rw [e]
          have h := sign_named s ⟨(d :: t).toArray⟩ ⟨(d :: t).toArray⟩ w (cut_hit c (d :: t) 92 s hl hc) (cut_miss (d :: t) 120 _ rfl (by simpa using hd)) (full ⟨(d :: t).toArray⟩ rfl) (by simp [ByteArray.size]) d rfl _ (fun w => among_any _ d w)
          exact h
    · have e : signD (c :: r) = if c = 10 ∨ heldL.contains c = true then none else some ((c.toNat : Int), 1) := by simp only [signD, if_neg hc]
      rw [e]
      by_cases hx : c = 120
      · exact sign_plain s _ _ w (cut_miss (c :: r) 92 s hl (by simpa using hc)) (cut_hit c r 120 s hl hx) (full s hl) hs c (byte0 hl hs) _ (fun w => among_any _ c w)
      · exact sign_plain s _ _ w (cut_miss (c :: r) 92 s hl (by simpa using hc)) (cut_miss (c :: r) 120 s hl (by simpa using hx)) (full s hl) hs c (byte0 hl hs) _ (fun w => among_any _ c w)

end Go.Proofs.YtkgpnlldlekcbaaGreatDoor
