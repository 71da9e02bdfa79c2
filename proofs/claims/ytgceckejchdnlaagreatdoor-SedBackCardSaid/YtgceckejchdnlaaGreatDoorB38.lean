/- Packed texts: SuBackMath, SeText. What each of them proves stands above its theorems; the conditions stand in these. -/
import Derived.Test.YtgceckejchdnlaaGreatDoorB3
import Derived.Test.YtgceckejchdnlaaGreatDoorB20
import Derived.Test.YtgceckejchdnlaaGreatDoorB23
import Derived.Test.YtgceckejchdnlaaGreatDoorB35
import Derived.Test.YtgceckejchdnlaaGreatDoorB37
namespace Go.Proofs.YtgceckejchdnlaaGreatDoor
open Go.RowKit Go.Lib

theorem plain_kind_fin : ∀ n : Fin 256, (((plainL (UInt8.ofNat n.val) == [UInt8.ofNat n.val] && UInt8.ofNat n.val != 38 && UInt8.ofNat n.val != 47 && UInt8.ofNat n.val != 10 && UInt8.ofNat n.val != 92) || (plainL (UInt8.ofNat n.val)).take 2 == [92, 120]) && (plainL (UInt8.ofNat n.val)).all (fun b => b != 47 && b != 10 && b != 39)) = true := by decide +kernel
theorem plain_kind (c : UInt8) : (((plainL c == [c] && c != 38 && c != 47 && c != 10 && c != 92) || (plainL c).take 2 == [92, 120]) && (plainL c).all (fun b => b != 47 && b != 10 && b != 39)) = true := by
  have h := plain_kind_fin ⟨c.toNat, c.toNat_lt⟩
  have e : UInt8.ofNat c.toNat = c := by simp
  rwa [e] at h
theorem plain_step (c : UInt8) (r : List UInt8) : stepR (plainL c ++ r) = some (some c, (plainL c).length) := by
  have hs := plain_sign c r
  have hu : signU (plainL c ++ r) = some (c, (plainL c).length) := by
    unfold signU
    rw [hs]
    simp
  have hk := plain_kind c
  rw [Bool.and_eq_true, Bool.or_eq_true] at hk
  rcases hk.1 with h | h
  · simp only [Bool.and_eq_true, beq_iff_eq, bne_iff_ne] at h
    obtain ⟨⟨⟨⟨h0, h1⟩, h2⟩, h3⟩, h4⟩ := h
    rw [h0]
    show (if c = 38 then some (none, 1) else if c = 47 ∨ c = 10 then none else if c ≠ 92 then some (some c, 1) else _) = _
    rw [if_neg h1, if_neg (by rintro (h | h); exact h2 h; exact h3 h), if_pos h4]
    rfl
  · obtain ⟨t, ht⟩ : ∃ t, plainL c = 92 :: 120 :: t := by
      rw [beq_iff_eq] at h
      match hp : plainL c, h with
      | a :: b :: t, h => cases h; exact ⟨t, rfl⟩
      | [a], h => cases h
      | [], h => cases h
    rw [ht] at hu ⊢
    show (if (92 : UInt8) = 38 then some (none, 1) else if (92 : UInt8) = 47 ∨ (92 : UInt8) = 10 then none else if (92 : UInt8) ≠ 92 then some (some 92, 1) else if (some (120 : UInt8)) = some 38 then some (some 38, 2) else (signU (92 :: 120 :: t ++ r)).map fun p => (some p.1, p.2)) = _
    rw [if_neg (by decide), if_neg (by decide), if_neg (by decide), if_neg (by decide), hu]
    rfl
theorem read_flat : ∀ (x r : List UInt8) (f : Nat) (acc : List (List UInt8)) (now : List UInt8), readR (f + x.length) (flatP x ++ r) acc now = readR f r acc (now ++ x)
  | [], r, f, acc, now => by simp [flatP]
  | c :: x, r, f, acc, now => by
    have e : flatP (c :: x) ++ r = plainL c ++ (flatP x ++ r) := by simp [flatP]
    have hne : plainL c ++ (flatP x ++ r) ≠ [] := by
      intro h
      have h1 := (plain_length c).1
      rw [List.append_eq_nil_iff] at h
      rw [h.1] at h1
      simp at h1
    rw [e, List.length_cons, show f + (x.length + 1) = (f + x.length) + 1 from rfl, readR_byte hne (plain_step c _), List.drop_left, read_flat x r f acc (now ++ [c]), List.append_assoc]
    rfl
theorem read_join : ∀ (r : List (List UInt8)) (x : List UInt8) (acc : List (List UInt8)) (f : Nat), (flatP x ++ joinTail [38] (r.map flatP)).length < f → readR f (flatP x ++ joinTail [38] (r.map flatP)) acc [] = some (acc ++ x :: r)
  | [], x, acc, f, h => by
    have h1 := (flatP_len x).1
    rw [List.length_append] at h
    obtain ⟨g, rfl⟩ : ∃ g, f = (g + 1) + x.length := ⟨f - x.length - 1, by omega⟩
    have e : joinTail [38] (([] : List (List UInt8)).map flatP) = [] := rfl
    rw [e, read_flat, readR_end]
    rfl
  | y :: r, x, acc, f, h => by
    have h1 := (flatP_len x).1
    have e : joinTail [38] ((y :: r).map flatP) = 38 :: (flatP y ++ joinTail [38] (r.map flatP)) := by simp [joinTail]
    rw [e] at h ⊢
    rw [List.length_append, List.length_cons] at h
    obtain ⟨g, rfl⟩ : ∃ g, f = (g + 1) + x.length := ⟨f - x.length - 1, by omega⟩
    have hst : stepR (38 :: (flatP y ++ joinTail [38] (r.map flatP))) = some (none, 1) := rfl
    rw [read_flat, readR_place (by simp) hst]
    show readR g (flatP y ++ joinTail [38] (r.map flatP)) (acc ++ [[] ++ x]) [] = _
    rw [read_join r y (acc ++ [[] ++ x]) g (by omega)]
    simp
theorem text_list (xs : List ByteArray) : (textB xs).data.toList = Lib.join (xs.map fun x => flatP x.data.toList) [38] := by
  unfold textB
  rw [joinB_list, List.map_map]
  rfl
theorem text_reread (xs : List ByteArray) (h : xs ≠ []) : readD' (textB xs).data.toList = some (xs.map (·.data.toList)) := by
  rw [text_list]
  cases xs with
  | nil => exact absurd rfl h
  | cons x r =>
    rw [List.map_cons, Lib.join_cons]
    have := read_join (r.map (·.data.toList)) x.data.toList [] ((flatP x.data.toList ++ joinTail [38] ((r.map (·.data.toList)).map flatP)).length + 1) (Nat.lt_succ_self _)
    rw [List.map_map] at this
    exact this
end Go.Proofs.YtgceckejchdnlaaGreatDoor
namespace Go.Proofs.YtgceckejchdnlaaGreatDoor
open Go.RowKit Go.Lib

/-- Texts in which no slash ends anything, and of which nothing keeps what stands behind. -/
def Clean (l : List UInt8) : Prop := ∀ r, partL (l ++ r) = (partL r).map fun p => (l ++ p.1, p.2)
theorem Clean.nil : Clean [] := fun r => by cases h : partL r <;> simp [h]
theorem Clean.app {a b : List UInt8} (ha : Clean a) (hb : Clean b) : Clean (a ++ b) := fun r => by
  rw [List.append_assoc, ha, hb]
  cases partL r <;> simp
theorem Clean.byte {c : UInt8} (h1 : c ≠ 47) (h2 : c ≠ 92) : Clean [c] := fun r => by
  show partL (c :: r) = _
  rw [partL_other r h1 h2]
  rfl
theorem Clean.esc (d : UInt8) : Clean [92, d] := fun r => by
  show partL (92 :: d :: r) = _
  rw [partL_esc]
  rfl
/-- Texts without a slash, an end of line, or a quote. -/
def Nice (l : List UInt8) : Prop := Clean l ∧ ∀ b ∈ l, b ≠ 39 ∧ b ≠ 10
theorem Nice.nil : Nice [] := ⟨.nil, by simp⟩
theorem Nice.app {a b : List UInt8} (ha : Nice a) (hb : Nice b) : Nice (a ++ b) := ⟨ha.1.app hb.1, fun x hx => by
  rcases List.mem_append.mp hx with h | h
  · exact ha.2 x h
  · exact hb.2 x h⟩
theorem Nice.byte {c : UInt8} (h1 : c ≠ 47) (h2 : c ≠ 92) (h3 : c ≠ 39) (h4 : c ≠ 10) : Nice [c] := ⟨.byte h1 h2, fun x hx => by
  rw [List.mem_singleton] at hx; subst hx; exact ⟨h3, h4⟩⟩
theorem Nice.cons {c : UInt8} {l : List UInt8} (h1 : c ≠ 47) (h2 : c ≠ 92) (h3 : c ≠ 39) (h4 : c ≠ 10) (h : Nice l) : Nice (c :: l) := (Nice.byte h1 h2 h3 h4).app h
theorem Nice.flat {α : Type} {f : α → List UInt8} : ∀ {l : List α}, (∀ x ∈ l, Nice (f x)) → Nice (l.flatMap f)
  | [], _ => .nil
  | x :: l, h => by
    rw [List.flatMap_cons]
    exact (h x (by simp)).app (Nice.flat fun y hy => h y (by simp [hy]))
def plainN (l : List UInt8) : Bool := match l with
  | [c] => c != 47 && c != 92 && c != 39 && c != 10
  | [92, 120, a, b] => a != 47 && a != 92 && a != 39 && a != 10 && (b != 47 && b != 92 && b != 39 && b != 10)
  | _ => false
theorem plainN_fin : ∀ n : Fin 256, plainN (plainL (UInt8.ofNat n.val)) = true := by decide +kernel
theorem plainN_any (c : UInt8) : plainN (plainL c) = true := by
  have := plainN_fin ⟨c.toNat, c.toNat_lt⟩
  simpa using this
theorem nice_plain (c : UInt8) : Nice (plainL c) := by
  have h := plainN_any c
  unfold plainN at h
  split at h
  · rename_i d he
    simp only [Bool.and_eq_true, bne_iff_ne] at h
    rw [he]
    exact .byte h.1.1.1 h.1.1.2 h.1.2 h.2
  · rename_i a b he
    simp only [Bool.and_eq_true, bne_iff_ne] at h
    rw [he]
    obtain ⟨⟨⟨⟨h1, h2⟩, h3⟩, h4⟩, ⟨⟨h5, h6⟩, h7⟩, h8⟩ := h
    have h9 : Nice [92, 120] := ⟨.esc 120, by simp⟩
    exact h9.app ((Nice.byte h1 h2 h3 h4).app (.byte h5 h6 h7 h8))
  · cases h
theorem nice_run (p : UInt8 × UInt8) : Nice (runT p) := by
  unfold runT
  refine (nice_plain _).app (Nice.app ?_ ?_)
  · split
    · exact .byte (by decide) (by decide) (by decide) (by decide)
    · exact .nil
  · split
    · exact nice_plain _
    · exact .nil
theorem nice_class (k : Cl) : Nice (textL k) := by
  unfold textL
  exact .cons (by decide) (by decide) (by decide) (by decide) ((Nice.flat fun p _ => nice_run p).app (.byte (by decide) (by decide) (by decide) (by decide)))
theorem nice_told (k : K4) : Nice (toldK k) := by
  unfold toldK
  split
  · exact .byte (by decide) (by decide) (by decide) (by decide)
  · split
    · have h9 : Nice [92, 120] := ⟨.esc 120, by simp⟩
      exact ((((Nice.byte (by decide) (by decide) (by decide) (by decide)).app (.byte (by decide) (by decide) (by decide) (by decide)) : Nice ([91] ++ [94])).app (h9.app (.cons (c := 48) (by decide) (by decide) (by decide) (by decide) (.cons (c := 48) (by decide) (by decide) (by decide) (by decide) (.byte (c := 45) (by decide) (by decide) (by decide) (by decide)))))).app (h9.app (.cons (c := 102) (by decide) (by decide) (by decide) (by decide) (.cons (c := 102) (by decide) (by decide) (by decide) (by decide) (.byte (c := 93) (by decide) (by decide) (by decide) (by decide))))))
    · split
      · rename_i h1
        obtain ⟨c, hc, hk⟩ := cnt_one h1
        rw [text_single hc hk]
        simpa using nice_plain c
      · exact nice_class _
theorem nice_leaf (j : Nat) : Nice (leafL j) := by
  unfold leafL
  split
  · exact .byte (by decide) (by decide) (by decide) (by decide)
  · split
    · exact .byte (by decide) (by decide) (by decide) (by decide)
    · exact .cons (by decide) (by decide) (by decide) (by decide) (.byte (by decide) (by decide) (by decide) (by decide))
theorem nice_sign (j : Nat) : Nice [signL j] := by
  unfold signL
  split
  · exact .byte (by decide) (by decide) (by decide) (by decide)
  · split <;> exact .byte (by decide) (by decide) (by decide) (by decide)
theorem nice_brk {b : Bool} {l : List UInt8} (h : Nice l) : Nice (brk b l) := by
  cases b
  · exact h
  · exact .cons (c := 40) (by decide) (by decide) (by decide) (by decide) (h.app (.byte (by decide) (by decide) (by decide) (by decide)))
theorem nice_txt : ∀ t : Tr, Nice t.txt
  | .leaf j => nice_leaf j
  | .set k => nice_told k
  | .rep j a => (nice_brk (nice_txt a)).app (nice_sign j)
  | .two j a b => by
    unfold Tr.txt
    split
    · exact (nice_brk (nice_txt a)).app (nice_brk (nice_txt b))
    · exact (nice_txt a).app (.cons (by decide) (by decide) (by decide) (by decide) (nice_brk (nice_txt b)))
theorem nice_flat (l : List UInt8) : Nice (flatP l) := Nice.flat fun c _ => nice_plain c
theorem nice_tail : ∀ r : List (List UInt8), (∀ x ∈ r, Nice x) → Nice (joinTail [38] r)
  | [], _ => .nil
  | x :: r, h => by
    show Nice ([38] ++ x ++ joinTail [38] r)
    exact (Nice.app (.byte (by decide) (by decide) (by decide) (by decide)) (h x (by simp))).app (nice_tail r fun y hy => h y (by simp [hy]))
/-- A replacement's text, as a list. -/
def putT (xs : List (List UInt8)) : List UInt8 := (textB (xs.map mkB)).data.toList
theorem putT_eq (xs : List (List UInt8)) : putT xs = Lib.join (xs.map flatP) [38] := by
  unfold putT
  rw [text_list, List.map_map]
  rfl
theorem nice_put (xs : List (List UInt8)) : Nice (putT xs) := by
  rw [putT_eq]
  cases xs with
  | nil => exact .nil
  | cons x r =>
    rw [List.map_cons, join_cons]
    refine (nice_flat x).app (nice_tail _ fun y hy => ?_)
    obtain ⟨z, _, rfl⟩ := List.mem_map.mp hy
    exact nice_flat z
theorem part_of {p : List UInt8} (h : Nice p) (r : List UInt8) : partL (p ++ 47 :: r) = some (p, r) := by
  rw [h.1, partL_47]
  simp
end Go.Proofs.YtgceckejchdnlaaGreatDoor
