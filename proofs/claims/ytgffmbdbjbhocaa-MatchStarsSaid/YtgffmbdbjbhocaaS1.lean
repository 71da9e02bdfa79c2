/- Packed texts: MaMath, MaMem. What each of them proves stands above its theorems; the conditions stand in these. -/
import Derived.Deep.CutBlock
import Derived.Deep.DeepCutAuto
import Derived.Deep.OwnRows
import Derived.Deep.RegionHeld3
import Derived.WalkSpells
import Derived.Test.YtgffmbdbjbhocaaS0
namespace Go.Proofs.Ytgffmbdbjbhocaa

/-- Any number of steps. -/
inductive Many (R : Nat → Nat → Prop) : Nat → Nat → Prop
  | refl (a : Nat) : Many R a a
  | tail {a b c : Nat} : Many R a b → R b c → Many R a c
theorem Many.trans {R : Nat → Nat → Prop} {a b c : Nat} (h : Many R a b) (k : Many R b c) : Many R a c := by
  induction k with
  | refl => exact h
  | tail _ h2 ih => exact ih.tail h2
theorem Many.one {R : Nat → Nat → Prop} {a b : Nat} (h : R a b) : Many R a b := (Many.refl a).tail h
theorem Many.head {R : Nat → Nat → Prop} {a b c : Nat} (h : R a b) (k : Many R b c) : Many R a c := (Many.one h).trans k
theorem Many.flip {R : Nat → Nat → Prop} {a b : Nat} (h : Many R a b) : Many (fun x y => R y x) b a := by
  induction h with
  | refl => exact .refl _
  | tail _ h2 ih => exact Many.head h2 ih
theorem Many.head_cases {R : Nat → Nat → Prop} {a b : Nat} (h : Many R a b) : a = b ∨ ∃ c, R a c ∧ Many R c b := by
  induction h with
  | refl => exact .inl rfl
  | tail h1 h2 ih =>
    rcases ih with rfl | ⟨c, hc, hm⟩
    · exact .inr ⟨_, h2, .refl _⟩
    · exact .inr ⟨c, hc, hm.tail h2⟩
/-- Is a byte of the set here? -/
def inSet (s : List UInt8) (k : K4) (p : Nat) : Bool := match s[p]? with
  | some c => has k.cl c.toNat
  | none => false
theorem inSet_lt {s : List UInt8} {k : K4} {p : Nat} (h : inSet s k p = true) : p < s.length := by
  by_cases hl : p < s.length
  · exact hl
  · unfold inSet at h
    rw [List.getElem?_eq_none (by omega)] at h
    cases h
/-- A tree stands from a place to another one. -/
def St (s : List UInt8) : Tr → Nat → Nat → Prop
  | .leaf j, a, b => a = b ∧ (j = 7 → a = 0) ∧ (j = 8 → a = s.length)
  | .set k, a, b => b = a + 1 ∧ inSet s k a = true
  | .rep j x, a, b => if j = 6 then a = b ∨ St s x a b else if j = 4 then Many (St s x) a b else ∃ c, St s x a c ∧ Many (St s x) c b
  | .two j x y, a, b => if j = 2 then ∃ c, St s x a c ∧ St s y c b else St s x a b ∨ St s y a b
theorem many_le {R : Nat → Nat → Prop} (hR : ∀ a b, R a b → a ≤ b) {a b : Nat} (h : Many R a b) : a ≤ b := by
  induction h with
  | refl => exact Nat.le_refl _
  | tail _ h2 ih => exact Nat.le_trans ih (hR _ _ h2)
theorem St.le (s : List UInt8) : ∀ (t : Tr) (a b : Nat), St s t a b → a ≤ b
  | .leaf j, a, b, h => Nat.le_of_eq h.1
  | .set k, a, b, h => by have := h.1; omega
  | .rep j x, a, b, h => by
    unfold St at h
    split at h
    · rcases h with h | h
      · omega
      · exact St.le s x a b h
    · split at h
      · exact many_le (St.le s x) h
      · obtain ⟨c, h1, h2⟩ := h
        exact Nat.le_trans (St.le s x a c h1) (many_le (St.le s x) h2)
  | .two j x y, a, b, h => by
    unfold St at h
    split at h
    · obtain ⟨c, h1, h2⟩ := h
      exact Nat.le_trans (St.le s x a c h1) (St.le s y c b h2)
    · rcases h with h | h
      · exact St.le s x a b h
      · exact St.le s y a b h
/-- The same, or from its end to its beginning. -/
def SD (bk : Bool) (s : List UInt8) (t : Tr) (a b : Nat) : Prop := if bk = true then St s t b a else St s t a b
/-- A step over a node without kids. -/
def stepD (bk : Bool) (s : List UInt8) (n : Nd) (p : Nat) : Option Nat :=
  if n.k = 0 then some p
  else if n.k = 7 then if p = 0 then some p else none
  else if n.k = 8 then if p = s.length then some p else none
  else if bk = true then
    if 0 < p ∧ inSet s n.s (p - 1) = true then some (p - 1) else none
  else if inSet s n.s p = true then some (p + 1) else none
/-- What follows when a node is entered. -/
def enterD (bk : Bool) (s : List UInt8) (n : Nd) (r p : Nat) : List (Nat × Nat) :=
  if n.k = 2 then [(2 * (if bk = true then n.y else n.x).toNat, p)]
  else if n.k = 3 then [(2 * n.x.toNat, p), (2 * n.y.toNat, p)]
  else if n.k = 4 ∨ n.k = 6 then [(2 * r + 1, p), (2 * n.x.toNat, p)]
  else if n.k = 5 then [(2 * n.x.toNat, p)]
  else match stepD bk s n p with
    | some q => [(2 * r + 1, q)]
    | none => []
/-- What follows when a node is left that is another one's kid. -/
def leaveD (bk : Bool) (n : Nd) (u r p : Nat) : List (Nat × Nat) :=
  if n.k = 2 ∧ (r : Int) = (if bk = true then n.y else n.x) then [(2 * (if bk = true then n.x else n.y).toNat, p)]
  else if n.k = 4 ∨ n.k = 5 then [(2 * r, p), (2 * u + 1, p)]
  else [(2 * u + 1, p)]
/-- What follows a spot: a gate (twice a node's place, and one if it is left), and a place. -/
def nextD (bk : Bool) (s : List UInt8) (ts : List Nd) (up : Nat → Nat) (g p : Nat) : List (Nat × Nat) :=
  if g % 2 = 0 then match ts[g / 2]? with
    | some n => enterD bk s n (g / 2) p
    | none => []
  else if g / 2 + 1 = ts.length then []
  else match ts[up (g / 2)]? with
    | some n => leaveD bk n (up (g / 2)) (g / 2) p
    | none => []
def Closed (bk : Bool) (s : List UInt8) (ts : List Nd) (up : Nat → Nat) (X : Nat → Nat → Prop) : Prop := ∀ g p, X g p → ∀ q ∈ nextD bk s ts up g p, X q.1 q.2
/-- Whose kid each node is. -/
def UpOk (up : Nat → Nat) : Tr → Nat → Prop
  | .leaf _, _ => True
  | .set _, _ => True
  | .rep _ x, n => up (n + x.size - 1) = n + x.size ∧ UpOk up x n
  | .two _ x y, n => up (n + x.size - 1) = n + x.size + y.size ∧ up (n + x.size + y.size - 1) = n + x.size + y.size ∧ UpOk up x n ∧ UpOk up y (n + x.size)
/-- A tree that stands in the row, not the whole one, or that. -/
structure Occ (ts : List Nd) (up : Nat → Nat) (t : Tr) (n : Nat) : Prop where
  sub : Sub ts t n
  ok : t.ok
  up : UpOk up t n
  le : n + t.size ≤ ts.length
theorem Occ.rep {ts : List Nd} {up : Nat → Nat} {j : Nat} {x : Tr} {n : Nat} (h : Occ ts up (.rep j x) n) : Occ ts up x n ∧ n + x.size + 1 ≤ ts.length :=
  ⟨⟨h.sub.rep, h.ok.2, h.up.2, by have := h.le; have e : (Tr.rep j x).size = x.size + 1 := rfl; omega⟩, by have := h.le; have e : (Tr.rep j x).size = x.size + 1 := rfl; omega⟩
theorem Occ.fst {ts : List Nd} {up : Nat → Nat} {j : Nat} {x y : Tr} {n : Nat} (h : Occ ts up (.two j x y) n) : Occ ts up x n ∧ n + x.size + y.size + 1 ≤ ts.length :=
  ⟨⟨h.sub.fst, h.ok.2.1, h.up.2.2.1, by have := h.le; have e : (Tr.two j x y).size = x.size + y.size + 1 := rfl; omega⟩, by have := h.le; have e : (Tr.two j x y).size = x.size + y.size + 1 := rfl; omega⟩
theorem Occ.snd {ts : List Nd} {up : Nat → Nat} {j : Nat} {x y : Tr} {n : Nat} (h : Occ ts up (.two j x y) n) : Occ ts up y (n + x.size) ∧ n + x.size + y.size + 1 ≤ ts.length :=
  ⟨⟨h.sub.snd, h.ok.2.2, h.up.2.2.2, by have := h.le; have e : (Tr.two j x y).size = x.size + y.size + 1 := rfl; omega⟩, by have := h.le; have e : (Tr.two j x y).size = x.size + y.size + 1 := rfl; omega⟩
theorem Occ.next_in {bk : Bool} {s : List UInt8} {ts : List Nd} {up : Nat → Nat} {t : Tr} {n r : Nat} (h : Occ ts up t n) (hr : r + 1 = n + t.size) (p : Nat) : nextD bk s ts up (2 * r) p = enterD bk s (t.node n) r p := by
  unfold nextD
  rw [if_pos (by omega), show 2 * r / 2 = r by omega, h.sub.root hr]
theorem next_out {bk : Bool} {s : List UInt8} {ts : List Nd} {up : Nat → Nat} {u : Tr} {m r v : Nat} (h : Occ ts up u m) (hr : up r = v) (hv : v + 1 = m + u.size) (hlt : r < v) (p : Nat) : nextD bk s ts up (2 * r + 1) p = leaveD bk (u.node m) v r p := by
  have hl := h.le
  unfold nextD
  rw [if_neg (by omega), show (2 * r + 1) / 2 = r by omega, if_neg (by omega), hr, h.sub.root hv]

/-- The spots at which a tree is entered. -/
inductive Ent (bk : Bool) (s : List UInt8) (T : Tr) (Src : Nat → Prop) : Tr → Nat → Nat → Prop
  | root {a} : Src a → Ent bk s T Src T 0 a
  | rep {j x n a c} : Ent bk s T Src (.rep j x) n a → (c = a ∨ (j ≠ 6 ∧ Many (SD bk s x) a c)) → Ent bk s T Src x n c
  | alt1 {j x y n a} : j ≠ 2 → Ent bk s T Src (.two j x y) n a → Ent bk s T Src x n a
  | alt2 {j x y n a} : j ≠ 2 → Ent bk s T Src (.two j x y) n a → Ent bk s T Src y (n + x.size) a
  | cat1 {x y n a} : bk = false → Ent bk s T Src (.two 2 x y) n a → Ent bk s T Src x n a
  | cat2 {x y n a c} : bk = false → Ent bk s T Src (.two 2 x y) n a → SD bk s x a c → Ent bk s T Src y (n + x.size) c
  | tac1 {x y n a} : bk = true → Ent bk s T Src (.two 2 x y) n a → Ent bk s T Src y (n + x.size) a
  | tac2 {x y n a c} : bk = true → Ent bk s T Src (.two 2 x y) n a → SD bk s y a c → Ent bk s T Src x n c
theorem Ent.occ {bk : Bool} {s : List UInt8} {ts : List Nd} {up : Nat → Nat} {T : Tr} {Src : Nat → Prop} (h0 : Occ ts up T 0) {t : Tr} {n a : Nat} (h : Ent bk s T Src t n a) : Occ ts up t n := by
  induction h with
  | root _ => exact h0
  | rep _ _ ih => exact ih.rep.1
  | alt1 _ _ ih => exact ih.fst.1
  | alt2 _ _ ih => exact ih.snd.1
  | cat1 _ _ ih => exact ih.fst.1
  | cat2 _ _ _ ih => exact ih.snd.1
  | tac1 _ _ ih => exact ih.snd.1
  | tac2 _ _ _ ih => exact ih.fst.1
theorem SD.leaf {bk : Bool} {s : List UInt8} {j a b : Nat} : SD bk s (.leaf j) a b ↔ a = b ∧ (j = 7 → a = 0) ∧ (j = 8 → a = s.length) := by
  unfold SD St
  cases bk
  · simp
  · simp
    constructor
    · rintro ⟨rfl, h1, h2⟩; exact ⟨rfl, h1, h2⟩
    · rintro ⟨rfl, h1, h2⟩; exact ⟨rfl, h1, h2⟩
theorem many_sd {bk : Bool} {s : List UInt8} {x : Tr} {a b : Nat} : Many (SD bk s x) a b ↔ (if bk = true then Many (St s x) b a else Many (St s x) a b) := by
  cases bk
  · exact Iff.rfl
  · constructor
    · intro h; exact h.flip
    · intro h; exact Many.flip (R := St s x) h
theorem SD.rep {bk : Bool} {s : List UInt8} {j : Nat} {x : Tr} {a b : Nat} : SD bk s (.rep j x) a b ↔ (if j = 6 then a = b ∨ SD bk s x a b else if j = 4 then Many (SD bk s x) a b else ∃ c, SD bk s x a c ∧ Many (SD bk s x) c b) := by
  by_cases h6 : j = 6
  · subst h6
    cases bk <;> simp [SD, St, eq_comm]
  · by_cases h4 : j = 4
    · subst h4
      simp only [many_sd]
      cases bk <;> simp [SD, St]
    · rw [if_neg h6, if_neg h4]
      simp only [many_sd]
      cases bk
      · simp [SD, St, h6, h4]
      · simp [SD, St, h6, h4]
        constructor
        · rintro ⟨c, h1, h2⟩
          cases h2 with
          | refl => exact ⟨_, h1, .refl _⟩
          | tail h3 h4 => exact ⟨_, h4, Many.head h1 h3⟩
        · rintro ⟨c, h1, h2⟩
          rcases Many.head_cases h2 with rfl | ⟨d, h3, h4⟩
          · exact ⟨_, h1, .refl _⟩
          · exact ⟨_, h3, h4.tail h1⟩
theorem SD.alt {bk : Bool} {s : List UInt8} {j : Nat} {x y : Tr} {a b : Nat} (h : j ≠ 2) : SD bk s (.two j x y) a b ↔ SD bk s x a b ∨ SD bk s y a b := by
  cases bk <;> simp [SD, St, h]
theorem SD.cat {s : List UInt8} {x y : Tr} {a b : Nat} : SD false s (.two 2 x y) a b ↔ ∃ c, SD false s x a c ∧ SD false s y c b := by
  simp [SD, St]
theorem SD.tac {s : List UInt8} {x y : Tr} {a b : Nat} : SD true s (.two 2 x y) a b ↔ ∃ c, SD true s y a c ∧ SD true s x c b := by
  simp [SD, St]
  constructor
  · rintro ⟨c, h1, h2⟩; exact ⟨c, h2, h1⟩
  · rintro ⟨c, h1, h2⟩; exact ⟨c, h2, h1⟩
theorem step_leaf {bk : Bool} {s : List UInt8} {t : Tr} {n p q : Nat} (hl : (∃ j, t = .leaf j) ∨ ∃ k, t = .set k) (hok : t.ok) : stepD bk s (t.node n) p = some q ↔ SD bk s t p q := by
  rcases hl with ⟨j, rfl⟩ | ⟨k, rfl⟩
  · rw [SD.leaf]
    have hok : j = 0 ∨ j = 7 ∨ j = 8 := hok
    rcases hok with rfl | rfl | rfl
    · simp [stepD, Tr.node]
    · simp [stepD, Tr.node]; constructor
      · rintro ⟨rfl, rfl⟩; exact ⟨rfl, rfl⟩
      · rintro ⟨rfl, rfl⟩; exact ⟨rfl, rfl⟩
    · simp [stepD, Tr.node]; constructor
      · rintro ⟨rfl, rfl⟩; exact ⟨rfl, rfl⟩
      · rintro ⟨rfl, rfl⟩; exact ⟨rfl, rfl⟩
  · have e : ∀ b, stepD b s ((Tr.set k).node n) p = (if b = true then if 0 < p ∧ inSet s k (p - 1) = true then some (p - 1) else none else if inSet s k p = true then some (p + 1) else none) := fun b => rfl
    rw [e]
    cases bk
    · simp only [SD, St, Bool.false_eq_true, if_false]
      by_cases h : inSet s k p = true
      · rw [if_pos h]; simp [h, eq_comm]
      · rw [if_neg h]; simp [h]
    · simp only [SD, St, if_true]
      by_cases h : 0 < p ∧ inSet s k (p - 1) = true
      · rw [if_pos h]
        obtain ⟨h0, h⟩ := h
        simp only [Option.some.injEq]
        constructor
        · rintro rfl; exact ⟨by omega, h⟩
        · rintro ⟨h1, _⟩; omega
      · rw [if_neg h]
        constructor
        · intro h; cases h
        · rintro ⟨h1, h2⟩
          exact absurd ⟨by omega, by rw [show p - 1 = q by omega]; exact h2⟩ h
theorem enter_leaf {bk : Bool} {s : List UInt8} {t : Tr} {n r p : Nat} (hl : (∃ j, t = .leaf j) ∨ ∃ k, t = .set k) (hok : t.ok) : enterD bk s (t.node n) r p = match stepD bk s (t.node n) p with | some q => [(2 * r + 1, q)] | none => [] := by
  have hk : (t.node n).k = 0 ∨ (t.node n).k = 1 ∨ (t.node n).k = 7 ∨ (t.node n).k = 8 := by
    rcases hl with ⟨j, rfl⟩ | ⟨k, rfl⟩
    · have hok : j = 0 ∨ j = 7 ∨ j = 8 := hok
      rcases hok with rfl | rfl | rfl <;> simp [Tr.node]
    · exact .inr (.inl rfl)
  unfold enterD
  rw [if_neg (by omega), if_neg (by omega), if_neg (by omega), if_neg (by omega)]
/-- Each set that holds what follows, and a tree's entry, holds the leaving to which it stands. -/
theorem closed_does {bk : Bool} {s : List UInt8} {ts : List Nd} {up : Nat → Nat} {X : Nat → Nat → Prop} (hX : Closed bk s ts up X) : ∀ (t : Tr) (n r : Nat), Occ ts up t n → r + 1 = n + t.size → ∀ a b, X (2 * r) a → SD bk s t a b → X (2 * r + 1) b := by
  intro t
  induction t with
  | leaf j =>
    intro n r ho hr a b ha h
    have h := (step_leaf (n := n) (.inl ⟨j, rfl⟩) ho.ok).2 h
    refine hX _ _ ha (2 * r + 1, b) ?_
    rw [ho.next_in hr, enter_leaf (.inl ⟨j, rfl⟩) ho.ok, h]
    simp
  | set k =>
    intro n r ho hr a b ha h
    have h := (step_leaf (n := n) (.inr ⟨k, rfl⟩) ho.ok).2 h
    refine hX _ _ ha (2 * r + 1, b) ?_
    rw [ho.next_in hr, enter_leaf (.inr ⟨k, rfl⟩) ho.ok, h]
    simp
  | rep j x ih =>
    intro n r ho hr a b ha h
    have ez : (Tr.rep j x).size = x.size + 1 := rfl
    have hp := x.size_pos
    obtain ⟨hox, hle⟩ := ho.rep
    have hj : j = 4 ∨ j = 5 ∨ j = 6 := ho.ok.1
    obtain ⟨v, hv⟩ : ∃ v, v + 1 = n + x.size := ⟨n + x.size - 1, by omega⟩
    have hkid : ((Tr.rep j x).node n).x.toNat = v := by show ((n : Int) + x.size - 1).toNat = v; omega
    have hnode : ((Tr.rep j x).node n).k = (j : Int) := rfl
    have hupv : up v = r := by have := ho.up.1; rw [show n + x.size - 1 = v by omega] at this; omega
    have hin := ho.next_in (bk := bk) (s := s) hr a
    have hxa : X (2 * v) a := by
      refine hX _ _ ha (2 * v, a) ?_
      rw [hin]
      unfold enterD
      rw [hnode, hkid]
      rcases hj with rfl | rfl | rfl <;> simp
    have hout : ∀ c, nextD bk s ts up (2 * v + 1) c = leaveD bk ((Tr.rep j x).node n) r v c := fun c => next_out ho hupv hr (by omega) c
    have hup : ∀ c, X (2 * v + 1) c → X (2 * r + 1) c := fun c hc => by
      refine hX _ _ hc (2 * r + 1, c) ?_
      rw [hout]
      unfold leaveD
      rw [hnode]
      rcases hj with rfl | rfl | rfl <;> simp
    have hmore : j ≠ 6 → ∀ c, X (2 * v + 1) c → X (2 * v) c := fun h6 c hc => by
      refine hX _ _ hc (2 * v, c) ?_
      rw [hout]
      unfold leaveD
      rw [hnode]
      rcases hj with rfl | rfl | rfl
      · simp
      · simp
      · exact absurd rfl h6
    have hown : j ≠ 5 → X (2 * r + 1) a := fun h5 => by
      refine hX _ _ ha (2 * r + 1, a) ?_
      rw [hin]
      unfold enterD
      rw [hnode]
      rcases hj with rfl | rfl | rfl
      · simp
      · exact absurd rfl h5
      · simp
    have hmany : j ≠ 6 → ∀ c d, X (2 * v) c → Many (SD bk s x) c d → X (2 * v) d := fun h6 c d hc hm => by
      induction hm with
      | refl => exact hc
      | tail _ h2 ih2 => exact hmore h6 _ (ih n v hox hv _ _ ih2 h2)
    rw [SD.rep] at h
    rcases hj with rfl | rfl | rfl
    · rw [if_neg (by omega), if_pos rfl] at h
      cases h with
      | refl => exact hown (by omega)
      | tail h1 h2 => exact hup _ (ih n v hox hv _ _ (hmany (by omega) _ _ hxa h1) h2)
    · rw [if_neg (by omega), if_neg (by omega)] at h
      obtain ⟨c, h1, h2⟩ := h
      have hc := ih n v hox hv _ _ hxa h1
      cases h2 with
      | refl => exact hup _ hc
      | tail h3 h4 => exact hup _ (ih n v hox hv _ _ (hmany (by omega) _ _ (hmore (by omega) _ hc) h3) h4)
    · rw [if_pos rfl] at h
      rcases h with rfl | h
      · exact hown (by omega)
      · exact hup _ (ih n v hox hv _ _ hxa h)
  | two j x y ihx ihy =>
    intro n r ho hr a b ha h
    have ez : (Tr.two j x y).size = x.size + y.size + 1 := rfl
    have hp := x.size_pos
    have hq := y.size_pos
    obtain ⟨hox, hle⟩ := ho.fst
    obtain ⟨hoy, _⟩ := ho.snd
    have hj : j = 2 ∨ j = 3 := ho.ok.1
    obtain ⟨v, hv⟩ : ∃ v, v + 1 = n + x.size := ⟨n + x.size - 1, by omega⟩
    obtain ⟨u, hu⟩ : ∃ u, u + 1 = n + x.size + y.size := ⟨n + x.size + y.size - 1, by omega⟩
    have hkx : ((Tr.two j x y).node n).x = (v : Int) := by show (n : Int) + x.size - 1 = v; omega
    have hky : ((Tr.two j x y).node n).y = (u : Int) := by show (n : Int) + x.size + y.size - 1 = u; omega
    have hnode : ((Tr.two j x y).node n).k = (j : Int) := rfl
    have hupv : up v = r := by have := ho.up.1; rw [show n + x.size - 1 = v by omega] at this; omega
    have hupu : up u = r := by have := ho.up.2.1; rw [show n + x.size + y.size - 1 = u by omega] at this; omega
    have hin := ho.next_in (bk := bk) (s := s) hr a
    have houtv : ∀ c, nextD bk s ts up (2 * v + 1) c = leaveD bk ((Tr.two j x y).node n) r v c := fun c => next_out ho hupv hr (by omega) c
    have houtu : ∀ c, nextD bk s ts up (2 * u + 1) c = leaveD bk ((Tr.two j x y).node n) r u c := fun c => next_out ho hupu hr (by omega) c
    rcases hj with rfl | rfl
    · cases bk with
      | false =>
        obtain ⟨c, h1, h2⟩ := SD.cat.1 h
        have hxa : X (2 * v) a := by
          refine hX _ _ ha (2 * v, a) ?_
          rw [hin]; unfold enterD; rw [hnode, hkx]; simp
        have hc := ihx n v hox hv _ _ hxa h1
        have hyc : X (2 * u) c := by
          refine hX _ _ hc (2 * u, c) ?_
          rw [houtv]; unfold leaveD; rw [hnode, hkx, hky]; simp
        have hb := ihy (n + x.size) u hoy hu _ _ hyc h2
        refine hX _ _ hb (2 * r + 1, b) ?_
        rw [houtu]; unfold leaveD; rw [hnode, hkx, hky]
        rw [if_neg (by simp; omega)]; simp
      | true =>
        obtain ⟨c, h1, h2⟩ := SD.tac.1 h
        have hya : X (2 * u) a := by
          refine hX _ _ ha (2 * u, a) ?_
          rw [hin]; unfold enterD; rw [hnode, hky]; simp
        have hc := ihy (n + x.size) u hoy hu _ _ hya h1
        have hxc : X (2 * v) c := by
          refine hX _ _ hc (2 * v, c) ?_
          rw [houtu]; unfold leaveD; rw [hnode, hkx, hky]; simp
        have hb := ihx n v hox hv _ _ hxc h2
        refine hX _ _ hb (2 * r + 1, b) ?_
        rw [houtv]; unfold leaveD; rw [hnode, hkx, hky]
        rw [if_neg (by simp; omega)]; simp
    · have hxa : X (2 * v) a := by
        refine hX _ _ ha (2 * v, a) ?_
        rw [hin]; unfold enterD; rw [hnode, hkx, hky]; simp
      have hya : X (2 * u) a := by
        refine hX _ _ ha (2 * u, a) ?_
        rw [hin]; unfold enterD; rw [hnode, hkx, hky]; simp
      rcases (SD.alt (by omega)).1 h with h | h
      · have hb := ihx n v hox hv _ _ hxa h
        refine hX _ _ hb (2 * r + 1, b) ?_
        rw [houtv]; unfold leaveD; rw [hnode]; simp
      · have hb := ihy (n + x.size) u hoy hu _ _ hya h
        refine hX _ _ hb (2 * r + 1, b) ?_
        rw [houtu]; unfold leaveD; rw [hnode]; simp
/-- The spots that are come to, and no other ones. -/
def Come (bk : Bool) (s : List UInt8) (T : Tr) (Src : Nat → Prop) (g p : Nat) : Prop :=
  (∃ t n r, g = 2 * r ∧ r + 1 = n + t.size ∧ Ent bk s T Src t n p) ∨ ∃ t n r a, g = 2 * r + 1 ∧ r + 1 = n + t.size ∧ Ent bk s T Src t n a ∧ SD bk s t a p
theorem come_closed {bk : Bool} {s : List UInt8} {ts : List Nd} {up : Nat → Nat} {T : Tr} (Src : Nat → Prop) (h0 : Occ ts up T 0) (hlen : T.size = ts.length) : Closed bk s ts up (Come bk s T Src) := by
  intro g p h
  rcases h with ⟨t, n, r, rfl, hr, he⟩ | ⟨t, n, r, a, rfl, hr, he, hs⟩
  · have ho := he.occ h0
    rw [ho.next_in hr]
    cases t with
    | leaf j =>
      rw [enter_leaf (.inl ⟨j, rfl⟩) ho.ok]
      cases hq : stepD bk s ((Tr.leaf j).node n) p with
      | none => intro q hq2; simp at hq2
      | some q0 =>
        intro q hq2
        obtain rfl : q = (2 * r + 1, q0) := by simpa using hq2
        exact .inr ⟨_, n, r, p, rfl, hr, he, (step_leaf (.inl ⟨j, rfl⟩) ho.ok).1 hq⟩
    | set k =>
      rw [enter_leaf (.inr ⟨k, rfl⟩) ho.ok]
      cases hq : stepD bk s ((Tr.set k).node n) p with
      | none => intro q hq2; simp at hq2
      | some q0 =>
        intro q hq2
        obtain rfl : q = (2 * r + 1, q0) := by simpa using hq2
        exact .inr ⟨_, n, r, p, rfl, hr, he, (step_leaf (.inr ⟨k, rfl⟩) ho.ok).1 hq⟩
    | rep j x =>
      have hp := x.size_pos
      have ez : (Tr.rep j x).size = x.size + 1 := rfl
      have hj : j = 4 ∨ j = 5 ∨ j = 6 := ho.ok.1
      obtain ⟨v, hv⟩ : ∃ v, v + 1 = n + x.size := ⟨n + x.size - 1, by omega⟩
      have hkid : ((Tr.rep j x).node n).x.toNat = v := by show ((n : Int) + x.size - 1).toNat = v; omega
      have hnode : ((Tr.rep j x).node n).k = (j : Int) := rfl
      have hkidIn : Come bk s T Src (2 * v) p := .inl ⟨x, n, v, rfl, hv, .rep he (.inl rfl)⟩
      have hown : j ≠ 5 → Come bk s T Src (2 * r + 1) p := fun h5 => .inr ⟨_, n, r, p, rfl, hr, he, by
        rw [SD.rep]
        rcases hj with rfl | rfl | rfl
        · rw [if_neg (by omega), if_pos rfl]; exact .refl _
        · exact absurd rfl h5
        · rw [if_pos rfl]; exact .inl rfl⟩
      unfold enterD
      rw [hnode, hkid]
      rcases hj with rfl | rfl | rfl
      · intro q hq
        have hq : q = (2 * r + 1, p) ∨ q = (2 * v, p) := by simpa using hq
        rcases hq with rfl | rfl
        · exact hown (by omega)
        · exact hkidIn
      · intro q hq
        have hq : q = (2 * v, p) := by simpa using hq
        subst hq
        exact hkidIn
      · intro q hq
        have hq : q = (2 * r + 1, p) ∨ q = (2 * v, p) := by simpa using hq
        rcases hq with rfl | rfl
        · exact hown (by omega)
        · exact hkidIn
    | two j x y =>
      have hp := x.size_pos
      have hq := y.size_pos
      have ez : (Tr.two j x y).size = x.size + y.size + 1 := rfl
      have hj : j = 2 ∨ j = 3 := ho.ok.1
      obtain ⟨v, hv⟩ : ∃ v, v + 1 = n + x.size := ⟨n + x.size - 1, by omega⟩
      obtain ⟨u, hu⟩ : ∃ u, u + 1 = n + x.size + y.size := ⟨n + x.size + y.size - 1, by omega⟩
      have hkx : ((Tr.two j x y).node n).x = (v : Int) := by show (n : Int) + x.size - 1 = v; omega
      have hky : ((Tr.two j x y).node n).y = (u : Int) := by show (n : Int) + x.size + y.size - 1 = u; omega
      have hnode : ((Tr.two j x y).node n).k = (j : Int) := rfl
      unfold enterD
      rw [hnode, hkx, hky]
      rcases hj with rfl | rfl
      · cases bk with
        | false =>
          intro q hq
          have hq : q = (2 * v, p) := by simpa using hq
          subst hq
          exact .inl ⟨x, n, v, rfl, hv, .cat1 rfl he⟩
        | true =>
          intro q hq
          have hq : q = (2 * u, p) := by simpa using hq
          subst hq
          exact .inl ⟨y, n + x.size, u, rfl, hu, .tac1 rfl he⟩
      · intro q hq
        have hq : q = (2 * v, p) ∨ q = (2 * u, p) := by simpa using hq
        rcases hq with rfl | rfl
        · exact .inl ⟨x, n, v, rfl, hv, .alt1 (by omega) he⟩
        · exact .inl ⟨y, n + x.size, u, rfl, hu, .alt2 (by omega) he⟩
  · cases he with
    | root ha =>
      have : nextD bk s ts up (2 * r + 1) p = [] := by
        unfold nextD
        rw [if_neg (by omega), if_pos (by omega)]
      rw [this]
      intro q hq
      simp at hq
    | rep he2 hc =>
      rename_i j a0
      have ho := he2.occ h0
      have hp := t.size_pos
      have hj : j = 4 ∨ j = 5 ∨ j = 6 := ho.ok.1
      have ez : (Tr.rep j t).size = t.size + 1 := rfl
      have hup : up r = r + 1 := by have := ho.up.1; rw [show n + t.size - 1 = r by omega] at this; omega
      have hnode : ((Tr.rep j t).node n).k = (j : Int) := rfl
      rw [next_out ho hup (by omega) (by omega)]
      have hout : Come bk s T Src (2 * (r + 1) + 1) p := by
        refine .inr ⟨_, n, r + 1, a0, rfl, by omega, he2, ?_⟩
        rw [SD.rep]
        rcases hj with rfl | rfl | rfl
        · rw [if_neg (by omega), if_pos rfl]
          rcases hc with rfl | ⟨_, hm⟩
          · exact .one hs
          · exact hm.tail hs
        · rw [if_neg (by omega), if_neg (by omega)]
          rcases hc with rfl | ⟨_, hm⟩
          · exact ⟨_, hs, .refl _⟩
          · rcases hm.head_cases with rfl | ⟨d, h1, h2⟩
            · exact ⟨_, hs, .refl _⟩
            · exact ⟨d, h1, h2.tail hs⟩
        · rw [if_pos rfl]
          rcases hc with rfl | ⟨h6, _⟩
          · exact .inr hs
          · exact absurd rfl h6
      have hin : j ≠ 6 → Come bk s T Src (2 * r) p := fun h6 => by
        refine .inl ⟨t, n, r, rfl, hr, .rep he2 (.inr ⟨h6, ?_⟩)⟩
        rcases hc with rfl | ⟨_, hm⟩
        · exact .one hs
        · exact hm.tail hs
      unfold leaveD
      rw [hnode]
      rcases hj with rfl | rfl | rfl
      · intro q hq
        have hq : q = (2 * r, p) ∨ q = (2 * (r + 1) + 1, p) := by simpa using hq
        rcases hq with rfl | rfl
        · exact hin (by omega)
        · exact hout
      · intro q hq
        have hq : q = (2 * r, p) ∨ q = (2 * (r + 1) + 1, p) := by simpa using hq
        rcases hq with rfl | rfl
        · exact hin (by omega)
        · exact hout
      · intro q hq
        have hq : q = (2 * (r + 1) + 1, p) := by simpa using hq
        subst hq
        exact hout
    | alt1 hj2 he2 =>
      rename_i j y
      have ho := he2.occ h0
      have hp := t.size_pos
      have hq := y.size_pos
      have hj : j = 3 := by rcases ho.ok.1 with h | h; exact absurd h hj2; exact h
      subst hj
      have ez : (Tr.two 3 t y).size = t.size + y.size + 1 := rfl
      have hup : up r = n + t.size + y.size := by have := ho.up.1; rw [show n + t.size - 1 = r by omega] at this; exact this
      have hnode : ((Tr.two 3 t y).node n).k = 3 := rfl
      rw [next_out ho hup (by omega) (by omega)]
      unfold leaveD
      rw [hnode]
      intro q hq
      have hq : q = (2 * (n + t.size + y.size) + 1, p) := by simpa using hq
      subst hq
      exact .inr ⟨_, n, _, a, rfl, by omega, he2, (SD.alt (by omega)).2 (.inl hs)⟩
    | alt2 hj2 he2 =>
      rename_i j x n
      have ho := he2.occ h0
      have hp := x.size_pos
      have hq := t.size_pos
      have hj : j = 3 := by rcases ho.ok.1 with h | h; exact absurd h hj2; exact h
      subst hj
      have ez : (Tr.two 3 x t).size = x.size + t.size + 1 := rfl
      have hup : up r = n + x.size + t.size := by have := ho.up.2.1; rw [show n + x.size + t.size - 1 = r by omega] at this; exact this
      have hnode : ((Tr.two 3 x t).node n).k = 3 := rfl
      rw [next_out ho hup (by omega) (by omega)]
      unfold leaveD
      rw [hnode]
      intro q hq
      have hq : q = (2 * (n + x.size + t.size) + 1, p) := by simpa using hq
      subst hq
      exact .inr ⟨_, n, _, a, rfl, by omega, he2, (SD.alt (by omega)).2 (.inr hs)⟩
    | cat1 hb he2 =>
      rename_i y
      subst hb
      have ho := he2.occ h0
      have hp := t.size_pos
      have hq := y.size_pos
      have ez : (Tr.two 2 t y).size = t.size + y.size + 1 := rfl
      have hup : up r = n + t.size + y.size := by have := ho.up.1; rw [show n + t.size - 1 = r by omega] at this; exact this
      have hnode : ((Tr.two 2 t y).node n).k = 2 := rfl
      have hkx : ((Tr.two 2 t y).node n).x = (r : Int) := by show (n : Int) + t.size - 1 = r; omega
      obtain ⟨u, hu⟩ : ∃ u, u + 1 = n + t.size + y.size := ⟨n + t.size + y.size - 1, by omega⟩
      have hky : ((Tr.two 2 t y).node n).y = (u : Int) := by show (n : Int) + t.size + y.size - 1 = u; omega
      rw [next_out ho hup (by omega) (by omega)]
      unfold leaveD
      rw [hnode, hkx, hky]
      intro q hq
      have hq : q = (2 * u, p) := by simpa using hq
      subst hq
      exact .inl ⟨y, n + t.size, u, rfl, by omega, .cat2 rfl he2 hs⟩
    | cat2 hb he2 hs2 =>
      rename_i x n a0
      subst hb
      have ho := he2.occ h0
      have hp := x.size_pos
      have hq := t.size_pos
      have ez : (Tr.two 2 x t).size = x.size + t.size + 1 := rfl
      have hup : up r = n + x.size + t.size := by have := ho.up.2.1; rw [show n + x.size + t.size - 1 = r by omega] at this; exact this
      have hnode : ((Tr.two 2 x t).node n).k = 2 := rfl
      have hkx : ¬ (r : Int) = ((Tr.two 2 x t).node n).x := by show ¬ (r : Int) = (n : Int) + x.size - 1; omega
      rw [next_out ho hup (by omega) (by omega)]
      unfold leaveD
      rw [hnode]
      intro q hq
      rw [if_neg (by simp; exact hkx)] at hq
      have hq : q = (2 * (n + x.size + t.size) + 1, p) := by simpa using hq
      subst hq
      exact .inr ⟨_, n, _, a0, rfl, by omega, he2, SD.cat.2 ⟨_, hs2, hs⟩⟩
    | tac1 hb he2 =>
      rename_i x n
      subst hb
      have ho := he2.occ h0
      have hp := x.size_pos
      have hq := t.size_pos
      have ez : (Tr.two 2 x t).size = x.size + t.size + 1 := rfl
      have hup : up r = n + x.size + t.size := by have := ho.up.2.1; rw [show n + x.size + t.size - 1 = r by omega] at this; exact this
      have hnode : ((Tr.two 2 x t).node n).k = 2 := rfl
      have hky : ((Tr.two 2 x t).node n).y = (r : Int) := by show (n : Int) + x.size + t.size - 1 = r; omega
      obtain ⟨v, hv⟩ : ∃ v, v + 1 = n + x.size := ⟨n + x.size - 1, by omega⟩
      have hkx : ((Tr.two 2 x t).node n).x = (v : Int) := by show (n : Int) + x.size - 1 = v; omega
      rw [next_out ho hup (by omega) (by omega)]
      unfold leaveD
      rw [hnode, hkx, hky]
      intro q hq
      have hq : q = (2 * v, p) := by simpa using hq
      subst hq
      exact .inl ⟨x, n, v, rfl, by omega, .tac2 rfl he2 hs⟩
    | tac2 hb he2 hs2 =>
      rename_i y a0
      subst hb
      have ho := he2.occ h0
      have hp := t.size_pos
      have hq := y.size_pos
      have ez : (Tr.two 2 t y).size = t.size + y.size + 1 := rfl
      have hup : up r = n + t.size + y.size := by have := ho.up.1; rw [show n + t.size - 1 = r by omega] at this; exact this
      have hnode : ((Tr.two 2 t y).node n).k = 2 := rfl
      have hky : ¬ (r : Int) = ((Tr.two 2 t y).node n).y := by show ¬ (r : Int) = (n : Int) + t.size + y.size - 1; omega
      rw [next_out ho hup (by omega) (by omega)]
      unfold leaveD
      rw [hnode]
      intro q hq
      rw [if_neg (by simp; exact hky)] at hq
      have hq : q = (2 * (n + t.size + y.size) + 1, p) := by simpa using hq
      subst hq
      exact .inr ⟨_, n, _, a0, rfl, by omega, he2, SD.tac.2 ⟨_, hs2, hs⟩⟩
theorem ent_root {bk : Bool} {s : List UInt8} {T : Tr} {Src : Nat → Prop} {t : Tr} {n a : Nat} (h : Ent bk s T Src t n a) : (t = T ∧ n = 0 ∧ Src a) ∨ n + t.size < T.size := by
  have step : ∀ {P t : Tr} {m n : Nat}, (P = T ∧ m = 0 ∧ True) ∨ m + P.size < T.size → n + t.size < m + P.size → n + t.size < T.size := fun {P t m n} h hlt => by
    rcases h with ⟨rfl, rfl, _⟩ | h <;> omega
  have weak : ∀ {P : Tr} {m a : Nat}, (P = T ∧ m = 0 ∧ Src a) ∨ m + P.size < T.size → (P = T ∧ m = 0 ∧ True) ∨ m + P.size < T.size := fun h => h.imp (fun h => ⟨h.1, h.2.1, trivial⟩) id
  induction h with
  | root ha => exact .inl ⟨rfl, rfl, ha⟩
  | rep _ _ ih => exact .inr (step (weak ih) (by show _ < _ + (_ + 1); omega))
  | @alt1 j x y n a _ _ ih => have := y.size_pos; exact .inr (step (weak ih) (by show _ < _ + (_ + _ + 1); omega))
  | @alt2 j x y n a _ _ ih => have := x.size_pos; exact .inr (step (weak ih) (by show _ < _ + (_ + _ + 1); omega))
  | @cat1 x y n a _ _ ih => have := y.size_pos; exact .inr (step (weak ih) (by show _ < _ + (_ + _ + 1); omega))
  | @cat2 x y n a c _ _ _ ih => have := x.size_pos; exact .inr (step (weak ih) (by show _ < _ + (_ + _ + 1); omega))
  | @tac1 x y n a _ _ ih => have := x.size_pos; exact .inr (step (weak ih) (by show _ < _ + (_ + _ + 1); omega))
  | @tac2 x y n a c _ _ _ ih => have := y.size_pos; exact .inr (step (weak ih) (by show _ < _ + (_ + _ + 1); omega))
/-- What is marked when nothing new comes: just the places to which the tree stands. -/
theorem marked_is {bk : Bool} {s : List UInt8} {ts : List Nd} {up : Nat → Nat} {T : Tr} {Src : Nat → Prop} {M : Nat → Nat → Prop} {last : Nat} (h0 : Occ ts up T 0) (hlen : T.size = ts.length) (hl : last + 1 = ts.length)
    (hM : Closed bk s ts up M) (hsrc : ∀ a, Src a → M (2 * last) a) (hmin : ∀ X : Nat → Nat → Prop, Closed bk s ts up X → (∀ a, Src a → X (2 * last) a) → ∀ g p, M g p → X g p) (b : Nat) :
    M (2 * last + 1) b ↔ ∃ a, Src a ∧ SD bk s T a b := by
  constructor
  · intro h
    have := hmin _ (come_closed Src h0 hlen) (fun a ha => .inl ⟨T, 0, last, rfl, by omega, .root ha⟩) _ _ h
    rcases this with ⟨t, n, r, h1, _⟩ | ⟨t, n, r, a, h1, hr, he, hs⟩
    · omega
    · rcases ent_root he with ⟨rfl, rfl, ha⟩ | hlt
      · exact ⟨a, ha, hs⟩
      · omega
  · rintro ⟨a, ha, hs⟩
    exact closed_does hM T 0 last h0 (by omega) a b (hsrc a ha) hs
end Go.Proofs.Ytgffmbdbjbhocaa
namespace Go.Proofs.Ytgffmbdbjbhocaa
open Go.RowKit Go.Lib

theorem Try.infoSpot : (Try.prog.info? 137).map (fun i => (i.zero, i.size, i.bytes)) = some (some (.agg #[.int .i64 0, .int .i64 0]), 2, 16) := by kernel_rfl
theorem Try.infoBool : (Try.prog.info? 4).map (fun i => (i.zero, i.size, i.bytes)) = some (some (.bool false), 1, 1) := by kernel_rfl
theorem Try.infoBools : (Try.prog.info? 46).map (fun i => (i.zero, i.size, i.bytes)) = some (some (.slice none 0 0), 1, 24) := by kernel_rfl

def spotC (F : List (Nat × Nat)) : List Value := F.flatMap fun x => [.int .i64 (x.1 : Int), .int .i64 (x.2 : Int)]
theorem spotC_append (a b : List (Nat × Nat)) : spotC (a ++ b) = spotC a ++ spotC b := List.flatMap_append
def rowC (n : Nat) (f : Nat → Bool) : List Value := (List.range (n + 1)).map fun p => .bool (f p)
theorem rowC_get (n : Nat) (f : Nat → Bool) (p : Nat) (hp : p ≤ n) : (rowC n f)[p]? = some (.bool (f p)) := by
  unfold rowC
  rw [List.getElem?_map, List.getElem?_range (by omega)]
  rfl
theorem rowC_length (n : Nat) (f : Nat → Bool) : (rowC n f).length = n + 1 := by unfold rowC; simp
theorem rowC_set (n : Nat) (f : Nat → Bool) (p : Nat) : (rowC n f).set p (.bool true) = rowC n (fun q => if q = p then true else f q) := by
  apply List.ext_getElem?
  intro j
  rw [List.getElem?_set]
  by_cases hj : j ≤ n
  · rw [rowC_get _ _ _ hj, rowC_get _ _ _ hj, rowC_length]
    by_cases h : p = j
    · subst h; simp [show p < n + 1 by omega]
    · rw [if_neg h, if_neg (fun e => h e.symm)]
  · rw [List.getElem?_eq_none (by rw [rowC_length]; omega), List.getElem?_eq_none (by rw [rowC_length]; omega), rowC_length]
    by_cases h : p = j
    · subst h; simp [show ¬ p < n + 1 by omega]
    · rw [if_neg h]
theorem rowC_made (n : Nat) : madeCells #[.bool false] (n + 1) = ⟨rowC n (fun _ => false)⟩ := by
  apply Array.ext'
  rw [toList_madeCells_one]
  unfold rowC
  apply List.ext_getElem?
  intro j
  by_cases h : j < n + 1
  · rw [List.getElem?_replicate, if_pos h, List.getElem?_map, List.getElem?_range h]; rfl
  · rw [List.getElem?_eq_none (by simpa using h), List.getElem?_eq_none (by simpa using h)]
/-- A gate's row. -/
def RowAt (B n : Nat) (f : Nat → Bool) (v : Value) (w : World) : Prop :=
  (v = .slice none 0 0 ∧ ∀ p, f p = false) ∨ ∃ b, v = .slice (some ⟨b, 0, none⟩) (n + 1) (n + 1) ∧ B ≤ b ∧ w.heap[b]? = some (.cells ⟨rowC n f⟩ 4 (0, 0))
/-- How many spots bear no mark. -/
def free (M : Nat → Nat → Bool) (n L : Nat) : Nat := (List.range (2 * L * (n + 1))).countP fun i => !M (i / (n + 1)) (i % (n + 1))
def setM (M : Nat → Nat → Bool) (g p : Nat) : Nat → Nat → Bool := fun h q => if h = g ∧ q = p then true else M h q
theorem count_less (f f' : Nat → Bool) (k : Nat) (h : ∀ i, i ≠ k → f' i = f i) (h1 : f k = true) (h2 : f' k = false) : ∀ n, k < n → (List.range n).countP f = (List.range n).countP f' + 1 := by
  have same : ∀ n, n ≤ k → (List.range n).countP f = (List.range n).countP f' := fun n => by
    induction n with
    | zero => intro _; rfl
    | succ n ih =>
      intro hn
      rw [List.range_succ, List.countP_append, List.countP_append, ih (by omega)]
      simp [List.countP_cons, h n (by omega)]
  intro n
  induction n with
  | zero => intro h; omega
  | succ n ih =>
    intro hn
    rw [List.range_succ, List.countP_append, List.countP_append]
    by_cases e : n = k
    · subst e
      rw [same n (Nat.le_refl _)]
      simp [h1, h2]
    · rw [ih (by omega)]
      simp [List.countP_cons, h n e]
      omega
theorem free_set (M : Nat → Nat → Bool) (n L g p : Nat) (hg : g < 2 * L) (hp : p ≤ n) (hM : M g p = false) : free M n L = free (setM M g p) n L + 1 := by
  have hd : (g * (n + 1) + p) / (n + 1) = g := by rw [Nat.mul_comm, Nat.mul_add_div (by omega), Nat.div_eq_of_lt (by omega)]; omega
  have hm : (g * (n + 1) + p) % (n + 1) = p := by rw [Nat.mul_comm, Nat.mul_add_mod, Nat.mod_eq_of_lt (by omega)]
  refine count_less _ _ (g * (n + 1) + p) (fun i hi => ?_) (by rw [hd, hm, hM]; rfl) (by rw [hd, hm]; unfold setM; simp) _ ?_
  · unfold setM
    rw [if_neg]
    rintro ⟨h1, h2⟩
    apply hi
    have := Nat.div_add_mod i (n + 1)
    rw [h1, h2, Nat.mul_comm] at this
    omega
  · have : (g + 1) * (n + 1) ≤ 2 * L * (n + 1) := Nat.mul_le_mul_right _ (by omega)
    rw [Nat.add_mul] at this
    omega
theorem setM_same {M : Nat → Nat → Bool} {g p : Nat} (h : M g p = true) : setM M g p = M := by
  funext h1 q
  unfold setM
  by_cases e : h1 = g ∧ q = p
  · rw [if_pos e, e.1, e.2, h]
  · rw [if_neg e]

/-- The marks' memory. -/
structure Mk (B br bR bs bf L : Nat) (s : ByteArray) (M : Nat → Nat → Bool) (F : List (Nat × Nat)) (w : World) : Prop where
  hB : B ≤ br ∧ B ≤ bR ∧ B ≤ bf
  rows : w.heap[br]? = some (.cells #[.slice (some ⟨bR, 0, none⟩) (2 * L) (2 * L)] 134 (0, 0))
  cells : ∃ rv : List Value, rv.length = 2 * L ∧ w.heap[bR]? = some (.cells ⟨rv⟩ 46 (0, 0)) ∧ (∀ g v, rv[g]? = some v → RowAt B s.size (M g) v w) ∧ ∀ (g h : Nat) (b : Addr) (n c m d : Nat), rv[g]? = some (Value.slice (some b) n c) → rv[h]? = some (Value.slice (some b) m d) → g = h
  str : w.heap[bs]? = some (.cells #[.string s] 9 (0, 0))
  fresh : ∃ v, w.heap[bf]? = some (.cells #[v] 135 (0, 0)) ∧ w.ownsRow B 137 2 v F.length (spotC F)
  inb : ∀ g p, M g p = true → g < 2 * L ∧ p ≤ s.size
  cnt : F.length + free M s.size L ≤ 2 * L * (s.size + 1)
  small : L ≤ 2000 ∧ s.size ≤ 1000000
/-- What a step of the search leaves alone. -/
structure Kept (B : Nat) (w w' : World) : Prop where
  low : Below B w w'
  other : ∀ (j : Nat) (cs : Array Value) (T : TypeId) (fz : Nat × Nat), w.heap[j]? = some (Obj.cells cs T fz) → T ≠ 4 → T ≠ 46 → T ≠ 135 → T ≠ 137 → w'.heap[j]? = some (Obj.cells cs T fz)
theorem Kept.refl (B : Nat) (w : World) : Kept B w w := ⟨Below.refl _ _, fun _ _ _ _ h _ _ _ _ => h⟩
theorem Kept.trans {B : Nat} {a b c : World} (h : Kept B a b) (k : Kept B b c) : Kept B a c := ⟨h.low.trans k.low, fun j cs T fz e h1 h2 h3 h4 => k.other j cs T fz (h.other j cs T fz e h1 h2 h3 h4) h1 h2 h3 h4⟩
theorem Kept.of_below {B : Nat} {w w' : World} (h : Below w.heap.size w w') (hB : B ≤ w.heap.size) : Kept B w w' := ⟨h.mono hB, fun j _ _ _ e _ _ _ _ => (h.block j (block_lt e)).trans e⟩
theorem Mk.B_le {B br bR bs bf L : Nat} {s : ByteArray} {M : Nat → Nat → Bool} {F : List (Nat × Nat)} {w : World} (h : Mk B br bR bs bf L s M F w) : B ≤ w.heap.size := Nat.le_of_lt (Nat.lt_of_le_of_lt h.hB.1 (block_lt h.rows))
theorem cells_twoM (w : World) (h : Nat) (hw : w.heap.size = h) (t : TypeId) (p q : Value) : ∀ j x, [p, q][j]? = some x → (w.alloc (.cells #[p, q] t)).cell? ((⟨h, 0, none⟩ : Addr).add j) = some x := by
  subst hw
  intro j x hj
  have h := heap_alloc_new w (.cells #[p, q] t)
  have e : (⟨w.heap.size, 0, none⟩ : Addr).add j = ⟨w.heap.size, j, none⟩ := by simp [Addr.add]; intro h; exact h.symm
  rw [e, cell_of_heap h]
  simpa using hj

theorem cell_plainB {w : World} {a : Addr} {v : Value} (h : w.cell? a = some v) : a.block < w.heap.size := by
  unfold World.cell? at h
  split at h
  · rename_i hh
    by_cases hl : a.block < w.heap.size
    · exact hl
    · rw [Array.getElem?_eq_none (by omega)] at hh; cases hh
  · cases h

theorem block_lt' {w : World} {b o : Nat} {v : Value} (h : w.cell? ⟨b, o, none⟩ = some v) : b < w.heap.size := cell_plainB h

set_option maxHeartbeats 1000000 in
set_option maxRecDepth 20000 in
/-- What bears a mark stays as it is. -/
theorem mark_old (br bR bs bf g p b N K : Nat) (w : World) (hg : (g : Int) < (K : Int)) (hp : (p : Int) < (N : Int))
    (c0 : w.cell? ⟨br, 0, none⟩ = some (.slice (some ⟨bR, 0, none⟩) K K)) (c1 : w.cell? ⟨bR, g, none⟩ = some (.slice (some ⟨b, 0, none⟩) N N)) (c2 : w.cell? ⟨b, p, none⟩ = some (.bool true)) :
    Calls Try.prog 104 #[.int .i64 (g : Int), .int .i64 (p : Int), .pointer (some ⟨br, 0, none⟩), .pointer (some ⟨bs, 0, none⟩), .pointer (some ⟨bf, 0, none⟩)] w fun e w' => e = .returned (.tuple #[]) ∧ w = w' := by
  have ke := fun (w : World) (a : Option Addr) (n c : Nat) => run_eql_slice_nil (P := Try.prog) w 46 4 a n c 0 0 Try.underlying46
  have g0 : (0 : Int) ≤ (g : Int) := by omega
  have p0 : (0 : Int) ≤ (p : Int) := by omega
  go_enter Try.func104, Try.ntmps104
  go_wp2
  go_end0
  exact ⟨rfl, rfl⟩
set_option maxHeartbeats 1000000 in
set_option maxRecDepth 20000 in
/-- A mark in a row that there is. -/
theorem mark_add (B br bR bs bf g p b N K m : Nat) (v : Value) (ys : List Value) (w : World) (hg : (g : Int) < (K : Int)) (hp : (p : Int) < (N : Int))
    (c0 : w.cell? ⟨br, 0, none⟩ = some (.slice (some ⟨bR, 0, none⟩) K K)) (c1 : w.cell? ⟨bR, g, none⟩ = some (.slice (some ⟨b, 0, none⟩) N N)) (c2 : w.cell? ⟨b, p, none⟩ = some (.bool false)) (f2 : w.frozen? ⟨b, p, none⟩ = false)
    (hB : B ≤ w.heap.size) (hBb : B ≤ b) (hBf : B ≤ bf) (hf : w.heap[bf]? = some (.cells #[v] 135 (0, 0))) (hown : w.ownsRow B 137 2 v m ys) (hm : m ≤ 100000000000)
    (hne : b ≠ bf) (hnb : v.ownBlock ≠ some b) (hnf : v.ownBlock ≠ some bf) :
    Calls Try.prog 104 #[.int .i64 (g : Int), .int .i64 (p : Int), .pointer (some ⟨br, 0, none⟩), .pointer (some ⟨bs, 0, none⟩), .pointer (some ⟨bf, 0, none⟩)] w fun e w' => e = .returned (.tuple #[]) ∧
      (∃ v', w'.heap[bf]? = some (.cells #[v'] 135 (0, 0)) ∧ w'.ownsRow B 137 2 v' (m + 1) (ys ++ [.int .i64 (g : Int), .int .i64 (p : Int)])) ∧ w'.heap[b]? = (w.setCell ⟨b, p, none⟩ (.bool true)).heap[b]? ∧
      (∀ j, j < w.heap.size → j ≠ b → j ≠ bf → v.ownBlock ≠ some j → w'.heap[j]? = w.heap[j]?) ∧ Below B w w' := by
  have ke := fun (w : World) (a : Option Addr) (n c : Nat) => run_eql_slice_nil (P := Try.prog) w 46 4 a n c 0 0 Try.underlying46
  have g0 : (0 : Int) ≤ (g : Int) := by omega
  have p0 : (0 : Int) ≤ (p : Int) := by omega
  obtain ⟨i0, hi, hz0, hz1, hz2⟩ := info_parts Try.infoSpot
  have hfl := block_lt hf
  have hbl : b < w.heap.size := (cell_plainB c2)
  have HF := Lib.hid hf
  have HO := Lib.hid hown
  clear hf hown
  go_enter Try.func104, Try.ntmps104
  go_upto_region 4 with (fail)
  obtain ⟨W, hW⟩ : ∃ W, W = w.setCell ⟨b, p, none⟩ (.bool true) := ⟨_, rfl⟩
  rw [← hW]
  have hWo : ∀ j, j ≠ b → W.heap[j]? = w.heap[j]? := fun j hj => by rw [hW]; exact Below.heap_setCell _ _ _ _ hj
  have hWz : W.heap.size = w.heap.size := by rw [hW]; simp [World.setCell]
  have hWb : Below B w W := by rw [hW]; exact (Below.refl _ w).setCell (p := ⟨b, p, none⟩) hBb _
  have hf2 : W.heap[bf]? = some (.cells #[v] 135 (0, 0)) := (hWo bf (fun e => hne e.symm)).trans HF.out
  have cf : W.cell? ⟨bf, 0, none⟩ = some v := by rw [cell_of_heap hf2]; rfl
  have ho2 : W.ownsRow B 137 2 v m ys := owns_same HO.out fun q hq => hWo q (fun e => hnb (by rw [hq, e]))
  have HF2 := Lib.hid hf2
  have hBW : B ≤ W.heap.size := by omega
  have hflW : bf < W.heap.size := by omega
  have HW := Lib.hid (And.intro hW (And.intro hWo (And.intro hWb hWz)))
  clear c0 c1 c2 f2 hW hWo hf2 hWb hWz
  go_wp2_with (first
    | (at_builtin; refine wpList_append_own _ rfl (.tmp 33) (.tmp 37) 135 rfl B 137 i0 _ 2 16 Try.underlying135 hi hz0 hz1 hz2 rfl (by decide) v m ys rfl (owns_alloc ho2) ⟨W.heap.size, 0, none⟩ 1 1 [.int .i64 (g : Int), .int .i64 (p : Int)] rfl rfl (cells_twoM _ _ rfl _ _ _) (by simp [Value.oneCell']) (by unfold maxLen; omega) (by omega) (by simp; omega) ?_; intro v2 w2 hown2 hgrow2 _
       have hp2 : w2.heap[bf]? = some (.cells #[v] 135 (0, 0)) := (hgrow2.block bf (by simp; omega) (fun e => hnf e.symm)).trans ((Below.heap_alloc _ _ _ (by omega)).trans HF2.out)
       have cp2 : w2.cell? ⟨bf, 0, none⟩ = some v := by rw [cell_of_heap hp2]; rfl
       have fp2 : w2.frozen? ⟨bf, 0, none⟩ = false := frozen_of_heap hp2 0
       obtain ⟨g2, cap2, rfl⟩ := owned_slice hown2 (by omega)
       have HP2 := Lib.hid hp2
       have HG2 := Lib.hid (And.intro hown2 hgrow2)
       clear hp2 hown2 hgrow2)
    | fail)
  go_end0
  have hWz := HW.out.2.2.2
  have hb2 : Below B w w2 := (HW.out.2.2.1.alloc (by omega) _).grown HG2.out.2 (by simp; omega) (fun q hq => own_base ho2 hq)
  have hob : ∀ j, j < w.heap.size → v.ownBlock ≠ some j → w2.heap[j]? = W.heap[j]? := fun j hj hv => (HG2.out.2.block j (by simp; omega) (fun e => hv e.symm)).trans (Below.heap_alloc _ _ _ (by omega))
  have hne2 : (Value.slice (some ⟨g2, 0, none⟩) (m + 1) cap2).ownBlock ≠ some bf := fun e => by
    rcases HG2.out.1.2 with ⟨h, _⟩ | ⟨g', _, _, h, _, hh, _⟩
    · cases h
    · cases h
      cases e
      rw [HP2.out] at hh
      injection hh with hh
      injection hh with _ hh _
      exact absurd hh (by decide)
  refine ⟨rfl, ⟨_, ?_, owns_same HG2.out.1 fun q hq => Below.heap_setCell _ _ _ _ (fun e => hne2 (by rw [hq]; simp [e]))⟩, ?_, ?_, hb2.trans ((Below.refl _ _).setCell (p := ⟨bf, 0, none⟩) hBf _)⟩
  · have h := heap_setCell_same w2 bf 0 _ _ (Value.slice (some ⟨g2, 0, none⟩) (m + 1) cap2) HP2.out
    simpa using h
  · rw [Below.heap_setCell _ _ _ _ (by simpa using hne), hob b hbl hnb, HW.out.1]
  · intro j hj h1 h2 h3
    rw [Below.heap_setCell _ _ _ _ (by simpa using h2), hob j hj h3]
    exact HW.out.2.1 j h1

set_option maxHeartbeats 2000000 in
set_option maxRecDepth 20000 in
/-- The first mark of a gate: its row is made. -/
theorem mark_new (B br bR bs bf g p N K m : Nat) (s : ByteArray) (v : Value) (rv ys : List Value) (w : World) (hg : (g : Int) < (K : Int)) (hp : (p : Int) < (N : Int)) (hN : N = s.size + 1) (hNs : N ≤ 1000001)
    (c0 : w.cell? ⟨br, 0, none⟩ = some (.slice (some ⟨bR, 0, none⟩) K K)) (hR : w.heap[bR]? = some (.cells ⟨rv⟩ 46 (0, 0))) (hz : rv[g]? = some (.slice none 0 0)) (cs : w.cell? ⟨bs, 0, none⟩ = some (.string s))
    (hB : B ≤ w.heap.size) (hBR : B ≤ bR) (hBf : B ≤ bf) (hf : w.heap[bf]? = some (.cells #[v] 135 (0, 0))) (hown : w.ownsRow B 137 2 v m ys) (hm : m ≤ 100000000000)
    (hnR : bR ≠ bf) (hnr : bR ≠ br) (hns : bR ≠ bs) (hvR : v.ownBlock ≠ some bR) (hnf : v.ownBlock ≠ some bf) :
    Calls Try.prog 104 #[.int .i64 (g : Int), .int .i64 (p : Int), .pointer (some ⟨br, 0, none⟩), .pointer (some ⟨bs, 0, none⟩), .pointer (some ⟨bf, 0, none⟩)] w fun e w' => e = .returned (.tuple #[]) ∧
      (∃ v', w'.heap[bf]? = some (.cells #[v'] 135 (0, 0)) ∧ w'.ownsRow B 137 2 v' (m + 1) (ys ++ [.int .i64 (g : Int), .int .i64 (p : Int)])) ∧
      w'.heap[w.heap.size]? = some (.cells ⟨rowC s.size (fun q => if q = p then true else false)⟩ 4 (0, 0)) ∧ w'.heap[bR]? = some (.cells ⟨rv.set g (.slice (some ⟨w.heap.size, 0, none⟩) N N)⟩ 46 (0, 0)) ∧
      (∀ j, j < w.heap.size → j ≠ bR → j ≠ bf → v.ownBlock ≠ some j → w'.heap[j]? = w.heap[j]?) ∧ Below B w w' := by
  have ke := fun (w : World) (a : Option Addr) (n c : Nat) => run_eql_slice_nil (P := Try.prog) w 46 4 a n c 0 0 Try.underlying46
  have g0 : (0 : Int) ≤ (g : Int) := by omega
  have p0 : (0 : Int) ≤ (p : Int) := by omega
  have hI : IntKind.i64.wrap ((s.size : Int) + 1) = (N : Int) := by rw [IntWalk.i64_in _ (by omega)]; omega
  have c1 : w.cell? ⟨bR, g, none⟩ = some (.slice none 0 0) := by rw [cell_of_heap hR]; simpa using hz
  have f1 : w.frozen? ⟨bR, g, none⟩ = false := frozen_of_heap hR g
  have kmk := fun (w : World) => run_make_row' (P := Try.prog) 46 4 (.bool false) 1 Try.underlying46 Try.infoBool rfl .i64 .i64 N (by omega) (by omega) w
  have n0 := World.new_ne w ⟨br, 0, none⟩ c0
  have n1 := World.new_ne w ⟨bs, 0, none⟩ cs
  have n2 := World.new_ne w ⟨bR, g, none⟩ c1
  obtain ⟨i0, hi, hz0, hz1, hz2⟩ := info_parts Try.infoSpot
  have hfl := block_lt hf
  have hRl := block_lt hR
  have HF := Lib.hid hf
  have HO := Lib.hid hown
  have HR := Lib.hid (And.intro hR hz)
  have HN := Lib.hid hN
  clear hf hown hR hz hN
  obtain ⟨X, hX⟩ : ∃ X, X = Obj.cells (madeCells #[.bool false] N) 4 := ⟨_, rfl⟩
  rw [← hX] at kmk
  have HX := Lib.hid hX
  clear hX
  go_enter Try.func104, Try.ntmps104
  go_upto_region 1 with (fail)
  go_region_held3 (fun w' => w'.cell? ⟨br, 0, none⟩ = some (.slice (some ⟨bR, 0, none⟩) K K) ∧ w'.cell? ⟨bs, 0, none⟩ = some (.string s)) (go_keep) (fail)
  obtain ⟨V, hV⟩ : ∃ V, V = ((w.setCell { block := bR, off := g } (Value.slice (some { block := w.heap.size, off := 0 }) N N)).alloc X).drew := ⟨_, rfl⟩
  rw [← hV]
  obtain ⟨b, hb⟩ : ∃ b, b = w.heap.size := ⟨_, rfl⟩
  rw [← hb] at hV ⊢
  have vz : V.heap.size = b + 1 := by rw [hV, hb]; simp [World.setCell]
  have vo : ∀ j, j < b → j ≠ bR → V.heap[j]? = w.heap[j]? := fun j hj h => by
    rw [hV]
    exact (Below.heap_alloc _ _ _ (by simp [World.setCell]; omega)).trans (Below.heap_setCell _ _ _ _ h)
  have vb : V.heap[b]? = some (.cells ⟨rowC s.size (fun _ => false)⟩ 4 (0, 0)) := by
    have h := heap_alloc_new (w.setCell { block := bR, off := g } (Value.slice (some { block := b, off := 0 }) N N)) X
    have e : (w.setCell { block := bR, off := g } (Value.slice (some { block := b, off := 0 }) N N)).heap.size = b := by rw [hb]; simp [World.setCell]
    rw [e] at h
    rw [hV]
    refine h.trans ?_
    rw [HX.out, HN.out, rowC_made]
  have vR : V.heap[bR]? = some (.cells ⟨rv.set g (.slice (some ⟨b, 0, none⟩) N N)⟩ 46 (0, 0)) := by
    rw [hV]
    refine (Below.heap_alloc _ _ _ (by simp [World.setCell]; omega)).trans ?_
    have h := heap_setCell_same w bR g _ _ (Value.slice (some { block := b, off := 0 }) N N) HR.out.1
    simpa using h
  have vB : Below B w V := by rw [hV]; exact (((Below.refl _ w).setCell (p := ⟨bR, g, none⟩) hBR _).alloc (by simp [World.setCell]; omega) _).drew
  have hglt : g < rv.length := by
    by_cases h : g < rv.length
    · exact h
    · have := HR.out.2; rw [List.getElem?_eq_none (by omega)] at this; cases this
  have hpn : p ≤ s.size := by have := HN.out; omega
  have hbrl := block_lt' c0
  have hbsl := block_lt' cs
  have d0 : V.cell? ⟨br, 0, none⟩ = some (.slice (some ⟨bR, 0, none⟩) K K) := (World.cell?_of_block (vo br (by omega) (fun e => hnr e.symm))).trans c0
  have d1 : V.cell? ⟨bR, g, none⟩ = some (.slice (some ⟨b, 0, none⟩) N N) := by rw [cell_of_heap vR]; simp [hglt]
  have d2 : V.cell? ⟨b, p, none⟩ = some (.bool false) := by rw [cell_of_heap vb]; simpa using rowC_get s.size (fun _ => false) p hpn
  have f2 : V.frozen? ⟨b, p, none⟩ = false := frozen_of_heap vb p
  have hf : V.heap[bf]? = some (.cells #[v] 135 (0, 0)) := (vo bf (by omega) (fun e => hnR e.symm)).trans HF.out
  have hown : V.ownsRow B 137 2 v m ys := owns_same HO.out fun q hq => vo q (by rw [hb]; exact own_block_lt HO.out hq) (fun e => hvR (by rw [hq, e]))
  have hnb : v.ownBlock ≠ some b := fun e => by have := own_block_lt HO.out e; omega
  have HFV := Lib.hid hf
  have HOV := Lib.hid hown
  have HV := Lib.hid (And.intro vb (And.intro vR (And.intro vo (And.intro vB vz))))
  have hbV : b < V.heap.size := by omega
  have hBV : B ≤ V.heap.size := Nat.le_trans hB vB.size
  have hbf : bf < b := by omega
  have hRb : bR < b := by omega
  have HB := Lib.hid hb
  clear c0 c1 f1 cs n0 n1 n2 hV vz vo vb vR vB hb hf hown kmk hbrl hbsl
  go_upto_region 4 with (fail)
  obtain ⟨W, hW⟩ : ∃ W, W = V.setCell ⟨b, p, none⟩ (.bool true) := ⟨_, rfl⟩
  rw [← hW]
  have hWo : ∀ j, j ≠ b → W.heap[j]? = V.heap[j]? := fun j hj => by rw [hW]; exact Below.heap_setCell _ _ _ _ hj
  have hWz : W.heap.size = V.heap.size := by rw [hW]; simp [World.setCell]
  have hWb : Below B V W := by rw [hW]; exact (Below.refl _ V).setCell (p := ⟨b, p, none⟩) (by show B ≤ b; have := HB.out; omega) _
  have hf2 : W.heap[bf]? = some (.cells #[v] 135 (0, 0)) := (hWo bf (by omega)).trans HFV.out
  have cf : W.cell? ⟨bf, 0, none⟩ = some v := by rw [cell_of_heap hf2]; rfl
  have ho2 : W.ownsRow B 137 2 v m ys := owns_same HOV.out fun q hq => hWo q (fun e => hnb (by rw [hq, e]))
  have HF2 := Lib.hid hf2
  have hBW : B ≤ W.heap.size := by omega
  have hflW : bf < W.heap.size := by omega
  have HW := Lib.hid (And.intro hW (And.intro hWo (And.intro hWb hWz)))
  clear d0 d1 d2 f2 hW hWo hf2 hWb hWz
  go_wp2_with (first
    | (at_builtin; refine wpList_append_own _ rfl (.tmp 33) (.tmp 37) 135 rfl B 137 i0 _ 2 16 Try.underlying135 hi hz0 hz1 hz2 rfl (by decide) v m ys rfl (owns_alloc ho2) ⟨W.heap.size, 0, none⟩ 1 1 [.int .i64 (g : Int), .int .i64 (p : Int)] rfl rfl (cells_twoM _ _ rfl _ _ _) (by simp [Value.oneCell']) (by unfold maxLen; omega) (by omega) (by simp; omega) ?_; intro v2 w2 hown2 hgrow2 _
       have hp2 : w2.heap[bf]? = some (.cells #[v] 135 (0, 0)) := (hgrow2.block bf (by simp; omega) (fun e => hnf e.symm)).trans ((Below.heap_alloc _ _ _ (by omega)).trans HF2.out)
       have cp2 : w2.cell? ⟨bf, 0, none⟩ = some v := by rw [cell_of_heap hp2]; rfl
       have fp2 : w2.frozen? ⟨bf, 0, none⟩ = false := frozen_of_heap hp2 0
       obtain ⟨g2, cap2, rfl⟩ := owned_slice hown2 (by omega)
       have HP2 := Lib.hid hp2
       have HG2 := Lib.hid (And.intro hown2 hgrow2)
       clear hp2 hown2 hgrow2)
    | fail)
  go_end0
  have hWz := HW.out.2.2.2
  have hb2 : Below B w w2 := ((HV.out.2.2.2.1.trans HW.out.2.2.1).alloc (by omega) _).grown HG2.out.2 (by simp; omega) (fun q hq => own_base ho2 hq)
  have hob : ∀ j, j < V.heap.size → v.ownBlock ≠ some j → w2.heap[j]? = W.heap[j]? := fun j hj hv => (HG2.out.2.block j (by simp; omega) (fun e => hv e.symm)).trans (Below.heap_alloc _ _ _ (by omega))
  have hne2 : (Value.slice (some ⟨g2, 0, none⟩) (m + 1) cap2).ownBlock ≠ some bf := fun e => by
    rcases HG2.out.1.2 with ⟨h, _⟩ | ⟨g', _, _, h, _, hh, _⟩
    · cases h
    · cases h
      cases e
      rw [HP2.out] at hh
      injection hh with hh
      injection hh with _ hh _
      exact absurd hh (by decide)
  have hbb : b = w.heap.size := HB.out
  refine ⟨rfl, ⟨_, ?_, owns_same HG2.out.1 fun q hq => Below.heap_setCell _ _ _ _ (fun e => hne2 (by rw [hq]; simp [e]))⟩, ?_, ?_, ?_, hb2.trans ((Below.refl _ _).setCell (p := ⟨bf, 0, none⟩) hBf _)⟩
  · have h := heap_setCell_same w2 bf 0 _ _ (Value.slice (some ⟨g2, 0, none⟩) (m + 1) cap2) HP2.out
    simpa using h
  · rw [← hbb, Below.heap_setCell _ _ _ _ (by simp; omega), hob b hbV hnb, HW.out.1]
    have h := heap_setCell_same V b p _ _ (.bool true) HV.out.1
    rw [h]
    have e := rowC_set s.size (fun _ => false) p
    simp [e]
  · rw [← hbb, Below.heap_setCell _ _ _ _ (by simpa using hnR), hob bR (by omega) hvR, HW.out.2.1 bR (by omega)]
    exact HV.out.2.1
  · intro j hj h1 h2 h3
    rw [Below.heap_setCell _ _ _ _ (by simpa using h2), hob j (by omega) h3, HW.out.2.1 j (by omega)]
    exact HV.out.2.2.1 j (by omega) h1
theorem mk_any (B br bR bs bf L g p : Nat) (s : ByteArray) (M : Nat → Nat → Bool) (F : List (Nat × Nat)) (w : World) (h : Mk B br bR bs bf L s M F w) (hg : g < 2 * L) (hp : p ≤ s.size) :
    Calls Try.prog 104 #[.int .i64 (g : Int), .int .i64 (p : Int), .pointer (some ⟨br, 0, none⟩), .pointer (some ⟨bs, 0, none⟩), .pointer (some ⟨bf, 0, none⟩)] w fun e w' => e = .returned (.tuple #[]) ∧
      Mk B br bR bs bf L s (setM M g p) (if M g p = true then F else F ++ [(g, p)]) w' ∧ Kept B w w' := by
  obtain ⟨rv, hrl, hR, hrow, hdis⟩ := h.cells
  obtain ⟨v, hf, hown⟩ := h.fresh
  have hBl := h.B_le
  obtain ⟨u, hu⟩ : ∃ u, rv[g]? = some u := ⟨_, List.getElem?_eq_getElem (by omega)⟩
  have c0 : w.cell? ⟨br, 0, none⟩ = some (.slice (some ⟨bR, 0, none⟩) (2 * L) (2 * L)) := by rw [cell_of_heap h.rows]; rfl
  have c1 : w.cell? ⟨bR, g, none⟩ = some u := by rw [cell_of_heap hR]; simpa using hu
  have cs : w.cell? ⟨bs, 0, none⟩ = some (.string s) := by rw [cell_of_heap h.str]; rfl
  have ty : ∀ {i j : Nat} {a b : Array Value} {T U : TypeId} {fz fz' : Nat × Nat}, w.heap[i]? = some (.cells a T fz) → w.heap[j]? = some (.cells b U fz') → T ≠ U → i ≠ j := fun h1 h2 hne e => by
    subst e
    rw [h1] at h2
    injection h2 with h2
    injection h2 with _ h2 _
    exact hne h2
  have n1 : bR ≠ bf := ty hR hf (by decide)
  have n2 : bR ≠ br := ty hR h.rows (by decide)
  have n3 : bR ≠ bs := ty hR h.str (by decide)
  have own : ∀ {q : Nat}, v.ownBlock = some q → ∃ cs, w.heap[q]? = some (.cells cs 137 (0, 0)) := fun hq => by
    rcases hown.2 with ⟨rfl, _⟩ | ⟨g', _, cur, rfl, _, hh, _⟩
    · cases hq
    · cases hq; exact ⟨_, hh⟩
  have n4 : v.ownBlock ≠ some bR := fun e => by obtain ⟨cs, hh⟩ := own e; exact ty hR hh (by decide) rfl
  have n5 : v.ownBlock ≠ some bf := fun e => by obtain ⟨cs, hh⟩ := own e; exact ty hf hh (by decide) rfl
  have hm : F.length ≤ 100000000000 := by
    have h1 := h.cnt
    have h2 := h.small
    have : 2 * L * (s.size + 1) ≤ 4000 * 1000001 := Nat.mul_le_mul (by omega) (by omega)
    omega
  by_cases hM : M g p = true
  · rw [if_pos hM, setM_same hM]
    rcases hrow g u hu with ⟨rfl, hno⟩ | ⟨b, rfl, hBb, hb⟩
    · rw [hno] at hM; cases hM
    · refine (mark_old br bR bs bf g p b (s.size + 1) (2 * L) w (by omega) (by omega) c0 c1 (by rw [cell_of_heap hb]; simpa [hM] using rowC_get s.size (M g) p hp)).mono ?_
      rintro e w' ⟨rfl, rfl⟩
      exact ⟨rfl, h, Kept.refl _ _⟩
  · rw [if_neg hM]
    have hMf : M g p = false := by simpa using hM
    have hfree := free_set M s.size L g p hg hp hMf
    have hcnt := h.cnt
    have hinb : ∀ g' p', setM M g p g' p' = true → g' < 2 * L ∧ p' ≤ s.size := fun g' p' hh => by
      unfold setM at hh
      by_cases e : g' = g ∧ p' = p
      · rw [e.1, e.2]; exact ⟨hg, hp⟩
      · rw [if_neg e] at hh; exact h.inb g' p' hh
    have hspot : spotC (F ++ [(g, p)]) = spotC F ++ [.int .i64 (g : Int), .int .i64 (p : Int)] := by rw [spotC_append]; rfl
    have same : ∀ g', g' ≠ g → setM M g p g' = M g' := fun g' hne => by
      funext q; unfold setM; rw [if_neg (fun e => hne e.1)]
    have this : setM M g p g = fun q => if q = p then true else M g q := by
      funext q; unfold setM; simp
    rcases hrow g u hu with ⟨rfl, hno⟩ | ⟨b, rfl, hBb, hb⟩
    · refine (mark_new B br bR bs bf g p (s.size + 1) (2 * L) F.length s v rv (spotC F) w (by omega) (by omega) rfl (by have := h.small; omega) c0 hR hu cs hBl h.hB.2.1 h.hB.2.2 hf hown hm n1 n2 n3 n4 n5).mono ?_
      rintro e w' ⟨rfl, ⟨v', f1, f2⟩, hnew, hRR, hoth, hlow⟩
      have keep : ∀ {j : Nat} {cs : Array Value} {T : TypeId} {fz : Nat × Nat}, w.heap[j]? = some (.cells cs T fz) → T ≠ 46 → T ≠ 135 → T ≠ 137 → w'.heap[j]? = some (.cells cs T fz) := fun {j cs T fz} hj t1 t2 t3 =>
        (hoth j (block_lt hj) (ty hj hR t1) (ty hj hf t2) (fun e => by obtain ⟨cs, hh⟩ := own e; exact ty hj hh t3 rfl)).trans hj
      refine ⟨rfl, ⟨h.hB, keep h.rows (by decide) (by decide) (by decide), ⟨rv.set g (.slice (some ⟨w.heap.size, 0, none⟩) (s.size + 1) (s.size + 1)), by simpa using hrl, hRR, ?_, ?_⟩, keep h.str (by decide) (by decide) (by decide), ⟨v', f1, ?_⟩, hinb, ?_, h.small⟩, hlow, fun j cs T fz hj t1 t2 t3 t4 => keep hj t2 t3 t4⟩
      · intro g' v2 hv2
        by_cases e : g' = g
        · subst e
          rw [List.getElem?_set_self (by omega)] at hv2
          cases hv2
          refine .inr ⟨w.heap.size, rfl, hBl, ?_⟩
          rw [this]
          have : (fun q => if q = p then true else M g' q) = fun q => if q = p then true else false := by funext q; rw [hno]
          rw [this]
          exact hnew
        · rw [List.getElem?_set_ne (fun e2 => e e2.symm)] at hv2
          rw [same g' e]
          rcases hrow g' v2 hv2 with hh | ⟨b', e1, e2, e3⟩
          · exact .inl hh
          · exact .inr ⟨b', e1, e2, keep e3 (by decide) (by decide) (by decide)⟩
      · intro g1 g2 b n c m d h1 h2
        by_cases e1 : g1 = g <;> by_cases e2 : g2 = g
        · rw [e1, e2]
        · subst e1
          rw [List.getElem?_set_self (by omega)] at h1
          rw [List.getElem?_set_ne (fun e3 => e2 e3.symm)] at h2
          cases h1
          rcases hrow g2 _ h2 with ⟨hh, _⟩ | ⟨b', e4, e5, e6⟩
          · cases hh
          · cases e4
            have := block_lt e6
            omega
        · subst e2
          rw [List.getElem?_set_self (by omega)] at h2
          rw [List.getElem?_set_ne (fun e3 => e1 e3.symm)] at h1
          cases h2
          rcases hrow g1 _ h1 with ⟨hh, _⟩ | ⟨b', e4, e5, e6⟩
          · cases hh
          · cases e4
            have := block_lt e6
            omega
        · rw [List.getElem?_set_ne (fun e3 => e1 e3.symm)] at h1
          rw [List.getElem?_set_ne (fun e3 => e2 e3.symm)] at h2
          exact hdis g1 g2 b n c m d h1 h2
      · rw [hspot, List.length_append]
        exact f2
      · rw [List.length_append]
        show F.length + 1 + _ ≤ _
        omega
    · have n6 : b ≠ bf := ty hb hf (by decide)
      have n7 : v.ownBlock ≠ some b := fun e => by obtain ⟨cs, hh⟩ := own e; exact ty hb hh (by decide) rfl
      refine (mark_add B br bR bs bf g p b (s.size + 1) (2 * L) F.length v (spotC F) w (by omega) (by omega) c0 c1 (by rw [cell_of_heap hb]; simpa [hMf] using rowC_get s.size (M g) p hp) (frozen_of_heap hb p) hBl hBb h.hB.2.2 hf hown hm n6 n7 n5).mono ?_
      rintro e w' ⟨rfl, ⟨v', f1, f2⟩, hnew, hoth, hlow⟩
      have keep : ∀ {j : Nat} {cs : Array Value} {T : TypeId} {fz : Nat × Nat}, w.heap[j]? = some (.cells cs T fz) → j ≠ b → T ≠ 135 → T ≠ 137 → w'.heap[j]? = some (.cells cs T fz) := fun {j cs T fz} hj t1 t2 t3 =>
        (hoth j (block_lt hj) t1 (ty hj hf t2) (fun e => by obtain ⟨cs, hh⟩ := own e; exact ty hj hh t3 rfl)).trans hj
      refine ⟨rfl, ⟨h.hB, keep h.rows (ty h.rows hb (by decide)) (by decide) (by decide), ⟨rv, hrl, keep hR (ty hR hb (by decide)) (by decide) (by decide), ?_, hdis⟩, keep h.str (ty h.str hb (by decide)) (by decide) (by decide), ⟨v', f1, ?_⟩, hinb, ?_, h.small⟩, hlow, fun j cs T fz hj t1 t2 t3 t4 => keep hj (ty hj hb t1) t3 t4⟩
      · intro g' v2 hv2
        by_cases e : g' = g
        · subst e
          rw [hu] at hv2
          cases hv2
          refine .inr ⟨b, rfl, hBb, ?_⟩
          rw [this, hnew]
          have h2 := heap_setCell_same w b p _ _ (.bool true) hb
          rw [h2]
          have e := rowC_set s.size (M g') p
          simp [e]
        · rw [same g' e]
          rcases hrow g' v2 hv2 with hh | ⟨b', e1, e2, e3⟩
          · exact .inl hh
          · refine .inr ⟨b', e1, e2, keep e3 (fun e4 => e ?_) (by decide) (by decide)⟩
            subst e4 e1
            exact hdis g' g _ _ _ _ _ hv2 hu
      · rw [hspot, List.length_append]
        exact f2
      · rw [List.length_append]
        show F.length + 1 + _ ≤ _
        omega
end Go.Proofs.Ytgffmbdbjbhocaa
