/- Packed texts: SeBack. What each of them proves stands above its theorems; the conditions stand in these. -/
import Derived.Test.YtgceckejchdnlaaGreatDoorB32
import Derived.Test.YtgceckejchdnlaaGreatDoorB38
import Derived.Test.YtgceckejchdnlaaGreatDoorB39
namespace Go.Proofs.YtgceckejchdnlaaGreatDoor
open Go.RowKit Go.Lib

def adT : Ad → List UInt8
  | .none => []
  | .line n => decDigits n
  | .last => [36]
  | .re t => 47 :: (t.txt ++ [47])
def flT (a p : Bool) : List UInt8 := (if a then [103] else []) ++ (if p then [112] else [])
def reT : Option Tr → List UInt8
  | some t => t.txt
  | none => []
def tailT (c : Cm) : List UInt8 :=
  if c.op = 115 then 47 :: (reT c.re ++ 47 :: (putT c.put ++ 47 :: flT c.all c.prt))
  else if c.op = 98 ∨ c.op = 116 then (if c.label = [] then [] else 32 :: c.label)
  else if c.op = 58 then c.label else []
def cmT (c : Cm) : List UInt8 := adT c.a ++ ((if c.b.k = 0 then [] else 44 :: adT c.b) ++ ((if c.neg then [33] else []) ++ c.op :: tailT c))
def scT (cs : List Cm) : List UInt8 := Lib.join (cs.map cmT) [10]
/- The way back. -/
def Bak (R : List UInt8 → Res) (t : Tr) : Prop := R t.txt = .ok t [] ∨ R t.txt = .bad 7
def Rbak (R : List UInt8 → Res) : Prop := ∀ t : Tr, t.ok → t.size ≤ 2000 → Bak R t
def Come {α : Type} (x : Got α) (a : α) (l : List UInt8) : Prop := x = .ok a l ∨ x = .bad 7
theorem Come.bind {α β : Type} {x : Got α} {a : α} {l r : List UInt8} {f : α → List UInt8 → Got β} {b : β} (h : Come x a l) (h2 : Come (f a l) b r) : Come (x.bind f) b r := by
  rcases h with h | h
  · rw [h]; exact h2
  · rw [h]; exact .inr rfl
theorem treeP_back {R : List UInt8 → Res} {t : Tr} (h : Bak R t) (x : List UInt8) : Come (treeP R (t.txt ++ 47 :: x)) t x := by
  unfold treeP
  rw [part_of (nice_txt t)]
  dsimp only
  rcases h with h | h
  · rw [h]; exact .inl rfl
  · rw [h]; exact .inr rfl
theorem putP_back {xs : List (List UInt8)} (h : xs ≠ []) (x : List UInt8) : putP (putT xs ++ 47 :: x) = .ok xs x := by
  unfold putP
  rw [part_of (nice_put xs)]
  have h1 := text_reread (xs.map mkB) (by simpa using h)
  have h2 : (xs.map mkB).map (·.data.toList) = xs := by rw [List.map_map]; exact List.map_id'' (fun _ => rfl) _
  rw [h2] at h1
  show (match readD' (putT xs) with | some ys => Got.ok ys x | none => .bad 9) = _
  unfold putT
  rw [h1]
/-- Texts that begin with no address. -/
def NoAd : List UInt8 → Prop
  | [] => True
  | c :: _ => c ≠ 36 ∧ c ≠ 47 ∧ isFig c = false
theorem figs_no {x : List UInt8} (hx : NoAd x) {l : List UInt8} (hl : l.all isFig = true) : figs (l ++ x) = l := by
  cases x with
  | nil => rw [List.append_nil]; exact figs_all l hl
  | cons c r => exact figs_stop l r c hl hx.2.2
theorem adP_back {R : List UInt8 → Res} (hR : Rbak R) {a : Ad} (ha : a.good) {x : List UInt8} (hx : NoAd x) : Come (adP R (adT a ++ x)) a x := by
  cases a with
  | none =>
    left
    cases x with
    | nil => rfl
    | cons c r =>
      show adP R (c :: r) = _
      unfold adP
      dsimp only
      rw [if_neg hx.1, if_neg hx.2.1, hx.2.2]
      rfl
  | last => exact .inl rfl
  | re t =>
    show Come (adP R (47 :: (t.txt ++ [47] ++ x))) _ _
    unfold adP
    dsimp only
    rw [if_neg (by decide), if_pos rfl]
    rw [List.append_assoc]
    exact (treeP_back (hR t ha.1 ha.2) x).bind (.inl rfl)
  | line n =>
    left
    show adP R (decDigits n ++ x) = _
    have hf := decDigits_figs n
    have hfig := figs_no hx hf.1
    cases hd : decDigits n with
    | nil => exact absurd hd (decDigits_ne n)
    | cons c r =>
      rw [hd] at hfig hf
      have hc : isFig c = true := by have := hf.1; simp only [List.all_cons, Bool.and_eq_true] at this; exact this.1
      rw [List.cons_append] at hfig ⊢
      unfold adP
      dsimp only
      rw [if_neg (by rintro rfl; cases hc), if_neg (by rintro rfl; cases hc), if_pos hc]
      have h1 : lineP (c :: (r ++ x)) = .ok n x := by
        unfold lineP
        rw [hfig, hf.2, if_pos (show 1 ≤ n ∧ n ≤ 1000000000 from ha), show c :: (r ++ x) = (c :: r) ++ x from rfl, List.drop_left]
      rw [h1]
      rfl
theorem secP_back {R : List UInt8 → Res} (hR : Rbak R) {a b : Ad} (hb : b.good) (hab : a.k = 0 → b.k = 0) {x : List UInt8} (hx : NoAd x) (h44 : x.head? ≠ some 44) : Come (secP R a ((if b.k = 0 then [] else 44 :: adT b) ++ x)) b x := by
  unfold secP
  by_cases h : b.k = 0
  · rw [if_pos h, List.nil_append, if_neg (fun e => h44 e.2)]
    cases b with
    | none => exact .inl rfl
    | line n => cases h
    | last => cases h
    | re t => cases h
  · rw [if_neg h, if_pos ⟨fun e => h (hab e), rfl⟩]
    refine Come.bind (adP_back hR hb hx) ?_
    rw [if_neg h]
    exact .inl rfl
theorem blk_no {x : List UInt8} (h : x.head? ≠ some 32) : blk x = x := by
  cases x with
  | nil => rfl
  | cons c r =>
    have hc : (c == 32) = false := by
      rw [beq_eq_false_iff_ne]
      rintro rfl
      exact h rfl
    show (c :: r).dropWhile (· == 32) = _
    rw [List.dropWhile, hc]
theorem not_back {neg : Bool} {x : List UInt8} (h1 : x.head? ≠ some 32) (h2 : x.head? ≠ some 33) : notB ((if neg then [33] else []) ++ x) = neg ∧ notL ((if neg then [33] else []) ++ x) = x := by
  unfold notB notL
  cases neg
  · simp only [Bool.false_eq_true, if_false, List.nil_append]
    rw [blk_no h1, if_neg h2, blk_no h1]
    refine ⟨?_, rfl⟩
    rw [beq_eq_false_iff_ne]; exact h2
  · simp only [if_true, List.cons_append, List.nil_append]
    have : blk (33 :: x) = 33 :: x := blk_no (by simp)
    rw [this, if_pos (show (33 :: x).head? = some 33 from rfl)]
    exact ⟨rfl, blk_no h1⟩
/-- What may stand behind a command's text. -/
def Ends (x : List UInt8) : Prop := x = [] ∨ Sep x
theorem fin_ended {x : List UInt8} (h : Ends x) : endedB x = true := by
  rcases h with rfl | ⟨c, r, rfl, rfl | rfl⟩ <;> rfl
theorem fin_blk {x : List UInt8} (h : Ends x) : blk x = x := by
  rcases h with rfl | ⟨c, r, rfl, rfl | rfl⟩ <;> rfl
theorem lab_back {y x : List UInt8} (hy : isNameB y = true) (hx : Ends x) : labP (y ++ x) = .ok y x := by
  cases y with
  | nil => cases hy
  | cons c l =>
    have h1 : isLet c = true ∧ l.all restOk = true := by
      have : (isLet c && l.all restOk) = true := hy
      simpa using this
    have h2 : (l ++ x).takeWhile restOk = l ∧ (l ++ x).dropWhile restOk = x := by
      have h3 : ∀ l : List UInt8, l.all restOk = true → l.takeWhile restOk = l ∧ l.dropWhile restOk = [] := by
        intro l
        induction l with
        | nil => intro _; exact ⟨rfl, rfl⟩
        | cons d l ih =>
          intro h
          simp only [List.all_cons, Bool.and_eq_true] at h
          simp only [List.takeWhile, List.dropWhile, h.1]
          exact ⟨by rw [(ih h.2).1], (ih h.2).2⟩
      obtain ⟨h4, h5⟩ := h3 l h1.2
      rcases hx with rfl | hx
      · rw [List.append_nil]; exact ⟨h4, h5⟩
      · obtain ⟨h6, h7⟩ := sep_not restOk rfl rfl hx l
        rw [h6, h7, h4, h5]; exact ⟨rfl, rfl⟩
    show labP (c :: (l ++ x)) = _
    unfold labP
    dsimp only
    rw [if_pos h1.1, h2.1, h2.2]
theorem flag_back {a p : Bool} {x : List UInt8} (hx : Ends x) : flagP false false (flT a p ++ x) = (a, p, x) := by
  have h : ∀ q r, flagP q r x = (q, r, x) := by
    intro q r
    rcases hx with rfl | ⟨c, r', rfl, rfl | rfl⟩
    · rfl
    · cases q <;> cases r <;> rfl
    · cases q <;> cases r <;> rfl
  cases a <;> cases p <;> simp [flT, flagP, h]
theorem name_head {y : List UInt8} (hy : isNameB y = true) : ∃ c l, y = c :: l ∧ isLet c = true := by
  cases y with
  | nil => cases hy
  | cons c l =>
    have : (isLet c && l.all restOk) = true := hy
    simp only [Bool.and_eq_true] at this
    exact ⟨c, l, rfl, this.1⟩
theorem let_not {c : UInt8} (h : isLet c = true) : c ≠ 32 ∧ c ≠ 59 ∧ c ≠ 10 := by
  refine ⟨?_, ?_, ?_⟩ <;> (rintro rfl; cases h)
theorem letP_back {R : List UInt8 → Res} (hR : Rbak R) {c : Cm} (h : c.Good) {x : List UInt8} (hx : Ends x) : Come (letP R c.a c.b c.neg (c.op :: (tailT c ++ x))) c x := by
  obtain ⟨o, a, b, neg, re, put, all, prt, label⟩ := c
  have hk := h.kind
  dsimp only at hk ⊢
  unfold letP tailT
  dsimp only
  rcases hk with ⟨rfl, ⟨t, rfl, ht⟩, hp, rfl⟩ | ⟨⟨rfl, rfl, rfl, rfl⟩, ⟨h1, hl⟩ | ⟨rfl, h1, rfl, hl⟩ | ⟨h1, rfl⟩⟩
  · rw [if_pos rfl, if_pos rfl]
    simp only [List.cons_append, List.append_assoc]
    rw [if_pos trivial]
    refine Come.bind (treeP_back (hR t ht.1 ht.2) _) ?_
    rw [putP_back hp]
    show Come (Got.ok _ _) _ _
    rw [flag_back hx]
    exact .inl rfl
  · have h2 : o ≠ 115 := by rcases h1 with rfl | rfl <;> decide
    rw [if_neg h2, if_neg h2, if_pos h1, if_pos h1]
    left
    by_cases he : label = []
    · subst he
      rw [if_pos rfl, List.nil_append, fin_blk hx, fin_ended hx]
      rfl
    · rw [if_neg he]
      have hn : isNameB label = true := by
        rcases hl with h | h
        · exact absurd h he
        · exact h
      obtain ⟨d, l, rfl, hd⟩ := name_head hn
      obtain ⟨h3, h4, h5⟩ := let_not hd
      have h6 : blk (32 :: (d :: l) ++ x) = (d :: l) ++ x := by
        show ((d :: l) ++ x).dropWhile (· == 32) = _
        exact blk_no (by simpa using h3)
      have h7 : endedB ((d :: l) ++ x) = false := by
        show (d == 59 || d == 10) = false
        simp [h4, h5]
      rw [h6, h7, lab_back hn hx]
      rfl
  · have n1 : ¬ (58 : UInt8) = 115 := by decide
    have n2 : ¬ ((58 : UInt8) = 98 ∨ (58 : UInt8) = 116) := by decide
    simp only [n1, n2, if_false, if_true, h1, true_and]
    rw [lab_back hl hx]
    exact .inl rfl
  · have h2 : o ≠ 115 ∧ ¬ (o = 98 ∨ o = 116) ∧ o ≠ 58 := by
      refine ⟨?_, ?_, ?_⟩
      · rintro rfl; cases h1
      · rintro (rfl | rfl) <;> cases h1
      · rintro rfl; cases h1
    rw [if_neg h2.1, if_neg h2.1, if_neg h2.2.1, if_neg h2.2.1, if_neg h2.2.2, if_neg h2.2.2, if_pos h1]
    exact .inl rfl
def opsS : List UInt8 := [112, 100, 113, 110, 104, 72, 103, 71, 120, 115, 98, 116, 58]
theorem good_op {c : Cm} (h : c.Good) : c.op ∈ opsS := by
  rcases h.kind with ⟨h1, _⟩ | ⟨_, ⟨h1 | h1, _⟩ | ⟨h1, _⟩ | ⟨h1, _⟩⟩
  · rw [h1]; decide
  · rw [h1]; decide
  · rw [h1]; decide
  · rw [h1]; decide
  · have h2 : c.op ∈ plainS := by simpa using h1
    have h3 : ∀ o ∈ plainS, o ∈ opsS := by decide
    exact h3 _ h2
theorem ops_no (o : UInt8) (h : o ∈ opsS) : o ≠ 36 ∧ o ≠ 47 ∧ isFig o = false ∧ o ≠ 44 ∧ o ≠ 32 ∧ o ≠ 33 ∧ o ≠ 10 ∧ o ≠ 39 ∧ opensS.contains o = true ∧ sepS o = false := by
  revert o; decide
theorem comP_back {R : List UInt8 → Res} (hR : Rbak R) {c : Cm} (h : c.Good) {x : List UInt8} (hx : Ends x) : Come (comP R (cmT c ++ x)) c x := by
  have ho := ops_no _ (good_op h)
  unfold comP cmT
  simp only [List.append_assoc]
  have hn1 : NoAd ((if c.neg then [33] else []) ++ (c.op :: tailT c ++ x)) ∧ ((if c.neg then [33] else []) ++ (c.op :: tailT c ++ x)).head? ≠ some 44 := by
    cases c.neg
    · exact ⟨⟨ho.1, ho.2.1, ho.2.2.1⟩, by simpa using ho.2.2.2.1⟩
    · exact ⟨⟨by decide, by decide, by decide⟩, by simp⟩
  have hn2 : NoAd ((if c.b.k = 0 then [] else 44 :: adT c.b) ++ ((if c.neg then [33] else []) ++ (c.op :: tailT c ++ x))) := by
    split
    · exact hn1.1
    · exact ⟨by decide, by decide, by decide⟩
  refine Come.bind (adP_back hR h.a hn2) ?_
  refine Come.bind (secP_back hR h.b h.ab hn1.1 hn1.2) ?_
  obtain ⟨h1, h2⟩ := not_back (neg := c.neg) (x := c.op :: tailT c ++ x) (by simpa using ho.2.2.2.2.1) (by simpa using ho.2.2.2.2.2.1)
  rw [h1, h2]
  refine Come.bind (letP_back hR h hx) ?_
  rw [fin_blk hx, fin_ended hx]
  exact .inl rfl
theorem fig_opens (c : UInt8) (h : isFig c = true) : opensS.contains c = true ∧ sepS c = false := by
  have : ∀ n : Fin 256, isFig (UInt8.ofNat n.val) = true → opensS.contains (UInt8.ofNat n.val) = true ∧ sepS (UInt8.ofNat n.val) = false := by decide +kernel
  have := this ⟨c.toNat, c.toNat_lt⟩
  simp only [UInt8.ofNat_toNat] at this
  exact this h
theorem cmT_head {c : Cm} (h : c.Good) : ∃ d l, cmT c = d :: l ∧ opensS.contains d = true ∧ sepS d = false := by
  have ho := ops_no _ (good_op h)
  unfold cmT
  cases ha : c.a with
  | none =>
    have hb : c.b.k = 0 := h.ab (by rw [ha]; rfl)
    rw [if_pos hb]
    cases c.neg
    · exact ⟨c.op, _, rfl, ho.2.2.2.2.2.2.2.2.1, ho.2.2.2.2.2.2.2.2.2⟩
    · exact ⟨33, _, rfl, by decide, by decide⟩
  | last => exact ⟨36, _, rfl, by decide, by decide⟩
  | re t => exact ⟨47, _, rfl, by decide, by decide⟩
  | line n =>
    have hf := (decDigits_figs n).1
    show ∃ d l, decDigits n ++ _ = _ ∧ _
    cases hd : decDigits n with
    | nil => exact absurd hd (decDigits_ne n)
    | cons e r =>
      rw [hd] at hf
      simp only [List.all_cons, Bool.and_eq_true] at hf
      exact ⟨e, _, rfl, fig_opens e hf.1⟩
theorem tail_fin (r : List (List UInt8)) : Ends (joinTail [10] r) := by
  cases r with
  | nil => exact .inl rfl
  | cons x r => exact .inr ⟨10, x ++ joinTail [10] r, rfl, .inr rfl⟩
theorem scr_tail {R : List UInt8 → Res} (hR : Rbak R) : ∀ (cs acc : List Cm), (∀ c ∈ cs, c.Good) → acc.length + cs.length ≤ 2000 → scr R (joinTail [10] (cs.map cmT)) acc = .ok (acc ++ cs) ∨ scr R (joinTail [10] (cs.map cmT)) acc = .bad 7
  | [], acc, _, _ => by
    left
    rw [scr_eq, List.append_nil]
    rfl
  | c :: cs, acc, hg, hn => by
    have hc := hg c (by simp)
    obtain ⟨d, l, hd, h1, h2⟩ := cmT_head hc
    simp only [List.length_cons] at hn
    have he : (joinTail [10] ((c :: cs).map cmT)).dropWhile sepS = d :: (l ++ joinTail [10] (cs.map cmT)) := by
      show (10 :: (cmT c ++ joinTail [10] (cs.map cmT))).dropWhile sepS = _
      rw [hd]
      show (d :: (l ++ joinTail [10] (cs.map cmT))).dropWhile sepS = _
      rw [List.dropWhile, h2]
    rw [scr_eq, he]
    have hk := comP_back hR hc (tail_fin (cs.map cmT))
    rw [hd, List.cons_append] at hk
    rcases hk with hk | hk
    · rw [scrS_more h1 (by omega) hk]
      have := scr_tail hR cs (acc ++ [c]) (fun c' h' => hg c' (by simp [h'])) (by rw [List.length_append]; simp only [List.length_cons, List.length_nil]; omega)
      rw [List.append_assoc] at this
      exact this
    · right
      unfold scrS
      dsimp only
      rw [if_neg (by rw [h1]; simp), if_neg (by omega), hk]
/-- A good script's text is read as it, or is too deep. -/
theorem read_back {R : List UInt8 → Res} (hR : Rbak R) {cs : List Cm} (hg : ∀ c ∈ cs, c.Good) (hn : cs.length ≤ 2000) (hb : boundD cs = true) : readSd R (scT cs) = .ok cs ∨ readSd R (scT cs) = .bad 7 := by
  have h := scr_tail hR cs [] hg (by simpa using hn)
  rw [List.nil_append] at h
  have he : scr R (scT cs) [] = scr R (joinTail [10] (cs.map cmT)) [] := by
    unfold scT
    cases cs with
    | nil => rfl
    | cons c cs =>
      rw [List.map_cons, join_cons]
      exact scr_drop R _ _ [] rfl
  rw [← he] at h
  rcases h with h | h
  · left
    rw [readSd_of h, hb]; rfl
  · right
    unfold readSd
    have h' : scrP R ((scT cs).length + 1) (scT cs) [] = .bad 7 := h
    rw [h']
/- No quote, and no end of line but between commands. -/
def Bare (l : List UInt8) : Prop := ∀ b ∈ l, b ≠ 39 ∧ b ≠ 10
theorem Bare.app {a b : List UInt8} (ha : Bare a) (hb : Bare b) : Bare (a ++ b) := fun x hx => by
  rcases List.mem_append.mp hx with h | h
  · exact ha x h
  · exact hb x h
theorem Bare.cons {c : UInt8} {l : List UInt8} (h1 : c ≠ 39) (h2 : c ≠ 10) (h : Bare l) : Bare (c :: l) := fun x hx => by
  rcases List.mem_cons.mp hx with rfl | h'
  · exact ⟨h1, h2⟩
  · exact h x h'
theorem Bare.nil : Bare [] := by intro x hx; cases hx
theorem bare_name {y : List UInt8} (h : isNameB y = true) : Bare y := by
  cases y with
  | nil => exact .nil
  | cons c l =>
    have h1 : isLet c = true ∧ l.all restOk = true := by
      have : (isLet c && l.all restOk) = true := h
      simpa using this
    have h2 : ∀ d, restOk d = true → d ≠ 39 ∧ d ≠ 10 := by
      intro d hd
      constructor <;> (rintro rfl; cases hd)
    refine .cons (fun e => ?_) (fun e => ?_) fun d hd => ?_
    · rw [e] at h1; cases h1.1
    · rw [e] at h1; cases h1.1
    · have := List.all_eq_true.mp h1.2 d hd
      exact h2 d this
theorem bare_ad {a : Ad} : Bare (adT a) := by
  cases a with
  | none => exact .nil
  | last => exact .cons (by decide) (by decide) .nil
  | re t => exact .cons (by decide) (by decide) (Bare.app (nice_txt t).2 (.cons (by decide) (by decide) .nil))
  | line n =>
    intro d hd
    have := List.all_eq_true.mp (decDigits_figs n).1 d hd
    constructor <;> (rintro rfl; cases this)
theorem bare_cm {c : Cm} (h : c.Good) : Bare (cmT c) := by
  have ho := ops_no _ (good_op h)
  unfold cmT
  refine bare_ad.app (Bare.app ?_ (Bare.app ?_ (.cons ho.2.2.2.2.2.2.2.1 ho.2.2.2.2.2.2.1 ?_)))
  · split
    · exact .nil
    · exact .cons (by decide) (by decide) bare_ad
  · split
    · exact .cons (by decide) (by decide) .nil
    · exact .nil
  · unfold tailT
    split
    · refine .cons (by decide) (by decide) (Bare.app ?_ (.cons (by decide) (by decide) (Bare.app (nice_put _).2 (.cons (by decide) (by decide) ?_))))
      · cases c.re with
        | none => exact .nil
        | some t => exact (nice_txt t).2
      · unfold flT
        refine Bare.app ?_ ?_
        · split
          · exact .cons (by decide) (by decide) .nil
          · exact .nil
        · split
          · exact .cons (by decide) (by decide) .nil
          · exact .nil
    · have hl : c.label = [] ∨ isNameB c.label = true := by
        rcases h.kind with ⟨_, _, _, h1⟩ | ⟨_, ⟨_, h1⟩ | ⟨_, _, _, h1⟩ | ⟨_, h1⟩⟩
        · exact .inl h1
        · exact h1
        · exact .inr h1
        · exact .inl h1
      have hl2 : Bare c.label := by
        rcases hl with h1 | h1
        · rw [h1]; exact .nil
        · exact bare_name h1
      split
      · split
        · exact .nil
        · exact .cons (by decide) (by decide) hl2
      · split
        · exact hl2
        · exact .nil
theorem bare_tail : ∀ cs : List Cm, (∀ c ∈ cs, c.Good) → (∀ b ∈ joinTail [10] (cs.map cmT), b ≠ 39) ∧ (joinTail [10] (cs.map cmT)).countP (· == 10) = cs.length
  | [], _ => ⟨fun b hb => (by cases hb), rfl⟩
  | c :: cs, h => by
    obtain ⟨h1, h2⟩ := bare_tail cs fun c' h' => h c' (by simp [h'])
    have h3 := bare_cm (h c (by simp))
    have he : joinTail [10] ((c :: cs).map cmT) = 10 :: (cmT c ++ joinTail [10] (cs.map cmT)) := rfl
    rw [he]
    constructor
    · intro b hb
      rcases List.mem_cons.mp hb with rfl | hb
      · decide
      · rcases List.mem_append.mp hb with hb | hb
        · exact (h3 b hb).1
        · exact h1 b hb
    · rw [List.countP_cons, List.countP_append, h2, List.countP_eq_zero.mpr (fun b hb => by simpa using (h3 b hb).2)]
      simp
/-- The text of a good script of some commands. -/
theorem text_bare {cs : List Cm} (h : ∀ c ∈ cs, c.Good) (hn : cs ≠ []) : (∀ b ∈ scT cs, b ≠ 39) ∧ (scT cs).countP (· == 10) = cs.length - 1 := by
  cases cs with
  | nil => exact absurd rfl hn
  | cons c cs =>
    obtain ⟨h1, h2⟩ := bare_tail cs fun c' h' => h c' (by simp [h'])
    have h3 := bare_cm (h c (by simp))
    unfold scT
    rw [List.map_cons, join_cons]
    constructor
    · intro b hb
      rcases List.mem_append.mp hb with hb | hb
      · exact (h3 b hb).1
      · exact h1 b hb
    · rw [List.countP_append, h2, List.countP_eq_zero.mpr (fun b hb => by simpa using (h3 b hb).2)]
      simp
end Go.Proofs.YtgceckejchdnlaaGreatDoor
