/- Packed texts: ShTexts, ShTexts2, ShCnt, ShMea. What each of them proves stands above its theorems; the conditions stand in these. -/
import Derived.Test.YtabkmimpkoiajaaDoorA0
import Derived.Test.YtabkmimpkoiajaaDoorA2
namespace Go.Proofs.YtabkmimpkoiajaaDoor
open Go.RowKit Go.Lib

theorem cmd_line {k : Nat} {l : List UInt8} {c : Co} (hc : cmdS (lvl k) l = .ok c []) : lineS (lvl k) l = .ok c [] := by
  have hp : pipeS (lvl k) l = .ok c [] := by
    unfold pipeS rowS
    rw [hc]; rfl
  unfold lineS rowS
  rw [hp]; rfl
theorem cmd_line_bad {k : Nat} {l : List UInt8} {e : Int} (hc : cmdS (lvl k) l = .bad e) : lineS (lvl k) l = .bad e := by
  have hp : pipeS (lvl k) l = .bad e := by
    unfold pipeS rowS
    rw [hc]; rfl
  unfold lineS rowS
  rw [hp]; rfl
/-- One command that goes to the end. -/
theorem lst_one {k : Nat} {l : List UInt8} {c : Co} (hsk : skipS shEnds l = l) (hb : beginsS l = true) (hc : cmdS (lvl k) l = .ok c []) : lstS k l = .ok [c] [] := by
  show iterS (listStep (lvl k)) [] (skipS shEnds l) = _
  rw [hsk, iterS_eq (listStep_nice (lvl_good k)), listStep_yes hb, cmd_line hc]
  rfl
theorem lst_one_bad {k : Nat} {l : List UInt8} {e : Int} (hsk : skipS shEnds l = l) (hb : beginsS l = true) (hc : cmdS (lvl k) l = .bad e) : lstS k l = .bad e := by
  show iterS (listStep (lvl k)) [] (skipS shEnds l) = _
  rw [hsk, iterS_eq (listStep_nice (lvl_good k)), listStep_yes hb, cmd_line_bad hc]
  rfl
theorem skip_blank (of l : List UInt8) : skipS of (32 :: l) = skipS of l := by
  rw [skipS_eq of (32 :: l), skipS_eq of l]
  rfl
theorem lst_blank (k : Nat) (l : List UInt8) : lstS k (32 :: l) = lstS k l := by
  show iterS (listStep (lvl k)) [] (skipS shEnds (32 :: l)) = iterS (listStep (lvl k)) [] (skipS shEnds l)
  rw [skip_blank]
theorem iter_grows {sub : Deeper} (hg : GoodD sub) : ∀ (m : Nat) (cs ds : List Co) (l r : List UInt8), l.length = m → iterS (listStep sub) cs l = .ok ds r → cs.length ≤ ds.length ∧ (beginsS l = true → cs.length < ds.length) := by
  intro m
  induction m using Nat.strongRecOn with
  | ind m ih =>
    intro cs ds l r hm h
    rw [iterS_eq (listStep_nice hg)] at h
    cases hb : beginsS l with
    | false =>
      rw [listStep_no hb] at h
      cases h
      exact ⟨Nat.le_refl _, fun e => by cases e⟩
    | true =>
      rw [listStep_yes hb] at h
      cases hli : lineS sub l with
      | bad e => rw [hli] at h; cases h
      | ok c r1 =>
        have hlt := lineS_lt hg l c r1 hli
        have hsk := skip_len shEnds r1
        rw [hli] at h
        dsimp only [Rr.bind] at h
        by_cases hw : wasS shEnds r1 = false
        · rw [if_pos hw] at h
          cases h
          simp
        · rw [if_neg hw] at h
          dsimp only at h
          have := (ih _ (by omega) (cs ++ [c]) ds _ r rfl h).1
          simp at this
          omega
/-- A script of no command is ends alone. -/
theorem lst_none {k : Nat} {s : List UInt8} (h : lstS k s = .ok [] []) : skipS shEnds s = [] := by
  have h : iterS (listStep (lvl k)) [] (skipS shEnds s) = .ok [] [] := h
  have h2 := h
  cases hb : beginsS (skipS shEnds s) with
  | true =>
    have := (iter_grows (lvl_good k) _ _ _ _ _ rfl h).2 hb
    simp at this
  | false =>
    rw [iterS_eq (listStep_nice (lvl_good k)), listStep_no hb] at h2
    injection h2
theorem lst_none_in {k k' : Nat} {s t : List UInt8} (h : lstS k s = .ok [] []) (ht : skipS shEnds t = t) (hb : beginsS t = false) : lstS k' (s ++ 10 :: t) = .ok [] t := by
  show iterS (listStep (lvl k')) [] (skipS shEnds (s ++ 10 :: t)) = _
  rw [(skip_end (t := t) _ s rfl (lst_none h)).1, ht, iterS_eq (listStep_nice (lvl_good k')), listStep_no hb]
/-- What stands one deeper. -/
def inD (k : Nat) : Dn := ⟨listS (lvl k), wordsS (lvl k)⟩
theorem lines_in {k : Nat} {s t : List UInt8} {cs : List Co} (h : lstS (k + 1) s = .ok cs []) (hc : cs ≠ []) (ht : skipS shEnds t = t) (hb : beginsS t = false) : linesS (inD k) (32 :: (s ++ 10 :: t)) = .ok cs t ∨ linesS (inD k) (32 :: (s ++ 10 :: t)) = .bad 7 := by
  have e : (inD k).lst (32 :: (s ++ 10 :: t)) = lstS k (s ++ 10 :: t) := lst_blank k _
  unfold linesS
  rw [e]
  rcases lst_in h ht hb with h2 | h2
  · left; rw [h2]; exact if_neg hc
  · right; rw [h2]; rfl
theorem lines_none {k : Nat} {s t : List UInt8} (h : lstS (k + 1) s = .ok [] []) (ht : skipS shEnds t = t) (hb : beginsS t = false) : linesS (inD k) (32 :: (s ++ 10 :: t)) = .bad 9 := by
  have e : (inD k).lst (32 :: (s ++ 10 :: t)) = lstS k (s ++ 10 :: t) := lst_blank k _
  unfold linesS
  rw [e, lst_none_in h ht hb]
  rfl
def tIf2 (s : List UInt8) : List UInt8 := 105 :: 102 :: 32 :: (s ++ 10 :: (116 :: 104 :: 101 :: 110 :: 32 :: (s ++ 10 :: [102, 105])))
def tIf3 (s : List UInt8) : List UInt8 := 105 :: 102 :: 32 :: (s ++ 10 :: (116 :: 104 :: 101 :: 110 :: 32 :: (s ++ 10 :: (101 :: 108 :: 115 :: 101 :: 32 :: (s ++ 10 :: [102, 105])))))
def tWh (s : List UInt8) : List UInt8 := 119 :: 104 :: 105 :: 108 :: 101 :: 32 :: (s ++ 10 :: (100 :: 111 :: 32 :: (s ++ 10 :: [100, 111, 110, 101])))
def tSub (s : List UInt8) : List UInt8 := 120 :: 61 :: 36 :: 40 :: (s ++ 10 :: [41])
theorem if_cmd (k : Nat) (r : List UInt8) : cmdS (lvl (k + 1)) (105 :: 102 :: 32 :: r) = choiceS (inD k) (32 :: r) := rfl
theorem wh_cmd (k : Nat) (r : List UInt8) : cmdS (lvl (k + 1)) (119 :: 104 :: 105 :: 108 :: 101 :: 32 :: r) = roundsS (inD k) (32 :: r) := rfl
theorem wrap_if2 {k : Nat} {s : List UInt8} {cs : List Co} (h : lstS (k + 1) s = .ok cs []) (hc : cs ≠ []) : lstS (k + 1) (tIf2 s) = .ok [.mk 4 [] [] [] cs cs []] [] ∨ lstS (k + 1) (tIf2 s) = .bad 7 := by
  rcases lines_in (t := 116 :: 104 :: 101 :: 110 :: 32 :: (s ++ 10 :: [102, 105])) h hc rfl rfl with h1 | h1
  · rcases lines_in (t := [102, 105]) h hc rfl rfl with h2 | h2
    · left
      refine lst_one rfl rfl ?_
      rw [tIf2, if_cmd]
      unfold choiceS
      rw [h1]
      show (linesS (inD k) (32 :: (s ++ 10 :: [102, 105]))).bind _ = _
      rw [h2]; rfl
    · right
      refine lst_one_bad rfl rfl ?_
      rw [tIf2, if_cmd]
      unfold choiceS
      rw [h1]
      show (linesS (inD k) (32 :: (s ++ 10 :: [102, 105]))).bind _ = _
      rw [h2]; rfl
  · right
    refine lst_one_bad rfl rfl ?_
    rw [tIf2, if_cmd]
    unfold choiceS
    rw [h1]; rfl
theorem wrap_if3 {k : Nat} {s : List UInt8} {cs : List Co} (h : lstS (k + 1) s = .ok cs []) (hc : cs ≠ []) : lstS (k + 1) (tIf3 s) = .ok [.mk 4 [] [] [] cs cs cs] [] ∨ lstS (k + 1) (tIf3 s) = .bad 7 := by
  rcases lines_in (t := 116 :: 104 :: 101 :: 110 :: 32 :: (s ++ 10 :: (101 :: 108 :: 115 :: 101 :: 32 :: (s ++ 10 :: [102, 105])))) h hc rfl rfl with h1 | h1
  · rcases lines_in (t := 101 :: 108 :: 115 :: 101 :: 32 :: (s ++ 10 :: [102, 105])) h hc rfl rfl with h2 | h2
    · rcases lines_in (t := [102, 105]) h hc rfl rfl with h3 | h3
      · left
        refine lst_one rfl rfl ?_
        rw [tIf3, if_cmd]
        unfold choiceS
        rw [h1]
        show (linesS (inD k) (32 :: (s ++ 10 :: (101 :: 108 :: 115 :: 101 :: 32 :: (s ++ 10 :: [102, 105]))))).bind _ = _
        rw [h2]
        show (linesS (inD k) (32 :: (s ++ 10 :: [102, 105]))).bind _ = _
        rw [h3]; rfl
      · right
        refine lst_one_bad rfl rfl ?_
        rw [tIf3, if_cmd]
        unfold choiceS
        rw [h1]
        show (linesS (inD k) (32 :: (s ++ 10 :: (101 :: 108 :: 115 :: 101 :: 32 :: (s ++ 10 :: [102, 105]))))).bind _ = _
        rw [h2]
        show (linesS (inD k) (32 :: (s ++ 10 :: [102, 105]))).bind _ = _
        rw [h3]; rfl
    · right
      refine lst_one_bad rfl rfl ?_
      rw [tIf3, if_cmd]
      unfold choiceS
      rw [h1]
      show (linesS (inD k) (32 :: (s ++ 10 :: (101 :: 108 :: 115 :: 101 :: 32 :: (s ++ 10 :: [102, 105]))))).bind _ = _
      rw [h2]; rfl
  · right
    refine lst_one_bad rfl rfl ?_
    rw [tIf3, if_cmd]
    unfold choiceS
    rw [h1]; rfl
theorem wrap_if3_none {k : Nat} {s : List UInt8} (h : lstS (k + 1) s = .ok [] []) : lstS (k + 1) (tIf3 s) = .bad 9 := by
  refine lst_one_bad rfl rfl ?_
  rw [tIf3, if_cmd]
  unfold choiceS
  rw [lines_none (t := 116 :: 104 :: 101 :: 110 :: 32 :: (s ++ 10 :: (101 :: 108 :: 115 :: 101 :: 32 :: (s ++ 10 :: [102, 105])))) h rfl rfl]
  rfl
theorem wrap_wh {k : Nat} {s : List UInt8} {cs : List Co} (h : lstS (k + 1) s = .ok cs []) (hc : cs ≠ []) : lstS (k + 1) (tWh s) = .ok [.mk 5 [] [] [] cs cs []] [] ∨ lstS (k + 1) (tWh s) = .bad 7 := by
  rcases lines_in (t := 100 :: 111 :: 32 :: (s ++ 10 :: [100, 111, 110, 101])) h hc rfl rfl with h1 | h1
  · rcases lines_in (t := [100, 111, 110, 101]) h hc rfl rfl with h2 | h2
    · left
      refine lst_one rfl rfl ?_
      rw [tWh, wh_cmd]
      unfold roundsS
      rw [h1]
      show ((linesS (inD k) (32 :: (s ++ 10 :: [100, 111, 110, 101]))).bind _).bind _ = _
      rw [h2]; rfl
    · right
      refine lst_one_bad rfl rfl ?_
      rw [tWh, wh_cmd]
      unfold roundsS
      rw [h1]
      show ((linesS (inD k) (32 :: (s ++ 10 :: [100, 111, 110, 101]))).bind _).bind _ = _
      rw [h2]; rfl
  · right
    refine lst_one_bad rfl rfl ?_
    rw [tWh, wh_cmd]
    unfold roundsS
    rw [h1]; rfl
theorem wrap_wh_none {k : Nat} {s : List UInt8} (h : lstS (k + 1) s = .ok [] []) : lstS (k + 1) (tWh s) = .bad 9 := by
  refine lst_one_bad rfl rfl ?_
  rw [tWh, wh_cmd]
  unfold roundsS
  rw [lines_none (t := 100 :: 111 :: 32 :: (s ++ 10 :: [100, 111, 110, 101])) h rfl rfl]
  rfl
/-- What is put out in a word. -/
theorem sub_part {k : Nat} {s : List UInt8} {R : Rr (List Co)} (hs : s.head? ≠ some 40) (h : lstS k (s ++ 10 :: [41]) = R) : partS (lvl (k + 1)) false (40 :: (s ++ 10 :: [41])) = R.bind fun cs r1 => (needS [41] r1).bind fun _ r2 => .ok ⟨7, false, [], [], cs⟩ r2 := by
  have h1 : takeS [40, 40] (40 :: (s ++ 10 :: [41])) = none := by
    cases s with
    | nil => rfl
    | cons a s =>
      cases h : takeS [40, 40] (40 :: (a :: s ++ 10 :: [41])) with
      | none => rfl
      | some r =>
        have := takeS_some h
        simp only [List.cons_append, List.cons.injEq] at this
        exact absurd (by rw [this.2.1]; rfl) hs
  have h2 : takeS [40] (40 :: (s ++ 10 :: [41])) = some (s ++ 10 :: [41]) := takeS_app [40] _
  unfold partS
  rw [h1, h2]
  show (lstS k (s ++ 10 :: [41])).bind _ = _
  rw [h]
theorem wrap_sub {k : Nat} {s : List UInt8} {cs : List Co} (hs : s.head? ≠ some 40) (h : lstS (k + 1) s = .ok cs []) : lstS (k + 1) (tSub s) = .ok [.mk 1 [[120]] [[⟨7, false, [], [], cs⟩]] [] [] [] []] [] ∨ lstS (k + 1) (tSub s) = .bad 7 := by
  have ec : ∀ r, cmdS (lvl (k + 1)) (120 :: 61 :: 36 :: r) = simpleS (lvl (k + 1)) (120 :: 61 :: 36 :: r) := fun r => rfl
  have ea : ∀ r, asgStep (lvl (k + 1)) ([], []) (120 :: 61 :: 36 :: r) = (wordS (lvl (k + 1)) (36 :: r)).bind fun ps r' => .ok (.go ([[120]], [ps])) (gapS r') := fun r => rfl
  have ew : ∀ r, wordStep (lvl (k + 1)) ⟨[], none⟩ (36 :: r) = (partS (lvl (k + 1)) false r).bind fun p r' => .ok (.go ⟨[p], none⟩) r' := fun r => rfl
  have hg := lvl_good (k + 1)
  rcases lst_in (t := [41]) h rfl rfl with h1 | h1
  · left
    refine lst_one rfl rfl ?_
    rw [tSub, ec, simpleS, iterS_eq (asgStep_nice hg), ea, wordS, iterS_eq (wordStep_nice hg), ew, sub_part hs h1]
    show (match ((iterS (wordStep (lvl (k + 1))) ⟨[⟨7, false, [], [], cs⟩], none⟩ []).bind fun ps r' => Rr.ok (It.go ([[120]], [ps])) (gapS r')) with
      | .bad e => (Rr.bad e : Rr (List (List UInt8) × List (List Pt)))
      | .ok (.stop b) r => .ok b r
      | .ok (.go s') r => iterS (asgStep (lvl (k + 1))) s' r).bind _ = _
    rfl
  · right
    refine lst_one_bad rfl rfl ?_
    rw [tSub, ec, simpleS, iterS_eq (asgStep_nice hg), ea, wordS, iterS_eq (wordStep_nice hg), ew, sub_part hs h1]
    rfl
end Go.Proofs.YtabkmimpkoiajaaDoor
namespace Go.Proofs.YtabkmimpkoiajaaDoor
open Go.RowKit Go.Lib

theorem past_off (a : UInt8) : ∀ (s r : List UInt8), a ∉ s → pastS [a] (s ++ a :: r) = a :: r ∧ runS [a] (s ++ a :: r) = s
  | [], r, _ => by
    unfold pastS runS
    simp
  | c :: s, r, h => by
    have h1 : c ≠ a := fun e => h (by rw [e]; simp)
    have h2 : a ∉ s := fun e => h (List.mem_cons_of_mem _ e)
    obtain ⟨h3, h4⟩ := past_off a s r h2
    unfold pastS runS at *
    rw [List.cons_append, List.dropWhile_cons, List.takeWhile_cons]
    have h5 : (!([a] : List UInt8).contains c) = true := by simp [h1]
    rw [h5]
    exact ⟨h3, congrArg _ h4⟩
theorem past_all (a : UInt8) : ∀ (s : List UInt8), a ∉ s → pastS [a] s = []
  | [], _ => rfl
  | c :: s, h => by
    have h1 : c ≠ a := fun e => h (by rw [e]; simp)
    have h2 : a ∉ s := fun e => h (List.mem_cons_of_mem _ e)
    have h3 := past_all a s h2
    unfold pastS at *
    rw [List.dropWhile_cons]
    have h5 : (!([a] : List UInt8).contains c) = true := by simp [h1]
    rw [h5]
    exact h3
/-- A remark ahead of a script. -/
theorem lst_remark (k : Nat) {rm s : List UInt8} (h : (10 : UInt8) ∉ rm) : lstS k (35 :: (rm ++ 10 :: s)) = lstS k s := by
  have hk : skipS shEnds (35 :: (rm ++ 10 :: s)) = skipS shEnds s := by
    rw [skipS_eq shEnds (35 :: (rm ++ 10 :: s))]
    have hg : gapS (35 :: (rm ++ 10 :: s)) = 10 :: s := by
      have h1 : (10 : UInt8) ∉ (35 :: rm : List UInt8) := fun e => by
        rcases List.mem_cons.1 e with e | e
        · cases e
        · exact h e
      exact (past_off 10 (35 :: rm) s h1).1
    rw [hg]
    rfl
  show iterS (listStep (lvl k)) [] (skipS shEnds (35 :: (rm ++ 10 :: s))) = iterS (listStep (lvl k)) [] (skipS shEnds s)
  rw [hk]
/-- Something behind a script that is no command, no end. -/
theorem lst_behind {k : Nat} {s t : List UInt8} {cs : List Co} (h : lstS k s = .ok cs []) (ht : skipS shEnds t = []) : lstS k (s ++ 10 :: t) = .ok cs [] := by
  have hx : NlX (10 :: t) := ⟨t, rfl⟩
  have hc : ∀ ds, contS (lvl k) ds t = .ok ds [] := fun ds => by
    unfold contS
    rw [ht, cont_nil]
  show iterS (listStep (lvl k)) [] (skipS shEnds (s ++ 10 :: t)) = _
  have h2 : iterS (listStep (lvl k)) [] (skipS shEnds s) = .ok cs [] := h
  by_cases hs : skipS shEnds s = []
  · rw [(skip_end (t := t) _ s rfl hs).1]
    rw [hs, cont_nil] at h2
    cases h2
    exact hc []
  · rw [skipS_ext hx hs, list_end (lvl_good k) (lvl_ext hx k) _ [] cs _ rfl hs h2]
    exact hc cs
theorem skip_remark {rm : List UInt8} (h : (10 : UInt8) ∉ rm) : skipS shEnds (32 :: 35 :: rm) = [] := by
  rw [skip_blank, skipS_eq]
  have hg : gapS (35 :: rm) = [] := by
    have h1 : (10 : UInt8) ∉ (35 :: rm : List UInt8) := fun e => by
      rcases List.mem_cons.1 e with e | e
      · cases e
      · exact h e
    exact past_all 10 (35 :: rm) h1
  rw [hg]
/-- A text in single quotes. -/
theorem word_quote (sub : Deeper) (st : Sp) {s r : List UInt8} (h : (39 : UInt8) ∉ s) : wordStep sub st (39 :: (s ++ 39 :: r)) = .ok (.go (st.lit s true)) r := by
  have hs : singleS (s ++ 39 :: r) = .ok s r := by
    obtain ⟨h1, h2⟩ := past_off 39 s r h
    unfold singleS needS
    rw [h1, h2, show takeS [39] (39 :: r) = some r from takeS_app [39] r]
    rfl
  unfold wordStep
  rw [show takeS [39] (39 :: (s ++ 39 :: r)) = some (s ++ 39 :: r) from takeS_app [39] _]
  show (singleS (s ++ 39 :: r)).bind _ = _
  rw [hs]
  rfl
/-- A word that is one text in single quotes. -/
theorem word_quoted {k : Nat} {s r : List UInt8} (h : (39 : UInt8) ∉ s) (hr : r = [] ∨ ∃ t, r = 32 :: t) : wordS (lvl k) (39 :: (s ++ 39 :: r)) = .ok [litP true s] r := by
  have hg := lvl_good k
  unfold wordS
  rw [iterS_eq (wordStep_nice hg), word_quote _ _ h]
  show iterS (wordStep (lvl k)) ⟨[], some (true, s)⟩ r = _
  rw [iterS_eq (wordStep_nice hg)]
  rcases hr with rfl | ⟨t, rfl⟩
  · rfl
  · rfl
def tQ (s : List UInt8) : List UInt8 := 120 :: 61 :: 39 :: (s ++ 39 :: (32 :: 101 :: 99 :: 104 :: 111 :: 32 :: 39 :: (s ++ 39 :: [])))
theorem read_quotes (k : Nat) {s : List UInt8} (h : (39 : UInt8) ∉ s) : lstS k (tQ s) = .ok [.mk 1 [[120]] [[litP true s]] [[litP false [101, 99, 104, 111]], [litP true s]] [] [] []] [] := by
  have hg := lvl_good k
  have ec : ∀ r, cmdS (lvl k) (120 :: 61 :: 39 :: r) = simpleS (lvl k) (120 :: 61 :: 39 :: r) := fun r => rfl
  have ea : ∀ r, asgStep (lvl k) ([], []) (120 :: 61 :: 39 :: r) = (wordS (lvl k) (39 :: r)).bind fun ps r' => .ok (.go ([[120]], [ps])) (gapS r') := fun r => rfl
  have eb : ∀ s r, asgStep (lvl k) s (101 :: 99 :: 104 :: 111 :: 32 :: 39 :: r) = .ok (.stop s) (101 :: 99 :: 104 :: 111 :: 32 :: 39 :: r) := fun s r => rfl
  have ek : ∀ r, keyS (101 :: 99 :: 104 :: 111 :: 32 :: 39 :: r) = [101, 99, 104, 111] := fun r => rfl
  have ew : ∀ r, wordS (lvl k) (gapS (101 :: 99 :: 104 :: 111 :: 32 :: 39 :: r)) = .ok [litP false [101, 99, 104, 111]] (32 :: 39 :: r) := fun r => by
    show iterS (wordStep (lvl k)) ⟨[], none⟩ (101 :: 99 :: 104 :: 111 :: 32 :: 39 :: r) = _
    rw [iterS_eq (wordStep_nice hg)]
    show iterS (wordStep (lvl k)) ⟨[], some (false, [101, 99, 104, 111])⟩ (32 :: 39 :: r) = _
    rw [iterS_eq (wordStep_nice hg)]
    rfl
  have eg : ∀ r, gapS (32 :: 39 :: r) = 39 :: r := fun r => rfl
  refine lst_one rfl rfl ?_
  rw [tQ, ec, simpleS, iterS_eq (asgStep_nice hg), ea, word_quoted h (.inr ⟨_, rfl⟩)]
  show (iterS (asgStep (lvl k)) ([[120]], [[litP true s]]) (101 :: 99 :: 104 :: 111 :: 32 :: 39 :: (s ++ 39 :: []))).bind _ = _
  rw [iterS_eq (asgStep_nice hg), eb]
  dsimp only [Rr.bind]
  rw [ek, if_neg (by decide)]
  unfold wordsS
  rw [iterS_eq (wordsStep_nice hg)]
  have es : ∀ ws l, wordsStep (lvl k) ws l = (wordS (lvl k) (gapS l)).bind fun ps r => if ps = [] then .ok (.stop ws) r else .ok (.go (ws ++ [ps])) r := fun _ _ => rfl
  rw [es, ew]
  dsimp only [Rr.bind]
  rw [if_neg (by simp)]
  dsimp only
  rw [iterS_eq (wordsStep_nice hg), es]
  rw [eg, word_quoted h (.inl rfl)]
  dsimp only [Rr.bind]
  rw [if_neg (by simp)]
  rfl
/-- A name of two bytes with =. -/
theorem rest_list : ∀ n, n < 256 → restOk (UInt8.ofNat n) = true → UInt8.ofNat n ∈ ([48, 49, 50, 51, 52, 53, 54, 55, 56, 57, 65, 66, 67, 68, 69, 70, 71, 72, 73, 74, 75, 76, 77, 78, 79, 80, 81, 82, 83, 84, 85, 86, 87, 88, 89, 90, 95, 97, 98, 99, 100, 101, 102, 103, 104, 105, 106, 107, 108, 109, 110, 111, 112, 113, 114, 115, 116, 117, 118, 119, 120, 121, 122] : List UInt8) := by decide +kernel
def nmA (c : UInt8) : List Co := [.mk 1 [[120, c]] [[litP false [49]]] [[litP false [121]]] [] [] []]
def nmB (c : UInt8) : List Co := [.mk 1 [] [] [[litP false [121]], [litP false [120, c, 61, 49]]] [] [] []]
theorem read_names : ∀ c ∈ ([48, 49, 50, 51, 52, 53, 54, 55, 56, 57, 65, 66, 67, 68, 69, 70, 71, 72, 73, 74, 75, 76, 77, 78, 79, 80, 81, 82, 83, 84, 85, 86, 87, 88, 89, 90, 95, 97, 98, 99, 100, 101, 102, 103, 104, 105, 106, 107, 108, 109, 110, 111, 112, 113, 114, 115, 116, 117, 118, 119, 120, 121, 122] : List UInt8), readSh [120, c, 61, 49, 32, 121] = (nmA c, 0) ∧ readSh [121, 32, 120, c, 61, 49] = (nmB c, 0) := by
  repeat first
    | refine List.forall_mem_cons.2 ⟨⟨rfl, rfl⟩, ?_⟩
    | exact List.forall_mem_nil _
theorem read_name (c : UInt8) (h : restOk c = true) : readSh [120, c, 61, 49, 32, 121] = (nmA c, 0) ∧ readSh [121, 32, 120, c, 61, 49] = (nmB c, 0) := by
  have e : UInt8.ofNat c.toNat = c := by simp
  have := rest_list c.toNat (by have := c.toNat_lt; omega) (by rw [e]; exact h)
  rw [e] at this
  exact read_names c this
end Go.Proofs.YtabkmimpkoiajaaDoor
namespace Go.Proofs.YtabkmimpkoiajaaDoor
open Go.RowKit Go.Lib

mutual
def cntC : Co → Nat
  | .mk _ _ v w a b c => 1 + cntCs a + cntCs b + cntCs c + cntWs v + cntWs w
def cntCs : List Co → Nat
  | [] => 0
  | c :: r => cntC c + cntCs r
def cntP : PtX Co → Nat
  | ⟨_, _, _, _, l⟩ => cntCs l
def cntPs : List (PtX Co) → Nat
  | [] => 0
  | p :: r => cntP p + cntPs r
def cntWs : List (List (PtX Co)) → Nat
  | [] => 0
  | w :: r => cntPs w + cntWs r
end
theorem cntCs_app (a b : List Co) : cntCs (a ++ b) = cntCs a + cntCs b := by
  induction a with
  | nil => simp [cntCs]
  | cons c r ih => simp only [List.cons_append, cntCs, ih]; omega
theorem cntWs_app (a b : List (List Pt)) : cntWs (a ++ b) = cntWs a + cntWs b := by
  induction a with
  | nil => simp [cntWs]
  | cons c r ih => simp only [List.cons_append, cntWs, ih]; omega
theorem cntPs_app (a b : List Pt) : cntPs (a ++ b) = cntPs a + cntPs b := by
  induction a with
  | nil => simp [cntPs]
  | cons c r ih => simp only [List.cons_append, cntPs, ih]; omega
theorem cntC_pos (c : Co) : 1 ≤ cntC c := by
  cases c
  simp only [cntC]
  omega
theorem cntCs_len (l : List Co) : l.length ≤ cntCs l := by
  induction l with
  | nil => simp [cntCs]
  | cons c r ih =>
    have := cntC_pos c
    simp only [List.length_cons, cntCs]
    omega
theorem cntC_eq (c : Co) : cntC c = 1 + cntCs c.a + cntCs c.b + cntCs c.c + cntWs c.v + cntWs c.w := by
  cases c
  simp only [cntC]
  rfl
theorem cntP_eq (p : Pt) : cntP p = cntCs p.l := by
  cases p
  simp only [cntP]
theorem cnt_take (l : List Co) (i : Nat) (c : Co) (h : l[i]? = some c) : cntCs (l.take (i + 1)) = cntCs (l.take i) + cntC c := by
  rw [List.take_add_one, h, cntCs_app]
  simp [cntCs]
theorem cntW_take (l : List (List Pt)) (i : Nat) (c : List Pt) (h : l[i]? = some c) : cntWs (l.take (i + 1)) = cntWs (l.take i) + cntPs c := by
  rw [List.take_add_one, h, cntWs_app]
  simp [cntWs]
theorem cntP_take (l : List Pt) (i : Nat) (c : Pt) (h : l[i]? = some c) : cntPs (l.take (i + 1)) = cntPs (l.take i) + cntP c := by
  rw [List.take_add_one, h, cntPs_app]
  simp [cntPs]
theorem cntCs_le (l : List Co) (i : Nat) : cntCs (l.take i) ≤ cntCs l := by
  conv => rhs; rw [← List.take_append_drop i l]
  rw [cntCs_app]
  omega
theorem cntWs_le (l : List (List Pt)) (i : Nat) : cntWs (l.take i) ≤ cntWs l := by
  conv => rhs; rw [← List.take_append_drop i l]
  rw [cntWs_app]
  omega
theorem cntPs_le (l : List Pt) (i : Nat) : cntPs (l.take i) ≤ cntPs l := by
  conv => rhs; rw [← List.take_append_drop i l]
  rw [cntPs_app]
  omega
theorem cnt_len (l : List Co) : ∀ i, i ≤ l.length → l.length + cntCs (l.take i) - i ≤ cntCs l ∧ i ≤ cntCs (l.take i) := by
  intro i hi
  have h1 := cntCs_len (l.take i)
  have h2 := cntCs_len (l.drop i)
  rw [List.length_take, Nat.min_eq_left hi] at h1
  rw [List.length_drop] at h2
  have h3 : cntCs l = cntCs (l.take i) + cntCs (l.drop i) := by rw [← cntCs_app, List.take_append_drop]
  omega
end Go.Proofs.YtabkmimpkoiajaaDoor
namespace Go.Proofs.YtabkmimpkoiajaaDoor
open Go.RowKit Go.Lib

def meaN : List (List UInt8) → Nat
  | [] => 0
  | n :: r => 8 + 4 * n.length + meaN r
mutual
def meaC : Co → Nat
  | .mk _ n v w a b c => 32 + meaN n + meaCs a + meaCs b + meaCs c + meaWs v + meaWs w
def meaCs : List Co → Nat
  | [] => 0
  | c :: r => meaC c + meaCs r
def meaP : PtX Co → Nat
  | ⟨_, _, s, t, l⟩ => 16 + 4 * s.length + 4 * t.length + meaCs l
def meaPs : List (PtX Co) → Nat
  | [] => 0
  | p :: r => meaP p + meaPs r
def meaWs : List (List (PtX Co)) → Nat
  | [] => 0
  | w :: r => 8 + meaPs w + meaWs r
end
theorem meaCs_app (a b : List Co) : meaCs (a ++ b) = meaCs a + meaCs b := by
  induction a with
  | nil => simp [meaCs]
  | cons c r ih => simp only [List.cons_append, meaCs, ih]; omega
theorem meaWs_app (a b : List (List Pt)) : meaWs (a ++ b) = meaWs a + meaWs b := by
  induction a with
  | nil => simp [meaWs]
  | cons c r ih => simp only [List.cons_append, meaWs, ih]; omega
theorem meaPs_app (a b : List Pt) : meaPs (a ++ b) = meaPs a + meaPs b := by
  induction a with
  | nil => simp [meaPs]
  | cons c r ih => simp only [List.cons_append, meaPs, ih]; omega
theorem meaN_app (a b : List (List UInt8)) : meaN (a ++ b) = meaN a + meaN b := by
  induction a with
  | nil => simp [meaN]
  | cons c r ih => simp only [List.cons_append, meaN, ih]; omega
mutual
theorem cnt_meaC : ∀ c, cntC c ≤ meaC c
  | .mk _ n v w a b c => by
    have h1 := cnt_meaCs a
    have h2 := cnt_meaCs b
    have h3 := cnt_meaCs c
    have h4 := cnt_meaWs v
    have h5 := cnt_meaWs w
    simp only [cntC, meaC]
    omega
theorem cnt_meaCs : ∀ l, cntCs l ≤ meaCs l
  | [] => by simp [cntCs]
  | c :: r => by
    have h1 := cnt_meaC c
    have h2 := cnt_meaCs r
    simp only [cntCs, meaCs]
    omega
theorem cnt_meaP : ∀ p, cntP p ≤ meaP p
  | ⟨_, _, _, _, l⟩ => by
    have h1 := cnt_meaCs l
    simp only [cntP, meaP]
    omega
theorem cnt_meaPs : ∀ l, cntPs l ≤ meaPs l
  | [] => by simp [cntPs]
  | p :: r => by
    have h1 := cnt_meaP p
    have h2 := cnt_meaPs r
    simp only [cntPs, meaPs]
    omega
theorem cnt_meaWs : ∀ l, cntWs l ≤ meaWs l
  | [] => by simp [cntWs]
  | p :: r => by
    have h1 := cnt_meaPs p
    have h2 := cnt_meaWs r
    simp only [cntWs, meaWs]
    omega
end
/-- What is read weighs no more than what was there, k less. -/
def Wt {α : Type} (m : α → Nat) (k : Nat) (l : List UInt8) (R : Rr α) : Prop := ∀ v r, R = .ok v r → m v + k + 64 * r.length ≤ 64 * l.length
theorem iter_wt {σ β : Type} {step : σ → List UInt8 → Rr (It σ β)} (hs : ∀ s l, NiceI l (step s l)) (ms : σ → Nat) (mb : β → Nat) (hgo : ∀ s l s' r, step s l = .ok (.go s') r → ms s' + 64 * r.length ≤ ms s + 64 * l.length) (hst : ∀ s l b r, step s l = .ok (.stop b) r → mb b + 64 * r.length ≤ ms s + 64 * l.length) :
    ∀ (m : Nat) (s : σ) (l : List UInt8) (b : β) (r : List UInt8), l.length = m → iterS step s l = .ok b r → mb b + 64 * r.length ≤ ms s + 64 * l.length := by
  intro m
  induction m using Nat.strongRecOn with
  | ind m ih =>
    intro s l b r hm h
    have h1 := hs s l
    rw [iterS_eq hs] at h
    cases hst' : step s l with
    | bad e => rw [hst'] at h; cases h
    | ok o r1 =>
      rw [hst'] at h h1
      cases o with
      | stop b' =>
        cases h
        exact hst _ _ _ _ hst'
      | go s' =>
        dsimp only at h
        have h3 : r1.length < l.length := h1
        have h4 := hgo _ _ _ _ hst'
        have h5 := ih r1.length (by omega) s' r1 b r rfl h
        omega
theorem needS_len {t l r : List UInt8} {u : Unit} (h : needS t l = .ok u r) : l.length = t.length + r.length := by
  unfold needS at h
  cases hk : takeS t l with
  | none => rw [hk] at h; cases h
  | some r' => rw [hk] at h; cases h; exact takeS_len hk
theorem nameR_lenW {l n r : List UInt8} (h : nameR l = .ok n r) : n.length + r.length = l.length ∧ 1 ≤ n.length := by
  unfold nameR at h
  split at h
  · cases h
  · rename_i hn
    cases h
    have h1 : (nameS l).length ≤ l.length := by
      cases l with
      | nil => exact Nat.le_refl _
      | cons a r =>
        show (if isLet a then a :: r.takeWhile restOk else []).length ≤ _
        split
        · simp only [List.length_cons]
          have := (List.takeWhile_sublist restOk (l := r)).length_le
          omega
        · exact Nat.zero_le _
    refine ⟨by rw [List.length_drop]; omega, ?_⟩
    cases hh : nameS l with
    | nil => exact absurd hh hn
    | cons a b => simp
theorem singleS_lenW {l s r : List UInt8} (h : singleS l = .ok s r) : s.length + 1 + r.length = l.length := by
  unfold singleS at h
  obtain ⟨u, r1, h1, h2⟩ := bind_ok h
  cases h2
  have h3 := needS_len h1
  have h4 := run_past_len [39] l
  simp only [List.length_cons, List.length_nil] at h3
  omega
theorem withT_len {q : Bool} {k : Nat} {n l r : List UInt8} {p : Pt} (h : withT q k n l = .ok p r) : meaP p + 64 * r.length ≤ 16 + 4 * n.length + 64 * l.length := by
  unfold withT at h
  obtain ⟨u, r1, h1, h2⟩ := bind_ok h
  cases h2
  have h3 := needS_len h1
  have h4 := run_past_len shBarred l
  simp only [List.length_cons, List.length_nil] at h3
  simp only [meaP, meaCs]
  omega
theorem bracedS_len {q : Bool} {l r : List UInt8} {p : Pt} (h : bracedS q l = .ok p r) : meaP p + 64 * r.length ≤ 64 * l.length := by
  unfold bracedS at h
  obtain ⟨n, l1, h1, h⟩ := bind_ok h
  obtain ⟨h2, h3⟩ := nameR_lenW h1
  split at h
  · rename_i r1 h4
    have := takeS_len h4
    cases h
    simp only [meaP, meaCs, List.length_nil]
    omega
  · split at h
    · rename_i r1 h4
      have := takeS_len h4
      have := withT_len h
      omega
    · split at h
      · rename_i r1 h4
        have := takeS_len h4
        have := withT_len h
        omega
      · split at h
        · rename_i r1 h4
          have := takeS_len h4
          have := withT_len h
          omega
        · cases h
/-- What a level may use. -/
def WtG (g : Dn) : Prop := (∀ l, Wt meaCs 0 l (g.lst l)) ∧ ∀ l, Wt meaWs 0 l (g.wds l)
def WtD (sub : Deeper) : Prop := ∀ g, sub = some g → WtG g
section
variable {sub : Deeper}
theorem subS_wt (hw : WtD sub) (l : List UInt8) : Wt meaCs 0 l (subS sub l) := by
  cases sub with
  | none => intro v r h; cases h
  | some g => exact (hw g rfl).1 l
theorem reckS_lenW {l s r : List UInt8} (h : reckS l = .ok s r) : s.length + 2 + r.length = l.length := by
  unfold reckS at h
  cases hr : recS 0 l with
  | none => rw [hr] at h; cases h
  | some p =>
    obtain ⟨a, b⟩ := p
    rw [hr] at h
    obtain ⟨u, r1, h1, h2⟩ := bind_ok h
    cases h2
    have h3 := needS_len h1
    have h4 := recS_len l 0 s b hr
    rw [h4, List.length_append]
    simp only [List.length_cons, List.length_nil] at h3
    omega
theorem partS_wt (hw : WtD sub) (q : Bool) (l : List UInt8) : Wt meaP 0 l (partS sub q l) := by
  intro p r h
  unfold partS at h
  cases h1 : takeS [40, 40] l with
  | some r1 =>
    rw [h1] at h
    obtain ⟨s, r2, h2, h3⟩ := bind_ok h
    cases h3
    have := takeS_len h1
    have := reckS_lenW h2
    simp only [meaP, meaCs, List.length_nil, List.length_cons] at *
    omega
  | none =>
    rw [h1] at h
    cases h2 : takeS [40] l with
    | some r1 =>
      rw [h2] at h
      obtain ⟨cs, r2, h3, h4⟩ := bind_ok h
      obtain ⟨u, r3, h5, h6⟩ := bind_ok h4
      cases h6
      have := takeS_len h2
      have := subS_wt hw r1 cs r2 h3
      have := needS_len h5
      simp only [meaP, List.length_nil, List.length_cons] at *
      omega
    | none =>
      rw [h2] at h
      cases h3 : takeS [123, 35] l with
      | some r1 =>
        rw [h3] at h
        obtain ⟨n, r2, h4, h5⟩ := bind_ok h
        obtain ⟨u, r3, h6, h7⟩ := bind_ok h5
        cases h7
        have := takeS_len h3
        have := nameR_lenW h4
        have := needS_len h6
        simp only [meaP, meaCs, List.length_nil, List.length_cons] at *
        omega
      | none =>
        rw [h3] at h
        cases h4 : takeS [123] l with
        | some r1 =>
          rw [h4] at h
          have := takeS_len h4
          have := bracedS_len h
          omega
        | none =>
          rw [h4] at h
          obtain ⟨n, r2, h5, h6⟩ := bind_ok h
          cases h6
          have := nameR_lenW h5
          simp only [meaP, meaCs, List.length_nil] at *
          omega
theorem shut_lit (st : Sp) (s : List UInt8) (q : Bool) : meaPs (st.lit s q).shut ≤ meaPs st.shut + 16 + 4 * s.length := by
  unfold Sp.lit
  cases h : st.cur with
  | none =>
    simp only [Sp.shut, h, meaPs_app, meaPs, litP, meaP, meaCs, List.length_nil]
    omega
  | some p =>
    obtain ⟨q', t⟩ := p
    dsimp only
    split
    · simp only [Sp.shut, h, meaPs_app, meaPs, litP, meaP, meaCs, List.length_nil, List.length_append]
      omega
    · simp only [Sp.shut, h, meaPs_app, meaPs, litP, meaP, meaCs, List.length_nil]
      omega
theorem shut_add (st : Sp) (p : Pt) : meaPs (st.add p).shut = meaPs st.shut + meaP p := by
  unfold Sp.add
  simp only [Sp.shut, meaPs_app, meaPs]
  omega
theorem dblStep_go (hw : WtD sub) (st st' : Sp) (l r : List UInt8) (h : dblStep sub st l = .ok (.go st') r) : meaPs st'.shut + 64 * r.length ≤ meaPs st.shut + 64 * l.length := by
  unfold dblStep at h
  cases h1 : takeS [34] l with
  | some r1 => rw [h1] at h; cases h
  | none =>
    rw [h1] at h
    cases h2 : takeS [36] l with
    | some r1 =>
      rw [h2] at h
      obtain ⟨p, r2, h3, h4⟩ := bind_ok h
      cases h4
      have := takeS_len h2
      have := partS_wt hw true r1 p r h3
      rw [shut_add]
      omega
    | none =>
      rw [h2] at h
      cases h3 : takeS [92] l with
      | some r1 =>
        rw [h3] at h
        dsimp only at h
        split at h
        · cases h
          have := takeS_len h3
          have := shut_lit st (r1.take 1) true
          rw [List.length_take] at this
          rw [List.length_drop]
          simp only [List.length_cons, List.length_nil] at *
          omega
        · cases h
      | none =>
        rw [h3] at h
        dsimp only at h
        split at h
        · cases h
        · rename_i hn
          cases h
          have := shut_lit st (runS shBound l) true
          have := run_past_len shBound l
          have h4 : 1 ≤ (runS shBound l).length := by
            cases hh : runS shBound l with
            | nil => exact absurd hh hn
            | cons a b => simp
          omega
theorem dblStep_stop (st b : Sp) (l r : List UInt8) (h : dblStep sub st l = .ok (.stop b) r) : meaPs b.shut + 64 * r.length ≤ meaPs st.shut + 64 * l.length := by
  unfold dblStep at h
  cases h1 : takeS [34] l with
  | some r1 =>
    rw [h1] at h
    cases h
    have := takeS_len h1
    omega
  | none =>
    rw [h1] at h
    cases h2 : takeS [36] l with
    | some r1 =>
      rw [h2] at h
      obtain ⟨p, r2, h3, h4⟩ := bind_ok h
      cases h4
    | none =>
      rw [h2] at h
      cases h3 : takeS [92] l with
      | some r1 =>
        rw [h3] at h
        dsimp only at h
        split at h <;> cases h
      | none =>
        rw [h3] at h
        dsimp only at h
        split at h <;> cases h
theorem dblS_wt (hg : GoodD sub) (hw : WtD sub) (st st' : Sp) (l r : List UInt8) (h : dblS sub st l = .ok st' r) : meaPs st'.shut + 64 * r.length ≤ meaPs st.shut + 16 + 64 * l.length := by
  unfold dblS at h
  cases h1 : takeS [34] l with
  | some r1 =>
    rw [h1] at h
    cases h
    have := takeS_len h1
    have := shut_lit st [] true
    simp only [List.length_nil] at this
    omega
  | none =>
    rw [h1] at h
    have := iter_wt (dblStep_nice hg) (fun s => meaPs s.shut) (fun s => meaPs s.shut) (fun s l s' r => dblStep_go hw s s' l r) (fun s l b r => dblStep_stop s b l r) _ st l st' r rfl h
    omega
/-- A step of a word that goes on weighs 44 less. -/
theorem wordStep_go (hg : GoodD sub) (hw : WtD sub) (st st' : Sp) (l r : List UInt8) (h : wordStep sub st l = .ok (.go st') r) : meaPs st'.shut + 44 + 64 * r.length ≤ meaPs st.shut + 64 * l.length := by
  unfold wordStep at h
  cases h1 : takeS [39] l with
  | some r1 =>
    rw [h1] at h
    obtain ⟨s, r2, h2, h3⟩ := bind_ok h
    cases h3
    have := takeS_len h1
    have := singleS_lenW h2
    have := shut_lit st s true
    simp only [List.length_cons, List.length_nil] at *
    omega
  | none =>
    rw [h1] at h
    cases h2 : takeS [92] l with
    | some r1 =>
      rw [h2] at h
      dsimp only at h
      split at h
      · cases h
      · cases h
        have := takeS_len h2
        have := shut_lit st (r1.take 1) true
        rw [List.length_take] at this
        rw [List.length_drop]
        simp only [List.length_cons, List.length_nil] at *
        omega
    | none =>
      rw [h2] at h
      cases h3 : takeS [34] l with
      | some r1 =>
        rw [h3] at h
        obtain ⟨s, r2, h4, h5⟩ := bind_ok h
        cases h5
        have := takeS_len h3
        have := dblS_wt hg hw st st' r1 r h4
        simp only [List.length_cons, List.length_nil] at *
        omega
      | none =>
        rw [h3] at h
        cases h4 : takeS [36] l with
        | some r1 =>
          rw [h4] at h
          obtain ⟨p, r2, h5, h6⟩ := bind_ok h
          cases h6
          have := takeS_len h4
          have := partS_wt hw false r1 p r h5
          rw [shut_add]
          simp only [List.length_cons, List.length_nil] at *
          omega
        | none =>
          rw [h4] at h
          dsimp only at h
          split at h
          · cases h
          · rename_i hn
            cases h
            have := shut_lit st (runS shMarks l) false
            have := run_past_len shMarks l
            have h5 : 1 ≤ (runS shMarks l).length := by
              have := run_cons (of := shMarks) (l := l) (fun e => hn (.inl e)) (by
                cases ha : atS shMarks l
                · rfl
                · exact absurd (.inr ha) hn)
              cases hh : runS shMarks l with
              | nil => exact absurd hh this
              | cons a b => simp
            omega
theorem wordStep_stop (st : Sp) (b : List Pt) (l r : List UInt8) (h : wordStep sub st l = .ok (.stop b) r) : b = st.shut ∧ r = l := by
  unfold wordStep at h
  cases h1 : takeS [39] l with
  | some r1 => rw [h1] at h; obtain ⟨s, r2, h2, h3⟩ := bind_ok h; cases h3
  | none =>
    rw [h1] at h
    cases h2 : takeS [92] l with
    | some r1 =>
      rw [h2] at h
      dsimp only at h
      split at h <;> cases h
    | none =>
      rw [h2] at h
      cases h3 : takeS [34] l with
      | some r1 => rw [h3] at h; obtain ⟨s, r2, h4, h5⟩ := bind_ok h; cases h5
      | none =>
        rw [h3] at h
        cases h4 : takeS [36] l with
        | some r1 => rw [h4] at h; obtain ⟨p, r2, h5, h6⟩ := bind_ok h; cases h6
        | none =>
          rw [h4] at h
          dsimp only at h
          split at h
          · cases h; exact ⟨rfl, rfl⟩
          · cases h
theorem wordS_wt (hg : GoodD sub) (hw : WtD sub) {l r : List UInt8} {ps : List Pt} (h : wordS sub l = .ok ps r) : meaPs ps + 64 * r.length ≤ 64 * l.length ∧ (ps ≠ [] → meaPs ps + 44 + 64 * r.length ≤ 64 * l.length) := by
  unfold wordS at h
  have hn := wordStep_nice hg ⟨[], none⟩ l
  rw [iterS_eq (wordStep_nice hg)] at h
  have e0 : meaPs (Sp.shut ⟨[], none⟩) = 0 := rfl
  cases hs : wordStep sub ⟨[], none⟩ l with
  | bad e => rw [hs] at h; cases h
  | ok x r1 =>
    rw [hs] at h
    cases x with
    | stop b =>
      obtain ⟨rfl, rfl⟩ := wordStep_stop _ _ _ _ hs
      cases h
      exact ⟨by rw [e0]; omega, fun e => absurd rfl e⟩
    | go st' =>
      dsimp only at h
      have h1 := wordStep_go hg hw _ _ _ _ hs
      rw [e0] at h1
      have h2 := iter_wt (wordStep_nice hg) (fun s => meaPs s.shut) (fun b => meaPs b) (fun s l s' r hh => by have := wordStep_go hg hw s s' l r hh; omega) (fun s l b r hh => by obtain ⟨rfl, rfl⟩ := wordStep_stop _ _ _ _ hh; exact Nat.le_refl _) _ st' r1 ps r rfl h
      exact ⟨by omega, fun _ => by omega⟩
theorem gap_wt (l : List UInt8) : 64 * (gapS l).length ≤ 64 * l.length := Nat.mul_le_mul_left _ (gapS_len l)
theorem wordsStep_go (hg : GoodD sub) (hw : WtD sub) (ws ws' : List (List Pt)) (l r : List UInt8) (h : wordsStep sub ws l = .ok (.go ws') r) : meaWs ws' + 36 + 64 * r.length ≤ meaWs ws + 64 * l.length := by
  unfold wordsStep at h
  obtain ⟨ps, r1, h1, h2⟩ := bind_ok h
  split at h2
  · cases h2
  · rename_i hp
    cases h2
    have := (wordS_wt hg hw h1).2 hp
    have := gap_wt l
    simp only [meaWs_app, meaWs]
    omega
theorem wordsStep_stop (hg : GoodD sub) (hw : WtD sub) (ws b : List (List Pt)) (l r : List UInt8) (h : wordsStep sub ws l = .ok (.stop b) r) : b = ws ∧ 64 * r.length ≤ 64 * l.length := by
  unfold wordsStep at h
  obtain ⟨ps, r1, h1, h2⟩ := bind_ok h
  split at h2
  · cases h2
    have := (wordS_wt hg hw h1).1
    have := gap_wt l
    exact ⟨rfl, by omega⟩
  · cases h2
theorem wordsS_wt (hg : GoodD sub) (hw : WtD sub) {l r : List UInt8} {ws : List (List Pt)} (h : wordsS sub l = .ok ws r) : meaWs ws + 64 * r.length ≤ 64 * l.length ∧ (ws ≠ [] → meaWs ws + 32 + 64 * r.length ≤ 64 * l.length) := by
  unfold wordsS at h
  rw [iterS_eq (wordsStep_nice hg)] at h
  cases hs : wordsStep sub [] l with
  | bad e => rw [hs] at h; cases h
  | ok x r1 =>
    rw [hs] at h
    cases x with
    | stop b =>
      obtain ⟨rfl, h1⟩ := wordsStep_stop hg hw _ _ _ _ hs
      cases h
      exact ⟨by simp only [meaWs]; omega, fun e => absurd rfl e⟩
    | go st' =>
      dsimp only at h
      have h1 := wordsStep_go hg hw _ _ _ _ hs
      simp only [meaWs] at h1
      have h2 := iter_wt (wordsStep_nice hg) meaWs meaWs (fun s l s' r hh => by have := wordsStep_go hg hw s s' l r hh; omega) (fun s l b r hh => by obtain ⟨rfl, h3⟩ := wordsStep_stop hg hw _ _ _ _ hh; omega) _ st' r1 ws r rfl h
      exact ⟨by omega, fun _ => by omega⟩
def meaS (s : List (List UInt8) × List (List Pt)) : Nat := meaN s.1 + meaWs s.2
theorem asgStep_go (hg : GoodD sub) (hw : WtD sub) (s s' : List (List UInt8) × List (List Pt)) (l r : List UInt8) (h : asgStep sub s l = .ok (.go s') r) : meaS s' + 32 + 64 * r.length ≤ meaS s + 64 * l.length := by
  unfold asgStep at h
  cases ha : assignS l with
  | none => rw [ha] at h; cases h
  | some p =>
    obtain ⟨n, r1⟩ := p
    rw [ha] at h
    obtain ⟨ps, r2, h1, h2⟩ := bind_ok h
    cases h2
    have h3 := (wordS_wt hg hw h1).1
    have h4 := gap_wt r2
    have h5 : n.length + 1 + r1.length ≤ l.length ∧ 1 ≤ n.length := by
      unfold assignS at ha
      split at ha
      · cases ha
      · rename_i hn
        cases ht : takeS [61] (l.drop (nameS l).length) with
        | none => rw [ht] at ha; cases ha
        | some r' =>
          rw [ht] at ha
          cases ha
          have := takeS_len ht
          rw [List.length_drop] at this
          simp only [List.length_cons, List.length_nil] at this
          refine ⟨by omega, ?_⟩
          cases hh : nameS l with
          | nil => exact absurd hh hn
          | cons a b => simp
    unfold meaS
    simp only [meaN_app, meaN, meaWs_app, meaWs]
    omega
theorem asgStep_stop (s b : List (List UInt8) × List (List Pt)) (l r : List UInt8) (h : asgStep sub s l = .ok (.stop b) r) : b = s ∧ r = l := by
  unfold asgStep at h
  cases ha : assignS l with
  | none => rw [ha] at h; cases h; exact ⟨rfl, rfl⟩
  | some p => rw [ha] at h; obtain ⟨ps, r2, h1, h2⟩ := bind_ok h; cases h2
theorem asg_wt (hg : GoodD sub) (hw : WtD sub) {l r : List UInt8} {s : List (List UInt8) × List (List Pt)} (h : iterS (asgStep sub) ([], []) l = .ok s r) : meaS s + 64 * r.length ≤ 64 * l.length ∧ (s.1 ≠ [] → meaS s + 32 + 64 * r.length ≤ 64 * l.length) := by
  rw [iterS_eq (asgStep_nice hg)] at h
  have e0 : meaS ([], []) = 0 := rfl
  cases hs : asgStep sub ([], []) l with
  | bad e => rw [hs] at h; cases h
  | ok x r1 =>
    rw [hs] at h
    cases x with
    | stop b =>
      obtain ⟨rfl, rfl⟩ := asgStep_stop _ _ _ _ hs
      cases h
      exact ⟨by rw [e0]; omega, fun e => absurd rfl e⟩
    | go st' =>
      dsimp only at h
      have h1 := asgStep_go hg hw _ _ _ _ hs
      rw [e0] at h1
      have h2 := iter_wt (asgStep_nice hg) meaS meaS (fun s l s' r hh => by have := asgStep_go hg hw s s' l r hh; omega) (fun s l b r hh => by obtain ⟨rfl, rfl⟩ := asgStep_stop _ _ _ _ hh; exact Nat.le_refl _) _ st' r1 s r rfl h
      exact ⟨by omega, fun _ => by omega⟩
theorem simpleS_wt (hg : GoodD sub) (hw : WtD sub) (l : List UInt8) : Wt meaC 0 l (simpleS sub l) := by
  intro c r h
  unfold simpleS at h
  obtain ⟨s, r1, h1, h⟩ := bind_ok h
  split at h
  · cases h
  · obtain ⟨ws, r2, h2, h⟩ := bind_ok h
    split at h
    · cases h
    · rename_i hne
      cases h
      obtain ⟨a1, a2⟩ := asg_wt hg hw h1
      obtain ⟨b1, b2⟩ := wordsS_wt hg hw h2
      unfold meaS at a1 a2
      simp only [meaC, meaCs]
      by_cases hs : s.1 = []
      · have := b2 (fun e => hne ⟨hs, e⟩); omega
      · have := a2 hs; omega
theorem linesS_wt {g : Dn} (hw : WtG g) (l : List UInt8) : Wt meaCs 0 l (linesS g l) := by
  intro cs r h
  unfold linesS at h
  obtain ⟨v, r1, h1, h⟩ := bind_ok h
  split at h
  · cases h
  · cases h; exact hw.1 l _ _ h1
theorem needKey_lenW {k l r : List UInt8} {u : Unit} (h : needKey k l = .ok u r) : r.length ≤ l.length := by
  have := needKey_nice k l
  rw [h] at this
  exact this
theorem bodyS_wt {g : Dn} (hw : WtG g) (l : List UInt8) : Wt meaCs 0 l (bodyS g l) := by
  intro cs r h
  unfold bodyS at h
  obtain ⟨u, r1, h1, h⟩ := bind_ok h
  obtain ⟨v, r2, h2, h⟩ := bind_ok h
  obtain ⟨u2, r3, h3, h⟩ := bind_ok h
  cases h
  have := needKey_lenW h1
  have := linesS_wt hw _ _ _ h2
  have := needKey_lenW h3
  omega
theorem elseS_wt {g : Dn} (hw : WtG g) (l : List UInt8) : Wt meaCs 0 l (elseS g l) := by
  intro cs r h
  unfold elseS at h
  cases ht : takeKeyS [101, 108, 115, 101] l with
  | none => rw [ht] at h; cases h; simp only [meaCs]; omega
  | some r1 =>
    rw [ht] at h
    have h1 := takeKey_drop ht
    have h2 := linesS_wt hw r1 cs r h
    have h3 : r1.length ≤ l.length := by rw [h1, List.length_drop]; omega
    omega
theorem choiceS_wt {g : Dn} (hw : WtG g) (l : List UInt8) (c : Co) (r : List UInt8) (h : choiceS g l = .ok c r) : meaC c + 64 * r.length ≤ 32 + 64 * l.length := by
  unfold choiceS at h
  obtain ⟨a, r1, h1, h⟩ := bind_ok h
  obtain ⟨u1, r2, h2, h⟩ := bind_ok h
  obtain ⟨b, r3, h3, h⟩ := bind_ok h
  obtain ⟨d, r4, h4, h⟩ := bind_ok h
  obtain ⟨u2, r5, h5, h⟩ := bind_ok h
  cases h
  have := linesS_wt hw _ _ _ h1
  have := needKey_lenW h2
  have := linesS_wt hw _ _ _ h3
  have := elseS_wt hw _ _ _ h4
  have := needKey_lenW h5
  simp only [meaC, meaN, meaWs]
  omega
theorem roundsS_wt {g : Dn} (hw : WtG g) (l : List UInt8) (c : Co) (r : List UInt8) (h : roundsS g l = .ok c r) : meaC c + 64 * r.length ≤ 32 + 64 * l.length := by
  unfold roundsS at h
  obtain ⟨a, r1, h1, h⟩ := bind_ok h
  obtain ⟨b, r2, h2, h⟩ := bind_ok h
  cases h
  have := linesS_wt hw _ _ _ h1
  have := bodyS_wt hw _ _ _ h2
  simp only [meaC, meaN, meaWs, meaCs]
  omega
theorem eachS_wt {g : Dn} (hw : WtG g) (l : List UInt8) (c : Co) (r : List UInt8) (h : eachS g l = .ok c r) : meaC c + 64 * r.length ≤ 40 + 64 * l.length := by
  unfold eachS at h
  obtain ⟨n, r1, h1, h⟩ := bind_ok h
  obtain ⟨u, r2, h2, h⟩ := bind_ok h
  obtain ⟨ws, r3, h3, h⟩ := bind_ok h
  split at h
  · cases h
  · obtain ⟨b, r4, h4, h⟩ := bind_ok h
    cases h
    have := gap_wt l
    have := nameR_lenW h1
    have := gap_wt r1
    have := needKey_lenW h2
    have := hw.2 _ _ _ h3
    have := skip_len shEnds r3
    have := bodyS_wt hw _ _ _ h4
    simp only [meaC, meaN, meaWs, meaCs]
    omega
theorem cmdS_wt (hg : GoodD sub) (hw : WtD sub) (l : List UInt8) : Wt meaC 0 l (cmdS sub l) := by
  intro c r h
  unfold cmdS at h
  split at h
  · rename_i hk
    have h1 := key_len hk (by simp)
    cases sub with
    | none => cases h
    | some g =>
      have h2 := choiceS_wt (hw g rfl) _ c r h
      rw [List.length_drop] at h2
      simp only [List.length_cons, List.length_nil] at h1
      omega
  · split at h
    · rename_i hk
      have h1 := key_len hk (by simp)
      cases sub with
      | none => cases h
      | some g =>
        have h2 := roundsS_wt (hw g rfl) _ c r h
        rw [List.length_drop] at h2
        simp only [List.length_cons, List.length_nil] at h1
        omega
    · split at h
      · rename_i hk
        have h1 := key_len hk (by simp)
        cases sub with
        | none => cases h
        | some g =>
          have h2 := eachS_wt (hw g rfl) _ c r h
          rw [List.length_drop] at h2
          simp only [List.length_cons, List.length_nil] at h1
          omega
      · exact simpleS_wt hg hw l c r h
end
theorem rowS_wt {kind : Nat} {mk : List UInt8} {one : List UInt8 → Rr Co} {fits : Co → Bool} (hmk : mk ≠ []) (h1 : ∀ l, Nice l (one l)) (h2 : NotNil one) (hw : ∀ l, Wt meaC 0 l (one l)) (l : List UInt8) : Wt meaC 0 l (rowS kind mk one fits l) := by
  intro c r h
  unfold rowS at h
  obtain ⟨c1, r1, h3, h⟩ := bind_ok h
  have h4 := hw _ _ _ h3
  split at h
  · cases h
    have := behindS_len mk r1
    omega
  · rename_i hm
    have hb : (behindS mk r1).length + 1 ≤ r1.length := by
      unfold behindS
      cases hk : markS mk r1 with
      | none => rw [hk] at hm; exact absurd rfl hm
      | some r' =>
        have := markS_len hk
        have : 1 ≤ mk.length := by cases mk with | nil => exact absurd rfl hmk | cons a b => simp
        show r'.length + 1 ≤ _
        omega
    have := iter_wt (rowStep_nice (kind := kind) (mk := mk) (fits := fits) h1 h2) (fun s => 32 + meaCs s.1 + meaC s.2.1) meaC
      (fun s l s' r hh => by
        unfold rowStep at hh
        split at hh
        · cases hh
        · split at hh
          · cases hh
          · obtain ⟨d, r2, h5, h6⟩ := bind_ok hh
            cases h6
            have := hw _ _ _ h5
            have := skip_len [10] l
            have := behindS_len mk r2
            simp only [meaCs_app, meaCs]
            omega)
      (fun s l b r hh => by
        unfold rowStep at hh
        split at hh
        · cases hh
        · split at hh
          · cases hh
            simp only [meaC, meaN, meaWs, meaCs_app, meaCs]
            omega
          · obtain ⟨d, r2, h5, h6⟩ := bind_ok hh
            cases h6)
      _ ([], c1, true) (behindS mk r1) c r rfl h
    simp only [meaCs] at this
    omega
section
variable {sub : Deeper}
theorem lineS_wt (hg : GoodD sub) (hw : WtD sub) (l : List UInt8) : Wt meaC 0 l (lineS sub l) :=
  rowS_wt (by simp) (pipeS_nice hg) (pipeS_lt hg) (fun l => rowS_wt (by simp) (cmdS_nice hg) (cmdS_lt hg) (cmdS_wt hg hw) l) l
theorem listS_wt (hg : GoodD sub) (hw : WtD sub) (l : List UInt8) : Wt meaCs 0 l (listS sub l) := by
  intro cs r h
  have h0 := skip_len shEnds l
  have := iter_wt (listStep_nice hg) meaCs meaCs
    (fun s l s' r hh => by
      unfold listStep at hh
      split at hh
      · cases hh
      · obtain ⟨d, r2, h5, h6⟩ := bind_ok hh
        have := lineS_wt hg hw _ _ _ h5
        have := skip_len shEnds r2
        split at h6
        · cases h6
        · cases h6
          simp only [meaCs_app, meaCs]
          omega)
    (fun s l b r hh => by
      unfold listStep at hh
      split at hh
      · cases hh; omega
      · obtain ⟨d, r2, h5, h6⟩ := bind_ok hh
        have := lineS_wt hg hw _ _ _ h5
        have := skip_len shEnds r2
        split at h6
        · cases h6
          simp only [meaCs_app, meaCs]
          omega
        · cases h6)
    _ [] (skipS shEnds l) cs r rfl h
  simp only [meaCs] at this
  omega
end
theorem lvl_wt : ∀ k, WtD (lvl k)
  | 0 => fun g h => by cases h
  | k + 1 => fun g h => by
    cases h
    exact ⟨listS_wt (lvl_good k) (lvl_wt k), fun l ws r h => by have := (wordsS_wt (lvl_good k) (lvl_wt k) h).1; omega⟩
/-- What a text's commands weigh. -/
theorem lst_wt {k : Nat} {l r : List UInt8} {cs : List Co} (h : lstS k l = .ok cs r) : meaCs cs ≤ 64 * l.length := by
  have := listS_wt (lvl_good k) (lvl_wt k) l cs r h
  omega
theorem read_ok {l : List UInt8} {cs : List Co} (h : readSh l = (cs, 0)) : lstS 30 l = .ok cs [] ∧ l.length ≤ 1048576 := by
  unfold readSh at h
  split at h
  · cases h
  · have hn := lstS_nice 30 l
    cases hs : lstS 30 l with
    | bad e =>
      rw [hs] at h hn
      injection h with _ h2
      rcases hn with e7 | e9 <;> omega
    | ok v r =>
      rw [hs] at h
      dsimp only at h
      split at h
      · rename_i hr
        cases h
        exact ⟨by rw [hr], by omega⟩
      · cases h
theorem ok_read {l : List UInt8} {cs : List Co} (h : lstS 30 l = .ok cs []) (hl : l.length ≤ 1048576) : readSh l = (cs, 0) := by
  unfold readSh
  rw [if_neg (by omega), h]
  rfl
theorem bad_read {l : List UInt8} {e : Int} (h : lstS 30 l = .bad e) (hl : l.length ≤ 1048576) : readSh l = ([], e) := by
  unfold readSh
  rw [if_neg (by omega), h]
theorem read_wt {l : List UInt8} {cs : List Co} (h : readSh l = (cs, 0)) : meaCs cs ≤ 64 * l.length ∧ cntCs cs ≤ 64 * l.length := by
  have h1 := lst_wt (read_ok h).1
  have h2 := cnt_meaCs cs
  exact ⟨h1, by omega⟩
end Go.Proofs.YtabkmimpkoiajaaDoor
