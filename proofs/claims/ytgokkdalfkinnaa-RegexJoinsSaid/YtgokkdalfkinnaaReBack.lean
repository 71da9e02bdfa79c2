/- A tree's text read again: it is the tree, or its text is too deep. No condition. -/
import Derived.Test.YtgokkdalfkinnaaReClass
import Derived.Test.YtgokkdalfkinnaaReMath
namespace Go.Proofs.Ytgokkdalfkinnaa
open Go.RowKit Go.Lib

theorem cnt_filter (K : Cl) : cntK K = ((List.range 256).filter (has K)).length := by unfold cntK; rw [List.countP_eq_length_filter]
theorem cnt_some {K : Cl} (h : cntK K ≠ 0) : ∃ d, d < 256 ∧ has K d = true := by
  rw [cnt_filter] at h
  cases hf : (List.range 256).filter (has K) with
  | nil => rw [hf] at h; exact absurd rfl h
  | cons d F =>
    have hm : d ∈ (List.range 256).filter (has K) := by rw [hf]; exact List.mem_cons_self
    rw [List.mem_filter, List.mem_range] at hm
    exact ⟨d, hm⟩
theorem cnt_none {K : Cl} (h : cntK K = 0) : ∀ d, d < 256 → has K d = false := fun d hd => by
  rw [cnt_filter] at h
  have hf := List.eq_nil_of_length_eq_zero h
  cases hk : has K d with
  | false => rfl
  | true =>
    have hm : d ∈ (List.range 256).filter (has K) := List.mem_filter.2 ⟨List.mem_range.2 hd, hk⟩
    rw [hf] at hm
    cases hm
theorem cnt_one {K : Cl} (h : cntK K = 1) : ∃ c : UInt8, uptoL K 256 = [c] ∧ ∀ d, d < 256 → has K d = decide (d = c.toNat) := by
  rw [cnt_filter] at h
  cases hf : (List.range 256).filter (has K) with
  | nil => rw [hf] at h; cases h
  | cons c F =>
    cases F with
    | cons _ _ => rw [hf] at h; simp at h
    | nil =>
      have hm : c ∈ (List.range 256).filter (has K) := by rw [hf]; exact List.mem_cons_self
      rw [List.mem_filter, List.mem_range] at hm
      refine ⟨c.toUInt8, by unfold uptoL; rw [hf]; rfl, fun d hd => ?_⟩
      rw [nat_u8 hm.1, Bool.eq_iff_iff, decide_eq_true_eq]
      constructor
      · intro hk
        have hm2 : d ∈ (List.range 256).filter (has K) := List.mem_filter.2 ⟨List.mem_range.2 hd, hk⟩
        rw [hf, List.mem_singleton] at hm2
        exact hm2
      · intro e; rw [e]; exact hm.2
theorem text_single {K : Cl} {c : UInt8} (h : uptoL K 256 = [c]) (hk : ∀ d, d < 256 → has K d = decide (d = c.toNat)) : textL K = 91 :: (plainL c ++ [93]) := by
  have hc := c.toNat_lt
  have hr : runsL K = [(c, c)] := by
    unfold runsL runsP
    rw [h]
    show (runsStep K (0, []) c).2 = _
    have hA : headA K 0 c = c := by
      unfold headA
      by_cases h0 : c = 0
      · rw [if_pos h0]
      · rw [if_neg h0]
        have h1 : 1 ≤ c.toNat := by
          by_cases hz : c.toNat = 0
          · exact absurd (UInt8.toNat_inj.1 hz) h0
          · omega
        rw [hk _ (by omega), if_neg (by simp; omega)]
    have hE : endsB K c = true := by
      unfold endsB
      by_cases h255 : c = 255
      · rw [if_pos h255]
      · rw [if_neg h255]
        have h1 : c.toNat ≠ 255 := fun e => h255 (UInt8.toNat_inj.1 e)
        rw [hk _ (by omega)]
        simp
    unfold runsStep
    dsimp only
    rw [hE, if_pos rfl, hA]
    rfl
  unfold textL
  rw [hr]
  have e : runT (c, c) = plainL c := by
    rw [runT_nn (by omega) (by omega)]
    simp
  show 91 :: (([(c, c)] : List (UInt8 × UInt8)).flatMap runT ++ [93]) = _
  rw [List.flatMap_cons, e]
  simp
theorem told_one (c : UInt8) : toldK (k4 (oneK c.toNat)) = plainL c := by
  have hc := c.toNat_lt
  have hk : ∀ d, d < 256 → has (k4 (oneK c.toNat)).cl d = decide (d = c.toNat) := fun d hd => by rw [has_k4 _ hd, has_one]
  have h1 : cntK (k4 (oneK c.toNat)).cl = 1 := by
    have h := cnt_span c.toNat c.toNat hc
    have e : cntK (k4 (oneK c.toNat)).cl = cntK (oneK c.toNat) := by
      unfold cntK
      exact countP_cong fun d hd => has_k4 _ (List.mem_range.1 hd)
    rw [e]
    unfold oneK
    rw [h]
    omega
  have hp : k4 (oneK c.toNat) ≠ kPoint := fun e => by
    have ha : cntK (k4 (oneK c.toNat)).cl = cntK kPoint.cl := congrArg (fun k => cntK k.cl) e
    rw [h1] at ha
    have : cntK kPoint.cl = 255 := by decide +kernel
    omega
  have h0 : k4 (oneK c.toNat) ≠ k0 := fun e => by
    have ha : cntK (k4 (oneK c.toNat)).cl = cntK k0.cl := congrArg (fun k => cntK k.cl) e
    rw [h1] at ha
    have : cntK k0.cl = 0 := by decide +kernel
    omega
  obtain ⟨c', hu, hk'⟩ := cnt_one h1
  have hcc : c' = c := by
    have h2 := hk c.toNat hc
    rw [hk' c.toNat hc] at h2
    have h3 : c.toNat = c'.toNat := by simpa using h2
    exact UInt8.toNat_inj.1 h3.symm
  subst hcc
  unfold toldK
  rw [if_neg hp, if_neg h0, if_pos h1, text_single hu hk']
  simp
/-- A class's text in a regular expression is read as the class. -/
theorem nothing_read (x : List UInt8) : listD ([91, 94, 92, 120, 48, 48, 45, 92, 120, 102, 102, 93] ++ x) = some (k0, 12) := by
  have hi : itemD ([92, 120, 48, 48, 45, 92, 120, 102, 102, 93] ++ x) = some (0, 255, 9) := rfl
  have hd : ([92, 120, 48, 48, 45, 92, 120, 102, 102, 93] ++ x).drop 9 = 93 :: x := rfl
  have hl := listed_stop (K := zeroK) (pos := 2) hi hd
  have e91 : ([91, 94, 92, 120, 48, 48, 45, 92, 120, 102, 102, 93] ++ x).head? = some 91 := rfl
  have e94 : ([91, 94, 92, 120, 48, 48, 45, 92, 120, 102, 102, 93] ++ x)[1]? = some 94 := rfl
  have ed : ([91, 94, 92, 120, 48, 48, 45, 92, 120, 102, 102, 93] ++ x).drop 2 = [92, 120, 48, 48, 45, 92, 120, 102, 102, 93] ++ x := rfl
  have hr : readD ([91, 94, 92, 120, 48, 48, 45, 92, 120, 102, 102, 93] ++ x) = some (notK (orK (orK zeroK (spanK (0 : Int).toNat (255 : Int).toNat)) (oneK 10)), 12) := by
    unfold readD
    rw [if_pos e91, if_pos e94, ed, hl]
    rfl
  have e : k4 (notK (orK (orK zeroK (spanK (0 : Int).toNat (255 : Int).toNat)) (oneK 10))) = k4 k0.cl := k4_ext fun d hd => by
    rw [has_not, has_or, has_or, has_span]
    have : (decide ((0 : Int).toNat ≤ d) && decide (d ≤ (255 : Int).toNat)) = true := by simp; omega
    rw [this]
    have hz : has k0.cl d = false := cnt_none (by decide +kernel) d hd
    rw [hz]
    simp
  have e2 := e.trans (k4_cl k0)
  unfold listD
  rw [hr]
  show some (k4 _, 12) = some (k0, 12)
  rw [e2]
theorem told_atom (k : K4) (d n : Nat) (x : List UInt8) (hn : n < 2000) : Ev .atom d n (toldK k ++ x) (.ok (.set k) x) ∧ ∃ h t, toldK k = h :: t ∧ strangeL.contains h = false := by
  have lst : ∀ (m : Nat) (l : List UInt8) (h : UInt8) (t : List UInt8), toldK k = l → l = h :: t → h ≠ 40 → h ≠ 46 → h ≠ 94 → h ≠ 36 → m = l.length → listD (l ++ x) = some (k, m) → Ev .atom d n (toldK k ++ x) (.ok (.set k) x) := fun m l h t h0 h1 h40 h46 h94 h36 hm hD => by
    rw [h0]
    have e : x = (l ++ x).drop m := by rw [hm, List.drop_left]
    have hev := Ev.atom_set (d := d) (n := n) (l := l ++ x) (k := k) (m := m) (by rw [h1]; simpa using h40) (by rw [h1]; show leafK h = none; unfold leafK; rw [if_neg h46, if_neg h94, if_neg h36]) hD hn
    rwa [← e] at hev
  by_cases h1 : k = kPoint
  · have e : toldK k = [46] := by unfold toldK; rw [if_pos h1]
    refine ⟨?_, 46, [], e, by decide⟩
    rw [e]
    have hev := Ev.atom_leaf (d := d) (n := n) (c := 46) (l := x) (t := .set kPoint) rfl hn
    rwa [← h1] at hev
  · by_cases h2 : k = k0
    · have e : toldK k = [91, 94, 92, 120, 48, 48, 45, 92, 120, 102, 102, 93] := by unfold toldK; rw [if_neg h1, if_pos h2]
      refine ⟨lst 12 _ 91 _ e rfl (by decide) (by decide) (by decide) (by decide) rfl (by rw [nothing_read, h2]), 91, _, e, by decide⟩
    · by_cases h3 : cntK k.cl = 1
      · obtain ⟨c, hu, hk⟩ := cnt_one h3
        have ek : k = k4 (oneK c.toNat) := by
          have : k4 k.cl = k4 (oneK c.toNat) := k4_ext fun d hd => by rw [hk d hd, has_one]
          rwa [k4_cl] at this
        have e : toldK k = plainL c := by rw [ek]; exact told_one c
        obtain ⟨h, t, hp, hs, h40, h46, h94, h36, _⟩ := plain_head c
        refine ⟨lst _ _ h t e hp h40 h46 h94 h36 rfl (by rw [plain_list, ← ek]), h, t, e.trans hp, hs⟩
      · have e : toldK k = textL k.cl := by unfold toldK; rw [if_neg h1, if_neg h2, if_neg h3]
        have hne : cntK k.cl ≠ 0 := fun h => h2 (by
          have hz := cnt_none h
          have : k4 k.cl = k4 k0.cl := k4_ext fun d hd => by
            have hz0 : has k0.cl d = false := cnt_none (by decide +kernel) d hd
            rw [hz d hd, hz0]
          rwa [k4_cl, k4_cl] at this)
        obtain ⟨K', hr, hs⟩ := text_read k.cl x (cnt_some hne)
        have hD : listD (textL k.cl ++ x) = some (k, (textL k.cl).length) := by
          unfold listD
          rw [hr]
          show some (k4 K', _) = _
          rw [k4_ext hs, k4_cl]
        exact ⟨lst _ _ 91 _ e rfl (by decide) (by decide) (by decide) (by decide) rfl hD, 91, _, e.trans rfl, by decide⟩

/-- A text's first byte is none with which no atom begins. -/
def Beg (l : List UInt8) : Prop := ∃ h t, l = h :: t ∧ strangeL.contains h = false
theorem Beg.app {l : List UInt8} (h : Beg l) (x : List UInt8) : Beg (l ++ x) := by
  obtain ⟨c, t, rfl, hc⟩ := h
  exact ⟨c, t ++ x, rfl, hc⟩
theorem Beg.brk {l : List UInt8} (h : Beg l) (c : Bool) : Beg (brk c l) := by
  unfold Go.Proofs.Ytgokkdalfkinnaa.brk
  cases c
  · exact h
  · exact ⟨40, _, rfl, by decide⟩
theorem Beg.begins {l : List UInt8} (h : Beg l) : begins l = true := by
  obtain ⟨c, t, rfl, hc⟩ := h
  show (!strangeL.contains c) = true
  rw [hc]; rfl
theorem Beg.sign {l : List UInt8} (h : Beg l) : signH l = none := by
  obtain ⟨c, t, rfl, hc⟩ := h
  show signK c = none
  unfold signK
  rw [if_neg (fun e => by rw [e] at hc; revert hc; decide), if_neg (fun e => by rw [e] at hc; revert hc; decide), if_neg (fun e => by rw [e] at hc; revert hc; decide)]
theorem txt_beg : ∀ t : Tr, Beg t.txt
  | .leaf j => by
    show Beg (leafL j)
    unfold leafL
    split
    · exact ⟨94, [], rfl, by decide⟩
    · split
      · exact ⟨36, [], rfl, by decide⟩
      · exact ⟨40, [41], rfl, by decide⟩
  | .set k => (told_atom k 0 0 [] (by omega)).2
  | .rep j a => ((txt_beg a).brk _).app _
  | .two j a b => by
    show Beg (if j = 2 then _ else _)
    split
    · exact ((txt_beg a).brk _).app _
    · exact (txt_beg a).app _

/-- A job comes to r, or the text is too deep. -/
def Bk (J : Job) (d n : Nat) (l : List UInt8) (r : Res) : Prop := Ev J d n l r ∨ Ev J d n l (.bad 7)
/-- Nothing goes on behind. -/
def Stop (x : List UInt8) : Prop := begins x = false ∧ signH x = none
def BAll (t : Tr) : Prop := ∀ d n x r, d ≤ 30 → Stop x → n + t.size ≤ 2000 → Ev (.allL t) d n x r → Bk .all d n (t.txt ++ x) r
def BCat (t : Tr) (l : List UInt8) : Prop := ∀ d n x r, d ≤ 30 → signH x = none → n + t.size ≤ 2000 → Ev (.catL t) d n x r → Bk .cat d n (l ++ x) r
def BPiece (t : Tr) (l : List UInt8) : Prop := ∀ d n x r, d ≤ 30 → n + t.size ≤ 2000 → Ev (.pieceL t) d n x r → Bk .piece d n (l ++ x) r

theorem piece_cat {t : Tr} {l : List UInt8} (hb : Beg l) (h : BPiece t l) : BCat t l := fun d n x r hd hx hn hev => by
  rcases h d n x (.ok t x) hd hn (.pieceL_end hx) with h | h
  · exact .inl (.cat_ok (hb.app x).begins h hev)
  · exact .inr (.cat_bad (hb.app x).begins h)
theorem cat_all {t : Tr} (h : BCat t t.txt) : BAll t := fun d n x r hd hx hn hev => by
  rcases h d n x (.ok t x) hd hx.2 hn (.catL_end hx.1) with h | h
  · exact .inl (.all_ok h hev)
  · exact .inr (.all_bad h)
theorem stop41 (x : List UInt8) : Stop (41 :: x) := ⟨rfl, rfl⟩
theorem brk_piece {t : Tr} (h : BAll t) : BPiece t (brk true t.txt) := fun d n x r hd hn hev => by
  have e : brk true t.txt ++ x = 40 :: (t.txt ++ (41 :: x)) := by unfold brk; simp
  rw [e]
  by_cases h30 : d = 30
  · exact .inr (.piece_bad (.atom_deep h30))
  · rcases h (d + 1) n (41 :: x) (.ok t (41 :: x)) (by omega) (stop41 x) hn (.allL_end (by simp)) with h | h
    · exact .inl (.piece_ok (.atom_ok (by omega) h) hev)
    · exact .inr (.piece_bad (.atom_in (by omega) h))
/-- A kid's text. -/
theorem kid_piece {t : Tr} {c : Bool} (h1 : BAll t) (h2 : c = false → BPiece t t.txt) : BPiece t (brk c t.txt) := by
  cases c with
  | true => exact brk_piece h1
  | false => exact h2 rfl
theorem kid_cat {t : Tr} {c : Bool} (h1 : BAll t) (h2 : c = false → BCat t t.txt) : BCat t (brk c t.txt) := by
  cases c with
  | true => exact piece_cat ((txt_beg t).brk true) (brk_piece h1)
  | false => exact h2 rfl
theorem sign_back (j : Nat) (h : j = 4 ∨ j = 5 ∨ j = 6) : signK (signL j) = some j := by rcases h with rfl | rfl | rfl <;> rfl
theorem or32 {k : Nat} (h : (k == 3 || k == 2) = false) : k ≠ 3 ∧ k ≠ 2 := by simpa using h
theorem eq3 {k : Nat} (h : (k == 3) = false) : k ≠ 3 := by simpa using h
theorem back_all : ∀ t : Tr, t.ok → BAll t ∧ (t.kind ≠ 3 → BCat t t.txt) ∧ (t.kind ≠ 3 → t.kind ≠ 2 → BPiece t t.txt)
  | .leaf j, hok => by
    have hp : BPiece (.leaf j) (Tr.leaf j).txt := fun d n x r hd hn hev => by
      have hn : n + 1 ≤ 2000 := hn
      rcases hok with rfl | rfl | rfl
      · show Bk .piece d n (40 :: 41 :: x) r
        by_cases h30 : d = 30
        · exact .inr (.piece_bad (.atom_deep h30))
        · exact .inl (.piece_ok (.atom_ok (by omega) (.all_ok (.cat_none rfl (by omega)) (.allL_end (by simp)))) hev)
      · exact .inl (.piece_ok (.atom_leaf rfl (by omega)) hev)
      · exact .inl (.piece_ok (.atom_leaf rfl (by omega)) hev)
    have hc := piece_cat (txt_beg _) hp
    exact ⟨cat_all hc, fun _ => hc, fun _ _ => hp⟩
  | .set k, _ => by
    have hp : BPiece (.set k) (Tr.set k).txt := fun d n x r hd hn hev => by
      have hn : n + 1 ≤ 2000 := hn
      exact .inl (.piece_ok (told_atom k d n x (by omega)).1 hev)
    have hc := piece_cat (txt_beg _) hp
    exact ⟨cat_all hc, fun _ => hc, fun _ _ => hp⟩
  | .rep j a, hok => by
    obtain ⟨ha1, ha2, ha3⟩ := back_all a hok.2
    have hp : BPiece (.rep j a) (Tr.rep j a).txt := fun d n x r hd hn hev => by
      have hn : n + (a.size + 1) ≤ 2000 := hn
      have hk := kid_piece (t := a) (c := a.kind == 3 || a.kind == 2) ha1 (fun h => ha3 (or32 h).1 (or32 h).2)
      have h := hk d n (signL j :: x) r hd (by omega) (.pieceL_more (sign_back j hok.1) (by omega) hev)
      show Bk .piece d n ((brk (a.kind == 3 || a.kind == 2) a.txt ++ [signL j]) ++ x) r
      rwa [List.append_assoc]
    have hc := piece_cat (txt_beg _) hp
    exact ⟨cat_all hc, fun _ => hc, fun _ _ => hp⟩
  | .two j a b, hok => by
    obtain ⟨ha1, ha2, ha3⟩ := back_all a hok.2.1
    obtain ⟨hb1, hb2, hb3⟩ := back_all b hok.2.2
    rcases hok.1 with rfl | rfl
    · have hc : BCat (.two 2 a b) (Tr.two 2 a b).txt := fun d n x r hd hx hn hev => by
        have hn : n + (a.size + b.size + 1) ≤ 2000 := hn
        have hka := kid_cat (t := a) (c := a.kind == 3) ha1 (fun h => ha2 (eq3 h))
        have hkb := kid_piece (t := b) (c := b.kind == 3 || b.kind == 2) hb1 (fun h => hb3 (or32 h).1 (or32 h).2)
        have hbeg : Beg (brk (b.kind == 3 || b.kind == 2) b.txt ++ x) := ((txt_beg b).brk _).app x
        show Bk .cat d n ((brk (a.kind == 3) a.txt ++ brk (b.kind == 3 || b.kind == 2) b.txt) ++ x) r
        rw [List.append_assoc]
        rcases hkb d (n + a.size) x (.ok b x) hd (by omega) (.pieceL_end hx) with h | h
        · exact hka d n _ r hd hbeg.sign (by omega) (.catL_more hbeg.begins h (by omega) hev)
        · rcases hka d n _ (.bad 7) hd hbeg.sign (by omega) (.catL_bad hbeg.begins h) with h | h
          · exact .inr h
          · exact .inr h
      exact ⟨cat_all hc, fun _ => hc, fun _ h => absurd rfl h⟩
    · refine ⟨fun d n x r hd hx hn hev => ?_, fun h => absurd rfl h, fun h => absurd rfl h⟩
      have hn : n + (a.size + b.size + 1) ≤ 2000 := hn
      have hkb := kid_cat (t := b) (c := b.kind == 3) hb1 (fun h => hb2 (eq3 h))
      show Bk .all d n ((a.txt ++ 124 :: brk (b.kind == 3) b.txt) ++ x) r
      rw [List.append_assoc, List.cons_append]
      have hst : Stop (124 :: (brk (b.kind == 3) b.txt ++ x)) := ⟨rfl, rfl⟩
      rcases hkb d (n + a.size) x (.ok b x) hd hx.2 (by omega) (.catL_end hx.1) with h | h
      · exact ha1 d n _ r hd hst (by omega) (.allL_more h (by omega) hev)
      · rcases ha1 d n _ (.bad 7) hd hst (by omega) (.allL_bad h) with h | h
        · exact .inr h
        · exact .inr h
/-- A right tree's text is read as the tree, or is too deep. -/
theorem back_reads (t : Tr) (hok : t.ok) (hn : t.size ≤ 2000) : Reads t.txt (.ok t []) ∨ Reads t.txt (.bad 7) := by
  have h := (back_all t hok).1 0 0 [] (.ok t []) (by omega) ⟨rfl, rfl⟩ (by omega) (.allL_end (by simp))
  rw [List.append_nil] at h
  rcases h with h | h
  · exact .inl (.ok h)
  · exact .inr (.bad h)
end Go.Proofs.Ytgokkdalfkinnaa
