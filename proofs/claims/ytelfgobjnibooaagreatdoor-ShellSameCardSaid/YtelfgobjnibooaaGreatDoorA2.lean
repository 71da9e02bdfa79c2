/- Packed texts: ShMea, RfSpec. What each of them proves stands above its theorems; the conditions stand in these. -/
import Derived.Test.YtelfgobjnibooaaGreatDoorA0
import Derived.Test.YtelfgobjnibooaaGreatDoorA1
namespace Go.Proofs.YtelfgobjnibooaaGreatDoor
open Go.RowKit Go.Lib
def meaN : List (List UInt8) → Nat
 | [] => 0
 | n :: r => 8 + 4 * n.length + meaN r
mutual
def meaC : Co → Nat
 | .mk _ n v w a b c => 32 + meaN n + meaCs a + meaCs b + meaCs c + meaWs v + meaWs w
def meaCs : List Co → Nat
 | [] => 0
 | c :: r => meaC c + meaCs r
def meaP : PtX Co → Nat
 | ⟨_, _, s, t, l⟩ => 16 + 4 * s.length + 4 * t.length + meaCs l
def meaPs : List (PtX Co) → Nat
 | [] => 0
 | p :: r => meaP p + meaPs r
def meaWs : List (List (PtX Co)) → Nat
 | [] => 0
 | w :: r => 8 + meaPs w + meaWs r
end
theorem meaCs_app (a b : List Co) : meaCs (a ++ b) = meaCs a + meaCs b := by
 induction a with
 | nil => simp [meaCs]
 | cons c r ih => simp only [List.cons_append, meaCs, ih]; omega
theorem meaWs_app (a b : List (List Pt)) : meaWs (a ++ b) = meaWs a + meaWs b := by
 induction a with
 | nil => simp [meaWs]
 | cons c r ih => simp only [List.cons_append, meaWs, ih]; omega
theorem meaPs_app (a b : List Pt) : meaPs (a ++ b) = meaPs a + meaPs b := by
 induction a with
 | nil => simp [meaPs]
 | cons c r ih => simp only [List.cons_append, meaPs, ih]; omega
theorem meaN_app (a b : List (List UInt8)) : meaN (a ++ b) = meaN a + meaN b := by
 induction a with
 | nil => simp [meaN]
 | cons c r ih => simp only [List.cons_append, meaN, ih]; omega
mutual
theorem cnt_meaC : ∀ c, cntC c ≤ meaC c
 | .mk _ n v w a b c => by
  have h1 := cnt_meaCs a
  have h2 := cnt_meaCs b
  have h3 := cnt_meaCs c
  have h4 := cnt_meaWs v
  have h5 := cnt_meaWs w
  simp only [cntC, meaC]
  omega
theorem cnt_meaCs : ∀ l, cntCs l ≤ meaCs l
 | [] => by simp [cntCs]
 | c :: r => by
  have h1 := cnt_meaC c
  have h2 := cnt_meaCs r
  simp only [cntCs, meaCs]
  omega
theorem cnt_meaP : ∀ p, cntP p ≤ meaP p
 | ⟨_, _, _, _, l⟩ => by
  have h1 := cnt_meaCs l
  simp only [cntP, meaP]
  omega
theorem cnt_meaPs : ∀ l, cntPs l ≤ meaPs l
 | [] => by simp [cntPs]
 | p :: r => by
  have h1 := cnt_meaP p
  have h2 := cnt_meaPs r
  simp only [cntPs, meaPs]
  omega
theorem cnt_meaWs : ∀ l, cntWs l ≤ meaWs l
 | [] => by simp [cntWs]
 | p :: r => by
  have h1 := cnt_meaPs p
  have h2 := cnt_meaWs r
  simp only [cntWs, meaWs]
  omega
end
def Wt {α : Type} (m : α → Nat) (k : Nat) (l : List UInt8) (R : Rr α) : Prop := ∀ v r, R = .ok v r → m v + k + 64 * r.length ≤ 64 * l.length
theorem iter_wt {σ β : Type} {step : σ → List UInt8 → Rr (It σ β)} (hs : ∀ s l, NiceI l (step s l)) (ms : σ → Nat) (mb : β → Nat) (hgo : ∀ s l s' r, step s l = .ok (.go s') r → ms s' + 64 * r.length ≤ ms s + 64 * l.length) (hst : ∀ s l b r, step s l = .ok (.stop b) r → mb b + 64 * r.length ≤ ms s + 64 * l.length) :
  ∀ (m : Nat) (s : σ) (l : List UInt8) (b : β) (r : List UInt8), l.length = m → iterS step s l = .ok b r → mb b + 64 * r.length ≤ ms s + 64 * l.length := by
 intro m
 induction m using Nat.strongRecOn with
 | ind m ih =>
  intro s l b r hm h
  have h1 := hs s l
  rw [iterS_eq hs] at h
  cases hst' : step s l with
  | bad e => rw [hst'] at h; cases h
  | ok o r1 =>
   rw [hst'] at h h1
   cases o with
   | stop b' =>
    cases h
    exact hst _ _ _ _ hst'
   | go s' =>
    dsimp only at h
    have h3 : r1.length < l.length := h1
    have h4 := hgo _ _ _ _ hst'
    have h5 := ih r1.length (by omega) s' r1 b r rfl h
    omega
theorem needS_len {t l r : List UInt8} {u : Unit} (h : needS t l = .ok u r) : l.length = t.length + r.length := by
 unfold needS at h
 cases hk : takeS t l with
 | none => rw [hk] at h; cases h
 | some r' => rw [hk] at h; cases h; exact takeS_len hk
theorem nameR_lenW {l n r : List UInt8} (h : nameR l = .ok n r) : n.length + r.length = l.length ∧ 1 ≤ n.length := by
 unfold nameR at h
 split at h
 ·cases h
 ·rename_i hn
  cases h
  have h1 : (nameS l).length ≤ l.length := by
   cases l with
   | nil => exact Nat.le_refl _
   | cons a r =>
    show (if isLet a then a :: r.takeWhile restOk else []).length ≤ _
    split
    ·simp only [List.length_cons]
     have := (List.takeWhile_sublist restOk (l := r)).length_le
     omega
    ·exact Nat.zero_le _
  refine ⟨by rw [List.length_drop]; omega, ?_⟩
  cases hh : nameS l with
  | nil => exact absurd hh hn
  | cons a b => simp
theorem singleS_lenW {l s r : List UInt8} (h : singleS l = .ok s r) : s.length + 1 + r.length = l.length := by
 unfold singleS at h
 obtain ⟨u, r1, h1, h2⟩ := bind_ok h
 cases h2
 have h3 := needS_len h1
 have h4 := run_past_len [39] l
 simp only [List.length_cons, List.length_nil] at h3
 omega
theorem withT_len {q : Bool} {k : Nat} {n l r : List UInt8} {p : Pt} (h : withT q k n l = .ok p r) : meaP p + 64 * r.length ≤ 16 + 4 * n.length + 64 * l.length := by
 unfold withT at h
 obtain ⟨u, r1, h1, h2⟩ := bind_ok h
 cases h2
 have h3 := needS_len h1
 have h4 := run_past_len shBarred l
 simp only [List.length_cons, List.length_nil] at h3
 simp only [meaP, meaCs]
 omega
theorem bracedS_len {q : Bool} {l r : List UInt8} {p : Pt} (h : bracedS q l = .ok p r) : meaP p + 64 * r.length ≤ 64 * l.length := by
 unfold bracedS at h
 obtain ⟨n, l1, h1, h⟩ := bind_ok h
 obtain ⟨h2, h3⟩ := nameR_lenW h1
 split at h
 ·rename_i r1 h4
  have := takeS_len h4
  cases h
  simp only [meaP, meaCs, List.length_nil]
  omega
 ·split at h
  ·rename_i r1 h4
   have := takeS_len h4
   have := withT_len h
   omega
  ·split at h
   ·rename_i r1 h4
    have := takeS_len h4
    have := withT_len h
    omega
   ·split at h
    ·rename_i r1 h4
     have := takeS_len h4
     have := withT_len h
     omega
    ·cases h
def WtG (g : Dn) : Prop := (∀ l, Wt meaCs 0 l (g.lst l)) ∧ ∀ l, Wt meaWs 0 l (g.wds l)
def WtD (sub : Deeper) : Prop := ∀ g, sub = some g → WtG g
section
variable {sub : Deeper}
theorem subS_wt (hw : WtD sub) (l : List UInt8) : Wt meaCs 0 l (subS sub l) := by
 cases sub with
 | none => intro v r h; cases h
 | some g => exact (hw g rfl).1 l
theorem reckS_lenW {l s r : List UInt8} (h : reckS l = .ok s r) : s.length + 2 + r.length = l.length := by
 unfold reckS at h
 cases hr : recS 0 l with
 | none => rw [hr] at h; cases h
 | some p =>
  obtain ⟨a, b⟩ := p
  rw [hr] at h
  obtain ⟨u, r1, h1, h2⟩ := bind_ok h
  cases h2
  have h3 := needS_len h1
  have h4 := recS_len l 0 s b hr
  rw [h4, List.length_append]
  simp only [List.length_cons, List.length_nil] at h3
  omega
theorem partS_wt (hw : WtD sub) (q : Bool) (l : List UInt8) : Wt meaP 0 l (partS sub q l) := by
 intro p r h
 unfold partS at h
 cases h1 : takeS [40, 40] l with
 | some r1 =>
  rw [h1] at h
  obtain ⟨s, r2, h2, h3⟩ := bind_ok h
  cases h3
  have := takeS_len h1
  have := reckS_lenW h2
  simp only [meaP, meaCs, List.length_nil, List.length_cons] at *
  omega
 | none =>
  rw [h1] at h
  cases h2 : takeS [40] l with
  | some r1 =>
   rw [h2] at h
   obtain ⟨cs, r2, h3, h4⟩ := bind_ok h
   obtain ⟨u, r3, h5, h6⟩ := bind_ok h4
   cases h6
   have := takeS_len h2
   have := subS_wt hw r1 cs r2 h3
   have := needS_len h5
   simp only [meaP, List.length_nil, List.length_cons] at *
   omega
  | none =>
   rw [h2] at h
   cases h3 : takeS [123, 35] l with
   | some r1 =>
    rw [h3] at h
    obtain ⟨n, r2, h4, h5⟩ := bind_ok h
    obtain ⟨u, r3, h6, h7⟩ := bind_ok h5
    cases h7
    have := takeS_len h3
    have := nameR_lenW h4
    have := needS_len h6
    simp only [meaP, meaCs, List.length_nil, List.length_cons] at *
    omega
   | none =>
    rw [h3] at h
    cases h4 : takeS [123] l with
    | some r1 =>
     rw [h4] at h
     have := takeS_len h4
     have := bracedS_len h
     omega
    | none =>
     rw [h4] at h
     obtain ⟨n, r2, h5, h6⟩ := bind_ok h
     cases h6
     have := nameR_lenW h5
     simp only [meaP, meaCs, List.length_nil] at *
     omega
theorem shut_lit (st : Sp) (s : List UInt8) (q : Bool) : meaPs (st.lit s q).shut ≤ meaPs st.shut + 16 + 4 * s.length := by
 unfold Sp.lit
 cases h : st.cur with
 | none =>
  simp only [Sp.shut, h, meaPs_app, meaPs, litP, meaP, meaCs, List.length_nil]
  omega
 | some p =>
  obtain ⟨q', t⟩ := p
  dsimp only
  split
  ·simp only [Sp.shut, h, meaPs_app, meaPs, litP, meaP, meaCs, List.length_nil, List.length_append]
   omega
  ·simp only [Sp.shut, h, meaPs_app, meaPs, litP, meaP, meaCs, List.length_nil]
   omega
theorem shut_add (st : Sp) (p : Pt) : meaPs (st.add p).shut = meaPs st.shut + meaP p := by
 unfold Sp.add
 simp only [Sp.shut, meaPs_app, meaPs]
 omega
theorem dblStep_go (hw : WtD sub) (st st' : Sp) (l r : List UInt8) (h : dblStep sub st l = .ok (.go st') r) : meaPs st'.shut + 64 * r.length ≤ meaPs st.shut + 64 * l.length := by
 unfold dblStep at h
 cases h1 : takeS [34] l with
 | some r1 => rw [h1] at h; cases h
 | none =>
  rw [h1] at h
  cases h2 : takeS [36] l with
  | some r1 =>
   rw [h2] at h
   obtain ⟨p, r2, h3, h4⟩ := bind_ok h
   cases h4
   have := takeS_len h2
   have := partS_wt hw true r1 p r h3
   rw [shut_add]
   omega
  | none =>
   rw [h2] at h
   cases h3 : takeS [92] l with
   | some r1 =>
    rw [h3] at h
    dsimp only at h
    split at h
    ·cases h
     have := takeS_len h3
     have := shut_lit st (r1.take 1) true
     rw [List.length_take] at this
     rw [List.length_drop]
     simp only [List.length_cons, List.length_nil] at *
     omega
    ·cases h
   | none =>
    rw [h3] at h
    dsimp only at h
    split at h
    ·cases h
    ·rename_i hn
     cases h
     have := shut_lit st (runS shBound l) true
     have := run_past_len shBound l
     have h4 : 1 ≤ (runS shBound l).length := by
      cases hh : runS shBound l with
      | nil => exact absurd hh hn
      | cons a b => simp
     omega
theorem dblStep_stop (st b : Sp) (l r : List UInt8) (h : dblStep sub st l = .ok (.stop b) r) : meaPs b.shut + 64 * r.length ≤ meaPs st.shut + 64 * l.length := by
 unfold dblStep at h
 cases h1 : takeS [34] l with
 | some r1 =>
  rw [h1] at h
  cases h
  have := takeS_len h1
  omega
 | none =>
  rw [h1] at h
  cases h2 : takeS [36] l with
  | some r1 =>
   rw [h2] at h
   obtain ⟨p, r2, h3, h4⟩ := bind_ok h
   cases h4
  | none =>
   rw [h2] at h
   cases h3 : takeS [92] l with
   | some r1 =>
    rw [h3] at h
    dsimp only at h
    split at h <;> cases h
   | none =>
    rw [h3] at h
    dsimp only at h
    split at h <;> cases h
theorem dblS_wt (hg : GoodD sub) (hw : WtD sub) (st st' : Sp) (l r : List UInt8) (h : dblS sub st l = .ok st' r) : meaPs st'.shut + 64 * r.length ≤ meaPs st.shut + 16 + 64 * l.length := by
 unfold dblS at h
 cases h1 : takeS [34] l with
 | some r1 =>
  rw [h1] at h
  cases h
  have := takeS_len h1
  have := shut_lit st [] true
  simp only [List.length_nil] at this
  omega
 | none =>
  rw [h1] at h
  have := iter_wt (dblStep_nice hg) (fun s => meaPs s.shut) (fun s => meaPs s.shut) (fun s l s' r => dblStep_go hw s s' l r) (fun s l b r => dblStep_stop s b l r) _ st l st' r rfl h
  omega
theorem wordStep_go (hg : GoodD sub) (hw : WtD sub) (st st' : Sp) (l r : List UInt8) (h : wordStep sub st l = .ok (.go st') r) : meaPs st'.shut + 44 + 64 * r.length ≤ meaPs st.shut + 64 * l.length := by
 unfold wordStep at h
 cases h1 : takeS [39] l with
 | some r1 =>
  rw [h1] at h
  obtain ⟨s, r2, h2, h3⟩ := bind_ok h
  cases h3
  have := takeS_len h1
  have := singleS_lenW h2
  have := shut_lit st s true
  simp only [List.length_cons, List.length_nil] at *
  omega
 | none =>
  rw [h1] at h
  cases h2 : takeS [92] l with
  | some r1 =>
   rw [h2] at h
   dsimp only at h
   split at h
   ·cases h
   ·cases h
    have := takeS_len h2
    have := shut_lit st (r1.take 1) true
    rw [List.length_take] at this
    rw [List.length_drop]
    simp only [List.length_cons, List.length_nil] at *
    omega
  | none =>
   rw [h2] at h
   cases h3 : takeS [34] l with
   | some r1 =>
    rw [h3] at h
    obtain ⟨s, r2, h4, h5⟩ := bind_ok h
    cases h5
    have := takeS_len h3
    have := dblS_wt hg hw st st' r1 r h4
    simp only [List.length_cons, List.length_nil] at *
    omega
   | none =>
    rw [h3] at h
    cases h4 : takeS [36] l with
    | some r1 =>
     rw [h4] at h
     obtain ⟨p, r2, h5, h6⟩ := bind_ok h
     cases h6
     have := takeS_len h4
     have := partS_wt hw false r1 p r h5
     rw [shut_add]
     simp only [List.length_cons, List.length_nil] at *
     omega
    | none =>
     rw [h4] at h
     dsimp only at h
     split at h
     ·cases h
     ·rename_i hn
      cases h
      have := shut_lit st (runS shMarks l) false
      have := run_past_len shMarks l
      have h5 : 1 ≤ (runS shMarks l).length := by
       have := run_cons (of := shMarks) (l := l) (fun e => hn (.inl e)) (by
        cases ha : atS shMarks l
        ·rfl
        ·exact absurd (.inr ha) hn)
       cases hh : runS shMarks l with
       | nil => exact absurd hh this
       | cons a b => simp
      omega
theorem wordStep_stop (st : Sp) (b : List Pt) (l r : List UInt8) (h : wordStep sub st l = .ok (.stop b) r) : b = st.shut ∧ r = l := by
 unfold wordStep at h
 cases h1 : takeS [39] l with
 | some r1 => rw [h1] at h; obtain ⟨s, r2, h2, h3⟩ := bind_ok h; cases h3
 | none =>
  rw [h1] at h
  cases h2 : takeS [92] l with
  | some r1 =>
   rw [h2] at h
   dsimp only at h
   split at h <;> cases h
  | none =>
   rw [h2] at h
   cases h3 : takeS [34] l with
   | some r1 => rw [h3] at h; obtain ⟨s, r2, h4, h5⟩ := bind_ok h; cases h5
   | none =>
    rw [h3] at h
    cases h4 : takeS [36] l with
    | some r1 => rw [h4] at h; obtain ⟨p, r2, h5, h6⟩ := bind_ok h; cases h6
    | none =>
     rw [h4] at h
     dsimp only at h
     split at h
     ·cases h; exact ⟨rfl, rfl⟩
     ·cases h
theorem wordS_wt (hg : GoodD sub) (hw : WtD sub) {l r : List UInt8} {ps : List Pt} (h : wordS sub l = .ok ps r) : meaPs ps + 64 * r.length ≤ 64 * l.length ∧ (ps ≠ [] → meaPs ps + 44 + 64 * r.length ≤ 64 * l.length) := by
 unfold wordS at h
 have hn := wordStep_nice hg ⟨[], none⟩ l
 rw [iterS_eq (wordStep_nice hg)] at h
 have e0 : meaPs (Sp.shut ⟨[], none⟩) = 0 := rfl
 cases hs : wordStep sub ⟨[], none⟩ l with
 | bad e => rw [hs] at h; cases h
 | ok x r1 =>
  rw [hs] at h
  cases x with
  | stop b =>
   obtain ⟨rfl, rfl⟩ := wordStep_stop _ _ _ _ hs
   cases h
   exact ⟨by rw [e0]; omega, fun e => absurd rfl e⟩
  | go st' =>
   dsimp only at h
   have h1 := wordStep_go hg hw _ _ _ _ hs
   rw [e0] at h1
   have h2 := iter_wt (wordStep_nice hg) (fun s => meaPs s.shut) (fun b => meaPs b) (fun s l s' r hh => by have := wordStep_go hg hw s s' l r hh; omega) (fun s l b r hh => by obtain ⟨rfl, rfl⟩ := wordStep_stop _ _ _ _ hh; exact Nat.le_refl _) _ st' r1 ps r rfl h
   exact ⟨by omega, fun _ => by omega⟩
theorem gap_wt (l : List UInt8) : 64 * (gapS l).length ≤ 64 * l.length := Nat.mul_le_mul_left _ (gapS_len l)
theorem wordsStep_go (hg : GoodD sub) (hw : WtD sub) (ws ws' : List (List Pt)) (l r : List UInt8) (h : wordsStep sub ws l = .ok (.go ws') r) : meaWs ws' + 36 + 64 * r.length ≤ meaWs ws + 64 * l.length := by
 unfold wordsStep at h
 obtain ⟨ps, r1, h1, h2⟩ := bind_ok h
 split at h2
 ·cases h2
 ·rename_i hp
  cases h2
  have := (wordS_wt hg hw h1).2 hp
  have := gap_wt l
  simp only [meaWs_app, meaWs]
  omega
theorem wordsStep_stop (hg : GoodD sub) (hw : WtD sub) (ws b : List (List Pt)) (l r : List UInt8) (h : wordsStep sub ws l = .ok (.stop b) r) : b = ws ∧ 64 * r.length ≤ 64 * l.length := by
 unfold wordsStep at h
 obtain ⟨ps, r1, h1, h2⟩ := bind_ok h
 split at h2
 ·cases h2
  have := (wordS_wt hg hw h1).1
  have := gap_wt l
  exact ⟨rfl, by omega⟩
 ·cases h2
theorem wordsS_wt (hg : GoodD sub) (hw : WtD sub) {l r : List UInt8} {ws : List (List Pt)} (h : wordsS sub l = .ok ws r) : meaWs ws + 64 * r.length ≤ 64 * l.length ∧ (ws ≠ [] → meaWs ws + 32 + 64 * r.length ≤ 64 * l.length) := by
 unfold wordsS at h
 rw [iterS_eq (wordsStep_nice hg)] at h
 cases hs : wordsStep sub [] l with
 | bad e => rw [hs] at h; cases h
 | ok x r1 =>
  rw [hs] at h
  cases x with
  | stop b =>
   obtain ⟨rfl, h1⟩ := wordsStep_stop hg hw _ _ _ _ hs
   cases h
   exact ⟨by simp only [meaWs]; omega, fun e => absurd rfl e⟩
  | go st' =>
   dsimp only at h
   have h1 := wordsStep_go hg hw _ _ _ _ hs
   simp only [meaWs] at h1
   have h2 := iter_wt (wordsStep_nice hg) meaWs meaWs (fun s l s' r hh => by have := wordsStep_go hg hw s s' l r hh; omega) (fun s l b r hh => by obtain ⟨rfl, h3⟩ := wordsStep_stop hg hw _ _ _ _ hh; omega) _ st' r1 ws r rfl h
   exact ⟨by omega, fun _ => by omega⟩
def meaS (s : List (List UInt8) × List (List Pt)) : Nat := meaN s.1 + meaWs s.2
theorem asgStep_go (hg : GoodD sub) (hw : WtD sub) (s s' : List (List UInt8) × List (List Pt)) (l r : List UInt8) (h : asgStep sub s l = .ok (.go s') r) : meaS s' + 32 + 64 * r.length ≤ meaS s + 64 * l.length := by
 unfold asgStep at h
 cases ha : assignS l with
 | none => rw [ha] at h; cases h
 | some p =>
  obtain ⟨n, r1⟩ := p
  rw [ha] at h
  obtain ⟨ps, r2, h1, h2⟩ := bind_ok h
  cases h2
  have h3 := (wordS_wt hg hw h1).1
  have h4 := gap_wt r2
  have h5 : n.length + 1 + r1.length ≤ l.length ∧ 1 ≤ n.length := by
   unfold assignS at ha
   split at ha
   ·cases ha
   ·rename_i hn
    cases ht : takeS [61] (l.drop (nameS l).length) with
    | none => rw [ht] at ha; cases ha
    | some r' =>
     rw [ht] at ha
     cases ha
     have := takeS_len ht
     rw [List.length_drop] at this
     simp only [List.length_cons, List.length_nil] at this
     refine ⟨by omega, ?_⟩
     cases hh : nameS l with
     | nil => exact absurd hh hn
     | cons a b => simp
  unfold meaS
  simp only [meaN_app, meaN, meaWs_app, meaWs]
  omega
theorem asgStep_stop (s b : List (List UInt8) × List (List Pt)) (l r : List UInt8) (h : asgStep sub s l = .ok (.stop b) r) : b = s ∧ r = l := by
 unfold asgStep at h
 cases ha : assignS l with
 | none => rw [ha] at h; cases h; exact ⟨rfl, rfl⟩
 | some p => rw [ha] at h; obtain ⟨ps, r2, h1, h2⟩ := bind_ok h; cases h2
theorem asg_wt (hg : GoodD sub) (hw : WtD sub) {l r : List UInt8} {s : List (List UInt8) × List (List Pt)} (h : iterS (asgStep sub) ([], []) l = .ok s r) : meaS s + 64 * r.length ≤ 64 * l.length ∧ (s.1 ≠ [] → meaS s + 32 + 64 * r.length ≤ 64 * l.length) := by
 rw [iterS_eq (asgStep_nice hg)] at h
 have e0 : meaS ([], []) = 0 := rfl
 cases hs : asgStep sub ([], []) l with
 | bad e => rw [hs] at h; cases h
 | ok x r1 =>
  rw [hs] at h
  cases x with
  | stop b =>
   obtain ⟨rfl, rfl⟩ := asgStep_stop _ _ _ _ hs
   cases h
   exact ⟨by rw [e0]; omega, fun e => absurd rfl e⟩
  | go st' =>
   dsimp only at h
   have h1 := asgStep_go hg hw _ _ _ _ hs
   rw [e0] at h1
   have h2 := iter_wt (asgStep_nice hg) meaS meaS (fun s l s' r hh => by have := asgStep_go hg hw s s' l r hh; omega) (fun s l b r hh => by obtain ⟨rfl, rfl⟩ := asgStep_stop _ _ _ _ hh; exact Nat.le_refl _) _ st' r1 s r rfl h
   exact ⟨by omega, fun _ => by omega⟩
theorem simpleS_wt (hg : GoodD sub) (hw : WtD sub) (l : List UInt8) : Wt meaC 0 l (simpleS sub l) := by
 intro c r h
 unfold simpleS at h
 obtain ⟨s, r1, h1, h⟩ := bind_ok h
 split at h
 ·cases h
 ·obtain ⟨ws, r2, h2, h⟩ := bind_ok h
  split at h
  ·cases h
  ·rename_i hne
   cases h
   obtain ⟨a1, a2⟩ := asg_wt hg hw h1
   obtain ⟨b1, b2⟩ := wordsS_wt hg hw h2
   unfold meaS at a1 a2
   simp only [meaC, meaCs]
   by_cases hs : s.1 = []
   ·have := b2 (fun e => hne ⟨hs, e⟩); omega
   ·have := a2 hs; omega
theorem linesS_wt {g : Dn} (hw : WtG g) (l : List UInt8) : Wt meaCs 0 l (linesS g l) := by
 intro cs r h
 unfold linesS at h
 obtain ⟨v, r1, h1, h⟩ := bind_ok h
 split at h
 ·cases h
 ·cases h; exact hw.1 l _ _ h1
theorem needKey_lenW {k l r : List UInt8} {u : Unit} (h : needKey k l = .ok u r) : r.length ≤ l.length := by
 have := needKey_nice k l
 rw [h] at this
 exact this
theorem bodyS_wt {g : Dn} (hw : WtG g) (l : List UInt8) : Wt meaCs 0 l (bodyS g l) := by
 intro cs r h
 unfold bodyS at h
 obtain ⟨u, r1, h1, h⟩ := bind_ok h
 obtain ⟨v, r2, h2, h⟩ := bind_ok h
 obtain ⟨u2, r3, h3, h⟩ := bind_ok h
 cases h
 have := needKey_lenW h1
 have := linesS_wt hw _ _ _ h2
 have := needKey_lenW h3
 omega
theorem elseS_wt {g : Dn} (hw : WtG g) (l : List UInt8) : Wt meaCs 0 l (elseS g l) := by
 intro cs r h
 unfold elseS at h
 cases ht : takeKeyS [101, 108, 115, 101] l with
 | none => rw [ht] at h; cases h; simp only [meaCs]; omega
 | some r1 =>
  rw [ht] at h
  have h1 := takeKey_drop ht
  have h2 := linesS_wt hw r1 cs r h
  have h3 : r1.length ≤ l.length := by rw [h1, List.length_drop]; omega
  omega
theorem choiceS_wt {g : Dn} (hw : WtG g) (l : List UInt8) (c : Co) (r : List UInt8) (h : choiceS g l = .ok c r) : meaC c + 64 * r.length ≤ 32 + 64 * l.length := by
 unfold choiceS at h
 obtain ⟨a, r1, h1, h⟩ := bind_ok h
 obtain ⟨u1, r2, h2, h⟩ := bind_ok h
 obtain ⟨b, r3, h3, h⟩ := bind_ok h
 obtain ⟨d, r4, h4, h⟩ := bind_ok h
 obtain ⟨u2, r5, h5, h⟩ := bind_ok h
 cases h
 have := linesS_wt hw _ _ _ h1
 have := needKey_lenW h2
 have := linesS_wt hw _ _ _ h3
 have := elseS_wt hw _ _ _ h4
 have := needKey_lenW h5
 simp only [meaC, meaN, meaWs]
 omega
theorem roundsS_wt {g : Dn} (hw : WtG g) (l : List UInt8) (c : Co) (r : List UInt8) (h : roundsS g l = .ok c r) : meaC c + 64 * r.length ≤ 32 + 64 * l.length := by
 unfold roundsS at h
 obtain ⟨a, r1, h1, h⟩ := bind_ok h
 obtain ⟨b, r2, h2, h⟩ := bind_ok h
 cases h
 have := linesS_wt hw _ _ _ h1
 have := bodyS_wt hw _ _ _ h2
 simp only [meaC, meaN, meaWs, meaCs]
 omega
theorem eachS_wt {g : Dn} (hw : WtG g) (l : List UInt8) (c : Co) (r : List UInt8) (h : eachS g l = .ok c r) : meaC c + 64 * r.length ≤ 40 + 64 * l.length := by
 unfold eachS at h
 obtain ⟨n, r1, h1, h⟩ := bind_ok h
 obtain ⟨u, r2, h2, h⟩ := bind_ok h
 obtain ⟨ws, r3, h3, h⟩ := bind_ok h
 split at h
 ·cases h
 ·obtain ⟨b, r4, h4, h⟩ := bind_ok h
  cases h
  have := gap_wt l
  have := nameR_lenW h1
  have := gap_wt r1
  have := needKey_lenW h2
  have := hw.2 _ _ _ h3
  have := skip_len shEnds r3
  have := bodyS_wt hw _ _ _ h4
  simp only [meaC, meaN, meaWs, meaCs]
  omega
theorem cmdS_wt (hg : GoodD sub) (hw : WtD sub) (l : List UInt8) : Wt meaC 0 l (cmdS sub l) := by
 intro c r h
 unfold cmdS at h
 split at h
 ·rename_i hk
  have h1 := key_len hk (by simp)
  cases sub with
  | none => cases h
  | some g =>
   have h2 := choiceS_wt (hw g rfl) _ c r h
   rw [List.length_drop] at h2
   simp only [List.length_cons, List.length_nil] at h1
   omega
 ·split at h
  ·rename_i hk
   have h1 := key_len hk (by simp)
   cases sub with
   | none => cases h
   | some g =>
    have h2 := roundsS_wt (hw g rfl) _ c r h
    rw [List.length_drop] at h2
    simp only [List.length_cons, List.length_nil] at h1
    omega
  ·split at h
   ·rename_i hk
    have h1 := key_len hk (by simp)
    cases sub with
    | none => cases h
    | some g =>
     have h2 := eachS_wt (hw g rfl) _ c r h
     rw [List.length_drop] at h2
     simp only [List.length_cons, List.length_nil] at h1
     omega
   ·exact simpleS_wt hg hw l c r h
end
theorem rowS_wt {kind : Nat} {mk : List UInt8} {one : List UInt8 → Rr Co} {fits : Co → Bool} (hmk : mk ≠ []) (h1 : ∀ l, Nice l (one l)) (h2 : NotNil one) (hw : ∀ l, Wt meaC 0 l (one l)) (l : List UInt8) : Wt meaC 0 l (rowS kind mk one fits l) := by
 intro c r h
 unfold rowS at h
 obtain ⟨c1, r1, h3, h⟩ := bind_ok h
 have h4 := hw _ _ _ h3
 split at h
 ·cases h
  have := behindS_len mk r1
  omega
 ·rename_i hm
  have hb : (behindS mk r1).length + 1 ≤ r1.length := by
   unfold behindS
   cases hk : markS mk r1 with
   | none => rw [hk] at hm; exact absurd rfl hm
   | some r' =>
    have := markS_len hk
    have : 1 ≤ mk.length := by cases mk with | nil => exact absurd rfl hmk | cons a b => simp
    show r'.length + 1 ≤ _
    omega
  have := iter_wt (rowStep_nice (kind := kind) (mk := mk) (fits := fits) h1 h2) (fun s => 32 + meaCs s.1 + meaC s.2.1) meaC
   (fun s l s' r hh => by
    unfold rowStep at hh
    split at hh
    ·cases hh
    ·split at hh
     ·cases hh
     ·obtain ⟨d, r2, h5, h6⟩ := bind_ok hh
      cases h6
      have := hw _ _ _ h5
      have := skip_len [10] l
      have := behindS_len mk r2
      simp only [meaCs_app, meaCs]
      omega)
   (fun s l b r hh => by
    unfold rowStep at hh
    split at hh
    ·cases hh
    ·split at hh
     ·cases hh
      simp only [meaC, meaN, meaWs, meaCs_app, meaCs]
      omega
     ·obtain ⟨d, r2, h5, h6⟩ := bind_ok hh
      cases h6)
   _ ([], c1, true) (behindS mk r1) c r rfl h
  simp only [meaCs] at this
  omega
section
variable {sub : Deeper}
theorem lineS_wt (hg : GoodD sub) (hw : WtD sub) (l : List UInt8) : Wt meaC 0 l (lineS sub l) :=
 rowS_wt (by simp) (pipeS_nice hg) (pipeS_lt hg) (fun l => rowS_wt (by simp) (cmdS_nice hg) (cmdS_lt hg) (cmdS_wt hg hw) l) l
theorem listS_wt (hg : GoodD sub) (hw : WtD sub) (l : List UInt8) : Wt meaCs 0 l (listS sub l) := by
 intro cs r h
 have h0 := skip_len shEnds l
 have := iter_wt (listStep_nice hg) meaCs meaCs
  (fun s l s' r hh => by
   unfold listStep at hh
   split at hh
   ·cases hh
   ·obtain ⟨d, r2, h5, h6⟩ := bind_ok hh
    have := lineS_wt hg hw _ _ _ h5
    have := skip_len shEnds r2
    split at h6
    ·cases h6
    ·cases h6
     simp only [meaCs_app, meaCs]
     omega)
  (fun s l b r hh => by
   unfold listStep at hh
   split at hh
   ·cases hh; omega
   ·obtain ⟨d, r2, h5, h6⟩ := bind_ok hh
    have := lineS_wt hg hw _ _ _ h5
    have := skip_len shEnds r2
    split at h6
    ·cases h6
     simp only [meaCs_app, meaCs]
     omega
    ·cases h6)
  _ [] (skipS shEnds l) cs r rfl h
 simp only [meaCs] at this
 omega
end
theorem lvl_wt : ∀ k, WtD (lvl k)
 | 0 => fun g h => by cases h
 | k + 1 => fun g h => by
  cases h
  exact ⟨listS_wt (lvl_good k) (lvl_wt k), fun l ws r h => by have := (wordsS_wt (lvl_good k) (lvl_wt k) h).1; omega⟩
theorem lst_wt {k : Nat} {l r : List UInt8} {cs : List Co} (h : lstS k l = .ok cs r) : meaCs cs ≤ 64 * l.length := by
 have := listS_wt (lvl_good k) (lvl_wt k) l cs r h
 omega
theorem read_ok {l : List UInt8} {cs : List Co} (h : readSh l = (cs, 0)) : lstS 30 l = .ok cs [] ∧ l.length ≤ 1048576 := by
 unfold readSh at h
 split at h
 ·cases h
 ·have hn := lstS_nice 30 l
  cases hs : lstS 30 l with
  | bad e =>
   rw [hs] at h hn
   injection h with _ h2
   rcases hn with e7 | e9 <;> omega
  | ok v r =>
   rw [hs] at h
   dsimp only at h
   split at h
   ·rename_i hr
    cases h
    exact ⟨by rw [hr], by omega⟩
   ·cases h
theorem read_wt {l : List UInt8} {cs : List Co} (h : readSh l = (cs, 0)) : meaCs cs ≤ 64 * l.length ∧ cntCs cs ≤ 64 * l.length := by
 have h1 := lst_wt (read_ok h).1
 have h2 := cnt_meaCs cs
 exact ⟨h1, by omega⟩
end Go.Proofs.YtelfgobjnibooaaGreatDoor
namespace Go.Proofs.YtelfgobjnibooaaGreatDoor
open Go.RowKit Go.Lib
def rstopS (l : List UInt8) : Bool := l.isEmpty || atS [41] l || stopKeys.contains (keyS l) || keyS l == [105, 110]
def rlistStep (sub : Deeper) (cs : List Co) (l : List UInt8) : Rr (It (List Co) (List Co)) :=
 if rstopS l = true then .ok (.stop cs) l
 else (lineS sub l).bind fun c r => if wasS shEnds r = false then .ok (.stop (cs ++ [c])) (skipS shEnds r) else .ok (.go (cs ++ [c])) (skipS shEnds r)
def rlistS (sub : Deeper) (l : List UInt8) : Rr (List Co) := iterS (rlistStep sub) [] (skipS shEnds l)
def rlvl : Nat → Deeper
 | 0 => none
 | k + 1 => some ⟨rlistS (rlvl k), wordsS (rlvl k)⟩
def readRf (l : List UInt8) : List Co × Int := if 1048576 < l.length then ([], 6) else match rlistS (rlvl 30) l with
 | .ok cs r => if r = [] then (cs, 0) else ([], 9)
 | .bad e => ([], e)
theorem rlistStep_nice {sub : Deeper} (hg : GoodD sub) (cs : List Co) (l : List UInt8) : NiceI l (rlistStep sub cs l) := by
 unfold rlistStep
 split
 ·exact Nat.le_refl _
 ·have hn := lineS_nice hg l
  cases hr : lineS sub l with
  | bad e => rw [hr] at hn; exact hn
  | ok c r =>
   rw [hr] at hn
   have h1 := lineS_lt hg _ _ _ hr
   have h2 := skip_len shEnds r
   show NiceI l (if wasS shEnds r = false then .ok (.stop (cs ++ [c])) (skipS shEnds r) else .ok (.go (cs ++ [c])) (skipS shEnds r))
   split
   ·show (skipS shEnds r).length ≤ _; omega
   ·show (skipS shEnds r).length < _; omega
theorem rlistS_nice {sub : Deeper} (hg : GoodD sub) (l : List UInt8) : Nice l (rlistS sub l) := (iterS_nice (rlistStep_nice hg) _ _).mono (skip_len _ _)
theorem rlvl_good : ∀ k, GoodD (rlvl k)
 | 0 => fun g h => by cases h
 | k + 1 => fun g h => by
  cases h
  exact ⟨rlistS_nice (rlvl_good k), wordsS_nice (rlvl_good k)⟩
def VainS (r : List UInt8) : Prop := r ≠ [] ∧ atS [41] r = false ∧ ∀ k ∈ stopKeys, keyS r ≠ k
def RelS {α : Type} (a b : Rr α) : Prop := a = b ∨ (∃ x r, a = .ok x r ∧ VainS r ∧ b = .bad 9) ∨ (∃ x r, b = .ok x r ∧ VainS r ∧ a = .bad 9)
theorem RelS.bind {α β : Type} {a b : Rr α} {f g : α → List UInt8 → Rr β} (h : RelS a b) (hv : ∀ x r, VainS r → f x r = .bad 9) (he : f = g) : a.bind f = b.bind g := by
 subst he
 rcases h with rfl | ⟨x, r, rfl, h, rfl⟩ | ⟨x, r, rfl, h, rfl⟩
 ·rfl
 ·exact hv x r h
 ·exact (hv x r h).symm
theorem vain_need {r : List UInt8} (h : VainS r) : needS [41] r = .bad 9 := by
 obtain ⟨h1, h2, _⟩ := h
 cases r with
 | nil => exact absurd rfl h1
 | cons c r =>
  have : c ≠ 41 := by
   intro e
   subst e
   simp [atS] at h2
  unfold needS takeS
  rw [if_neg]
  simp [Ne.symm this]
theorem vain_key {r k : List UInt8} (h : VainS r) (hk : k ∈ stopKeys) : takeKeyS k r = none ∧ needKey k r = .bad 9 := by
 have h1 : takeKeyS k r = none := by unfold takeKeyS; rw [if_neg (h.2.2 k hk)]
 exact ⟨h1, by unfold needKey; rw [h1]⟩
def linesR (a : Rr (List Co)) : Rr (List Co) := a.bind fun cs r => if cs = [] then .bad 9 else .ok cs r
theorem RelS.lines {a b : Rr (List Co)} (h : RelS a b) : RelS (linesR a) (linesR b) := by
 rcases h with rfl | ⟨x, r, rfl, h, rfl⟩ | ⟨x, r, rfl, h, rfl⟩
 ·exact .inl rfl
 ·by_cases hx : x = []
  ·exact .inl (by simp [linesR, Rr.bind, hx])
  ·exact .inr (.inl ⟨x, r, by simp [linesR, Rr.bind, hx], h, rfl⟩)
 ·by_cases hx : x = []
  ·exact .inl (by simp [linesR, Rr.bind, hx])
  ·exact .inr (.inr ⟨x, r, by simp [linesR, Rr.bind, hx], h, rfl⟩)
def RelD (g g' : Dn) : Prop := (∀ l, RelS (g.lst l) (g'.lst l)) ∧ ∀ l, g.wds l = g'.wds l
theorem RelD.lines {g g' : Dn} (h : RelD g g') (l : List UInt8) : RelS (linesS g l) (linesS g' l) := (h.1 l).lines
theorem body_rel {g g' : Dn} (h : RelD g g') : bodyS g = bodyS g' := by
 funext l
 unfold bodyS
 congr 1
 funext _ r
 refine (h.lines r).bind (fun x r hv => ?_) rfl
 rw [(vain_key hv (k := [100, 111, 110, 101]) (by decide)).2]; rfl
theorem else_rel {g g' : Dn} (h : RelD g g') (l : List UInt8) : RelS (elseS g l) (elseS g' l) := by
 unfold elseS
 split
 ·exact h.lines _
 ·exact .inl rfl
theorem choice_rel {g g' : Dn} (h : RelD g g') : choiceS g = choiceS g' := by
 funext l
 unfold choiceS
 refine (h.lines l).bind (fun x r hv => ?_) ?_
 ·rw [(vain_key hv (k := [116, 104, 101, 110]) (by decide)).2]; rfl
 ·funext a r
  congr 1
  funext _ r1
  refine (h.lines r1).bind (fun x r2 hv => ?_) ?_
  ·have h1 : elseS g r2 = .ok [] r2 := by
    unfold elseS
    rw [(vain_key hv (k := [101, 108, 115, 101]) (by decide)).1]
   rw [h1]
   show (needKey [102, 105] r2).bind _ = _
   rw [(vain_key hv (k := [102, 105]) (by decide)).2]; rfl
  ·funext b r2
   refine (else_rel h r2).bind (fun x r3 hv => ?_) rfl
   rw [(vain_key hv (k := [102, 105]) (by decide)).2]; rfl
theorem rounds_rel {g g' : Dn} (h : RelD g g') : roundsS g = roundsS g' := by
 funext l
 unfold roundsS
 refine (h.lines l).bind (fun x r hv => ?_) ?_
 ·have : bodyS g r = .bad 9 := by
   unfold bodyS
   rw [(vain_key hv (k := [100, 111]) (by decide)).2]; rfl
  rw [this]; rfl
 ·funext a r
  rw [body_rel h]
theorem each_rel {g g' : Dn} (h : RelD g g') : eachS g = eachS g' := by
 funext l
 unfold eachS
 rw [body_rel h, show g.wds = g'.wds from funext h.2]
def RelO : Deeper → Deeper → Prop
 | none, none => True
 | some g, some g' => RelD g g'
 | _, _ => False
theorem part_rel {sub sub' : Deeper} (h : RelO sub sub') : partS sub = partS sub' := by
  funext q l
  unfold partS
  split
  · rfl
  · split
    · rename_i r _
      have hs : RelS (subS sub r) (subS sub' r) := by
        cases sub with
        | none => cases sub' with
          | none => exact .inl rfl
          | some g' => exact h.elim
        | some g => cases sub' with
          | none => exact h.elim
          | some g' => exact (show RelD g g' from h).1 r
      refine hs.bind (fun x r hv => ?_) rfl
      rw [vain_need hv]; rfl
    · rfl
theorem word_rel {sub sub' : Deeper} (h : partS sub = partS sub') : wordS sub = wordS sub' := by
 have h1 : dblStep sub = dblStep sub' := by funext st l; unfold dblStep; rw [h]
 have h2 : dblS sub = dblS sub' := by funext st l; unfold dblS; rw [h1]
 have h3 : wordStep sub = wordStep sub' := by funext st l; unfold wordStep; rw [h, h2]
 funext l
 unfold wordS
 rw [h3]
theorem words_rel {sub sub' : Deeper} (h : partS sub = partS sub') : wordsS sub = wordsS sub' := by
 have h1 : wordsStep sub = wordsStep sub' := by funext ws l; unfold wordsStep; rw [word_rel h]
 funext l
 unfold wordsS
 rw [h1]
theorem simple_rel {sub sub' : Deeper} (h : partS sub = partS sub') : simpleS sub = simpleS sub' := by
 have h1 : asgStep sub = asgStep sub' := by funext s l; unfold asgStep; rw [word_rel h]
 funext l
 unfold simpleS
 rw [h1, words_rel h]
theorem within_rel {sub sub' : Deeper} (h : RelO sub sub') {f : Dn → List UInt8 → Rr Co} (hf : ∀ g g', RelD g g' → f g = f g') (l : List UInt8) : withinS sub f l = withinS sub' f l := by
  cases sub with
  | none => cases sub' with
    | none => rfl
    | some g' => exact h.elim
  | some g => cases sub' with
    | none => exact h.elim
    | some g' => exact congrFun (hf g g' h) l
theorem cmd_rel {sub sub' : Deeper} (h : RelO sub sub') : cmdS sub = cmdS sub' := by
 funext l
 unfold cmdS
 rw [within_rel h (fun _ _ => choice_rel), within_rel h (fun _ _ => rounds_rel), within_rel h (fun _ _ => each_rel), simple_rel (part_rel h)]
theorem line_rel {sub sub' : Deeper} (h : RelO sub sub') : lineS sub = lineS sub' := by
 funext l
 unfold lineS pipeS
 rw [cmd_rel h]
theorem skip_gapped (of : List UInt8) (h10 : of.contains 10 = true) : ∀ (n : Nat) (l : List UInt8), l.length = n → gapS (skipS of l) = skipS of l ∧ atS of (skipS of l) = false := by
 intro n
 induction n using Nat.strongRecOn with
 | ind n ih =>
  intro l hn
  have hg := gapS_len l
  rw [skipS_eq]
  cases hl : gapS l with
  | nil => exact ⟨rfl, rfl⟩
  | cons c r =>
   rw [hl, List.length_cons] at hg
   dsimp only
   by_cases hc : of.contains c = true
   ·rw [if_pos hc]
    exact ih r.length (by omega) r rfl
   ·rw [if_neg hc]
    refine ⟨?_, by simpa [atS] using hc⟩
    have hw : whiteS c = false ∧ c ≠ 35 := by
     unfold gapS remS at hl
     split at hl
     ·exfalso
      unfold pastS at hl
      have h2 : [10].contains c = true := by
       have := List.head?_dropWhile_not (fun c => !([10] : List UInt8).contains c) (l.dropWhile whiteS)
       rw [hl] at this
       simpa using this
      have : c = 10 := by simpa using h2
      subst this
      exact hc h10
     ·rename_i h3
      have := List.head?_dropWhile_not whiteS l
      rw [hl] at this h3
      refine ⟨by simpa using this, fun e => ?_⟩
      subst e
      exact h3 rfl
    unfold gapS
    rw [List.dropWhile_cons, hw.1]
    unfold remS
    rw [if_neg (by simp [atS, hw.2]), if_neg (by simp)]
theorem skip_ok (of l : List UInt8) (h10 : of.contains 10 = true) : gapS (skipS of l) = skipS of l ∧ atS of (skipS of l) = false := skip_gapped of h10 _ l rfl
set_option maxRecDepth 100000 in
theorem mark_rest (c : UInt8) (hc : shMarks.contains c = true) : restOk c = false ∧ c ≠ 61 := by
 have : ∀ d : Fin 256, shMarks.contains (UInt8.ofNat d.val) = true → restOk (UInt8.ofNat d.val) = false ∧ (UInt8.ofNat d.val) ≠ 61 := by decide
 have h := this ⟨c.toNat, UInt8.toNat_lt c⟩
 simp only [UInt8.ofNat_toNat] at h
 exact h hc
theorem line_mark {sub : Deeper} (hg : GoodD sub) {c : UInt8} {r : List UInt8} (h1 : shMarks.contains c = true) (h2 : shOpens.contains c = false) (h3 : gapS (c :: r) = c :: r) : lineS sub (c :: r) = .bad 9 := by
 have hr : runS shMarks (c :: r) = [] := by unfold runS; rw [List.takeWhile_cons, h1]; rfl
 have hk : keyS (c :: r) = [] := by unfold keyS; rw [hr]; split <;> rfl
 have hl : isLet c = false := by
  have h := (mark_rest c h1).1
  unfold restOk at h
  cases hh : isLet c with
  | false => rfl
  | true => rw [hh] at h; simp at h
 have hm : nameS (c :: r) = [] := by
  show (if isLet c = true then _ else _) = _
  rw [hl]; rfl
 have hn : assignS (c :: r) = none := by unfold assignS; rw [hm]; rfl
 have ht : ∀ d, d ∈ shOpens → takeS [d] (c :: r) = none := by
  intro d hd
  unfold takeS
  rw [if_neg]
  intro e
  have : d = c := by simpa using e
  subst this
  have : shOpens.contains d = true := by simpa using hd
  rw [this] at h2
  cases h2
 have hw : wordS sub (c :: r) = .ok [] (c :: r) := by
  unfold wordS
  rw [iterS_eq (wordStep_nice hg)]
  unfold wordStep
  rw [ht 39 (by decide), ht 92 (by decide), ht 34 (by decide), ht 36 (by decide)]
  simp only []
  rw [if_pos (.inr (show atS shMarks (c :: r) = true from h1))]
  rfl
 have hws : wordsS sub (c :: r) = .ok [] (c :: r) := by
  unfold wordsS
  rw [iterS_eq (wordsStep_nice hg)]
  unfold wordsStep
  rw [h3, hw]
  rfl
 have hs : simpleS sub (c :: r) = .bad 9 := by
  unfold simpleS
  rw [iterS_eq (asgStep_nice hg)]
  unfold asgStep
  rw [hn]
  show (if shKeys.contains (keyS (c :: r)) = true then _ else _) = _
  rw [hk, if_neg (by decide), hws]
  rfl
 unfold lineS rowS pipeS rowS cmdS
 rw [hk, if_neg (by decide), if_neg (by decide), if_neg (by decide), hs]
 rfl
theorem run_key {l k : List UInt8} (h : keyS l = k) (hk : k ≠ []) : runS shMarks l = k ∧ atS shOpens (pastS shMarks l) = false := by
 unfold keyS at h
 split at h
 ·exact absurd h.symm hk
 ·rename_i h2
  exact ⟨h, by simpa using h2⟩
theorem past_at (of l : List UInt8) : pastS of l = [] ∨ ∃ c r, pastS of l = c :: r ∧ of.contains c = true := by
 cases h : pastS of l with
 | nil => exact .inl rfl
 | cons c r =>
  refine .inr ⟨c, r, rfl, ?_⟩
  unfold pastS at h
  have := List.head?_dropWhile_not (fun c => !of.contains c) l
  rw [h] at this
  simpa using this
theorem line_in {sub : Deeper} (hg : GoodD sub) {l : List UInt8} (h : keyS l = [105, 110]) : lineS sub l = .bad 9 := by
 obtain ⟨h1, _⟩ := run_key h (by simp)
 have h2 := run_past shMarks l
 rw [h1] at h2
 obtain ⟨m, hm⟩ : ∃ m, pastS shMarks l = m := ⟨_, rfl⟩
 have hp := past_at shMarks l
 rw [hm] at h2 hp
 have hn : assignS l = none := by
  rw [← h2]
  have hr := mark_rest
  have hname : nameS ([105, 110] ++ m) = [105, 110] := by
   show (if isLet 105 = true then 105 :: List.takeWhile restOk (110 :: m) else []) = _
   rw [if_pos (by decide)]
   show 105 :: List.takeWhile restOk (110 :: m) = _
   rw [List.takeWhile_cons, if_pos (by decide)]
   rcases hp with rfl | ⟨c, r, rfl, hc⟩
   ·rfl
   ·rw [List.takeWhile_cons, (hr c hc).1]; rfl
  unfold assignS
  rw [hname, if_neg (by simp)]
  show (takeS [61] m).map _ = none
  rcases hp with rfl | ⟨c, r, rfl, hc⟩
  ·rfl
  ·unfold takeS
   rw [if_neg]
   ·rfl
   ·intro e
    have : 61 = c := by simpa using e
    exact (hr c hc).2 this.symm
 have hs : simpleS sub l = .bad 9 := by
  unfold simpleS
  rw [iterS_eq (asgStep_nice hg)]
  unfold asgStep
  rw [hn]
  show (if shKeys.contains (keyS l) = true then _ else _) = _
  rw [h, if_pos (by decide)]
 unfold lineS rowS pipeS rowS cmdS
 rw [h, if_neg (by decide), if_neg (by decide), if_neg (by decide), hs]
 rfl
theorem list_rel {sub sub' : Deeper} (hg : GoodD sub) (hg' : GoodD sub') (h : lineS sub = lineS sub') : ∀ (n : Nat) (cs : List Co) (l : List UInt8), l.length = n → gapS l = l → atS shEnds l = false → RelS (iterS (listStep sub) cs l) (iterS (rlistStep sub') cs l) := by
 intro n
 induction n using Nat.strongRecOn with
 | ind n ih =>
  intro cs l hn hgap hend
  rw [iterS_eq (listStep_nice hg), iterS_eq (rlistStep_nice hg')]
  have e1 : listStep sub cs l = if beginsS l = false then .ok (.stop cs) l
   else (lineS sub l).bind fun c r => if wasS shEnds r = false then .ok (.stop (cs ++ [c])) (skipS shEnds r) else .ok (.go (cs ++ [c])) (skipS shEnds r) := rfl
  have e2 : rlistStep sub' cs l = if rstopS l = true then .ok (.stop cs) l
   else (lineS sub' l).bind fun c r => if wasS shEnds r = false then .ok (.stop (cs ++ [c])) (skipS shEnds r) else .ok (.go (cs ++ [c])) (skipS shEnds r) := rfl
  rw [e1, e2]
  cases hb : beginsS l with
  | false =>
   cases hr : rstopS l with
   | true => exact .inl rfl
   | false =>
    rw [if_pos rfl, if_neg (by simp)]
    unfold rstopS at hr
    unfold beginsS at hb
    simp only [Bool.or_eq_false_iff] at hr
    obtain ⟨⟨⟨r1, r2⟩, r3⟩, r4⟩ := hr
    rw [r1, r3] at hb
    cases l with
    | nil => cases r1
    | cons c r =>
     have hb : shOpens.contains c = false ∧ shMarks.contains c = true := by simpa [atS] using hb
     rw [← h, line_mark hg hb.2 hb.1 hgap]
     refine .inr (.inl ⟨cs, c :: r, rfl, ⟨by simp, r2, fun k hk e => ?_⟩, rfl⟩)
     rw [e] at r3
     have : stopKeys.contains k = true := by simpa using hk
     rw [this] at r3
     cases r3
  | true =>
   cases hr : rstopS l with
   | true =>
    rw [if_neg (by simp), if_pos rfl]
    unfold rstopS at hr
    unfold beginsS at hb
    have hb : (stopKeys.contains (keyS l) = false ∧ l.isEmpty = false) ∧ (atS shOpens l = true ∨ atS shMarks l = false) := by simpa using hb
    obtain ⟨⟨b1, b2⟩, b3⟩ := hb
    rw [b1, b2] at hr
    have hr : atS [41] l = true ∨ keyS l = [105, 110] := by simpa using hr
    have h41 : ¬ atS [41] l = true := by
     intro e
     cases l with
     | nil => cases e
     | cons c r =>
      have : c = 41 := by simpa [atS] using e
      subst this
      rcases b3 with b3 | b3
      ·exact absurd b3 (by show ¬ (shOpens.contains 41 = true); decide)
      ·exact absurd b3 (by show ¬ (shMarks.contains 41 = false); decide)
    rcases hr with hr | hr
    ·exact absurd hr h41
    ·rw [line_in hg hr]
     refine .inr (.inr ⟨cs, l, rfl, ⟨fun e => (by rw [e] at b2; cases b2), by simpa using h41, fun k hk e => ?_⟩, rfl⟩)
     rw [e] at b1
     have : stopKeys.contains k = true := by simpa using hk
     rw [this] at b1
     cases b1
   | false =>
    rw [if_neg (by simp), if_neg (by simp), h]
    cases hl : lineS sub' l with
    | bad e => exact .inl rfl
    | ok c r =>
     have h1 := lineS_lt hg' _ _ _ hl
     have h2 := skip_len shEnds r
     dsimp only [Rr.bind]
     by_cases hw : wasS shEnds r = false
     ·rw [if_pos hw]; exact .inl rfl
     ·rw [if_neg hw]
      have := skip_ok shEnds r (by decide)
      exact ih _ (by omega) _ _ rfl this.1 this.2
theorem lvl_rel : ∀ k, RelO (lvl k) (rlvl k)
 | 0 => trivial
 | k + 1 => by
  have ih := lvl_rel k
  refine ⟨fun l => ?_, fun l => congrFun (words_rel (part_rel ih)) l⟩
  have := skip_ok shEnds l (by decide)
  exact list_rel (lvl_good k) (rlvl_good k) (line_rel ih) _ [] _ rfl this.1 this.2
theorem readRf_eq (l : List UInt8) : readRf l = readSh l := by
 unfold readRf readSh
 split
 ·rfl
 ·have h : RelS (lstS 30 l) (rlistS (rlvl 30) l) := by
   have := skip_ok shEnds l (by decide)
   exact list_rel (lvl_good 30) (rlvl_good 30) (line_rel (lvl_rel 30)) _ [] _ rfl this.1 this.2
  rcases h with h | ⟨x, r, h, hv, h'⟩ | ⟨x, r, h', hv, h⟩
  ·rw [h]
   cases rlistS (rlvl 30) l <;> rfl
  ·rw [h, h']
   show _ = if r = [] then _ else _
   rw [if_neg hv.1]
  ·rw [h, h']
   show (if r = [] then _ else _) = _
   rw [if_neg hv.1]
end Go.Proofs.YtelfgobjnibooaaGreatDoor
