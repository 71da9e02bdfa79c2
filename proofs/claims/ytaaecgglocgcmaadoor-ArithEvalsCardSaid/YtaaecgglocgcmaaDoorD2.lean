/- Packed texts: ArVar, HexWholeRef, ArAns, ArJoined. What each of them proves stands above its theorems; the conditions stand in these. -/
import Derived.Test.YtaaecgglocgcmaaDoorD0
import Derived.Test.YtaaecgglocgcmaaDoorD1
namespace Go.Proofs.YtaaecgglocgcmaaDoor
open Go.RowKit Go.Lib

/-- What the reckoner's methods answer: what a text comes to, or what is wrong; a number whatever it is, where it is only read. -/
def AnsA (p : Nat) (vv : Value) (d : Nat) (i : Bool) (V : List UInt8 → Cm) (w : World) (r : Pr) (e : Ending) (w' : World) : Prop :=
  (match r with
  | .bad x => e = errA x
  | .ok ex l => if i = true then ∃ n, e = .returned (.int .i64 n) ∧ Rk p l vv d i w' else
    match ev V ex with
    | .is n => e = .returned (.int .i64 n) ∧ Rk p l vv d i w'
    | .no x => e = errA x) ∧ Below p w w'
theorem AnsA.bad {p : Nat} {vv : Value} {d : Nat} {i : Bool} {V : List UInt8 → Cm} {w w' : World} {x : Int} (h : Below p w w') : AnsA p vv d i V w (.bad x) (errA x) w' := ⟨rfl, h⟩
theorem AnsA.idle {p : Nat} {vv : Value} {d : Nat} {V : List UInt8 → Cm} {w w' : World} {ex : Ex} {l : List UInt8} {n : Int} (h : Rk p l vv d true w') (hb : Below p w w') : AnsA p vv d true V w (.ok ex l) (.returned (.int .i64 n)) w' := by
  refine ⟨?_, hb⟩
  show if true = true then _ else _
  rw [if_pos rfl]
  exact ⟨n, rfl, h⟩
theorem AnsA.live {p : Nat} {vv : Value} {d : Nat} {V : List UInt8 → Cm} {w w' : World} {ex : Ex} {l : List UInt8} {n : Int} (he : ev V ex = .is n) (h : Rk p l vv d false w') (hb : Below p w w') : AnsA p vv d false V w (.ok ex l) (.returned (.int .i64 n)) w' := by
  refine ⟨?_, hb⟩
  show if false = true then _ else _
  rw [if_neg (by simp), he]
  exact ⟨rfl, h⟩
theorem AnsA.both {p : Nat} {vv : Value} {d : Nat} {i : Bool} {V : List UInt8 → Cm} {w w' : World} {ex : Ex} {l : List UInt8} {n : Int} (he : i = false → ev V ex = .is n) (h : Rk p l vv d i w') (hb : Below p w w') : AnsA p vv d i V w (.ok ex l) (.returned (.int .i64 n)) w' := by
  cases i
  · exact AnsA.live (he rfl) h hb
  · exact AnsA.idle h hb
theorem AnsA.no {p : Nat} {vv : Value} {d : Nat} {V : List UInt8 → Cm} {w w' : World} {ex : Ex} {l : List UInt8} {x : Int} (he : ev V ex = .no x) (hb : Below p w w') : AnsA p vv d false V w (.ok ex l) (errA x) w' := by
  refine ⟨?_, hb⟩
  show if false = true then _ else _
  rw [if_neg (by simp), he]

theorem whole_used (l : List UInt8) : 0 ≤ (wholeD l).2.1 ∧ (wholeD l).2.1 ≤ (l.length : Int) := by
  have h := figs_length_le (afterSign l)
  have h2 : (afterSign l).length ≤ l.length := by unfold afterSign; split <;> simp
  have h3 : isNeg l = true → (afterSign l).length + 1 = l.length := fun hn => by
    unfold afterSign
    rw [if_pos hn]
    cases l with
    | nil => cases hn
    | cons a r => rfl
  unfold wholeD
  split
  · exact ⟨Int.le_refl _, by simp⟩
  · split
    · rename_i hn
      have := h3 hn
      split
      · constructor <;> simp only [] <;> omega
      · exact ⟨Int.le_refl _, by simp⟩
    · split
      · constructor <;> simp only [] <;> omega
      · exact ⟨Int.le_refl _, by simp⟩
set_option maxHeartbeats 1000000 in
set_option maxRecDepth 20000 in
theorem figuresA_any (p : Nat) (l : List UInt8) (vv : Value) (d : Nat) (i : Bool) (V : List UInt8 → Cm) (w : World) (h : Rk p l vv d i w) (hl : l.length ≤ 70000000000000) :
    Calls Tryd.prog 49 #[.pointer (some ⟨p, 0, none⟩)] w (AnsA p vv d i V w (figA l)) := by
  obtain ⟨c0, c1, c2, c3, f0, f1, f2, f3⟩ := h.cells
  have PUT := Lib.hid (fun r => (And.intro (h.rest r) ((Below.refl p w).setCell (p := ⟨p, 0, none⟩) (Nat.le_refl _) (.string ⟨r.toArray⟩))))
  have k := fun w => whole_any ⟨l.toArray⟩ w (by simpa [ByteArray.size] using hl)
  rw [show (⟨l.toArray⟩ : ByteArray).data.toList = l by simp] at k
  unfold wholeE at k
  have hu := whole_used l
  have hfig : figA l = if (wholeD l).2.2 = 0 then .ok (.num (wholeD l).1) (l.drop (wholeD l).2.1.toNat) else .bad 9 := rfl
  have DR : Hid (∀ m, (⟨l.toArray⟩ : ByteArray).extract m l.length = ⟨(l.drop m).toArray⟩) := by
    show ∀ m, (⟨l.toArray⟩ : ByteArray).extract m l.length = ⟨(l.drop m).toArray⟩
    intro m
    apply ByteArray.ext
    rw [ByteArray.data_extract]
    apply Array.ext'
    simp only [List.extract_toArray, List.extract_eq_drop_take']
    rw [List.take_of_length_le (Nat.le_refl _)]
  have hz : (⟨l.toArray⟩ : ByteArray).size = l.length := by simp [ByteArray.size]
  rw [← hz] at DR hu hl
  rw [hfig]
  clear h hz hfig
  generalize (wholeD l).1 = n at *
  obtain ⟨u, hu'⟩ : ∃ u : Nat, (wholeD l).2.1 = (u : Int) := ⟨(wholeD l).2.1.toNat, by omega⟩
  rw [hu'] at k hu ⊢
  rw [Int.toNat_natCast]
  clear hu'
  generalize (wholeD l).2.2 = x at *
  generalize (⟨l.toArray⟩ : ByteArray) = S at *
  by_cases hx : x = 0
  · rw [if_pos hx]
    subst hx
    go_enter Tryd.func49, Tryd.ntmps49
    go_wp2_with (go_at_call 58; refine (k _).mono ?_; rintro e w1 ⟨rfl, rfl⟩)
    refine bodyPost_ret (results_tmp rfl _ _ _) rfl ?_
    rw [DR.out]
    exact AnsA.both (fun _ => rfl) (PUT.out _).1 (PUT.out _).2
  · rw [if_neg hx]
    have hx' : (x == 0) = false := by simpa using hx
    go_enter Tryd.func49, Tryd.ntmps49
    go_wp2_with (go_at_call 58; refine (k _).mono ?_; rintro e w1 ⟨rfl, rfl⟩)
    exact ⟨rfl, AnsA.bad (Below.refl _ _)⟩

theorem num_cases (v : List UInt8) : (v = [] ∧ numA v = .is 0) ∨ (v ≠ [] ∧ (wholeD v).2.2 = 0 ∧ (wholeD v).2.1 = (v.length : Int) ∧ numA v = .is (wholeD v).1) ∨ (v ≠ [] ∧ ¬ ((wholeD v).2.2 = 0 ∧ (wholeD v).2.1 = (v.length : Int)) ∧ numA v = .no 2) := by
  by_cases h : v = []
  · exact .inl ⟨h, if_pos h⟩
  · by_cases h2 : (wholeD v).2.2 = 0 ∧ (wholeD v).2.1 = (v.length : Int)
    · exact .inr (.inl ⟨h, h2.1, h2.2, by unfold numA; rw [if_neg h, if_pos h2]⟩)
    · exact .inr (.inr ⟨h, h2, by unfold numA; rw [if_neg h, if_neg h2]⟩)
/-- What the method variable answers. -/
def varR (l : List UInt8) : Pr := if nameL l = [] then .bad 9 else .ok (.name (nameL l)) (l.drop (nameL l).length)
set_option maxHeartbeats 2000000 in
set_option maxRecDepth 20000 in
theorem variableA_any (p : Nat) (l : List UInt8) (vv : Value) (d : Nat) (i : Bool) (vs : List Vr) (w : World) (h : Rk p l vv d i w) (hl : l.length ≤ 70000000000000) (hV : Vars p vv vs w) (hr : risesA vs = true) (hs : ∀ x ∈ vs, x.v.size ≤ 70000000000000) :
    Calls Tryd.prog 50 #[.pointer (some ⟨p, 0, none⟩)] w (AnsA p vv d i (valA vs) w (varR l)) := by
  have kn := nameA_any p l vv d i w h hl
  unfold NameP at kn
  unfold varR
  by_cases hn : nameL l = []
  · rw [if_pos hn]
    have kn' : Calls Tryd.prog 59 #[.pointer (some ⟨p, 0, none⟩)] w fun e w' => e = errA 9 ∧ Below p w w' := kn.mono (by
      rintro e w' ⟨h1 | h1, hb⟩
      · exact ⟨h1.2, hb⟩
      · exact absurd hn h1.1)
    clear kn
    unfold errA at kn'
    go_enter Tryd.func50, Tryd.ntmps50
    go_wp2_with (go_at_call 59; refine kn'.mono ?_; rintro e w1 ⟨rfl, hb1⟩)
    exact ⟨rfl, AnsA.bad hb1⟩
  · rw [if_neg hn]
    have kn' : Calls Tryd.prog 59 #[.pointer (some ⟨p, 0, none⟩)] w fun e w' => e = .returned (.string ⟨(nameL l).toArray⟩) ∧ Rk p (l.drop (nameL l).length) vv d i w' ∧ Below p w w' := kn.mono (by
      rintro e w' ⟨h1 | h1, hb⟩
      · exact absurd h1.1 hn
      · exact ⟨h1.2.1, h1.2.2, hb⟩)
    clear kn
    have HFIND := Lib.hid (fun (w1 : World) (h1 : Rk p (l.drop (nameL l).length) vv d i w1) (hb : Below p w w1) => findA_any vv vs ⟨(nameL l).toArray⟩ w1 ((hV.below hb).mono (Nat.le_of_lt h1.lt)) hr)
    have hval : valA vs (nameL l) = match findA vs (nameL l) with | some v => numA v.data.toList | none => .is 0 := rfl
    rw [show ((⟨(nameL l).toArray⟩ : ByteArray)).data.toList = nameL l by simp] at HFIND
    have hsz : ∀ v, findA vs (nameL l) = some v → v.size ≤ 70000000000000 := by
      clear hval HFIND kn' hn hV hr h hl
      intro v
      induction vs with
      | nil => intro h; cases h
      | cons x r ih =>
        unfold findA
        split
        · intro h; cases h; exact hs x (by simp)
        · exact ih (fun y hy => hs y (List.mem_cons_of_mem _ hy))
    clear hn h hs
    have hev : ev (valA vs) (.name (nameL l)) = valA vs (nameL l) := rfl
    generalize valA vs = V at *
    generalize nameL l = nm at *
    generalize l.drop nm.length = rs at *
    cases i
    · cases hF : findA vs nm with
      | none =>
        rw [hF] at HFIND hval
        have hE : ev V (.name nm) = .is 0 := hev.trans hval
        have HE := Lib.hid hE
        clear hval hF hsz hE hev hr hl hV
        unfold foundE at HFIND
        go_enter Tryd.func50, Tryd.ntmps50
        go_wp2_with (first
          | (go_at_call 59; refine kn'.mono ?_; rintro e w1 ⟨rfl, h1, hb1⟩; obtain ⟨d0, d1, d2, d3, _⟩ := h1.cells; have k2 := HFIND.out w1 h1 hb1; have H1 := Lib.hid h1; have HB1 := Lib.hid hb1; clear h1 hb1)
          | (go_at_call 17; refine k2.mono ?_; rintro e w2 ⟨rfl, hb2⟩))
        refine bodyPost_ret (results_tmp rfl _ _ _) rfl ?_
        exact AnsA.live HE.out (H1.out.below hb2) (HB1.out.trans (hb2.mono (Nat.le_of_lt H1.out.lt)))
      | some v =>
        rw [hF] at HFIND hval
        have hvz := hsz v hF
        have kw := fun w => whole_any v w hvz
        unfold wholeE at kw
        have hu := whole_used v.data.toList
        have hlen : v.data.toList.length = v.size := by rw [Array.length_toList]; rfl
        rw [hlen] at hu
        unfold foundE at HFIND
        have hc := num_cases v.data.toList
        rw [hlen] at hc
        have hemp : v.toList.isEmpty = decide (v.size = 0) := by rw [ByteArray.toList_eq, isEmpty_size]
        have hnil : v.data.toList = [] ↔ v.size = 0 := by rw [← hlen]; exact ⟨fun e => by rw [e]; rfl, List.eq_nil_of_length_eq_zero⟩
        rw [hnil] at hc
        have hval' : ev V (.name nm) = numA v.data.toList := hev.trans hval
        have hnz : v.data.toList ≠ [] → v.toList.isEmpty = false := fun h => by rw [hemp]; exact decide_eq_false (fun e => h (hnil.2 e))
        clear hval hev hF hsz hr hl hV hnil hlen
        generalize numA v.data.toList = N at *
        generalize (wholeD v.data.toList).1 = n at *
        generalize (wholeD v.data.toList).2.1 = u at *
        generalize (wholeD v.data.toList).2.2 = x at *
        rcases hc with ⟨h0, hN⟩ | ⟨h0, hx, hu2, hN⟩ | ⟨h0, hx, hN⟩
        · have he : v.toList.isEmpty = true := by rw [hemp, h0]; rfl
          have HE := Lib.hid (hval'.trans hN)
          clear hval' hN hemp h0 hnz
          go_enter Tryd.func50, Tryd.ntmps50
          go_wp2_with (first
            | (go_at_call 59; refine kn'.mono ?_; rintro e w1 ⟨rfl, h1, hb1⟩; obtain ⟨d0, d1, d2, d3, _⟩ := h1.cells; have k2 := HFIND.out w1 h1 hb1; have H1 := Lib.hid h1; have HB1 := Lib.hid hb1; clear h1 hb1)
            | (go_at_call 17; refine k2.mono ?_; rintro e w2 ⟨rfl, hb2⟩))
          refine bodyPost_ret (results_tmp rfl _ _ _) rfl ?_
          exact AnsA.live HE.out (H1.out.below hb2) (HB1.out.trans (hb2.mono (Nat.le_of_lt H1.out.lt)))
        · have he : v.toList.isEmpty = false := hnz h0
          have HE := Lib.hid (hval'.trans hN)
          subst hx hu2
          clear hval' hN hemp h0 hnz
          go_enter Tryd.func50, Tryd.ntmps50
          go_wp2_with (first
            | (go_at_call 59; refine kn'.mono ?_; rintro e w1 ⟨rfl, h1, hb1⟩; obtain ⟨d0, d1, d2, d3, _⟩ := h1.cells; have k2 := HFIND.out w1 h1 hb1; have H1 := Lib.hid h1; have HB1 := Lib.hid hb1; clear h1 hb1)
            | (go_at_call 17; refine k2.mono ?_; rintro e w2 ⟨rfl, hb2⟩)
            | (go_at_call 58; refine (kw _).mono ?_; rintro e w3 ⟨rfl, rfl⟩))
          refine bodyPost_ret (results_tmp rfl _ _ _) rfl ?_
          exact AnsA.live HE.out (H1.out.below hb2) (HB1.out.trans (hb2.mono (Nat.le_of_lt H1.out.lt)))
        · have he : v.toList.isEmpty = false := hnz h0
          have HE := Lib.hid (hval'.trans hN)
          by_cases hx0 : x = 0
          · subst hx0
            have hu3 : u < (v.size : Int) := by omega
            clear hval' hN hemp h0 hnz hx
            go_enter Tryd.func50, Tryd.ntmps50
            go_wp2_with (first
              | (go_at_call 59; refine kn'.mono ?_; rintro e w1 ⟨rfl, h1, hb1⟩; obtain ⟨d0, d1, d2, d3, _⟩ := h1.cells; have k2 := HFIND.out w1 h1 hb1; have H1 := Lib.hid h1; have HB1 := Lib.hid hb1; clear h1 hb1)
              | (go_at_call 17; refine k2.mono ?_; rintro e w2 ⟨rfl, hb2⟩)
              | (go_at_call 58; refine (kw _).mono ?_; rintro e w3 ⟨rfl, rfl⟩))
            exact ⟨rfl, AnsA.no HE.out (HB1.out.trans (hb2.mono (Nat.le_of_lt H1.out.lt)))⟩
          · have hxb : (x != 0) = true := by simpa using hx0
            clear hval' hN hemp h0 hnz hx hx0
            go_enter Tryd.func50, Tryd.ntmps50
            go_wp2_with (first
              | (go_at_call 59; refine kn'.mono ?_; rintro e w1 ⟨rfl, h1, hb1⟩; obtain ⟨d0, d1, d2, d3, _⟩ := h1.cells; have k2 := HFIND.out w1 h1 hb1; have H1 := Lib.hid h1; have HB1 := Lib.hid hb1; clear h1 hb1)
              | (go_at_call 17; refine k2.mono ?_; rintro e w2 ⟨rfl, hb2⟩)
              | (go_at_call 58; refine (kw _).mono ?_; rintro e w3 ⟨rfl, rfl⟩))
            all_goals exact ⟨rfl, AnsA.no HE.out (HB1.out.trans (hb2.mono (Nat.le_of_lt H1.out.lt)))⟩
    · clear HFIND hval hsz hev hr hl hV
      go_enter Tryd.func50, Tryd.ntmps50
      go_wp2_with (first
        | (go_at_call 59; refine kn'.mono ?_; rintro e w1 ⟨rfl, h1, hb1⟩; obtain ⟨d0, d1, d2, d3, _⟩ := h1.cells; have H1 := Lib.hid h1; have HB1 := Lib.hid hb1; clear h1 hb1))
      refine bodyPost_ret (results_tmp rfl _ _ _) rfl ?_
      exact AnsA.idle H1.out HB1.out
end Go.Proofs.YtaaecgglocgcmaaDoor
namespace Go.Proofs.YtaaecgglocgcmaaDoor
open Go.RowKit Go.Lib

theorem take_snocW (l : List UInt8) (k : Nat) (h : k < l.length) : l.take (k + 1) = l.take k ++ [l[k]] := by
  rw [List.take_succ_eq_append_getElem h]
theorem figs_atL (l : List UInt8) (k : Nat) (hk : k < l.length) (ha : (l.take k).all isFig = true) (hc : isFig l[k] = false) : figs l = l.take k := by
  have h1 : l = l.take k ++ l[k] :: l.drop (k + 1) := by
    conv => lhs; rw [← List.take_append_drop k l]
    rw [List.drop_eq_getElem_cons hk]
  conv => lhs; rw [h1]
  rw [figs_stop _ _ _ ha hc]
/-- How far the reading has come: too great a number, or the number turned round. -/
def SoFar (b : Bool) (a : Int) (n : Nat) : Prop := (b = true ∧ (9223372036854775808 : Int) < (n : Int)) ∨ (b = false ∧ a = -(n : Int) ∧ (n : Int) ≤ 9223372036854775808)
def refQ (d : Int) : Int := -((9223372036854775808 - d) / 10)
theorem refQ_eq (d : Int) (h0 : 0 ≤ d) (h1 : d ≤ 9) : (-9223372036854775808 + d).tdiv 10 = refQ d := by
  have e : -9223372036854775808 + d = -(9223372036854775808 - d) := by omega
  rw [e, Int.neg_tdiv, Int.tdiv_eq_ediv_of_nonneg (by omega)]; rfl

set_option maxHeartbeats 1000000 in
theorem refWhole_any (s : ByteArray) (w : World) (hs : s.size ≤ 70000000000000) :
    Calls Tryd.prog 84 #[.string s] w fun e w' => e = wholeE s.data.toList ∧ w = w' := by
  have hlen : s.data.toList.length = s.size := by rw [Array.length_toList]; rfl
  by_cases h0 : s.size = 0
  · have hl : s.data.toList = [] := List.eq_nil_of_length_eq_zero (by rw [hlen]; exact h0)
    have HW := Lib.hid (wholeE_none (l := s.data.toList) (by rw [hl]; rfl))
    clear hl hlen
    go_enter Tryd.func84, Tryd.ntmps84
    go_wp2
    go_loop [5, 7, 8] (fun i n o => i = .int .i64 0 ∧ n = .int .i64 0 ∧ o = .bool false) (fun _ _ _ => 0)
    case atStart => exact ⟨rfl, rfl, rfl⟩
    case round =>
      obtain ⟨rfl, rfl, rfl⟩ := hrel
      go_wp2
      go_ret3
      exact ⟨HW.out, rfl⟩
  · have hpos : 0 < s.size := by omega
    have hpos' : (0 : Int) < (s.size : Int) := by omega
    have hh : s.data.toList.head? = some s[0] := by
      rw [List.head?_eq_getElem?, List.getElem?_eq_getElem (by rw [hlen]; exact hpos)]; rfl
    have data : ∃ p : Nat, (p = 1 ∧ isNeg s.data.toList = true ∧ ((s[0].toNat : Int) == 45) = true) ∨ (p = 0 ∧ isNeg s.data.toList = false ∧ ((s[0].toNat : Int) == 45) = false) := by
      by_cases hx : ((s[0].toNat : Int) == 45) = true
      · refine ⟨1, .inl ⟨rfl, ?_, hx⟩⟩
        unfold isNeg; rw [hh]
        have : s[0] = 45 := UInt8.toNat_inj.1 (by simp at hx; have : s[0].toNat = 45 := by omega
                                                  exact this)
        rw [this]; rfl
      · rw [Bool.not_eq_true] at hx
        refine ⟨0, .inr ⟨rfl, ?_, hx⟩⟩
        unfold isNeg; rw [hh]
        cases hb : (some s[0] == some (45 : UInt8)) with
        | false => rfl
        | true =>
          have : s[0] = 45 := by simpa using hb
          rw [this] at hx
          exact absurd hx (by decide)
    obtain ⟨p, hp⟩ := data
    obtain ⟨R, hR⟩ : ∃ R, R = s.data.toList.drop p := ⟨_, rfl⟩
    have hRl : R.length = s.size - p := by rw [hR, List.length_drop, hlen]
    have haft : afterSign s.data.toList = R := by
      rw [hR]; unfold afterSign
      rcases hp with ⟨rfl, h, _⟩ | ⟨rfl, h, _⟩
      · rw [if_pos h, List.drop_one]
      · rw [if_neg (by rw [h]; simp)]; rfl
    have hRk : ∀ k (h : p + k < s.size) (h' : k < R.length), R[k] = s[p + k] := by
      intro k h h'
      subst hR
      rw [List.getElem_drop]; rfl
    have w0 := wholeE_none (l := s.data.toList)
    have w1 := wholeE_neg_over (l := s.data.toList)
    have w2 := wholeE_neg (l := s.data.toList)
    have w3 := wholeE_pos_over (l := s.data.toList)
    have w4 := wholeE_pos (l := s.data.toList)
    rw [haft] at w0 w1 w2 w3 w4
    have W0 := Lib.hid w0
    have W1 := Lib.hid w1
    have W2 := Lib.hid w2
    have W3 := Lib.hid w3
    have W4 := Lib.hid w4
    have HRK := Lib.hid hRk
    have HRL := Lib.hid hRl
    clear w0 w1 w2 w3 w4 haft hRk hRl hh hlen hR
    rcases hp with ⟨rfl, hneg, hx⟩ | ⟨rfl, hneg, hx⟩
    · have HNEG := Lib.hid hneg
      clear hneg
      go_enter Tryd.func84, Tryd.ntmps84
      go_wp2
      go_loop [5, 7, 8] (fun i n o => ∃ (k j : Nat) (a : Int) (b : Bool), i = .int .i64 j ∧ j ≤ s.size ∧ Hid (j = 1 + k) ∧ Hid ((R.take k).all isFig = true) ∧ n = .int .i64 a ∧ o = .bool b ∧ Hid (SoFar b a (natOf (R.take k)))) (fun i _ _ => s.size - (RowKit.intOf i).toNat)
      case atStart => exact ⟨0, 1, 0, false, rfl, hpos, rfl, rfl, rfl, rfl, .inr ⟨rfl, rfl, by rw [List.take_zero]; decide⟩⟩
      case round =>
        obtain ⟨k, j, a, b, rfl, hjs, HJ, HF, rfl, rfl, HS⟩ := hrel
        by_cases hlt : j < s.size
        · have hlt' : (j : Int) < (s.size : Int) := by omega
          obtain ⟨c, hc⟩ : ∃ c, s[j] = c := ⟨_, rfl⟩
          have HRC : Hid (∃ h : k < R.length, R[k] = c) := by
            have e := HJ.out
            subst e
            have h' : k < R.length := by rw [HRL.out]; omega
            exact ⟨h', (HRK.out k hlt h').trans hc⟩
          obtain ⟨z, hz⟩ : ∃ z : Int, (s[j].toNat : Int) = z := ⟨_, rfl⟩
          have HZ : Hid ((c.toNat : Int) = z) := by rw [hc] at hz; exact hz
          have hz0 : 0 ≤ z := by omega
          have hz1 : z ≤ 255 := by have := HZ.out; have := u8_lt c; omega
          clear hc
          have cls : (48 ≤ z ∧ z ≤ 57) ∨ z < 48 ∨ 57 < z := by omega
          rcases cls with ⟨hf0, hf1⟩ | hf | hf
          · have HC : Hid (isFig c = true) := by
              show isFig c = true
              unfold isFig; rw [HZ.out, decide_eq_true hf0, decide_eq_true hf1]; rfl
            have HT : Hid (R.take (k + 1) = R.take k ++ [c]) := by
              obtain ⟨h, hr⟩ := HRC.out
              show R.take (k + 1) = R.take k ++ [c]
              rw [take_snocW R k h, hr]
            have HF2 : Hid ((R.take (k + 1)).all isFig = true) := by
              show (R.take (k + 1)).all isFig = true
              rw [HT.out, List.all_append, HF.out]; simp [HC.out]
            have HNN : Hid ((natOf (R.take (k + 1)) : Int) = 10 * (natOf (R.take k) : Int) + (z - 48)) := by
              show (natOf (R.take (k + 1)) : Int) = 10 * (natOf (R.take k) : Int) + (z - 48)
              rw [HT.out, natOf_snoc]
              have := HZ.out
              unfold figV; omega
            have HJ2 : Hid (j + 1 = 1 + (k + 1)) := by
              show j + 1 = 1 + (k + 1)
              have := HJ.out; omega
            obtain ⟨q, hq⟩ : ∃ q, q = refQ (z - 48) := ⟨_, rfl⟩
            have hq1 := refQ_eq (z - 48) (by omega) (by omega)
            rw [← hq] at hq1
            have HQ := Lib.hid hq
            have hqb0 : -922337203685477580 ≤ q := by rw [hq]; unfold refQ; omega
            have hqb1 : q ≤ 0 := by rw [hq]; unfold refQ; omega
            clear hq
            cases b
            · have hfa : a = -(natOf (R.take k) : Int) ∧ (natOf (R.take k) : Int) ≤ 9223372036854775808 := by
                rcases HS.out with ⟨h, _⟩ | ⟨_, h⟩
                · cases h
                · exact h
              by_cases ho : a < q
              · have HS2 : ∀ x, Hid (SoFar true x (natOf (R.take (k + 1)))) := fun x => .inl ⟨rfl, by
                  rw [HNN.out]
                  have h1 := HQ.out
                  unfold refQ at h1
                  omega⟩
                clear hfa HS
                go_wp2
                go_round
                case rel => exact ⟨k + 1, j + 1, _, _, by go_num, by omega, HJ2, HF2, rfl, rfl, HS2 _⟩
                case measure => simp [RowKit.intOf]; omega
              · have hlo : -9223372036854775808 ≤ 10 * a - (z - 48) := by
                  have h1 := HQ.out
                  unfold refQ at h1
                  omega
                have ha1 : a ≤ 0 := by omega
                have ha2 : -9223372036854775808 ≤ a := by omega
                have HS2 : Hid (SoFar false (10 * a - (z - 48)) (natOf (R.take (k + 1)))) := .inr ⟨rfl, by rw [HNN.out]; omega, by rw [HNN.out]; omega⟩
                have hnot : ¬ (a = -922337203685477580 ∧ z = 57) := by
                  have h1 := HQ.out
                  unfold refQ at h1
                  omega
                clear hfa HS
                by_cases hm : (a == -922337203685477580) = true
                · have hd : (z - 48 == 9) = false := by
                    rw [beq_iff_eq] at hm
                    rw [beq_eq_false_iff_ne]; omega
                  clear hnot
                  go_wp2
                  go_round
                  case rel => exact ⟨k + 1, j + 1, _, _, by go_num, by omega, HJ2, HF2, rfl, rfl, HS2⟩
                  case measure => simp [RowKit.intOf]; omega
                · rw [Bool.not_eq_true] at hm
                  clear hnot
                  go_wp2
                  go_round
                  case rel => exact ⟨k + 1, j + 1, _, _, by go_num, by omega, HJ2, HF2, rfl, rfl, HS2⟩
                  case measure => simp [RowKit.intOf]; omega
            · have HS2 : ∀ x, Hid (SoFar true x (natOf (R.take (k + 1)))) := fun x => .inl ⟨rfl, by
                rw [HNN.out]
                rcases HS.out with ⟨_, h⟩ | ⟨h, _⟩
                · omega
                · cases h⟩
              clear HS
              go_wp2
              go_round
              case rel => exact ⟨k + 1, j + 1, _, _, by go_num, by omega, HJ2, HF2, rfl, rfl, HS2 _⟩
              case measure => simp [RowKit.intOf]; omega
          · have HFIG : Hid (figs R = R.take k) := by
              obtain ⟨h, hr⟩ := HRC.out
              refine figs_atL R k h HF.out ?_
              rw [hr]; unfold isFig; rw [HZ.out, Bool.and_eq_false_iff]; simp only [decide_eq_false_iff_not]; omega
            have HLEN : Hid ((figs R).length = k) := by
              show (figs R).length = k
              rw [HFIG.out, List.length_take, HRL.out]
              have := HJ.out; omega
            have HN : Hid ((natOf (figs R) : Int) = (natOf (R.take k) : Int)) := by
              show (natOf (figs R) : Int) = (natOf (R.take k) : Int)
              rw [HFIG.out]
            by_cases hk0 : k = 0
            · have hj0 : ((j : Int) == 1) = true := by
                rw [beq_iff_eq]; have := HJ.out; omega
              have HW := Lib.hid (W0.out (by rw [HLEN.out, hk0]))
              have HK := Lib.hid hk0
              clear hk0
              go_wp2
              go_ret3
              exact ⟨HW.out, rfl⟩
            · have hj0 : ((j : Int) == 1) = false := by
                rw [beq_eq_false_iff_ne]; have := HJ.out; omega
              have HNZ : Hid ((figs R).length ≠ 0) := by
                show (figs R).length ≠ 0
                rw [HLEN.out]; exact hk0
              rcases HS.out with ⟨rfl, hov⟩ | ⟨rfl, haN, hle⟩
              · have HW := Lib.hid (W1.out HNZ.out HNEG.out (by rw [HN.out]; exact hov))
                clear hov HS
                go_wp2
                go_ret3
                exact ⟨HW.out, rfl⟩
              · have HW := Lib.hid (W2.out HNZ.out HNEG.out (by rw [HN.out]; exact hle) (j : Int) (by rw [HLEN.out]; have := HJ.out; omega) a (by rw [HN.out]; exact haN))
                clear haN hle HS
                go_wp2
                go_ret3
                exact ⟨HW.out, rfl⟩
          · have HFIG : Hid (figs R = R.take k) := by
              obtain ⟨h, hr⟩ := HRC.out
              refine figs_atL R k h HF.out ?_
              rw [hr]; unfold isFig; rw [HZ.out, Bool.and_eq_false_iff]; simp only [decide_eq_false_iff_not]; omega
            have HLEN : Hid ((figs R).length = k) := by
              show (figs R).length = k
              rw [HFIG.out, List.length_take, HRL.out]
              have := HJ.out; omega
            have HN : Hid ((natOf (figs R) : Int) = (natOf (R.take k) : Int)) := by
              show (natOf (figs R) : Int) = (natOf (R.take k) : Int)
              rw [HFIG.out]
            by_cases hk0 : k = 0
            · have hj0 : ((j : Int) == 1) = true := by
                rw [beq_iff_eq]; have := HJ.out; omega
              have HW := Lib.hid (W0.out (by rw [HLEN.out, hk0]))
              have HK := Lib.hid hk0
              clear hk0
              go_wp2
              go_ret3
              exact ⟨HW.out, rfl⟩
            · have hj0 : ((j : Int) == 1) = false := by
                rw [beq_eq_false_iff_ne]; have := HJ.out; omega
              have HNZ : Hid ((figs R).length ≠ 0) := by
                show (figs R).length ≠ 0
                rw [HLEN.out]; exact hk0
              rcases HS.out with ⟨rfl, hov⟩ | ⟨rfl, haN, hle⟩
              · have HW := Lib.hid (W1.out HNZ.out HNEG.out (by rw [HN.out]; exact hov))
                clear hov HS
                go_wp2
                go_ret3
                exact ⟨HW.out, rfl⟩
              · have HW := Lib.hid (W2.out HNZ.out HNEG.out (by rw [HN.out]; exact hle) (j : Int) (by rw [HLEN.out]; have := HJ.out; omega) a (by rw [HN.out]; exact haN))
                clear haN hle HS
                go_wp2
                go_ret3
                exact ⟨HW.out, rfl⟩
        · have HFIG : Hid (figs R = R.take k) := by
            have h1 : R.length ≤ k := by rw [HRL.out]; have := HJ.out; omega
            have h2 := HF.out
            rw [List.take_of_length_le h1] at h2
            show figs R = R.take k
            rw [List.take_of_length_le h1, figs_all R h2]
          have hge : (s.size : Int) ≤ (j : Int) := by omega
          have HLEN : Hid ((figs R).length = k) := by
            show (figs R).length = k
            rw [HFIG.out, List.length_take, HRL.out]
            have := HJ.out; omega
          have HN : Hid ((natOf (figs R) : Int) = (natOf (R.take k) : Int)) := by
            show (natOf (figs R) : Int) = (natOf (R.take k) : Int)
            rw [HFIG.out]
          by_cases hk0 : k = 0
          · have hj0 : ((j : Int) == 1) = true := by
              rw [beq_iff_eq]; have := HJ.out; omega
            have HW := Lib.hid (W0.out (by rw [HLEN.out, hk0]))
            have HK := Lib.hid hk0
            clear hk0
            go_wp2
            go_ret3
            exact ⟨HW.out, rfl⟩
          · have hj0 : ((j : Int) == 1) = false := by
              rw [beq_eq_false_iff_ne]; have := HJ.out; omega
            have HNZ : Hid ((figs R).length ≠ 0) := by
              show (figs R).length ≠ 0
              rw [HLEN.out]; exact hk0
            rcases HS.out with ⟨rfl, hov⟩ | ⟨rfl, haN, hle⟩
            · have HW := Lib.hid (W1.out HNZ.out HNEG.out (by rw [HN.out]; exact hov))
              clear hov HS
              go_wp2
              go_ret3
              exact ⟨HW.out, rfl⟩
            · have HW := Lib.hid (W2.out HNZ.out HNEG.out (by rw [HN.out]; exact hle) (j : Int) (by rw [HLEN.out]; have := HJ.out; omega) a (by rw [HN.out]; exact haN))
              clear haN hle HS
              go_wp2
              go_ret3
              exact ⟨HW.out, rfl⟩
    · have HNEG := Lib.hid hneg
      clear hneg
      go_enter Tryd.func84, Tryd.ntmps84
      go_wp2
      go_loop [5, 7, 8] (fun i n o => ∃ (k j : Nat) (a : Int) (b : Bool), i = .int .i64 j ∧ j ≤ s.size ∧ Hid (j = 0 + k) ∧ Hid ((R.take k).all isFig = true) ∧ n = .int .i64 a ∧ o = .bool b ∧ Hid (SoFar b a (natOf (R.take k)))) (fun i _ _ => s.size - (RowKit.intOf i).toNat)
      case atStart => exact ⟨0, 0, 0, false, rfl, Nat.zero_le _, rfl, rfl, rfl, rfl, .inr ⟨rfl, rfl, by rw [List.take_zero]; decide⟩⟩
      case round =>
        obtain ⟨k, j, a, b, rfl, hjs, HJ, HF, rfl, rfl, HS⟩ := hrel
        by_cases hlt : j < s.size
        · have hlt' : (j : Int) < (s.size : Int) := by omega
          obtain ⟨c, hc⟩ : ∃ c, s[j] = c := ⟨_, rfl⟩
          have HRC : Hid (∃ h : k < R.length, R[k] = c) := by
            have e := HJ.out
            subst e
            have h' : k < R.length := by rw [HRL.out]; omega
            exact ⟨h', (HRK.out k hlt h').trans hc⟩
          obtain ⟨z, hz⟩ : ∃ z : Int, (s[j].toNat : Int) = z := ⟨_, rfl⟩
          have HZ : Hid ((c.toNat : Int) = z) := by rw [hc] at hz; exact hz
          have hz0 : 0 ≤ z := by omega
          have hz1 : z ≤ 255 := by have := HZ.out; have := u8_lt c; omega
          clear hc
          have cls : (48 ≤ z ∧ z ≤ 57) ∨ z < 48 ∨ 57 < z := by omega
          rcases cls with ⟨hf0, hf1⟩ | hf | hf
          · have HC : Hid (isFig c = true) := by
              show isFig c = true
              unfold isFig; rw [HZ.out, decide_eq_true hf0, decide_eq_true hf1]; rfl
            have HT : Hid (R.take (k + 1) = R.take k ++ [c]) := by
              obtain ⟨h, hr⟩ := HRC.out
              show R.take (k + 1) = R.take k ++ [c]
              rw [take_snocW R k h, hr]
            have HF2 : Hid ((R.take (k + 1)).all isFig = true) := by
              show (R.take (k + 1)).all isFig = true
              rw [HT.out, List.all_append, HF.out]; simp [HC.out]
            have HNN : Hid ((natOf (R.take (k + 1)) : Int) = 10 * (natOf (R.take k) : Int) + (z - 48)) := by
              show (natOf (R.take (k + 1)) : Int) = 10 * (natOf (R.take k) : Int) + (z - 48)
              rw [HT.out, natOf_snoc]
              have := HZ.out
              unfold figV; omega
            have HJ2 : Hid (j + 1 = 0 + (k + 1)) := by
              show j + 1 = 0 + (k + 1)
              have := HJ.out; omega
            obtain ⟨q, hq⟩ : ∃ q, q = refQ (z - 48) := ⟨_, rfl⟩
            have hq1 := refQ_eq (z - 48) (by omega) (by omega)
            rw [← hq] at hq1
            have HQ := Lib.hid hq
            have hqb0 : -922337203685477580 ≤ q := by rw [hq]; unfold refQ; omega
            have hqb1 : q ≤ 0 := by rw [hq]; unfold refQ; omega
            clear hq
            cases b
            · have hfa : a = -(natOf (R.take k) : Int) ∧ (natOf (R.take k) : Int) ≤ 9223372036854775808 := by
                rcases HS.out with ⟨h, _⟩ | ⟨_, h⟩
                · cases h
                · exact h
              by_cases ho : a < q
              · have HS2 : ∀ x, Hid (SoFar true x (natOf (R.take (k + 1)))) := fun x => .inl ⟨rfl, by
                  rw [HNN.out]
                  have h1 := HQ.out
                  unfold refQ at h1
                  omega⟩
                clear hfa HS
                go_wp2
                go_round
                case rel => exact ⟨k + 1, j + 1, _, _, by go_num, by omega, HJ2, HF2, rfl, rfl, HS2 _⟩
                case measure => simp [RowKit.intOf]; omega
              · have hlo : -9223372036854775808 ≤ 10 * a - (z - 48) := by
                  have h1 := HQ.out
                  unfold refQ at h1
                  omega
                have ha1 : a ≤ 0 := by omega
                have ha2 : -9223372036854775808 ≤ a := by omega
                have HS2 : Hid (SoFar false (10 * a - (z - 48)) (natOf (R.take (k + 1)))) := .inr ⟨rfl, by rw [HNN.out]; omega, by rw [HNN.out]; omega⟩
                have hnot : ¬ (a = -922337203685477580 ∧ z = 57) := by
                  have h1 := HQ.out
                  unfold refQ at h1
                  omega
                clear hfa HS
                by_cases hm : (a == -922337203685477580) = true
                · have hd : (z - 48 == 9) = false := by
                    rw [beq_iff_eq] at hm
                    rw [beq_eq_false_iff_ne]; omega
                  clear hnot
                  go_wp2
                  go_round
                  case rel => exact ⟨k + 1, j + 1, _, _, by go_num, by omega, HJ2, HF2, rfl, rfl, HS2⟩
                  case measure => simp [RowKit.intOf]; omega
                · rw [Bool.not_eq_true] at hm
                  clear hnot
                  go_wp2
                  go_round
                  case rel => exact ⟨k + 1, j + 1, _, _, by go_num, by omega, HJ2, HF2, rfl, rfl, HS2⟩
                  case measure => simp [RowKit.intOf]; omega
            · have HS2 : ∀ x, Hid (SoFar true x (natOf (R.take (k + 1)))) := fun x => .inl ⟨rfl, by
                rw [HNN.out]
                rcases HS.out with ⟨_, h⟩ | ⟨h, _⟩
                · omega
                · cases h⟩
              clear HS
              go_wp2
              go_round
              case rel => exact ⟨k + 1, j + 1, _, _, by go_num, by omega, HJ2, HF2, rfl, rfl, HS2 _⟩
              case measure => simp [RowKit.intOf]; omega
          · have HFIG : Hid (figs R = R.take k) := by
              obtain ⟨h, hr⟩ := HRC.out
              refine figs_atL R k h HF.out ?_
              rw [hr]; unfold isFig; rw [HZ.out, Bool.and_eq_false_iff]; simp only [decide_eq_false_iff_not]; omega
            have HLEN : Hid ((figs R).length = k) := by
              show (figs R).length = k
              rw [HFIG.out, List.length_take, HRL.out]
              have := HJ.out; omega
            have HN : Hid ((natOf (figs R) : Int) = (natOf (R.take k) : Int)) := by
              show (natOf (figs R) : Int) = (natOf (R.take k) : Int)
              rw [HFIG.out]
            by_cases hk0 : k = 0
            · have hj0 : ((j : Int) == 0) = true := by
                rw [beq_iff_eq]; have := HJ.out; omega
              have HW := Lib.hid (W0.out (by rw [HLEN.out, hk0]))
              have HK := Lib.hid hk0
              clear hk0
              go_wp2
              go_ret3
              exact ⟨HW.out, rfl⟩
            · have hj0 : ((j : Int) == 0) = false := by
                rw [beq_eq_false_iff_ne]; have := HJ.out; omega
              have HNZ : Hid ((figs R).length ≠ 0) := by
                show (figs R).length ≠ 0
                rw [HLEN.out]; exact hk0
              rcases HS.out with ⟨rfl, hov⟩ | ⟨rfl, haN, hle⟩
              · have HW := Lib.hid (W3.out HNZ.out HNEG.out (by rw [HN.out]; omega))
                clear hov HS
                by_cases hmin : (a == -9223372036854775808) = true
                · go_wp2
                  go_ret3
                  exact ⟨HW.out, rfl⟩
                · rw [Bool.not_eq_true] at hmin
                  go_wp2
                  go_ret3
                  exact ⟨HW.out, rfl⟩
              · by_cases hmin : (a == -9223372036854775808) = true
                · have HW := Lib.hid (W3.out HNZ.out HNEG.out (by rw [HN.out]; rw [beq_iff_eq] at hmin; omega))
                  clear haN hle HS
                  go_wp2
                  go_ret3
                  exact ⟨HW.out, rfl⟩
                · rw [Bool.not_eq_true] at hmin
                  have hne := beq_eq_false_iff_ne.1 hmin
                  have HW := Lib.hid (W4.out HNZ.out HNEG.out (by rw [HN.out]; omega) (j : Int) (by rw [HLEN.out]; have := HJ.out; omega) (-a) (by rw [HN.out]; omega))
                  have ha0 : -9223372036854775807 ≤ a := by omega
                  have ha1 : a ≤ 0 := by omega
                  clear haN hle HS hne
                  go_wp2
                  go_ret3
                  exact ⟨HW.out, rfl⟩
          · have HFIG : Hid (figs R = R.take k) := by
              obtain ⟨h, hr⟩ := HRC.out
              refine figs_atL R k h HF.out ?_
              rw [hr]; unfold isFig; rw [HZ.out, Bool.and_eq_false_iff]; simp only [decide_eq_false_iff_not]; omega
            have HLEN : Hid ((figs R).length = k) := by
              show (figs R).length = k
              rw [HFIG.out, List.length_take, HRL.out]
              have := HJ.out; omega
            have HN : Hid ((natOf (figs R) : Int) = (natOf (R.take k) : Int)) := by
              show (natOf (figs R) : Int) = (natOf (R.take k) : Int)
              rw [HFIG.out]
            by_cases hk0 : k = 0
            · have hj0 : ((j : Int) == 0) = true := by
                rw [beq_iff_eq]; have := HJ.out; omega
              have HW := Lib.hid (W0.out (by rw [HLEN.out, hk0]))
              have HK := Lib.hid hk0
              clear hk0
              go_wp2
              go_ret3
              exact ⟨HW.out, rfl⟩
            · have hj0 : ((j : Int) == 0) = false := by
                rw [beq_eq_false_iff_ne]; have := HJ.out; omega
              have HNZ : Hid ((figs R).length ≠ 0) := by
                show (figs R).length ≠ 0
                rw [HLEN.out]; exact hk0
              rcases HS.out with ⟨rfl, hov⟩ | ⟨rfl, haN, hle⟩
              · have HW := Lib.hid (W3.out HNZ.out HNEG.out (by rw [HN.out]; omega))
                clear hov HS
                by_cases hmin : (a == -9223372036854775808) = true
                · go_wp2
                  go_ret3
                  exact ⟨HW.out, rfl⟩
                · rw [Bool.not_eq_true] at hmin
                  go_wp2
                  go_ret3
                  exact ⟨HW.out, rfl⟩
              · by_cases hmin : (a == -9223372036854775808) = true
                · have HW := Lib.hid (W3.out HNZ.out HNEG.out (by rw [HN.out]; rw [beq_iff_eq] at hmin; omega))
                  clear haN hle HS
                  go_wp2
                  go_ret3
                  exact ⟨HW.out, rfl⟩
                · rw [Bool.not_eq_true] at hmin
                  have hne := beq_eq_false_iff_ne.1 hmin
                  have HW := Lib.hid (W4.out HNZ.out HNEG.out (by rw [HN.out]; omega) (j : Int) (by rw [HLEN.out]; have := HJ.out; omega) (-a) (by rw [HN.out]; omega))
                  have ha0 : -9223372036854775807 ≤ a := by omega
                  have ha1 : a ≤ 0 := by omega
                  clear haN hle HS hne
                  go_wp2
                  go_ret3
                  exact ⟨HW.out, rfl⟩
        · have HFIG : Hid (figs R = R.take k) := by
            have h1 : R.length ≤ k := by rw [HRL.out]; have := HJ.out; omega
            have h2 := HF.out
            rw [List.take_of_length_le h1] at h2
            show figs R = R.take k
            rw [List.take_of_length_le h1, figs_all R h2]
          have hge : (s.size : Int) ≤ (j : Int) := by omega
          have HLEN : Hid ((figs R).length = k) := by
            show (figs R).length = k
            rw [HFIG.out, List.length_take, HRL.out]
            have := HJ.out; omega
          have HN : Hid ((natOf (figs R) : Int) = (natOf (R.take k) : Int)) := by
            show (natOf (figs R) : Int) = (natOf (R.take k) : Int)
            rw [HFIG.out]
          by_cases hk0 : k = 0
          · have hj0 : ((j : Int) == 0) = true := by
              rw [beq_iff_eq]; have := HJ.out; omega
            have HW := Lib.hid (W0.out (by rw [HLEN.out, hk0]))
            have HK := Lib.hid hk0
            clear hk0
            go_wp2
            go_ret3
            exact ⟨HW.out, rfl⟩
          · have hj0 : ((j : Int) == 0) = false := by
              rw [beq_eq_false_iff_ne]; have := HJ.out; omega
            have HNZ : Hid ((figs R).length ≠ 0) := by
              show (figs R).length ≠ 0
              rw [HLEN.out]; exact hk0
            rcases HS.out with ⟨rfl, hov⟩ | ⟨rfl, haN, hle⟩
            · have HW := Lib.hid (W3.out HNZ.out HNEG.out (by rw [HN.out]; omega))
              clear hov HS
              by_cases hmin : (a == -9223372036854775808) = true
              · go_wp2
                go_ret3
                exact ⟨HW.out, rfl⟩
              · rw [Bool.not_eq_true] at hmin
                go_wp2
                go_ret3
                exact ⟨HW.out, rfl⟩
            · by_cases hmin : (a == -9223372036854775808) = true
              · have HW := Lib.hid (W3.out HNZ.out HNEG.out (by rw [HN.out]; rw [beq_iff_eq] at hmin; omega))
                clear haN hle HS
                go_wp2
                go_ret3
                exact ⟨HW.out, rfl⟩
              · rw [Bool.not_eq_true] at hmin
                have hne := beq_eq_false_iff_ne.1 hmin
                have HW := Lib.hid (W4.out HNZ.out HNEG.out (by rw [HN.out]; omega) (j : Int) (by rw [HLEN.out]; have := HJ.out; omega) (-a) (by rw [HN.out]; omega))
                have ha0 : -9223372036854775807 ≤ a := by omega
                have ha1 : a ≤ 0 := by omega
                clear haN hle HS hne
                go_wp2
                go_ret3
                exact ⟨HW.out, rfl⟩
end Go.Proofs.YtaaecgglocgcmaaDoor
namespace Go.Proofs.YtaaecgglocgcmaaDoor
open Go.RowKit Go.Lib

/-- The marks' table and the variables lie below the reckoner. -/
def EnvA (p : Nat) (vv : Value) (vs : List Vr) (w : World) : Prop := Marks p w ∧ Vars p vv vs w
theorem EnvA.below {p : Nat} {vv : Value} {vs : List Vr} {w w' : World} (h : EnvA p vv vs w) (hb : Below p w w') : EnvA p vv vs w' := ⟨h.1.below hb, h.2.below hb⟩
/-- Nothing is asked where a text is only read; else it can be read. -/
def Good (i : Bool) (R : Pr) : Prop := i = true ∨ ∃ ex l, R = .ok ex l
/-- Why a method panics. -/
def Why (i : Bool) (V : List UInt8 → Cm) (R : Pr) (x : Int) : Prop := R = .bad x ∨ i = false ∧ ∃ ex l, R = .ok ex l ∧ ev V ex = .no x
theorem AnsA.why {p : Nat} {vv : Value} {d : Nat} {i : Bool} {V : List UInt8 → Cm} {R : Pr} {w w' : World} {x : Int} (h : Why i V R x) (hb : Below p w w') : AnsA p vv d i V w R (errA x) w' := by
  rcases h with h | ⟨h, ex, l, h1, h2⟩
  · rw [h]; exact AnsA.bad hb
  · rw [h, h1]; exact AnsA.no h2 hb
/-- How a method goes well. -/
def Well (p : Nat) (vv : Value) (d : Nat) (i : Bool) (V : List UInt8 → Cm) (ex : Ex) (l : List UInt8) (e : Ending) (w' : World) : Prop := ∃ n, (i = false → ev V ex = .is n) ∧ e = .returned (.int .i64 n) ∧ Rk p l vv d i w'
theorem split_ans {p : Nat} {vv : Value} {d : Nat} {i : Bool} {V : List UInt8 → Cm} {R : Pr} {F : FuncId} {args : Array Value} {C : World → Prop}
    (h : ∀ w, C w → Calls Tryd.prog F args w (AnsA p vv d i V w R)) :
    (∃ x, Why i V R x ∧ ∀ w, C w → Calls Tryd.prog F args w fun e w' => e = errA x ∧ Below p w w') ∨
    (∃ ex l, R = .ok ex l ∧ ∀ w, C w → Calls Tryd.prog F args w fun e w' => Well p vv d i V ex l e w' ∧ Below p w w') := by
  cases R with
  | bad x => exact .inl ⟨x, .inl rfl, fun w hC => (h w hC).mono (by rintro e w' ⟨h1, hb⟩; exact ⟨h1, hb⟩)⟩
  | ok ex l =>
    cases i
    · cases he : ev V ex with
      | is n =>
        refine .inr ⟨ex, l, rfl, fun w hC => (h w hC).mono ?_⟩
        rintro e w' ⟨h1, hb⟩
        have h1 : (if false = true then ∃ n, e = .returned (.int .i64 n) ∧ Rk p l vv d false w' else match ev V ex with | .is n => e = .returned (.int .i64 n) ∧ Rk p l vv d false w' | .no x => e = errA x) := h1
        rw [if_neg (by simp), he] at h1
        exact ⟨⟨n, fun _ => he, h1⟩, hb⟩
      | no x =>
        refine .inl ⟨x, .inr ⟨rfl, ex, l, rfl, he⟩, fun w hC => (h w hC).mono ?_⟩
        rintro e w' ⟨h1, hb⟩
        have h1 : (if false = true then ∃ n, e = .returned (.int .i64 n) ∧ Rk p l vv d false w' else match ev V ex with | .is n => e = .returned (.int .i64 n) ∧ Rk p l vv d false w' | .no x => e = errA x) := h1
        rw [if_neg (by simp), he] at h1
        exact ⟨h1, hb⟩
    · refine .inr ⟨ex, l, rfl, fun w hC => (h w hC).mono ?_⟩
      rintro e w' ⟨h1, hb⟩
      have h1 : (if true = true then ∃ n, e = .returned (.int .i64 n) ∧ Rk p l vv d true w' else match ev V ex with | .is n => e = .returned (.int .i64 n) ∧ Rk p l vv d true w' | .no x => e = errA x) := h1
      rw [if_pos rfl] at h1
      obtain ⟨n, h1, h2⟩ := h1
      exact ⟨⟨n, fun h => (by cases h), h1, h2⟩, hb⟩
/-- What reading comes to takes no more than there is. -/
theorem pF_short {f : Nat} {j : Job} {d : Nat} {l r : List UInt8} {e : Ex} (hj : okJ j) (h : pF f j d l = .ok e r) : r.length ≤ l.length := by
  have h1 : pF (max f (needA j l)) j d l = .ok e r := by rw [pF_mono (by rw [h]; simp) (Nat.le_max_left _ _), h]
  have h2 := (pF_enough (max f (needA j l)) j d l hj (Nat.le_max_right _ _)).2 e r h1
  cases j with
  | un => exact Nat.le_of_lt h2
  | row k => exact Nat.le_of_lt h2
  | more k e => exact h2
/-- What goes wrong on the left goes wrong in all. -/
theorem more_no (V : List UInt8 → Cm) : ∀ (f k : Nat) (e : Ex) (d : Nat) (l r : List UInt8) (E : Ex) (x : Int), pF f (.more k e) d l = .ok E r → ev V e = .no x → ev V E = .no x
  | 0, k, e, d, l, r, E, x, h, _ => by simp [pF] at h
  | f + 1, k, e, d, l, r, E, x, h, hx => by
    unfold pF at h
    cases hm : markIn (marksAt k) l with
    | none => rw [hm] at h; simp only [] at h; cases h; exact hx
    | some mr =>
      obtain ⟨m, r1⟩ := mr
      rw [hm] at h
      simp only [] at h
      cases hr : pF f (.row (k + 1)) d r1 with
      | bad y => rw [hr] at h; cases h
      | ok b r2 =>
        rw [hr] at h
        simp only [] at h
        refine more_no V f k _ d r2 r E x h ?_
        show (match ev V e with | .no x => Cm.no x | .is x => if idleA m x then opD m x 0 else match ev V b with | .no y => .no y | .is y => opD m x y) = .no x
        rw [hx]
end Go.Proofs.YtaaecgglocgcmaaDoor
namespace Go.Proofs.YtaaecgglocgcmaaDoor
open Go.RowKit Go.Lib

def binR (m : Mk) (e : Ex) : Pr → Pr
  | .ok b l => .ok (.bin m e b) l
  | .bad x => .bad x
theorem op_idle (m : Mk) (a n : Int) (h : idleA m a = true) : opD m a n = opD m a 0 := by
  cases m <;> first | cases h | skip
  · have h : (a != 0) = true := h
    simp [opD, h]
  · have h : (a == 0) = true := h
    have h2 : (a != 0) = false := by simpa using h
    simp [opD, h2]
theorem bin_ev (V : List UInt8 → Cm) (m : Mk) (e b : Ex) (a : Int) (he : ev V e = .is a) : ev V (.bin m e b) = if idleA m a then opD m a 0 else match ev V b with | .no y => .no y | .is y => opD m a y := by
  show (match ev V e with | .no x => Cm.no x | .is x => if idleA m x then opD m x 0 else match ev V b with | .no y => .no y | .is y => opD m x y) = _
  rw [he]

/-- Which mark it is, as far as it matters whether what stands on the right is reckoned. -/
def MarkW (M : ByteArray) (a : Int) (j : Bool) : Prop :=
  (M.toList = [124, 124] ∧ ((a == 0) = true ∧ (a != 0) = false) ∧ j = false) ∨ (M.toList = [124, 124] ∧ ((a == 0) = false ∧ (a != 0) = true) ∧ j = true) ∨ (¬ M.toList = [124, 124] ∧ M.toList = [38, 38] ∧ ((a == 0) = true ∧ (a != 0) = false) ∧ j = true) ∨ (¬ M.toList = [124, 124] ∧ M.toList = [38, 38] ∧ ((a == 0) = false ∧ (a != 0) = true) ∧ j = false) ∨ (¬ M.toList = [124, 124] ∧ ¬ M.toList = [38, 38] ∧ j = false)
theorem markW_any (m : Mk) (a : Int) : MarkW ⟨(markTx m).toArray⟩ a (idleA m a) := by
  unfold MarkW
  rw [ByteArray.toList_eq]
  by_cases ha : a = 0
  · subst ha
    cases m <;> simp [markTx, idleA]
  · cases m <;> simp [markTx, idleA, ha]
/-- What joined does where what stands on the right goes wrong. -/
theorem joined_bad (p K : Nat) (r : List UInt8) (vv : Value) (d : Nat) (i j : Bool) (a x : Int) (M : ByteArray) (w : World) (C : World → Prop) (h : Rk p r vv d i w) (hM : i = false → MarkW M a j) (hij : i = true → j = true)
    (hC : ∀ w', Rk p r vv d j w' → Below p w w' → C w')
    (kr : ∀ w, C w → Calls Tryd.prog 31 #[.pointer (some ⟨p, 0, none⟩), .int .i64 (K : Int)] w fun e w' => e = errA x ∧ Below p w w') :
    Calls Tryd.prog 44 #[.pointer (some ⟨p, 0, none⟩), .int .i64 a, .string M, .int .i64 (K : Int)] w fun e w' => e = errA x ∧ Below p w w' := by
  obtain ⟨c0, c1, c2, c3, f0, f1, f2, f3⟩ := h.cells
  have PUT := Lib.hid (And.intro (h.idle j) ((Below.refl p w).setCell (p := ⟨p, 3, none⟩) (Nat.le_refl _) (.bool j)))
  have k2 := kr _ (hC _ PUT.out.1 PUT.out.2)
  clear h kr hC c0 c1 c2 f0 f1 f2
  unfold errA at k2 ⊢
  cases i
  · have hM := hM rfl
    clear hij
    rcases hM with ⟨g1, ⟨g2, g3⟩, rfl⟩ | ⟨g1, ⟨g2, g3⟩, rfl⟩ | ⟨g1, g4, ⟨g2, g3⟩, rfl⟩ | ⟨g1, g4, ⟨g2, g3⟩, rfl⟩ | ⟨g1, g4, rfl⟩
    all_goals
      go_enter Tryd.func44, Tryd.ntmps44
      go_wp2_with (go_at_call 31; (with_reducible refine k2.mono ?_); rintro e w1 ⟨rfl, hb1⟩)
      exact ⟨rfl, rfl, PUT.out.2.trans hb1⟩
  · have hj := hij rfl
    subst hj
    clear hM hij
    go_enter Tryd.func44, Tryd.ntmps44
    go_wp2_with (go_at_call 31; (with_reducible refine k2.mono ?_); rintro e w1 ⟨rfl, hb1⟩)
    exact ⟨rfl, rfl, PUT.out.2.trans hb1⟩
def JoinP (p : Nat) (l : List UInt8) (vv : Value) (d : Nat) : Bool → Cm → Ending → World → Prop
  | true, _, e, w' => e = .returned (.int .i64 0) ∧ Rk p l vv d true w'
  | false, .is n, e, w' => e = .returned (.int .i64 n) ∧ Rk p l vv d false w'
  | false, .no x, e, _ => e = errA x
/-- What joined does where what stands on the right goes well. -/
theorem joined_well (p K : Nat) (r l : List UInt8) (vv : Value) (d : Nat) (i j : Bool) (a : Int) (Q : Int → Prop) (c : Cm) (M : ByteArray) (w : World) (C : World → Prop) (h : Rk p r vv d i w) (hM : i = false → MarkW M a j) (hij : i = true → j = true)
    (hC : ∀ w', Rk p r vv d j w' → Below p w w' → C w')
    (kr : ∀ w, C w → Calls Tryd.prog 31 #[.pointer (some ⟨p, 0, none⟩), .int .i64 (K : Int)] w fun e w' => (∃ n, Q n ∧ e = .returned (.int .i64 n) ∧ Rk p l vv d j w') ∧ Below p w w')
    (ko : i = false → ∀ n, Q n → ∀ w, Calls Tryd.prog 53 #[.int .i64 a, .string M, .int .i64 n] w fun e w' => CmP c e ∧ w' = w) :
    Calls Tryd.prog 44 #[.pointer (some ⟨p, 0, none⟩), .int .i64 a, .string M, .int .i64 (K : Int)] w fun e w' => JoinP p l vv d i c e w' ∧ Below p w w' := by
  obtain ⟨c0, c1, c2, c3, f0, f1, f2, f3⟩ := h.cells
  have PUT := Lib.hid (And.intro (h.idle j) ((Below.refl p w).setCell (p := ⟨p, 3, none⟩) (Nat.le_refl _) (.bool j)))
  have BACK := Lib.hid (fun (w1 : World) (h1 : Rk p l vv d j w1) (hb : Below p (w.setCell ⟨p, 3, none⟩ (.bool j)) w1) => (And.intro (h1.idle i) ((PUT.out.2.trans hb).setCell (p := ⟨p, 3, none⟩) (Nat.le_refl _) (.bool i))))
  have k2 := kr _ (hC _ PUT.out.1 PUT.out.2)
  clear h kr hC c0 c1 c2 f0 f1 f2
  cases i
  · have hM := hM rfl
    have ko2 := ko rfl
    clear hij ko
    cases c with
    | is z =>
      simp only [CmP] at ko2
      change Calls Tryd.prog 44 #[.pointer (some ⟨p, 0, none⟩), .int .i64 a, .string M, .int .i64 (K : Int)] w fun e w' => (e = .returned (.int .i64 z) ∧ Rk p l vv d false w') ∧ Below p w w'
      rcases hM with ⟨g1, ⟨g2, g3⟩, rfl⟩ | ⟨g1, ⟨g2, g3⟩, rfl⟩ | ⟨g1, g4, ⟨g2, g3⟩, rfl⟩ | ⟨g1, g4, ⟨g2, g3⟩, rfl⟩ | ⟨g1, g4, rfl⟩
      all_goals
        go_enter Tryd.func44, Tryd.ntmps44
        go_wp2_with (first
          | (go_at_call 31; (with_reducible refine k2.mono ?_); rintro e w1 ⟨⟨n, hq, rfl, h1⟩, hb1⟩; have ko3 := ko2 n hq; have e3 := h1.cells.2.2.2.1; have e4 := h1.cells.2.2.2.2.2.2.2; have H1 := Lib.hid h1; have HB1 := Lib.hid hb1; clear h1 hb1)
          | (go_at_call 53; (with_reducible refine (ko3 _).mono ?_); rintro e w2 ⟨rfl, rfl⟩))
        refine bodyPost_ret (results_tmp rfl _ _ _) rfl ?_
        exact ⟨⟨rfl, (BACK.out _ H1.out HB1.out).1⟩, (BACK.out _ H1.out HB1.out).2⟩
    | no x =>
      simp only [CmP, errA] at ko2
      change Calls Tryd.prog 44 #[.pointer (some ⟨p, 0, none⟩), .int .i64 a, .string M, .int .i64 (K : Int)] w fun e w' => e = errA x ∧ Below p w w'
      unfold errA
      rcases hM with ⟨g1, ⟨g2, g3⟩, rfl⟩ | ⟨g1, ⟨g2, g3⟩, rfl⟩ | ⟨g1, g4, ⟨g2, g3⟩, rfl⟩ | ⟨g1, g4, ⟨g2, g3⟩, rfl⟩ | ⟨g1, g4, rfl⟩
      all_goals
        go_enter Tryd.func44, Tryd.ntmps44
        go_wp2_with (first
          | (go_at_call 31; (with_reducible refine k2.mono ?_); rintro e w1 ⟨⟨n, hq, rfl, h1⟩, hb1⟩; have ko3 := ko2 n hq; have e3 := h1.cells.2.2.2.1; have e4 := h1.cells.2.2.2.2.2.2.2; have H1 := Lib.hid h1; have HB1 := Lib.hid hb1; clear h1 hb1)
          | (go_at_call 53; (with_reducible refine (ko3 _).mono ?_); rintro e w2 ⟨rfl, rfl⟩))
        exact ⟨rfl, rfl, (BACK.out _ H1.out HB1.out).2⟩
  · have hj := hij rfl
    subst hj
    change Calls Tryd.prog 44 #[.pointer (some ⟨p, 0, none⟩), .int .i64 a, .string M, .int .i64 (K : Int)] w fun e w' => (e = .returned (.int .i64 0) ∧ Rk p l vv d true w') ∧ Below p w w'
    clear hM hij ko
    go_enter Tryd.func44, Tryd.ntmps44
    go_wp2_with (go_at_call 31; (with_reducible refine k2.mono ?_); rintro e w1 ⟨⟨n, hq, rfl, h1⟩, hb1⟩; have e3 := h1.cells.2.2.2.1; have e4 := h1.cells.2.2.2.2.2.2.2; have H1 := Lib.hid h1; have HB1 := Lib.hid hb1; clear h1 hb1)
    refine bodyPost_ret (results_tmp rfl _ _ _) rfl ?_
    exact ⟨⟨rfl, (BACK.out _ H1.out HB1.out).1⟩, (BACK.out _ H1.out HB1.out).2⟩
theorem joinedA_any (p K : Nat) (r : List UInt8) (vv : Value) (vs : List Vr) (d : Nat) (i : Bool) (V : List UInt8 → Cm) (m : Mk) (e : Ex) (a : Int) (R2 : Pr) (w : World) (h : Rk p r vv d i w) (hE : EnvA p vv vs w) (hg : Good i R2) (he : i = false → ev V e = .is a)
    (kr : ∀ j, Good j R2 → ∀ w, (Rk p r vv d j w ∧ EnvA p vv vs w) → Calls Tryd.prog 31 #[.pointer (some ⟨p, 0, none⟩), .int .i64 (K : Int)] w (AnsA p vv d j V w R2)) :
    Calls Tryd.prog 44 #[.pointer (some ⟨p, 0, none⟩), .int .i64 a, .string ⟨(markTx m).toArray⟩, .int .i64 (K : Int)] w (AnsA p vv d i V w (binR m e R2)) := by
  obtain ⟨j, hj⟩ : ∃ j, j = (i || idleA m a) := ⟨_, rfl⟩
  have hgj : Good j R2 := by
    rcases hg with h | h
    · exact .inl (by rw [hj, h]; rfl)
    · exact .inr h
  have hM : i = false → MarkW ⟨(markTx m).toArray⟩ a j := fun hi => by rw [hj, hi]; exact markW_any m a
  have hij : i = true → j = true := fun hi => by rw [hj, hi]; rfl
  have hC : ∀ w', Rk p r vv d j w' → Below p w w' → (Rk p r vv d j w' ∧ EnvA p vv vs w') := fun w' h1 hb => ⟨h1, hE.below hb⟩
  rcases split_ans (kr j hgj) with ⟨x, hw, k⟩ | ⟨b, l, rfl, k⟩
  · refine (joined_bad p K r vv d i j a x _ w _ h hM hij hC k).mono ?_
    rintro e' w' ⟨rfl, hb⟩
    refine AnsA.why ?_ hb
    rcases hw with rfl | ⟨hj0, b, l, rfl, hx⟩
    · exact .inl rfl
    · rw [hj0] at hj
      have hj := hj.symm
      rw [Bool.or_eq_false_iff] at hj
      refine .inr ⟨hj.1, .bin m e b, l, rfl, ?_⟩
      rw [bin_ev V m e b a (he hj.1), if_neg (by rw [hj.2]; simp), hx]
  · refine (joined_well p K r l vv d i j a (fun n => j = false → ev V b = .is n) (ev V (.bin m e b)) _ w _ h hM hij hC k ?_).mono ?_
    · intro hi n hq w1
      rw [bin_ev V m e b a (he hi)]
      have hof := ofA_any m a n w1
      cases hid : idleA m a
      · rw [if_neg (by simp), hq (by rw [hj, hi, hid]; rfl)]
        exact hof
      · rw [if_pos rfl, ← op_idle m a n hid]
        exact hof
    · rintro e' w' ⟨h1, hb⟩
      refine ⟨?_, hb⟩
      cases i
      · show if false = true then _ else _
        rw [if_neg (by simp)]
        cases hv : ev V (.bin m e b) with
        | is n => rw [hv] at h1; exact h1
        | no x => rw [hv] at h1; exact h1
      · show if true = true then _ else _
        rw [if_pos rfl]
        exact ⟨0, h1.1, h1.2⟩
end Go.Proofs.YtaaecgglocgcmaaDoor
