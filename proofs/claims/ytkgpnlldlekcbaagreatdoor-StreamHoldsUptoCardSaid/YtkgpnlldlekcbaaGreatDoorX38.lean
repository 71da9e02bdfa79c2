/- Packed texts: StHolds, StreamHoldsWalk. What each of them proves stands above its theorems; the conditions stand in these. -/
import Derived.Test.YtkgpnlldlekcbaaGreatDoorX12
import Derived.Test.YtkgpnlldlekcbaaGreatDoorX14
import Derived.Test.YtkgpnlldlekcbaaGreatDoorX16
import Derived.Test.YtkgpnlldlekcbaaGreatDoorX35
import Derived.Test.YtkgpnlldlekcbaaGreatDoorX36
namespace Go.Proofs.YtkgpnlldlekcbaaGreatDoor
open Go.RowKit Go.Lib

/-- The lines' first k, turned round, an end behind each. -/
def endR (xs : List ByteArray) : Nat → ByteArray
  | 0 => ⟨#[]⟩
  | k + 1 => xs.getD k ⟨#[]⟩ ++ ⟨#[10]⟩ ++ endR xs k
/-- .. an end between. -/
def hB (xs : List ByteArray) : Nat → ByteArray
  | 0 => ⟨#[]⟩
  | k + 1 => if k = 0 then xs.getD 0 ⟨#[]⟩ else xs.getD k ⟨#[]⟩ ++ (lineB ++ hB xs k)
theorem endR_hB (xs : List ByteArray) : ∀ k, endR xs (k + 1) = hB xs (k + 1) ++ ⟨#[10]⟩
  | 0 => by
    show xs.getD 0 ⟨#[]⟩ ++ ⟨#[10]⟩ ++ ⟨#[]⟩ = (if 0 = 0 then xs.getD 0 ⟨#[]⟩ else _) ++ ⟨#[10]⟩
    rw [if_pos rfl]
    apply ba_ext
    simp
  | k + 1 => by
    show xs.getD (k + 1) ⟨#[]⟩ ++ ⟨#[10]⟩ ++ endR xs (k + 1) = (if k + 1 = 0 then _ else xs.getD (k + 1) ⟨#[]⟩ ++ (lineB ++ hB xs (k + 1))) ++ ⟨#[10]⟩
    rw [if_neg (by omega), endR_hB xs k, ByteArray.append_assoc, ByteArray.append_assoc, ByteArray.append_assoc]
    rfl
theorem endR_size (xs : List ByteArray) : ∀ k, k ≤ xs.length → (endR xs k).size = longN (xs.take k)
  | 0, _ => rfl
  | k + 1, h => by
    have ih := endR_size xs k (by omega)
    have hg : xs[k]? = some (xs.getD k ⟨#[]⟩) := by rw [List.getD_eq_getElem?_getD, List.getElem?_eq_getElem (by omega)]; rfl
    show (xs.getD k ⟨#[]⟩ ++ ⟨#[10]⟩ ++ endR xs k).size = _
    rw [ByteArray.size_append, ByteArray.size_append, ih, List.take_add_one, hg]
    have h1 : (⟨#[10]⟩ : ByteArray).size = 1 := rfl
    unfold longN
    simp only [Option.toList_some, List.length_append, List.map_append, List.sum_append, List.map_cons, List.map_nil, List.sum_cons, List.sum_nil, List.length_cons, List.length_nil]
    omega
theorem endR_le (xs : List ByteArray) (k : Nat) (h : k ≤ xs.length) : (endR xs k).size ≤ longN xs := by
  rw [endR_size xs k h]
  conv => rhs; rw [← List.take_append_drop k xs]
  unfold longN
  rw [List.length_append, List.map_append, List.sum_append]
  omega
theorem hB_le (xs : List ByteArray) (k : Nat) (h : k ≤ xs.length) : (hB xs k).size ≤ longN xs := by
  cases k with
  | zero => exact Nat.zero_le _
  | succ k =>
    have h1 := congrArg ByteArray.size (endR_hB xs k)
    rw [ByteArray.size_append] at h1
    have h2 := endR_le xs (k + 1) h
    omega
section
variable (O : Ora) (xs : List ByteArray)
def cs71 : List Cm := [cmO 71 (.line 1) true, cmO 104 .none false, cmO 100 .last true]
def cs104 : List Cm := [cmO 104 .none false, cmO 120 .none false, cmO 103 .none false]
theorem getD_le (k : Nat) (h : longN xs ≤ 200) : (xs.getD k ⟨#[]⟩).size ≤ 200 := by
  by_cases hk : k < xs.length
  · have hg : xs.getD k ⟨#[]⟩ ∈ xs := by
      rw [List.getD_eq_getElem?_getD, List.getElem?_eq_getElem hk]
      exact List.getElem_mem hk
    have : ∀ (l : List ByteArray), xs.getD k ⟨#[]⟩ ∈ l → (xs.getD k ⟨#[]⟩).size ≤ (l.map (·.size)).sum := by
      intro l
      induction l with
      | nil => intro h; cases h
      | cons y l ih =>
        intro h
        rw [List.map_cons, List.sum_cons]
        rcases List.mem_cons.1 h with h | h
        · rw [← h]; omega
        · have := ih h; omega
    have := this xs hg
    unfold longN at h
    omega
  · rw [List.getD_eq_getElem?_getD, List.getElem?_eq_none (by omega)]
    exact Nat.zero_le _
/-- G but at the first line, h, d but at the last line: the lines turned round. -/
theorem run_holds1 (hl : longN xs ≤ 200) : ∀ (k f : Nat) (s : Sn), s.inc = false → s.num + (k + 1) = xs.length → s.hold = hB xs s.num → 4 * (k + 1) ≤ f → s.out.length + 1 < O.C → ∃ l, runD O cs71 xs false f s = some (s.out ++ [hB xs xs.length], l, 0)
  | k, f, s, h, hn, hh, hf, hC => by
    obtain ⟨f, rfl⟩ : ∃ f', f = f' + 1 + 1 + 1 + 1 := ⟨f - 4, by omega⟩
    have hp := getD_le xs s.num hl
    have hq := hB_le xs s.num (by omega)
    rw [run_cyc O _ xs false _ (by omega) h (by omega)]
    have h1 : comeD O cs71 xs false (cmO 71 (.line 1) true) (cycD xs s) = (.further, { cycD xs s with pos := 1, pat := hB xs (s.num + 1) }) := by
      rw [step_at O _ xs false 71 1 true _ rfl]
      by_cases h0 : s.num = 0
      · have e : (1 == (cycD xs s).num) = true := by show (1 == s.num + 1) = true; simp; omega
        rw [e, if_pos rfl]
        have e2 : hB xs (s.num + 1) = (cycD xs s).pat := by rw [h0]; show (if 0 = 0 then xs.getD 0 ⟨#[]⟩ else _) = xs.getD s.num ⟨#[]⟩; rw [if_pos rfl, h0]
        rw [e2]
        rfl
      · have e : (1 == (cycD xs s).num) = false := by show (1 == s.num + 1) = false; simp; omega
        rw [e, if_neg (by simp)]
        have e2 : hB xs (s.num + 1) = xs.getD s.num ⟨#[]⟩ ++ (lineB ++ s.hold) := by rw [hh]; show (if s.num = 0 then _ else _) = _; rw [if_neg h0]
        rw [e2]
        show (if 65536 < (xs.getD s.num ⟨#[]⟩).size + 1 + s.hold.size then _ else _) = _
        rw [if_neg (by rw [hh]; omega)]
        rfl
    rw [run_plain O cs71 xs false _ (c := cmO 71 (.line 1) true) (by show s.out.length < O.C; omega) rfl rfl rfl rfl (op_ne _ _ (by decide)) h1]
    dsimp only [flowD]
    rw [run_plain O cs71 xs false _ (c := cmO 104 .none false) (f := .further) (s' := { cycD xs s with pos := 2, pat := hB xs (s.num + 1), hold := hB xs (s.num + 1) }) (by show s.out.length < O.C; omega) rfl rfl rfl rfl (op_ne _ _ (by decide)) rfl]
    dsimp only [flowD]
    cases k with
    | zero =>
      have h3 : comeD O cs71 xs false (cmO 100 .last true) { cycD xs s with pos := 2, pat := hB xs (s.num + 1), hold := hB xs (s.num + 1) } = (.further, { cycD xs s with pos := 3, pat := hB xs (s.num + 1), hold := hB xs (s.num + 1) }) := by
        rw [step_last O _ xs false 100 true _ rfl]
        have e : (s.num + 1 == xs.length) = true := by simp; omega
        show (if (s.num + 1 == xs.length) = true then _ else _) = _
        rw [e]
        rfl
      rw [run_plain O cs71 xs false f (c := cmO 100 .last true) (by show s.out.length < O.C; omega) rfl rfl rfl rfl (op_ne _ _ (by decide)) h3]
      dsimp only [flowD]
      rw [run_end O _ xs false _ rfl (Nat.le_refl _), run_over O _ xs false _ (by show (s.out ++ [hB xs (s.num + 1)]).length < _; rw [List.length_append]; simp; omega) rfl (by show xs.length ≤ s.num + 1; omega)]
      refine ⟨f, ?_⟩
      show some (s.out ++ [hB xs (s.num + 1)], f, (0 : Int)) = _
      rw [show s.num + 1 = xs.length by omega]
    | succ k =>
      have h3 : comeD O cs71 xs false (cmO 100 .last true) { cycD xs s with pos := 2, pat := hB xs (s.num + 1), hold := hB xs (s.num + 1) } = (.cut, { cycD xs s with pos := 3, pat := hB xs (s.num + 1), hold := hB xs (s.num + 1) }) := by
        rw [step_last O _ xs false 100 true _ rfl]
        have e : (s.num + 1 == xs.length) = false := by simp; omega
        show (if (s.num + 1 == xs.length) = true then _ else _) = _
        rw [e]
        rfl
      rw [run_plain O cs71 xs false f (c := cmO 100 .last true) (by show s.out.length < O.C; omega) rfl rfl rfl rfl (op_ne _ _ (by decide)) h3]
      dsimp only [flowD]
      exact run_holds1 hl k f { cycD xs s with pos := 3, pat := hB xs (s.num + 1), hold := hB xs (s.num + 1), inc := false } rfl (by show s.num + 1 + (k + 1) = _; omega) rfl (by omega) hC
/-- h, x, g: the lines as they are. -/
theorem run_holds2 : ∀ (k f : Nat) (s : Sn), s.inc = false → s.num + k = xs.length → 4 * k ≤ f → s.out.length + k < O.C → ∃ l, runD O cs104 xs false f s = some (s.out ++ xs.drop s.num, l, 0)
  | 0, f, s, h, hn, hf, hC => by
    refine ⟨f, ?_⟩
    rw [run_over O _ xs false f (by omega) h (by omega), List.drop_eq_nil_of_le (by omega), List.append_nil]
  | k + 1, f, s, h, hn, hf, hC => by
    obtain ⟨f, rfl⟩ : ∃ f', f = f' + 1 + 1 + 1 + 1 := ⟨f - 4, by omega⟩
    rw [run_cyc O _ xs false _ (by omega) h (by omega)]
    rw [run_plain O cs104 xs false _ (c := cmO 104 .none false) (f := .further) (s' := { cycD xs s with pos := 1, hold := xs.getD s.num ⟨#[]⟩ }) (by show s.out.length < O.C; omega) rfl rfl rfl rfl (op_ne _ _ (by decide)) rfl]
    dsimp only [flowD]
    rw [run_plain O cs104 xs false _ (c := cmO 120 .none false) (f := .further) (s' := { cycD xs s with pos := 2, hold := xs.getD s.num ⟨#[]⟩ }) (by show s.out.length < O.C; omega) rfl rfl rfl rfl (op_ne _ _ (by decide)) rfl]
    dsimp only [flowD]
    rw [run_plain O cs104 xs false _ (c := cmO 103 .none false) (f := .further) (s' := { cycD xs s with pos := 3, hold := xs.getD s.num ⟨#[]⟩ }) (by show s.out.length < O.C; omega) rfl rfl rfl rfl (op_ne _ _ (by decide)) rfl]
    dsimp only [flowD]
    rw [run_end O _ xs false _ rfl (Nat.le_refl _)]
    obtain ⟨l, hr⟩ := run_holds2 k f { endD false { cycD xs s with pos := 3, hold := xs.getD s.num ⟨#[]⟩ } with inc := false } rfl (by show s.num + 1 + k = _; omega) (by omega) (by show (s.out ++ [xs.getD s.num ⟨#[]⟩]).length + k < _; rw [List.length_append]; simp; omega)
    refine ⟨l, hr.trans ?_⟩
    show some ((s.out ++ [xs.getD s.num ⟨#[]⟩]) ++ xs.drop (s.num + 1), l, 0) = _
    rw [List.append_assoc, List.singleton_append, drop_get xs (by omega)]
end
end Go.Proofs.YtkgpnlldlekcbaaGreatDoor
namespace Go.Proofs.YtkgpnlldlekcbaaGreatDoor
open Go.RowKit Go.Lib
attribute [local go_sem] Oper.semAt_some

set_option maxHeartbeats 8000000 in
set_option maxRecDepth 100000 in
theorem holds_out (ao : Option Addr) (cap : Nat) (xs : List ByteArray) (w : World) (hx : Strs (.slice ao xs.length cap) xs w) (hm : Mx w) (hl : longN xs ≤ 9223372036854775807) (h : 200 < longN xs ∨ longN xs ≤ 200 ∧ xs.length = 0) :
    Calls Tryz.prog 8 #[.slice ao xs.length cap] w fun e w' => e = .returned (.bool true) ∧ Below w.heap.size w w' := by
  have kS := shown9_any w hm
  have kl : ∀ w', Below w.heap.size w w' → Calls Tryz.prog 15 #[.slice ao xs.length cap] w' fun e w'' => e = .returned (.int .i64 (longN xs : Nat)) ∧ w' = w'' := fun w' hb => refLong_any _ xs w' (hx.below hb) hl
  generalize longN xs = L at kl h hl
  generalize xs.length = N at kl h ⊢
  clear hx hm
  rcases h with h | ⟨h, h2⟩
  · have h1 : decide ((200 : Int) < (L : Int)) = true := decide_eq_true (by omega)
    go_enter Tryz.func8, Tryz.ntmps8
    go_wp2_with (first
      | (go_at_call 9; (with_reducible refine kS.mono ?_); rintro e w1 ⟨rfl, hb1⟩; have H1 := Lib.hid hb1; clear hb1 kS)
      | (go_at_call 15; (with_reducible refine (kl _ H1.out).mono ?_); rintro e w2 ⟨rfl, rfl⟩; clear kl))
    exact bodyPost_ret (results_tmp rfl _ _ _) rfl ⟨rfl, H1.out⟩
  · have h1 : decide ((200 : Int) < (L : Int)) = false := decide_eq_false (by omega)
    subst h2
    go_enter Tryz.func8, Tryz.ntmps8
    go_wp2_with (first
      | (go_at_call 9; (with_reducible refine kS.mono ?_); rintro e w1 ⟨rfl, hb1⟩; have H1 := Lib.hid hb1; clear hb1 kS)
      | (go_at_call 15; (with_reducible refine (kl _ H1.out).mono ?_); rintro e w2 ⟨rfl, rfl⟩; clear kl))
    exact bodyPost_ret (results_tmp rfl _ _ _) rfl ⟨rfl, H1.out⟩
theorem lit71 : ∀ c ∈ cs71, Lit0 c ∧ c.op ≠ 115 ∧ c.label = [] := by
  intro c hc
  simp only [cs71, List.mem_cons, List.mem_nil_iff, or_false] at hc
  rcases hc with rfl | rfl | rfl
  · exact ⟨⟨rfl, rfl, rfl, rfl⟩, (show (71 : UInt8) ≠ 115 by decide), rfl⟩
  · exact ⟨⟨rfl, rfl, rfl, rfl⟩, (show (104 : UInt8) ≠ 115 by decide), rfl⟩
  · exact ⟨⟨rfl, rfl, rfl, rfl⟩, (show (100 : UInt8) ≠ 115 by decide), rfl⟩
theorem lit104 : ∀ c ∈ cs104, Lit0 c ∧ c.op ≠ 115 ∧ c.label = [] := by
  intro c hc
  simp only [cs104, List.mem_cons, List.mem_nil_iff, or_false] at hc
  rcases hc with rfl | rfl | rfl
  · exact ⟨⟨rfl, rfl, rfl, rfl⟩, (show (104 : UInt8) ≠ 115 by decide), rfl⟩
  · exact ⟨⟨rfl, rfl, rfl, rfl⟩, (show (120 : UInt8) ≠ 115 by decide), rfl⟩
  · exact ⟨⟨rfl, rfl, rfl, rfl⟩, (show (103 : UInt8) ≠ 115 by decide), rfl⟩
set_option maxHeartbeats 8000000 in
set_option maxRecDepth 100000 in
theorem holds_in (ao : Option Addr) (cap : Nat) (xs : List ByteArray) (w : World) (hx : Strs (.slice ao xs.length cap) xs w) (hm : Mx w) (hl : longN xs ≤ 200) (hpos : 0 < xs.length) :
    Calls Tryz.prog 8 #[.slice ao xs.length cap] w fun e w' => e = .returned (.bool true) ∧ Below w.heap.size w w' := by
  have kS := shown9_any w hm
  have kl : ∀ w', Below w.heap.size w w' → Calls Tryz.prog 15 #[.slice ao xs.length cap] w' fun e w'' => e = .returned (.int .i64 (longN xs : Nat)) ∧ w' = w'' := fun w' hb => refLong_any _ xs w' (hx.below hb) (by omega)
  have hlen : xs.length ≤ longN xs := Nat.le_add_right _ _
  have hbd : ∀ x ∈ xs, x.size ≤ 200 := fun x h => by have := size_le_long h; omega
  have hxz : ∀ x ∈ xs, x.size ≤ 140737488355328 := fun x h => by have := hbd x h; omega
  obtain ⟨l1, r1⟩ := run_holds1 O0 xs hl (xs.length - 1) 1500 (startD cs71) rfl (by show 0 + (xs.length - 1 + 1) = xs.length; omega) rfl (by omega) (by show 0 + 1 < 8796093022208; omega)
  obtain ⟨l2, r2⟩ := run_holds2 O0 xs xs.length 1500 (startD cs104) rfl (by show 0 + xs.length = _; omega) (by omega) (by show 0 + xs.length < 8796093022208; omega)
  have r1 : runD O0 cs71 xs false (1500 : Int).toNat (startD cs71) = some ([hB xs xs.length], l1, 0) := by
    rw [show (1500 : Int).toNat = 1500 from rfl, r1]
    rfl
  have r2 : runD O0 cs104 xs false (1500 : Int).toNat (startD cs104) = some (xs, l2, 0) := by
    rw [show (1500 : Int).toNat = 1500 from rfl, r2]
    rfl
  have k1 := fun w' (hb : Below w.heap.size w w') => run_lit cs71 lit71 (show 3 ≤ 1000000 by omega)
    #[.int .u8 71, .int .i64 1, .int .i64 1, .slice none 0 0, .int .i64 0, .int .i64 0, .slice none 0 0, .bool true, .slice none 0 0, .slice none 0 0, .bool false, .bool false, .string ⟨#[]⟩, .int .u8 104, .int .i64 0, .int .i64 0, .slice none 0 0, .int .i64 0, .int .i64 0, .slice none 0 0, .bool false, .slice none 0 0, .slice none 0 0, .bool false, .bool false, .string ⟨#[]⟩, .int .u8 100, .int .i64 2, .int .i64 0, .slice none 0 0, .int .i64 0, .int .i64 0, .slice none 0 0, .bool true, .slice none 0 0, .slice none 0 0, .bool false, .bool false, .string ⟨#[]⟩]
    rfl xs (.slice ao xs.length cap) false 1500 w w' hb hx hxz (by omega) _ r1
  have k2 := fun w' (hb : Below w.heap.size w w') => run_lit cs104 lit104 (show 3 ≤ 1000000 by omega)
    #[.int .u8 104, .int .i64 0, .int .i64 0, .slice none 0 0, .int .i64 0, .int .i64 0, .slice none 0 0, .bool false, .slice none 0 0, .slice none 0 0, .bool false, .bool false, .string ⟨#[]⟩, .int .u8 120, .int .i64 0, .int .i64 0, .slice none 0 0, .int .i64 0, .int .i64 0, .slice none 0 0, .bool false, .slice none 0 0, .slice none 0 0, .bool false, .bool false, .string ⟨#[]⟩, .int .u8 103, .int .i64 0, .int .i64 0, .slice none 0 0, .int .i64 0, .int .i64 0, .slice none 0 0, .bool false, .slice none 0 0, .slice none 0 0, .bool false, .bool false, .string ⟨#[]⟩]
    rfl xs (.slice ao xs.length cap) false 1500 w w' hb hx hxz (by omega) _ r2
  have kq : ∀ (B : Nat) (a : Option Addr) (c : Nat) (w1 w2 : World), w1.ownsRow B 9 1 (.slice a xs.length c) xs.length (strC xs) → Below w1.heap.size w1 w2 → Below w.heap.size w w2 → Calls Tryz.prog 14 #[.slice a xs.length c, .slice ao xs.length cap] w2 fun e w' => e = .returned (.bool true) ∧ Below w2.heap.size w2 w' := fun B a c w1 w2 ho h12 hb => by
    have h1 : Strs (.slice a xs.length c) xs w2 := (strs_of_owns ho rfl (by omega)).below h12
    have := refSameS_any _ _ xs xs w2 h1 (hx.below hb)
    rw [decide_eq_true rfl] at this
    exact this
  have hone : ∀ (B : Nat) (x : ByteArray) (a : Option Addr) (c : Nat) (w1 w2 : World), w1.ownsRow B 9 1 (.slice a 1 c) 1 (strC [x]) → Below w1.heap.size w1 w2 → ∃ b, a = some ⟨b, 0, none⟩ ∧ w2.cell? ⟨b, 0, none⟩ = some (.string x) := fun B x a c w1 w2 ho h12 => by
    obtain ⟨g, cp, hv⟩ := owned_slice ho (by omega)
    injection hv with hv _ _
    subst hv
    have h1 : Strs (.slice (some ⟨g, 0, none⟩) 1 c) [x] w2 := (strs_of_owns ho rfl (by omega)).below h12
    obtain ⟨b, o, e, _, h3⟩ := h1.at (j := 0) (x := x) rfl
    injection e with e
    injection e with e1 e2
    subst e1
    subst e2
    exact ⟨g, rfl, h3⟩
  have hat : ∀ k x w', xs[k]? = some x → Below w.heap.size w w' → ∃ b o, ao = some ⟨b, o, none⟩ ∧ w'.cell? ⟨b, o + k, none⟩ = some (.string x) := fun k x w' hk hb => by
    obtain ⟨b, o, h1, _, h3⟩ := (hx.below hb).at hk
    exact ⟨b, o, h1, h3⟩
  have hA : ∀ k, k ≤ xs.length → (endR xs k).size ≤ 200 := fun k h => Nat.le_trans (endR_le xs k h) hl
  have hnext : ∀ k x, xs[k]? = some x → x ++ ⟨#[10]⟩ ++ endR xs k = endR xs (k + 1) := fun k x h => by
    show _ = xs.getD k ⟨#[]⟩ ++ ⟨#[10]⟩ ++ endR xs k
    rw [List.getD_eq_getElem?_getD, h]
    rfl
  have hfin : endR xs xs.length = hB xs xs.length ++ ⟨#[10]⟩ := by
    obtain ⟨m, hm⟩ : ∃ m, xs.length = m + 1 := ⟨xs.length - 1, by omega⟩
    rw [hm]
    exact endR_hB xs m
  have hHz : (hB xs xs.length).size ≤ 200 := Nat.le_trans (hB_le xs _ (Nat.le_refl _)) hl
  have g1 : decide ((200 : Int) < ((longN xs : Nat) : Int)) = false := decide_eq_false (by omega)
  have hex : ∀ k, k < xs.length → ∃ x, xs[k]? = some x := fun k hk => ⟨xs[k]'(by omega), List.getElem?_eq_getElem (by omega)⟩
  simp only [cs71, cs104, List.length_cons, List.length_nil, Nat.zero_add, Nat.reduceAdd] at k1 k2
  have hN2 : xs.length ≤ 200 := by omega
  have hNp : ¬ (xs.length : Int) = 0 := by omega
  clear r1 r2 hxz hm hx hl hlen
  generalize hB xs xs.length = HB at k1 hfin hHz
  obtain ⟨N, hN⟩ : ∃ N, N = xs.length := ⟨_, rfl⟩
  rw [← hN] at k1 k2 kq kl hA hfin hex hN2 hNp hpos ⊢
  generalize longN xs = L at kl g1
  clear hN
  have HX := Lib.hid (And.intro hnext (And.intro hA (And.intro hbd (And.intro hat (And.intro hex (And.intro hfin (And.intro kq hone)))))))
  clear hnext hA hbd kq hat hex hone hfin
  go_enter Tryz.func8, Tryz.ntmps8
  go_wp2_with (first
    | (go_at_call 9; (with_reducible refine kS.mono ?_); rintro e w1 ⟨rfl, hb1⟩; have H1 := Lib.hid hb1; clear hb1 kS)
    | (go_at_call 15; (with_reducible refine (kl _ H1.out).mono ?_); rintro e w2 ⟨rfl, rfl⟩; clear kl))
  go_loopg [4, 5] (N + 1) (fun g s i wr => ∃ k : Nat, s = .string (endR xs k) ∧ i = .int .i64 k ∧ k ≤ N ∧ Hid (g = N + 1 - k) ∧ Hid (Below w.heap.size w wr))
  case atStart => exact ⟨0, rfl, rfl, by omega, rfl, H1.out⟩
  case round =>
    obtain ⟨k, rfl, rfl, hk, HK, HW⟩ := hrel
    by_cases hlt : k < N
    · have hltI : (k : Int) < (N : Int) := by omega
      obtain ⟨x, hx⟩ := HX.out.2.2.2.2.1 k hlt
      have hxz := HX.out.2.2.1 x (List.mem_of_getElem? hx)
      have hnx := HX.out.1 k x hx
      have hz1 := HX.out.2.1 (k + 1) (by omega)
      have hz0 := congrArg ByteArray.size hnx
      rw [ByteArray.size_append, ByteArray.size_append] at hz0
      have hz2 := HX.out.2.1 k (by omega)
      obtain ⟨A1, hA1⟩ : ∃ A1, A1 = endR xs (k + 1) := ⟨_, rfl⟩
      obtain ⟨A, hAe⟩ : ∃ A, A = endR xs k := ⟨_, rfl⟩
      rw [← hA1] at hnx hz1 hz0
      rw [← hAe] at hnx hz0 hz2 ⊢
      have s1 : (⟨#[10]⟩ : ByteArray).size = 1 := rfl
      have n1 : ¬ 9223372036854775807 < x.size + 1 := by omega
      have n2 : ¬ 9223372036854775807 < (x ++ ⟨#[10]⟩).size + A.size := by rw [ByteArray.size_append]; omega
      have n3 : ¬ 9223372036854775807 < x.size + 1 + A.size := by omega
      have n4 : ¬ 9223372036854775807 < x.size + (⟨#[10]⟩ : ByteArray).size := by omega
      have n5 : ¬ 9223372036854775807 < x.size + (⟨#[10]⟩ : ByteArray).size + A.size := by omega
      obtain ⟨b, o, rfl, cx⟩ := HX.out.2.2.2.1 k x _ hx HW.out
      have HH := Lib.hid (And.intro hx (And.intro hnx (And.intro hA1 hAe)))
      clear hx hnx hA1 hAe hz0 hz1 s1
      go_wp2
      go_loopg [6] (x.size + 1) (fun g v6 wr2 => ∃ j : Nat, v6 = .int .i64 j ∧ j ≤ x.size ∧ Hid (g = x.size + 1 - j) ∧ Hid (Below w.heap.size w wr2))
      case atStart => exact ⟨0, rfl, by omega, rfl, HW.out⟩
      case round =>
        obtain ⟨j, rfl, hj, HJ, HV⟩ := hrel
        obtain ⟨b2, o2, he, cx2⟩ := HX.out.2.2.2.1 k x _ HH.out.1 HV.out
        cases he
        by_cases hjl : j < x.size
        · have hjI : (j : Int) < (x.size : Int) := by omega
          obtain ⟨c, hc⟩ : ∃ c, x[j] = c := ⟨_, rfl⟩
          by_cases h10 : c = 10
          · have hv : (c.toNat : Int) = 10 := by rw [h10]; rfl
            clear h10
            go_wp2
            exact bodyPost_ret (results_tmp rfl _ _ _) rfl ⟨rfl, HV.out⟩
          · have hv : ¬ (c.toNat : Int) = 10 := fun e => h10 (UInt8.toNat_inj.1 (show c.toNat = 10 by omega))
            have hJ : IntKind.i64.wrap ((j : Int) + 1) = ((j + 1 : Nat) : Int) := by rw [IntWalk.i64_in _ (by omega)]; omega
            clear h10
            go_wp2
            go_roundg (x.size - j)
            case rel => exact ⟨j + 1, by go_num, by omega, by show _ = _; omega, HV.out⟩
            case measure => have := HJ.out; omega
        · obtain rfl : j = x.size := by omega
          have hdec : decide ((x.size : Int) < (x.size : Int)) = false := decide_eq_false (by omega)
          have hK : IntKind.i64.wrap ((k : Int) + 1) = ((k + 1 : Nat) : Int) := by rw [IntWalk.i64_in _ (by omega)]; omega
          go_wp2
          go_roundg (N - k)
          case rel =>
            refine ⟨k + 1, ?_, by go_num, by omega, by show _ = _; omega, HV.out⟩
            rw [← HH.out.2.2.1, ← HH.out.2.1]
          case measure => have := HK.out; omega
    · have hkN : k = N := by omega
      subst hkN
      have hdk : decide ((k : Int) < (k : Int)) = false := decide_eq_false (by omega)
      have hfin := HX.out.2.2.2.2.2.1
      rw [hfin]
      clear hfin
      go_upto_region 15 with fail
      have hw2 : Below w.heap.size w (wr.alloc (.cells #[.int .i64 1, .int .i64 1, .slice none 0 0] 39)) := HW.out.alloc HW.out.size _
      have d0 := cell_new wr #[.int .i64 1, .int .i64 1, .slice none 0 0] 39 0 _ rfl
      have d1 := cell_new wr #[.int .i64 1, .int .i64 1, .slice none 0 0] 39 1 _ rfl
      have d2 := cell_new wr #[.int .i64 1, .int .i64 1, .slice none 0 0] 39 2 _ rfl
      generalize wr.alloc (.cells #[.int .i64 1, .int .i64 1, .slice none 0 0] 39) = w2 at hw2 d0 d1 d2 ⊢
      generalize wr.heap.size = g at d0 d1 d2 ⊢
      have H2 := Lib.hid hw2
      clear hw2 HW H1
      go_upto_region 16 with fail
      have hw3 : Below w.heap.size w (w2.alloc (.cells #[.int .i64 2, .int .i64 0, .slice none 0 0] 39)) := H2.out.alloc H2.out.size _
      have c0 := cell_alloc d0 (.cells #[.int .i64 2, .int .i64 0, .slice none 0 0] 39)
      have c1 := cell_alloc d1 (.cells #[.int .i64 2, .int .i64 0, .slice none 0 0] 39)
      have c2 := cell_alloc d2 (.cells #[.int .i64 2, .int .i64 0, .slice none 0 0] 39)
      have e0 := cell_new w2 #[.int .i64 2, .int .i64 0, .slice none 0 0] 39 0 _ rfl
      have e1 := cell_new w2 #[.int .i64 2, .int .i64 0, .slice none 0 0] 39 1 _ rfl
      have e2 := cell_new w2 #[.int .i64 2, .int .i64 0, .slice none 0 0] 39 2 _ rfl
      generalize w2.alloc (.cells #[.int .i64 2, .int .i64 0, .slice none 0 0] 39) = w3 at hw3 c0 c1 c2 e0 e1 e2 ⊢
      generalize w2.heap.size = g2 at e0 e1 e2 ⊢
      have H3 := Lib.hid hw3
      clear hw3 H2 d0 d1 d2
      go_upto_region 17 with (first
        | (go_at_call 13; (with_reducible refine (k1 _ H3.out).mono ?_); rintro e w4 ⟨a4, c4, rfl, ho4, hb4⟩; have O4 := Lib.hid ho4; have H4 := Lib.hid (H3.out.trans (hb4.mono H3.out.size)); clear hb4 ho4 k1))
      clear c0 c1 c2 e0 e1 e2
      go_upto_region 18 with (first
        | (go_at_call 13; (with_reducible refine (k2 _ H4.out).mono ?_); rintro e w5 ⟨a5, c5, rfl, ho5, hb5⟩; have O5 := Lib.hid ho5; have B5 := Lib.hid hb5; have H5 := Lib.hid (H4.out.trans (hb5.mono H4.out.size)); clear hb5 ho5 k2))
      obtain ⟨b4, rfl, e4⟩ := HX.out.2.2.2.2.2.2.2 _ _ a4 c4 w4 w5 O4.out B5.out
      have k3 := HX.out.2.2.2.2.2.2.1 _ a5 c5 w5 w5 O5.out (Below.refl _ _) H5.out
      have n1 : ¬ 9223372036854775807 < HB.size + 1 := by omega
      have n2 : ¬ 9223372036854775807 < HB.size + (⟨#[10]⟩ : ByteArray).size := by show ¬ _ < HB.size + 1; omega
      go_wp2_with (first
        | (go_at_call 14; (with_reducible refine k3.mono ?_); rintro e w6 ⟨rfl, hb6⟩))
      exact bodyPost_ret (results_tmp rfl _ _ _) rfl ⟨rfl, H5.out.trans (hb6.mono H5.out.size)⟩
/-- StreamHolds, at every input within the condition. -/
theorem holds_law (W : World) (ao : Option Addr) (cap : Nat) (xs : List ByteArray) (hx : Strs (.slice ao xs.length cap) xs W) (hl : longN xs ≤ 1048576) (hm : Mx W) :
    Calls Tryz.prog 8 #[.slice ao xs.length cap] W fun e w' => e = .returned (.bool true) ∧ Below W.heap.size W w' := by
  by_cases h : 200 < longN xs ∨ longN xs ≤ 200 ∧ xs.length = 0
  · exact holds_out ao cap xs W hx hm (by omega) h
  · exact holds_in ao cap xs W hx hm (by omega) (by omega)
end Go.Proofs.YtkgpnlldlekcbaaGreatDoor
