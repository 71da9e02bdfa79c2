/- Packed texts: StText, StPure, StShown, StLits, StreamPlainWalk, StreamPlainAny. What each of them proves stands above its theorems; the conditions stand in these. -/
import Derived.Deep.LoopGhost
import Derived.Laws.CopyOwn
import Derived.Laws.StructEq
import Derived.Test.YtkgpnlldlekcbaaGreatDoorShelf
import Derived.WalkLawsBesides
import Derived.WalkSpells
import Derived.Test.YtkgpnlldlekcbaaGreatDoorX0
import Derived.Test.YtkgpnlldlekcbaaGreatDoorX1
import Derived.Test.YtkgpnlldlekcbaaGreatDoorX3
import Derived.Test.YtkgpnlldlekcbaaGreatDoorX4
import Derived.Test.YtkgpnlldlekcbaaGreatDoorX5
import Derived.Test.YtkgpnlldlekcbaaGreatDoorX13
import Derived.Test.YtkgpnlldlekcbaaGreatDoorX14
import Derived.Test.YtkgpnlldlekcbaaGreatDoorX16
import Derived.Test.YtkgpnlldlekcbaaGreatDoorX22
import Derived.Test.YtkgpnlldlekcbaaGreatDoorX28
import Derived.Test.YtkgpnlldlekcbaaGreatDoorX33
import Derived.Test.YtkgpnlldlekcbaaGreatDoorX34
namespace Go.Proofs.YtkgpnlldlekcbaaGreatDoor
open Go.RowKit Go.Lib
attribute [local go_sem] Oper.semAt_some

def dataL (xs : List ByteArray) : List (List UInt8) := xs.map (·.data.toList)
theorem end_snoc (xs : List ByteArray) (k : Nat) (x : ByteArray) (h : xs[k]? = some x) : endL (dataL (xs.take (k + 1))) = endL (dataL (xs.take k)) ++ x.data.toList ++ [10] := by
  have : xs.take (k + 1) = xs.take k ++ [x] := by rw [List.take_add_one, h]; rfl
  rw [this]
  simp [endL, dataL]
/-- Between two rounds of the loop over the lines. -/
def TxO (W : World) (L : List ByteArray) (k : Nat) (wr : World) : Prop := IsBuilderF 69 5 W.heap.size W.heap.size (byteCells (endL (dataL (L.take k)))) wr ∧ Below W.heap.size W wr
theorem TxO.start (L : List ByteArray) (W : World) : TxO W L 0 (W.alloc (.cells #[.pointer none, .slice none 0 0] 69)) :=
  ⟨.inl ⟨Nat.le_refl _, _, heap_alloc_new W _, ⟨rfl, .inl ⟨rfl, rfl⟩⟩, by simp [Value.ownBlock]⟩, (Below.refl _ W).alloc (Nat.le_refl _) _⟩
theorem end_take_le (L : List ByteArray) (k : Nat) : (endL (dataL (L.take k))).length ≤ (endL (dataL L)).length := by
  have : endL (dataL L) = endL (dataL (L.take k)) ++ endL (dataL (L.drop k)) := by
    unfold endL dataL
    rw [← List.flatMap_append, ← List.map_append, List.take_append_drop]
  rw [this, List.length_append]
  omega
theorem TxO.line {W wr : World} {L : List ByteArray} {k : Nat} {x : ByteArray} (h : TxO W L k wr) (hk : L[k]? = some x) (hL : (endL (dataL L)).length ≤ 70368744177664) :
    Calls Tryz.prog 25 #[.pointer (some ⟨W.heap.size, 0, none⟩), .string x] wr fun e w' => e = .returned (.tuple #[.int .i64 x.size, .nilIface]) ∧ (Below W.heap.size W w' ∧ Calls Tryz.prog 26 #[.pointer (some ⟨W.heap.size, 0, none⟩), .int .u8 10] w' fun e w'' => e = .returned .nilIface ∧ TxO W L (k + 1) w'') := by
  have h1 := end_snoc L k x hk
  have h2 := end_take_le L (k + 1)
  have hxz : x.data.toList.length = x.size := Array.length_toList
  have h3 : (endL (dataL (L.take (k + 1)))).length = (endL (dataL (L.take k))).length + x.size + 1 := by rw [h1, List.length_append, List.length_append, hxz]; rfl
  refine (writeString_any W.heap.size W.heap.size (byteCells (endL (dataL (L.take k)))) x _ h.1 (by rw [byteCells_length]; omega) h.2.size).mono ?_
  rintro e w2 ⟨rfl, g2, hb2, _⟩
  have hB2 := h.2.trans hb2
  refine ⟨rfl, hB2, ?_⟩
  refine (writeByte_any W.heap.size W.heap.size _ 10 w2 (.inr g2) (by rw [List.length_append, byteCells_length, show (strCells x).length = x.data.toList.length from byteCells_length _]; omega) hB2.size).mono ?_
  rintro e w3 ⟨rfl, g3, hb3, _⟩
  refine ⟨rfl, .inr ?_, hB2.trans hb3⟩
  rw [h1, bc_append, bc_append]
  exact g3
/-- What Text answers. -/
def TextE (R : List ByteArray × Nat × Int) : Ending := .returned (.tuple #[.string ⟨(endL (dataL R.1)).toArray⟩, .int .i64 (R.2.1 : Int), .int .i64 R.2.2])
set_option maxHeartbeats 8000000 in
set_option maxRecDepth 100000 in
theorem text9_walk (s script : ByteArray) (q : Bool) (f : Int) (w : World) (R : List ByteArray × Nat × Int) (hL : (endL (dataL R.1)).length ≤ 70368744177664) (hR : R.1.length ≤ 70368744177664)
    (k1 : Calls Tryz.prog 24 #[.string script] w fun e w' => ∃ a n c, e = .returned (.tuple #[.slice a n c, .int .i64 0]) ∧ Below w.heap.size w w' ∧
      Calls Tryz.prog 16 #[.string s] w' fun e w'' => ∃ a2 n2 c2, e = .returned (.slice a2 n2 c2) ∧ Below w.heap.size w w'' ∧
        Calls Tryz.prog 13 #[.slice a n c, .slice a2 n2 c2, .bool q, .int .i64 f] w'' fun e w3 => ∃ v, e = .returned (.tuple #[v, .int .i64 (R.2.1 : Int), .int .i64 R.2.2]) ∧ Strs v R.1 w3 ∧ Below w.heap.size w w3) :
    Calls Tryz.prog 17 #[.string s, .string script, .bool q, .int .i64 f] w fun e w' => e = TextE R ∧ Below w.heap.size w w' := by
  obtain ⟨L, left, er⟩ := R
  dsimp only at hL hR k1
  unfold TextE
  dsimp only
  go_enter Tryz.func17, Tryz.ntmps17
  go_wp2_with (first
    | (go_at_call 24; (with_reducible refine k1.mono ?_); rintro e w1 ⟨a, n, c, rfl, hb1, k2⟩; clear k1; have HB1 := Lib.hid hb1; clear hb1)
    | (go_at_call 16; (with_reducible refine k2.mono ?_); rintro e w2 ⟨a2, n2, c2, rfl, hb2, k3⟩; clear k2 HB1; have HB2 := Lib.hid hb2; clear hb2)
    | (go_at_call 13; (with_reducible refine k3.mono ?_); rintro e w3 ⟨v, rfl, hst, hb3⟩; clear k3 HB2; obtain ⟨ao, cap, hv, hcap, hlen, hcell⟩ := id hst; subst hv; have HS := Lib.hid hst; have HC := Lib.hid hcell; have HB3 := Lib.hid hb3; clear hst hcell hb3))
  go_loopg [39] (L.length + 1) (fun g v39 wr => ∃ k : Nat, v39 = .int .i64 k ∧ k ≤ L.length ∧ Hid (g = L.length + 1 - k) ∧ Hid (TxO w3 L k wr))
  case atStart => exact ⟨0, rfl, Nat.zero_le _, rfl, TxO.start L w3⟩
  case round =>
    obtain ⟨k, rfl, hk, HK, HT⟩ := hrel
    by_cases hlt : k < L.length
    · have hltI : (k : Int) < (L.length : Int) := by omega
      obtain ⟨x, hx⟩ : ∃ x, L[k]? = some x := ⟨L[k]'hlt, List.getElem?_eq_getElem hlt⟩
      obtain ⟨b, o, rfl, hb, hc⟩ := HC.out k x hx
      have hc2 := cell_stays HT.out.2 hc
      have hI : IntKind.i64.wrap ((k : Int) + 1) = ((k + 1 : Nat) : Int) := by rw [IntWalk.i64_in _ (by omega)]; omega
      have kW := TxO.line HT.out hx hL
      have hk0 : (0 : Int) ≤ (k : Int) := by omega
      clear hc hx
      go_wp2_with (first
        | (go_at_call 25; (with_reducible refine kW.mono ?_); rintro e w4 ⟨rfl, hb4, kB⟩; clear kW)
        | (go_at_call 26; (with_reducible refine kB.mono ?_); rintro e w5 ⟨rfl, h5⟩; have H5 := Lib.hid h5; clear h5 kB))
      go_roundg (L.length - k)
      case rel => exact ⟨k + 1, by go_num, by omega, by show _ = _; omega, H5⟩
      case measure => have := HK.out; omega
    · obtain rfl : k = L.length := by omega
      have hltI : decide ((L.length : Int) < (L.length : Int)) = false := by simp
      have hall : L.take L.length = L := List.take_length
      have hT := HT.out
      unfold TxO at hT
      rw [hall] at hT
      have HT2 := Lib.hid hT
      clear hall hT
      go_wp2_with (go_at_call 27; (with_reducible refine (Tryz.Builder_String_any_k w3.heap.size w3.heap.size (endL (dataL L)) _ HT2.out.1 HT2.out.2.size).mono ?_); rintro e w6 ⟨rfl, _, hb6, _⟩; have H6 := Lib.hid hb6; clear hb6)
      exact bodyPost_ret (results_tmp3 rfl _ _ _) rfl ⟨rfl, HB3.out.trans ((HT2.out.2.trans H6.out).mono HB3.out.size)⟩
end Go.Proofs.YtkgpnlldlekcbaaGreatDoor
namespace Go.Proofs.YtkgpnlldlekcbaaGreatDoor
open Go.RowKit Go.Lib

/-- A command with one address, or none. -/
def cmO (op : UInt8) (a : Ad) (neg : Bool) : Cm := ⟨op, a, .none, neg, none, [], false, false, []⟩
theorem op_ne {op : UInt8} (a : Ad) (neg : Bool) (h : op ≠ 115) : (cmO op a neg).op ≠ 115 := h
section
variable (O : Ora) (cs : List Cm) (xs : List ByteArray) (q : Bool)
theorem far_plain {c : Cm} (s : Sn) (h1 : isRe c.a = false) (h2 : isRe c.b = false) (h3 : c.op ≠ 115) : farD O xs c s = false := by
  have h4 : lookD s s.pos c = false := by
    unfold lookD
    rw [h1, h2]
    split
    · rfl
    · split
      · rfl
      · split <;> rfl
  unfold farD
  rw [h4, beq_eq_false_iff_ne.2 h3]
  simp
/-- One step of a command that looks for no expression. -/
theorem run_plain (n : Nat) {s : Sn} {c : Cm} (hC : s.out.length < O.C) (h : s.inc = true) (hc : cs[s.pos]? = some c) (h1 : isRe c.a = false) (h2 : isRe c.b = false) (h3 : c.op ≠ 115) {f : Fl} {s' : Sn} (hs : comeD O cs xs q c s = (f, s')) :
    runD O cs xs q (n + 1) s = match flowD (f, s') with
    | .go s' => runD O cs xs q n s'
    | .stop s' e => some (s'.out, n, e)
    | .far => none := by
  rw [run_step O cs xs q n hC h hc, far_plain O xs s h1 h2 h3, hs]
  rfl
theorem drop_get {k : Nat} (h : k < xs.length) : xs.getD k ⟨#[]⟩ :: xs.drop (k + 1) = xs.drop k := by
  rw [List.drop_eq_getElem_cons h, List.getD_eq_getElem?_getD, List.getElem?_eq_getElem h]
  rfl
/-- No command: all lines, unless quiet. -/
theorem run_nil : ∀ (k : Nat) (s : Sn), s.inc = false → s.num + k = xs.length → s.out.length + k < O.C → runD O [] xs false k s = some (s.out ++ xs.drop s.num, 0, 0)
  | 0, s, h, hn, hC => by
    rw [run_over O [] xs false 0 (by omega) h (by omega), List.drop_eq_nil_of_le (by omega), List.append_nil]
  | k + 1, s, h, hn, hC => by
    rw [run_cyc O [] xs false k (by omega) h (by omega), run_end O [] xs false k rfl (Nat.zero_le _)]
    refine (run_nil k _ rfl ?_ ?_).trans ?_
    · show s.num + 1 + k = _; omega
    · show (s.out ++ [xs.getD s.num ⟨#[]⟩]).length + k < _; rw [List.length_append]; simp; omega
    · show some ((s.out ++ [xs.getD s.num ⟨#[]⟩]) ++ xs.drop (s.num + 1), 0, 0) = _
      rw [List.append_assoc, List.singleton_append, drop_get xs (by omega)]
theorem run_nilq : ∀ (k : Nat) (s : Sn), s.inc = false → s.num + k = xs.length → s.out.length < O.C → runD O [] xs true k s = some (s.out, 0, 0)
  | 0, s, h, hn, hC => run_over O [] xs true 0 hC h (by omega)
  | k + 1, s, h, hn, hC => by
    rw [run_cyc O [] xs true k hC h (by omega), run_end O [] xs true k rfl (Nat.zero_le _)]
    exact run_nilq k _ rfl (by show s.num + 1 + k = _; omega) hC
theorem run_p : ∀ (k : Nat) (s : Sn), s.inc = false → s.num + k = xs.length → s.out.length + k < O.C → runD O [cmO 112 .none false] xs true (2 * k + 1) s = some (s.out ++ xs.drop s.num, 1, 0)
  | 0, s, h, hn, hC => by
    rw [run_over O _ xs true (2 * 0 + 1) (by omega) h (by omega), List.drop_eq_nil_of_le (by omega), List.append_nil]
  | k + 1, s, h, hn, hC => by
    rw [show 2 * (k + 1) + 1 = (2 * k + 1) + 1 + 1 by omega, run_cyc O _ xs true _ (by omega) h (by omega)]
    rw [run_plain O _ xs true (2 * k + 1) (c := cmO 112 .none false) (by show s.out.length < O.C; omega) rfl rfl rfl rfl (op_ne _ _ (by decide)) (f := .further) (s' := outD { cycD xs s with pos := 1 }) rfl]
    dsimp only [flowD]
    rw [run_end O _ xs true _ rfl (Nat.le_refl _)]
    refine (run_p k _ rfl ?_ ?_).trans ?_
    · show s.num + 1 + k = _; omega
    · show (s.out ++ [xs.getD s.num ⟨#[]⟩]).length + k < _; rw [List.length_append]; simp; omega
    · show some ((s.out ++ [xs.getD s.num ⟨#[]⟩]) ++ xs.drop (s.num + 1), 1, 0) = _
      rw [List.append_assoc, List.singleton_append, drop_get xs (by omega)]
theorem run_d : ∀ (k : Nat) (s : Sn), s.inc = false → s.num + k = xs.length → s.out.length < O.C → runD O [cmO 100 .none false] xs false (2 * k) s = some (s.out, 0, 0)
  | 0, s, h, hn, hC => run_over O _ xs false (2 * 0) hC h (by omega)
  | k + 1, s, h, hn, hC => by
    rw [show 2 * (k + 1) = 2 * k + 1 + 1 by omega, run_cyc O _ xs false _ hC h (by omega)]
    rw [run_plain O _ xs false (2 * k) (c := cmO 100 .none false) (show (cycD xs s).out.length < O.C from hC) rfl rfl rfl rfl (op_ne _ _ (by decide)) (f := .cut) (s' := { cycD xs s with pos := 1 }) rfl]
    exact run_d k _ rfl (by show s.num + 1 + k = _; omega) hC
/-- A command at one line that is meant, or not. -/
theorem step_at (op : UInt8) (n : Nat) (neg : Bool) (s : Sn) (ho : opsL.contains op = true) : comeD O cs xs q (cmO op (.line n) neg) s = if (n == s.num) = neg then (.further, { s with pos := s.pos + 1 }) else doD O cs xs q (cmO op (.line n) neg) { s with pos := s.pos + 1 } := by
  unfold comeD
  rw [show (cmO op (.line n) neg).op = op from rfl, if_pos ho]
  rfl
theorem step_last (op : UInt8) (neg : Bool) (s : Sn) (ho : opsL.contains op = true) : comeD O cs xs q (cmO op .last neg) s = if (s.num == xs.length) = neg then (.further, { s with pos := s.pos + 1 }) else doD O cs xs q (cmO op .last neg) { s with pos := s.pos + 1 } := by
  unfold comeD
  rw [show (cmO op .last neg).op = op from rfl, if_pos ho]
  rfl
/-- q at a line: the lines up to it. -/
theorem run_q (n : Nat) : ∀ (k f : Nat) (s : Sn), s.inc = false → s.num + k + 1 = n → n ≤ xs.length → 2 * k + 2 ≤ f → s.out.length + k + 1 < O.C → ∃ l, runD O [cmO 113 (.line n) false] xs false f s = some (s.out ++ (xs.drop s.num).take (k + 1), l, 0)
  | 0, f, s, h, hn, hl, hf, hC => by
    obtain ⟨f, rfl⟩ : ∃ f', f = f' + 1 + 1 := ⟨f - 2, by omega⟩
    rw [run_cyc O _ xs false _ (by omega) h (by omega)]
    have hs : comeD O [cmO 113 (.line n) false] xs false (cmO 113 (.line n) false) (cycD xs s) = (.stop, outD { cycD xs s with pos := 1 }) := by
      rw [step_at O _ xs false 113 n false _ rfl]
      have e : (n == (cycD xs s).num) = true := by show (n == s.num + 1) = true; simp; omega
      rw [e]
      rfl
    rw [run_plain O _ xs false f (c := cmO 113 (.line n) false) (by show s.out.length < O.C; omega) rfl rfl rfl rfl (op_ne _ _ (by decide)) hs]
    refine ⟨f, ?_⟩
    show some (s.out ++ [xs.getD s.num ⟨#[]⟩], f, 0) = _
    rw [← drop_get xs (k := s.num) (by omega)]
    rfl
  | k + 1, f, s, h, hn, hl, hf, hC => by
    obtain ⟨f, rfl⟩ : ∃ f', f = f' + 1 + 1 := ⟨f - 2, by omega⟩
    rw [run_cyc O _ xs false _ (by omega) h (by omega)]
    have hs : comeD O [cmO 113 (.line n) false] xs false (cmO 113 (.line n) false) (cycD xs s) = (.further, { cycD xs s with pos := 1 }) := by
      rw [step_at O _ xs false 113 n false _ rfl]
      have e : (n == (cycD xs s).num) = false := by show (n == s.num + 1) = false; simp; omega
      rw [e]
      rfl
    rw [run_plain O _ xs false f (c := cmO 113 (.line n) false) (by show s.out.length < O.C; omega) rfl rfl rfl rfl (op_ne _ _ (by decide)) hs]
    dsimp only [flowD]
    rw [run_end O _ xs false _ rfl (Nat.le_refl _)]
    obtain ⟨l, hr⟩ := run_q n k f (s := { endD false { cycD xs s with pos := 1 } with inc := false }) rfl (by show s.num + 1 + k + 1 = n; omega) hl (by omega) (by show (s.out ++ [xs.getD s.num ⟨#[]⟩]).length + k + 1 < _; rw [List.length_append]; simp; omega)
    refine ⟨l, hr.trans ?_⟩
    show some ((s.out ++ [xs.getD s.num ⟨#[]⟩]) ++ (xs.drop (s.num + 1)).take (k + 1), l, 0) = _
    rw [← drop_get xs (k := s.num) (by omega), List.append_assoc]
    rfl
/-- d of all lines but one. -/
theorem run_dn (n : Nat) (hn1 : 1 ≤ n) : ∀ (k f : Nat) (s : Sn), s.inc = false → s.num + k = xs.length → n ≤ xs.length → 2 * k ≤ f → s.out.length + 1 < O.C → ∃ l, runD O [cmO 100 (.line n) true] xs false f s = some (s.out ++ (if s.num < n then [xs.getD (n - 1) ⟨#[]⟩] else []), l, 0)
  | 0, f, s, h, hn, hl, hf, hC => by
    refine ⟨f, ?_⟩
    rw [run_over O _ xs false f (by omega) h (by omega), if_neg (by omega), List.append_nil]
  | k + 1, f, s, h, hn, hl, hf, hC => by
    obtain ⟨f, rfl⟩ : ∃ f', f = f' + 1 + 1 := ⟨f - 2, by omega⟩
    rw [run_cyc O _ xs false _ (by omega) h (by omega)]
    by_cases hm : n = s.num + 1
    · have hs : comeD O [cmO 100 (.line n) true] xs false (cmO 100 (.line n) true) (cycD xs s) = (.further, { cycD xs s with pos := 1 }) := by
        rw [step_at O _ xs false 100 n true _ rfl]
        have e : (n == (cycD xs s).num) = true := by show (n == s.num + 1) = true; simp; omega
        rw [e]
        rfl
      rw [run_plain O _ xs false f (c := cmO 100 (.line n) true) (by show s.out.length < O.C; omega) rfl rfl rfl rfl (op_ne _ _ (by decide)) hs]
      dsimp only [flowD]
      rw [run_end O _ xs false _ rfl (Nat.le_refl _)]
      have hout : ∀ (k f : Nat) (s : Sn), s.inc = false → s.num + k = xs.length → n ≤ s.num → 2 * k ≤ f → s.out.length < O.C → ∃ l, runD O [cmO 100 (.line n) true] xs false f s = some (s.out, l, 0) := by
        intro k
        induction k with
        | zero => intro f s h hn _ hf hC; exact ⟨f, run_over O _ xs false f hC h (by omega)⟩
        | succ k ih =>
          intro f s h hn hns hf hC
          obtain ⟨f, rfl⟩ : ∃ f', f = f' + 1 + 1 := ⟨f - 2, by omega⟩
          rw [run_cyc O _ xs false _ (by omega) h (by omega)]
          have hs : comeD O [cmO 100 (.line n) true] xs false (cmO 100 (.line n) true) (cycD xs s) = (.cut, { cycD xs s with pos := 1 }) := by
            rw [step_at O _ xs false 100 n true _ rfl]
            have e : (n == (cycD xs s).num) = false := by show (n == s.num + 1) = false; simp; omega
            rw [e]
            rfl
          rw [run_plain O _ xs false f (c := cmO 100 (.line n) true) (by show s.out.length < O.C; omega) rfl rfl rfl rfl (op_ne _ _ (by decide)) hs]
          exact ih f _ rfl (by show s.num + 1 + k = _; omega) (by show n ≤ s.num + 1; omega) (by omega) hC
      obtain ⟨l, hr⟩ := hout k f { endD false { cycD xs s with pos := 1 } with inc := false } rfl (by show s.num + 1 + k = _; omega) (by show n ≤ s.num + 1; omega) (by omega) (by show (s.out ++ [xs.getD s.num ⟨#[]⟩]).length < _; rw [List.length_append]; simp; omega)
      refine ⟨l, hr.trans ?_⟩
      rw [if_pos (by omega)]
      show some (s.out ++ [xs.getD s.num ⟨#[]⟩], l, 0) = _
      rw [show n - 1 = s.num by omega]
    · have hs : comeD O [cmO 100 (.line n) true] xs false (cmO 100 (.line n) true) (cycD xs s) = (.cut, { cycD xs s with pos := 1 }) := by
        rw [step_at O _ xs false 100 n true _ rfl]
        have e : (n == (cycD xs s).num) = false := by show (n == s.num + 1) = false; simp; omega
        rw [e]
        rfl
      rw [run_plain O _ xs false f (c := cmO 100 (.line n) true) (by show s.out.length < O.C; omega) rfl rfl rfl rfl (op_ne _ _ (by decide)) hs]
      obtain ⟨l, hr⟩ := run_dn n hn1 k f (s := { cycD xs s with pos := 1, inc := false }) rfl (by show s.num + 1 + k = _; omega) hl (by omega) hC
      refine ⟨l, hr.trans ?_⟩
      show some (s.out ++ (if s.num + 1 < n then _ else _), l, 0) = _
      by_cases h2 : s.num < n
      · rw [if_pos h2, if_pos (by omega)]
      · rw [if_neg h2, if_neg (by omega)]
/-- p at one line, quiet. -/
theorem run_pn (n : Nat) (hn1 : 1 ≤ n) : ∀ (k f : Nat) (s : Sn), s.inc = false → s.num + k = xs.length → n ≤ xs.length → 2 * k ≤ f → s.out.length + (if s.num < n then 1 else 0) < O.C → ∃ l, runD O [cmO 112 (.line n) false] xs true f s = some (s.out ++ (if s.num < n then [xs.getD (n - 1) ⟨#[]⟩] else []), l, 0)
  | 0, f, s, h, hn, hl, hf, hC => by
    refine ⟨f, ?_⟩
    rw [run_over O _ xs true f (by omega) h (by omega), if_neg (by omega), List.append_nil]
  | k + 1, f, s, h, hn, hl, hf, hC => by
    obtain ⟨f, rfl⟩ : ∃ f', f = f' + 1 + 1 := ⟨f - 2, by omega⟩
    rw [run_cyc O _ xs true _ (by omega) h (by omega)]
    by_cases hm : n = s.num + 1
    · have hs : comeD O [cmO 112 (.line n) false] xs true (cmO 112 (.line n) false) (cycD xs s) = (.further, outD { cycD xs s with pos := 1 }) := by
        rw [step_at O _ xs true 112 n false _ rfl]
        have e : (n == (cycD xs s).num) = true := by show (n == s.num + 1) = true; simp; omega
        rw [e]
        rfl
      rw [run_plain O _ xs true f (c := cmO 112 (.line n) false) (by show s.out.length < O.C; omega) rfl rfl rfl rfl (op_ne _ _ (by decide)) hs]
      dsimp only [flowD]
      rw [run_end O _ xs true _ rfl (Nat.le_refl _)]
      rw [if_pos (by omega)] at hC
      obtain ⟨l, hr⟩ := run_pn n hn1 k f { endD true (outD { cycD xs s with pos := 1 }) with inc := false } rfl (by show s.num + 1 + k = _; omega) hl (by omega) (by show (s.out ++ [xs.getD s.num ⟨#[]⟩]).length + (if s.num + 1 < n then 1 else 0) < _; rw [if_neg (by omega), List.length_append]; simp; omega)
      refine ⟨l, hr.trans ?_⟩
      show some ((s.out ++ [xs.getD s.num ⟨#[]⟩]) ++ (if s.num + 1 < n then _ else _), l, 0) = _
      rw [if_neg (by omega), if_pos (by omega), List.append_nil, show n - 1 = s.num by omega]
    · have hs : comeD O [cmO 112 (.line n) false] xs true (cmO 112 (.line n) false) (cycD xs s) = (.further, { cycD xs s with pos := 1 }) := by
        rw [step_at O _ xs true 112 n false _ rfl]
        have e : (n == (cycD xs s).num) = false := by show (n == s.num + 1) = false; simp; omega
        rw [e]
        rfl
      rw [run_plain O _ xs true f (c := cmO 112 (.line n) false) (by show s.out.length < O.C; omega) rfl rfl rfl rfl (op_ne _ _ (by decide)) hs]
      dsimp only [flowD]
      rw [run_end O _ xs true _ rfl (Nat.le_refl _)]
      have e1 : (s.num + 1 < n) = (s.num < n) := by simp only [eq_iff_iff]; omega
      obtain ⟨l, hr⟩ := run_pn n hn1 k f (s := { endD true { cycD xs s with pos := 1 } with inc := false }) rfl (by show s.num + 1 + k = _; omega) hl (by omega) (by show s.out.length + (if s.num + 1 < n then 1 else 0) < _; simp only [e1]; exact hC)
      refine ⟨l, hr.trans ?_⟩
      show some (s.out ++ (if s.num + 1 < n then _ else _), l, 0) = _
      simp only [e1]
end
end Go.Proofs.YtkgpnlldlekcbaaGreatDoor
namespace Go.Proofs.YtkgpnlldlekcbaaGreatDoor
open Go.RowKit Go.Lib
attribute [local go_sem] Oper.semAt_some

def O0 : Ora := ⟨fun _ _ => false, fun _ s => (s, 0), 0, 8796093022208⟩
theorem ora_none (O : Ora) (cs : List Cm) (h : ∀ c ∈ cs, isRe c.a = false ∧ isRe c.b = false ∧ c.op ≠ 115) (E : RC) (hE : E.cs = cs) : OraI O E ∧ OraS O E ∧ OraN O E := by
  refine ⟨fun c hc a t ha ht => ?_, fun c hc h1 => ?_, fun c hc h1 => ?_⟩
  · rw [hE] at hc
    have := h c hc
    rcases ha with rfl | rfl
    · rw [ht] at this; exact absurd this.1 (show ¬ (true = false) by decide)
    · rw [ht] at this; exact absurd this.2.1 (show ¬ (true = false) by decide)
  · rw [hE] at hc
    exact absurd h1 (h c hc).2.2
  · rw [hE] at hc
    exact absurd h1 (h c hc).2.2
theorem strs_own {B : Nat} {v : Value} {xs : List ByteArray} {w : World} (h : w.ownsRow B 9 1 v xs.length (strC xs)) (hl : xs.length ≤ 140737488355328) : Strs v xs w := strs_of_owns h rfl hl
theorem oneD_com : comP reR [49, 100] = .ok (cmO 100 (.line 1) false) [] := by
  unfold comP
  rw [show adP reR [49, 100] = .ok (.line 1) [100] from rfl]
  dsimp only [Got.bind]
  rw [show secP reR (.line 1) [100] = .ok .none [100] from rfl]
  dsimp only
  rw [show notB [100] = false from rfl, show notL [100] = [100] from rfl, show letP reR (.line 1) .none false [100] = .ok (cmO 100 (.line 1) false) [] from rfl]
  rfl
theorem oneD_sed : sedR [49, 100] = .ok [cmO 100 (.line 1) false] := by
  unfold sedR
  rw [if_neg (by decide)]
  rw [readSd_of (cs := [cmO 100 (.line 1) false])]
  · rfl
  · rw [scr_eq, show List.dropWhile sepS [49, 100] = [49, 100] from rfl, scrS_more rfl (by simp) oneD_com, scr_eq]
    rfl
def sA : ByteArray := ⟨#[97]⟩
def sB : ByteArray := ⟨#[98]⟩
theorem shown_lines : linesB ⟨#[97, 10, 98, 10]⟩ = [sA, sB] := lines_end _ [sA, sB] (by decide) rfl
theorem shown_lines3 : linesB ⟨#[97, 10, 10, 98]⟩ = [sA, ⟨#[]⟩, sB] := lines_mid _ [sA, ⟨#[]⟩] sB (by decide) (by decide) rfl
theorem shown_run : runD O0 [cmO 100 (.line 1) false] [sA, sB] false 10 (startD [cmO 100 (.line 1) false]) = some ([sB], 6, 0) := by rfl
theorem shown9_text (w : World) (hm : Mx w) : Calls Tryz.prog 17 #[.string ⟨#[97, 10, 98, 10]⟩, .string ⟨#[49, 100]⟩, .bool false, .int .i64 10] w fun e w' => e = .returned (.tuple #[.string ⟨#[98, 10]⟩, .int .i64 6, .int .i64 0]) ∧ Below w.heap.size w w' := by
  refine text9_walk _ _ false 10 w ([sB], 6, 0) (by decide) (by decide) ?_
  have k := read8_any ⟨#[49, 100]⟩ w (by decide)
  have hs : sedR (⟨#[49, 100]⟩ : ByteArray).data.toList = .ok [cmO 100 (.line 1) false] := oneD_sed
  rw [hs] at k
  refine k.mono ?_
  rintro e w1 ⟨h1, hb1⟩
  obtain ⟨v, rfl, hscr⟩ : ∃ v, e = .returned (.tuple #[v, .int .i64 0]) ∧ ScrS w.heap.size [cmO 100 (.line 1) false] v w1 := h1
  obtain ⟨al, cl, hv⟩ := hscr.shape
  subst hv
  refine ⟨al, _, cl, rfl, hb1, ?_⟩
  refine (lines9_any ⟨#[97, 10, 98, 10]⟩ w1 (by decide) (hm.below hb1)).mono ?_
  rintro e w2 ⟨⟨v2, rfl, ho⟩, hb2⟩
  rw [shown_lines] at ho
  obtain ⟨a2, c2, hv2⟩ := own_zeroB ho
  subst hv2
  have hB2 := hb1.trans (hb2.mono hb1.size)
  refine ⟨a2, _, c2, rfl, hB2, ?_⟩
  have hstr : Strs (.slice a2 2 c2) [sA, sB] w2 := strs_own ho (by decide)
  refine (run9_any O0 [cmO 100 (.line 1) false] [sA, sB] w.heap.size _ _ false 10 w2 (hscr.below hb2) hstr (by decide) (by decide) (by decide) (by decide) (by decide) (fun E hE _ _ => ora_none O0 _ (by decide) E hE) _ shown_run).mono ?_
  rintro e w3 ⟨v3, rfl, ho3, hb3⟩
  exact ⟨v3, rfl, strs_own ho3 (by decide), hB2.trans (hb3.mono hB2.size)⟩
set_option maxHeartbeats 2000000 in
set_option maxRecDepth 20000 in
theorem shown9_any (w : World) (hm : Mx w) : Calls Tryz.prog 9 #[] w fun e w' => e = .returned (.bool true) ∧ Below w.heap.size w w' := by
  have k := shown9_text w hm
  have kl : ∀ w', Below w.heap.size w w' → Calls Tryz.prog 16 #[.string ⟨#[97, 10, 10, 98]⟩] w' fun e w'' => (∃ a c, e = .returned (.slice a 3 c)) ∧ Below w'.heap.size w' w'' := fun w' hb => by
    refine (lines9_any ⟨#[97, 10, 10, 98]⟩ w' (by decide) (hm.below hb)).mono ?_
    rintro e w2 ⟨⟨v2, rfl, ho⟩, hb2⟩
    rw [shown_lines3] at ho
    obtain ⟨a2, c2, hv2⟩ := own_zeroB ho
    subst hv2
    exact ⟨⟨a2, c2, rfl⟩, hb2⟩
  clear hm
  go_enter Tryz.func9, Tryz.ntmps9
  go_wp2_with (first
    | (go_at_call 17; (with_reducible refine k.mono ?_); rintro e w1 ⟨rfl, hb1⟩; clear k; have H1 := Lib.hid hb1; clear hb1)
    | (go_at_call 16; (with_reducible refine (kl _ H1.out).mono ?_); rintro e w2 ⟨⟨a, c, rfl⟩, hb2⟩; have H2 := Lib.hid hb2; clear hb2 kl))
  exact bodyPost_ret (results_tmp rfl _ _ _) rfl ⟨rfl, H1.out.trans (H2.out.mono H1.out.size)⟩
end Go.Proofs.YtkgpnlldlekcbaaGreatDoor
namespace Go.Proofs.YtkgpnlldlekcbaaGreatDoor
open Go.RowKit Go.Lib
attribute [local go_sem] Oper.semAt_some

def cmC (c : Cm) : List Value := [.int .u8 (c.op.toNat : Int), .int .i64 (c.a.k : Int), .int .i64 (c.a.n : Int), .slice none 0 0, .int .i64 (c.b.k : Int), .int .i64 (c.b.n : Int), .slice none 0 0, .bool c.neg, .slice none 0 0, .slice none 0 0, .bool c.all, .bool c.prt, .string ⟨c.label.toArray⟩]
def Lit0 (c : Cm) : Prop := isRe c.a = false ∧ isRe c.b = false ∧ c.re = none ∧ c.put = []
theorem lit_ads {a : Ad} (h : isRe a = false) (B : Nat) (w : World) : AdS B a (.slice none 0 0) w := by
  cases a with
  | re t => cases h
  | none => rfl
  | line n => rfl
  | last => rfl
theorem scr_lit (cs : List Cm) (h : ∀ c ∈ cs, Lit0 c) (w : World) (hl : cs.length ≤ 1000000) (X : Array Value) (hX : X = ⟨(cs.map cmC).flatten⟩) :
    ScrS w.heap.size cs (.slice (some ⟨w.heap.size, 0, none⟩) cs.length cs.length) (w.alloc (.cells X 41)) := by
  have hlen : ((cs.map cmC).flatten).length = cs.length * 13 := by
    clear h hl hX
    induction cs with
    | nil => rfl
    | cons c r ih => rw [List.map_cons, List.flatten_cons, List.length_append, ih, List.length_cons]; show 13 + _ = _; omega
  refine ⟨cs.map cmC, List.length_map _, ⟨hlen, .inr ⟨w.heap.size, cs.length, _, rfl, Nat.le_refl _, heap_alloc_new w _, Nat.le_refl _, by unfold maxLen; omega, by rw [hX]; exact hlen, ?_⟩⟩, fun i c x hc hx => ?_⟩
  · rw [hX]
    exact List.take_of_length_le (by rw [hlen]; exact Nat.le_refl _)
  · rw [List.getElem?_map, hc] at hx
    cases hx
    obtain ⟨h1, h2, h3, h4⟩ := h c (List.mem_of_getElem? hc)
    exact ⟨_, _, _, _, rfl, lit_ads h1 _ _, lit_ads h2 _ _, by rw [h3]; rfl, by rw [h4]; exact World.ownsRow_nil _ _ _ _⟩
/-- Run, of a script that a law lays itself. -/
theorem run_lit (cs : List Cm) (h : ∀ c ∈ cs, Lit0 c ∧ c.op ≠ 115 ∧ c.label = []) (hl : cs.length ≤ 1000000) (X : Array Value) (hX : X = ⟨(cs.map cmC).flatten⟩) (xs : List ByteArray) (vx : Value) (q : Bool) (f : Int) (w0 w : World) (hw : Below w0.heap.size w0 w) (hstr : Strs vx xs w0) (hxz : ∀ x ∈ xs, x.size ≤ 140737488355328) (hf : f ≤ 1000000000000000000)
    (R : List ByteArray × Nat × Int) (hr : runD O0 cs xs q f.toNat (startD cs) = some R) :
    Calls Tryz.prog 13 #[.slice (some ⟨w.heap.size, 0, none⟩) cs.length cs.length, vx, .bool q, .int .i64 f] (w.alloc (.cells X 41)) fun e w' => ∃ a c, e = .returned (.tuple #[.slice a R.1.length c, .int .i64 (R.2.1 : Int), .int .i64 R.2.2]) ∧ w'.ownsRow w.heap.size 9 1 (.slice a R.1.length c) R.1.length (strC R.1) ∧ Below w.heap.size w w' := by
  have hb : Below w.heap.size w (w.alloc (.cells X 41)) := (Below.refl _ w).alloc (Nat.le_refl _) _
  refine (run9_any O0 cs xs w.heap.size _ vx q f _ (scr_lit cs (fun c hc => (h c hc).1) w hl X hX) ((hstr.below hw).below hb) hxz (by omega) (fun c hc => by rw [(h c hc).2.2]; exact Nat.zero_le _) (by decide) hf (fun E hE _ _ => ora_none O0 cs (fun c hc => ⟨(h c hc).1.1, (h c hc).1.2.1, (h c hc).2.1⟩) E hE) R hr).mono ?_
  rintro e w' ⟨v, rfl, ho, hb2⟩
  obtain ⟨a, c, rfl⟩ := own_zeroB ho
  exact ⟨a, c, rfl, owns_base ho hb.size, hb.trans (hb2.mono hb.size)⟩
theorem run_lit0 (xs : List ByteArray) (vx : Value) (q : Bool) (f : Int) (w0 w : World) (hw : Below w0.heap.size w0 w) (hstr : Strs vx xs w0) (hxz : ∀ x ∈ xs, x.size ≤ 140737488355328) (hf : f ≤ 1000000000000000000)
    (R : List ByteArray × Nat × Int) (hr : runD O0 [] xs q f.toNat (startD []) = some R) :
    Calls Tryz.prog 13 #[.slice none 0 0, vx, .bool q, .int .i64 f] w fun e w' => ∃ a c, e = .returned (.tuple #[.slice a R.1.length c, .int .i64 (R.2.1 : Int), .int .i64 R.2.2]) ∧ w'.ownsRow w.heap.size 9 1 (.slice a R.1.length c) R.1.length (strC R.1) ∧ Below w.heap.size w w' := by
  refine (run9_any O0 [] xs w.heap.size _ vx q f _ (ScrS.nil _ _) (hstr.below hw) hxz (by decide) (fun c hc => by cases hc) (by decide) hf (fun E hE _ _ => ora_none O0 [] (fun c hc => by cases hc) E hE) R hr).mono ?_
  rintro e w' ⟨v, rfl, ho, hb2⟩
  obtain ⟨a, c, rfl⟩ := own_zeroB ho
  exact ⟨a, c, rfl, ho, hb2⟩
end Go.Proofs.YtkgpnlldlekcbaaGreatDoor
namespace Go.Proofs.YtkgpnlldlekcbaaGreatDoor
open Go.RowKit Go.Lib
attribute [local go_sem] Oper.semAt_some

set_option maxHeartbeats 8000000 in
set_option maxRecDepth 100000 in
theorem plain9_walk (ao : Option Addr) (cap : Nat) (xs : List ByteArray) (z : Int) (w : World) (hx : Strs (.slice ao xs.length cap) xs w) (hm : Mx w) (hl : xs.length ≤ 8796093022000) (hxz : ∀ x ∈ xs, x.size ≤ 140737488355328)
    (kl : ∀ w', Below w.heap.size w w' → Calls Tryz.prog 15 #[.slice ao xs.length cap] w' fun e w'' => e = .returned (.int .i64 z) ∧ Below w'.heap.size w' w'') :
    Calls Tryz.prog 4 #[.slice ao xs.length cap] w fun e w' => e = .returned (.bool true) ∧ Below w.heap.size w w' := by
  have kS := shown9_any w hm
  obtain ⟨n, hn⟩ : ∃ n, n = xs.length := ⟨_, rfl⟩
  rw [← hn] at hl kl ⊢
  by_cases hz : 500 < z
  · have hd : decide ((500 : Int) < z) = true := decide_eq_true hz
    clear hx hxz hn hm
    go_enter Tryz.func4, Tryz.ntmps4
    go_wp2_with (first
      | (go_at_call 9; (with_reducible refine kS.mono ?_); rintro e w1 ⟨rfl, hb1⟩; have H1 := Lib.hid hb1; clear hb1 kS)
      | (go_at_call 15; (with_reducible refine (kl _ H1.out).mono ?_); rintro e w2 ⟨rfl, hb2⟩; have H2 := Lib.hid hb2; clear hb2 kl))
    exact bodyPost_ret (results_tmp rfl _ _ _) rfl ⟨rfl, H1.out.trans (H2.out.mono H1.out.size)⟩
  · have hd : decide ((500 : Int) < z) = false := decide_eq_false hz
    have r1 : runD O0 [] xs false ((n : Int)).toNat (startD []) = some (xs, 0, 0) := by
      have := run_nil O0 xs n (startD []) rfl (by show 0 + n = _; omega) (by show 0 + n < 8796093022208; omega)
      rw [show ((n : Int)).toNat = n by omega, this]
      rfl
    have r2 : runD O0 [cmO 112 .none false] xs true ((2 * (n : Int) + 1)).toNat (startD [cmO 112 .none false]) = some (xs, 1, 0) := by
      have := run_p O0 xs n (startD [cmO 112 .none false]) rfl (by show 0 + n = _; omega) (by show 0 + n < 8796093022208; omega)
      rw [show ((2 * (n : Int) + 1)).toNat = 2 * n + 1 by omega, this]
      rfl
    have r3 : runD O0 [cmO 100 .none false] xs false ((2 * (n : Int))).toNat (startD [cmO 100 .none false]) = some ([], 0, 0) := by
      have := run_d O0 xs n (startD [cmO 100 .none false]) rfl (by show 0 + n = _; omega) (by show 0 < 8796093022208; omega)
      rw [show ((2 * (n : Int))).toNat = 2 * n by omega, this]
      rfl
    have r4 : runD O0 [] xs true ((n : Int)).toNat (startD []) = some ([], 0, 0) := by
      have := run_nilq O0 xs n (startD []) rfl (by show 0 + n = _; omega) (by show 0 < 8796093022208; omega)
      rw [show ((n : Int)).toNat = n by omega, this]
      rfl
    have k1 := fun w' (hb : Below w.heap.size w w') => run_lit0 xs (.slice ao n cap) false (n : Int) w w' hb (by rw [hn]; exact hx) hxz (by omega) _ r1
    have k2 := fun w' (hb : Below w.heap.size w w') => run_lit [cmO 112 .none false] (by intro c hc; rw [List.mem_singleton] at hc; subst hc; exact ⟨⟨rfl, rfl, rfl, rfl⟩, by decide, rfl⟩) (by decide) #[.int .u8 112, .int .i64 0, .int .i64 0, .slice none 0 0, .int .i64 0, .int .i64 0, .slice none 0 0, .bool false, .slice none 0 0, .slice none 0 0, .bool false, .bool false, .string ⟨#[]⟩] rfl xs (.slice ao n cap) true (2 * (n : Int) + 1) w w' hb (by rw [hn]; exact hx) hxz (by omega) _ r2
    have k3 := fun w' (hb : Below w.heap.size w w') => run_lit [cmO 100 .none false] (by intro c hc; rw [List.mem_singleton] at hc; subst hc; exact ⟨⟨rfl, rfl, rfl, rfl⟩, by decide, rfl⟩) (by decide) #[.int .u8 100, .int .i64 0, .int .i64 0, .slice none 0 0, .int .i64 0, .int .i64 0, .slice none 0 0, .bool false, .slice none 0 0, .slice none 0 0, .bool false, .bool false, .string ⟨#[]⟩] rfl xs (.slice ao n cap) false (2 * (n : Int)) w w' hb (by rw [hn]; exact hx) hxz (by omega) _ r3
    have k4 := fun w' (hb : Below w.heap.size w w') => run_lit0 xs (.slice ao n cap) true (n : Int) w w' hb (by rw [hn]; exact hx) hxz (by omega) _ r4
    have kq : ∀ (B : Nat) (a : Option Addr) (c : Nat) (w1 w2 : World), w1.ownsRow B 9 1 (.slice a xs.length c) xs.length (strC xs) → Below w1.heap.size w1 w2 → Below w.heap.size w w2 → Calls Tryz.prog 14 #[.slice a n c, .slice ao n cap] w2 fun e w' => e = .returned (.bool true) ∧ Below w2.heap.size w2 w' := fun B a c w1 w2 ho h12 hb => by
      have h1 : Strs (.slice a xs.length c) xs w2 := (strs_own ho (by omega)).below h12
      have := refSameS_any _ _ xs xs w2 h1 (hx.below hb)
      rw [decide_eq_true rfl] at this
      rw [hn]
      exact this
    simp only [List.length_cons, List.length_nil, Nat.zero_add] at k1 k2 k3 k4
    rw [show xs.length = n from hn.symm] at k1 k2 kq
    have HX := Lib.hid kq
    have n0 : (0 : Int) ≤ (n : Int) := by omega
    have nb : (n : Int) ≤ 8796093022000 := by omega
    clear hx hxz hn hm r1 r2 r3 r4 kq
    go_enter Tryz.func4, Tryz.ntmps4
    go_upto_region 5 with (first
      | (go_at_call 9; (with_reducible refine kS.mono ?_); rintro e w1 ⟨rfl, hb1⟩; have H1 := Lib.hid hb1; clear hb1 kS)
      | (go_at_call 15; (with_reducible refine (kl _ H1.out).mono ?_); rintro e w2 ⟨rfl, hb2⟩; have H2 := Lib.hid (H1.out.trans (hb2.mono H1.out.size)); clear hb2 kl H1))
    go_upto_region 6 with (first
      | (go_at_call 13; (with_reducible refine (k1 _ H2.out).mono ?_); rintro e w3 ⟨a3, c3, rfl, ho3, hb3⟩; have O3 := Lib.hid ho3; have H3 := Lib.hid (H2.out.trans (hb3.mono H2.out.size)); clear hb3 ho3 k1))
    go_upto_region 7 with (first
      | (go_at_call 13; (with_reducible refine (k2 _ H3.out).mono ?_); rintro e w4 ⟨a4, c4, rfl, ho4, hb4⟩; have O4 := Lib.hid (And.intro ho4 hb4); have H4 := Lib.hid (H3.out.trans (hb4.mono H3.out.size)); clear hb4 ho4 k2))
    go_upto_region 8 with (first
      | (go_at_call 13; (with_reducible refine (k3 _ H4.out).mono ?_); rintro e w5 ⟨a5, c5, rfl, ho5, hb5⟩; have O5 := Lib.hid hb5; have H5 := Lib.hid (H4.out.trans (hb5.mono H4.out.size)); clear hb5 ho5 k3))
    go_upto_region 9 with (first
      | (go_at_call 13; (with_reducible refine (k4 _ H5.out).mono ?_); rintro e w6 ⟨a6, c6, rfl, ho6, hb6⟩; have O6 := Lib.hid hb6; have H6 := Lib.hid (H5.out.trans (hb6.mono H5.out.size)); clear hb6 ho6 k4))
    have b46 : Below w4.heap.size w4 w6 := O5.out.trans (O6.out.mono O5.out.size)
    have b36 : Below w3.heap.size w3 w6 := O4.out.2.trans (b46.mono O4.out.2.size)
    have HB := Lib.hid (And.intro b36 b46)
    clear b36 b46
    have kA := HX.out _ a3 c3 w3 w6 O3.out HB.out.1 H6.out
    go_wp2_with (first
      | (go_at_call 14; (with_reducible refine kA.mono ?_); rintro e w7 ⟨rfl, hb7⟩; have H7 := Lib.hid hb7; have kB := HX.out _ a4 c4 w4 w7 O4.out.1 (HB.out.2.trans (hb7.mono HB.out.2.size)) (H6.out.trans (hb7.mono H6.out.size)); clear hb7 kA)
      | (go_at_call 14; (with_reducible refine kB.mono ?_); rintro e w8 ⟨rfl, hb8⟩; have H8 := Lib.hid hb8; clear hb8 kB))
    exact bodyPost_ret (results_tmp rfl _ _ _) rfl ⟨rfl, (H6.out.trans (H7.out.mono H6.out.size)).trans (H8.out.mono (by have := H6.out.size; have := H7.out.size; omega))⟩
end Go.Proofs.YtkgpnlldlekcbaaGreatDoor
namespace Go.Proofs.YtkgpnlldlekcbaaGreatDoor
open Go.RowKit Go.Lib

theorem size_le_long {xs : List ByteArray} {x : ByteArray} (h : x ∈ xs) : x.size ≤ longN xs := by
  have : ∀ (l : List ByteArray), x ∈ l → x.size ≤ (l.map (·.size)).sum := by
    intro l
    induction l with
    | nil => intro h; cases h
    | cons y l ih =>
      intro h
      rw [List.map_cons, List.sum_cons]
      rcases List.mem_cons.1 h with rfl | h
      · omega
      · have := ih h; omega
  exact Nat.le_trans (this xs h) (Nat.le_add_left _ _)
theorem plain9_any (W : World) (ao : Option Addr) (cap : Nat) (xs : List ByteArray) (hx : Strs (.slice ao xs.length cap) xs W) (hl : longN xs ≤ 1048576) (hm : Mx W) :
    Calls Tryz.prog 4 #[.slice ao xs.length cap] W fun e w' => e = .returned (.bool true) ∧ Below W.heap.size W w' := by
  have hn : xs.length ≤ longN xs := Nat.le_add_right _ _
  have hxz : ∀ x ∈ xs, x.size ≤ 140737488355328 := fun x h => by have := size_le_long h; omega
  exact plain9_walk ao cap xs (longN xs : Nat) W hx hm (by omega) hxz fun w' hb => (refLong_any _ xs w' (hx.below hb) (by omega)).mono fun e w'' ⟨he, hw⟩ => ⟨he, by subst hw; exact Below.refl _ _⟩
end Go.Proofs.YtkgpnlldlekcbaaGreatDoor
