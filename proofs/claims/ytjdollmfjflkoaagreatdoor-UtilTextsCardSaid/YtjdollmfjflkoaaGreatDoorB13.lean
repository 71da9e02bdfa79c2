/- Packed texts: UtMem, UtTab, UtLeaf, UtSub. What each of them proves stands above its theorems; the conditions stand in these. -/
import Derived.Laws.Rows
import Derived.Laws.Tables
import Derived.StringKeys
import Derived.Test.YtjdollmfjflkoaaGreatDoorB10
import Derived.Test.YtjdollmfjflkoaaGreatDoorB12
namespace Go.Proofs.YtjdollmfjflkoaaGreatDoor
open Go.RowKit Go.Lib Go.Maps Go.WideElems

def heldR (v : Value) : Option (DataW Value × List MemPlace) := some (.held v, [])
/-- An entry: its name, its function. -/
structure Ent where
  key : List UInt8
  v : Value
def putE (D : DataW Value) (e : Ent) : DataW Value := D.put (.string e.key) (.held e.v)
def entD (es : List Ent) : DataW Value := es.foldl putE (.map [])
def lookE (k : List UInt8) (o : Option Value) (e : Ent) : Option Value := if k = e.key then some e.v else o
def look (es : List Ent) (k : List UInt8) : Option Value := es.foldl (lookE k) none
theorem isKeyU (s : List UInt8) : WideAt.IsKeyLit (.string s) := by unfold WideAt.IsKeyLit; trivial
theorem foldl_ent (k : List UInt8) : ∀ (es : List Ent) (D : DataW Value) (o : Option Value), IsMap D → (∀ z, D.atKey (.string k) z = (match o with | some v => .held v | none => z)) → Maps.has D (.string k) = o.isSome →
    IsMap (es.foldl putE D) ∧ (∀ z, (es.foldl putE D).atKey (.string k) z = (match es.foldl (lookE k) o with | some v => .held v | none => z)) ∧ Maps.has (es.foldl putE D) (.string k) = (es.foldl (lookE k) o).isSome
  | [], D, o, h1, h2, h3 => ⟨h1, h2, h3⟩
  | e :: es, D, o, h1, h2, h3 => by
    rw [List.foldl_cons, List.foldl_cons]
    refine foldl_ent k es (putE D e) (lookE k o e) (h1.put _ _) ?_ ?_
    · intro z
      unfold putE lookE
      by_cases h : k = e.key
      · rw [if_pos h, h, atKey_put_same h1 (isKeyU _)]
      · rw [if_neg h, atKey_put_other (fun he => h (Lit.string.inj he)), h2]
    · unfold putE lookE
      by_cases h : k = e.key
      · rw [if_pos h, h, has_put_same h1 (isKeyU _)]; rfl
      · rw [if_neg h, has_put_other (fun he => h (Lit.string.inj he)), h3]
theorem ent_look (es : List Ent) (k : List UInt8) : (∀ z, (entD es).atKey (.string k) z = (match look es k with | some v => .held v | none => z)) ∧ Maps.has (entD es) (.string k) = (look es k).isSome :=
  (foldl_ent k es (.map []) none isMap_empty (fun _ => rfl) rfl).2
theorem entD_snoc (es : List Ent) (e : Ent) : entD (es ++ [e]) = (entD es).put (.string e.key) (.held e.v) := by unfold entD; rw [List.foldl_append]; rfl
theorem str_lawU : Keyed Tryz.prog 9 := string_keyed Tryz.underlying9
theorem str_keyU (s : List UInt8) (h : s.length ≤ maxLen) : keyOf Tryz.prog 9 (.string ⟨s.toArray⟩) = some (.string s) := by
  have := WideMaps.keyOf_string_mk (P := Tryz.prog) (s := ⟨s.toArray⟩) Tryz.underlying9 (by rw [show (⟨s.toArray⟩ : ByteArray).size = s.length by simp [ByteArray.size]]; exact h)
  simpa using this
theorem zeroU (w : World) : (zeroValue 43).run Tryz.prog w = .ok .nilFunc w := by kernel_rfl

/-- A map of utilities in the making, in block m, behind the world w0; ks: blocks of one cell beside it, and what they hold. -/
structure UI (w0 : World) (m n : Nat) (es : List Ent) (ks : List (Nat × Value)) (w : World) : Prop where
  own : w.ownsMap Tryz.prog 9 heldR m n (entD es)
  low : w0.heap.size ≤ m
  below : Below w0.heap.size w0 w
  cells : ∀ x ∈ ks, x.1 ≠ m ∧ x.1 < w.heap.size ∧ w.cell? ⟨x.1, 0, none⟩ = some x.2
theorem UI.later {w0 w w' : World} {m n : Nat} {es : List Ent} {ks : List (Nat × Value)} (h : UI w0 m n es ks w) (hb : Below w.heap.size w w') : UI w0 m n es ks w' := by
  refine ⟨?_, h.low, below_at h.below hb h.below.size, fun x hx => ?_⟩
  · obtain ⟨a, b, h1, h2⟩ := h.own
    exact ⟨a, b, by rw [hb.block m h.own.lt]; exact h1, h2⟩
  · obtain ⟨g1, g2, g3⟩ := h.cells x hx
    exact ⟨g1, Nat.lt_of_lt_of_le g2 hb.size, by rw [hb.cell g2]; exact g3⟩
theorem UI.made (w0 w : World) (m : Nat) (hm : m = w.heap.size) (ks : List (Nat × Value)) (h : Below w0.heap.size w0 w) (hk : ∀ x ∈ ks, x.1 < w.heap.size ∧ w.cell? ⟨x.1, 0, none⟩ = some x.2) : UI w0 m 0 [] ks (w.alloc (.map #[] 0)) := by
  subst hm
  refine ⟨World.ownsMap_made w _ _ _, h.size, h.alloc h.size _, fun x hx => ?_⟩
  obtain ⟨h1, h2⟩ := hk x hx
  exact ⟨by omega, by rw [World.size_alloc]; omega, by rw [World.cell?_alloc_past _ _ _ h1]; exact h2⟩
/-- A new block with one cell. -/
def NewC (w w' : World) (b : Nat) (f : Value) : Prop := b = w.heap.size ∧ Below w.heap.size w w' ∧ b < w'.heap.size ∧ w'.cell? ⟨b, 0, none⟩ = some f
theorem newC_mk (w : World) (f : Value) (t : TypeId) : NewC w (w.alloc (.cells #[f] t)) w.heap.size f := by
  refine ⟨rfl, (Below.refl _ w).alloc (Nat.le_refl _) _, by rw [World.size_alloc]; exact Nat.lt_succ_self _, ?_⟩
  rw [World.cell?_alloc_at _ _ _ _ rfl]
  rfl
theorem UI.new {w0 w w' : World} {m n b : Nat} {f : Value} {es : List Ent} {ks : List (Nat × Value)} (h : UI w0 m n es ks w) (hn : NewC w w' b f) : UI w0 m n es ((b, f) :: ks) w' := by
  obtain ⟨rfl, h1, h2, h3⟩ := hn
  have hl := h.later h1
  refine ⟨hl.own, hl.low, hl.below, fun x hx => ?_⟩
  rcases List.mem_cons.1 hx with rfl | hx
  · exact ⟨fun he => absurd h.own.lt (by simp only at he; omega), h2, h3⟩
  · exact hl.cells x hx
theorem wpList_insert_U {w0 w : World} {ops : Array Oper} {rest : List Oper} {o : Oper} {a : Act} {Q : Exit → Act → World → Prop}
    (hg : o.guard = none) (m x v : Operand) (hop : o.op = Op.insert 45 m x v) (b n : Nat) (es : List Ent) (ks : List (Nat × Value)) (hU : UI w0 b n es ks w) (hn : n < 100)
    (hm : a.eval m = .map (some b)) (key : List UInt8) (val : Value) (hx : a.eval x = .string ⟨key.toArray⟩) (hv : a.eval v = val) (hk : key.length ≤ 100)
    (hK : ∀ w', UI w0 b (n + 1) (es ++ [⟨key, val⟩]) ks w' → wpList Tryz.prog ops Q rest (a.put o.dst undef) w') : wpList Tryz.prog ops Q (o :: rest) a w := by
  refine wpList_insert_own w hg m x v 45 hop 9 43 str_lawU Tryz.underlying45 heldR b n (entD es) hm hU.own (by unfold maxLen; omega) (.string ⟨key.toArray⟩) val (.string key) hx hv
    (str_keyU key (by unfold maxLen; omega)) (.held val) [] rfl (fun w' h1 h2 => hK w' ⟨?_, hU.low, ?_, ?_⟩)
  · rw [entD_snoc]
    exact h1
  · exact hU.below.grown h2 hU.below.size (fun g hg => by cases hg; exact hU.low)
  · intro y hy
    obtain ⟨g1, g2, g3⟩ := hU.cells y hy
    refine ⟨g1, Nat.lt_of_lt_of_le g2 h2.size, ?_⟩
    rw [World.cell?_of_block (w := w) (h2.block y.1 g2 (fun he => g1 (Option.some.inj he)))]
    exact g3
/-- What a name finds there. -/
theorem wpList_lookup_U {w0 w : World} {ops : Array Oper} {rest : List Oper} {o : Oper} {a : Act} {Q : Exit → Act → World → Prop}
    (hg : o.guard = none) (m x : Operand) (hop : o.op = Op.lookup 45 m x true) (b n : Nat) (es : List Ent) (ks : List (Nat × Value)) (hU : UI w0 b n es ks w)
    (hm : a.eval m = .map (some b)) (key : ByteArray) (hx : a.eval x = .string key) (hk : key.size ≤ maxLen) (v : Value) (y : Bool)
    (hl : (match look es key.data.toList with | some u => (u, true) | none => (.nilFunc, false)) = (v, y))
    (hK : wpList Tryz.prog ops Q rest (a.put o.dst (.tuple #[v, .bool y])) w) : wpList Tryz.prog ops Q (o :: rest) a w := by
  have hkey : keyOf Tryz.prog 9 (.string key) = some (.string key.data.toList) := WideMaps.keyOf_string_mk Tryz.underlying9 hk
  obtain ⟨g1, g2⟩ := ent_look es key.data.toList
  refine wpList_lookup_own_ok w hg m x 45 hop 9 43 str_lawU Tryz.underlying45 heldR (zeroU w) (.held .nilFunc) [] rfl b n (entD es) hm hU.own (.string key) (.string key.data.toList) hx hkey ?_
  intro u ps hu
  rw [g1] at hu
  rw [g2]
  cases h : look es key.data.toList with
  | none =>
    rw [h] at hu hl
    have h1 := congrArg Prod.fst (Option.some.inj hu)
    obtain rfl : u = .nilFunc := DataW.held.inj h1
    obtain ⟨rfl, rfl⟩ := Prod.mk.inj hl
    exact hK
  | some u' =>
    rw [h] at hu hl
    have h1 := congrArg Prod.fst (Option.some.inj hu)
    obtain rfl : u = u' := DataW.held.inj h1
    obtain ⟨rfl, rfl⟩ := Prod.mk.inj hl
    exact hK

theorem UI.run {w0 w : World} {m n : Nat} {es : List Ent} {ks : List (Nat × Value)} (hU : UI w0 m n es ks w) (key : ByteArray) (hk : key.size ≤ maxLen) (v : Value) (y : Bool)
    (hl : (match look es key.data.toList with | some u => (u, true) | none => (.nilFunc, false)) = (v, y)) : (Instr.lookup 45 (.map (some m)) (.string key) true).run Tryz.prog w = .ok (.tuple #[v, .bool y]) w := by
  have hkey : keyOf Tryz.prog 9 (.string key) = some (.string key.data.toList) := WideMaps.keyOf_string_mk Tryz.underlying9 hk
  obtain ⟨g1, g2⟩ := ent_look es key.data.toList
  obtain ⟨u, ps, h1, hu⟩ := hU.own.look_ok str_lawU Tryz.underlying45 (zeroU w) (zd := .held .nilFunc) (zp := []) rfl hkey
  rw [g1] at hu
  rw [h1, g2]
  cases h : look es key.data.toList with
  | none =>
    rw [h] at hu hl
    obtain rfl : u = .nilFunc := DataW.held.inj (congrArg Prod.fst (Option.some.inj hu))
    obtain ⟨rfl, rfl⟩ := Prod.mk.inj hl
    rfl
  | some u' =>
    rw [h] at hu hl
    obtain rfl : u = u' := DataW.held.inj (congrArg Prod.fst (Option.some.inj hu))
    obtain ⟨rfl, rfl⟩ := Prod.mk.inj hl
    rfl

/-! ### Functions that hold on to a function -/
def cloV (k b : Nat) : Value := .func (.func k) #[] #[.pointer (some ⟨b, 0, none⟩)]
theorem oneU_any (k : Nat) (x y : Array Value) (w : World) : Calls Tryz.prog 36 #[.func (.func k) x y] w fun e w' => ∃ b, e = .returned (cloV 55 b) ∧ NewC w w' b (.func (.func k) x y) := by
  have hmf : ∀ (fn : Fn) (first cap : Array Value) (w : World), (Instr.makeFunc fn first cap).run Tryz.prog w = .ok (.func fn first cap) w := fun _ _ _ _ => rfl
  go_enter Tryz.func36, Tryz.ntmps36
  go_wp2
  go_ret
  exact ⟨_, rfl, newC_mk _ _ _⟩
theorem twoU_any (k : Nat) (x y : Array Value) (w : World) : Calls Tryz.prog 60 #[.func (.func k) x y] w fun e w' => ∃ b, e = .returned (cloV 87 b) ∧ NewC w w' b (.func (.func k) x y) := by
  have hmf : ∀ (fn : Fn) (first cap : Array Value) (w : World), (Instr.makeFunc fn first cap).run Tryz.prog w = .ok (.func fn first cap) w := fun _ _ _ _ => rfl
  go_enter Tryz.func60, Tryz.ntmps60
  go_wp2
  go_ret
  exact ⟨_, rfl, newC_mk _ _ _⟩
theorem threeU_any (k : Nat) (x y : Array Value) (w : World) : Calls Tryz.prog 71 #[.func (.func k) x y] w fun e w' => ∃ b, e = .returned (cloV 96 b) ∧ NewC w w' b (.func (.func k) x y) := by
  have hmf : ∀ (fn : Fn) (first cap : Array Value) (w : World), (Instr.makeFunc fn first cap).run Tryz.prog w = .ok (.func fn first cap) w := fun _ _ _ _ => rfl
  go_enter Tryz.func71, Tryz.ntmps71
  go_wp2
  go_ret
  exact ⟨_, rfl, newC_mk _ _ _⟩
theorem byU_any (k : Nat) (x y : Array Value) (w : World) : Calls Tryz.prog 42 #[.func (.func k) x y] w fun e w' => ∃ b, e = .returned (cloV 58 b) ∧ NewC w w' b (.func (.func k) x y) := by
  have hmf : ∀ (fn : Fn) (first cap : Array Value) (w : World), (Instr.makeFunc fn first cap).run Tryz.prog w = .ok (.func fn first cap) w := fun _ _ _ _ => rfl
  go_enter Tryz.func42, Tryz.ntmps42
  go_wp2
  go_ret
  exact ⟨_, rfl, newC_mk _ _ _⟩
end Go.Proofs.YtjdollmfjflkoaaGreatDoor
namespace Go.Proofs.YtjdollmfjflkoaaGreatDoor
open Go.RowKit Go.Lib Go.Maps Go.WideElems

def fnU (k : Nat) : Value := .func (.func k) #[] #[]
def ptrU (b : Nat) : Value := .pointer (some ⟨b, 0, none⟩)
/-- All utilities, where the functions that they hold on to lie in the blocks h, u, d, t, and the text and the fuel of sed in i, f. -/
def utEs (h u d t i f : Nat) : List Ent :=
  [⟨[101, 99, 104, 111], fnU 29⟩, ⟨[58], fnU 32⟩, ⟨[116, 114, 117, 101], fnU 34⟩, ⟨[102, 97, 108, 115, 101], fnU 35⟩,
   ⟨[104, 101, 120], cloV 55 h⟩, ⟨[117, 110, 104, 101, 120], cloV 55 u⟩, ⟨[100, 101, 99], cloV 58 d⟩, ⟨[115, 116, 114], cloV 58 t⟩, ⟨[116, 101, 115, 116], fnU 45⟩,
   ⟨[115, 101, 100], .func (.func 46) #[] #[ptrU i, ptrU f]⟩]
def utKs (h u d t i f : Nat) (s p : Value) : List (Nat × Value) := [(t, fnU 44), (d, fnU 43), (u, fnU 39), (h, fnU 37), (i, s), (f, p)]
set_option maxRecDepth 20000 in
theorem utilities_any (s : ByteArray) (p : Option Addr) (w : World) :
    Calls Tryz.prog 27 #[.string s, .pointer p] w fun e w' => ∃ m h u d t i f, e = .returned (.map (some m)) ∧ UI w m 10 (utEs h u d t i f) (utKs h u d t i f (.string s) (.pointer p)) w' := by
  have hmm := @run_makeMap Tryz.prog
  have hmf : ∀ (fn : Fn) (first cap : Array Value) (w : World), (Instr.makeFunc fn first cap).run Tryz.prog w = .ok (.func fn first cap) w := fun _ _ _ _ => rfl
  obtain ⟨W2, hW2⟩ : ∃ W2, W2 = (w.alloc (.cells #[.string s] 9)).alloc (.cells #[.pointer p] 47) := ⟨_, rfl⟩
  have n1 := newC_mk w (.string s) 9
  have n2 := newC_mk (w.alloc (.cells #[.string s] 9)) (.pointer p) 47
  rw [← hW2] at n2
  have HU := Lib.hid (UI.made w W2 (w.heap.size + 1 + 1) (by rw [hW2, World.size_alloc, World.size_alloc]) [(w.heap.size, .string s), (w.heap.size + 1, .pointer p)] (below_at n1.2.1 n2.2.1 n1.2.1.size) (fun x hx => by
    obtain ⟨_, a2, a3, a4⟩ := n1
    obtain ⟨_, b2, b3, b4⟩ := n2
    rw [World.size_alloc] at b3 b4
    rcases List.mem_cons.1 hx with rfl | hx
    · exact ⟨Nat.lt_of_lt_of_le a3 b2.size, by rw [b2.cell a3]; exact a4⟩
    · obtain rfl := List.mem_singleton.1 hx
      exact ⟨b3, b4⟩))
  clear n1 n2
  subst hW2
  go_enter Tryz.func27, Tryz.ntmps27
  go_wp2_with (first
    | (go_at_call 36; refine (oneU_any _ _ _ _).mono ?_; rintro e w1 ⟨b1, rfl, hn1⟩; have HU := Lib.hid (HU.out.new hn1); clear hn1)
    | (go_at_call 42; refine (byU_any _ _ _ _).mono ?_; rintro e w1 ⟨b1, rfl, hn1⟩; have HU := Lib.hid (HU.out.new hn1); clear hn1)
    | (refine wpList_insert_U rfl _ _ _ rfl _ _ _ _ HU.out (by decide) rfl _ (cloV _ _) rfl rfl (by decide) ?_; intro w1 hu1; have HU := Lib.hid hu1; clear hu1)
    | (refine wpList_insert_U rfl _ _ _ rfl _ _ _ _ HU.out (by decide) rfl _ (fnU _) rfl rfl (by decide) ?_; intro w1 hu1; have HU := Lib.hid hu1; clear hu1)
    | (refine wpList_insert_U rfl _ _ _ rfl _ _ _ _ HU.out (by decide) rfl _ (.func (.func _) #[] #[ptrU _, ptrU _]) rfl rfl (by decide) ?_; intro w1 hu1; have HU := Lib.hid hu1; clear hu1))
  go_ret

  exact ⟨_, _, _, _, _, _, _, rfl, HU.out⟩
/-- Those of str. -/
def txEs (a b c d e f g : Nat) : List Ent :=
  [⟨[108, 101, 110], cloV 55 a⟩, ⟨[105, 110, 100, 101, 120], cloV 87 b⟩, ⟨[115, 117, 98], cloV 96 c⟩, ⟨[117, 112], cloV 55 d⟩, ⟨[108, 111, 119], cloV 55 e⟩, ⟨[99, 111, 117, 110, 116], cloV 55 f⟩, ⟨[102, 105, 101, 108, 100], cloV 87 g⟩]
def txKs (a b c d e f g : Nat) : List (Nat × Value) := [(g, fnU 76), (f, fnU 75), (e, fnU 74), (d, fnU 73), (c, fnU 72), (b, fnU 70), (a, fnU 69)]
set_option maxRecDepth 20000 in
theorem texts_any (w : World) :
    Calls Tryz.prog 44 #[] w fun e w' => ∃ m a b c d f g h, e = .returned (.map (some m)) ∧ UI w m 7 (txEs a b c d f g h) (txKs a b c d f g h) w' := by
  have hmm := @run_makeMap Tryz.prog
  have HU := Lib.hid (UI.made w w w.heap.size rfl [] (Below.refl _ w) (fun x hx => by cases hx))
  go_enter Tryz.func44, Tryz.ntmps44
  go_wp2_with (first
    | (go_at_call 36; refine (oneU_any _ _ _ _).mono ?_; rintro e w1 ⟨b1, rfl, hn1⟩; have HU := Lib.hid (HU.out.new hn1); clear hn1)
    | (go_at_call 60; refine (twoU_any _ _ _ _).mono ?_; rintro e w1 ⟨b1, rfl, hn1⟩; have HU := Lib.hid (HU.out.new hn1); clear hn1)
    | (go_at_call 71; refine (threeU_any _ _ _ _).mono ?_; rintro e w1 ⟨b1, rfl, hn1⟩; have HU := Lib.hid (HU.out.new hn1); clear hn1)
    | (refine wpList_insert_U rfl _ _ _ rfl _ _ _ _ HU.out (by decide) rfl _ (cloV _ _) rfl rfl (by decide) ?_; intro w1 hu1; have HU := Lib.hid hu1; clear hu1))
  go_ret
  exact ⟨_, _, _, _, _, _, _, _, rfl, HU.out⟩
/-- A reckoning by a sign. -/
theorem reckonU_any (op : Int) (w : World) : Calls Tryz.prog 59 #[.int .u8 op] w fun e w' => ∃ b o, e = .returned (cloV 87 b) ∧ Below w.heap.size w w' ∧ (b < w'.heap.size ∧ w.heap.size ≤ b ∧ w'.cell? ⟨b, 0, none⟩ = some (cloV 61 o)) ∧ o < w'.heap.size ∧ w.heap.size ≤ o ∧ w'.cell? ⟨o, 0, none⟩ = some (.int .u8 op) := by
  have hmf : ∀ (fn : Fn) (first cap : Array Value) (w : World), (Instr.makeFunc fn first cap).run Tryz.prog w = .ok (.func fn first cap) w := fun _ _ _ _ => rfl
  have n1 := Lib.hid (newC_mk w (.int .u8 op) 5)
  go_enter Tryz.func59, Tryz.ntmps59
  go_wp2_with (first
    | (go_at_call 60; refine (twoU_any _ _ _ _).mono ?_; rintro e w1 ⟨b1, rfl, hn1⟩; have HU := Lib.hid hn1; clear hn1))
  go_ret

  obtain ⟨_, a2, a3, a4⟩ := n1.out
  obtain ⟨hb, b2, b3, b4⟩ := HU.out
  refine ⟨_, _, rfl, below_at a2 b2 a2.size, ⟨b3, by rw [hb]; exact a2.size, b4⟩, Nat.lt_of_lt_of_le a3 b2.size, Nat.le_refl _, by rw [b2.cell a3]; exact a4⟩
end Go.Proofs.YtjdollmfjflkoaaGreatDoor
namespace Go.Proofs.YtjdollmfjflkoaaGreatDoor
open Go.RowKit Go.Lib

def resV (s : ByteArray) (st e : Int) : Value := .agg #[.string s, .int .i64 st, .int .i64 e]
theorem Tryz.infoUres : (Tryz.prog.info? 49).map (·.size) = some 3 := by kernel_rfl
/-- A result's block g, new since the world B. -/
structure RI (B : World) (g : Nat) (w : World) : Prop where
  row : w.heap[g]? = some (.cells #[.string ⟨#[]⟩, .int .i64 0, .int .i64 0] 49 (0, 0))
  low : B.heap.size ≤ g
  below : Below B.heap.size B w
theorem RI.start (w : World) : RI w w.heap.size (w.alloc (.cells #[.string ⟨#[]⟩, .int .i64 0, .int .i64 0] 49)) :=
  ⟨heap_alloc_new w _, Nat.le_refl _, (Below.refl _ w).alloc (Nat.le_refl _) _⟩
theorem RI.lt {B w : World} {g : Nat} (h : RI B g w) : g < w.heap.size := (Array.getElem?_eq_some_iff.1 h.row).1
theorem RI.later {B w w' : World} {g : Nat} (h : RI B g w) (hb : Below w.heap.size w w') : RI B g w' :=
  ⟨by rw [hb.block g h.lt]; exact h.row, h.low, below_at h.below hb h.below.size⟩
theorem RI.drew {B w : World} {g : Nat} (h : RI B g w) : RI B g w.drew := h.later (Below.refl _ w).drew
theorem RI.cells {B w : World} {g : Nat} (h : RI B g w) : (w.cell? ⟨g, 0, none⟩ = some (.string ⟨#[]⟩) ∧ w.cell? ⟨g, 1, none⟩ = some (.int .i64 0) ∧ w.cell? ⟨g, 2, none⟩ = some (.int .i64 0)) ∧
    (w.frozen? ⟨g, 0, none⟩ = false ∧ w.frozen? ⟨g, 1, none⟩ = false ∧ w.frozen? ⟨g, 2, none⟩ = false) :=
  ⟨⟨cell_of_row w g 0 _ _ _ h.row, cell_of_row w g 1 _ _ _ h.row, cell_of_row w g 2 _ _ _ h.row⟩, frozen_of_row w g 0 _ _ h.row, frozen_of_row w g 1 _ _ h.row, frozen_of_row w g 2 _ _ h.row⟩
/-- The block with its result in it. -/
def RD (B : World) (g : Nat) (v : Value) (w : World) : Prop := (∃ s st e, v = resV s st e ∧ w.heap[g]? = some (.cells #[.string s, .int .i64 st, .int .i64 e] 49 (0, 0))) ∧ Below B.heap.size B w
theorem RI.put {B w : World} {g : Nat} (h : RI B g w) (s : ByteArray) (st e : Int) : RD B g (resV s st e) (w.setRow g #[.string s, .int .i64 st, .int .i64 e]) := by
  refine ⟨⟨s, st, e, rfl, setRow_heap w g _ _ _ _ h.row⟩, ?_⟩
  refine ⟨by rw [setRow_os]; exact h.below.os, by rw [setRow_tape]; exact h.below.tape, by rw [setRow_output]; exact h.below.output, by rw [setRow_size]; exact h.below.size, fun i hi => ?_⟩
  rw [setRow_other w g i _ (by have := h.low; omega)]
  exact h.below.block i hi
theorem RI.put3 {B w : World} {g : Nat} (h : RI B g w) (s : ByteArray) (st e : Int) : RD B g (resV s st e) (((w.setCell ⟨g, 0, none⟩ (.string s)).setCell ⟨g, 1, none⟩ (.int .i64 st)).setCell ⟨g, 2, none⟩ (.int .i64 e)) := by
  have h1 := heap_setCell_same w g 0 _ _ (.string s) h.row
  have h2 := heap_setCell_same _ g 1 _ _ (.int .i64 st) h1
  have h3 := heap_setCell_same _ g 2 _ _ (.int .i64 e) h2
  exact ⟨⟨s, st, e, rfl, h3⟩, ((h.below.setCell (p := ⟨g, 0, none⟩) h.low _).setCell (p := ⟨g, 1, none⟩) h.low _).setCell (p := ⟨g, 2, none⟩) h.low _⟩
theorem wpList_store_res {B w : World} {g : Nat} {ops : Array Oper} {rest : List Oper} {o : Oper} {a : Act} {Q : Exit → Act → World → Prop} (hgd : o.guard = none) (x y : Operand) (ho : o.op = .store 49 x y)
    (hR : RI B g w) (hx : a.eval x = .pointer (some ⟨g, 0, none⟩)) (s : ByteArray) (st e : Int) (hy : a.eval y = resV s st e)
    (hK : ∀ w', RD B g (resV s st e) w' → wpList Tryz.prog ops Q rest (a.put o.dst undef) w') : wpList Tryz.prog ops Q (o :: rest) a w :=
  wpList_store_row hgd 49 x y ho g #[.string s, .int .i64 st, .int .i64 e] hx hy 49 _ hR.row Tryz.infoUres rfl (by simp [Value.oneCell']) (hK _ (hR.put s st e))
theorem res_end {B w : World} {g : Nat} {v : Value} (h : RD B g v w) {fn : Func} {p : Tmp} (hr : fn.results = #[.cell p 49]) (a : Act) (hp : a.tmps.getD p undef = .pointer (some ⟨g, 0, none⟩)) (hd : a.defers = []) (R : Ending → World → Prop)
    (hR : Below B.heap.size B w → R (.returned v) w) : bodyPost Tryz.prog fn R .ret a w := by
  obtain ⟨⟨s, st, e, rfl, h1⟩, h2⟩ := h
  exact bodyPost_ret (v := .agg _) (results_cell_row (p := p) (ty := 49) hr _ _ g 49 _ (0, 0) _ hp h1 Tryz.underlying49 rfl Tryz.infoUres) hd (hR h2)

theorem failed_any (w : World) : Calls Tryz.prog 56 #[] w fun e w' => e = .returned (resV ⟨#[]⟩ 2 0) ∧ Below w.heap.size w w' := by
  have HR := Lib.hid (RI.start w)
  go_enter Tryz.func56, Tryz.ntmps56
  go_wp2_with (first
    | (refine wpList_store_res rfl _ _ rfl HR.out rfl _ _ _ rfl ?_; intro w1 hr1; have HD := Lib.hid hr1; clear hr1))
  exact res_end HD.out Tryz.results56 _ rfl rfl _ (fun hb => ⟨rfl, hb⟩)
def lineB (s : ByteArray) : ByteArray := s ++ ⟨#[10]⟩
theorem said_any (s : ByteArray) (w : World) (hs : s.size ≤ 70368744177664) : Calls Tryz.prog 30 #[.string s] w fun e w' => e = .returned (resV (lineB s) 0 0) ∧ Below w.heap.size w w' := by
  have HR := Lib.hid (RI.start w)
  have hz : (⟨#[10]⟩ : ByteArray).size = 1 := rfl
  go_enter Tryz.func30, Tryz.ntmps30
  go_wp2_with (first
    | (refine wpList_store_res rfl _ _ rfl HR.out rfl _ _ _ rfl ?_; intro w1 hr1; have HD := Lib.hid hr1; clear hr1))
  exact res_end HD.out Tryz.results30 _ rfl rfl _ (fun hb => ⟨rfl, hb⟩)
theorem tried_any (s : ByteArray) (x : Int) (w : World) (hs : s.size ≤ 70368744177664) : Calls Tryz.prog 40 #[.string s, .int .i64 x] w fun e w' => e = .returned (if x = 0 then resV (lineB s) 0 0 else resV ⟨#[]⟩ 2 0) ∧ Below w.heap.size w w' := by
  have HR := Lib.hid (RI.start w)
  by_cases hx : x = 0
  · subst hx
    rw [if_pos rfl]
    go_enter Tryz.func40, Tryz.ntmps40
    go_wp2_with (first
      | (go_at_call 30; refine (said_any s _ hs).mono ?_; rintro e w1 ⟨rfl, hb1⟩; have HR := Lib.hid (HR.out.later hb1); clear hb1)
      | (refine wpList_store_res rfl _ _ rfl HR.out rfl _ _ _ rfl ?_; intro w1 hr1; have HD := Lib.hid hr1; clear hr1))
    exact res_end HD.out Tryz.results40 _ rfl rfl _ (fun hb => ⟨rfl, hb⟩)
  · rw [if_neg hx]
    have hx' : (x != 0) = true := bne_iff_ne.2 hx
    clear hx
    go_enter Tryz.func40, Tryz.ntmps40
    go_wp2_with (first
      | (go_at_call 56; refine (failed_any _).mono ?_; rintro e w1 ⟨rfl, hb1⟩; have HR := Lib.hid (HR.out.later hb1); clear hb1)
      | (refine wpList_store_res rfl _ _ rfl HR.out rfl _ _ _ rfl ?_; intro w1 hr1; have HD := Lib.hid hr1; clear hr1))
    exact res_end HD.out Tryz.results40 _ rfl rfl _ (fun hb => ⟨rfl, hb⟩)
end Go.Proofs.YtjdollmfjflkoaaGreatDoor
namespace Go.Proofs.YtjdollmfjflkoaaGreatDoor
open Go.RowKit Go.Lib

theorem extract_cap (s : ByteArray) (a i j : Nat) (h : i = j ∨ (s.size ≤ i ∧ s.size ≤ j)) : s.extract a i = s.extract a j := by
  rcases h with rfl | ⟨h1, h2⟩
  · rfl
  · apply ba_ext
    rw [extract_piece, extract_piece]
    unfold pieceU
    rw [List.take_of_length_le (by rw [List.length_drop, ← size_eq]; omega), List.take_of_length_le (by rw [List.length_drop, ← size_eq]; omega)]
theorem sub_none (s : ByteArray) (f m : Int) (w : World) (_hs : s.size ≤ 70368744177664) (h : m < 1 ∨ (s.size : Int) < f) :
    Calls Tryz.prog 15 #[.string s, .int .i64 f, .int .i64 m] w fun e w' => e = .returned (.string ⟨#[]⟩) ∧ w' = w := by
  by_cases h1 : m < 1
  · clear h
    go_enter Tryz.func15, Tryz.ntmps15
    go_wp2
    go_ret
    exact ⟨rfl, rfl⟩
  · have h2 : (s.size : Int) < f := by omega
    clear h
    go_enter Tryz.func15, Tryz.ntmps15
    go_wp2
    go_ret
    exact ⟨rfl, rfl⟩
theorem sub_low (s : ByteArray) (f m k : Int) (w : World) (hs : s.size ≤ 70368744177664) (h1 : 1 ≤ m) (h2 : m ≤ 9223372036854775807) (h3 : f < 1) (h4 : -9223372036854775808 ≤ f) (hk : m + f - 1 = k) :
    Calls Tryz.prog 15 #[.string s, .int .i64 f, .int .i64 m] w fun e w' => e = .returned (.string (s.extract 0 k.toNat)) ∧ w' = w := by
  have a1 : ¬ m < 1 := by omega
  have a2 : ¬ (s.size : Int) < f := by omega
  have a3 : -9223372036854775808 ≤ m + f := by omega
  have a4 : m + f ≤ 9223372036854775807 := by omega
  have a5 : -9223372036854775808 ≤ k := by omega
  have a6 : k ≤ 9223372036854775807 := by omega
  go_enter Tryz.func15, Tryz.ntmps15
  go_wp2
  go_ret
  refine ⟨?_, rfl⟩
  show Ending.returned (.string (s.extract 0 (max 0 (min k ↑s.size)).toNat)) = _
  congr 2
  exact extract_cap s 0 _ _ (by omega)
theorem sub_high (s : ByteArray) (f m : Int) (j : Nat) (w : World) (hs : s.size ≤ 70368744177664) (h1 : 1 ≤ m) (h2 : m ≤ 9223372036854775807) (h3 : f = (j : Int) + 1) (h4 : j < s.size) :
    Calls Tryz.prog 15 #[.string s, .int .i64 f, .int .i64 m] w fun e w' => e = .returned (.string ((s.extract j s.size).extract 0 m.toNat)) ∧ w' = w := by
  subst h3
  have a1 : ¬ m < 1 := by omega
  have a2 : ¬ (s.size : Int) < (j : Int) + 1 := by omega
  have a3 : ¬ (j : Int) + 1 < 1 := by omega
  have a4 : (j : Int) + 1 - 1 = (j : Int) := by omega
  have a5 : (s.extract j s.size).size = s.size - j := by simp [ByteArray.size_extract]
  go_enter Tryz.func15, Tryz.ntmps15
  go_wp2
  go_ret
  refine ⟨?_, rfl⟩
  show Ending.returned (.string ((s.extract j s.size).extract 0 (max 0 (min m ↑(s.size - j))).toNat)) = _
  congr 2
  exact extract_cap _ 0 _ _ (by omega)
theorem subU_any (s : ByteArray) (f m : Int) (w : World) (hs : s.size ≤ 70368744177664) (h1 : -9223372036854775808 ≤ f) (h2 : m ≤ 9223372036854775807) :
    Calls Tryz.prog 15 #[.string s, .int .i64 f, .int .i64 m] w fun e w' => e = .returned (.string (ba (subU s.data.toList f m))) ∧ w' = w := by
  have hsz := size_eq s
  unfold subU
  by_cases h : m < 1 ∨ (s.data.toList.length : Int) < f
  · rw [if_pos h]
    exact sub_none s f m w hs (by omega)
  · rw [if_neg h]
    by_cases hf : f < 1
    · rw [if_pos hf]
      refine (sub_low s f m (m + f - 1) w hs (by omega) h2 hf h1 rfl).mono fun e w' ⟨he, hw⟩ => ⟨?_, hw⟩
      rw [he]
      congr 2
      apply ba_ext
      rw [extract_piece, ba_list]
      unfold pieceU
      simp
    · rw [if_neg hf]
      refine (sub_high s f m (f - 1).toNat w hs (by omega) h2 (by omega) (by omega)).mono fun e w' ⟨he, hw⟩ => ⟨?_, hw⟩
      rw [he]
      congr 2
      apply ba_ext
      rw [extract_piece, extract_piece, ba_list]
      unfold pieceU
      rw [List.take_of_length_le (l := s.data.toList.drop (f - 1).toNat) (by rw [List.length_drop]; omega)]
      simp
end Go.Proofs.YtjdollmfjflkoaaGreatDoor
