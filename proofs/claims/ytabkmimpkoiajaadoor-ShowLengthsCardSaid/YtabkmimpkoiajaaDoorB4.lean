/- Packed texts: SwLines, SwApp, SwAcc, SwSimple, SwCom, SwRefQuote. What each of them proves stands above its theorems; the conditions stand in these. -/
import Derived.Test.YtabkmimpkoiajaaDoorB0
import Derived.Test.YtabkmimpkoiajaaDoorB3
namespace Go.Proofs.YtabkmimpkoiajaaDoor
open Go.RowKit Go.Lib

/-- A row of texts with a mark, put out at once. -/
theorem row_put (w0 : World) (b : Nat) (out mk : List UInt8) (xs : List (List UInt8)) (a : Option Addr) (n c : Nat) (W w1 : World) (hB : Base w0 W) (hI : BldI w0 b out W) (hb1 : Below W.heap.size W w1) (hx : TxtsQ w0 b (NewF W.heap.size w1.heap.size) w1 (.slice a n c) xs) (hF : FarF w0 b (NewF W.heap.size w1.heap.size) w1) (hn : out.length + (sepB mk xs).length ≤ 1000000000) :
    Calls Tryd.prog 49 #[.string ⟨mk.toArray⟩, .slice a n c] w1 fun e w2 => ∃ k caps, e = .returned (.func (.func k) #[] caps) ∧ (∀ args w, (callFunc k args).run Tryd.prog w = .ok (.enter k args) w) ∧
      Calls Tryd.prog k (#[.pointer (some ⟨b, 0, none⟩)] ++ caps) w2 fun e w' => e = .returned (.tuple #[]) ∧ BldI w0 b (out ++ sepB mk xs) w' ∧ Kp w0 b W w' := by
  have hlt : b < w1.heap.size := Nat.lt_of_lt_of_le hI.lt hb1.size
  refine (rowM_any w0 b _ mk xs a n c w1 (hB.new hb1) hlt hF hx).mono ?_
  rintro e w2 ⟨k, caps, rfl, hk, hF2, hp, hb2⟩
  exact ⟨k, caps, rfl, hk, put_get hB hI hb1 hF2 hp hb2 hn⟩
set_option maxHeartbeats 2000000 in
set_option maxRecDepth 20000 in
theorem lines1_any (w0 : World) (b g : Nat) (out : List UInt8) (ao : Option Addr) (m cap : Nat) (xs : List (List UInt8)) (hE : EachOk b w0 (.slice ao m cap) xs) (W : World) (hB : Base w0 W) (hc : W.cell? ⟨g, 0, none⟩ = some (.slice ao m cap)) (hI : BldI w0 b out W) (hn : out.length + (sepB [10] xs).length ≤ 1000000000) :
    Calls Tryd.prog 48 #[.pointer (some ⟨b, 0, none⟩), .pointer (some ⟨g, 0, none⟩)] W (RunT w0 b out (sepB [10] xs) W) := by
  have kE := hE W hB hI.lt
  have kR := Lib.hid (fun w1 a n c (h : TxtsQ w0 b (NewF W.heap.size w1.heap.size) w1 (.slice a n c) xs ∧ FarF w0 b (NewF W.heap.size w1.heap.size) w1 ∧ Below W.heap.size W w1) => row_put w0 b out [10] xs a n c W w1 hB hI h.2.2 h.1 h.2.1 hn)
  clear hE hB hI hn
  go_enter Tryd.func48, Tryd.ntmps48
  go_wp2_with (first
    | (go_at_call 50; (with_reducible refine kE.mono ?_); rintro e w1 ⟨a, n, c, rfl, h1⟩; have k2 := kR.out _ _ _ _ h1; clear kE h1)
    | (go_at_call 49; (with_reducible refine k2.mono ?_); rintro e w2 ⟨kk, caps, rfl, hk, k3⟩; clear k2)
    | (go_at_fn kk; (with_reducible refine k3.mono ?_); rintro e w3 ⟨rfl, h3⟩; have HH := Lib.hid h3; clear h3 k3))
  go_end0
  exact ⟨rfl, HH.out⟩
/-- A word's parts can be told, one text each. -/
def PartsOk (b : Nat) (w0 : World) (v : Value) (xs : List (List UInt8)) : Prop :=
  ∀ W, Base w0 W → b < W.heap.size → Calls Tryd.prog 54 #[v, .func (.func 55) #[] #[]] W fun e w' => ∃ a n c, e = .returned (.slice a n c) ∧ TxtsQ w0 b (NewF W.heap.size w'.heap.size) w' (.slice a n c) xs ∧ FarF w0 b (NewF W.heap.size w'.heap.size) w' ∧ Below W.heap.size W w'
set_option maxHeartbeats 2000000 in
set_option maxRecDepth 20000 in
theorem word1_any (w0 : World) (b g gw i : Nat) (out : List UInt8) (ao : Option Addr) (m cap : Nat) (xs : List (List UInt8)) (hE : PartsOk b w0 (.slice ao m cap) xs) (W : World) (hB : Base w0 W) (hg : gw < w0.heap.size) (hw : w0.cell? ⟨gw, i, none⟩ = some (.slice ao m cap)) (hc : W.cell? ⟨g, 0, none⟩ = some (.pointer (some ⟨gw, i, none⟩))) (hI : BldI w0 b out W) (hn : out.length + (sepB [] xs).length ≤ 1000000000) :
    Calls Tryd.prog 53 #[.pointer (some ⟨b, 0, none⟩), .pointer (some ⟨g, 0, none⟩)] W (RunT w0 b out (sepB [] xs) W) := by
  have kE := hE W hB hI.lt
  have kR := Lib.hid (fun w1 a n c (h : TxtsQ w0 b (NewF W.heap.size w1.heap.size) w1 (.slice a n c) xs ∧ FarF w0 b (NewF W.heap.size w1.heap.size) w1 ∧ Below W.heap.size W w1) => row_put w0 b out [] xs a n c W w1 hB hI h.2.2 h.1 h.2.1 hn)
  have c1 : W.cell? ⟨gw, i, none⟩ = some (.slice ao m cap) := (World.cell?_of_block (hB.2 gw hg)).trans hw
  have e0 : (⟨([] : List UInt8).toArray⟩ : ByteArray) = ⟨#[]⟩ := rfl
  rw [e0] at kR
  clear hE hB hI hn hw hg e0
  go_enter Tryd.func53, Tryd.ntmps53
  go_wp2_with (first
    | (go_at_call 54; (with_reducible refine kE.mono ?_); rintro e w1 ⟨a, n, c, rfl, h1⟩; have k2 := kR.out _ _ _ _ h1; clear kE h1)
    | (go_at_call 49; (with_reducible refine k2.mono ?_); rintro e w2 ⟨kk, caps, rfl, hk, k3⟩; clear k2)
    | (go_at_fn kk; (with_reducible refine k3.mono ?_); rintro e w3 ⟨rfl, h3⟩; have HH := Lib.hid h3; clear h3 k3))
  go_end0
  exact ⟨rfl, HH.out⟩
theorem word_get (w0 : World) (b gw i : Nat) (ao : Option Addr) (m cap : Nat) (xs : List (List UInt8)) (hE : PartsOk b w0 (.slice ao m cap) xs) (hg : gw < w0.heap.size) (hw : w0.cell? ⟨gw, i, none⟩ = some (.slice ao m cap)) (w : World) (h0 : Base w0 w) (hb : b ≠ w.heap.size) :
    Calls Tryd.prog 37 #[.pointer (some ⟨gw, i, none⟩)] w (GetT w0 b NoneF w (sepB [] xs)) := by
  refine (word_new ⟨gw, i, none⟩ w).mono ?_
  rintro e w' ⟨rfl, rfl⟩
  exact get_box w0 b w _ _ (by decide) _ enters_word1 _ h0 hb fun W out hB hc hI hn => word1_any w0 b _ gw i out ao m cap xs hE W hB hg hw hc hI hn
set_option maxHeartbeats 2000000 in
set_option maxRecDepth 20000 in
/-- show.Text of a row that can be told. -/
theorem text_any (w : World) (ao : Option Addr) (m cap : Nat) (xs : List (List UInt8)) (hE : EachOk (w.heap.size + 1) w (.slice ao m cap) xs) (hn : (sepB [10] xs).length ≤ 1000000000) :
    Calls Tryd.prog 21 #[.slice ao m cap] w fun e w' => e = .returned (.string ⟨(sepB [10] xs).toArray⟩) ∧ Below w.heap.size w w' := by
  have k1 := lines_new ao m cap w
  have hs : (w.alloc (.cells #[.slice ao m cap] 23)).heap.size = w.heap.size + 1 := by simp
  have k2 := told_any w 48 #[.pointer (some ⟨w.heap.size, 0, none⟩)] enters_lines1 (sepB [10] xs) (w.alloc (.cells #[.slice ao m cap] 23)) ((Base.refl w).new (alloc_below w _)) (fun W hB hb hI => by
    rw [hs] at hI ⊢
    exact lines1_any w _ _ [] ao m cap xs hE W hB (box_cell (hb.block _ (by rw [hs]; omega))) hI (by simpa using hn))
  have KB := Lib.hid (fun w2 (h : Below w.heap.size (w.alloc (.cells #[.slice ao m cap] 23)) w2) => (alloc_below w _).trans h)
  clear hE hn hs
  generalize (⟨(sepB [10] xs).toArray⟩ : ByteArray) = R at *
  go_enter Tryd.func21, Tryd.ntmps21
  go_wp2_with (first
    | (go_at_call 35; (with_reducible refine k1.mono ?_); rintro e w1 ⟨rfl, rfl⟩; clear k1)
    | (go_at_call 34; (with_reducible refine k2.mono ?_); rintro e w2 ⟨rfl, h2⟩; have HH := Lib.hid (KB.out _ h2); clear h2 k2))
  exact bodyPost_ret (results_tmp rfl _ _ _) rfl ⟨rfl, HH.out⟩
end Go.Proofs.YtabkmimpkoiajaaDoor
namespace Go.Proofs.YtabkmimpkoiajaaDoor
open Go.RowKit Go.Lib

/-- The blocks since W0, but for the row's own. -/
def ExcF (W0 w : World) (v : Value) : Nat → Prop := fun g => W0.heap.size ≤ g ∧ g < w.heap.size ∧ v.ownBlock ≠ some g
def MakI (w0 : World) (b : Nat) (W0 w : World) (v : Value) (xs : List (List UInt8)) : Prop :=
  ∃ vs : List Value, vs.length = xs.length ∧ w.ownsRow W0.heap.size 63 1 v xs.length vs ∧ (∀ (i : Nat) (u : Value) (x : List UInt8), vs[i]? = some u → xs[i]? = some x → TxtQ w0 b (ExcF W0 w v) w u x) ∧ FarF w0 b (NewF W0.heap.size w.heap.size) w ∧ Below W0.heap.size W0 w
theorem MakI.nil (w0 : World) (b : Nat) (W0 : World) : MakI w0 b W0 W0 (.slice none 0 0) [] :=
  ⟨[], rfl, World.ownsRow_nil _ _ _ _, fun i u x h => by simp at h, fun g hg => by obtain ⟨h1, h2⟩ := hg; omega, Below.refl _ _⟩
theorem far_on {w0 : World} {b lo : Nat} {w w1 : World} (h : FarF w0 b (NewF lo w.heap.size) w) (hb : Below w.heap.size w w1) (k : FarF w0 b (NewF w.heap.size w1.heap.size) w1) : FarF w0 b (NewF lo w1.heap.size) w1 := fun g hg => by
  by_cases hlt : g < w.heap.size
  · obtain ⟨a1, a2, cs, t, fz, a3, a4⟩ := h g ⟨hg.1, hlt⟩
    exact ⟨a1, a2, cs, t, fz, (hb.block g hlt).trans a3, a4⟩
  · exact k g ⟨by omega, hg.2⟩
theorem MakI.move {w0 : World} {b : Nat} {W0 w w1 : World} {v : Value} {xs : List (List UInt8)} (h : MakI w0 b W0 w v xs) (hb : Below w.heap.size w w1) (k : FarF w0 b (NewF w.heap.size w1.heap.size) w1) : MakI w0 b W0 w1 v xs := by
  obtain ⟨vs, h1, h2, h3, h4, h5⟩ := h
  exact ⟨vs, h1, ownS_same h2 fun g hg => hb.block g (ownS_lt h2 hg).2, fun i u x hu hx => ((h3 i u x hu hx).same fun g hg => hb.block g hg.2.1).mono fun g hg => ⟨hg.1, Nat.lt_of_lt_of_le hg.2.1 hb.size, hg.2.2⟩, far_on h4 hb k, h5.trans (hb.mono h5.size)⟩
theorem MakI.row {w0 : World} {b : Nat} {W0 w : World} {v : Value} {xs : List (List UInt8)} (h : MakI w0 b W0 w v xs) : TxtsQ w0 b (NewF W0.heap.size w.heap.size) w v xs := by
  obtain ⟨vs, h1, h2, h3, h4, h5⟩ := h
  refine ⟨vs.map fun v => [v], by simp [h1], ?_, ?_, fun g hg => ⟨(ownS_lt h2 hg).1, (ownS_lt h2 hg).2⟩⟩
  · intro i x cs hx hc
    rw [List.getElem?_map] at hc
    obtain ⟨u, hu, rfl⟩ := Option.map_eq_some_iff.1 hc
    exact ⟨u, rfl, (h3 i u x hu hx).mono fun g hg => ⟨hg.1, hg.2.1⟩⟩
  · have e : (vs.map fun v => [v]).flatten = vs := by
      clear h1 h2 h3
      induction vs with
      | nil => rfl
      | cons v r ih => simp [ih]
    rw [e]
    exact ownS_base h2 (Nat.zero_le _)
/-- A row's values, one by one. -/
theorem txts_vals {w0 : World} {b : Nat} {F : Nat → Prop} {w : World} {v : Value} {xs : List (List UInt8)} (h : TxtsQ w0 b F w v xs) : ∃ us : List Value, us.length = xs.length ∧ w.ownsRow 0 63 1 v xs.length us ∧ ∀ (i : Nat) (u : Value) (x : List UInt8), us[i]? = some u → xs[i]? = some x → TxtQ w0 b F w u x := by
  obtain ⟨css, h1, h2, h3, h4⟩ := h
  have h3 : w.ownsRow 0 63 1 v xs.length css.flatten := h3
  refine ⟨css.flatten, by have := h3.1; omega, h3, fun i u x hu hx => ?_⟩
  have hi := (List.getElem?_eq_some_iff.1 hx).1
  obtain ⟨cs, hc⟩ : ∃ cs, css[i]? = some cs := ⟨css[i], List.getElem?_eq_getElem (by omega)⟩
  obtain ⟨y, rfl, hq⟩ := h2 i x cs hx hc
  have hall : ∀ y ∈ css, y.length = 1 := by
    intro y hy
    obtain ⟨k, hk⟩ := List.mem_iff_getElem?.1 hy
    have hkl : k < xs.length := by have := (List.getElem?_eq_some_iff.1 hk).1; omega
    exact (textE w0 b).len _ _ _ _ (h2 k _ _ (List.getElem?_eq_getElem hkl) hk)
  have := flat_eq css i 0 [y] hall hc (by omega)
  rw [Nat.mul_one, Nat.add_zero, hu] at this
  cases this
  exact hq
theorem TxtQ.one {w0 : World} {b : Nat} {F : Nat → Prop} {w : World} {v : Value} {x : List UInt8} (h : TxtQ w0 b F w v x) : v.oneCell' = true := by
  obtain ⟨k, caps, rfl, _⟩ := h
  rfl
theorem Tryd.infoTextM : (Tryd.prog.info? 63).map (fun i => (i.zero, i.size, i.bytes)) = some (some .nilFunc, 1, 8) := by kernel_rfl
/-- What append does to a row of texts. -/
theorem app_far (w : World) (base : Nat) (ty : TypeId) (v : Value) (n : Nat) (xs : List Value) (hown : w.ownsRow base 63 1 v n xs) (ad : Addr) (m c : Nat) (news : List Value) (hl : news.length = m) (hm : 0 < m) (hnews : ∀ j u, news[j]? = some u → w.cell? (ad.add j) = some u) (h1 : ∀ u ∈ news, u.oneCell' = true)
    (hn : n + m ≤ 1000000000) (hbase : base ≤ w.heap.size) :
    ∃ v' w', (Builtin.append_ #[78, 78] ty #[v, .slice (some ad) m c]).run Tryd.prog w = .ok v' w' ∧ w'.ownsRow base 63 1 v' (n + m) (xs ++ news) ∧ w.grownBy w' v.ownBlock ∧ ((v'.ownBlock = v.ownBlock ∧ w'.heap.size = w.heap.size) ∨ (v'.ownBlock = some w.heap.size ∧ w'.heap.size = w.heap.size + 1 ∧ ∀ k, k < w.heap.size → w'.heap[k]? = w.heap[k]?)) := by
  obtain ⟨i, hi, hz, hs, hby⟩ := info_parts Tryd.infoTextM
  have ht := Tryd.underlying78
  have hl1 : news.length = m * 1 := by omega
  obtain ⟨v', w', hr, h2, h3, _⟩ := run_append_own (P := Tryd.prog) w base 78 ty 63 i .nilFunc 1 8 ht hi hz hs hby rfl (by omega) v n xs hown ad m c news hl1 hnews h1 (by unfold maxLen; omega) (by omega) hbase
  refine ⟨v', w', hr, h2, h3, ?_⟩
  rcases hown.2 with ⟨rfl, rfl⟩ | ⟨g, cap, cur, rfl, hbg, hg, hnc, hcm, hcs, htake⟩
  · have hr2 := run_append_nil (P := Tryd.prog) w 78 ty 63 i .nilFunc ht hi hz ad m c news (by rw [hs]; exact hl1) hnews hm (by omega) (by rw [hby]; omega)
    rw [hr] at hr2
    injection hr2 with e1 e2
    exact .inr ⟨by rw [e1]; rfl, by rw [e2]; simp, fun k hk => by rw [e2]; exact alloc_old w.drew _ k hk⟩
  · by_cases hroom : n + m ≤ cap
    · have hfit : n * i.size + news.length ≤ cur.size := by
        rw [hs, hcs, hl]
        omega
      have hr2 := run_append_room (P := Tryd.prog) w 78 ty 63 i ht hi g n cap cur hg ad m c news (by rw [hs]; exact hl1) hnews h1 hroom hfit
      rw [hr] at hr2
      injection hr2 with e1 e2
      exact .inl ⟨by rw [e1]; rfl, by rw [e2]; simp [World.setRow]⟩
    · have holds : ∀ j x, xs[j]? = some x → w.cell? ((⟨g, 0, none⟩ : Addr).add j) = some x := hown.cells (g := g) rfl
      have hr2 := run_append_grow (P := Tryd.prog) w 78 ty 63 i .nilFunc ht hi hz ⟨g, 0, none⟩ n cap xs (by rw [hs]; exact hown.1) holds ad m c news (by rw [hs]; exact hl1) hnews (by omega) (by omega) (growslice_fits (by omega) (by rw [hby]; omega))
      rw [hr] at hr2
      injection hr2 with e1 e2
      exact .inr ⟨by rw [e1]; rfl, by rw [e2]; simp, fun k hk => by rw [e2]; exact alloc_old w.drew _ k hk⟩
theorem run_append_zero (w : World) (base : Nat) (ty : TypeId) (i : TypeInfo) (hi : Tryd.prog.info? 63 = some i) (_hs : i.size = 1)
    (v : Value) (n : Nat) (xs : List Value) (hown : w.ownsRow base 63 1 v n xs) (a : Addr) (c : Nat) : (Builtin.append_ #[78, 78] ty #[v, .slice (some a) 0 c]).run Tryd.prog w = .ok v w := by
  have ht := Tryd.underlying78
  have hf := run_firstCells_some (P := Tryd.prog) w i.size 0 a 0 c [] (by simp) (by simp)
  obtain ⟨ao, cap, rfl, hc⟩ := ownS_shape hown
  cases ao with
  | none => simp [Builtin.append_, run_underlying ht, sizeOf, typeInfo, hi, Builtin.lenOf, hf, Result.andThen, hc]
  | some b => simp [Builtin.append_, run_underlying ht, sizeOf, typeInfo, hi, Builtin.lenOf, hf, Result.andThen, hc, storeCells]
theorem run_append_mak (ty : TypeId) {w0 : World} {b : Nat} {W0 w : World} {v u : Value} {xs ys : List (List UInt8)} {G : Nat → Prop} (h : MakI w0 b W0 w v xs) (k : TxtsQ w0 b G w u ys) (hG : ∀ g, G g → ExcF W0 w v g) (h0 : Base w0 W0) (hb : b < W0.heap.size) (hn : xs.length + ys.length ≤ 1000000000) :
    ∃ v' w', (Builtin.append_ #[78, 78] ty #[v, u]).run Tryd.prog w = .ok v' w' ∧ MakI w0 b W0 w' v' (xs ++ ys) := by
  have hM := h
  obtain ⟨vs, h1, h2, h3, h4, h5⟩ := h
  obtain ⟨us, k1, k2, k3⟩ := txts_vals k
  rcases k2.2 with ⟨hu, hu0⟩ | ⟨g, cap, cur, hv, _, hg, hc, hm, hcs, htk⟩
  · have e0 : ys = [] := List.eq_nil_of_length_eq_zero hu0
    subst e0
    subst hu
    obtain ⟨i, hi, hz, hs, hby⟩ := info_parts Tryd.infoTextM
    exact ⟨v, w, run_append_none w W0.heap.size 78 ty 63 i 1 Tryd.underlying78 hi v xs.length _ h2, by rw [List.append_nil]; exact hM⟩
  · by_cases hz : ys.length = 0
    · have e0 : ys = [] := List.eq_nil_of_length_eq_zero hz
      subst e0
      obtain ⟨i, hi, hzz, hs, hby⟩ := info_parts Tryd.infoTextM
      rw [hv]
      exact ⟨v, w, run_append_zero w W0.heap.size ty i hi hs v xs.length _ h2 _ cap, by rw [List.append_nil]; exact hM⟩
    · have hnews : ∀ j u, us[j]? = some u → w.cell? ((⟨g, 0, none⟩ : Addr).add j) = some u := k2.cells (by rw [hv]; rfl)
      rw [hv]
      obtain ⟨v', w', hr, r1, r2, r3⟩ := app_far w W0.heap.size ty v xs.length vs h2 ⟨g, 0, none⟩ ys.length cap us k1 (by omega) hnews (fun u hu => by
        obtain ⟨j, hj⟩ := List.mem_iff_getElem?.1 hu
        have hjl : j < ys.length := by have := (List.getElem?_eq_some_iff.1 hj).1; omega
        exact (k3 j u _ hj (List.getElem?_eq_getElem hjl)).one) hn h5.size
      have hsame : ∀ g, ExcF W0 w v g → w'.heap[g]? = w.heap[g]? := fun g hg => r2.block g hg.2.1 (fun e => hg.2.2 e.symm)
      have hexc : ∀ g, ExcF W0 w v g → ExcF W0 w' v' g := fun g hg => by
        refine ⟨hg.1, Nat.lt_of_lt_of_le hg.2.1 r2.size, ?_⟩
        rcases r3 with ⟨r3, _⟩ | ⟨r3, _⟩
        · rw [r3]; exact hg.2.2
        · rw [r3]; intro e; have := hg.2.1; have := Option.some.inj e; omega
      refine ⟨v', w', hr, vs ++ us, by simp [h1, k1], by rw [List.length_append]; exact r1, ?_, ?_, h5.grown r2 h5.size fun k hk => (ownS_lt h2 hk).1⟩
      · intro i u x hu hx
        by_cases hi : i < vs.length
        · rw [List.getElem?_append_left hi] at hu
          rw [List.getElem?_append_left (by omega)] at hx
          exact ((h3 i u x hu hx).same hsame).mono hexc
        · rw [List.getElem?_append_right (by omega)] at hu
          rw [List.getElem?_append_right (by omega), ← h1] at hx
          exact ((k3 _ u x hu hx).same fun g hg => hsame g (hG g hg)).mono fun g hg => hexc g (hG g hg)
      · intro g hg
        by_cases hv' : v'.ownBlock = some g
        · have hl := ownS_lt r1 hv'
          rcases r1.2 with ⟨e1, _⟩ | ⟨g2, cap2, cur2, e2, _, hg2, _⟩
          · rw [e1] at hv'; cases hv'
          · rw [e2] at hv'
            cases hv'
            refine ⟨Nat.le_trans h0.1 hl.1, by have := hl.1; omega, _, _, _, hg2, by decide⟩
        · rcases r3 with ⟨e1, e2⟩ | ⟨e1, e2, e3⟩
          · have hx : ExcF W0 w v g := ⟨hg.1, by have := hg.2; omega, by rw [← e1]; exact hv'⟩
            obtain ⟨a1, a2, cs, t, fz, a3, a4⟩ := h4 g ⟨hg.1, hx.2.1⟩
            exact ⟨a1, a2, cs, t, fz, (hsame g hx).trans a3, a4⟩
          · have hlt : g < w.heap.size := by
              have := hg.2
              rw [e1] at hv'
              have : g ≠ w.heap.size := fun e => hv' (by rw [e])
              omega
            obtain ⟨a1, a2, cs, t, fz, a3, a4⟩ := h4 g ⟨hg.1, hlt⟩
            exact ⟨a1, a2, cs, t, fz, (e3 g hlt).trans a3, a4⟩
end Go.Proofs.YtabkmimpkoiajaaDoor
namespace Go.Proofs.YtabkmimpkoiajaaDoor
open Go.RowKit Go.Lib

/-- Texts that have been laid since W0. -/
def Acc (w0 : World) (b : Nat) (W0 W : World) (vs : List Value) (xs : List (List UInt8)) : Prop :=
  vs.length = xs.length ∧ (∀ (i : Nat) (u : Value) (x : List UInt8), vs[i]? = some u → xs[i]? = some x → TxtQ w0 b (NewF W0.heap.size W.heap.size) W u x) ∧ FarF w0 b (NewF W0.heap.size W.heap.size) W ∧ Below W0.heap.size W0 W
theorem Acc.nil (w0 : World) (b : Nat) (W0 : World) : Acc w0 b W0 W0 [] [] := ⟨rfl, fun i u x h => by simp at h, fun g hg => by obtain ⟨h1, h2⟩ := hg; omega, Below.refl _ _⟩
theorem Acc.drop {w0 : World} {b : Nat} {W0 W : World} {vs : List Value} {xs : List (List UInt8)} (h : Acc w0 b W0 W vs xs) : Acc w0 b W0 W [] [] := ⟨rfl, fun i u x h => by simp at h, h.2.2.1, h.2.2.2⟩
theorem Acc.swap {w0 : World} {b : Nat} {W0 W : World} {u v : Value} {x y : List UInt8} (h : Acc w0 b W0 W [u, v] [x, y]) : Acc w0 b W0 W [v, u] [y, x] := by
  refine ⟨rfl, fun i u' x' hu hx => ?_, h.2.2.1, h.2.2.2⟩
  match i with
  | 0 => exact h.2.1 1 u' x' (by simpa using hu) (by simpa using hx)
  | 1 => exact h.2.1 0 u' x' (by simpa using hu) (by simpa using hx)
  | i + 2 => simp at hu
theorem Acc.snoc {w0 : World} {b : Nat} {W0 W w1 : World} {vs : List Value} {xs : List (List UInt8)} {x : List UInt8} {k : FuncId} {caps : Array Value} (h : Acc w0 b W0 W vs xs) (g : GetT w0 b NoneF W x (.returned (.func (.func k) #[] caps)) w1) : Acc w0 b W0 w1 (vs ++ [.func (.func k) #[] caps]) (xs ++ [x]) := by
  obtain ⟨h1, h2, h3, h4⟩ := h
  obtain ⟨k', caps', e, hk, hF, hp, hb⟩ := g
  injection e with e
  injection e with e1 _ e2
  injection e1 with e1
  subst e1
  subst e2
  have hF' : FarF w0 b (NewF W.heap.size w1.heap.size) w1 := fun g hg => hF g (.inr hg)
  refine ⟨by simp [h1], fun i u y hu hy => ?_, far_on h3 hb hF', h4.trans (hb.mono h4.size)⟩
  by_cases hi : i < vs.length
  · rw [List.getElem?_append_left hi] at hu
    rw [List.getElem?_append_left (by omega)] at hy
    exact ((h2 i u y hu hy).same fun g hg => hb.block g hg.2).mono fun g hg => ⟨hg.1, Nat.lt_of_lt_of_le hg.2 hb.size⟩
  · have hi2 : i = vs.length := by
      have := (List.getElem?_eq_some_iff.1 hu).1
      simp at this
      omega
    subst hi2
    rw [List.getElem?_append_right (by omega), Nat.sub_self] at hu
    rw [List.getElem?_append_right (by omega), h1, Nat.sub_self] at hy
    cases hu
    cases hy
    exact TxtQ.mono (F := fun g => NoneF g ∨ NewF W.heap.size w1.heap.size g) ⟨k, caps, rfl, hk, hp⟩ fun g hg => hg.elim (fun h => h.elim) fun hg => ⟨Nat.le_trans h4.size hg.1, hg.2⟩
theorem lit_ne {a g n c : Nat} (h : g < a) (e : (Value.slice (some ⟨a, 0, none⟩) n c).ownBlock = some g) : False := by
  have h8 : a = g := by simpa [Value.ownBlock] using e
  omega
/-- The literal row of them. -/
theorem Acc.lit {w0 : World} {b : Nat} {W0 W : World} {vs : List Value} {xs : List (List UInt8)} (h : Acc w0 b W0 W vs xs) (h0 : Base w0 W0) (hb : b < W0.heap.size) (hn : xs.length ≤ 1000000000) :
    MakI w0 b W0 (W.alloc (.cells vs.toArray 63)) (.slice (some ⟨W.heap.size, 0, none⟩) xs.length xs.length) xs := by
  obtain ⟨h1, h2, h3, h4⟩ := h
  have hal := alloc_below W (.cells vs.toArray 63)
  have hs : (W.alloc (.cells vs.toArray 63)).heap.size = W.heap.size + 1 := by simp
  have hnew := heap_alloc_new W (.cells vs.toArray 63)
  refine ⟨vs, h1, ⟨by rw [h1]; exact (Nat.mul_one _).symm, .inr ⟨W.heap.size, xs.length, vs.toArray, rfl, h4.size, hnew, Nat.le_refl _, by unfold maxLen; omega, by rw [List.size_toArray, h1]; exact (Nat.mul_one _).symm, by
    show vs.toArray.toList.take (xs.length * 1) = vs
    rw [Nat.mul_one, ← h1, List.take_length]⟩⟩, fun i u x hu hx => ((h2 i u x hu hx).same fun g hg => hal.block g hg.2).mono fun g hg => ⟨hg.1, by have := hg.2; omega, fun e => lit_ne hg.2 e⟩, far_on h3 hal fun g hg => ?_, h4.trans (hal.mono h4.size)⟩
  obtain rfl : g = W.heap.size := by have := hg.1; have := hg.2; omega
  have := h4.size
  exact ⟨Nat.le_trans h0.1 this, by omega, _, _, _, hnew, by decide⟩
theorem get_since {w0 : World} {b : Nat} {W0 W w1 : World} {x : List UInt8} {e : Ending} (h : Below W0.heap.size W0 W) (g : GetT w0 b (NewF W0.heap.size W.heap.size) W x e w1) : GetT w0 b NoneF W0 x e w1 := by
  obtain ⟨k, caps, rfl, hk, hF, hp, hb⟩ := g
  have hin : ∀ g, (NoneF g ∨ NewF W0.heap.size w1.heap.size g) → (NewF W0.heap.size W.heap.size g ∨ NewF W.heap.size w1.heap.size g) := fun g hg => by
    rcases hg with hg | hg
    · exact hg.elim
    · by_cases hlt : g < W.heap.size
      · exact .inl ⟨hg.1, hlt⟩
      · exact .inr ⟨by omega, hg.2⟩
  have hin2 : ∀ g, (NewF W0.heap.size W.heap.size g ∨ NewF W.heap.size w1.heap.size g) → (NoneF g ∨ NewF W0.heap.size w1.heap.size g) := fun g hg => by
    have hs := hb.size
    have := h.size
    rcases hg with hg | hg
    · exact .inr ⟨hg.1, by have := hg.2; omega⟩
    · exact .inr ⟨by have := hg.1; omega, hg.2⟩
  exact ⟨k, caps, rfl, hk, fun g hg => hF g (hin g hg), fun W out hB hs => hp W out hB (fun g hg => hs g (hin2 g hg)), h.trans (hb.mono h.size)⟩
/-- show.row of a row in the making. -/
theorem mak_row {w0 : World} {b : Nat} {W0 w : World} {a : Option Addr} {n c : Nat} {xs : List (List UInt8)} (mk : List UInt8) (h : MakI w0 b W0 w (.slice a n c) xs) (h0 : Base w0 W0) (hb : b < W0.heap.size) : Calls Tryd.prog 49 #[.string ⟨mk.toArray⟩, .slice a n c] w (GetT w0 b NoneF W0 (sepB mk xs)) := by
  have hr := h.row
  obtain ⟨vs, h1, h2, h3, h4, h5⟩ := h
  refine (rowM_any w0 b _ mk xs a n c w (h0.new h5) (Nat.lt_of_lt_of_le hb h5.size) h4 hr).mono ?_
  intro e w' hg
  exact get_since h5 hg
theorem GetT.out {w0 : World} {b : Nat} {w w' : World} {x : List UInt8} {e : Ending} (h : GetT w0 b NoneF w x e w') : ∃ k caps, e = .returned (.func (.func k) #[] caps) ∧ GetT w0 b NoneF w x (.returned (.func (.func k) #[] caps)) w' := by
  obtain ⟨k, caps, rfl, h⟩ := h
  exact ⟨k, caps, rfl, k, caps, rfl, h⟩
theorem GetT.below {w0 : World} {b : Nat} {F : Nat → Prop} {w w' : World} {x : List UInt8} {e : Ending} (h : GetT w0 b F w x e w') : Below w.heap.size w w' := by
  obtain ⟨k, caps, _, _, _, _, h⟩ := h
  exact h
/-- A text more for a row in the making. -/
def MoreI (w0 : World) (b : Nat) (wr w5 : World) (k : FuncId) (caps : Array Value) (x : List UInt8) : Prop := GetT w0 b NoneF wr x (.returned (.func (.func k) #[] caps)) w5
/-- A name with its value: the calls, one behind the other. -/
theorem name_chain (w0 : World) (b : Nat) (wr : World) (h0 : Base w0 wr) (hb : b < wr.heap.size) (name val : List UInt8) (p : Addr) (KV : ∀ W, Base w0 W → b < W.heap.size → Calls Tryd.prog 37 #[.pointer (some p)] W (GetT w0 b NoneF W val)) :
    Calls Tryd.prog 80 #[.string ⟨#[]⟩] wr fun e w1 => ∃ k1 c1, e = .returned (.func (.func k1) #[] c1) ∧ Below wr.heap.size wr w1 ∧
      Calls Tryd.prog 37 #[.pointer (some p)] w1 fun e w2 => ∃ k2 c2, e = .returned (.func (.func k2) #[] c2) ∧
        Calls Tryd.prog 80 #[.string ⟨name.toArray⟩] w2 fun e w3 => ∃ k3 c3, e = .returned (.func (.func k3) #[] c3) ∧
          Calls Tryd.prog 49 #[.string ⟨#[61]⟩, .slice (some ⟨w3.heap.size, 0, none⟩) 2 2] (w3.alloc (.cells #[.func (.func k3) #[] c3, .func (.func k2) #[] c2] 63)) fun e w5 => ∃ k5 c5, e = .returned (.func (.func k5) #[] c5) ∧ MoreI w0 b wr w5 k5 c5 (sepB [61] [name, val]) := by
  refine (as_get w0 b [] wr h0 (by omega)).mono fun e w1 g1 => ?_
  obtain ⟨k1, c1, rfl, g1⟩ := g1.out
  have A1 := ((Acc.nil w0 b wr).snoc g1).drop
  have b1 := g1.below
  refine ⟨k1, c1, rfl, b1, (KV w1 (h0.new b1) (by have := b1.size; omega)).mono fun e w2 g2 => ?_⟩
  obtain ⟨k2, c2, rfl, g2⟩ := g2.out
  have A2 := A1.snoc g2
  have b2 := b1.trans (g2.below.mono b1.size)
  refine ⟨k2, c2, rfl, (as_get w0 b name w2 (h0.new b2) (by have := b2.size; omega)).mono fun e w3 g3 => ?_⟩
  obtain ⟨k3, c3, rfl, g3⟩ := g3.out
  have A3 := (A2.snoc g3).swap
  refine ⟨k3, c3, rfl, (mak_row [61] (A3.lit h0 hb (by simp)) h0 hb).mono fun e w5 g5 => ?_⟩
  obtain ⟨k5, c5, rfl, g5⟩ := g5.out
  exact ⟨k5, c5, rfl, g5⟩
/-- A name with no value. -/
theorem bare_chain (w0 : World) (b : Nat) (wr : World) (h0 : Base w0 wr) (hb : b < wr.heap.size) (name : List UInt8) :
    Calls Tryd.prog 80 #[.string ⟨#[]⟩] wr fun e w1 => ∃ k1 c1, e = .returned (.func (.func k1) #[] c1) ∧ Below wr.heap.size wr w1 ∧
      Calls Tryd.prog 80 #[.string ⟨name.toArray⟩] w1 fun e w3 => ∃ k3 c3, e = .returned (.func (.func k3) #[] c3) ∧
        Calls Tryd.prog 49 #[.string ⟨#[61]⟩, .slice (some ⟨w3.heap.size, 0, none⟩) 2 2] (w3.alloc (.cells #[.func (.func k3) #[] c3, .func (.func k1) #[] c1] 63)) fun e w5 => ∃ k5 c5, e = .returned (.func (.func k5) #[] c5) ∧ MoreI w0 b wr w5 k5 c5 (sepB [61] [name, []]) := by
  refine (as_get w0 b [] wr h0 (by omega)).mono fun e w1 g1 => ?_
  obtain ⟨k1, c1, rfl, g1⟩ := g1.out
  have A1 := (Acc.nil w0 b wr).snoc g1
  have b1 := g1.below
  refine ⟨k1, c1, rfl, b1, (as_get w0 b name w1 (h0.new b1) (by have := b1.size; omega)).mono fun e w3 g3 => ?_⟩
  obtain ⟨k3, c3, rfl, g3⟩ := g3.out
  have A3 := (A1.snoc g3).swap
  refine ⟨k3, c3, rfl, (mak_row [61] (A3.lit h0 hb (by simp)) h0 hb).mono fun e w5 g5 => ?_⟩
  obtain ⟨k5, c5, rfl, g5⟩ := g5.out
  exact ⟨k5, c5, rfl, g5⟩
/-- Behind it: append of the one text. -/
theorem more_app (ty : TypeId) {w0 : World} {b : Nat} {W0 wr w5 : World} {v : Value} {xs : List (List UInt8)} {x : List UInt8} {k : FuncId} {caps : Array Value} (h : MakI w0 b W0 wr v xs) (m : MoreI w0 b wr w5 k caps x) (h0 : Base w0 W0) (hb : b < W0.heap.size) (hn : xs.length + 1 ≤ 1000000000) :
    ∃ v' w', (Builtin.append_ #[78, 78] ty #[v, .slice (some ⟨w5.heap.size, 0, none⟩) 1 1]).run Tryd.prog (w5.alloc (.cells #[.func (.func k) #[] caps] 63)) = .ok v' w' ∧ MakI w0 b W0 w' v' (xs ++ [x]) := by
  have hwr : Below W0.heap.size W0 wr := by obtain ⟨_, _, _, _, _, h5⟩ := h; exact h5
  have hown : ∀ g, v.ownBlock = some g → g < wr.heap.size := by obtain ⟨_, _, h2, _⟩ := h; exact fun g hg => (ownS_lt h2 hg).2
  have A := ((Acc.nil w0 b wr).snoc m).lit (h0.new hwr) (by have := hwr.size; omega) (by simp)
  have hb6 : Below wr.heap.size wr (w5.alloc (.cells #[.func (.func k) #[] caps] 63)) := by obtain ⟨_, _, _, _, _, h5⟩ := A; exact h5
  have hF6 : FarF w0 b (NewF wr.heap.size (w5.alloc (.cells #[.func (.func k) #[] caps] 63)).heap.size) (w5.alloc (.cells #[.func (.func k) #[] caps] 63)) := by obtain ⟨_, _, _, _, h4, _⟩ := A; exact h4
  exact run_append_mak ty (G := NewF wr.heap.size (w5.alloc (.cells #[.func (.func k) #[] caps] 63)).heap.size) (h.move hb6 hF6) A.row (fun g hg => ⟨Nat.le_trans hwr.size hg.1, hg.2, fun e => by have := hown g e; have := hg.1; omega⟩) h0 hb hn
end Go.Proofs.YtabkmimpkoiajaaDoor
namespace Go.Proofs.YtabkmimpkoiajaaDoor
open Go.RowKit Go.Lib

/-- Names with their values, as texts. -/
def zipN : List (List UInt8) → List (List UInt8) → List (List UInt8)
  | [], _ => []
  | n :: r, vs => sepB [61] [n, vs.head?.getD []] :: zipN r vs.tail
theorem zipN_length : ∀ ns vs, (zipN ns vs).length = ns.length
  | [], _ => rfl
  | n :: r, vs => by rw [zipN, List.length_cons, List.length_cons, zipN_length r]
theorem zipN_at : ∀ (ns vs : List (List UInt8)) (j : Nat) (n : List UInt8), ns[j]? = some n → (zipN ns vs)[j]? = some (sepB [61] [n, (vs[j]?).getD []])
  | [], _, _, _, h => by simp at h
  | n :: r, vs, 0, m, h => by
    cases h
    cases vs <;> rfl
  | n :: r, vs, j + 1, m, h => by
    have h' : r[j]? = some m := by simpa using h
    have := zipN_at r vs.tail j m h'
    cases vs with
    | nil => simpa [zipN] using this
    | cons v t => simpa [zipN] using this
/-- append, by its equation. -/
theorem wpList_app_eq {P : Program} {w : World} {ops : Array Oper} {rest : List Oper} {o : Oper} {a : Act} {Q : Exit → Act → World → Prop} (hgd : o.guard = none) (s x : Operand) (t : TypeId)
    (ho : o.op = .call { callee := .builtin .append, args := #[s, x], argTypes := #[t, t] }) {v u v' : Value} {w' : World} (hs : a.eval s = v) (hx : a.eval x = u) (hr : (Builtin.append_ #[t, t] o.type #[v, u]).run P w = .ok v' w') (h : wpList P ops Q rest (a.put o.dst v') w') : wpList P ops Q (o :: rest) a w := by
  refine wpList_plain hgd fun K hK => ?_
  unfold Oper.wp execOp
  simp only [ho, resolve, invoke, builtin, Sem.run_bind, Sem.run_pure, Result.andThen_ok, List.map_toArray, List.map_cons, List.map_nil, hs, hx, hr]
  exact hK _ _ h
theorem MakI.shape {w0 : World} {b : Nat} {W0 w : World} {v : Value} {xs : List (List UInt8)} (h : MakI w0 b W0 w v xs) : ∃ a c, v = .slice a xs.length c := by
  obtain ⟨vs, h1, h2, _⟩ := h
  obtain ⟨a, c, h, _⟩ := ownS_shape h2
  exact ⟨a, c, h⟩
theorem MakI.shp {w0 : World} {b : Nat} {W0 w : World} {v : Value} {xs : List (List UInt8)} (h : MakI w0 b W0 w v xs) : ∃ a n c, v = .slice a n c := by
  obtain ⟨a, c, h⟩ := h.shape
  exact ⟨a, _, c, h⟩
/-- Words can be told. -/
def WordsT (w0 : World) (b : Nat) (ao : Option Addr) (xs : List (List UInt8)) : Prop :=
  ∀ (i : Nat) (x : List UInt8), xs[i]? = some x → ∃ g, ao = some ⟨g, 0, none⟩ ∧ ∀ W, Base w0 W → b < W.heap.size → Calls Tryd.prog 37 #[.pointer (some ⟨g, i, none⟩)] W (GetT w0 b NoneF W x)
/-- The end: the words, the append, the row. -/
theorem simple_end (w0 : World) (b : Nat) (W0 wr : World) (v : Value) (xs ws : List (List UInt8)) (aw : Option Addr) (cw : Nat) (h : MakI w0 b W0 wr v xs) (h0 : Base w0 W0) (hb : b < W0.heap.size) (hcw : ws.length ≤ cw) (hn : xs.length + ws.length ≤ 1000000000) (HW : WordsT w0 b aw ws) (mk : List UInt8) :
    Calls Tryd.prog 104 #[.slice aw ws.length cw, .func (.func 37) #[] #[]] wr fun e w1 => ∃ a n c, e = .returned (.slice a n c) ∧ ∃ a2 n2 c2 w2, (Builtin.append_ #[78, 78] 78 #[v, .slice a n c]).run Tryd.prog w1 = .ok (.slice a2 n2 c2) w2 ∧
      Calls Tryd.prog 49 #[.string ⟨mk.toArray⟩, .slice a2 n2 c2] w2 fun e w3 => ∃ k3 c3, e = .returned (.func (.func k3) #[] c3) ∧ GetT w0 b NoneF W0 (sepB mk (xs ++ ws)) (.returned (.func (.func k3) #[] c3)) w3 := by
  have hbl : Below W0.heap.size W0 wr := by obtain ⟨_, _, _, _, _, h5⟩ := h; exact h5
  have hown : ∀ g, v.ownBlock = some g → g < wr.heap.size := by obtain ⟨_, _, h2, _⟩ := h; exact fun g hg => (ownS_lt h2 hg).2
  refine (eachWord_any w0 b aw cw 37 enters_word ws wr (h0.new hbl) (by have := hbl.size; omega) hcw (by omega) fun i x W hx hB hbw => ?_).mono fun e w1 hq => ?_
  · obtain ⟨g, h1, h2⟩ := HW i x hx
    refine ⟨g, h1, ?_⟩
    rw [Nat.mul_one]
    exact h2 W hB (by have := hbl.size; have := hbw.size; omega)
  · obtain ⟨a, n, c, rfl, q1, q2, q3⟩ := hq
    obtain ⟨v', w2, r1, r2⟩ := run_append_mak 78 (h.move q3 q2) q1 (fun g hg => ⟨Nat.le_trans hbl.size hg.1, hg.2, fun e => by have := hown g e; have := hg.1; omega⟩) h0 hb hn
    obtain ⟨a2, c2, rfl⟩ := r2.shape
    exact ⟨a, n, c, rfl, a2, _, c2, w2, r1, (mak_row mk r2 h0 hb).mono fun e w3 g => g.out⟩
set_option maxHeartbeats 4000000 in
set_option maxRecDepth 20000 in
theorem simple_sw (w0 : World) (b gc o : Nat) (F : Nat → Prop) (an : Option Addr) (cn : Nat) (av : Option Addr) (cv : Nat) (aw : Option Addr) (cw : Nat) (ns vs ws : List (List UInt8)) (W : World) (h0 : Base w0 W) (hb : b < W.heap.size) (hg : gc < w0.heap.size)
    (d1 : w0.cell? ⟨gc, o + 1, none⟩ = some (.slice an ns.length cn)) (d2 : w0.cell? ⟨gc, o + 2, none⟩ = some (.slice av vs.length cv)) (d3 : w0.cell? ⟨gc, o + 3, none⟩ = some (.slice aw ws.length cw)) (_hcn : ns.length ≤ cn) (_hcv : vs.length ≤ cv) (hcw : ws.length ≤ cw)
    (HN : StrV.q F w0 (.slice an ns.length cn) ns) (HV : WordsT w0 b av vs) (HW : WordsT w0 b aw ws) (hn : ns.length + ws.length ≤ 1000000000) :
    Calls Tryd.prog 77 #[.pointer (some ⟨gc, o, none⟩)] W (GetT w0 b NoneF W (sepB [32] (zipN ns vs ++ ws))) := by
  have hzl := zipN_length ns vs
  have END := Lib.hid (fun wr v (h : MakI w0 b W wr v (zipN ns vs)) => simple_end w0 b W wr v _ ws aw cw h h0 hb hcw (by omega) HW [32])
  have HQ := Lib.hid (And.intro h0 (And.intro hb (And.intro HN HV)))
  have CL := Lib.hid (fun wr (h : Below W.heap.size W wr) k v (hk : w0.cell? ⟨gc, k, none⟩ = some v) => (World.cell?_of_block ((h.block gc (by have := h0.1; omega)).trans (h0.2 gc hg))).trans hk)
  have c1 := CL.out W (Below.refl _ _) _ _ d1
  have D23 := Lib.hid (And.intro d2 d3)
  obtain ⟨N, hN⟩ : ∃ N, N = ns.length := ⟨_, rfl⟩
  obtain ⟨V, hV⟩ : ∃ V, V = vs.length := ⟨_, rfl⟩
  obtain ⟨M, hM⟩ : ∃ M, M = ws.length := ⟨_, rfl⟩
  have HL := Lib.hid (And.intro hN (And.intro hV hzl))
  rw [← hN] at c1 hn
  rw [← hV] at D23
  rw [← hM] at D23 hn END
  have hNb : (N : Int) ≤ 9223372036854775807 := by omega
  clear h0 hb hg d1 d2 d3 HN HV HW hN hV hM hcw hzl
  go_enter Tryd.func77, Tryd.ntmps77
  go_wp2
  go_loopg [3, 12] (N + 1) (fun k v i wr => ∃ (j : Nat), i = .int .i64 j ∧ j ≤ N ∧ Hid (k = N + 1 - j) ∧ ∃ a m c, v = .slice a m c ∧ Hid (MakI w0 b W wr (.slice a m c) ((zipN ns vs).take j)))
  case atStart => exact ⟨0, rfl, by omega, rfl, _, _, _, rfl, by rw [List.take_zero]; exact MakI.nil w0 b W⟩
  case round =>
    obtain ⟨j, rfl, hj, HK, a, m, c, rfl, HM⟩ := hrel
    have hbl : Below W.heap.size W wr := by obtain ⟨_, _, _, _, _, h5⟩ := HM.out; exact h5
    obtain ⟨h0, hb, HN, HV⟩ := HQ.out
    by_cases hlt : j < N
    · obtain ⟨x, hx⟩ : ∃ x, ns[j]? = some x := ⟨ns[j]'(by have := HL.out.1; omega), List.getElem?_eq_getElem _⟩
      obtain ⟨g, cp, e, -, hg2, cg⟩ := nm_at HN hx
      cases e
      have cx : wr.cell? ⟨g, j, none⟩ = some (.string ⟨x.toArray⟩) := (World.cell?_of_block ((hbl.block g (by have := h0.1; omega)).trans (h0.2 g hg2))).trans cg
      have hz := zipN_at ns vs j x hx
      have hT : (zipN ns vs).take (j + 1) = (zipN ns vs).take j ++ [sepB [61] [x, (vs[j]?).getD []]] := by rw [List.take_add_one, hz]; rfl
      have hlz : ((zipN ns vs).take j).length + 1 ≤ 1000000000 := by rw [List.length_take, HL.out.2.2, ← HL.out.1]; omega
      have hI2 : IntKind.i64.wrap ((j : Int) + 1) = ((j + 1 : Nat) : Int) := by rw [IntWalk.i64_in _ (by omega)]; omega
      have APP := Lib.hid (fun w5 k caps (m5 : MoreI w0 b wr w5 k caps (sepB [61] [x, (vs[j]?).getD []])) => more_app 78 HM.out m5 h0 hb hlz)
      rw [← hT] at APP
      have HBL := Lib.hid (fun w1 (hb1 : Below wr.heap.size wr w1) => hbl.trans (hb1.mono hbl.size))
      by_cases hv : j < V
      · obtain ⟨y, hy⟩ : ∃ y, vs[j]? = some y := ⟨vs[j]'(by have := HL.out.2.1; omega), List.getElem?_eq_getElem _⟩
        obtain ⟨gv, rfl, kv⟩ := HV j y hy
        rw [hy, Option.getD_some] at APP
        have k1 := name_chain w0 b wr (h0.new hbl) (by have := hbl.size; omega) x y ⟨gv, j, none⟩ kv
        clear hbl h0 hb HN HV hx cg hg2 hz hT hlz hy kv
        generalize (⟨x.toArray⟩ : ByteArray) = X at *
        go_wp2_with (first
          | (go_at_call 80; (with_reducible refine k1.mono ?_); rintro e w1 ⟨q1, p1, rfl, b1, k2⟩; have e2 := CL.out w1 (HBL.out w1 b1) _ _ D23.out.1; clear k1 b1)
          | (go_at_call 37; (with_reducible refine k2.mono ?_); rintro e w2 ⟨q2, p2, rfl, k3⟩; clear k2)
          | (go_at_call 80; (with_reducible refine k3.mono ?_); rintro e w3 ⟨q3, p3, rfl, k4⟩; clear k3)
          | (go_at_call 49; (with_reducible refine k4.mono ?_); rintro e w5 ⟨q5, p5, rfl, m5⟩; obtain ⟨v6, w6, r6, m6⟩ := APP.out _ _ _ m5; obtain ⟨a6, n6, c6, rfl⟩ := m6.shp; have M6 := Lib.hid m6; clear k4 m5 m6)
          | (at_builtin; refine wpList_app_eq rfl _ _ _ rfl rfl rfl r6 ?_; clear r6))
        go_roundg (N - j)
        case measure => have := HK.out; omega
        case rel => exact ⟨j + 1, by go_num, by omega, by show _ = _; omega, _, _, _, rfl, M6.out⟩
      · have hdv : decide ((j : Int) < (V : Int)) = false := by simp; omega
        have hy : vs[j]? = none := List.getElem?_eq_none (by have := HL.out.2.1; omega)
        rw [hy, Option.getD_none] at APP
        have k1 := bare_chain w0 b wr (h0.new hbl) (by have := hbl.size; omega) x
        clear hbl h0 hb HN HV hx cg hg2 hz hT hlz hy
        generalize (⟨x.toArray⟩ : ByteArray) = X at *
        go_wp2_with (first
          | (go_at_call 80; (with_reducible refine k1.mono ?_); rintro e w1 ⟨q1, p1, rfl, b1, k3⟩; have e2 := CL.out w1 (HBL.out w1 b1) _ _ D23.out.1; clear k1 b1)
          | (go_at_call 80; (with_reducible refine k3.mono ?_); rintro e w3 ⟨q3, p3, rfl, k4⟩; clear k3)
          | (go_at_call 49; (with_reducible refine k4.mono ?_); rintro e w5 ⟨q5, p5, rfl, m5⟩; obtain ⟨v6, w6, r6, m6⟩ := APP.out _ _ _ m5; obtain ⟨a6, n6, c6, rfl⟩ := m6.shp; have M6 := Lib.hid m6; clear k4 m5 m6)
          | (at_builtin; refine wpList_app_eq rfl _ _ _ rfl rfl rfl r6 ?_; clear r6))
        go_roundg (N - j)
        case measure => have := HK.out; omega
        case rel => exact ⟨j + 1, by go_num, by omega, by show _ = _; omega, _, _, _, rfl, M6.out⟩
    · have hd : decide ((j : Int) < (N : Int)) = false := by simp; omega
      have e3 := CL.out wr hbl _ _ D23.out.2
      have hM := HM.out
      have hall : (zipN ns vs).take j = zipN ns vs := List.take_of_length_le (by rw [HL.out.2.2, ← HL.out.1]; omega)
      rw [hall] at hM
      have k1 := END.out wr _ hM
      clear hbl h0 hb HN HV hM hall
      go_wp2_with (first
        | (go_at_call 104; (with_reducible refine k1.mono ?_); rintro e w1 ⟨a1, n1, c1, rfl, a2, n2, c2, w2, r6, k2⟩; clear k1)
        | (at_builtin; refine wpList_app_eq rfl _ _ _ rfl rfl rfl r6 ?_; clear r6)
        | (go_at_call 49; (with_reducible refine k2.mono ?_); rintro e w3 ⟨k3, c3, rfl, g3⟩; have G3 := Lib.hid g3; clear k2 g3))
      refine bodyPost_ret (results_tmp rfl _ _ _) rfl ?_
      exact G3.out
end Go.Proofs.YtabkmimpkoiajaaDoor
namespace Go.Proofs.YtabkmimpkoiajaaDoor
open Go.RowKit Go.Lib

theorem enters_command1 : ∀ args w, (callFunc 76 args).run Tryd.prog w = .ok (.enter 76 args) w := enters_of Tryd.func76 (by kernel_rfl) rfl
set_option maxHeartbeats 2000000 in
set_option maxRecDepth 20000 in
theorem com_simple (w0 : World) (b g gc o : Nat) (out x : List UInt8) (W : World) (hB : Base w0 W) (hg : gc < w0.heap.size) (hk : w0.cell? ⟨gc, o, none⟩ = some (.int .i64 1)) (hc : W.cell? ⟨g, 0, none⟩ = some (.pointer (some ⟨gc, o, none⟩))) (hI : BldI w0 b out W) (hn : out.length + x.length ≤ 1000000000)
    (KS : Calls Tryd.prog 77 #[.pointer (some ⟨gc, o, none⟩)] W (GetT w0 b NoneF W x)) :
    Calls Tryd.prog 76 #[.pointer (some ⟨b, 0, none⟩), .pointer (some ⟨g, 0, none⟩)] W (RunT w0 b out x W) := by
  have c0 : W.cell? ⟨gc, o, none⟩ = some (.int .i64 1) := (World.cell?_of_block (hB.2 gc hg)).trans hk
  have k1 := KS.mono (fun e w1 h => (show ∃ k caps, e = .returned (.func (.func k) #[] caps) ∧ (∀ args w, (callFunc k args).run Tryd.prog w = .ok (.enter k args) w) ∧ Calls Tryd.prog k (#[.pointer (some ⟨b, 0, none⟩)] ++ caps) w1 fun e w' => e = .returned (.tuple #[]) ∧ BldI w0 b (out ++ x) w' ∧ Kp w0 b W w' from by
    obtain ⟨k, caps, rfl, hk2, hF, hp, hb⟩ := h
    exact ⟨k, caps, rfl, hk2, put_get (W := W) (F := NoneF) hB hI (Below.refl _ _) hF hp hb hn⟩))
  clear KS hB hg hk hI hn
  go_enter Tryd.func76, Tryd.ntmps76
  go_wp2_with (first
    | (go_at_call 77; (with_reducible refine k1.mono ?_); rintro e w1 ⟨kk, caps, rfl, hkk, k2⟩; clear k1)
    | (go_at_fn kk; (with_reducible refine k2.mono ?_); rintro e w3 ⟨rfl, h3⟩; have HH := Lib.hid h3; clear h3 k2))
  go_end0
  exact ⟨rfl, HH.out⟩
theorem parts_nil (b : Nat) (w0 : World) : PartsOk b w0 (.slice none 0 0) [] := by
  intro W hB hb
  exact eachPart_any w0 b none 0 55 enters_part [] W hB hb (Nat.le_refl _) (by simp) (fun i x W hx => by simp at hx)
/-- The memory of the document's example: x=. -/
def ShW (w : World) : World := ((w.alloc (.cells #[.string ⟨#[120]⟩] 9)).alloc (.cells #[.slice none 0 0] 36)).alloc (.cells #[.int .i64 1, .slice (some ⟨w.heap.size, 0, none⟩) 1 1, .slice (some ⟨w.heap.size + 1, 0, none⟩) 1 1, .slice none 0 0, .slice none 0 0, .slice none 0 0, .slice none 0 0] 33)
theorem shW_facts (w : World) : (ShW w).heap.size = w.heap.size + 3 ∧ (ShW w).heap[w.heap.size]? = some (.cells #[.string ⟨#[120]⟩] 9 (0, 0)) ∧ (ShW w).heap[w.heap.size + 1]? = some (.cells #[.slice none 0 0] 36 (0, 0)) ∧
    (ShW w).heap[w.heap.size + 2]? = some (.cells #[.int .i64 1, .slice (some ⟨w.heap.size, 0, none⟩) 1 1, .slice (some ⟨w.heap.size + 1, 0, none⟩) 1 1, .slice none 0 0, .slice none 0 0, .slice none 0 0, .slice none 0 0] 33 (0, 0)) ∧ Below w.heap.size w (ShW w) := by
  unfold ShW
  obtain ⟨w1, h1⟩ : ∃ w1, w1 = w.alloc (.cells #[.string ⟨#[120]⟩] 9) := ⟨_, rfl⟩
  rw [← h1]
  obtain ⟨w2, h2⟩ : ∃ w2, w2 = w1.alloc (.cells #[.slice none 0 0] 36) := ⟨_, rfl⟩
  rw [← h2]
  generalize hX : Obj.cells #[.int .i64 1, .slice (some ⟨w.heap.size, 0, none⟩) 1 1, .slice (some ⟨w.heap.size + 1, 0, none⟩) 1 1, .slice none 0 0, .slice none 0 0, .slice none 0 0, .slice none 0 0] 33 = X
  have s1 : w1.heap.size = w.heap.size + 1 := by rw [h1]; simp
  have s2 : w2.heap.size = w.heap.size + 2 := by rw [h2]; simp [s1]
  refine ⟨by simp [s2], ?_, ?_, ?_, ?_⟩
  · rw [alloc_old w2 _ _ (by omega), h2, alloc_old w1 _ _ (by omega), h1]
    exact heap_alloc_new w _
  · rw [alloc_old w2 _ _ (by omega), h2, ← s1]
    exact heap_alloc_new w1 _
  · rw [← s2, ← hX]
    exact heap_alloc_new w2 _
  · rw [h2, h1]
    exact ((alloc_below w _).alloc (by simp) _).alloc (by simp; omega) _
set_option maxHeartbeats 1000000 in
theorem shown_each (w : World) (b : Nat) : EachOk b (ShW w) (.slice (some ⟨w.heap.size + 2, 0, none⟩) 1 1) [sepB [32] (zipN [[120]] [[]] ++ [])] := by
  obtain ⟨hs, f0, f1, f2, _⟩ := shW_facts w
  intro W hB hb
  refine eachCmd_any (ShW w) b (some ⟨w.heap.size + 2, 0, none⟩) 1 51 enters_command [sepB [32] (zipN [[120]] [[]] ++ [])] W hB hb (by simp) (by simp) fun i x W' hx hB' hbw => ?_
  have hi : i = 0 := by
    have := (List.getElem?_eq_some_iff.1 hx).1
    simp at this
    exact this
  subst hi
  cases hx
  refine ⟨_, rfl, ?_⟩
  rw [Nat.zero_mul]
  refine (command_new ⟨w.heap.size + 2, 0, none⟩ W').mono ?_
  rintro e w' ⟨rfl, rfl⟩
  refine get_box (ShW w) b W' _ _ (by decide) _ enters_command1 _ hB' (by have := hbw.size; omega) fun W2 out hB2 hc hI hn => ?_
  refine com_simple (ShW w) b _ (w.heap.size + 2) 0 out _ W2 hB2 (by omega) (by rw [cell_of_heap f2]; rfl) hc hI hn ?_
  refine simple_sw (ShW w) b (w.heap.size + 2) 0 (fun _ => True) (some ⟨w.heap.size, 0, none⟩) 1 (some ⟨w.heap.size + 1, 0, none⟩) 1 none 0 [[120]] [[]] [] W2 hB2 hI.lt (by omega) (by rw [cell_of_heap f2]; rfl) (by rw [cell_of_heap f2]; rfl) (by rw [cell_of_heap f2]; rfl) (by simp) (by simp) (by simp) ?_ ?_ ?_ (by simp)
  · refine ⟨[[.string ⟨#[120]⟩]], rfl, fun i x cs hx hc => ?_, ⟨rfl, .inr ⟨w.heap.size, 1, _, rfl, Nat.zero_le _, f0, Nat.le_refl _, by unfold maxLen; omega, rfl, rfl⟩⟩, fun _ _ => trivial⟩
    match i with
    | 0 => cases hx; cases hc; rfl
    | i + 1 => simp at hx
  · intro i x hx
    have hi : i = 0 := by
      have := (List.getElem?_eq_some_iff.1 hx).1
      simp at this
      exact this
    subst hi
    cases hx
    refine ⟨_, rfl, fun W3 hB3 hb3 => ?_⟩
    exact word_get (ShW w) b (w.heap.size + 1) 0 none 0 0 [] (parts_nil b _) (by omega) (by rw [cell_of_heap f1]; rfl) W3 hB3 (by omega)
  · intro i x hx
    simp at hx
theorem shown_text (w : World) : Calls Tryd.prog 21 #[.slice (some ⟨w.heap.size + 2, 0, none⟩) 1 1] (ShW w) fun e w' => e = .returned (.string ⟨#[120, 61]⟩) ∧ Below w.heap.size w w' := by
  obtain ⟨hs, _, _, _, hb⟩ := shW_facts w
  refine (text_any (ShW w) (some ⟨w.heap.size + 2, 0, none⟩) 1 1 _ (shown_each w _) (by decide)).mono ?_
  rintro e w' ⟨rfl, h2⟩
  exact ⟨rfl, hb.trans (h2.mono (by omega))⟩
end Go.Proofs.YtabkmimpkoiajaaDoor
namespace Go.Proofs.YtabkmimpkoiajaaDoor
open Go.RowKit Go.Lib

def qA (s : ByteArray) (k : Nat) : ByteArray := ⟨([39] ++ qR (s.data.toList.take k)).toArray⟩
theorem qA_step (s : ByteArray) (k : Nat) (h : k < s.size) : qA s (k + 1) = qA s k ++ (if s[k] = 39 then ⟨#[39, 92, 39, 39]⟩ else ⟨#[s[k]]⟩) := by
  apply ByteArray.ext
  unfold qA
  rw [take_snoc s k h, qR_app, qR, qR]
  by_cases hc : s[k] = 39
  · rw [if_pos hc, if_pos hc]; simp [ByteArray.data_append]
  · rw [if_neg hc, if_neg hc]; simp [ByteArray.data_append]
theorem qA_size (s : ByteArray) (k : Nat) : (qA s k).size ≤ 1 + 4 * s.size := by
  unfold qA
  rw [sizeS, List.length_append, qR_len]
  have h1 : (s.data.toList.take k).length ≤ s.size := by
    rw [List.length_take]
    have : s.data.toList.length = s.size := Array.length_toList
    omega
  have h2 : (s.data.toList.take k).count 39 ≤ (s.data.toList.take k).length := List.count_le_length
  simp only [List.length_singleton]
  omega
theorem qA_end (s : ByteArray) : qA s s.size ++ ⟨#[39]⟩ = ⟨(quoteL s.data.toList).toArray⟩ := by
  apply ByteArray.ext
  unfold qA quoteL
  rw [List.take_of_length_le (by show s.data.toList.length ≤ s.data.size; rw [Array.length_toList]; exact Nat.le_refl _)]
  simp [ByteArray.data_append]
theorem one_extract (s : ByteArray) (k : Nat) (h : k < s.size) : s.extract k (k + 1) = ⟨#[s[k]]⟩ := by
  apply ByteArray.ext
  rw [ByteArray.data_extract]
  apply Array.ext
  · simp; have : s.data.size = s.size := rfl; omega
  · intro i h1 h2
    have : i = 0 := by simp at h2; omega
    subst this
    simp
    rfl
set_option maxHeartbeats 2000000 in
set_option maxRecDepth 20000 in
theorem refQuote_any (s : ByteArray) (w : World) (hs : s.size ≤ 1000000) :
    Calls Tryd.prog 20 #[.string s] w fun e w' => e = .returned (.string ⟨(quoteL s.data.toList).toArray⟩) ∧ w' = w := by
  have H0 : qA s 0 = ⟨#[39]⟩ := rfl
  have HS := Lib.hid (And.intro (qA_step s) (And.intro (qA_size s) (And.intro (qA_end s) (one_extract s))))
  generalize (⟨(quoteL s.data.toList).toArray⟩ : ByteArray) = Z at *
  have H0' := Lib.hid H0
  clear H0
  go_enter Tryd.func20, Tryd.ntmps20
  go_wp2
  go_loopg [3, 4] (s.size + 1) (fun g v3 v4 wr => ∃ k : Nat, v3 = .string (qA s k) ∧ v4 = .int .i64 k ∧ k ≤ s.size ∧ Hid (g = s.size + 1 - k) ∧ wr = w)
  case atStart => exact ⟨0, by rw [H0'.out], rfl, by omega, rfl, rfl⟩
  case round =>
    obtain ⟨k, rfl, rfl, hk, HK, rfl⟩ := hrel
    obtain ⟨hstep, hsize, hend, hone⟩ := HS.out
    by_cases hlt : k < s.size
    · have hltI : (k : Int) < (s.size : Int) := by omega
      have hst := hstep k hlt
      have h1 := hone k hlt
      have hz := hsize k
      have hz2 := hsize (k + 1)
      have hI : IntKind.i64.wrap ((k : Int) + 1) = ((k + 1 : Nat) : Int) := by rw [IntWalk.i64_in _ (by omega)]; omega
      obtain ⟨c, hc⟩ : ∃ c, s[k] = c := ⟨_, rfl⟩
      rw [hc] at hst h1
      obtain ⟨a, ha⟩ : ∃ a, a = qA s k := ⟨_, rfl⟩
      rw [← ha] at hst hz ⊢
      by_cases h39 : c = 39
      · subst h39
        rw [if_pos rfl] at hst
        have HT := Lib.hid hst
        have hn : ¬ 9223372036854775807 < a.size + (⟨#[39, 92, 39, 39]⟩ : ByteArray).size := by have : (⟨#[39, 92, 39, 39]⟩ : ByteArray).size = 4 := rfl; omega
        clear hstep hsize hend hone hst h1 ha hz2
        go_wp2
        go_roundg (s.size - k)
        case measure => have := HK.out; omega
        case rel => exact ⟨k + 1, by rw [HT.out], by go_num, by omega, by show _ = _; omega, rfl⟩
      · rw [if_neg h39] at hst
        have hne : ¬ (c.toNat : Int) = 39 := fun e => h39 (by apply UInt8.toNat_inj.1; show c.toNat = 39; omega)
        have hned : decide ((c.toNat : Int) = 39) = false := decide_eq_false hne
        have HT := Lib.hid hst
        clear hstep hsize hend hone hst ha hz2 h39
        go_wp2
        go_roundg (s.size - k)
        case measure => have := HK.out; omega
        case rel => exact ⟨k + 1, by rw [HT.out], by go_num, by omega, by show _ = _; omega, rfl⟩
    · have hd : decide ((k : Int) < (s.size : Int)) = false := by simp; omega
      obtain rfl : k = s.size := by omega
      have HE := Lib.hid hend
      have hz := hsize s.size
      obtain ⟨a, ha⟩ : ∃ a, a = qA s s.size := ⟨_, rfl⟩
      rw [← ha] at hz HE ⊢
      clear hstep hsize hend hone ha
      go_wp2
      refine bodyPost_ret (results_tmp rfl _ _ _) rfl ⟨?_, rfl⟩
      show Ending.returned (Value.string _) = _
      rw [← HE.out]
set_option maxHeartbeats 2000000 in
set_option maxRecDepth 20000 in
/-- The document's example. -/
theorem shownSw_any (w : World) (hm : Mx12 w) : Calls Tryd.prog 17 #[] w fun e w' => e = .returned (.bool true) ∧ Below w.heap.size w w' := by
  have k1 := quote_any [97, 39, 98] w (by simp) hm
  have e1 : (⟨(quoteL [97, 39, 98]).toArray⟩ : ByteArray) = ⟨#[39, 97, 39, 92, 39, 39, 98, 39]⟩ := rfl
  have e2 : (⟨[97, 39, 98].toArray⟩ : ByteArray) = ⟨#[97, 39, 98]⟩ := rfl
  rw [e1, e2] at k1
  have k2 := fun w1 : World => shown_text w1
  unfold ShW at k2
  clear e1 e2 hm
  go_enter Tryd.func17, Tryd.ntmps17
  go_wp2_with (first
    | (go_at_call 19; (with_reducible refine k1.mono ?_); rintro e w1 ⟨rfl, h1⟩; have H1 := Lib.hid h1; clear h1 k1)
    | (go_at_call 21; (with_reducible refine (k2 _).mono ?_); rintro e w2 ⟨rfl, h2⟩; have H2 := Lib.hid h2; clear h2 k2))
  exact bodyPost_ret (results_tmp rfl _ _ _) rfl ⟨rfl, H1.out.trans (H2.out.mono H1.out.size)⟩
end Go.Proofs.YtabkmimpkoiajaaDoor
