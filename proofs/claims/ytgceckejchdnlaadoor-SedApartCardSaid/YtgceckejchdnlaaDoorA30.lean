/- Packed texts: SedApartWalk. What each of them proves stands above its theorems; the conditions stand in these. -/
import Derived.Test.YtgceckejchdnlaaDoorA28
namespace Go.Proofs.YtgceckejchdnlaaDoor
open Go.RowKit Go.Lib
attribute [local go_sem] Oper.semAt_some

/-- A row of commands as what is put behind another one. -/
theorem ScrS.news {B : Nat} {cs : List Cm} {v : Value} {w : World} (h : ScrS B cs v w) : (v = .slice none 0 0 ∧ cs = []) ∨ ∃ (g cap : Nat) (xss : List (List Value)), v = .slice (some ⟨g, 0, none⟩) cs.length cap ∧ g < w.heap.size ∧ xss.length = cs.length ∧ (∀ (i : Nat) c x, cs[i]? = some c → xss[i]? = some x → CmS B c x w) ∧ xss.flatten.length = cs.length * 13 ∧
    (∀ j u, xss.flatten[j]? = some u → w.cell? ((⟨g, 0, none⟩ : Addr).add j) = some u) ∧ ∀ u ∈ xss.flatten, u.oneCell' = true := by
  obtain ⟨xss, h1, h2, h3⟩ := h
  have hone : ∀ u ∈ xss.flatten, u.oneCell' = true := fun u hu => by
    obtain ⟨x, hx, hux⟩ := List.mem_flatten.mp hu
    obtain ⟨i, hi⟩ := List.getElem?_of_mem hx
    have hil : i < xss.length := by
      by_cases h : i < xss.length
      · exact h
      · rw [List.getElem?_eq_none (by omega)] at hi; cases hi
    obtain ⟨va, vb, v', u', rfl, ha, hb, hr, hp⟩ := h3 i _ x (List.getElem?_eq_getElem (by omega)) hi
    obtain ⟨a1, a2, a3, rfl⟩ := ads_slice ha
    obtain ⟨b1, b2, b3, rfl⟩ := ads_slice hb
    obtain ⟨d1, d2, d3, rfl⟩ := res_slice hr
    obtain ⟨q1, q2, rfl⟩ := own_zeroB hp
    simp only [List.mem_cons, List.not_mem_nil, or_false] at hux
    rcases hux with rfl | rfl | rfl | rfl | rfl | rfl | rfl | rfl | rfl | rfl | rfl | rfl | rfl <;> rfl
  rcases h2.2 with ⟨hv, h0⟩ | ⟨g, cap, cur, hv, hB, hg, hc, hm, hz, htk⟩
  · exact .inl ⟨hv, List.eq_nil_of_length_eq_zero h0⟩
  · refine .inr ⟨g, cap, xss, hv, block_lt hg, h1, h3, h2.1, fun j u hu => ?_, hone⟩
    have hjl : j < cs.length * 13 := by
      by_cases h : j < xss.flatten.length
      · rw [h2.1] at h; exact h
      · rw [List.getElem?_eq_none (by omega)] at hu; cases hu
    have ea : (⟨g, 0, none⟩ : Addr).add j = ⟨g, j, none⟩ := by simp [Addr.add]; intro h; exact h.symm
    rw [ea, cell_of_heap hg]
    rw [← htk, List.getElem?_take_of_lt (by omega)] at hu
    simpa using hu
/-- Both rows' cells, of one's own. -/
theorem both_row {B B1 B2 : Nat} {as' bs : List Cm} {v : Value} {w w' : World} {xa xb : List (List Value)} (h1 : xa.length = as'.length) (h2 : ∀ (i : Nat) c x, as'[i]? = some c → xa[i]? = some x → CmS B1 c x w) (k1 : xb.length = bs.length) (k2 : ∀ (i : Nat) c x, bs[i]? = some c → xb[i]? = some x → CmS B2 c x w) (hb : Below w.heap.size w w')
    (hB1 : B ≤ B1) (hB2 : B ≤ B2) (hown : w'.ownsRow B 36 13 v (as'.length + bs.length) (xa.flatten ++ xb.flatten)) : ScrS B (as' ++ bs) v w' := by
  refine ⟨xa ++ xb, by rw [List.length_append, List.length_append, h1, k1], by rw [List.length_append, List.flatten_append]; exact hown, fun i c x hc hx => ?_⟩
  by_cases hi : i < as'.length
  · rw [List.getElem?_append_left hi] at hc
    rw [List.getElem?_append_left (by omega)] at hx
    exact ((h2 i c x hc hx).base hB1).below hb
  · rw [List.getElem?_append_right (by omega)] at hc
    rw [List.getElem?_append_right (by omega), h1] at hx
    exact ((k2 _ c x hc hx).base hB2).below hb
set_option maxHeartbeats 4000000 in
set_option maxRecDepth 20000 in
theorem apart_out (s t : ByteArray) (w : World) (hs : s.size ≤ 140737488351232) (ht : t.size ≤ 140737488351232) (h : 1500 < s.size + t.size) :
    Calls Tryd.prog 3 #[.string s, .string t] w fun e w' => e = .returned (.bool true) ∧ Below w.heap.size w w' := by
  have kS := shown8_any w
  have hd : decide ((1500 : Int) < (s.size : Int) + (t.size : Int)) = true := by simpa using (by omega : (1500 : Int) < (s.size : Int) + (t.size : Int))
  go_enter Tryd.func3, Tryd.ntmps3
  go_wp2_with (go_at_call 6; refine kS.mono ?_; rintro e w1 ⟨rfl, hb⟩)
  all_goals exact bodyPost_ret (results_tmp rfl _ _ _) rfl ⟨rfl, hb⟩
set_option maxHeartbeats 4000000 in
set_option maxRecDepth 20000 in
theorem apart_bad1 (s t : ByteArray) (x : Int) (w : World) (h : s.size + t.size ≤ 1500) (hx : (x == 0) = false)
    (k1 : ∀ w, Calls Tryd.prog 7 #[.string s] w fun e w' => e = .returned (.tuple #[.slice none 0 0, .int .i64 x]) ∧ Below w.heap.size w w')
    (k2 : ∀ w, Calls Tryd.prog 7 #[.string t] w fun e w' => (∃ v y, e = .returned (.tuple #[v, .int .i64 y])) ∧ Below w.heap.size w w') :
    Calls Tryd.prog 3 #[.string s, .string t] w fun e w' => e = .returned (.bool true) ∧ Below w.heap.size w w' := by
  have kS := shown8_any w
  have hd : decide ((1500 : Int) < (s.size : Int) + (t.size : Int)) = false := by simp; omega
  go_enter Tryd.func3, Tryd.ntmps3
  go_wp2_with fail
  refine kS.mono ?_
  rintro e w1 ⟨rfl, hb1⟩
  go_wp2_with fail
  refine (k1 w1).mono ?_
  rintro e w2 ⟨rfl, hb2⟩
  go_wp2_with fail
  refine (k2 w2).mono ?_
  rintro e w3 ⟨⟨v, y, rfl⟩, hb3⟩
  have HB := Lib.hid ((hb1.trans (hb2.mono hb1.size)).trans (hb3.mono (by have := hb1.size; have := hb2.size; omega)))
  go_wp2_with fail
  exact bodyPost_ret (results_tmp rfl _ _ _) rfl ⟨rfl, HB.out⟩
set_option maxHeartbeats 4000000 in
set_option maxRecDepth 20000 in
theorem apart_bad2 (s t : ByteArray) (x : Int) (w : World) (h : s.size + t.size ≤ 1500) (hx : (x == 0) = false)
    (k1 : ∀ w, Calls Tryd.prog 7 #[.string s] w fun e w' => (∃ v, e = .returned (.tuple #[v, .int .i64 0])) ∧ Below w.heap.size w w')
    (k2 : ∀ w, Calls Tryd.prog 7 #[.string t] w fun e w' => e = .returned (.tuple #[.slice none 0 0, .int .i64 x]) ∧ Below w.heap.size w w') :
    Calls Tryd.prog 3 #[.string s, .string t] w fun e w' => e = .returned (.bool true) ∧ Below w.heap.size w w' := by
  have kS := shown8_any w
  have hd : decide ((1500 : Int) < (s.size : Int) + (t.size : Int)) = false := by simp; omega
  go_enter Tryd.func3, Tryd.ntmps3
  go_wp2_with fail
  refine kS.mono ?_
  rintro e w1 ⟨rfl, hb1⟩
  go_wp2_with fail
  refine (k1 w1).mono ?_
  rintro e w2 ⟨⟨v, rfl⟩, hb2⟩
  go_wp2_with fail
  refine (k2 w2).mono ?_
  rintro e w3 ⟨rfl, hb3⟩
  have HB := Lib.hid ((hb1.trans (hb2.mono hb1.size)).trans (hb3.mono (by have := hb1.size; have := hb2.size; omega)))
  go_wp2_with fail
  exact bodyPost_ret (results_tmp rfl _ _ _) rfl ⟨rfl, HB.out⟩
set_option maxHeartbeats 4000000 in
set_option maxRecDepth 20000 in
theorem apart_name (s t : ByteArray) (w : World) (h : s.size + t.size ≤ 1500)
    (k1 : ∀ w, Calls Tryd.prog 7 #[.string s] w fun e w' => (∃ v, e = .returned (.tuple #[v, .int .i64 0])) ∧ Below w.heap.size w w')
    (k2 : ∀ w, Calls Tryd.prog 7 #[.string t] w fun e w' => (∃ v, e = .returned (.tuple #[v, .int .i64 0])) ∧ Below w.heap.size w w')
    (k3 : ∀ w, Calls Tryd.prog 7 #[.string (s ++ (⟨#[59]⟩ : ByteArray) ++ t)] w fun e w' => e = .returned (.tuple #[.slice none 0 0, .int .i64 8]) ∧ Below w.heap.size w w')
    (k4 : ∀ w, Calls Tryd.prog 7 #[.string (s ++ (⟨#[10]⟩ : ByteArray) ++ t)] w fun e w' => e = .returned (.tuple #[.slice none 0 0, .int .i64 8]) ∧ Below w.heap.size w w') :
    Calls Tryd.prog 3 #[.string s, .string t] w fun e w' => e = .returned (.bool true) ∧ Below w.heap.size w w' := by
  have kS := shown8_any w
  have hd : decide ((1500 : Int) < (s.size : Int) + (t.size : Int)) = false := by simp; omega
  go_enter Tryd.func3, Tryd.ntmps3
  go_wp2_with fail
  refine kS.mono ?_
  rintro e w1 ⟨rfl, hb1⟩
  go_wp2_with fail
  refine (k1 w1).mono ?_
  rintro e w2 ⟨⟨v, rfl⟩, hb2⟩
  go_wp2_with fail
  refine (k2 w2).mono ?_
  rintro e w3 ⟨⟨u, rfl⟩, hb3⟩
  go_wp2_with fail
  refine (k3 w3).mono ?_
  rintro e w4 ⟨rfl, hb4⟩
  go_wp2_with fail
  refine (k4 w4).mono ?_
  rintro e w5 ⟨rfl, hb5⟩
  have HB := Lib.hid ((((hb1.trans (hb2.mono hb1.size)).trans (hb3.mono (by have := hb1.size; have := hb2.size; omega))).trans (hb4.mono (by have := hb1.size; have := hb2.size; have := hb3.size; omega))).trans (hb5.mono (by have := hb1.size; have := hb2.size; have := hb3.size; have := hb4.size; omega)))
  go_wp2_with fail
  exact bodyPost_ret (results_tmp rfl _ _ _) rfl ⟨rfl, HB.out⟩
theorem owns_capS {w : World} {B n size cap : Nat} {e : TypeId} {ao : Option Addr} {xs : List Value} (h : w.ownsRow B e size (.slice ao n cap) n xs) : n ≤ cap := by
  rcases h.2 with ⟨hv, h0⟩ | ⟨g, cap', cur, hv, hB, hg, hc, _⟩
  · omega
  · cases hv; exact hc
theorem owns_some {w : World} {B n size : Nat} {e : TypeId} {v : Value} {xs : List Value} (h : w.ownsRow B e size v n xs) (hv : v ≠ .slice none 0 0) : ∃ g cap, v = .slice (some ⟨g, 0, none⟩) n cap := by
  rcases h.2 with ⟨hv', _⟩ | ⟨g, cap, cur, hv', _⟩
  · exact absurd hv' hv
  · exact ⟨g, cap, hv'⟩
set_option maxHeartbeats 8000000 in
set_option maxRecDepth 20000 in
theorem apart_in (s t : ByteArray) (as' bs : List Cm) (w : World) (h : s.size + t.size ≤ 1500) (hra : Rdy s.data.toList as') (hrb : Rdy t.data.toList bs)
    (k1 : ∀ w, Calls Tryd.prog 7 #[.string s] w fun e w' => (∃ v, e = .returned (.tuple #[v, .int .i64 0]) ∧ ScrS w.heap.size as' v w') ∧ Below w.heap.size w w')
    (k2 : ∀ w, Calls Tryd.prog 7 #[.string t] w fun e w' => (∃ v, e = .returned (.tuple #[v, .int .i64 0]) ∧ ScrS w.heap.size bs v w') ∧ Below w.heap.size w w')
    (k3 : ∀ w, Calls Tryd.prog 7 #[.string (s ++ (⟨#[59]⟩ : ByteArray) ++ t)] w fun e w' => (∃ v, e = .returned (.tuple #[v, .int .i64 0]) ∧ ScrS w.heap.size (as' ++ bs) v w') ∧ Below w.heap.size w w')
    (k4 : ∀ w, Calls Tryd.prog 7 #[.string (s ++ (⟨#[10]⟩ : ByteArray) ++ t)] w fun e w' => (∃ v, e = .returned (.tuple #[v, .int .i64 0]) ∧ ScrS w.heap.size (as' ++ bs) v w') ∧ Below w.heap.size w w') :
    Calls Tryd.prog 3 #[.string s, .string t] w fun e w' => e = .returned (.bool true) ∧ Below w.heap.size w w' := by
  have kS := shown8_any w
  have hd : decide ((1500 : Int) < (s.size : Int) + (t.size : Int)) = false := by simp; omega
  have hza : s.data.toList.length = s.size := Array.length_toList
  have hzb : t.data.toList.length = t.size := Array.length_toList
  have hla := hra.len
  have hlb := hrb.len
  have kSame := fun B B' u v w (h1 : ScrS B (as' ++ bs) u w) (h2 : ScrS B' (as' ++ bs) v w) => same8_eq B B' (as' ++ bs) u v w h1 h2 (by rw [List.length_append]; omega) (fun c hc => by rcases List.mem_append.mp hc with h | h; exact hra.good c h; exact hrb.good c h) (fun c hc => by
    rcases List.mem_append.mp hc with h | h
    · have := hra.put c h; omega
    · have := hrb.put c h; omega)
  obtain ⟨i0, hi, hz0, hz1, hz2⟩ := info_parts Tryd.infoCmdZ
  have HI0 := Lib.hid (And.intro hi (And.intro hz0 (And.intro hz1 hz2)))
  have HL := Lib.hid (show as'.length ≤ 1500 ∧ bs.length ≤ 1500 by omega)
  clear hi hz0 hz1 hz2 hra hrb hza hzb hla hlb
  go_enter Tryd.func3, Tryd.ntmps3
  go_wp2_with fail
  refine kS.mono ?_
  rintro e w1 ⟨rfl, hb1⟩
  go_wp2_with fail
  refine (k1 w1).mono ?_
  rintro e w2 ⟨⟨va, rfl, hsa⟩, hb2⟩
  go_wp2_with fail
  refine (k2 w2).mono ?_
  rintro e w3 ⟨⟨vb, rfl, hsb⟩, hb3⟩
  go_wp2_with fail
  refine (k3 w3).mono ?_
  rintro e w4 ⟨⟨vc, rfl, hsc⟩, hb4⟩
  go_wp2_with fail
  refine (k4 w4).mono ?_
  rintro e w5 ⟨⟨vd, rfl, hsd⟩, hb5⟩
  have hb15 : Below w.heap.size w w5 := ((((hb1.trans (hb2.mono hb1.size)).trans (hb3.mono (by have := hb1.size; have := hb2.size; omega))).trans (hb4.mono (by have := hb1.size; have := hb2.size; have := hb3.size; omega))).trans (hb5.mono (by have := hb1.size; have := hb2.size; have := hb3.size; have := hb4.size; omega)))
  have hsa5 := ((hsa.below hb3).below hb4).below hb5
  have hsb5 := (hsb.below hb4).below hb5
  have HC5 := Lib.hid (And.intro (hsc.below hb5) (And.intro hsd hb15))
  have hzz : w.heap.size ≤ w1.heap.size ∧ w1.heap.size ≤ w2.heap.size ∧ w2.heap.size ≤ w3.heap.size ∧ w3.heap.size ≤ w4.heap.size ∧ w4.heap.size ≤ w5.heap.size := ⟨hb1.size, hb2.size, hb3.size, hb4.size, hb5.size⟩
  rcases hsa5.news with ⟨rfl, ha0⟩ | ⟨ga, ca, xa, rfl, hga, xa1, xa2, xa3, xa4, xa5⟩ <;> rcases hsb5.news with ⟨rfl, hb0⟩ | ⟨gb, cb, xb, rfl, hgb, xb1, xb2, xb3, xb4, xb5⟩
  · obtain ⟨cc1, cc2, rfl⟩ := hsc.shape
    obtain ⟨dd1, dd2, rfl⟩ := hsd.shape
    subst ha0
    subst hb0
    have hz5 : w.heap.size ≤ w5.heap.size := by omega
    obtain ⟨na, hna⟩ : ∃ na, na = ([] : List Cm).length := ⟨_, rfl⟩
    obtain ⟨nb, hnb⟩ : ∃ nb, nb = ([] : List Cm).length := ⟨_, rfl⟩
    have hnn : na ≤ 1500 ∧ nb ≤ 1500 := by have := HL.out; (try simp at this); (try simp at hna); (try simp at hnb); omega
    have hnc : (([] : List Cm) ++ []).length = na + nb := by rw [List.length_append, hna, hnb]
    rw [hnc]
    have HNN := Lib.hid (And.intro hna (And.intro hnb hnc))
    have hown0 : (w5.alloc (.cells #[] 36)).ownsRow w5.heap.size 36 13 (.slice (some ⟨w5.heap.size, 0, none⟩) 0 0) 0 [] := ⟨rfl, .inr ⟨w5.heap.size, 0, #[], rfl, Nat.le_refl _, heap_alloc_new w5 _, Nat.le_refl _, by unfold maxLen; omega, rfl, rfl⟩⟩
    have HO0 := Lib.hid hown0
    clear hna hnb hnc hown0 hsa hsb hsc hsd hb1 hb2 hb3 hb4 hb5 hb15 hsa5 hsb5 k1 k2 k3 k4 kS hzz
    go_wp2_with fail
    have hF : Below w5.heap.size w5 (w5.alloc (.cells #[] 36)) := (Below.refl _ w5).alloc (Nat.le_refl _) _
    have hown := owns_base HO0.out (Nat.zero_le _)
    have hBoth : ScrS 0 (([] : List Cm) ++ ([] : List Cm)) _ (w5.alloc (.cells #[] 36)) := both_row (B1 := 0) (B2 := 0) (xa := []) (xb := []) rfl (fun i c x hc _ => by simp at hc) rfl (fun i c x hc _ => by simp at hc) hF (Nat.le_refl _) (Nat.le_refl _) (by have h1 := HNN.out.1; have h2 := HNN.out.2.1; (try simp only [List.length_nil, List.flatten_nil, List.append_nil, List.nil_append, Nat.add_zero, Nat.zero_add] at hown); (try simp only [List.length_nil] at h1); (try simp only [List.length_nil] at h2); (try simp only [List.length_nil, List.flatten_nil, List.append_nil, Nat.add_zero]); exact hown)
    have hc5 := HC5.out
    rw [HNN.out.2.2] at hc5
    have kq1 := kSame _ 0 _ _ _ (hc5.1.below hF) hBoth
    refine kq1.mono ?_
    rintro e w8 ⟨rfl, hb8⟩
    have kq2 := kSame _ 0 _ _ _ ((hc5.2.1.below hF).below hb8) (hBoth.below hb8)
    have HE := Lib.hid ((hc5.2.2.trans (hF.mono hz5)).trans (hb8.mono (by have := hF.size; omega)))
    have hz8 : w.heap.size ≤ w8.heap.size := by have := hF.size; have := hb8.size; omega
    clear kq1 hF hown hBoth hc5 hb8
    go_wp2_with fail
    refine kq2.mono ?_
    rintro e w9 ⟨rfl, hb9⟩
    have HE9 := Lib.hid (HE.out.trans (hb9.mono hz8))
    go_wp2_with fail
    exact bodyPost_ret (results_tmp rfl _ _ _) rfl ⟨rfl, HE9.out⟩
  · obtain ⟨cc1, cc2, rfl⟩ := hsc.shape
    obtain ⟨dd1, dd2, rfl⟩ := hsd.shape
    subst ha0
    have HXB := Lib.hid (And.intro xb1 (And.intro xb2 (And.intro xb3 (And.intro xb4 xb5))))
    have hz5 : w.heap.size ≤ w5.heap.size := by omega
    obtain ⟨na, hna⟩ : ∃ na, na = ([] : List Cm).length := ⟨_, rfl⟩
    obtain ⟨nb, hnb⟩ : ∃ nb, nb = bs.length := ⟨_, rfl⟩
    have hnn : na ≤ 1500 ∧ nb ≤ 1500 := by have := HL.out; (try simp at this); (try simp at hna); (try simp at hnb); omega
    have hnc : (([] : List Cm) ++ bs).length = na + nb := by rw [List.length_append, hna, hnb]
    rw [hnc]
    rw [← hnb]
    have HNN := Lib.hid (And.intro hna (And.intro hnb hnc))
    have hown0 : (w5.alloc (.cells #[] 36)).ownsRow w5.heap.size 36 13 (.slice (some ⟨w5.heap.size, 0, none⟩) 0 0) 0 [] := ⟨rfl, .inr ⟨w5.heap.size, 0, #[], rfl, Nat.le_refl _, heap_alloc_new w5 _, Nat.le_refl _, by unfold maxLen; omega, rfl, rfl⟩⟩
    have HO0 := Lib.hid hown0
    clear hna hnb hnc hown0 hsa hsb hsc hsd hb1 hb2 hb3 hb4 hb5 hb15 hsa5 hsb5 k1 k2 k3 k4 kS hzz xb1 xb2 xb3 xb4 xb5
    go_wp2_with (first
      | (at_builtin; refine wpList_append_own _ rfl (.tmp 65) (.tmp 66) 23 rfl w5.heap.size 36 i0 (.agg #[.int .u8 0, .int .i64 0, .int .i64 0, .slice none 0 0, .int .i64 0, .int .i64 0, .slice none 0 0, .bool false, .slice none 0 0, .slice none 0 0, .bool false, .bool false, .string ByteArray.empty]) 13 168 Tryd.underlying23 HI0.out.1 HI0.out.2.1 HI0.out.2.2.1 HI0.out.2.2.2 rfl (by decide) _ 0 [] rfl HO0.out ⟨gb, 0, none⟩ nb cb xb.flatten rfl (by have := HXB.out.2.2.1; rw [HNN.out.2.1]; exact this) (fun j u hu => by have h := HXB.out.2.2.2.1 j u hu; exact (World.cell?_alloc_some w5 _ _ (by rw [h]; rfl)).trans h) HXB.out.2.2.2.2 (by unfold maxLen; omega) (by omega) (by simp) ?_; intro v7 w7 hown7 hgrow7 hnil7; obtain ⟨g7, cp7, rfl⟩ := owns_some hown7 (fun e => by have := (hnil7.1 e).1; cases this); clear hnil7; (try simp only [Nat.zero_add, List.nil_append] at hown7); have HO7 := Lib.hid (And.intro hown7 hgrow7); clear hown7 hgrow7))
    have hF : Below w5.heap.size w5 w7 := ((Below.refl _ w5).alloc (Nat.le_refl _) _).grown HO7.out.2 (by simp) (fun r hr => by cases hr; exact Nat.le_refl _)
    have hown := owns_base HO7.out.1 (Nat.zero_le _)
    have hBoth : ScrS 0 (([] : List Cm) ++ bs) _ w7 := both_row (B1 := 0) (B2 := 0) (xa := []) (xb := xb) rfl (fun i c x hc _ => by simp at hc) HXB.out.1 (fun i c x hc hx => (HXB.out.2.1 i c x hc hx).base (Nat.zero_le _)) hF (Nat.le_refl _) (Nat.le_refl _) (by have h1 := HNN.out.1; have h2 := HNN.out.2.1; (try simp only [List.length_nil, List.flatten_nil, List.append_nil, List.nil_append, Nat.add_zero, Nat.zero_add] at hown); (try simp only [List.length_nil] at h1); (try simp only [List.length_nil] at h2); (try simp only [List.length_nil, List.flatten_nil, List.nil_append, Nat.zero_add]); rw [← h2]; exact hown)
    have hc5 := HC5.out
    rw [HNN.out.2.2] at hc5
    have kq1 := kSame _ 0 _ _ _ (hc5.1.below hF) hBoth
    refine kq1.mono ?_
    rintro e w8 ⟨rfl, hb8⟩
    have kq2 := kSame _ 0 _ _ _ ((hc5.2.1.below hF).below hb8) (hBoth.below hb8)
    have HE := Lib.hid ((hc5.2.2.trans (hF.mono hz5)).trans (hb8.mono (by have := hF.size; omega)))
    have hz8 : w.heap.size ≤ w8.heap.size := by have := hF.size; have := hb8.size; omega
    clear kq1 hF hown hBoth hc5 hb8
    go_wp2_with fail
    refine kq2.mono ?_
    rintro e w9 ⟨rfl, hb9⟩
    have HE9 := Lib.hid (HE.out.trans (hb9.mono hz8))
    go_wp2_with fail
    exact bodyPost_ret (results_tmp rfl _ _ _) rfl ⟨rfl, HE9.out⟩
  · obtain ⟨cc1, cc2, rfl⟩ := hsc.shape
    obtain ⟨dd1, dd2, rfl⟩ := hsd.shape
    subst hb0
    have HXA := Lib.hid (And.intro xa1 (And.intro xa2 (And.intro xa3 (And.intro xa4 xa5))))
    have hz5 : w.heap.size ≤ w5.heap.size := by omega
    obtain ⟨na, hna⟩ : ∃ na, na = as'.length := ⟨_, rfl⟩
    obtain ⟨nb, hnb⟩ : ∃ nb, nb = ([] : List Cm).length := ⟨_, rfl⟩
    have hnn : na ≤ 1500 ∧ nb ≤ 1500 := by have := HL.out; (try simp at this); (try simp at hna); (try simp at hnb); omega
    have hnc : (as' ++ []).length = na + nb := by rw [List.length_append, hna, hnb]
    rw [hnc]
    rw [← hna]
    have HNN := Lib.hid (And.intro hna (And.intro hnb hnc))
    have hown0 : (w5.alloc (.cells #[] 36)).ownsRow w5.heap.size 36 13 (.slice (some ⟨w5.heap.size, 0, none⟩) 0 0) 0 [] := ⟨rfl, .inr ⟨w5.heap.size, 0, #[], rfl, Nat.le_refl _, heap_alloc_new w5 _, Nat.le_refl _, by unfold maxLen; omega, rfl, rfl⟩⟩
    have HO0 := Lib.hid hown0
    clear hna hnb hnc hown0 hsa hsb hsc hsd hb1 hb2 hb3 hb4 hb5 hb15 hsa5 hsb5 k1 k2 k3 k4 kS hzz xa1 xa2 xa3 xa4 xa5
    go_wp2_with (first
      | (at_builtin; refine wpList_append_own _ rfl (.tmp 63) (.tmp 64) 23 rfl w5.heap.size 36 i0 (.agg #[.int .u8 0, .int .i64 0, .int .i64 0, .slice none 0 0, .int .i64 0, .int .i64 0, .slice none 0 0, .bool false, .slice none 0 0, .slice none 0 0, .bool false, .bool false, .string ByteArray.empty]) 13 168 Tryd.underlying23 HI0.out.1 HI0.out.2.1 HI0.out.2.2.1 HI0.out.2.2.2 rfl (by decide) _ 0 [] rfl HO0.out ⟨ga, 0, none⟩ na ca xa.flatten rfl (by have := HXA.out.2.2.1; rw [HNN.out.1]; exact this) (fun j u hu => by have h := HXA.out.2.2.2.1 j u hu; exact (World.cell?_alloc_some w5 _ _ (by rw [h]; rfl)).trans h) HXA.out.2.2.2.2 (by unfold maxLen; omega) (by omega) (by simp) ?_; intro v6 w6 hown6 hgrow6 hnil6; obtain ⟨g6, cp6, rfl⟩ := owns_some hown6 (fun e => by have := (hnil6.1 e).1; cases this); clear hnil6; (try simp only [Nat.zero_add, List.nil_append] at hown6); have hcp6 := owns_capS hown6; have HO6 := Lib.hid (And.intro hown6 hgrow6); clear hown6 hgrow6))
    have hF : Below w5.heap.size w5 w6 := ((Below.refl _ w5).alloc (Nat.le_refl _) _).grown HO6.out.2 (by simp) (fun r hr => by cases hr; exact Nat.le_refl _)
    have hown := owns_base HO6.out.1 (Nat.zero_le _)
    have hBoth : ScrS 0 (as' ++ ([] : List Cm)) _ w6 := both_row (B1 := 0) (B2 := 0) (xa := xa) (xb := []) HXA.out.1 (fun i c x hc hx => (HXA.out.2.1 i c x hc hx).base (Nat.zero_le _)) rfl (fun i c x hc _ => by simp at hc) hF (Nat.le_refl _) (Nat.le_refl _) (by have h1 := HNN.out.1; have h2 := HNN.out.2.1; (try simp only [List.length_nil, List.flatten_nil, List.append_nil, List.nil_append, Nat.add_zero, Nat.zero_add] at hown); (try simp only [List.length_nil] at h1); (try simp only [List.length_nil] at h2); (try simp only [List.length_nil, List.flatten_nil, List.append_nil, Nat.add_zero]); rw [← h1]; exact hown)
    have hc5 := HC5.out
    rw [HNN.out.2.2] at hc5
    have kq1 := kSame _ 0 _ _ _ (hc5.1.below hF) hBoth
    refine kq1.mono ?_
    rintro e w8 ⟨rfl, hb8⟩
    have kq2 := kSame _ 0 _ _ _ ((hc5.2.1.below hF).below hb8) (hBoth.below hb8)
    have HE := Lib.hid ((hc5.2.2.trans (hF.mono hz5)).trans (hb8.mono (by have := hF.size; omega)))
    have hz8 : w.heap.size ≤ w8.heap.size := by have := hF.size; have := hb8.size; omega
    clear kq1 hF hown hBoth hc5 hb8
    go_wp2_with fail
    refine kq2.mono ?_
    rintro e w9 ⟨rfl, hb9⟩
    have HE9 := Lib.hid (HE.out.trans (hb9.mono hz8))
    go_wp2_with fail
    exact bodyPost_ret (results_tmp rfl _ _ _) rfl ⟨rfl, HE9.out⟩
  · obtain ⟨cc1, cc2, rfl⟩ := hsc.shape
    obtain ⟨dd1, dd2, rfl⟩ := hsd.shape
    have HXA := Lib.hid (And.intro xa1 (And.intro xa2 (And.intro xa3 (And.intro xa4 xa5))))
    have HXB := Lib.hid (And.intro xb1 (And.intro xb2 (And.intro xb3 (And.intro xb4 xb5))))
    have hz5 : w.heap.size ≤ w5.heap.size := by omega
    obtain ⟨na, hna⟩ : ∃ na, na = as'.length := ⟨_, rfl⟩
    obtain ⟨nb, hnb⟩ : ∃ nb, nb = bs.length := ⟨_, rfl⟩
    have hnn : na ≤ 1500 ∧ nb ≤ 1500 := by have := HL.out; (try simp at this); (try simp at hna); (try simp at hnb); omega
    have hnc : (as' ++ bs).length = na + nb := by rw [List.length_append, hna, hnb]
    rw [hnc]
    rw [← hna]
    rw [← hnb]
    have HNN := Lib.hid (And.intro hna (And.intro hnb hnc))
    have hown0 : (w5.alloc (.cells #[] 36)).ownsRow w5.heap.size 36 13 (.slice (some ⟨w5.heap.size, 0, none⟩) 0 0) 0 [] := ⟨rfl, .inr ⟨w5.heap.size, 0, #[], rfl, Nat.le_refl _, heap_alloc_new w5 _, Nat.le_refl _, by unfold maxLen; omega, rfl, rfl⟩⟩
    have HO0 := Lib.hid hown0
    clear hna hnb hnc hown0 hsa hsb hsc hsd hb1 hb2 hb3 hb4 hb5 hb15 hsa5 hsb5 k1 k2 k3 k4 kS hzz xa1 xa2 xa3 xa4 xa5 xb1 xb2 xb3 xb4 xb5
    go_wp2_with (first
      | (at_builtin; refine wpList_append_own _ rfl (.tmp 63) (.tmp 64) 23 rfl w5.heap.size 36 i0 (.agg #[.int .u8 0, .int .i64 0, .int .i64 0, .slice none 0 0, .int .i64 0, .int .i64 0, .slice none 0 0, .bool false, .slice none 0 0, .slice none 0 0, .bool false, .bool false, .string ByteArray.empty]) 13 168 Tryd.underlying23 HI0.out.1 HI0.out.2.1 HI0.out.2.2.1 HI0.out.2.2.2 rfl (by decide) _ 0 [] rfl HO0.out ⟨ga, 0, none⟩ na ca xa.flatten rfl (by have := HXA.out.2.2.1; rw [HNN.out.1]; exact this) (fun j u hu => by have h := HXA.out.2.2.2.1 j u hu; exact (World.cell?_alloc_some w5 _ _ (by rw [h]; rfl)).trans h) HXA.out.2.2.2.2 (by unfold maxLen; omega) (by omega) (by simp) ?_; intro v6 w6 hown6 hgrow6 hnil6; obtain ⟨g6, cp6, rfl⟩ := owns_some hown6 (fun e => by have := (hnil6.1 e).1; cases this); clear hnil6; (try simp only [Nat.zero_add, List.nil_append] at hown6); have hcp6 := owns_capS hown6; have hgrow8 : World.grownBy (w5.alloc (.cells #[] 36)) w6 (some w5.heap.size) := hgrow6; have HO6 := Lib.hid (And.intro hown6 hgrow8); clear hown6 hgrow6 hgrow8)
      | (at_builtin; go_loud (refine wpList_append_own _ rfl (.tmp 65) (.tmp 66) 23 rfl w5.heap.size 36 i0 (.agg #[.int .u8 0, .int .i64 0, .int .i64 0, .slice none 0 0, .int .i64 0, .int .i64 0, .slice none 0 0, .bool false, .slice none 0 0, .slice none 0 0, .bool false, .bool false, .string ByteArray.empty]) 13 168 Tryd.underlying23 HI0.out.1 HI0.out.2.1 HI0.out.2.2.1 HI0.out.2.2.2 rfl (by decide) _ na xa.flatten rfl HO6.out.1 ⟨gb, 0, none⟩ nb cb xb.flatten rfl (by have := HXB.out.2.2.1; rw [HNN.out.2.1]; exact this) (fun j u hu => by have h := HXB.out.2.2.2.1 j u hu; have e := (HO6.out.2.block gb (by simp; omega) (fun e => by have e2 : gb = w5.heap.size := Option.some.inj e; omega)).trans (Below.heap_alloc w5 (.cells #[] 36) gb hgb); have c : ∀ q : Addr, q.block = gb → w6.cell? q = w5.cell? q := (fun q hq => by subst hq; unfold World.cell?; rw [e]); exact (c _ (by unfold Addr.add; split <;> rfl)).trans h) HXB.out.2.2.2.2 (by unfold maxLen; omega) (by omega) (by have := HO6.out.2.size; simp at this; omega) ?_); intro v7 w7 hown7 hgrow7 hnil7; obtain ⟨g7, cp7, rfl⟩ := owns_some hown7 (fun e => by have := (hnil7.1 e).1; cases this); clear hnil7; (try simp only [Nat.zero_add, List.nil_append] at hown7); have HO7 := Lib.hid (And.intro hown7 hgrow7); clear hown7 hgrow7))
    have hF : Below w5.heap.size w5 w7 := (((Below.refl _ w5).alloc (Nat.le_refl _) _).grown HO6.out.2 (by simp) (fun r hr => by cases hr; exact Nat.le_refl _)).grown HO7.out.2 (by have := HO6.out.2.size; simp at this; omega) (fun r hr => own_base HO6.out.1 hr)
    have hown := owns_base HO7.out.1 (Nat.zero_le _)
    have hBoth : ScrS 0 (as' ++ bs) _ w7 := both_row (B1 := 0) (B2 := 0) (xa := xa) (xb := xb) HXA.out.1 (fun i c x hc hx => (HXA.out.2.1 i c x hc hx).base (Nat.zero_le _)) HXB.out.1 (fun i c x hc hx => (HXB.out.2.1 i c x hc hx).base (Nat.zero_le _)) hF (Nat.le_refl _) (Nat.le_refl _) (by have h1 := HNN.out.1; have h2 := HNN.out.2.1; (try simp only [List.length_nil, List.flatten_nil, List.append_nil, List.nil_append, Nat.add_zero, Nat.zero_add] at hown); (try simp only [List.length_nil] at h1); (try simp only [List.length_nil] at h2); (try simp only [List.length_nil, List.flatten_nil, List.append_nil, List.nil_append, Nat.add_zero, Nat.zero_add]); rw [← h1]; rw [← h2]; exact hown)
    have hc5 := HC5.out
    rw [HNN.out.2.2] at hc5
    have kq1 := kSame _ 0 _ _ _ (hc5.1.below hF) hBoth
    refine kq1.mono ?_
    rintro e w8 ⟨rfl, hb8⟩
    have kq2 := kSame _ 0 _ _ _ ((hc5.2.1.below hF).below hb8) (hBoth.below hb8)
    have HE := Lib.hid ((hc5.2.2.trans (hF.mono hz5)).trans (hb8.mono (by have := hF.size; omega)))
    have hz8 : w.heap.size ≤ w8.heap.size := by have := hF.size; have := hb8.size; omega
    clear kq1 hF hown hBoth hc5 hb8
    go_wp2_with fail
    refine kq2.mono ?_
    rintro e w9 ⟨rfl, hb9⟩
    have HE9 := Lib.hid (HE.out.trans (hb9.mono hz8))
    go_wp2_with fail
    exact bodyPost_ret (results_tmp rfl _ _ _) rfl ⟨rfl, HE9.out⟩
theorem between_list (s t : ByteArray) (c : UInt8) : (s ++ (⟨#[c]⟩ : ByteArray) ++ t).data.toList = s.data.toList ++ c :: t.data.toList := by simp
/-- The law's walk. -/
theorem sedApart_walk (s : ByteArray) (hs : s.size ≤ 140737488351232) (t : ByteArray) (ht : t.size ≤ 140737488351232) (w : World) :
    Calls Tryd.prog 3 #[.string s, .string t] w fun e w' => e = .returned (.bool true) ∧ Below w.heap.size w w' := by
  by_cases h : 1500 < s.size + t.size
  · exact apart_out s t w hs ht h
  · have hzs : s.data.toList.length = s.size := Array.length_toList
    have hzt : t.data.toList.length = t.size := Array.length_toList
    have k1 := fun w => read8_any s w (by omega)
    have k2 := fun w => read8_any t w (by omega)
    have ko : ∀ (B : Nat) (r : All) (e : Ending) (w' : World), Rd8 B r e w' → ∃ v y, e = .returned (.tuple #[v, .int .i64 y]) := fun B r e w' h1 => by
      unfold Rd8 at h1
      split at h1
      · obtain ⟨v, rfl, _⟩ := h1; exact ⟨v, 0, rfl⟩
      · exact ⟨_, _, h1⟩
    cases hr : sedR s.data.toList with
    | bad x =>
      rw [hr] at k1
      exact apart_bad1 s t x w (by omega) (sedR_bad0 hr) k1 fun w => (k2 w).mono fun e w' h1 => ⟨ko _ _ _ _ h1.1, h1.2⟩
    | ok as' =>
      rw [hr] at k1
      have k1' : ∀ w, Calls Tryd.prog 7 #[.string s] w fun e w' => (∃ v, e = .returned (.tuple #[v, .int .i64 0]) ∧ ScrS w.heap.size as' v w') ∧ Below w.heap.size w w' := k1
      have k1o : ∀ w, Calls Tryd.prog 7 #[.string s] w fun e w' => (∃ v, e = .returned (.tuple #[v, .int .i64 0])) ∧ Below w.heap.size w w' := fun w => (k1' w).mono fun e w' h1 => by obtain ⟨⟨v, h2, _⟩, h3⟩ := h1; exact ⟨⟨v, h2⟩, h3⟩
      cases hr2 : sedR t.data.toList with
      | bad x =>
        rw [hr2] at k2
        exact apart_bad2 s t x w (by omega) (sedR_bad0 hr2) k1o k2
      | ok bs =>
        rw [hr2] at k2
        have k2' : ∀ w, Calls Tryd.prog 7 #[.string t] w fun e w' => (∃ v, e = .returned (.tuple #[v, .int .i64 0]) ∧ ScrS w.heap.size bs v w') ∧ Below w.heap.size w w' := k2
        have k3 := fun w => read8_any (s ++ (⟨#[59]⟩ : ByteArray) ++ t) w (by rw [ByteArray.size_append, ByteArray.size_append]; show s.size + 1 + t.size ≤ _; omega)
        have k4 := fun w => read8_any (s ++ (⟨#[10]⟩ : ByteArray) ++ t) w (by rw [ByteArray.size_append, ByteArray.size_append]; show s.size + 1 + t.size ≤ _; omega)
        rw [between_list, sedR_two hr hr2 (by omega) 59 (.inl rfl)] at k3
        rw [between_list, sedR_two hr hr2 (by omega) 10 (.inr rfl)] at k4
        cases hb : boundD (as' ++ bs) with
        | true =>
          rw [hb] at k3 k4
          exact apart_in s t as' bs w (by omega) (sedR_ok hr) (sedR_ok hr2) k1' k2' k3 k4
        | false =>
          rw [hb] at k3 k4
          exact apart_name s t w (by omega) k1o (fun w => (k2' w).mono fun e w' h1 => by obtain ⟨⟨v, h2, _⟩, h3⟩ := h1; exact ⟨⟨v, h2⟩, h3⟩) k3 k4
end Go.Proofs.YtgceckejchdnlaaDoor
