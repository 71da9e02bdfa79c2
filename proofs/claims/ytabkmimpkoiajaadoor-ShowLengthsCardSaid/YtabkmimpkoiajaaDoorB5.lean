/- Packed texts: ShowLengthsWalk. What each of them proves stands above its theorems; the conditions stand in these. -/
import Derived.Test.YtabkmimpkoiajaaDoorB4
namespace Go.Proofs.YtabkmimpkoiajaaDoor
open Go.RowKit Go.Lib

theorem back_list (s : ByteArray) : (⟨s.data.toList.toArray⟩ : ByteArray) = s := ByteArray.ext (by simp)
theorem cnt_step (s : ByteArray) (k : Nat) (h : k < s.size) : (s.data.toList.take (k + 1)).count 39 = (s.data.toList.take k).count 39 + (if s[k] = 39 then 1 else 0) := by
  rw [take_snoc s k h, List.count_append, List.count_singleton]
  by_cases hc : s[k] = 39
  · simp [hc]
  · simp [hc]
theorem tl_ne {a b : ByteArray} (h : ¬ a = b) : (a.toList == b.toList) = false := by
  rw [beq_eq_false_iff_ne, toList_data, toList_data]
  intro e
  apply h
  rw [← back_list a, ← back_list b, e]
theorem quoteB_any (s : ByteArray) (w : World) (hl : s.size ≤ 1000000) (hm : Mx12 w) :
    Calls Tryd.prog 19 #[.string s] w fun e w' => e = .returned (.string ⟨(quoteL s.data.toList).toArray⟩) ∧ Below w.heap.size w w' := by
  have := quote_any s.data.toList w (by rw [Array.length_toList]; exact hl) hm
  rwa [back_list] at this
set_option maxHeartbeats 4000000 in
set_option maxRecDepth 20000 in
theorem showLengths_walk (s : ByteArray) (hs : s.size ≤ 140737488351232) (t : ByteArray) (ht : t.size ≤ 140737488351232) (w : World) (hm : Mx12 w) :
    Calls Tryd.prog 12 #[.string s, .string t] w fun e w' => e = .returned (.bool true) ∧ Below w.heap.size w w' := by
  have k0 := shownSw_any w hm
  have hI : IntKind.i64.wrap ((s.size : Int) + (t.size : Int)) = ((s.size + t.size : Nat) : Int) := by rw [IntWalk.i64_in _ (by omega)]; omega
  by_cases hz : s.size + t.size ≤ 2000
  · have hzI : ¬ (2000 : Int) < ((s.size + t.size : Nat) : Int) := by omega
    have hzd : decide ((2000 : Int) < ((s.size + t.size : Nat) : Int)) = false := decide_eq_false hzI
    have K1 := Lib.hid (fun w1 (hb : Below w.heap.size w w1) => quoteB_any s w1 (by omega) (hm.below hb))
    have K2 := Lib.hid (fun w1 (hb : Below w.heap.size w w1) => quoteB_any t w1 (by omega) (hm.below hb))
    have K3 := Lib.hid (fun w1 => refQuote_any s w1 (by omega))
    have hq : (⟨(quoteL s.data.toList).toArray⟩ : ByteArray).size = s.size + 2 + 3 * s.data.toList.count 39 := by rw [sizeS, quote_len, Array.length_toList]; rfl
    have hc0 : s.data.toList.count 39 ≤ s.size := by have := List.count_le_length (a := (39 : UInt8)) (l := s.data.toList); rwa [Array.length_toList] at this
    have hcs := Lib.hid (cnt_step s)
    have hct : ∀ k, (s.data.toList.take k).count 39 ≤ s.size := fun k => by
      have h1 : (s.data.toList.take k).count 39 ≤ (s.data.toList.take k).length := List.count_le_length
      rw [List.length_take, Array.length_toList] at h1
      have : s.data.size = s.size := rfl
      omega
    have HCT := Lib.hid hct
    have hall : s.data.toList.take s.size = s.data.toList := List.take_of_length_le (by rw [Array.length_toList]; exact Nat.le_refl _)
    have heq : Hid ((⟨(quoteL s.data.toList).toArray⟩ : ByteArray) = ⟨(quoteL t.data.toList).toArray⟩ ↔ s = t) := by
      constructor
      · intro h
        have h2 := quote_inj (congrArg (fun x : ByteArray => x.data.toList) h)
        rw [← back_list s, ← back_list t, h2]
      · intro h; rw [h]
    generalize (⟨(quoteL s.data.toList).toArray⟩ : ByteArray) = Q at *
    generalize (⟨(quoteL t.data.toList).toArray⟩ : ByteArray) = R at *
    have HQ := Lib.hid (And.intro hq (And.intro hc0 hall))
    clear hm hq hc0 hall hct hs ht
    go_enter Tryd.func12, Tryd.ntmps12
    go_wp2_with (go_at_call 17; (with_reducible refine k0.mono ?_); rintro e w1 ⟨rfl, h1⟩; have H1 := Lib.hid h1; clear h1 k0)
    go_loopg [6, 7] (s.size + 1) (fun g v6 v7 wr => ∃ k : Nat, v6 = .int .i64 ((s.data.toList.take k).count 39 : Nat) ∧ v7 = .int .i64 k ∧ k ≤ s.size ∧ Hid (g = s.size + 1 - k) ∧ wr = w1)
    case atStart => exact ⟨0, rfl, rfl, by omega, rfl, rfl⟩
    case round =>
      obtain ⟨k, rfl, rfl, hk, HK, rfl⟩ := hrel
      by_cases hlt : k < s.size
      · have hltI : (k : Int) < (s.size : Int) := by omega
        have hst := hcs.out k hlt
        have hcb := HCT.out k
        have hI2 : IntKind.i64.wrap ((k : Int) + 1) = ((k + 1 : Nat) : Int) := by rw [IntWalk.i64_in _ (by omega)]; omega
        obtain ⟨c, hc⟩ : ∃ c, s[k] = c := ⟨_, rfl⟩
        rw [hc] at hst
        obtain ⟨a, ha⟩ : ∃ a, a = (s.data.toList.take k).count 39 := ⟨_, rfl⟩
        rw [← ha] at hst hcb ⊢
        have hI3 : IntKind.i64.wrap ((a : Int) + 1) = ((a + 1 : Nat) : Int) := by rw [IntWalk.i64_in _ (by omega)]; omega
        by_cases h39 : c = 39
        · subst h39
          rw [if_pos rfl] at hst
          have HT := Lib.hid hst
          clear hst ha hcb
          go_wp2
          go_roundg (s.size - k)
          case measure => have := HK.out; omega
          case rel => exact ⟨k + 1, by rw [HT.out]; try go_num, by go_num, by omega, by show _ = _; omega, rfl⟩
        · rw [if_neg h39] at hst
          have hne : ¬ (c.toNat : Int) = 39 := fun e => h39 (by apply UInt8.toNat_inj.1; show c.toNat = 39; omega)
          have hned : decide ((c.toNat : Int) = 39) = false := decide_eq_false hne
          have HT := Lib.hid hst
          clear hst ha hcb h39 hI3
          go_wp2
          go_roundg (s.size - k)
          case measure => have := HK.out; omega
          case rel => exact ⟨k + 1, by rw [HT.out]; rfl, by go_num, by omega, by show _ = _; omega, rfl⟩
      · have hd : decide ((k : Int) < (s.size : Int)) = false := by simp; omega
        obtain rfl : k = s.size := by omega
        obtain ⟨hq, hc0, hall⟩ := HQ.out
        rw [hall]
        obtain ⟨n, hn⟩ : ∃ n, n = s.data.toList.count 39 := ⟨_, rfl⟩
        rw [← hn] at hq hc0 ⊢
        have hJ1 : IntKind.i64.wrap ((s.size : Int) + 2) = ((s.size + 2 : Nat) : Int) := by rw [IntWalk.i64_in _ (by omega)]; omega
        have hJ2 : IntKind.i64.wrap (3 * (n : Int)) = ((3 * n : Nat) : Int) := by rw [IntWalk.i64_in _ (by omega)]; omega
        have hJ3 : wrap64 ((s.size : Int) + 2 + 3 * (n : Int)) = (Q.size : Int) := (IntWalk.wrap64_in _ ⟨by omega, by omega⟩).trans (by omega)
        have k1 := K1.out _ H1.out
        clear hall hn hq hc0
        by_cases hst : s = t
        · have hQR := heq.out.2 hst
          subst hst
          subst hQR
          go_wp2_with (first
            | (go_at_call 19; (with_reducible refine k1.mono ?_); rintro e w2 ⟨rfl, h2⟩; have H2 := Lib.hid (H1.out.trans (h2.mono H1.out.size)); clear h2 k1; have k2 := K2.out w2 H2.out)
            | (go_at_call 19; (with_reducible refine k2.mono ?_); rintro e w3 ⟨rfl, h3⟩; have H3 := Lib.hid (H2.out.trans (h3.mono H2.out.size)); clear h3 k2; have k3 := K3.out w3)
            | (go_at_call 20; (with_reducible refine k3.mono ?_); rintro e w4 ⟨rfl, rfl⟩; clear k3))
          exact bodyPost_ret (results_tmp rfl _ _ _) rfl ⟨rfl, H3.out⟩
        · have hQR : ¬ Q = R := fun h => hst (heq.out.1 h)
          have hd3 : (Q.toList == R.toList) = false := tl_ne hQR
          have hd4 : (s.toList == t.toList) = false := tl_ne hst
          go_wp2_with (first
            | (go_at_call 19; (with_reducible refine k1.mono ?_); rintro e w2 ⟨rfl, h2⟩; have H2 := Lib.hid (H1.out.trans (h2.mono H1.out.size)); clear h2 k1; have k2 := K2.out w2 H2.out)
            | (go_at_call 19; (with_reducible refine k2.mono ?_); rintro e w3 ⟨rfl, h3⟩; have H3 := Lib.hid (H2.out.trans (h3.mono H2.out.size)); clear h3 k2; have k3 := K3.out w3)
            | (go_at_call 20; (with_reducible refine k3.mono ?_); rintro e w4 ⟨rfl, rfl⟩; clear k3))
          exact bodyPost_ret (results_tmp rfl _ _ _) rfl ⟨rfl, H3.out⟩
  · have hzI : (2000 : Int) < ((s.size + t.size : Nat) : Int) := by omega
    clear hm hz
    go_enter Tryd.func12, Tryd.ntmps12
    go_wp2_with (go_at_call 17; (with_reducible refine k0.mono ?_); rintro e w1 ⟨rfl, h1⟩; have H1 := Lib.hid h1; clear h1 k0)
    exact bodyPost_ret (results_tmp rfl _ _ _) rfl ⟨rfl, H1.out⟩
end Go.Proofs.YtabkmimpkoiajaaDoor
