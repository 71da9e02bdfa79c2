/- Package class's Read, at every text: what it answers. Condition: the text is shorter than 2^46. -/
import Derived.Test.YtgokkdalfkinnaaClsReadAny
import Derived.Test.YtgokkdalfkinnaaClsListed
namespace Go.Proofs.Ytgokkdalfkinnaa
open Go.RowKit Go.Lib

theorem read_any (s : ByteArray) (w : World) (hs : s.size ≤ 70000000000000) :
    Calls Try.prog 94 #[.string s] w fun e w' => e = readE (readD s.data.toList) ∧ Below w.heap.size w w' := by
  have kl : ∀ k, ListedK s (w.heap.size + 1 + 1) w.heap.size k (listedD (s.data.toList.drop k) zeroK k) := fun k Z hr => listed_any s _ _ k Z hr hs _ rfl
  have e0 : s.data.toList.head? = s.data.toList[0]? := List.head?_eq_getElem?
  unfold readD
  rw [e0]
  by_cases h91 : s.data.toList[0]? = some 91
  · rw [if_pos h91]
    by_cases h94 : s.data.toList[1]? = some 94
    · rw [if_pos h94]
      have k2 := kl 2
      cases hR : listedD (s.data.toList.drop 2) zeroK 2 with
      | none =>
        rw [hR] at k2
        exact read_bad2 s w hs h91 h94 k2
      | some r =>
        obtain ⟨K, n⟩ := r
        rw [hR] at k2
        exact read_good2 s K n w hs h91 h94 k2
    · rw [if_neg h94]
      have k1 := kl 1
      cases hR : listedD (s.data.toList.drop 1) zeroK 1 with
      | none =>
        rw [hR] at k1
        exact read_bad1 s w hs h91 h94 k1
      | some r =>
        obtain ⟨K, n⟩ := r
        rw [hR] at k1
        exact read_good1 s K n w hs h91 h94 k1
  · rw [if_neg h91]
    exact read_none s w hs h91
end Go.Proofs.Ytgokkdalfkinnaa
