/- The statement DecBack, walked. Condition: the library's table of powers of ten holds what its text lays. -/
import Derived.Test.YtokfkckfclnoaaaDoorDecShown
namespace Go.Proofs.YtokfkckfclnoaaaDoor
open Go.RowKit

theorem text_len (n : Int) (hn : -9223372036854775808 ≤ n ∧ n ≤ 9223372036854775807) : (textL n).length ≤ 40 := by
  have h1 := decDigits_len (n.natAbs / 1000000) (by omega)
  have h2 : (stripZ (frac 6 (n.natAbs % 1000000))).length ≤ 6 := by
    obtain ⟨k, hk, _⟩ := stripZ_fill (frac 6 (n.natAbs % 1000000))
    have := congrArg List.length hk
    rw [frac_length, List.length_append] at this
    omega
  have h3 : (textU n.natAbs).length ≤ 30 := by
    unfold textU
    split
    · rw [List.append_nil]; omega
    · rw [List.length_append, List.length_cons]; omega
  unfold textL
  split
  · rw [List.length_cons]; omega
  · omega
/-- A number's text behind blanks, and something behind it: read as it. -/
theorem read_back (n : Int) (k : Nat) (t : ByteArray) (w : World) (hn : -9223372036854775808 ≤ n ∧ n ≤ 9223372036854775807) (hk : k ≤ 10) (ht : t.size ≤ 1000) (hm : noFg t.data.toList) (hmp : t.data.toList.head? ≠ some 46) :
    Calls Tryd.prog 13 #[.string (ba (List.replicate k 32 ++ textL n) ++ t)] w fun e w' => e = .returned (.tuple #[.int .i64 n, .int .i64 ((ba (List.replicate k 32 ++ textL n)).size : Int), .int .i64 0]) ∧ Below w.heap.size w w' := by
  have hl := text_len n hn
  have hsz : (ba (List.replicate k 32 ++ textL n) ++ t).size ≤ 30000000000000 := by
    rw [ByteArray.size_append, ba_len, List.length_append, List.length_replicate]; omega
  have h := read_any (ba (List.replicate k 32 ++ textL n) ++ t) w hsz
  have hd : (ba (List.replicate k 32 ++ textL n) ++ t).data.toList = List.replicate k 32 ++ textL n ++ t.data.toList := by
    rw [ByteArray.data_append, Array.toList_append]; rfl
  rw [hd] at h
  unfold readE at h
  rw [read_text n k t.data.toList hn hm hmp, ← ba_len] at h
  exact h

end Go.Proofs.YtokfkckfclnoaaaDoor
