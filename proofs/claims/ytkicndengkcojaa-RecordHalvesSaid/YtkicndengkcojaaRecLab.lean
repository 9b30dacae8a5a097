/- Children of labels, in plain numbers. -/
import Derived.Test.YtkicndengkcojaaPkA
namespace Go.Proofs.Ytkicndengkcojaa
open Go.RowKit
theorem chB_low {n c bit : Nat} (hn : n < 64) (hi : lowB n c = true) : lowB (n + 1) (chB n c bit) = true := by
  have h := lowB_iff.1 hi
  have hs := gap_succ n hn
  refine lowB_iff.2 ?_
  have h2 : c % gap (n + 1) = 0 := by
    rw [hs, Nat.mul_comm] at h
    have := Nat.mod_mul_right_mod c (gap (n + 1)) 2
    rw [h] at this
    simpa using this.symm
  unfold chB
  split
  · exact h2
  · rw [Nat.add_mod_right]; exact h2
theorem chB_lt {n c bit : Nat} (hn : n < 64) (hc : c < 18446744073709551616) (hi : lowB n c = true) : chB n c bit < 18446744073709551616 := by
  have h1 := lab_room hc hi
  have hs := gap_succ n hn
  have hp := gap_pos (n + 1)
  unfold chB
  split <;> omega
end Go.Proofs.Ytkicndengkcojaa
