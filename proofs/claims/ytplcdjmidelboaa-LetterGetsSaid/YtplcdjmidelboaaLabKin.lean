/- The program's calls on labels: Child, Parent, Sibling, Span, Next. -/
import Derived.Test.YtplcdjmidelboaaLabMem
namespace Go.Proofs.Ytplcdjmidelboaa
open Go.RowKit Go.Sort

theorem lowB_iff {n b : Nat} : lowB n b = true ↔ b % gap n = 0 := by unfold lowB; simp
theorem lab_room {n b : Nat} (hb : b < 18446744073709551616) (hi : lowB n b = true) : b + gap n ≤ 18446744073709551616 := by
  have h := lowB_iff.1 hi
  have h1 := Nat.div_add_mod b (gap n)
  rcases Nat.lt_or_ge 64 n with h64 | h64
  · have : gap n = 1 := by unfold gap; rw [show 64 - n = 0 by omega]
    omega
  · have h2 := gap_mul n h64
    have hg := gap_pos n
    generalize gap n = g at *
    generalize 2 ^ n = p at *
    have h3 : g * (b / g) < g * p := by rw [Nat.mul_comm g p]; omega
    have h4 := Nat.lt_of_mul_lt_mul_left h3
    have h5 := Nat.mul_le_mul_left g h4
    rw [Nat.mul_succ, Nat.mul_comm g p] at h5
    omega
theorem or_child0 (b : Nat) (hb : b < 18446744073709551616) : bits .or .u64 (b : Int) 0 = (b : Int) := by
  have := u64_or_nat b 0 hb (by omega)
  rw [show ((0 : Nat) : Int) = 0 from rfl] at this
  rw [this, Nat.or_zero]
theorem or_child1 (n b : Nat) (hn : n < 64) (hb : b < 18446744073709551616) (hi : lowB n b = true) : bits .or .u64 (b : Int) (IntKind.u64.wrap (2 ^ (63 - n))) = ((b + gap (n + 1) : Nat) : Int) := by
  have hg := gap_le (n + 1)
  have hs := gap_succ n hn
  have hl := gap_le n
  have hp := gap_pos (n + 1)
  have e : (2 : Int) ^ (63 - n) = ((gap (n + 1) : Nat) : Int) := by
    unfold gap; rw [show 64 - (n + 1) = 63 - n by omega, Int.natCast_pow]; rfl
  rw [e, IntKind.wrap_u64, show ((gap (n + 1) : Nat) : Int) % 18446744073709551616 = ((gap (n + 1) : Nat) : Int) by omega, u64_or_nat b (gap (n + 1)) hb (by omega)]
  rw [nat_join (64 - n) b (gap (n + 1)) (lowB_iff.1 hi) (by show gap (n + 1) < gap n; omega)]

end Go.Proofs.Ytplcdjmidelboaa
