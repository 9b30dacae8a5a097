/- Plain numbers: labels as a length and bits, and texts of bits. Nothing of the program is named here. -/
import Derived.WalkKit
import Derived.Laws.BitsAllLaws
namespace Go.Proofs.Ytplcdjmidelboaa
open Go.RowKit

/-- how many keys a label of n bits covers -/
def gap (n : Nat) : Nat := 2 ^ (64 - n)
theorem gap_pos (n : Nat) : 0 < gap n := Nat.pow_pos (by omega)
theorem gap_le (n : Nat) : gap n ≤ 18446744073709551616 := by
  unfold gap
  exact Nat.le_trans (Nat.pow_le_pow_right (by omega) (show 64 - n ≤ 64 by omega)) (by decide)
theorem gap_zero : gap 0 = 18446744073709551616 := by decide
theorem gap_full : gap 64 = 1 := by decide
theorem gap_succ (n : Nat) (h : n < 64) : gap n = 2 * gap (n + 1) := by
  unfold gap
  rw [show 64 - n = (64 - (n + 1)) + 1 by omega, Nat.pow_succ, Nat.mul_comm]
theorem gap_mul (n : Nat) (h : n ≤ 64) : 2 ^ n * gap n = 18446744073709551616 := by
  unfold gap; rw [← Nat.pow_add, show n + (64 - n) = 64 by omega]
/-- a number's n highest bits of 64 -/
def cutN (n v : Nat) : Nat := v - v % gap n
theorem cutN_le (n v : Nat) : cutN n v ≤ v := Nat.sub_le _ _
theorem cutN_mod (n v : Nat) : cutN n v % gap n = 0 := by
  unfold cutN
  have h1 := Nat.div_add_mod v (gap n)
  rw [show v - v % gap n = gap n * (v / gap n) by omega]
  exact Nat.mul_mod_right _ _
theorem cutN_add (n v : Nat) : cutN n v + v % gap n = v := by
  unfold cutN
  have := Nat.mod_le v (gap n)
  omega
theorem cutN_self (n v : Nat) (h : v % gap n = 0) : cutN n v = v := by unfold cutN; omega
theorem cutN_mul (n v : Nat) : cutN n v = v / gap n * gap n := by
  unfold cutN
  have h1 := Nat.div_add_mod v (gap n)
  rw [Nat.mul_comm]; omega

/-- the operations on bits, as the walk has them -/
theorem shr_all (n : Nat) (h : n ≤ 64) : 18446744073709551615 / 2 ^ n = gap n - 1 := by
  have h1 := gap_mul n h
  have hg := gap_pos n
  have hp : 0 < 2 ^ n := Nat.pow_pos (by omega)
  generalize gap n = g at *
  generalize 2 ^ n = p at *
  have e : 18446744073709551615 = (p - 1) + p * (g - 1) := by
    have h2 : p * 1 ≤ p * g := Nat.mul_le_mul_left p hg
    rw [Nat.mul_sub, h1]; omega
  rw [e, Nat.add_mul_div_left _ _ hp, Nat.div_eq_of_lt (by omega), Nat.zero_add]
theorem and_low (n b : Nat) : b &&& (gap n - 1) = b % gap n := by
  unfold gap; exact Nat.and_two_pow_sub_one_eq_mod _ _
theorem or_low (n b : Nat) (h : b % gap n = 0) : b ||| (gap n - 1) = b + (gap n - 1) := by
  have := gap_pos n
  exact nat_join (64 - n) b (gap n - 1) h (by unfold gap at *; omega)
theorem andNot_low (n b : Nat) (hb : b < 18446744073709551616) : b &&& (18446744073709551615 - (gap n - 1)) = cutN n b := by
  have h1 : b &&& (gap n - 1) = b % gap n := and_low n b
  have hg := gap_pos n
  have hg2 := gap_le n
  have e : 18446744073709551615 - (gap n - 1) = 18446744073709551615 ^^^ (gap n - 1) := by
    have h := congrArg BitVec.toNat (BitVec.allOnes_xor (x := BitVec.ofNat 64 (gap n - 1)))
    rw [BitVec.toNat_xor, BitVec.toNat_not, BitVec.toNat_allOnes, BitVec.toNat_ofNat, Nat.mod_eq_of_lt (by omega)] at h
    simpa using h.symm
  rw [e, Nat.and_xor_distrib_left]
  have e2 : b &&& 18446744073709551615 = b := by
    have := Nat.and_two_pow_sub_one_eq_mod b 64
    rw [show (2 : Nat) ^ 64 - 1 = 18446744073709551615 from rfl] at this
    rw [this, Nat.mod_eq_of_lt hb]
  rw [e2, h1]
  have hc := cutN_add n b
  have hj : cutN n b ||| (b % gap n) = cutN n b + b % gap n := nat_join (64 - n) _ _ (cutN_mod n b) (Nat.mod_lt _ hg)
  have hd : cutN n b &&& (b % gap n) = 0 := by
    have h2 : (b % gap n) &&& (gap n - 1) = b % gap n := by rw [and_low, Nat.mod_mod]
    rw [← h2, Nat.and_comm (b % gap n), ← Nat.and_assoc, and_low, cutN_mod, Nat.zero_and]
  conv => lhs; lhs; rw [← hc, ← hj]
  apply Nat.eq_of_testBit_eq
  intro i
  have hdi : (cutN n b &&& (b % gap n)).testBit i = false := by rw [hd]; simp
  rw [Nat.testBit_and] at hdi
  rw [Nat.testBit_xor, Nat.testBit_or]
  revert hdi
  cases (cutN n b).testBit i <;> cases (b % gap n).testBit i <;> simp
end Go.Proofs.Ytplcdjmidelboaa
