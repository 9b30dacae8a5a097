/- Plain numbers: the boxes of a label's children. Nothing of the program is named here but in the imports. -/
import Derived.Test.YtdhcilnkimmblaaMorKit
namespace Go.Proofs.Ytdhcilnkimmblaa
open Go.RowKit Go.Sort

theorem covers_box {n s z : Nat} (hs : s < 18446744073709551616) (hi : lowB n s = true) (hz : z < 18446744073709551616) : decide (cutN n z = s) = insideB (evX s) (evX (s + (gap n - 1))) (odY s) (odY (s + (gap n - 1))) z := by
  have hr := box_rises hi
  have hb := box_iff (64 - n) (by omega) (lowB_iff.1 hi) hs hz
  rw [show 2 ^ (64 - n) = gap n from rfl] at hb
  have hc : cutN n z = s ↔ z / gap n = s / gap n := by
    have h1 := cutN_mul n z
    have h2 := cutN_mul n s
    rw [cutN_self n s (lowB_iff.1 hi)] at h2
    constructor
    · intro e
      rw [h1] at e
      have := congrArg (fun x => x / gap n) e
      simp only [Nat.mul_div_cancel _ (gap_pos n)] at this
      exact this
    · intro e; rw [h1, e]; exact h2.symm
  rw [Bool.eq_iff_iff, decide_eq_true_eq, hc, hb, insideB_iff]
  unfold inBox
  omega
theorem box_own {n s : Nat} (hi : lowB n s = true) : isR (evX s) (evX (s + (gap n - 1))) (odY s) (odY (s + (gap n - 1))) = true ∧ (insideB (evX s) (evX (s + (gap n - 1))) (odY s) (odY (s + (gap n - 1))) s && insideB (evX s) (evX (s + (gap n - 1))) (odY s) (odY (s + (gap n - 1))) (s + (gap n - 1))) = true := by
  have hr := box_rises hi
  refine ⟨isR_iff.2 hr, ?_⟩
  rw [Bool.and_eq_true, insideB_iff, insideB_iff]
  omega
/-- the sides of a child's box, told by the label's -/
theorem half_box {n s : Nat} (hn : n < 64) (hi : lowB n s = true) :
    (evX (s + (gap (n + 1) - 1)) + 1 = evX (s + gap (n + 1)) ∧ odY (s + gap (n + 1)) = odY s ∧ odY (s + (gap (n + 1) - 1)) = odY (s + (gap n - 1)) ∧ evX (s + (gap (n + 1) - 1)) < evX (s + (gap n - 1))) ∨
    (odY (s + (gap (n + 1) - 1)) + 1 = odY (s + gap (n + 1)) ∧ evX (s + gap (n + 1)) = evX s ∧ evX (s + (gap (n + 1) - 1)) = evX (s + (gap n - 1)) ∧ odY (s + (gap (n + 1) - 1)) < odY (s + (gap n - 1))) := by
  obtain ⟨k, hk⟩ : ∃ k, 64 - (n + 1) = k := ⟨_, rfl⟩
  have hg1 : gap (n + 1) = 2 ^ k := by unfold gap; rw [hk]
  have hg : gap n = 2 ^ (k + 1) := by unfold gap; rw [← hk]; congr 1; omega
  have hm := lowB_iff.1 hi
  rw [hg] at hm
  have hp : 0 < 2 ^ k := Nat.pow_pos (by omega)
  have e2 : 2 ^ (k + 1) = 2 * 2 ^ k := by rw [Nat.pow_succ, Nat.mul_comm]
  have hm0 : s % 2 ^ k = 0 := by
    have h1 := Nat.mod_mod_of_dvd s (show 2 ^ k ∣ 2 ^ (k + 1) from ⟨2, by rw [e2, Nat.mul_comm]⟩)
    rw [hm, Nat.zero_mod] at h1
    exact h1.symm
  have hm1 : (s + 2 ^ k) % 2 ^ k = 0 := by rw [Nat.add_mod_right, hm0]
  have a1 := evX_full s (k + 1) (by omega) hm
  have a2 := odY_full s (k + 1) (by omega) hm
  have b1 := evX_full s k (by omega) hm0
  have b2 := odY_full s k (by omega) hm0
  have c1 := evX_full (s + 2 ^ k) k (by omega) hm1
  have c2 := odY_full (s + 2 ^ k) k (by omega) hm1
  rw [show s + 2 ^ k + (2 ^ k - 1) = s + (2 ^ (k + 1) - 1) by omega] at c1 c2
  rw [hg1, hg]
  rcases Nat.mod_two_eq_zero_or_one k with h | h
  · obtain ⟨j, hj⟩ : ∃ j, k = 2 * j := ⟨k / 2, by omega⟩
    rw [show (k + 1 + 1) / 2 = j + 1 by omega] at a1
    rw [show (k + 1) / 2 = j by omega] at a2 b1 c1
    rw [show k / 2 = j by omega] at b2 c2
    have hpj : 0 < 2 ^ j := Nat.pow_pos (by omega)
    have ej : 2 ^ (j + 1) = 2 * 2 ^ j := by rw [Nat.pow_succ, Nat.mul_comm]
    left
    omega
  · obtain ⟨j, hj⟩ : ∃ j, k = 2 * j + 1 := ⟨k / 2, by omega⟩
    rw [show (k + 1 + 1) / 2 = j + 1 by omega] at a1
    rw [show (k + 1) / 2 = j + 1 by omega] at a2 b1 c1
    rw [show k / 2 = j by omega] at b2 c2
    have hpj : 0 < 2 ^ j := Nat.pow_pos (by omega)
    have ej : 2 ^ (j + 1) = 2 * 2 ^ j := by rw [Nat.pow_succ, Nat.mul_comm]
    right
    omega
end Go.Proofs.Ytdhcilnkimmblaa
