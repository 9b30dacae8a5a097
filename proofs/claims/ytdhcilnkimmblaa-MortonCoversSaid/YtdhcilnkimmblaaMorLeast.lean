/- Plain numbers: the least key of a rectangle that is not below one, found bit by bit. Nothing of the program is named here. -/
import Derived.Test.YtdhcilnkimmblaaMorBits
namespace Go.Proofs.Ytdhcilnkimmblaa
open Go.RowKit

/-- v is the least key, not below z, of those that are so; or there is none -/
def LeastAt (P : Nat → Prop) (z v : Nat) (ok : Bool) : Prop :=
  (ok = true ∧ (z ≤ v ∧ v < 18446744073709551616) ∧ P v ∧ ∀ u, u < 18446744073709551616 → P u → z ≤ u → v ≤ u) ∨
  (ok = false ∧ v = 0 ∧ ∀ u, u < 18446744073709551616 → P u → u < z)
theorem LeastAt.uniq {P : Nat → Prop} {z v v' : Nat} {ok ok' : Bool} (h : LeastAt P z v ok) (h' : LeastAt P z v' ok') : v = v' ∧ ok = ok' := by
  rcases h with ⟨rfl, ⟨h1, h2⟩, h3, h4⟩ | ⟨rfl, rfl, h4⟩ <;> rcases h' with ⟨rfl, ⟨g1, g2⟩, g3, g4⟩ | ⟨rfl, rfl, g4⟩
  · exact ⟨Nat.le_antisymm (h4 _ g2 g3 g1) (g4 _ h2 h3 h1), rfl⟩
  · have := g4 _ h2 h3; omega
  · have := h4 _ g2 g3; omega
  · exact ⟨rfl, rfl⟩
theorem least_of {P : Nat → Prop} : ∀ (n : Nat) {u : Nat}, u < n → P u → ∃ v, v ≤ u ∧ P v ∧ ∀ x, x < v → ¬ P x
  | 0, u, h, _ => by omega
  | n + 1, u, h, hp => by
    by_cases hx : ∃ x, x < u ∧ P x
    · obtain ⟨x, hx, hpx⟩ := hx
      obtain ⟨v, h1, h2, h3⟩ := least_of n (show x < n by omega) hpx
      exact ⟨v, by omega, h2, h3⟩
    · exact ⟨u, Nat.le_refl _, hp, fun x hxu hpx => hx ⟨x, hxu, hpx⟩⟩
theorem LeastAt.exists (P : Nat → Prop) (z : Nat) : ∃ v ok, LeastAt P z v ok := by
  by_cases h : ∃ u, u < 18446744073709551616 ∧ P u ∧ z ≤ u
  · obtain ⟨u, hu, hp, hz⟩ := h
    obtain ⟨v, h1, ⟨h2, h3⟩, h4⟩ := least_of (P := fun u => P u ∧ z ≤ u) (u + 1) (Nat.lt_succ_self u) ⟨hp, hz⟩
    exact ⟨v, true, .inl ⟨rfl, ⟨h3, by omega⟩, h2, fun x hx hpx hzx => Nat.le_of_not_lt fun hlt => h4 x hlt ⟨hpx, hzx⟩⟩⟩
  · exact ⟨0, false, .inr ⟨rfl, rfl, fun u hu hp => Nat.lt_of_not_le fun hz => h ⟨u, hu, hp, hz⟩⟩⟩

/-! the masks -/
theorem not_bit {x : Nat} (hx : x < 18446744073709551616) (j : Nat) : (18446744073709551615 - x).testBit j = (decide (j < 64) && !x.testBit j) := by
  have h := Nat.testBit_two_pow_sub_succ (x := x) (n := 64) hx j
  rw [← h]
  congr 1
  omega
theorem xmask_bit (j : Nat) : Nat.testBit 6148914691236517205 j = (decide (j < 64) && decide (j % 2 = 0)) := by
  have e : 6148914691236517205 = wvZ (2 ^ 32 - 1) 0 := by decide +kernel
  rw [e]
  unfold wvZ
  rw [wv_bit, Nat.testBit_two_pow_sub_one]
  by_cases h2 : j % 2 = 0
  · rw [if_pos h2, Bool.eq_iff_iff]; simp; omega
  · rw [if_neg h2, decide_eq_false h2]; simp
theorem ymask_bit (j : Nat) : Nat.testBit 12297829382473034410 j = (decide (j < 64) && decide (j % 2 = 1)) := by
  have e : 12297829382473034410 = wvZ 0 (2 ^ 32 - 1) := by decide +kernel
  rw [e]
  unfold wvZ
  rw [wv_bit, Nat.testBit_two_pow_sub_one]
  by_cases h2 : j % 2 = 0
  · rw [if_pos h2, decide_eq_false (show ¬ j % 2 = 1 by omega)]; simp
  · rw [if_neg h2, Bool.eq_iff_iff]; simp; omega
/-- the lower bits of the same number -/
def belowN (k : Nat) : Nat := if k % 2 = 0 then (2 ^ k - 1) &&& 6148914691236517205 else (2 ^ k - 1) &&& 12297829382473034410
theorem belowN_bit {k : Nat} (hk : k < 64) (j : Nat) : (belowN k).testBit j = decide (j < k ∧ j % 2 = k % 2) := by
  unfold belowN
  rw [Bool.eq_iff_iff, decide_eq_true_eq]
  split
  · rw [Nat.testBit_and, Nat.testBit_two_pow_sub_one, xmask_bit]; simp; omega
  · rw [Nat.testBit_and, Nat.testBit_two_pow_sub_one, ymask_bit]; simp; omega
theorem belowN_lt (k : Nat) : belowN k < 18446744073709551616 := by
  unfold belowN
  split
  · exact Nat.lt_of_le_of_lt Nat.and_le_right (by decide)
  · exact Nat.lt_of_le_of_lt Nat.and_le_right (by decide)
/-- the least key of the upper half, the greatest of the lower one -/
def upN (lo k : Nat) : Nat := (lo &&& (18446744073709551615 - belowN k)) ||| 2 ^ k
def lwN (hi k : Nat) : Nat := (hi &&& (18446744073709551615 - 2 ^ k)) ||| belowN k
theorem two_lt {k : Nat} (hk : k < 64) : 2 ^ k < 18446744073709551616 := by
  have : 2 ^ k ≤ 2 ^ 63 := Nat.pow_le_pow_right (by omega) (by omega)
  omega
theorem upN_lt {lo k : Nat} (hk : k < 64) : upN lo k < 18446744073709551616 := by
  unfold upN
  exact Nat.or_lt_two_pow (n := 64) (Nat.and_lt_two_pow (n := 64) _ (Nat.lt_of_le_of_lt (Nat.sub_le _ _) (by decide))) (two_lt hk)
theorem lwN_lt {hi k : Nat} : lwN hi k < 18446744073709551616 := by
  unfold lwN
  exact Nat.or_lt_two_pow (n := 64) (Nat.and_lt_two_pow (n := 64) _ (Nat.lt_of_le_of_lt (Nat.sub_le _ _) (by decide))) (belowN_lt k)
theorem upN_bit {lo k : Nat} (hk : k < 64) (hlo : lo < 18446744073709551616) (j : Nat) : (upN lo k).testBit j = (decide (j = k) || (lo.testBit j && !decide (j < k ∧ j % 2 = k % 2))) := by
  unfold upN
  rw [Nat.testBit_or, Nat.testBit_and, not_bit (belowN_lt k), belowN_bit hk, Nat.testBit_two_pow]
  by_cases h : j < 64
  · rw [decide_eq_true h, Bool.true_and, Bool.or_comm]
    congr 1
    rw [Bool.eq_iff_iff]; simp; omega
  · rw [big_bit hlo (by omega), decide_eq_false (show ¬ j = k by omega), decide_eq_false (show ¬ k = j by omega)]; simp
theorem lwN_bit {hi k : Nat} (hk : k < 64) (hhi : hi < 18446744073709551616) (j : Nat) : (lwN hi k).testBit j = ((hi.testBit j && !decide (j = k)) || decide (j < k ∧ j % 2 = k % 2)) := by
  unfold lwN
  rw [Nat.testBit_or, Nat.testBit_and, not_bit (two_lt hk), belowN_bit hk, Nat.testBit_two_pow]
  congr 1
  by_cases h : j < 64
  · rw [decide_eq_true h, Bool.true_and]
    congr 2
    rw [Bool.eq_iff_iff]; simp; omega
  · rw [big_bit hhi (by omega)]; simp
theorem upper_bit (m q i : Nat) : (2 ^ m * (2 * q + 1)).testBit i = (decide (i = m) || (decide (m < i) && q.testBit (i - (m + 1)))) := by
  have h := Nat.testBit_two_pow_mul_add (2 * q + 1) (b := 0) (i := m) (Nat.pow_pos (by omega)) i
  rw [Nat.add_zero] at h
  rw [h]
  rcases Nat.lt_trichotomy i m with hi | hi | hi
  · rw [if_pos hi, Nat.zero_testBit, decide_eq_false (show ¬ i = m by omega), decide_eq_false (show ¬ m < i by omega)]; rfl
  · subst hi; rw [if_neg (by omega), Nat.sub_self, decide_eq_true rfl, Nat.testBit_zero, decide_eq_true (by omega)]; rfl
  · rw [if_neg (by omega), decide_eq_false (show ¬ i = m by omega), decide_eq_true hi, show i - m = (i - (m + 1)) + 1 by omega, Nat.testBit_succ, show (2 * q + 1) / 2 = q by omega]; simp
theorem lower_bit (m q i : Nat) : (2 ^ m * (2 * q) + (2 ^ m - 1)).testBit i = (decide (i < m) || (decide (m < i) && q.testBit (i - (m + 1)))) := by
  have hp : 0 < 2 ^ m := Nat.pow_pos (by omega)
  rw [Nat.testBit_two_pow_mul_add (2 * q) (by omega), Nat.testBit_two_pow_sub_one]
  rcases Nat.lt_trichotomy i m with hi | hi | hi
  · rw [if_pos hi, decide_eq_true hi]; rfl
  · subst hi; rw [if_neg (by omega), Nat.sub_self, decide_eq_false (Nat.lt_irrefl _), Nat.testBit_zero, decide_eq_false (by omega)]; rfl
  · rw [if_neg (by omega), decide_eq_false (show ¬ i < m by omega), decide_eq_true hi, show i - m = (i - (m + 1)) + 1 by omega, Nat.testBit_succ, show (2 * q) / 2 = q by omega]; simp

/-- how a bit of keys cuts them in two: A is the number that it cuts, at its bit m, B the other one -/
structure CutAt (k : Nat) (A B : Nat → Nat) (m : Nat) : Prop where
  bit : ∀ u, u / 2 ^ k % 2 = A u / 2 ^ m % 2
  same : ∀ u v, u < 18446744073709551616 → v < 18446744073709551616 → u / 2 ^ (k + 1) = v / 2 ^ (k + 1) → A u / 2 ^ m / 2 = A v / 2 ^ m / 2
  mono : ∀ u v, u < 18446744073709551616 → v < 18446744073709551616 → A u ≤ A v → B u ≤ B v → u ≤ v
  box : ∀ lo hi u, inBox lo hi u ↔ (A lo ≤ A u ∧ A u ≤ A hi) ∧ B lo ≤ B u ∧ B u ≤ B hi
  up : ∀ lo, lo < 18446744073709551616 → A (upN lo k) = 2 ^ m * (2 * (A lo / 2 ^ m / 2) + 1) ∧ B (upN lo k) = B lo
  lw : ∀ hi, hi < 18446744073709551616 → A (lwN hi k) = 2 ^ m * (2 * (A hi / 2 ^ m / 2)) + (2 ^ m - 1) ∧ B (lwN hi k) = B hi
theorem bit_eq (u k : Nat) : u / 2 ^ k % 2 = (u.testBit k).toNat := by
  rw [Nat.testBit_eq_decide_div_mod_eq]
  rcases Nat.mod_two_eq_zero_or_one (u / 2 ^ k) with h | h <;> rw [h] <;> rfl
theorem div2 (x m : Nat) : x / 2 ^ m / 2 = x / 2 ^ (m + 1) := by rw [Nat.div_div_eq_div_mul, ← Nat.pow_succ]
theorem cut_even (m : Nat) (hm : m < 32) : CutAt (2 * m) evX odY m := by
  refine ⟨?_, ?_, ?_, ?_, ?_, ?_⟩
  · intro u; rw [bit_eq, bit_eq, evX_bit, decide_eq_true hm, Bool.true_and]
  · intro u v hu hv h
    have := ((same_iff (2 * m + 1) hu hv).1 h).1
    rw [show (2 * m + 1 + 1) / 2 = m + 1 by omega] at this
    rw [div2, div2, this]
  · intro u v hu hv h1 h2; exact key_mono hu hv h1 h2
  · intro lo hi u; rfl
  · intro lo hlo
    constructor
    · apply Nat.eq_of_testBit_eq
      intro i
      rw [upper_bit, div2, Nat.testBit_div_two_pow, evX_bit, evX_bit, upN_bit (by omega) hlo]
      rcases Nat.lt_trichotomy i m with hi | hi | hi
      · rw [decide_eq_false (show ¬ 2 * i = 2 * m by omega), decide_eq_false (show ¬ i = m by omega), decide_eq_false (show ¬ m < i by omega), decide_eq_true (show 2 * i < 2 * m ∧ 2 * i % 2 = 2 * m % 2 by omega)]; simp
      · subst hi; rw [decide_eq_true hm, decide_eq_true rfl, decide_eq_true rfl]; simp
      · rw [show i - (m + 1) + (m + 1) = i by omega, decide_eq_false (show ¬ 2 * i = 2 * m by omega), decide_eq_false (show ¬ i = m by omega), decide_eq_true hi, decide_eq_false (show ¬ (2 * i < 2 * m ∧ 2 * i % 2 = 2 * m % 2) by omega)]; simp
    · apply Nat.eq_of_testBit_eq
      intro i
      rw [odY_bit, odY_bit, upN_bit (by omega) hlo, decide_eq_false (show ¬ 2 * i + 1 = 2 * m by omega), decide_eq_false (show ¬ (2 * i + 1 < 2 * m ∧ (2 * i + 1) % 2 = 2 * m % 2) by omega)]; simp
  · intro hi hhi
    constructor
    · apply Nat.eq_of_testBit_eq
      intro i
      rw [lower_bit, div2, Nat.testBit_div_two_pow, evX_bit, evX_bit, lwN_bit (by omega) hhi]
      rcases Nat.lt_trichotomy i m with hi | hi | hi
      · rw [decide_eq_true hi, decide_eq_true (show i < 32 by omega), decide_eq_true (show 2 * i < 2 * m ∧ 2 * i % 2 = 2 * m % 2 by omega)]; simp
      · subst hi; rw [decide_eq_true rfl, decide_eq_false (Nat.lt_irrefl _), decide_eq_false (show ¬ (2 * i < 2 * i ∧ 2 * i % 2 = 2 * i % 2) by omega)]; simp
      · rw [show i - (m + 1) + (m + 1) = i by omega, decide_eq_false (show ¬ 2 * i = 2 * m by omega), decide_eq_false (show ¬ i < m by omega), decide_eq_true hi, decide_eq_false (show ¬ (2 * i < 2 * m ∧ 2 * i % 2 = 2 * m % 2) by omega)]; simp
    · apply Nat.eq_of_testBit_eq
      intro i
      rw [odY_bit, odY_bit, lwN_bit (by omega) hhi, decide_eq_false (show ¬ 2 * i + 1 = 2 * m by omega), decide_eq_false (show ¬ (2 * i + 1 < 2 * m ∧ (2 * i + 1) % 2 = 2 * m % 2) by omega)]; simp
theorem cut_odd (m : Nat) (hm : m < 32) : CutAt (2 * m + 1) odY evX m := by
  refine ⟨?_, ?_, ?_, ?_, ?_, ?_⟩
  · intro u; rw [bit_eq, bit_eq, odY_bit, decide_eq_true hm, Bool.true_and]
  · intro u v hu hv h
    have := ((same_iff (2 * m + 1 + 1) hu hv).1 h).2
    rw [show (2 * m + 1 + 1) / 2 = m + 1 by omega] at this
    rw [div2, div2, this]
  · intro u v hu hv h1 h2; exact key_mono hu hv h2 h1
  · intro lo hi u; unfold inBox; exact And.comm
  · intro lo hlo
    constructor
    · apply Nat.eq_of_testBit_eq
      intro i
      rw [upper_bit, div2, Nat.testBit_div_two_pow, odY_bit, odY_bit, upN_bit (by omega) hlo]
      rcases Nat.lt_trichotomy i m with hi | hi | hi
      · rw [decide_eq_false (show ¬ 2 * i + 1 = 2 * m + 1 by omega), decide_eq_false (show ¬ i = m by omega), decide_eq_false (show ¬ m < i by omega), decide_eq_true (show 2 * i + 1 < 2 * m + 1 ∧ (2 * i + 1) % 2 = (2 * m + 1) % 2 by omega)]; simp
      · subst hi; rw [decide_eq_true hm, decide_eq_true rfl, decide_eq_true rfl]; simp
      · rw [show i - (m + 1) + (m + 1) = i by omega, decide_eq_false (show ¬ 2 * i + 1 = 2 * m + 1 by omega), decide_eq_false (show ¬ i = m by omega), decide_eq_true hi, decide_eq_false (show ¬ (2 * i + 1 < 2 * m + 1 ∧ (2 * i + 1) % 2 = (2 * m + 1) % 2) by omega)]; simp
    · apply Nat.eq_of_testBit_eq
      intro i
      rw [evX_bit, evX_bit, upN_bit (by omega) hlo, decide_eq_false (show ¬ 2 * i = 2 * m + 1 by omega), decide_eq_false (show ¬ (2 * i < 2 * m + 1 ∧ 2 * i % 2 = (2 * m + 1) % 2) by omega)]; simp
  · intro hi hhi
    constructor
    · apply Nat.eq_of_testBit_eq
      intro i
      rw [lower_bit, div2, Nat.testBit_div_two_pow, odY_bit, odY_bit, lwN_bit (by omega) hhi]
      rcases Nat.lt_trichotomy i m with hi | hi | hi
      · rw [decide_eq_true hi, decide_eq_true (show i < 32 by omega), decide_eq_true (show 2 * i + 1 < 2 * m + 1 ∧ (2 * i + 1) % 2 = (2 * m + 1) % 2 by omega)]; simp
      · subst hi; rw [decide_eq_true rfl, decide_eq_false (Nat.lt_irrefl _), decide_eq_false (show ¬ (2 * i + 1 < 2 * i + 1 ∧ (2 * i + 1) % 2 = (2 * i + 1) % 2) by omega)]; simp
      · rw [show i - (m + 1) + (m + 1) = i by omega, decide_eq_false (show ¬ 2 * i + 1 = 2 * m + 1 by omega), decide_eq_false (show ¬ i < m by omega), decide_eq_true hi, decide_eq_false (show ¬ (2 * i + 1 < 2 * m + 1 ∧ (2 * i + 1) % 2 = (2 * m + 1) % 2) by omega)]; simp
    · apply Nat.eq_of_testBit_eq
      intro i
      rw [evX_bit, evX_bit, lwN_bit (by omega) hhi, decide_eq_false (show ¬ 2 * i = 2 * m + 1 by omega), decide_eq_false (show ¬ (2 * i < 2 * m + 1 ∧ 2 * i % 2 = (2 * m + 1) % 2) by omega)]; simp
theorem cut_any (k : Nat) (hk : k < 64) : ∃ A B m, CutAt k A B m := by
  rcases Nat.mod_two_eq_zero_or_one k with h | h
  · obtain ⟨m, rfl⟩ : ∃ m, k = 2 * m := ⟨k / 2, by omega⟩
    exact ⟨_, _, _, cut_even m (by omega)⟩
  · obtain ⟨m, rfl⟩ : ∃ m, k = 2 * m + 1 := ⟨k / 2, by omega⟩
    exact ⟨_, _, _, cut_odd m (by omega)⟩
end Go.Proofs.Ytdhcilnkimmblaa
