/- Plain numbers: the bits of two numbers woven into one; a box of keys; where a rectangle is cut. Nothing of the program is named here. -/
import Derived.Test.YtdhcilnkimmblaaMorNum
import Derived.Laws.BitsAllLaws
namespace Go.Proofs.Ytdhcilnkimmblaa
open Go.RowKit

theorem ev_bit (k z i : Nat) : (ev k z).testBit i = (decide (i < k) && z.testBit (2 * i)) := by
  induction k generalizing z i with
  | zero => simp [ev]
  | succ k ih =>
    rw [ev, show z % 2 + 2 * ev k (z / 4) = 2 ^ 1 * ev k (z / 4) + z % 2 by omega, Nat.testBit_two_pow_mul_add _ (by omega)]
    cases i with
    | zero => simp [Nat.testBit_zero]
    | succ i =>
      rw [if_neg (by omega), Nat.add_sub_cancel, ih, show z / 4 = z / 2 ^ 2 from rfl, Nat.testBit_div_two_pow, show 2 * i + 2 = 2 * (i + 1) by omega]
      congr 1
      rw [Bool.eq_iff_iff]; simp
theorem od_ev (k z : Nat) : od k z = ev k (z / 2) := by
  induction k generalizing z with
  | zero => rfl
  | succ k ih => rw [od, ev, ih, Nat.div_div_eq_div_mul, Nat.div_div_eq_div_mul]
theorem od_bit (k z i : Nat) : (od k z).testBit i = (decide (i < k) && z.testBit (2 * i + 1)) := by
  rw [od_ev, ev_bit, show z / 2 = z / 2 ^ 1 from rfl, Nat.testBit_div_two_pow]
theorem wv_bit (k x y j : Nat) : (wv k x y).testBit j = (decide (j < 2 * k) && if j % 2 = 0 then x.testBit (j / 2) else y.testBit (j / 2)) := by
  have h1 : ∀ i, (wv k x y).testBit (2 * i) = (decide (i < k) && x.testBit i) := fun i => by
    have h := ev_bit k (wv k x y) i
    rw [ev_wv, Nat.testBit_mod_two_pow] at h
    have hb := wv_lt k x y
    rcases Nat.lt_or_ge i k with hi | hi
    · simpa [hi] using h.symm
    · rw [Nat.testBit_lt_two_pow (Nat.lt_of_lt_of_le hb (by rw [show (4 : Nat) = 2 ^ 2 from rfl, ← Nat.pow_mul]; exact Nat.pow_le_pow_right (by omega) (by omega))), decide_eq_false (by omega)]; rfl
  have h2 : ∀ i, (wv k x y).testBit (2 * i + 1) = (decide (i < k) && y.testBit i) := fun i => by
    have h := od_bit k (wv k x y) i
    rw [od_wv, Nat.testBit_mod_two_pow] at h
    have hb := wv_lt k x y
    rcases Nat.lt_or_ge i k with hi | hi
    · simpa [hi] using h.symm
    · rw [Nat.testBit_lt_two_pow (Nat.lt_of_lt_of_le hb (by rw [show (4 : Nat) = 2 ^ 2 from rfl, ← Nat.pow_mul]; exact Nat.pow_le_pow_right (by omega) (by omega))), decide_eq_false (by omega)]; rfl
  rcases Nat.mod_two_eq_zero_or_one j with hj | hj
  · obtain ⟨i, rfl⟩ : ∃ i, j = 2 * i := ⟨j / 2, by omega⟩
    rw [h1, if_pos hj, show 2 * i / 2 = i by omega]
    congr 1
    rw [Bool.eq_iff_iff]; simp
  · obtain ⟨i, rfl⟩ : ∃ i, j = 2 * i + 1 := ⟨j / 2, by omega⟩
    rw [h2, if_neg (by omega), show (2 * i + 1) / 2 = i by omega]
    congr 1
    rw [Bool.eq_iff_iff]; simp; omega
theorem wv_snoc (k x y : Nat) : wv (k + 1) x y = wv k x y + 4 ^ k * (x / 2 ^ k % 2 + 2 * (y / 2 ^ k % 2)) := by
  induction k generalizing x y with
  | zero => simp [wv]
  | succ k ih =>
    rw [wv, ih, wv, Nat.div_div_eq_div_mul, Nat.div_div_eq_div_mul, Nat.mul_comm 2 (2 ^ k), ← Nat.pow_succ, Nat.pow_succ 4, Nat.mul_comm (4 ^ k) 4, Nat.mul_assoc 4]
    generalize 4 ^ k * _ = q
    omega
theorem ev_snoc (k z : Nat) : ev (k + 1) z = ev k z + 2 ^ k * (z / 4 ^ k % 2) := by
  induction k generalizing z with
  | zero => simp [ev]
  | succ k ih =>
    rw [ev, ih, ev, Nat.div_div_eq_div_mul, Nat.mul_comm 4 (4 ^ k), ← Nat.pow_succ, Nat.pow_succ 2, Nat.mul_comm (2 ^ k) 2, Nat.mul_assoc 2]
    generalize 2 ^ k * _ = q
    omega
theorem wv_or (k x y : Nat) : wv k x 0 ||| wv k y 0 * 2 = wv k x y := by
  apply Nat.eq_of_testBit_eq
  intro j
  rw [Nat.testBit_or, show wv k y 0 * 2 = 2 ^ 1 * wv k y 0 + 0 by omega, Nat.testBit_two_pow_mul_add _ (by omega), wv_bit, wv_bit, wv_bit]
  rcases Nat.mod_two_eq_zero_or_one j with hj | hj
  · rw [if_pos hj, if_pos hj]
    by_cases h0 : j < 1
    · rw [if_pos h0]; simp
    · rw [if_neg h0, if_neg (by omega)]; simp
  · have hn : ¬ j % 2 = 0 := by omega
    rw [if_neg hn, if_neg (show ¬ j < 1 by omega), if_pos (show (j - 1) % 2 = 0 by omega), if_neg hn, show (j - 1) / 2 = j / 2 by omega]
    simp only [Nat.zero_testBit, Bool.and_false, Bool.false_or]
    congr 1
    rw [Bool.eq_iff_iff]; simp; omega

/-- both numbers of a key of 64 bits -/
def evX (z : Nat) : Nat := ev 32 z
def odY (z : Nat) : Nat := od 32 z
def wvZ (x y : Nat) : Nat := wv 32 x y
theorem evX_lt (z : Nat) : evX z < 4294967296 := ev_lt 32 z
theorem odY_lt (z : Nat) : odY z < 4294967296 := od_lt 32 z
theorem wvZ_lt (x y : Nat) : wvZ x y < 18446744073709551616 := wv_lt 32 x y
theorem evX_wvZ {x y : Nat} (h : x < 4294967296) : evX (wvZ x y) = x := by unfold evX wvZ; rw [ev_wv]; exact Nat.mod_eq_of_lt h
theorem odY_wvZ {x y : Nat} (h : y < 4294967296) : odY (wvZ x y) = y := by unfold odY wvZ; rw [od_wv]; exact Nat.mod_eq_of_lt h
theorem wvZ_parts {z : Nat} (h : z < 18446744073709551616) : wvZ (evX z) (odY z) = z := by unfold evX odY wvZ; rw [wv_parts]; exact Nat.mod_eq_of_lt h
theorem wvZ_mono {x y x' y' : Nat} (hx : x ≤ x') (hy : y ≤ y') (hx' : x' < 4294967296) (hy' : y' < 4294967296) : wvZ x y ≤ wvZ x' y' := wv_mono 32 x y x' y' hx hy hx' hy'
theorem key_mono {u v : Nat} (hu : u < 18446744073709551616) (hv : v < 18446744073709551616) (hx : evX u ≤ evX v) (hy : odY u ≤ odY v) : u ≤ v := by
  have h := wvZ_mono hx hy (evX_lt v) (odY_lt v)
  rwa [wvZ_parts hu, wvZ_parts hv] at h
theorem key_inj {u v : Nat} (hu : u < 18446744073709551616) (hv : v < 18446744073709551616) (hx : evX u = evX v) (hy : odY u = odY v) : u = v := by
  rw [← wvZ_parts hu, ← wvZ_parts hv, hx, hy]
theorem evX_bit (z i : Nat) : (evX z).testBit i = (decide (i < 32) && z.testBit (2 * i)) := ev_bit 32 z i
theorem odY_bit (z i : Nat) : (odY z).testBit i = (decide (i < 32) && z.testBit (2 * i + 1)) := od_bit 32 z i
theorem big_bit {z j : Nat} (h : z < 18446744073709551616) (hj : 64 ≤ j) : z.testBit j = false :=
  Nat.testBit_lt_two_pow (Nat.lt_of_lt_of_le h (by rw [show 18446744073709551616 = 2 ^ 64 from rfl]; exact Nat.pow_le_pow_right (by omega) hj))

/-- keys that agree but for their m lowest bits -/
theorem same_iff {u v : Nat} (m : Nat) (hu : u < 18446744073709551616) (hv : v < 18446744073709551616) : u / 2 ^ m = v / 2 ^ m ↔ evX u / 2 ^ ((m + 1) / 2) = evX v / 2 ^ ((m + 1) / 2) ∧ odY u / 2 ^ (m / 2) = odY v / 2 ^ (m / 2) := by
  constructor
  · intro h
    have hb : ∀ j, m ≤ j → u.testBit j = v.testBit j := fun j hj => by
      have := congrArg (fun x => x.testBit (j - m)) h
      simp only [Nat.testBit_div_two_pow] at this
      rwa [show j - m + m = j by omega] at this
    constructor
    · apply Nat.eq_of_testBit_eq
      intro i
      rw [Nat.testBit_div_two_pow, Nat.testBit_div_two_pow, evX_bit, evX_bit, hb _ (by omega)]
    · apply Nat.eq_of_testBit_eq
      intro i
      rw [Nat.testBit_div_two_pow, Nat.testBit_div_two_pow, odY_bit, odY_bit, hb _ (by omega)]
  · rintro ⟨h1, h2⟩
    have hb1 : ∀ i, (m + 1) / 2 ≤ i → (evX u).testBit i = (evX v).testBit i := fun i hi => by
      have := congrArg (fun x => x.testBit (i - (m + 1) / 2)) h1
      simp only [Nat.testBit_div_two_pow] at this
      rwa [show i - (m + 1) / 2 + (m + 1) / 2 = i by omega] at this
    have hb2 : ∀ i, m / 2 ≤ i → (odY u).testBit i = (odY v).testBit i := fun i hi => by
      have := congrArg (fun x => x.testBit (i - m / 2)) h2
      simp only [Nat.testBit_div_two_pow] at this
      rwa [show i - m / 2 + m / 2 = i by omega] at this
    apply Nat.eq_of_testBit_eq
    intro i
    rw [Nat.testBit_div_two_pow, Nat.testBit_div_two_pow]
    rcases Nat.lt_or_ge (i + m) 64 with h64 | h64
    · rcases Nat.mod_two_eq_zero_or_one (i + m) with hj | hj
      · have h := hb1 ((i + m) / 2) (by omega)
        rw [evX_bit, evX_bit, decide_eq_true (by omega), Bool.true_and, Bool.true_and, show 2 * ((i + m) / 2) = i + m by omega] at h
        exact h
      · have h := hb2 ((i + m) / 2) (by omega)
        rw [odY_bit, odY_bit, decide_eq_true (by omega), Bool.true_and, Bool.true_and, show 2 * ((i + m) / 2) + 1 = i + m by omega] at h
        exact h
    · rw [big_bit hu h64, big_bit hv h64]
/-- low bits all set -/
theorem full_bit (b m j : Nat) (h : b % 2 ^ m = 0) : (b + (2 ^ m - 1)).testBit j = (decide (j < m) || b.testBit j) := by
  have hp : 0 < 2 ^ m := Nat.pow_pos (by omega)
  have hd := Nat.div_add_mod b (2 ^ m)
  rw [h, Nat.add_zero] at hd
  conv => lhs; rw [← hd]
  rw [Nat.testBit_two_pow_mul_add _ (by omega), Nat.testBit_two_pow_sub_one, Nat.testBit_div_two_pow]
  by_cases hj : j < m
  · rw [if_pos hj, decide_eq_true hj]; rfl
  · rw [if_neg hj, decide_eq_false hj, show j - m + m = j by omega]; rfl
theorem low_bit (b m j : Nat) (h : b % 2 ^ m = 0) (hj : j < m) : b.testBit j = false := by
  have hd := Nat.div_add_mod b (2 ^ m)
  rw [h] at hd
  rw [← hd, Nat.testBit_two_pow_mul_add _ (Nat.pow_pos (by omega)), if_pos hj, Nat.zero_testBit]
theorem evX_low (b m : Nat) (h : b % 2 ^ m = 0) : evX b % 2 ^ ((m + 1) / 2) = 0 := by
  apply Nat.eq_of_testBit_eq
  intro i
  rw [Nat.testBit_mod_two_pow, Nat.zero_testBit, evX_bit]
  by_cases hi : i < (m + 1) / 2
  · rw [low_bit b m _ h (by omega)]; simp
  · rw [decide_eq_false hi]; simp
theorem odY_low (b m : Nat) (h : b % 2 ^ m = 0) : odY b % 2 ^ (m / 2) = 0 := by
  apply Nat.eq_of_testBit_eq
  intro i
  rw [Nat.testBit_mod_two_pow, Nat.zero_testBit, odY_bit]
  by_cases hi : i < m / 2
  · rw [low_bit b m _ h (by omega)]; simp
  · rw [decide_eq_false hi]; simp
theorem evX_full (b m : Nat) (hm : m ≤ 64) (h : b % 2 ^ m = 0) : evX (b + (2 ^ m - 1)) = evX b + (2 ^ ((m + 1) / 2) - 1) := by
  apply Nat.eq_of_testBit_eq
  intro i
  rw [full_bit _ _ _ (evX_low b m h), evX_bit, evX_bit, full_bit _ _ _ h]
  by_cases hi : i < (m + 1) / 2
  · rw [decide_eq_true (by omega), decide_eq_true (by omega), decide_eq_true hi]; rfl
  · rw [decide_eq_false (show ¬ 2 * i < m by omega), decide_eq_false hi]; simp
theorem odY_full (b m : Nat) (hm : m ≤ 64) (h : b % 2 ^ m = 0) : odY (b + (2 ^ m - 1)) = odY b + (2 ^ (m / 2) - 1) := by
  apply Nat.eq_of_testBit_eq
  intro i
  rw [full_bit _ _ _ (odY_low b m h), odY_bit, odY_bit, full_bit _ _ _ h]
  by_cases hi : i < m / 2
  · rw [decide_eq_true (by omega), decide_eq_true (by omega), decide_eq_true hi]; rfl
  · rw [decide_eq_false (show ¬ 2 * i + 1 < m by omega), decide_eq_false hi]; simp
theorem div_same {a c M : Nat} (hM : 0 < M) (hc : c % M = 0) : a / M = c / M ↔ c ≤ a ∧ a ≤ c + (M - 1) := by
  have hd := Nat.div_add_mod c M
  have ha := Nat.div_add_mod a M
  have hl := Nat.mod_lt a hM
  rw [hc] at hd
  constructor
  · intro h; rw [h] at ha; omega
  · rintro ⟨h1, h2⟩
    refine Nat.le_antisymm ?_ (Nat.div_le_div_right h1)
    have : a / M < c / M + 1 := by rw [Nat.div_lt_iff_lt_mul hM, Nat.add_mul, Nat.mul_comm]; omega
    omega
/-- a key is between two others in both of its numbers -/
def inBox (lo hi u : Nat) : Prop := (evX lo ≤ evX u ∧ evX u ≤ evX hi) ∧ odY lo ≤ odY u ∧ odY u ≤ odY hi
/-- keys with the same bits are those in the box of the least and the greatest of them -/
theorem box_iff {b u : Nat} (m : Nat) (hm : m ≤ 64) (h : b % 2 ^ m = 0) (hb : b < 18446744073709551616) (hu : u < 18446744073709551616) : u / 2 ^ m = b / 2 ^ m ↔ inBox b (b + (2 ^ m - 1)) u := by
  rw [same_iff m hu hb, inBox, evX_full b m hm h, odY_full b m hm h, div_same (Nat.pow_pos (by omega)) (evX_low b m h), div_same (Nat.pow_pos (by omega)) (odY_low b m h)]
end Go.Proofs.Ytdhcilnkimmblaa
