/- Plain numbers: how many keys of a rectangle lie below one. Nothing of the program is named here but in the imports. -/
import Derived.Test.YtdhcilnkimmblaaMorKit
namespace Go.Proofs.Ytdhcilnkimmblaa
open Go.RowKit Go.Sort

def sumN : Nat → (Nat → Nat) → Nat
  | 0, _ => 0
  | n + 1, f => sumN n f + f n
theorem sumN_congr {f g : Nat → Nat} : ∀ n, (∀ i, i < n → f i = g i) → sumN n f = sumN n g
  | 0, _ => rfl
  | n + 1, h => by rw [sumN, sumN, sumN_congr n fun i hi => h i (by omega), h n (by omega)]
theorem sumN_add (f g : Nat → Nat) : ∀ n, sumN n (fun i => f i + g i) = sumN n f + sumN n g
  | 0 => rfl
  | n + 1 => by rw [sumN, sumN, sumN, sumN_add f g n]; omega
theorem sumN_const (c : Nat) : ∀ n, sumN n (fun _ => c) = n * c
  | 0 => by simp [sumN]
  | n + 1 => by rw [sumN, sumN_const c n, Nat.succ_mul]
theorem sumN_one (k : Nat) : ∀ n, sumN n (fun i => if i = k then 1 else 0) = if k < n then 1 else 0
  | 0 => by simp [sumN]
  | n + 1 => by
    rw [sumN, sumN_one k n]
    by_cases h : k < n
    · rw [if_pos h, if_neg (by omega), if_pos (by omega)]
    · by_cases h2 : n = k
      · rw [if_neg h, if_pos h2, if_pos (by omega)]
      · rw [if_neg h, if_neg h2, if_neg (by omega)]
/-- how many points of the rectangle have a key below this one -/
def cntN (a c p q z : Nat) : Nat := sumN (p + 1) fun i => sumN (q + 1) fun j => if wvZ (a + i) (c + j) < z then 1 else 0
theorem cntN_zero (a c p q : Nat) : cntN a c p q 0 = 0 := by
  unfold cntN
  simp only [Nat.not_lt_zero, if_false]
  rw [sumN_congr (p + 1) (g := fun _ => 0) fun i _ => by rw [sumN_const, Nat.mul_zero], sumN_const, Nat.mul_zero]
theorem cntN_full (a c p q : Nat) : cntN a c p q 18446744073709551616 = (p + 1) * (q + 1) := by
  unfold cntN
  rw [sumN_congr (p + 1) (g := fun _ => q + 1) fun i _ => ?_, sumN_const]
  rw [sumN_congr (q + 1) (g := fun _ => 1) fun j _ => if_pos (wvZ_lt _ _), sumN_const, Nat.mul_one]
theorem sum_here (a c p q v : Nat) (ha : a + p < 4294967296) (hc : c + q < 4294967296) (hv : v < 18446744073709551616) :
    sumN (p + 1) (fun i => sumN (q + 1) fun j => if wvZ (a + i) (c + j) = v then 1 else 0) = if insideB a (a + p) c (c + q) v = true then 1 else 0 := by
  have hin := insideB_iff (a := a) (b := a + p) (c := c) (d := c + q) (z := v)
  have hparts := wvZ_parts hv
  have hx : ∀ i j, i < p + 1 → wvZ (a + i) (c + j) = v → a + i = evX v := fun i j hi e => by
    have := congrArg evX e
    rwa [evX_wvZ (by omega)] at this
  have hy : ∀ i j, j < q + 1 → wvZ (a + i) (c + j) = v → c + j = odY v := fun i j hj e => by
    have := congrArg odY e
    rwa [odY_wvZ (by omega)] at this
  generalize evX v = x at *
  generalize odY v = y at *
  generalize insideB a (a + p) c (c + q) v = r at *
  by_cases hb : r = true
  · rw [if_pos hb]
    have hb' := hin.1 hb
    have h1 : ∀ i, i < p + 1 → (sumN (q + 1) fun j => if wvZ (a + i) (c + j) = v then 1 else 0) = if i = x - a then 1 else 0 := fun i hi => by
      by_cases he : i = x - a
      · rw [if_pos he, sumN_congr (q + 1) (g := fun j => if j = y - c then 1 else 0) fun j hj => ?_, sumN_one, if_pos (by omega)]
        by_cases hj2 : j = y - c
        · have e1 : a + i = x := by omega
          have e2 : c + j = y := by omega
          rw [e1, e2, if_pos hparts, if_pos hj2]
        · rw [if_neg fun e => hj2 (by have := hy i j hj e; omega), if_neg hj2]
      · rw [if_neg he, sumN_congr (q + 1) (g := fun _ => 0) fun j _ => if_neg fun e => he (by have := hx i j hi e; omega), sumN_const, Nat.mul_zero]
    rw [sumN_congr (p + 1) h1, sumN_one, if_pos (by omega)]
  · rw [if_neg hb]
    have h1 : ∀ i, i < p + 1 → (sumN (q + 1) fun j => if wvZ (a + i) (c + j) = v then 1 else 0) = 0 := fun i hi => by
      rw [sumN_congr (q + 1) (g := fun _ => 0) fun j hj => if_neg fun e => hb (hin.2 (by have := hx i j hi e; have := hy i j hj e; omega)), sumN_const, Nat.mul_zero]
    rw [sumN_congr (p + 1) (g := fun _ => 0) h1, sumN_const, Nat.mul_zero]
theorem if_step (x v : Nat) : (if x < v + 1 then 1 else 0) = (if x < v then 1 else 0) + (if x = v then 1 else 0) := by
  rcases Nat.lt_trichotomy x v with h | h | h
  · rw [if_pos (by omega), if_pos h, if_neg (by omega)]
  · rw [if_pos (by omega), if_neg (by omega), if_pos h]
  · rw [if_neg (by omega), if_neg (by omega), if_neg (by omega)]
theorem cntN_succ (a c p q v : Nat) (ha : a + p < 4294967296) (hc : c + q < 4294967296) (hv : v < 18446744073709551616) : cntN a c p q (v + 1) = cntN a c p q v + if insideB a (a + p) c (c + q) v = true then 1 else 0 := by
  rw [← sum_here a c p q v ha hc hv]
  unfold cntN
  have h1 : ∀ i, i < p + 1 → (sumN (q + 1) fun j => if wvZ (a + i) (c + j) < v + 1 then 1 else 0) = (sumN (q + 1) fun j => if wvZ (a + i) (c + j) < v then 1 else 0) + (sumN (q + 1) fun j => if wvZ (a + i) (c + j) = v then 1 else 0) := fun i _ => by
    rw [← sumN_add]
    exact sumN_congr (q + 1) fun j _ => if_step _ v
  rw [sumN_congr (p + 1) h1, sumN_add]
section
variable {a c p q : Nat} (ha : a + p < 4294967296) (hc : c + q < 4294967296)
include ha hc
theorem cntN_gap (z : Nat) : ∀ k, z + k ≤ 18446744073709551616 → (∀ u, z ≤ u → u < z + k → insideB a (a + p) c (c + q) u = false) → cntN a c p q (z + k) = cntN a c p q z
  | 0, _, _ => rfl
  | k + 1, hk, h => by
    rw [← Nat.add_assoc, cntN_succ a c p q (z + k) ha hc (by omega), if_neg (by rw [h (z + k) (by omega) (by omega)]; simp), cntN_gap z k (by omega) fun u h1 h2 => h u h1 (by omega)]; rfl
theorem cntN_le (z : Nat) : ∀ k, z + k ≤ 18446744073709551616 → cntN a c p q z ≤ cntN a c p q (z + k)
  | 0, _ => Nat.le_refl _
  | k + 1, hk => by
    have := cntN_le z k (by omega)
    rw [← Nat.add_assoc, cntN_succ a c p q (z + k) ha hc (by omega)]
    omega
theorem count_some {z v : Nat} (h : LeastAt (fun u => insideB a (a + p) c (c + q) u = true) z v true) : cntN a c p q (v + 1) = cntN a c p q z + 1 := by
  rcases h with ⟨_, ⟨h1, h2⟩, h3, h4⟩ | ⟨h, _⟩
  · obtain ⟨k, rfl⟩ : ∃ k, v = z + k := ⟨v - z, by omega⟩
    rw [cntN_succ a c p q (z + k) ha hc h2, if_pos h3, cntN_gap ha hc z k (by omega) fun u hu1 hu2 => ?_]
    cases hi : insideB a (a + p) c (c + q) u
    · rfl
    · have := h4 u (by omega) hi hu1; omega
  · cases h
theorem count_none {z v : Nat} (hz : z < 18446744073709551616) (h : LeastAt (fun u => insideB a (a + p) c (c + q) u = true) z v false) : cntN a c p q z = (p + 1) * (q + 1) := by
  rcases h with ⟨h, _⟩ | ⟨_, _, h4⟩
  · cases h
  · obtain ⟨k, hk⟩ : ∃ k, 18446744073709551616 = z + k := ⟨18446744073709551616 - z, by omega⟩
    rw [← cntN_full a c p q, hk, cntN_gap ha hc z k (by omega) fun u hu1 hu2 => ?_]
    cases hi : insideB a (a + p) c (c + q) u
    · rfl
    · have := h4 u (by omega) hi; omega
theorem count_most {z : Nat} (hz : z ≤ 18446744073709551616) : cntN a c p q z ≤ (p + 1) * (q + 1) := by
  obtain ⟨k, hk⟩ : ∃ k, 18446744073709551616 = z + k := ⟨18446744073709551616 - z, by omega⟩
  rw [← cntN_full a c p q]
  have h := cntN_le ha hc z k (by omega)
  rwa [← hk] at h
end
end Go.Proofs.Ytdhcilnkimmblaa
