/- Plain numbers: a place as a number below 256^20, its digits of 256, and the rows of cells that hold them. Nothing of the program is named here. -/
import Derived.WalkKit
namespace Go.Proofs.Ytplcdjmidelboaa
open Go.RowKit

/-- the low 'k' digits of 'n' to the base of 256, the highest one first -/
def dig : Nat → Nat → List Nat
  | 0, _ => []
  | k + 1, n => (n / 256 ^ k) % 256 :: dig k n
/-- the cells that hold digits -/
def row (l : List Nat) : Array Value := (l.map fun (n : Nat) => Value.int .u8 (n : Int)).toArray
/-- as many places as there are -/
def M : Nat := 256 ^ 20
/-- a place, as a value -/
def idv (n : Nat) : Value := .agg (row (dig 20 n))

theorem dig_length (k n : Nat) : (dig k n).length = k := by induction k with
  | zero => rfl
  | succ k ih => simp [dig, ih]
theorem row_size (l : List Nat) : (row l).size = l.length := by simp [row]
theorem row_get (l : List Nat) (i : Nat) : (row l)[i]? = (l[i]?).map fun (n : Nat) => Value.int .u8 (n : Int) := by simp [row]

theorem dig_get (k n i : Nat) (h : i < k) : (dig k n)[i]? = some (n / 256 ^ (k - 1 - i) % 256) := by
  induction k generalizing i with
  | zero => omega
  | succ k ih =>
    cases i with
    | zero => simp [dig]
    | succ i =>
      rw [dig, List.getElem?_cons_succ, ih i (by omega)]
      congr 4
      omega

theorem dig_eq_of {k n m : Nat} (h : n % 256 ^ k = m % 256 ^ k) : dig k n = dig k m := by
  induction k with
  | zero => rfl
  | succ k ih =>
    have hk : 0 < 256 ^ k := Nat.pow_pos (by omega)
    have e : ∀ x, x / 256 ^ k % 256 = x % 256 ^ (k + 1) / 256 ^ k := fun x => by
      rw [Nat.pow_succ, Nat.mod_mul_right_div_self]
    have e2 : ∀ x, x % 256 ^ (k + 1) % 256 ^ k = x % 256 ^ k := fun x => by
      rw [Nat.pow_succ, Nat.mod_mul_right_mod]
    rw [dig, dig, e n, e m, h, ih]
    rw [← e2 n, ← e2 m, h]

theorem dig_mod (k n : Nat) : dig k (n % 256 ^ k) = dig k n := dig_eq_of (Nat.mod_mod _ _)

theorem dig_inj {k n m : Nat} (h : dig k n = dig k m) : n % 256 ^ k = m % 256 ^ k := by
  induction k with
  | zero => simp [Nat.mod_one]
  | succ k ih =>
    rw [dig, dig] at h
    injection h with h1 h2
    rw [Nat.pow_succ, Nat.mod_mul, Nat.mod_mul, h1, ih h2]

theorem row_inj {l m : List Nat} (h : row l = row m) : l = m := by
  have h' : l.map (fun (n : Nat) => Value.int .u8 (n : Int)) = m.map (fun (n : Nat) => Value.int .u8 (n : Int)) := by simpa [row] using h
  exact List.map_inj_right (fun x y hxy => by injection hxy with _ h2; omega) |>.1 h'

theorem idv_inj {a b : Nat} (ha : a < M) (hb : b < M) : idv a = idv b ↔ a = b := by
  constructor
  · intro h
    have h1 : dig 20 a = dig 20 b := row_inj (by injection h)
    have h2 := dig_inj h1
    unfold M at ha hb
    rwa [Nat.mod_eq_of_lt ha, Nat.mod_eq_of_lt hb] at h2
  · rintro rfl; rfl

/-- each row of twenty digits is one of a number -/
theorem dig_of (l : List Nat) (h : ∀ b ∈ l, b < 256) : ∃ n, n < 256 ^ l.length ∧ dig l.length n = l := by
  induction l with
  | nil => exact ⟨0, by simp, rfl⟩
  | cons b r ih =>
    obtain ⟨n, hn, hd⟩ := ih (fun x hx => h x (List.mem_cons_of_mem _ hx))
    have hb : b < 256 := h b (List.mem_cons_self ..)
    have hp : 0 < 256 ^ r.length := Nat.pow_pos (by omega)
    refine ⟨n + 256 ^ r.length * b, ?_, ?_⟩
    · have : 256 ^ r.length * (b + 1) ≤ 256 ^ r.length * 256 := Nat.mul_le_mul_left _ (by omega)
      simp only [List.length_cons, Nat.pow_succ]
      rw [Nat.mul_add] at this
      omega
    · rw [List.length_cons, dig]
      congr 1
      · rw [Nat.add_mul_div_left _ _ hp, Nat.div_eq_of_lt hn, Nat.zero_add, Nat.mod_eq_of_lt hb]
      · rw [← hd]
        simp only [dig_length]
        refine dig_eq_of ?_
        rw [Nat.add_mul_mod_self_left]

/-! sums -/
def carryOf (a b j : Nat) : Nat := (a % 256 ^ j + b % 256 ^ j) / 256 ^ j
def digit (a j : Nat) : Nat := a / 256 ^ j % 256
theorem digit_lt (a j : Nat) : digit a j < 256 := Nat.mod_lt _ (by omega)
theorem carry_lt (a b j : Nat) : carryOf a b j < 2 := by
  have hp : 0 < 256 ^ j := Nat.pow_pos (by omega)
  have h1 := Nat.mod_lt a hp
  have h2 := Nat.mod_lt b hp
  exact (Nat.div_lt_iff_lt_mul hp).2 (by omega)
theorem carry_zero (a b : Nat) : carryOf a b 0 = 0 := by simp [carryOf, Nat.mod_one]
theorem sum_step (a b j : Nat) : (digit a j + digit b j + carryOf a b j) % 256 = digit (a + b) j ∧ (digit a j + digit b j + carryOf a b j) / 256 = carryOf a b (j + 1) := by
  have hp : 0 < 256 ^ j := Nat.pow_pos (by omega)
  unfold digit carryOf
  generalize hP : 256 ^ j = P at *
  have e1 : ∀ x, x % (P * 256) = x % P + P * (x / P % 256) := fun x => Nat.mod_mul
  constructor
  · have : (a + b) / P = a / P + b / P + (a % P + b % P) / P := by
      conv => lhs; rw [← Nat.div_add_mod a P, ← Nat.div_add_mod b P, show P * (a / P) + a % P + (P * (b / P) + b % P) = (a % P + b % P) + P * (a / P + b / P) by rw [Nat.mul_add]; omega, Nat.add_mul_div_left _ _ hp]
      omega
    rw [this]
    omega
  · rw [Nat.pow_succ, hP, e1 a, e1 b, show a % P + P * (a / P % 256) + (b % P + P * (b / P % 256)) = (a % P + b % P) + P * (a / P % 256 + b / P % 256) by rw [Nat.mul_add]; omega,
      ← Nat.div_div_eq_div_mul, Nat.add_mul_div_left _ _ hp]
    congr 1
    omega
theorem dig_succ (k n : Nat) : dig (k + 1) n = digit n k :: dig k n := rfl

/-- what the sum's row is behind 'j' rounds -/
def part (n j : Nat) : List Nat := List.replicate (20 - j) 0 ++ dig j n
theorem part_zero (n : Nat) : part n 0 = List.replicate 20 0 := by simp [part, dig]
theorem part_full (n : Nat) : part n 20 = dig 20 n := by simp [part]
theorem part_length (n j : Nat) (h : j ≤ 20) : (part n j).length = 20 := by simp [part, dig_length]; omega
theorem part_step (n j : Nat) (h : j < 20) : (row (part n j)).setIfInBounds (19 - j) (.int .u8 ((digit n j : Nat) : Int)) = row (part n (j + 1)) := by
  have : (part n j).set (19 - j) (digit n j) = part n (j + 1) := by
    unfold part
    obtain ⟨r, hr⟩ : ∃ r, 20 - j = r + 1 := ⟨19 - j, by omega⟩
    rw [hr, show 19 - j = r by omega, show 20 - (j + 1) = r by omega, List.replicate_succ', List.append_assoc, List.set_append_right _ _ (by simp)]
    simp [dig_succ]
  rw [← this]
  simp [row]

theorem row_dig_get (n i : Nat) (h : i < 20) : (row (dig 20 n))[i]? = some (.int .u8 ((digit n (19 - i) : Nat) : Int)) := by
  rw [row_get, dig_get 20 n i h]; rfl
theorem row_part_get (n j i : Nat) (hj : j ≤ 20) (h : i < 20) : ∃ v, (row (part n j))[i]? = some v :=
  ⟨_, Array.getElem?_eq_getElem (by rw [row_size, part_length n j hj]; exact h)⟩

/-! differences -/
def borrowOf (a b j : Nat) : Nat := if a % 256 ^ j < b % 256 ^ j then 1 else 0
theorem borrow_zero (a b : Nat) : borrowOf a b 0 = 0 := by simp [borrowOf, Nat.mod_one]
theorem borrow_lt (a b j : Nat) : borrowOf a b j < 2 := by unfold borrowOf; split <;> omega
theorem diff_step (a b j : Nat) (hb : b < M) (hj : j < 20) :
    (256 + digit a j - digit b j - borrowOf a b j) % 256 = digit (a + M - b) j ∧ borrowOf a b (j + 1) = if digit a j < digit b j + borrowOf a b j then 1 else 0 := by
  have hp : 0 < 256 ^ j := Nat.pow_pos (by omega)
  obtain ⟨K, hK⟩ : ∃ K, M = 256 ^ j * (256 * K) := ⟨256 ^ (19 - j), by
    unfold M; rw [show 20 = j + (1 + (19 - j)) by omega, Nat.pow_add, Nat.pow_add]⟩
  rw [hK] at hb ⊢
  unfold digit borrowOf
  rw [Nat.pow_succ]
  generalize 256 ^ j = P at *
  have e1 : ∀ x, x % (P * 256) = x % P + P * (x / P % 256) := fun x => Nat.mod_mul
  have hqb : b / P < 256 * K := by rw [Nat.div_lt_iff_lt_mul hp, Nat.mul_comm]; exact hb
  have ra := Nat.mod_lt a hp
  have rb := Nat.mod_lt b hp
  have da := Nat.div_add_mod a P
  have db := Nat.div_add_mod b P
  constructor
  · by_cases h : a % P < b % P
    · have hq : (a + P * (256 * K) - b) / P = a / P + 256 * K - b / P - 1 := by
        rw [show a + P * (256 * K) - b = (P + a % P - b % P) + P * (a / P + 256 * K - b / P - 1) by
          rw [Nat.mul_sub, Nat.mul_sub, Nat.mul_add]
          have := Nat.mul_le_mul_left P (show b / P + 1 ≤ 256 * K by omega)
          rw [Nat.mul_add] at this
          omega, Nat.add_mul_div_left _ _ hp, Nat.div_eq_of_lt (by omega), Nat.zero_add]
      rw [hq, if_pos h]
      clear hq ra rb da db h e1 hK
      generalize a / P = x at *
      generalize b / P = y at *
      clear hb
      omega
    · have hq : (a + P * (256 * K) - b) / P = a / P + 256 * K - b / P := by
        rw [show a + P * (256 * K) - b = (a % P - b % P) + P * (a / P + 256 * K - b / P) by
          rw [Nat.mul_sub, Nat.mul_add]
          have := Nat.mul_le_mul_left P (show b / P ≤ 256 * K by omega)
          omega, Nat.add_mul_div_left _ _ hp, Nat.div_eq_of_lt (by omega), Nat.zero_add]
      rw [hq, if_neg h]
      clear hq ra rb da db h e1 hK
      generalize a / P = x at *
      generalize b / P = y at *
      clear hb
      omega
  · rw [e1 a, e1 b]
    generalize a / P % 256 = x at *
    generalize b / P % 256 = y at *
    rcases Nat.lt_trichotomy x y with h | h | h
    · have := Nat.mul_le_mul_left P (show x + 1 ≤ y by omega)
      rw [Nat.mul_add] at this
      rw [if_pos (by omega), if_pos (by omega)]
    · subst h
      by_cases h : a % P < b % P
      · rw [if_pos (by omega), if_pos h, if_pos (by omega)]
      · rw [if_neg (by omega), if_neg h, if_neg (by omega)]
    · have := Nat.mul_le_mul_left P (show y + 1 ≤ x by omega)
      rw [Nat.mul_add] at this
      rw [if_neg (by omega)]
      split <;> rw [if_neg (by omega)]

end Go.Proofs.Ytplcdjmidelboaa
