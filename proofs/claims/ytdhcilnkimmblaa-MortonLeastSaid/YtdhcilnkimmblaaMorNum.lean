/- Plain numbers: two numbers woven into one, bit by bit. Nothing of the program is named here. -/
import Derived.WalkKit
namespace Go.Proofs.Ytdhcilnkimmblaa

/-- k bits of both, woven: the first one's at the even places -/
def wv : Nat → Nat → Nat → Nat
  | 0, _, _ => 0
  | k + 1, x, y => x % 2 + 2 * (y % 2) + 4 * wv k (x / 2) (y / 2)
/-- the k bits at the even places -/
def ev : Nat → Nat → Nat
  | 0, _ => 0
  | k + 1, z => z % 2 + 2 * ev k (z / 4)
/-- the k bits at the odd places -/
def od : Nat → Nat → Nat
  | 0, _ => 0
  | k + 1, z => z / 2 % 2 + 2 * od k (z / 4)

theorem wv_lt (k x y : Nat) : wv k x y < 4 ^ k := by
  induction k generalizing x y with
  | zero => simp [wv]
  | succ k ih => have := ih (x / 2) (y / 2); rw [wv, Nat.pow_succ]; omega
theorem ev_lt (k z : Nat) : ev k z < 2 ^ k := by
  induction k generalizing z with
  | zero => simp [ev]
  | succ k ih => have := ih (z / 4); rw [ev, Nat.pow_succ]; omega
theorem od_lt (k z : Nat) : od k z < 2 ^ k := by
  induction k generalizing z with
  | zero => simp [od]
  | succ k ih => have := ih (z / 4); rw [od, Nat.pow_succ]; omega
theorem ev_wv (k x y : Nat) : ev k (wv k x y) = x % 2 ^ k := by
  induction k generalizing x y with
  | zero => simp [ev, Nat.mod_one]
  | succ k ih =>
    have h := ih (x / 2) (y / 2)
    rw [ev, wv]
    have e : (x % 2 + 2 * (y % 2) + 4 * wv k (x / 2) (y / 2)) / 4 = wv k (x / 2) (y / 2) := by omega
    have e2 : (x % 2 + 2 * (y % 2) + 4 * wv k (x / 2) (y / 2)) % 2 = x % 2 := by omega
    rw [e, e2, h, Nat.pow_succ, Nat.mul_comm (2 ^ k) 2, Nat.mod_mul]
theorem od_wv (k x y : Nat) : od k (wv k x y) = y % 2 ^ k := by
  induction k generalizing x y with
  | zero => simp [od, Nat.mod_one]
  | succ k ih =>
    have h := ih (x / 2) (y / 2)
    rw [od, wv]
    have e : (x % 2 + 2 * (y % 2) + 4 * wv k (x / 2) (y / 2)) / 4 = wv k (x / 2) (y / 2) := by omega
    have e2 : (x % 2 + 2 * (y % 2) + 4 * wv k (x / 2) (y / 2)) / 2 % 2 = y % 2 := by omega
    rw [e, e2, h, Nat.pow_succ, Nat.mul_comm (2 ^ k) 2, Nat.mod_mul]
theorem wv_parts (k z : Nat) : wv k (ev k z) (od k z) = z % 4 ^ k := by
  induction k generalizing z with
  | zero => simp [wv, Nat.mod_one]
  | succ k ih =>
    have h := ih (z / 4)
    rw [wv, ev, od]
    have e : (z % 2 + 2 * ev k (z / 4)) / 2 = ev k (z / 4) := by omega
    have e2 : (z / 2 % 2 + 2 * od k (z / 4)) / 2 = od k (z / 4) := by omega
    rw [e, e2, h, Nat.pow_succ, Nat.mul_comm (4 ^ k) 4, Nat.mod_mul]
    omega
theorem wv_inj {k x y x' y' : Nat} (hx : x < 2 ^ k) (hy : y < 2 ^ k) (hx' : x' < 2 ^ k) (hy' : y' < 2 ^ k) (h : wv k x y = wv k x' y') : x = x' ∧ y = y' := by
  have h1 := congrArg (ev k) h
  have h2 := congrArg (od k) h
  rw [ev_wv, ev_wv, Nat.mod_eq_of_lt hx, Nat.mod_eq_of_lt hx'] at h1
  rw [od_wv, od_wv, Nat.mod_eq_of_lt hy, Nat.mod_eq_of_lt hy'] at h2
  exact ⟨h1, h2⟩
/-- low bits away: an even number of them -/
theorem ev_shift (k j z : Nat) : ev k (z / 4 ^ j) = ev (k + j) z / 2 ^ j := by
  induction j generalizing z k with
  | zero => simp
  | succ j ih =>
    have h := ih k (z / 4)
    rw [Nat.pow_succ, Nat.mul_comm (4 ^ j) 4, ← Nat.div_div_eq_div_mul, h, ← Nat.add_assoc, ev, Nat.pow_succ, Nat.mul_comm (2 ^ j) 2, ← Nat.div_div_eq_div_mul]
    congr 1
    omega
theorem od_shift (k j z : Nat) : od k (z / 4 ^ j) = od (k + j) z / 2 ^ j := by
  induction j generalizing z k with
  | zero => simp
  | succ j ih =>
    have h := ih k (z / 4)
    rw [Nat.pow_succ, Nat.mul_comm (4 ^ j) 4, ← Nat.div_div_eq_div_mul, h, ← Nat.add_assoc, od, Nat.pow_succ, Nat.mul_comm (2 ^ j) 2, ← Nat.div_div_eq_div_mul]
    congr 1
    omega
theorem wv_shift (k j x y : Nat) : wv k (x / 2 ^ j) (y / 2 ^ j) = wv (k + j) x y / 4 ^ j := by
  induction j generalizing x y k with
  | zero => simp
  | succ j ih =>
    have h := ih k (x / 2) (y / 2)
    rw [Nat.pow_succ, Nat.mul_comm (2 ^ j) 2, ← Nat.div_div_eq_div_mul, ← Nat.div_div_eq_div_mul, h, ← Nat.add_assoc, wv, Nat.pow_succ, Nat.mul_comm (4 ^ j) 4, ← Nat.div_div_eq_div_mul]
    congr 1
    omega
/-- a key rises with each of its two numbers -/
theorem wv_mono (k x y x' y' : Nat) (hx : x ≤ x') (hy : y ≤ y') (hx' : x' < 2 ^ k) (hy' : y' < 2 ^ k) : wv k x y ≤ wv k x' y' := by
  induction k generalizing x y x' y' with
  | zero => simp [wv]
  | succ k ih =>
    rw [Nat.pow_succ] at hx' hy'
    have h := ih (x / 2) (y / 2) (x' / 2) (y' / 2) (by omega) (by omega) (by omega) (by omega)
    have hm := @wv_inj k (x / 2) (y / 2) (x' / 2) (y' / 2) (by omega) (by omega) (by omega) (by omega)
    rw [wv, wv]
    rcases Nat.lt_or_ge (wv k (x / 2) (y / 2)) (wv k (x' / 2) (y' / 2)) with h1 | h1
    · omega
    · obtain ⟨h2, h3⟩ := hm (by omega)
      rw [h2, h3]
      omega
end Go.Proofs.Ytdhcilnkimmblaa
