/- Plain numbers: SHA-1 as a function of numbers. Nothing of the program is named here. -/
import Derived.WalkKit
import Derived.Laws.BitsAllLaws
import Derived.Test.YtplcdjmidelboaaNum
namespace Go.Proofs.Ytplcdjmidelboaa
open Go.RowKit

/-- turned to the left by n -/
def rotl (v n : Nat) : Nat := (v % 2 ^ (32 - n)) * 2 ^ n + v / 2 ^ (32 - n)
def left1 (v : Nat) : Nat := 2 * (v % 2147483648) + v / 2147483648

theorem rotl_lt (v n : Nat) (hn : n ≤ 32) (hv : v < 4294967296) : rotl v n < 4294967296 := by
  unfold rotl
  have hPQ : 2 ^ (32 - n) * 2 ^ n = 4294967296 := by rw [← Nat.pow_add, show 32 - n + n = 32 by omega]
  have hQ : 0 < 2 ^ (32 - n) := Nat.pow_pos (by omega)
  have hP : 0 < 2 ^ n := Nat.pow_pos (by omega)
  generalize 2 ^ (32 - n) = Q at *
  generalize 2 ^ n = P at *
  have h1 : v % Q + 1 ≤ Q := Nat.mod_lt _ hQ
  have h2 := Nat.mul_le_mul_right P h1
  have h3 : v / Q < P := by rw [Nat.div_lt_iff_lt_mul hQ, Nat.mul_comm, hPQ]; exact hv
  rw [Nat.add_mul] at h2
  omega
theorem rotl_zero (v : Nat) (hv : v < 4294967296) : rotl v 0 = v := by
  unfold rotl
  simp only [Nat.sub_zero, Nat.pow_zero, Nat.mul_one]
  rw [Nat.mod_eq_of_lt hv, Nat.div_eq_of_lt hv, Nat.add_zero]
theorem rotl_one (v : Nat) : rotl v 1 = left1 v := by
  unfold rotl left1
  rw [show (2 : Nat) ^ (32 - 1) = 2147483648 from rfl]
  omega
theorem rotl_succ (v n : Nat) (hn : n < 32) (hv : v < 4294967296) : left1 (rotl v n) = rotl v (n + 1) := by
  unfold rotl left1
  have hQ' : 0 < 2 ^ (32 - (n + 1)) := Nat.pow_pos (by omega)
  have hP : 0 < 2 ^ n := Nat.pow_pos (by omega)
  have hPQ : 2 ^ (32 - (n + 1)) * 2 ^ n = 2147483648 := by rw [← Nat.pow_add, show 32 - (n + 1) + n = 31 by omega]
  have hQ : 2 ^ (32 - n) = 2 ^ (32 - (n + 1)) * 2 := by rw [← Nat.pow_succ, show (32 - (n + 1)).succ = 32 - n by omega]
  rw [hQ, Nat.pow_succ, ← Nat.div_div_eq_div_mul, Nat.mod_mul]
  generalize 2 ^ (32 - (n + 1)) = Q at *
  generalize 2 ^ n = P at *
  have hx : v / Q < 2 * P := by rw [Nat.div_lt_iff_lt_mul hQ', Nat.mul_comm, ← Nat.mul_assoc, Nat.mul_comm Q 2, Nat.mul_assoc, hPQ]; exact hv
  have hy : v % Q + 1 ≤ Q := Nat.mod_lt _ hQ'
  have h2 := Nat.mul_le_mul_right P hy
  rw [Nat.add_mul, hPQ] at h2
  generalize v / Q = x at *
  generalize v % Q = y at *
  have e : (y + Q * (x % 2)) * P = y * P + 2147483648 * (x % 2) := by
    rw [Nat.add_mul, Nat.mul_right_comm, hPQ]
  rw [e, show y * (P * 2) = 2 * (y * P) by rw [← Nat.mul_assoc]; omega]
  generalize y * P = z at *
  omega
theorem left1_lt (v : Nat) (hv : v < 4294967296) : left1 v < 4294967296 := by unfold left1; omega
/-- turned by one as often as n -/
def leftN (v : Nat) : Nat → Nat
  | 0 => v
  | n + 1 => left1 (leftN v n)
theorem leftN_eq (v n : Nat) (hn : n ≤ 32) (hv : v < 4294967296) : leftN v n = rotl v n := by
  induction n with
  | zero => exact (rotl_zero v hv).symm
  | succ n ih => rw [leftN, ih (by omega), rotl_succ v n (by omega) hv]
/-- the low bits, moved up, and the high ones: what '|' makes of them -/
theorem rotl_or (v n : Nat) (hn : n ≤ 32) (hv : v < 4294967296) : (v * 2 ^ n % 4294967296) ||| (v / 2 ^ (32 - n)) = rotl v n := by
  have hPQ : 2 ^ n * 2 ^ (32 - n) = 4294967296 := by rw [← Nat.pow_add, show n + (32 - n) = 32 by omega]
  have e : v * 2 ^ n % 4294967296 = v % 2 ^ (32 - n) * 2 ^ n := by
    rw [← hPQ, Nat.mul_comm v, Nat.mul_mod_mul_left, Nat.mul_comm]
  rw [e]
  unfold rotl
  refine nat_join n _ _ (Nat.mul_mod_left _ _) ?_
  rw [Nat.div_lt_iff_lt_mul (Nat.pow_pos (by omega)), hPQ]
  exact hv

theorem not_eq (b : Nat) (h : b < 4294967296) : 4294967295 ^^^ b = 4294967295 - b := by
  have h1 : (BitVec.allOnes 32 ^^^ BitVec.ofNat 32 b).toNat = (~~~ (BitVec.ofNat 32 b)).toNat := by rw [BitVec.allOnes_xor]
  rw [BitVec.toNat_xor, BitVec.toNat_not, BitVec.toNat_allOnes, BitVec.toNat_ofNat, Nat.mod_eq_of_lt (show b < 2 ^ 32 from h)] at h1
  simpa using h1
theorem xor_lt {a b : Nat} (ha : a < 4294967296) (hb : b < 4294967296) : a ^^^ b < 4294967296 := Nat.xor_lt_two_pow (n := 32) ha hb
theorem or_lt {a b : Nat} (ha : a < 4294967296) (hb : b < 4294967296) : a ||| b < 4294967296 := Nat.or_lt_two_pow (n := 32) ha hb
theorem and_lt {a b : Nat} (ha : a < 4294967296) : a &&& b < 4294967296 := Nat.lt_of_le_of_lt Nat.and_le_left ha

/-- f of a step -/
def fOf (t b c d : Nat) : Nat :=
  if t < 20 then (b &&& c) ||| ((4294967295 - b) &&& d) else if t < 40 then (b ^^^ c) ^^^ d else if t < 60 then ((b &&& c) ||| (b &&& d)) ||| (c &&& d) else (b ^^^ c) ^^^ d
/-- k of a step -/
def kOf (t : Nat) : Nat := if t < 20 then 1518500249 else if t < 40 then 1859775393 else if t < 60 then 2400959708 else 3395469782
theorem kOf_lt (t : Nat) : kOf t < 4294967296 := by unfold kOf; split; decide; split; decide; split <;> decide
theorem fOf_lt {t b c d : Nat} (hb : b < 4294967296) (hc : c < 4294967296) (hd : d < 4294967296) : fOf t b c d < 4294967296 := by
  unfold fOf
  split
  · exact or_lt (and_lt hb) (and_lt (by omega))
  split
  · exact xor_lt (xor_lt hb hc) hd
  split
  · exact or_lt (or_lt (and_lt hb) (and_lt hb)) (and_lt hc)
  · exact xor_lt (xor_lt hb hc) hd

/-- five numbers -/
structure S5 where
  a : Nat
  b : Nat
  c : Nat
  d : Nat
  e : Nat
def S5.list (s : S5) : List Nat := [s.a, s.b, s.c, s.d, s.e]
structure S5.ok (s : S5) : Prop where
  a : s.a < 4294967296
  b : s.b < 4294967296
  c : s.c < 4294967296
  d : s.d < 4294967296
  e : s.e < 4294967296
/-- one step of the eighty -/
def rnd (t x : Nat) (s : S5) : S5 := ⟨((((rotl s.a 5 + fOf t s.b s.c s.d) % 4294967296 + s.e) % 4294967296 + kOf t) % 4294967296 + x) % 4294967296, s.a, rotl s.b 30, s.c, s.d⟩
theorem rnd_ok (t x : Nat) {s : S5} (h : s.ok) : (rnd t x s).ok := ⟨Nat.mod_lt _ (by decide), h.a, rotl_lt _ _ (by omega) h.b, h.c, h.d⟩
def runs (w : Nat → Nat) (s : S5) : Nat → S5
  | 0 => s
  | t + 1 => rnd t (w t) (runs w s t)
theorem runs_ok (w : Nat → Nat) {s : S5} (h : s.ok) (t : Nat) : (runs w s t).ok := by
  induction t with
  | zero => exact h
  | succ t ih => exact rnd_ok _ _ ih
def added (h m : S5) : S5 := ⟨(h.a + m.a) % 4294967296, (h.b + m.b) % 4294967296, (h.c + m.c) % 4294967296, (h.d + m.d) % 4294967296, (h.e + m.e) % 4294967296⟩
theorem added_ok (h m : S5) : (added h m).ok := ⟨Nat.mod_lt _ (by decide), Nat.mod_lt _ (by decide), Nat.mod_lt _ (by decide), Nat.mod_lt _ (by decide), Nat.mod_lt _ (by decide)⟩

/-- a byte of a text -/
def byteAt (s : ByteArray) (i : Nat) : Nat := (s.data.getD i 0).toNat
theorem byteAt_lt (s : ByteArray) (i : Nat) : byteAt s i < 256 := (s.data.getD i 0).toNat_lt
/-- the number of m bytes, from o on -/
def beN (s : ByteArray) (o : Nat) : Nat → Nat
  | 0 => 0
  | m + 1 => 256 * beN s o m + byteAt s (o + m)
theorem beN_lt (s : ByteArray) (o m : Nat) : beN s o m < 256 ^ m := by
  induction m with
  | zero => simp [beN]
  | succ m ih => rw [beN, Nat.pow_succ]; have := byteAt_lt s (o + m); omega
/-- the words: the first sixteen, and n more -/
def wl (s : ByteArray) : Nat → List Nat
  | 0 => (List.range 16).map fun j => beN s (4 * j) 4
  | n + 1 => wl s n ++ [rotl ((((wl s n).getD (n + 13) 0 ^^^ (wl s n).getD (n + 8) 0) ^^^ (wl s n).getD (n + 2) 0) ^^^ (wl s n).getD n 0) 1]
theorem wl_length (s : ByteArray) (n : Nat) : (wl s n).length = 16 + n := by
  induction n with
  | zero => simp [wl]
  | succ n ih => simp [wl, ih]; omega
def wd (s : ByteArray) (t : Nat) : Nat := (wl s 64).getD t 0
theorem wl_prefix (s : ByteArray) (n m : Nat) : wl s n = (wl s (n + m)).take (16 + n) := by
  induction m with
  | zero => rw [Nat.add_zero, List.take_of_length_le (by rw [wl_length]; omega)]
  | succ m ih => rw [show n + (m + 1) = (n + m) + 1 by omega, wl, List.take_append_of_le_length (by rw [wl_length]; omega)]; exact ih
theorem wl_getD (s : ByteArray) (n t : Nat) (hn : n ≤ 64) (ht : t < 16 + n) : (wl s n).getD t 0 = wd s t := by
  unfold wd
  have := wl_prefix s n (64 - n)
  rw [show n + (64 - n) = 64 by omega] at this
  rw [this, List.getD_eq_getElem?_getD, List.getD_eq_getElem?_getD, List.getElem?_take, if_pos ht]
theorem wd_low (s : ByteArray) (t : Nat) (h : t < 16) : wd s t = beN s (4 * t) 4 := by
  rw [← wl_getD s 0 t (by omega) (by omega), wl, List.getD_eq_getElem?_getD, List.getElem?_map, List.getElem?_range h]
  rfl
theorem wd_high (s : ByteArray) (t : Nat) (h : 16 ≤ t) (h' : t < 80) : wd s t = rotl (((wd s (t - 3) ^^^ wd s (t - 8)) ^^^ wd s (t - 14)) ^^^ wd s (t - 16)) 1 := by
  obtain ⟨n, rfl⟩ : ∃ n, t = 16 + n := ⟨t - 16, by omega⟩
  rw [← wl_getD s (n + 1) (16 + n) (by omega) (by omega), wl, List.getD_eq_getElem?_getD, List.getElem?_append_right (by rw [wl_length]; omega), wl_length, Nat.sub_self]
  rw [wl_getD s n _ (by omega) (by omega), wl_getD s n _ (by omega) (by omega), wl_getD s n _ (by omega) (by omega), wl_getD s n _ (by omega) (by omega)]
  rw [show 16 + n - 3 = n + 13 by omega, show 16 + n - 8 = n + 8 by omega, show 16 + n - 14 = n + 2 by omega, show 16 + n - 16 = n by omega]
  rfl
theorem wd_lt (s : ByteArray) (t : Nat) : wd s t < 4294967296 := by
  induction t using Nat.strongRecOn with
  | ind t ih =>
    by_cases h : t < 16
    · rw [wd_low s t h]; exact beN_lt s (4 * t) 4
    · by_cases h' : t < 80
      · rw [wd_high s t (by omega) h']
        exact rotl_lt _ _ (by omega) (xor_lt (xor_lt (xor_lt (ih _ (by omega)) (ih _ (by omega))) (ih _ (by omega))) (ih _ (by omega)))
      · unfold wd
        rw [List.getD_eq_getElem?_getD, List.getElem?_eq_none (by rw [wl_length]; omega)]
        decide
/-- a step of a whole block -/
def stepS (h : S5) (s : ByteArray) : S5 := added h (runs (wd s) h 80)
theorem stepS_ok (h : S5) (s : ByteArray) : (stepS h s).ok := added_ok _ _
def startS : S5 := ⟨1732584193, 4023233417, 2562383102, 271733878, 3285377520⟩
theorem startS_ok : startS.ok := ⟨by decide, by decide, by decide, by decide, by decide⟩
end Go.Proofs.Ytplcdjmidelboaa
