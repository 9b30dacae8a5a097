/- Texts of mine in one: bytes. -/
import Derived.Test.YtkicndengkcojaaPkA
import Derived.Laws.MathBits
import Derived.Laws.IdiomStrings
import Derived.Laws.CopyRow
import Derived.Lib.Tables
import Derived.Deep.Light
import Derived.Deep.Cut
import Derived.Laws.OwnMore
import Derived.StillTailTactics

/- Bytes of numbers, texts, places and labels, as lists of numbers, and what reads them again. Nothing of the program is named here. -/
namespace Go.Proofs.Ytkicndengkcojaa
set_option maxRecDepth 100000
open Go.RowKit

/-! values of bytes, the highest one first -/
def valN : List Nat → Nat
  | [] => 0
  | b :: r => valN r + 256 ^ r.length * b
theorem valN_spec (l : List Nat) (h : ∀ b ∈ l, b < 256) : valN l < 256 ^ l.length ∧ dig l.length (valN l) = l := by
  induction l with
  | nil => exact ⟨by simp [valN], rfl⟩
  | cons b r ih =>
    obtain ⟨hn, hd⟩ := ih (fun x hx => h x (List.mem_cons_of_mem _ hx))
    have hb : b < 256 := h b (List.mem_cons_self ..)
    have hp : 0 < 256 ^ r.length := Nat.pow_pos (by omega)
    refine ⟨?_, ?_⟩
    · have : 256 ^ r.length * (b + 1) ≤ 256 ^ r.length * 256 := Nat.mul_le_mul_left _ (by omega)
      simp only [List.length_cons, Nat.pow_succ, valN]
      rw [Nat.mul_add] at this
      omega
    · rw [List.length_cons, dig, valN]
      congr 1
      · rw [Nat.add_mul_div_left _ _ hp, Nat.div_eq_of_lt hn, Nat.zero_add, Nat.mod_eq_of_lt hb]
      · conv => rhs; rw [← hd]
        exact dig_eq_of (Nat.add_mul_mod_self_left _ _ _)
theorem valN_lt {l : List Nat} (h : ∀ b ∈ l, b < 256) : valN l < 256 ^ l.length := (valN_spec l h).1
theorem dig_valN {l : List Nat} (h : ∀ b ∈ l, b < 256) {k : Nat} (hk : l.length = k) : dig k (valN l) = l := hk ▸ (valN_spec l h).2
theorem dig_lt (k n : Nat) : ∀ b ∈ dig k n, b < 256 := by
  induction k with
  | zero => intro b hb; cases hb
  | succ k ih =>
    intro b hb
    rcases List.mem_cons.1 hb with rfl | hb
    · exact Nat.mod_lt _ (by omega)
    · exact ih b hb
theorem valN_dig (k n : Nat) : valN (dig k n) = n % 256 ^ k := by
  have h := valN_spec (dig k n) (dig_lt k n)
  rw [dig_length] at h
  have := dig_inj h.2
  rwa [Nat.mod_eq_of_lt h.1] at this
theorem valN_append (a b : List Nat) : valN (a ++ b) = valN a * 256 ^ b.length + valN b := by
  induction a with
  | nil => simp [valN]
  | cons c r ih =>
    rw [List.cons_append, valN, valN, ih, List.length_append, Nat.pow_add, Nat.add_mul, Nat.mul_right_comm (256 ^ r.length) c]
    omega
theorem valN_snoc (a : List Nat) (x : Nat) : valN (a ++ [x]) = 256 * valN a + x := by
  rw [valN_append]
  simp [valN]
  omega
theorem valN_zeros (k : Nat) : valN (List.replicate k 0) = 0 := by
  induction k with
  | zero => rfl
  | succ k ih => rw [List.replicate_succ, valN, ih]; omega
theorem valN_front (k : Nat) (l : List Nat) : valN (List.replicate k 0 ++ l) = valN l := by rw [valN_append, valN_zeros]; omega
theorem valN_behind (k : Nat) (l : List Nat) : valN (l ++ List.replicate k 0) = valN l * 256 ^ k := by rw [valN_append, valN_zeros, List.length_replicate]; rfl
theorem dig_take (n k : Nat) : ∀ j, (dig (k + j) n).take k = dig k (n / 256 ^ j) := by
  intro j
  apply List.ext_getElem?
  intro i
  rcases Nat.lt_or_ge i k with h | h
  · rw [List.getElem?_take, if_pos h, dig_get _ _ _ (by omega), dig_get _ _ _ h, Nat.div_div_eq_div_mul, ← Nat.pow_add]
    congr 4
    omega
  · rw [List.getElem?_eq_none (by simp [dig_length]; omega), List.getElem?_eq_none (by simp [dig_length]; omega)]
theorem dig_drop (n k : Nat) : ∀ j, (dig (j + k) n).drop j = dig k n := by
  intro j
  apply List.ext_getElem?
  intro i
  rcases Nat.lt_or_ge i k with h | h
  · rw [List.getElem?_drop, dig_get _ _ _ (by omega), dig_get _ _ _ h]
    congr 4
    omega
  · rw [List.getElem?_eq_none (by simp [dig_length]; omega), List.getElem?_eq_none (by simp [dig_length]; omega)]

/-! a number's bytes -/
/-- how many bytes tell a number -/
def nb (v : Nat) : Nat := (bitLen v + 7) / 8
theorem pow8 (k : Nat) : 256 ^ k = 2 ^ (8 * k) := by rw [Nat.pow_mul]
theorem nb_le {v k : Nat} : nb v ≤ k ↔ v < 256 ^ k := by
  rw [pow8]
  obtain ⟨h1, h2⟩ := bitLen_spec v
  have e : nb v ≤ k ↔ bitLen v ≤ 8 * k := by unfold nb; omega
  rw [e]
  constructor
  · intro h
    exact Nat.lt_of_lt_of_le h1 (Nat.pow_le_pow_right (by omega) h)
  · intro h
    rcases Nat.lt_or_ge (8 * k) (bitLen v) with hc | hc
    · have hz : v ≠ 0 := by rintro rfl; simp [bitLen] at hc
      have h3 := h2 hz
      have h4 : 2 ^ (8 * k) ≤ 2 ^ (bitLen v - 1) := Nat.pow_le_pow_right (by omega) (by omega)
      omega
    · exact hc
theorem nb_le8 {v : Nat} (h : v < 18446744073709551616) : nb v ≤ 8 := nb_le.2 (by simpa using h)
theorem lt_nb (v : Nat) : v < 256 ^ nb v := nb_le.1 (Nat.le_refl _)
theorem nb_zero : nb 0 = 0 := by decide
def numN (v : Nat) : List Nat := nb v :: dig (nb v) v
theorem numN_length (v : Nat) : (numN v).length = 1 + nb v := by rw [numN, List.length_cons, dig_length]; omega
theorem numN_lt {v : Nat} (hv : v < 18446744073709551616) : ∀ b ∈ numN v, b < 256 := by
  intro b hb
  rcases List.mem_cons.1 hb with rfl | hb
  · have := nb_le8 hv; omega
  · exact dig_lt _ _ b hb

/-- what a number is read as: the number, how many bytes, and the code -/
def rNum : List Nat → Nat × Nat × Nat
  | [] => (0, 0, 4)
  | c :: t => if 8 < c then (0, 0, 3) else if t.length < c then (0, 0, 4) else if nb (valN (t.take c)) < c then (0, 0, 3) else (valN (t.take c), 1 + c, 0)
theorem rNum_put {v : Nat} (hv : v < 18446744073709551616) (r : List Nat) : rNum (numN v ++ r) = (v, 1 + nb v, 0) := by
  have h8 := nb_le8 hv
  have e : (dig (nb v) v ++ r).take (nb v) = dig (nb v) v := by rw [List.take_append_of_le_length (by rw [dig_length]; omega), List.take_of_length_le (by rw [dig_length]; omega)]
  have ev : valN (dig (nb v) v) = v := by rw [valN_dig, Nat.mod_eq_of_lt (lt_nb v)]
  rw [numN, List.cons_append, rNum, if_neg (by omega), if_neg (by simp [dig_length]), e, ev, if_neg (by omega)]
theorem rNum_cut {v : Nat} (hv : v < 18446744073709551616) (j : Nat) (hj : j < 1 + nb v) : rNum ((numN v).take j) = (0, 0, 4) := by
  have h8 := nb_le8 hv
  cases j with
  | zero => rfl
  | succ j => rw [numN, List.take_succ_cons, rNum, if_neg (by omega), if_pos (by simp [dig_length]; omega)]
theorem rNum_code (l : List Nat) : (rNum l).2.2 = 0 ∨ ((rNum l).2.2 = 3 ∧ (rNum l).1 = 0 ∧ (rNum l).2.1 = 0) ∨ ((rNum l).2.2 = 4 ∧ (rNum l).1 = 0 ∧ (rNum l).2.1 = 0) := by
  cases l with
  | nil => simp [rNum]
  | cons c t =>
    simp only [rNum]
    split
    · simp
    split
    · simp
    split <;> simp
theorem rNum_only {l : List Nat} (hl : ∀ b ∈ l, b < 256) (h : (rNum l).2.2 = 0) : (rNum l).2.1 ≤ l.length ∧ numN (rNum l).1 = l.take (rNum l).2.1 ∧ (rNum l).1 < 18446744073709551616 := by
  cases l with
  | nil => simp [rNum] at h
  | cons c t =>
    have hb : ∀ b ∈ t.take c, b < 256 := fun b hb => hl b (List.mem_cons_of_mem _ (List.mem_of_mem_take hb))
    simp only [rNum] at h ⊢
    split at h
    · simp at h
    split at h
    · simp at h
    split at h
    · simp at h
    rename_i h1 h2 h3
    rw [if_neg h1, if_neg h2, if_neg h3]
    have hlen : (t.take c).length = c := by rw [List.length_take]; omega
    have hlt := valN_lt hb
    rw [hlen] at hlt
    have hnb : nb (valN (t.take c)) = c := by have := nb_le.2 hlt; omega
    refine ⟨by simp; omega, ?_, ?_⟩
    · rw [numN, hnb, dig_valN hb hlen, Nat.add_comm 1 c, List.take_succ_cons]
    · exact Nat.lt_of_lt_of_le hlt (Nat.le_trans (Nat.pow_le_pow_right (by omega) (show c ≤ 8 by omega)) (by decide))
theorem rNum_lt {l : List Nat} (hl : ∀ b ∈ l, b < 256) : (rNum l).1 < 18446744073709551616 ∧ (rNum l).2.1 ≤ l.length := by
  rcases rNum_code l with h | ⟨_, h1, h2⟩ | ⟨_, h1, h2⟩
  · have := rNum_only hl h; exact ⟨this.2.2, this.1⟩
  · rw [h1, h2]; omega
  · rw [h1, h2]; omega

/-! a text's bytes -/
def txtN (s : List Nat) : List Nat := numN s.length ++ s
theorem txtN_length (s : List Nat) : (txtN s).length = 1 + nb s.length + s.length := by rw [txtN, List.length_append, numN_length]
def rTxt (l : List Nat) : List Nat × Nat × Nat :=
  if (rNum l).2.2 ≠ 0 then ([], 0, (rNum l).2.2) else if 4096 < (rNum l).1 then ([], 0, 3) else if l.length < (rNum l).2.1 + (rNum l).1 then ([], 0, 4)
  else ((l.drop (rNum l).2.1).take (rNum l).1, (rNum l).2.1 + (rNum l).1, 0)
theorem rTxt_put {s : List Nat} (hs : s.length ≤ 4096) (r : List Nat) : rTxt (txtN s ++ r) = (s, (txtN s).length, 0) := by
  have e := rNum_put (v := s.length) (by omega) (s ++ r)
  rw [← List.append_assoc] at e
  unfold rTxt
  rw [show txtN s ++ r = numN s.length ++ s ++ r from rfl, e]
  rw [if_neg (by simp), if_neg (by simp; omega), if_neg (by simp [numN_length])]
  simp only [txtN_length]
  rw [← numN_length, List.append_assoc, List.drop_left]
  simp
theorem rTxt_cut {s : List Nat} (hs : s.length ≤ 4096) (j : Nat) (hj : j < (txtN s).length) : rTxt ((txtN s).take j) = ([], 0, 4) := by
  rw [txtN_length] at hj
  unfold rTxt
  rcases Nat.lt_or_ge j (1 + nb s.length) with h | h
  · have e : (txtN s).take j = (numN s.length).take j := by rw [txtN, List.take_append_of_le_length (by rw [numN_length]; omega)]
    rw [e, rNum_cut (by omega) j h]
    rfl
  · have e : (txtN s).take j = numN s.length ++ s.take (j - (1 + nb s.length)) := by
      rw [txtN, List.take_append, List.take_of_length_le (by rw [numN_length]; omega), numN_length]
    rw [e, rNum_put (by omega)]
    rw [if_neg (by simp), if_neg (by simp; omega), if_pos (by simp [numN_length]; omega)]
theorem rTxt_code (l : List Nat) : (rTxt l).2.2 = 0 ∨ ((rTxt l).2.2 = 3 ∧ (rTxt l).1 = [] ∧ (rTxt l).2.1 = 0) ∨ ((rTxt l).2.2 = 4 ∧ (rTxt l).1 = [] ∧ (rTxt l).2.1 = 0) := by
  unfold rTxt
  split
  · rcases rNum_code l with h | ⟨h, _⟩ | ⟨h, _⟩ <;> simp_all
  split
  · simp
  split <;> simp
theorem rTxt_only {l : List Nat} (hl : ∀ b ∈ l, b < 256) (h : (rTxt l).2.2 = 0) : (rTxt l).2.1 ≤ l.length ∧ txtN (rTxt l).1 = l.take (rTxt l).2.1 ∧ (rTxt l).1.length ≤ 4096 := by
  unfold rTxt at h ⊢
  split at h
  · simp_all
  split at h
  · simp at h
  split at h
  · simp at h
  rename_i h1 h2 h3
  rw [if_neg h1, if_neg h2, if_neg h3]
  obtain ⟨k1, k2, k3⟩ := rNum_only hl (by omega)
  have hlen : ((l.drop (rNum l).2.1).take (rNum l).1).length = (rNum l).1 := by rw [List.length_take, List.length_drop]; omega
  refine ⟨by simp; omega, ?_, by simp only [hlen]; omega⟩
  simp only [txtN, hlen, k2]
  rw [List.take_add]
theorem rTxt_le {l : List Nat} (hl : ∀ b ∈ l, b < 256) : (rTxt l).2.1 ≤ l.length := by
  rcases rTxt_code l with h | ⟨_, h1, h2⟩ | ⟨_, h1, h2⟩
  · exact (rTxt_only hl h).1
  · rw [h2]; omega
  · rw [h2]; omega

/-! a place's bytes -/
def rPl (l : List Nat) : Nat × Nat × Nat := if l.length < 20 then (0, 0, 4) else (valN (l.take 20), 20, 0)
theorem rPl_put {x : Nat} (hx : x < M) (r : List Nat) : rPl (dig 20 x ++ r) = (x, 20, 0) := by
  unfold rPl
  rw [if_neg (by simp [dig_length]), List.take_append_of_le_length (by rw [dig_length]; omega), List.take_of_length_le (by rw [dig_length]; omega), valN_dig, show x % 256 ^ 20 = x from Nat.mod_eq_of_lt hx]
theorem rPl_le (l : List Nat) : (rPl l).2.1 ≤ l.length := by
  unfold rPl
  split <;> simp
  omega
theorem rPl_only {l : List Nat} (hl : ∀ b ∈ l, b < 256) (h : ¬ l.length < 20) : dig 20 (valN (l.take 20)) = l.take 20 ∧ valN (l.take 20) < M := by
  have hb : ∀ b ∈ l.take 20, b < 256 := fun b hb => hl b (List.mem_of_mem_take hb)
  have hlen : (l.take 20).length = 20 := by rw [List.length_take]; omega
  refine ⟨dig_valN hb hlen, ?_⟩
  have := valN_lt hb
  rwa [hlen] at this

/-! a label's bytes -/
def e8 (n : Nat) : Nat := (n + 7) / 8
theorem e8_le {n : Nat} (h : n ≤ 64) : e8 n ≤ 8 := by unfold e8; omega
def labN (n b : Nat) : List Nat := n :: (dig 8 b).take (e8 n)
theorem labN_length {n b : Nat} (h : n ≤ 64) : (labN n b).length = 1 + e8 n := by
  have := e8_le h
  rw [labN, List.length_cons, List.length_take, dig_length]; omega
/-- the bits that some bytes tell -/
def labV (l : List Nat) : Nat := valN l * 256 ^ (8 - l.length)
def rLab : List Nat → Nat × Nat × Nat × Nat
  | [] => (0, 0, 0, 4)
  | c :: t => if 64 < c then (0, 0, 0, 3) else if t.length < e8 c then (0, 0, 0, 4) else if lowB c (labV (t.take (e8 c))) = false then (0, 0, 0, 3) else (c, labV (t.take (e8 c)), 1 + e8 c, 0)
theorem take8 (n b : Nat) (hn : n ≤ 64) (hb : b < 18446744073709551616) (hi : lowB n b = true) : labV ((dig 8 b).take (e8 n)) = b := by
  have h8 := e8_le hn
  obtain ⟨j, hj⟩ : ∃ j, 8 = e8 n + j := ⟨8 - e8 n, by omega⟩
  have e : (dig 8 b).take (e8 n) = dig (e8 n) (b / 256 ^ j) := by
    have := dig_take b (e8 n) j
    rwa [← hj] at this
  unfold labV
  rw [e, dig_length, valN_dig, show 8 - e8 n = j by omega]
  have hp : 0 < 256 ^ j := Nat.pow_pos (by omega)
  have h1 : b / 256 ^ j < 256 ^ e8 n := by
    rw [Nat.div_lt_iff_lt_mul hp, ← Nat.pow_add, ← hj]
    exact hb
  have h2 : b % 256 ^ j = 0 := by
    have h3 : b % gap n = 0 := by unfold lowB at hi; simpa using hi
    have h4 : 256 ^ j ∣ gap n := by
      rw [pow8]; unfold gap
      exact Nat.pow_dvd_pow 2 (by unfold e8 at hj; omega)
    exact Nat.mod_eq_zero_of_dvd (Nat.dvd_trans h4 (Nat.dvd_of_mod_eq_zero h3))
  rw [Nat.mod_eq_of_lt h1, Nat.mul_comm]
  have := Nat.div_add_mod b (256 ^ j)
  omega
theorem rLab_put {n b : Nat} (hn : n ≤ 64) (hb : b < 18446744073709551616) (hi : lowB n b = true) (r : List Nat) : rLab (labN n b ++ r) = (n, b, 1 + e8 n, 0) := by
  have h8 := e8_le hn
  have hl : ((dig 8 b).take (e8 n)).length = e8 n := by rw [List.length_take, dig_length]; omega
  have e : ((dig 8 b).take (e8 n) ++ r).take (e8 n) = (dig 8 b).take (e8 n) := by rw [List.take_append_of_le_length (by omega), List.take_of_length_le (by omega)]
  rw [labN, List.cons_append, rLab, if_neg (by omega), if_neg (by simp [hl]), e, take8 n b hn hb hi, if_neg (by simp [hi])]
theorem rLab_cut {n b : Nat} (hn : n ≤ 64) (j : Nat) (hj : j < 1 + e8 n) : rLab ((labN n b).take j) = (0, 0, 0, 4) := by
  cases j with
  | zero => rfl
  | succ j => rw [labN, List.take_succ_cons, rLab, if_neg (by omega), if_pos (by rw [List.length_take, List.length_take, dig_length]; omega)]
theorem rLab_code (l : List Nat) : (rLab l).2.2.2 = 0 ∨ ((rLab l).2.2.2 = 3 ∧ (rLab l).1 = 0 ∧ (rLab l).2.1 = 0 ∧ (rLab l).2.2.1 = 0) ∨ ((rLab l).2.2.2 = 4 ∧ (rLab l).1 = 0 ∧ (rLab l).2.1 = 0 ∧ (rLab l).2.2.1 = 0) := by
  cases l with
  | nil => simp [rLab]
  | cons c t =>
    simp only [rLab]
    split
    · simp
    split
    · simp
    split <;> simp
theorem labV_lt {l : List Nat} (h : ∀ b ∈ l, b < 256) (h8 : l.length ≤ 8) : labV l < 18446744073709551616 := by
  unfold labV
  have h1 := valN_lt h
  have hp : 0 < 256 ^ (8 - l.length) := Nat.pow_pos (by omega)
  have h2 := Nat.mul_lt_mul_of_pos_right h1 hp
  rw [← Nat.pow_add, show l.length + (8 - l.length) = 8 by omega] at h2
  exact h2
theorem rLab_only {l : List Nat} (hl : ∀ b ∈ l, b < 256) (h : (rLab l).2.2.2 = 0) : (rLab l).2.2.1 ≤ l.length ∧ labN (rLab l).1 (rLab l).2.1 = l.take (rLab l).2.2.1 ∧ (rLab l).1 ≤ 64 ∧ (rLab l).2.1 < 18446744073709551616 ∧ lowB (rLab l).1 (rLab l).2.1 = true := by
  cases l with
  | nil => simp [rLab] at h
  | cons c t =>
    have hb : ∀ b ∈ t.take (e8 c), b < 256 := fun b hb => hl b (List.mem_cons_of_mem _ (List.mem_of_mem_take hb))
    simp only [rLab] at h ⊢
    split at h
    · simp at h
    split at h
    · simp at h
    split at h
    · simp at h
    rename_i h1 h2 h3
    rw [if_neg h1, if_neg h2, if_neg h3]
    have h8 := e8_le (n := c) (by omega)
    have hlen : (t.take (e8 c)).length = e8 c := by rw [List.length_take]; omega
    refine ⟨by simp; omega, ?_, by simp; omega, labV_lt hb (by omega), by simpa using h3⟩
    have e : (dig 8 (labV (t.take (e8 c)))).take (e8 c) = t.take (e8 c) := by
      obtain ⟨j, hj⟩ : ∃ j, 8 = e8 c + j := ⟨8 - e8 c, by omega⟩
      have := dig_take (labV (t.take (e8 c))) (e8 c) j
      rw [← hj] at this
      rw [this]
      unfold labV
      rw [hlen, show 8 - e8 c = j by omega, Nat.mul_div_cancel _ (Nat.pow_pos (by omega))]
      exact dig_valN hb hlen
    simp only [labN]
    rw [e, Nat.add_comm 1, List.take_succ_cons]
theorem rLab_le {l : List Nat} (hl : ∀ b ∈ l, b < 256) : (rLab l).2.2.1 ≤ l.length := by
  rcases rLab_code l with h | ⟨_, _, _, h2⟩ | ⟨_, _, _, h2⟩
  · exact (rLab_only hl h).1
  · rw [h2]; omega
  · rw [h2]; omega
end Go.Proofs.Ytkicndengkcojaa

/- A reader in memory, and what a call may change: its own block, and one more. Copies from slice to slice. Nothing of the program is named here but its types. -/
namespace Go.Proofs.Ytkicndengkcojaa
set_option maxRecDepth 100000
open Go.RowKit Go.Sort

/-- all that was there is as it was, but for two blocks -/
structure Keep (w w' : World) (g b : Nat) : Prop where
  os : w'.os = w.os
  tape : w'.tape = w.tape
  output : w'.output = w.output
  size : w.heap.size ≤ w'.heap.size
  block : ∀ k, k < w.heap.size → k ≠ g → k ≠ b → w'.heap[k]? = w.heap[k]?
theorem Keep.of {w w' : World} (h : Below w.heap.size w w') (g b : Nat) : Keep w w' g b := ⟨h.os, h.tape, h.output, h.size, fun k hk _ _ => h.block k hk⟩
theorem Keep.refl (w : World) (g b : Nat) : Keep w w g b := Keep.of (Below.refl _ _) g b
theorem Keep.trans {w w1 w2 : World} {g b : Nat} (h : Keep w w1 g b) (k : Keep w1 w2 g b) : Keep w w2 g b :=
  ⟨k.os.trans h.os, k.tape.trans h.tape, k.output.trans h.output, Nat.le_trans h.size k.size, fun i hi h1 h2 => (k.block i (Nat.lt_of_lt_of_le hi h.size) h1 h2).trans (h.block i hi h1 h2)⟩
/-- a block that was made behind may be changed -/
theorem Keep.new {w w1 w2 : World} {g b : Nat} (h : Keep w w1 g g) (k : Keep w1 w2 g b) (hb : w.heap.size ≤ b) : Keep w w2 g g :=
  ⟨k.os.trans h.os, k.tape.trans h.tape, k.output.trans h.output, Nat.le_trans h.size k.size, fun i hi h1 _ => (k.block i (Nat.lt_of_lt_of_le hi h.size) h1 (by omega)).trans (h.block i hi h1 h1)⟩
theorem Keep.below {B : Nat} {w0 w w' : World} {g b : Nat} (h : Below B w0 w) (k : Keep w w' g b) (hB : B ≤ w.heap.size) (hg : B ≤ g) (hb : B ≤ b) : Below B w0 w' :=
  h.trans ⟨k.os, k.tape, k.output, k.size, fun i hi => k.block i (Nat.lt_of_lt_of_le hi hB) (by omega) (by omega)⟩
theorem Keep.setCell {w w' : World} {g b : Nat} (k : Keep w w' g b) (i : Nat) (v : Value) : Keep w (w'.setCell ⟨g, i, none⟩ v) g b :=
  ⟨k.os, k.tape, k.output, by simpa [World.setCell] using k.size, fun j hj h1 h2 => (Below.heap_setCell _ _ _ _ (by simpa using h1)).trans (k.block j hj h1 h2)⟩
theorem Keep.setRow {w w' : World} {g b : Nat} (k : Keep w w' g b) (cs : Array Value) : Keep w (w'.setRow b cs) g b :=
  ⟨k.os, k.tape, k.output, by simpa [World.setRow] using k.size, fun j hj h1 h2 => (Go.setRow_other w' b j cs h2).trans (k.block j hj h1 h2)⟩
theorem Blk.keep {w w' : World} {g b j : Nat} {cs : Array Value} {t : TypeId} (h : Blk w j cs t) (k : Keep w w' g b) (h1 : j ≠ g) (h2 : j ≠ b) : Blk w' j cs t := (k.block j h.lt h1 h2).trans h

/-- a block whose first cells are a text's bytes -/
def Src (w : World) (h : Nat) (s : ByteArray) : Prop := ∃ C e fr, w.heap[h]? = some (.cells C e fr) ∧ ∀ j, j < s.size → C[j]? = some (.int .u8 (byteAt s j : Nat))
theorem Src.lt {w : World} {h : Nat} {s : ByteArray} (k : Src w h s) : h < w.heap.size := by
  obtain ⟨C, e, fr, h1, _⟩ := k
  exact (Array.getElem?_eq_some_iff.1 h1).1
theorem Src.keep {w w' : World} {h g b : Nat} {s : ByteArray} (k : Src w h s) (kk : Keep w w' g b) (h1 : h ≠ g) (h2 : h ≠ b) : Src w' h s := by
  have hl := k.lt
  obtain ⟨C, e, fr, h3, h4⟩ := k
  exact ⟨C, e, fr, (kk.block h hl h1 h2).trans h3, h4⟩
theorem Src.cell {w : World} {h : Nat} {s : ByteArray} (k : Src w h s) (j : Nat) (hj : j < s.size) : w.cell? ⟨h, j, none⟩ = some (.int .u8 (byteAt s j : Nat)) := by
  obtain ⟨C, e, fr, h1, h2⟩ := k
  rw [cell_of_row w h j C e fr h1, h2 j hj]

/-- a reader's cells -/
def rdc (h n c p : Nat) : Array Value := #[.slice (some ⟨h, 0, none⟩) n c, .int .i64 (p : Int)]
/-- a reader lies in block g, its bytes in block h -/
structure Rd (w : World) (g h c : Nat) (s : ByteArray) (p : Nat) : Prop where
  blk : Blk w g (rdc h s.size c p) 110
  src : Src w h s
  le : p ≤ s.size
  cap : s.size ≤ c
  ne : h < g
theorem Rd.lt {w : World} {g h c : Nat} {s : ByteArray} {p : Nat} (k : Rd w g h c s p) : g < w.heap.size := k.blk.lt
theorem Rd.keep {w w' : World} {g h c : Nat} {s : ByteArray} {p : Nat} {g' b : Nat} (k : Rd w g h c s p) (kk : Keep w w' g' b) (h1 : g ≠ g') (h2 : g ≠ b) (h3 : h ≠ g') (h4 : h ≠ b) : Rd w' g h c s p :=
  ⟨k.blk.keep kk h1 h2, k.src.keep kk h3 h4, k.le, k.cap, k.ne⟩
theorem Rd.below {w w' : World} {g h c : Nat} {s : ByteArray} {p : Nat} (k : Rd w g h c s p) (hb : Below w.heap.size w w') : Rd w' g h c s p :=
  ⟨k.blk.below hb k.lt, (by obtain ⟨C, e, fr, h3, h4⟩ := k.src; exact ⟨C, e, fr, (hb.block h (Nat.lt_trans k.ne k.lt)).trans h3, h4⟩), k.le, k.cap, k.ne⟩
theorem Rd.cell0 {w : World} {g h c : Nat} {s : ByteArray} {p : Nat} (k : Rd w g h c s p) : w.cell? ⟨g, 0, none⟩ = some (.slice (some ⟨h, 0, none⟩) s.size c) := k.blk.cell 0
theorem Rd.cell1 {w : World} {g h c : Nat} {s : ByteArray} {p : Nat} (k : Rd w g h c s p) : w.cell? ⟨g, 1, none⟩ = some (.int .i64 (p : Int)) := k.blk.cell 1
theorem Rd.free1 {w : World} {g h c : Nat} {s : ByteArray} {p : Nat} (k : Rd w g h c s p) : w.frozen? ⟨g, 1, none⟩ = false := k.blk.free 1
theorem Rd.at {w : World} {g h c : Nat} {s : ByteArray} {p : Nat} (k : Rd w g h c s p) (q : Nat) (hq : q ≤ s.size) : Rd (w.setCell ⟨g, 1, none⟩ (.int .i64 (q : Int))) g h c s q :=
  ⟨k.blk.put 1 _, (by
    obtain ⟨C, e, fr, h3, h4⟩ := k.src
    exact ⟨C, e, fr, (heap_setCell_other w ⟨g, 1, none⟩ h _ (by have := k.ne; simp; omega)).trans h3, h4⟩), hq, k.cap, k.ne⟩
theorem Rd.drewN {w : World} {g h c : Nat} {s : ByteArray} {p : Nat} (k : Rd w g h c s p) (n : Nat) : Rd (w.drewN n) g h c s p := by
  obtain ⟨C, e, fr, h3, h4⟩ := k.src
  exact ⟨k.blk.drewN n, ⟨C, e, fr, by simpa using h3, h4⟩, k.le, k.cap, k.ne⟩
theorem Rd.drew {w : World} {g h c : Nat} {s : ByteArray} {p : Nat} (k : Rd w g h c s p) : Rd w.drew g h c s p := by
  obtain ⟨C, e, fr, h3, h4⟩ := k.src
  exact ⟨k.blk.drew, ⟨C, e, fr, h3, h4⟩, k.le, k.cap, k.ne⟩
theorem Rd.row {w : World} {g h c : Nat} {s : ByteArray} {p : Nat} (k : Rd w g h c s p) (b : Nat) (cs : Array Value) (h1 : g ≠ b) (h2 : h ≠ b) : Rd (w.setRow b cs) g h c s p := by
  obtain ⟨C, e, fr, h3, h4⟩ := k.src
  exact ⟨k.blk.setRow_other b cs h1, ⟨C, e, fr, (Go.setRow_other w b h cs h2).trans h3, h4⟩, k.le, k.cap, k.ne⟩

/-- what is left of a text -/
def rest (s : ByteArray) (p : Nat) : List Nat := (bytesN s).drop p
theorem rest_length (s : ByteArray) (p : Nat) : (rest s p).length = s.size - p := by rw [rest, List.length_drop, bytesN_length]
theorem rest_lt (s : ByteArray) (p : Nat) : ∀ b ∈ rest s p, b < 256 := fun b hb => bytesN_lt s b (List.mem_of_mem_drop hb)
theorem bytesN_get (s : ByteArray) (j : Nat) (h : j < s.size) : (bytesN s)[j]? = some (byteAt s j) := by
  have hj : j < s.data.toList.length := by simpa using h
  unfold bytesN byteAt
  rw [List.getElem?_map, List.getElem?_eq_getElem hj]
  simp [Array.getD, h]
theorem rest_get (s : ByteArray) (p j : Nat) (h : p + j < s.size) : (rest s p)[j]? = some (byteAt s (p + j)) := by rw [rest, List.getElem?_drop, bytesN_get s _ h]
theorem rest_rest (s : ByteArray) (p n : Nat) : (rest s p).drop n = rest s (p + n) := by rw [rest, rest, List.drop_drop]
theorem rest_cons (s : ByteArray) (p : Nat) (h : p < s.size) : rest s p = byteAt s p :: rest s (p + 1) := by
  have h1 : (rest s p)[0]? = some (byteAt s p) := rest_get s p 0 (by omega)
  have h2 : (rest s p).drop 1 = rest s (p + 1) := rest_rest s p 1
  cases hr : rest s p with
  | nil => rw [hr] at h1; cases h1
  | cons a t =>
    rw [hr] at h1 h2
    simp at h1 h2
    rw [h1, h2]
theorem rest_nil (s : ByteArray) (p : Nat) (h : s.size ≤ p) : rest s p = [] := List.eq_nil_of_length_eq_zero (by rw [rest_length]; omega)

/-! slices -/
/-- where a slice begins that is cut out: nothing is told of the place of an empty one -/
def offO (lo hi : Nat) : Nat := if hi = lo then 0 else lo
theorem offO_lt {lo hi : Nat} (h : lo < hi) : offO lo hi = lo := by unfold offO; rw [if_neg (by omega)]
theorem offO_le (lo hi : Nat) (h : lo ≤ hi) : offO lo hi + (hi - lo) ≤ hi := by unfold offO; split <;> omega
theorem size_u8 (w : World) : (sizeOf 5).run Try.prog w = .ok 1 w := by
  have := info5
  cases hq : Try.prog.info? 5 with
  | none => simp [hq] at this
  | some i => simp [hq] at this; simp [sizeOf, typeInfo, hq, this]
theorem addr_add (b o j : Nat) : (⟨b, o, none⟩ : Addr).add j = ⟨b, o + j, none⟩ := by unfold Addr.add; split <;> simp_all

/-- bytes are copied from slice to slice -/
theorem wpList_copy_slc {P : Program} {w : World} {ops : Array Oper} {rest : List Oper} {o : Oper} {a : Act} {Q : Exit → Act → World → Prop} (hgd : o.guard = none) (d s : Operand) (dT sT : TypeId)
    (ho : o.op = .call { callee := .builtin .copy, args := #[d, s], argTypes := #[dT, sT] }) (elem : TypeId) (hu : P.underlying dT = some (.slice elem)) (hsz : (P.info? elem).map (·.size) = some 1)
    (b off n cap sb so sCap : Nat) (hd : a.eval d = .slice (some ⟨b, off, none⟩) n cap) (hs : a.eval s = .slice (some ⟨sb, so, none⟩) n sCap) (cur : Array Value) (t : TypeId) (hg : Blk w b cur t)
    (cs : List Value) (hn : cs.length = n) (hsrc : ∀ j v, cs[j]? = some v → w.cell? ⟨sb, so + j, none⟩ = some v) (hfit : off + n ≤ cur.size) (h1 : ∀ v ∈ cs, v.oneCell' = true) (new : Array Value) (hw : (cur.toList.take off ++ cs ++ cur.toList.drop (off + n)).toArray = new)
    (h : wpList P ops Q rest (a.put o.dst (goInt n)) (w.setRow b new)) : wpList P ops Q (o :: rest) a w := by
  refine wpList_plain hgd fun K hK => ?_
  have hrun := run_copy_row P w dT sT o.type elem b off n cap ⟨sb, so, none⟩ n sCap cur t cs hu hsz hg (by rw [hn]; exact (Nat.min_self n).symm) (fun j v hj => by rw [addr_add]; exact hsrc j v hj) (by omega) h1
  rw [hn, hw] at hrun
  unfold Oper.wp
  simp [execOp, ho, resolve, invoke, builtin, hd, hs, hrun, Result.andThen]
  exact hK _ _ h
/-- numbers are cells -/
def cellsN (l : List Nat) : List Value := l.map fun (n : Nat) => Value.int .u8 (n : Int)
theorem cellsN_length (l : List Nat) : (cellsN l).length = l.length := by simp [cellsN]
theorem cellsN_one (l : List Nat) : ∀ v ∈ cellsN l, v.oneCell' = true := by
  intro v hv
  simp only [cellsN, List.mem_map] at hv
  obtain ⟨n, _, rfl⟩ := hv
  rfl
theorem row_splice (l m : List Nat) (off n : Nat) : ((row l).toList.take off ++ cellsN m ++ (row l).toList.drop (off + n)).toArray = row (l.take off ++ m ++ l.drop (off + n)) := by
  simp [row, cellsN]
end Go.Proofs.Ytkicndengkcojaa

/- The library's Len64: how many bits tell a number. -/
namespace Go.Proofs.Ytkicndengkcojaa
set_option maxRecDepth 100000
open Go.RowKit Go.Sort

theorem len8_fin : ∀ n : Fin 256, Lib.len8 (n.val : Int) = (bitLen n.val : Int) := by decide +kernel
theorem len8_nat (y : Nat) (h : y < 256) : Lib.len8 (y : Int) = (bitLen y : Int) := len8_fin ⟨y, h⟩
theorem bit_more (x b y : Nat) (hy : x / 2 ^ b = y) (h0 : y ≠ 0) : bitLen x = b + bitLen y := by
  subst hy
  exact bitLen_shift x b h0
/-- the table's answer, and what was counted ahead -/
theorem len_at (x b : Nat) (z : Int) (hz : z.toNat = x / 2 ^ b) (hlt : x / 2 ^ b < 256) (hne : x / 2 ^ b ≠ 0 ∨ b = 0) (h : z.toNat < Lib.len8tab.size) : ((Lib.len8tab[z.toNat]'h).toNat : Int) = (bitLen x : Int) - (b : Int) ∧ (bitLen x : Int) ≤ b + 8 ∧ (b : Int) ≤ bitLen x := by
  have e : ((Lib.len8tab[z.toNat]'h).toNat : Int) = Lib.len8 (z.toNat : Int) := by
    simp only [Lib.len8, Int.toNat_natCast, ByteArray.getElem?_lt' _ _ h, Option.getD_some]
  rw [e, hz, len8_nat _ hlt]
  have h8 := bitLen_le8 _ hlt
  rcases hne with h | h
  · have := bit_more x b _ rfl h
    omega
  · subst h
    rw [Nat.pow_zero, Nat.div_one] at *
    omega

theorem len_sum (b n T : Int) (h : T = n - b ∧ n ≤ b + 8 ∧ b ≤ n) (hb : 0 ≤ b ∧ b ≤ 64) : wrap64 (b + wrap64 T) = n := by
  unfold wrap64; omega
theorem len_sum0 (n T : Int) (h : T = n - 0 ∧ n ≤ 0 + 8 ∧ 0 ≤ n) : wrap64 (wrap64 T) = n := by
  unfold wrap64; omega
set_option maxRecDepth 100000 in
set_option maxHeartbeats 4000000 in
theorem len64_int (x : Int) (w : World) (h0 : 0 ≤ x) (h1 : x ≤ 18446744073709551615) : Calls Try.prog 76 #[.int .u64 x] w fun e w' => e = .returned (.int .i64 ((bitLen x.toNat : Nat) : Int)) ∧ w = w' := by
  go_enter Try.func76, Try.ntmps76
  go_wp2
  all_goals first
    | go_ret
    | (exfalso
       have hs := Lib.len8tab_size
       omega)
  all_goals refine ⟨congrArg Ending.returned (congrArg (Value.int IntKind.i64) ?_), rfl⟩
  all_goals go_light
  all_goals first
    | (refine len_sum 56 _ _ (len_at x.toNat 56 _ ?_ ?_ (.inl ?_) _) (by decide) <;> omega)
    | (refine len_sum 48 _ _ (len_at x.toNat 48 _ ?_ ?_ (.inl ?_) _) (by decide) <;> omega)
    | (refine len_sum 40 _ _ (len_at x.toNat 40 _ ?_ ?_ (.inl ?_) _) (by decide) <;> omega)
    | (refine len_sum 32 _ _ (len_at x.toNat 32 _ ?_ ?_ (.inl ?_) _) (by decide) <;> omega)
    | (refine len_sum 24 _ _ (len_at x.toNat 24 _ ?_ ?_ (.inl ?_) _) (by decide) <;> omega)
    | (refine len_sum 16 _ _ (len_at x.toNat 16 _ ?_ ?_ (.inl ?_) _) (by decide) <;> omega)
    | (refine len_sum 8 _ _ (len_at x.toNat 8 _ ?_ ?_ (.inl ?_) _) (by decide) <;> omega)
    | (refine len_sum0 _ _ (len_at x.toNat 0 _ ?_ ?_ (.inr rfl) _) <;> omega)
theorem len64_any (v : Nat) (w : World) (hv : v < 18446744073709551616) : Calls Try.prog 76 #[.int .u64 (v : Int)] w fun e w' => e = .returned (.int .i64 ((bitLen v : Nat) : Int)) ∧ w = w' := by
  have h := len64_int (v : Int) w (by omega) (by omega)
  rwa [Int.toNat_natCast] at h
end Go.Proofs.Ytkicndengkcojaa

/- The program's calls that put bytes: eights, split, put, PutNumber, PutText, PutPlace, PutLabel. -/
namespace Go.Proofs.Ytkicndengkcojaa
set_option maxRecDepth 100000
open Go.RowKit Go.Sort

theorem info8 : (Try.prog.info? 5).map (fun i => (i.zero, i.size, i.bytes)) = some (some (.int .u8 0), 1, 1) := by kernel_rfl
theorem infoW : (Try.prog.info? 101).map (·.size) = some 8 := by kernel_rfl
theorem info_w (l : List Nat) (h : l.length = 8) : (Try.prog.info? 101).map (·.size) = some (row l).size := by rw [row_size, h]; exact infoW
theorem zeros8 : (#[Value.int IntKind.u8 0, Value.int IntKind.u8 0, Value.int IntKind.u8 0, Value.int IntKind.u8 0, Value.int IntKind.u8 0, Value.int IntKind.u8 0, Value.int IntKind.u8 0, Value.int IntKind.u8 0] : Array Value) = row (List.replicate 8 0) := rfl

theorem eights_any (n : Nat) (w : World) (hn : n ≤ 64) : Calls Try.prog 75 #[.int .i64 (n : Int)] w fun e w' => e = .returned (.int .i64 (((n + 7) / 8 : Nat) : Int)) ∧ w = w' := by
  go_enter Try.func75, Try.ntmps75
  go_wp2
  go_ret
  refine ⟨congrArg Ending.returned (congrArg (Value.int IntKind.i64) ?_), rfl⟩
  omega

/-- a word behind k rounds -/
def spf (v k j : Nat) : Nat := if 8 ≤ j + k then digit v (7 - j) else 0
theorem spf_zero (v : Nat) : tab 8 (spf v 0) = List.replicate 8 0 := tab_congr (g := fun _ => 0) fun j hj => by unfold spf; rw [if_neg (by omega)]
theorem spf_full (v : Nat) : tab 8 (spf v 8) = dig 8 v := by
  symm
  refine tab_ext (dig_length 8 v) fun i hi => ?_
  rw [dig_get 8 v i hi]
  unfold spf
  rw [if_pos (by omega)]
  rfl
theorem spf_step (v k : Nat) (hk : k < 8) : (tab 8 (spf v k)).set (7 - k) (digit v k) = tab 8 (spf v (k + 1)) := by
  rw [tab_set]
  refine tab_congr fun i hi => ?_
  unfold spf
  by_cases e : i = 7 - k
  · rw [if_pos e, if_pos (by omega), e]
    congr 1
    omega
  · rw [if_neg e]
    by_cases e2 : 8 ≤ i + k
    · rw [if_pos e2, if_pos (by omega)]
    · rw [if_neg e2, if_neg (by omega)]
theorem shr_byte (v k : Nat) : (v : Int) / 2 ^ (8 * k) % 256 = ((digit v k : Nat) : Int) := by
  unfold digit
  rw [show (256 : Nat) = 2 ^ 8 from rfl, ← Nat.pow_mul]
  have e : (v : Int) / 2 ^ (8 * k) = ((v / 2 ^ (8 * k) : Nat) : Int) := by rw [Int.natCast_ediv, Int.natCast_pow]; rfl
  rw [e]
  generalize v / 2 ^ (8 * k) = x
  omega
/-- a word's cells, and a result's -/
structure MemW (w wr : World) (l : List Nat) : Prop where
  below : Below w.heap.size w wr
  z : Blk wr w.heap.size (row (List.replicate 8 0)) 101
  o : Blk wr (w.heap.size + 1) (row l) 101
theorem MemW.made (w : World) : MemW w ((w.alloc (.cells (row (List.replicate 8 0)) 101)).alloc (.cells (row (List.replicate 8 0)) 101)) (List.replicate 8 0) :=
  ⟨((Below.refl _ _).alloc (Nat.le_refl _) _).alloc (by simp) _, (Blk.new w _ _).alloc _, by have h := Blk.new (w.alloc (.cells (row (List.replicate 8 0)) 101)) (row (List.replicate 8 0)) 101; rwa [World.size_alloc] at h⟩
theorem MemW.put {w wr : World} {l : List Nat} (k : MemW w wr l) (i v : Nat) : MemW w (wr.setCell ⟨w.heap.size + 1, i, none⟩ (.int .u8 (v : Int))) (l.set i v) :=
  ⟨k.below.setCell (p := ⟨w.heap.size + 1, i, none⟩) (by simp) _, k.z.other _ _ _ (by omega), by rw [← row8_set]; exact k.o.put _ _⟩
set_option maxHeartbeats 1000000 in
theorem split_any (v : Nat) (w : World) : Calls Try.prog 77 #[.int .u64 (v : Int)] w fun e w' => e = .returned (.agg (row (dig 8 v))) ∧ Below w.heap.size w w' := by
  go_enter Try.func77, Try.ntmps77
  go_upto_region 2 with (fail)
  rw [zeros8]
  have HK := Lib.hid (MemW.made w)
  generalize (w.alloc _).alloc _ = W at *
  go_wp2
  go_loopw [5] (fun i wr => ∃ k : Nat, k ≤ 8 ∧ i = .int .i64 k ∧ MemW w wr (tab 8 (spf v k))) (fun i _ => 8 - (intOf i).toNat)
  case atStart => exact ⟨0, by omega, rfl, by rw [spf_zero]; exact HK.out⟩
  case round =>
    clear HK
    obtain ⟨k, hk, rfl, K⟩ := hrel
    by_cases hlt : k < 8
    · have c1 : wr.cell? ⟨w.heap.size + 1, 7 - k, none⟩ = some (.int .u8 (spf v k (7 - k) : Nat)) := by rw [K.o.cell, row_tab _ _ _ (by omega)]
      have f1 := K.o.free (7 - k)
      have HK := Lib.hid K
      have HS := Lib.hid (spf_step v k hlt)
      have HD := Lib.hid (shr_byte v k)
      clear K
      go_wp2
      refine ⟨⟨k + 1, by omega, by go_num, ?_⟩, by simp [intOf]; omega⟩
      rw [← HS.out, HD.out]
      exact HK.out.put _ _
    · obtain rfl : k = 8 := by omega
      have HK := Lib.hid K
      clear K
      rw [spf_full] at HK
      have hl := dig_length 8 v
      go_wp2_with (first | (refine wpList_load_row rfl 101 _ rfl (w.heap.size + 1) rfl 101 _ (0, 0) _ HK.out.o Try.underlying101 rfl (info_w _ hl) ?_) | (refine wpList_store_row rfl 101 _ _ rfl w.heap.size _ rfl rfl 101 _ HK.out.z (info_w _ hl) (by rw [row_size, row_size, hl]; rfl) (row8_one _) ?_))
      exact bodyPost_ret (results_cell_row Try.results77 _ _ w.heap.size 101 (row (dig 8 v)) (0, 0) _ rfl (HK.out.z.setRow _) Try.underlying101 rfl (info_w _ hl)) rfl ⟨rfl, bel_setRow HK.out.below (Nat.le_refl _) _⟩

/-- bytes of another block are appended to a row of the call's own -/
theorem wpList_appendN {P : Program} {w w0 : World} {ops : Array Oper} {rest : List Oper} {o : Oper} {a : Act} {Q : Exit → Act → World → Prop} (hgd : o.guard = none) (s x : Operand) (t : TypeId)
    (ho : o.op = .call { callee := .builtin .append, args := #[s, x], argTypes := #[t, t] }) (base : Nat) (e : TypeId) (z : Value) (bytes : Nat) (ht : P.underlying t = some (.slice e))
    (hi : (P.info? e).map (fun i => (i.zero, i.size, i.bytes)) = some (some z, 1, bytes)) (hzs : z.cells.size = 1)
    (v : Value) (n : Nat) (xs : List Value) (hs : a.eval s = v) (hown : w.ownsRow base e 1 v n xs) (b off m cap : Nat) (hx : a.eval x = .slice (some ⟨b, off, none⟩) m cap) (news : List Value) (hl : news.length = m)
    (hnews : ∀ j u, news[j]? = some u → w.cell? ⟨b, off + j, none⟩ = some u) (h1 : ∀ u ∈ news, u.oneCell' = true)
    (h63 : n + m ≤ 9223372036854775807) (hbytes : (n + m) * bytes ≤ 140737488355328) (hb : Below base w0 w) (hbs : base ≤ w.heap.size)
    (h : ∀ v' w', w'.ownsRow base e 1 v' (n + m) (xs ++ news) → Below base w0 w' → wpList P ops Q rest (a.put o.dst v') w') : wpList P ops Q (o :: rest) a w := by
  obtain ⟨i, hi', hq⟩ := Option.map_eq_some_iff.1 hi
  simp only [Prod.mk.injEq] at hq
  obtain ⟨q1, q2, q3⟩ := hq
  refine wpList_append_own w hgd s x t ho base e i z 1 bytes ht hi' q1 q2 q3 hzs (by omega) v n xs hs hown ⟨b, off, none⟩ m cap news hx (by omega) (fun j u hj => by rw [addr_add]; exact hnews j u hj) h1 (by unfold maxLen; omega) hbytes hbs ?_
  intro v' w' h2 h3 _
  exact h v' w' h2 (hb.grown h3 hbs fun k hk => (hown.lt k hk).1)
theorem run_text_cellsN {P : Program} (w : World) (src e dst : TypeId) (hs : P.underlying src = some (.slice e)) (he : P.underlying e = some (.int .u8)) (hd : P.underlying dst = some .string) (g n cap : Nat) (l : List Nat) (hn : l.length = n)
    (hc : ∀ j, j < n → w.cell? ⟨g, j, none⟩ = (cellsN l)[j]?) : (convert src dst (.slice (some ⟨g, 0, none⟩) n cap)).run P w = .ok (.string (txt l)) w := by
  rw [← txt_nums]
  exact run_convert_bytes_arg w src e hs he g 0 n cap _ (by rw [List.length_map, hn]) (fun i hi => by
    rw [Nat.zero_add, hc i hi, cellsN, List.getElem?_map, List.getElem?_eq_getElem (by omega), List.getD, List.getElem?_map, List.getElem?_eq_getElem (by omega)]
    rfl) dst hd
theorem cellsN_cons (x : Nat) (l : List Nat) : ([.int .u8 (x : Int)] : List Value) ++ cellsN l = cellsN (x :: l) := rfl

set_option maxHeartbeats 1000000 in
theorem put_any (b : ByteArray) (x g off cap : Nat) (l : List Nat) (w : World) (hb : b.size ≤ 1000000) (hx : x < 256) (hl : l.length ≤ 1000000) (hg : g < w.heap.size) (hc : ∀ j u, (cellsN l)[j]? = some u → w.cell? ⟨g, off + j, none⟩ = some u) :
    Calls Try.prog 78 #[.string b, .int .i64 (x : Int), .slice (some ⟨g, off, none⟩) l.length cap] w fun e w' => e = .returned (.string (b ++ txt (x :: l))) ∧ Below w.heap.size w w' := by
  have hx' : (x : Int) % 256 = x := by omega
  have HN := Lib.hid (fun (w' : World) (hb : Below w.heap.size w w') j u (h : (cellsN l)[j]? = some u) => show w'.cell? ⟨g, off + j, none⟩ = some u from (hb.cell (p := ⟨g, off + j, none⟩) hg).trans (hc j u h))
  clear hc
  go_enter Try.func78, Try.ntmps78
  go_upto_region 1 with (fail)
  have B1 := (Below.refl w.heap.size w).alloc (Nat.le_refl _) (.cells #[.int .u8 (x : Int)] 5)
  have HO : (w.alloc (.cells #[.int .u8 (x : Int)] 5)).ownsRow w.heap.size 5 1 (.slice (some ⟨w.heap.size, 0, none⟩) 1 1) 1 [.int .u8 (x : Int)] := World.ownsRow_lit w _ 1 (Nat.le_refl _) (by unfold maxLen; omega) rfl
  go_wp2_with (refine wpList_appendN rfl _ _ 104 rfl w.heap.size 5 (.int .u8 0) 1 Try.underlying104 info8 rfl _ 1 _ rfl HO g off l.length cap rfl (cellsN l) (cellsN_length l) (HN.out _ B1) (cellsN_one l) (by omega) (by omega) B1 B1.size ?_; intro v' w' hO' B')
  rw [cellsN_cons] at hO'
  obtain ⟨q, cap', rfl, hq, hq2, hcap, hcell⟩ := own_open hO' (by omega)
  have hcv := run_text_cellsN (P := Try.prog) w' 104 5 9 Try.underlying104 Try.underlying5 Try.underlying9 q (1 + l.length) cap' (x :: l) (by simp; omega) hcell
  have hz : (txt (x :: l)).size = l.length + 1 := by rw [txt_size]; rfl
  clear hcell hO' HO HN
  rw [hcv]
  go_wp2
  go_ret
  exact ⟨rfl, B'⟩

/-! slices of a word -/
theorem slc_cells {w : World} {g : Nat} {L : List Nat} {t : TypeId} (hg : Blk w g (row L) t) (lo hi : Nat) {l : List Nat} (hl : l = (L.drop lo).take (hi - lo)) :
    ∀ j u, (cellsN l)[j]? = some u → w.cell? ⟨g, offO lo hi + j, none⟩ = some u := by
  subst hl
  intro j u hj
  have hlt : j < hi - lo := by
    rcases Nat.lt_or_ge j (hi - lo) with h | h
    · exact h
    · rw [List.getElem?_eq_none (by rw [cellsN_length, List.length_take]; omega)] at hj; cases hj
  rw [offO_lt (by omega), hg.cell, row_get]
  rw [cellsN, List.getElem?_map, List.getElem?_take, if_pos hlt, List.getElem?_drop] at hj
  exact hj
theorem under_w : Try.prog.underlying 101 = some (.array (Try.prog.arrayLen 101) (Try.prog.elem 101)) := by kernel_rfl
theorem len_w : Try.prog.arrayLen 101 = 8 := by kernel_rfl
theorem elem_w : Try.prog.elem 101 = 5 := by kernel_rfl
theorem run_from8 (g n : Nat) (hn : n ≤ 8) (w : World) : (Instr.sliceAt 101 (.pointer (some ⟨g, 0, none⟩)) (some (.int .i64 (8 - (n : Int)))) none none).run Try.prog w = .ok (.slice (some ⟨g, offO (8 - n) 8, none⟩) n n) w := by
  rw [run_sliceAt_array_l w 101 ⟨g, 0, none⟩ under_w .i64 (8 - (n : Int)) (by omega) (by rw [len_w]; omega), elem_w, size_u8, len_w]
  simp only [Result.andThen, slicedAt]
  rw [show (8 - (n : Int)).toNat = 8 - n by omega, show 8 - (8 - n) = n by omega, addr_add]
  unfold offO
  by_cases h : n = 0
  · subst h; rfl
  · rw [if_neg (by omega), if_neg (by omega), Nat.mul_one, Nat.zero_add]
theorem run_upto8 (g n : Nat) (hn : n ≤ 8) (w : World) : (Instr.sliceAt 101 (.pointer (some ⟨g, 0, none⟩)) none (some (.int .i64 (n : Int))) none).run Try.prog w = .ok (.slice (some ⟨g, 0, none⟩) n 8) w := by
  rw [run_sliceAt_array_h w 101 ⟨g, 0, none⟩ under_w .i64 (n : Int) (by omega) (by rw [len_w]; omega), elem_w, size_u8, len_w]
  simp only [Result.andThen, slicedAt]
  rw [if_neg (by omega), addr_add]
  rfl

set_option maxHeartbeats 1000000 in
theorem putNumber_any (b : ByteArray) (v : Nat) (w : World) (hb : b.size ≤ 1000000) (hv : v < 18446744073709551616) :
    Calls Try.prog 35 #[.string b, .int .u64 (v : Int)] w fun e w' => e = .returned (.string (b ++ txt (numN v))) ∧ Below w.heap.size w w' := by
  have h8 := nb_le8 hv
  have hbl : bitLen v ≤ 64 := by unfold nb at h8; omega
  have HL := Lib.hid (fun w => len64_any v w hv)
  have HE := Lib.hid (fun w => eights_any (bitLen v) w hbl)
  rw [show (bitLen v + 7) / 8 = nb v from rfl] at HE
  have HS := Lib.hid (fun w => split_any v w)
  have hl := dig_length 8 v
  have hz := dig_length (nb v) v
  have HD : Hid (dig (nb v) v = ((dig 8 v).drop (8 - nb v)).take (8 - (8 - nb v))) := by
    unfold Hid
    have := dig_drop v (nb v) (8 - nb v)
    rw [show 8 - nb v + nb v = 8 by omega] at this
    rw [this, List.take_of_length_le (by omega)]
  have HN : Hid (numN v = nb v :: dig (nb v) v) := rfl
  have HR := Lib.hid (fun g w => run_from8 g (nb v) h8 w)
  clear hbl
  go_enter Try.func35, Try.ntmps35
  go_upto_region 2 with (first | (go_at_call 76; (with_reducible refine (HL.out _).mono ?_); rintro e w1 ⟨rfl, rfl⟩) | (go_at_call 75; (with_reducible refine (HE.out _).mono ?_); rintro e w2 ⟨rfl, rfl⟩))
  go_upto_region 3 with (first | (go_at_call 77; (with_reducible refine (HS.out _).mono ?_); rintro e w3 ⟨rfl, hb3⟩) | (refine wpList_store_newrow rfl 101 _ _ rfl (row (dig 8 v)) rfl rfl (info_w _ hl) (row8_one _) (by rw [row_size, hl]; rfl) ?_))
  have B0 := hb3.alloc hb3.size (.cells (row (dig 8 v)) 101)
  have A0 := Blk.new w3 (row (dig 8 v)) 101
  clear hb3 HL HE HS
  generalize w3.heap.size = g at *
  generalize w3.alloc _ = W at *
  have hr := HR.out g
  have HP := put_any b (nb v) g (offO (8 - nb v) 8) (nb v) (dig (nb v) v) W hb (by omega) (by omega) A0.lt (slc_cells A0 (8 - nb v) 8 HD.out)
  rw [hz, ← HN.out] at HP
  have HP2 := Lib.hid HP
  clear HP HD HR hl hz A0
  generalize nb v = n at *
  go_wp2_with (go_at_call 78; (with_reducible refine HP2.out.mono ?_); rintro e w4 ⟨rfl, hb4⟩)
  go_ret
  exact ⟨rfl, B0.trans (hb4.mono B0.size)⟩
theorem putText_long (b s : ByteArray) (w : World) (hs : 4096 < s.size) (hs2 : s.size ≤ 9223372036854775807) :
    Calls Try.prog 81 #[.string b, .string s] w fun e w' => e = .returned (.tuple #[.string ⟨#[]⟩, .int .i64 2]) ∧ w = w' := by
  go_enter Try.func81, Try.ntmps81
  go_wp2
  go_ret2
  exact ⟨rfl, rfl⟩
theorem putText_short (b s : ByteArray) (w : World) (hb : b.size ≤ 900000) (hs : s.size ≤ 4096) :
    Calls Try.prog 81 #[.string b, .string s] w fun e w' => e = .returned (.tuple #[.string (b ++ txt (txtN (bytesN s))), .int .i64 0]) ∧ Below w.heap.size w w' := by
  have HP := Lib.hid (fun w => putNumber_any b s.size w (by omega) (by omega))
  have hz : (b ++ txt (numN s.size)).size ≤ 900009 := by
    have := nb_le8 (v := s.size) (by omega)
    rw [ByteArray.size_append, txt_size, numN_length]; omega
  have HE : Hid (b ++ txt (txtN (bytesN s)) = b ++ txt (numN s.size) ++ s) := by
    unfold Hid
    rw [txtN, bytesN_length, txt_append, txt_bytes, ByteArray.append_assoc]
  generalize b ++ txt (numN s.size) = x at *
  go_enter Try.func81, Try.ntmps81
  go_wp2_with (go_at_call 35; (with_reducible refine (HP.out _).mono ?_); rintro e w4 ⟨rfl, hb4⟩)
  go_ret2
  rw [HE.out]
  exact ⟨rfl, hb4⟩
theorem putLabel_no (b : ByteArray) (n : Int) (c : Nat) (w : World) (h1 : -9223372036854775808 ≤ n) (h2 : n ≤ 9223372036854775807) (hc : c < 18446744073709551616) (hi : isB n c = false) :
    Calls Try.prog 80 #[.string b, .agg (labc n c)] w fun e w' => e = .returned (.tuple #[.string ⟨#[]⟩, .int .i64 1]) ∧ Below w.heap.size w w' := by
  have HI : Gives Try.prog 51 #[.agg (labc n c)] (.bool false) := fun w => hi ▸ isL_any n c w h1 h2 hc
  clear hi hc
  go_enter Try.func80, Try.ntmps80
  go_upto_region 1 with (fail)
  have A0 := Blk.new w (labc n c) 25
  have B0 := (Below.refl w.heap.size w).alloc (Nat.le_refl _) (.cells (labc n c) 25)
  generalize w.alloc _ = W at *
  go_wp2_with (first | (refine p_loadL rfl _ rfl _ rfl n c A0 ?_) | (go_at_call 51; (with_reducible refine (HI.calls _).mono ?_); rintro e w' ⟨rfl, hb⟩))
  go_ret2
  exact ⟨rfl, B0.trans (hb.mono B0.size)⟩
set_option maxHeartbeats 1000000 in
theorem putLabel_yes (b : ByteArray) (n c : Nat) (w : World) (hb : b.size ≤ 1000000) (hn : n ≤ 64) (hc : c < 18446744073709551616) (hi : lowB n c = true) :
    Calls Try.prog 80 #[.string b, .agg (labc n c)] w fun e w' => e = .returned (.tuple #[.string (b ++ txt (labN n c)), .int .i64 0]) ∧ Below w.heap.size w w' := by
  have HI : Gives Try.prog 51 #[.agg (labc n c)] (.bool true) := fun w => hi ▸ isL_yes n c w hn hc
  have h8 := e8_le hn
  have HE : Gives Try.prog 75 #[.int .i64 (n : Int)] (.int .i64 ((e8 n : Nat) : Int)) := fun w => calls_below (eights_any n w hn)
  have HS := Lib.hid (fun w => split_any c w)
  have hl := dig_length 8 c
  have HR := Lib.hid (fun g w => run_upto8 g (e8 n) h8 w)
  have HN : Hid (labN n c = n :: (dig 8 c).take (e8 n)) := rfl
  have hz : ((dig 8 c).take (e8 n)).length = e8 n := by rw [List.length_take]; omega
  clear hi hc
  go_enter Try.func80, Try.ntmps80
  go_upto_region 1 with (fail)
  have A0 := Lib.hid (Blk.new w (labc n c) 25)
  have B0 := Lib.hid ((Below.refl w.heap.size w).alloc (Nat.le_refl _) (.cells (labc n c) 25))
  generalize w.alloc _ = W at *
  go_upto_region 3 with (first | (refine p_loadL rfl _ rfl _ rfl n c A0.out ?_) | (go_at_call 51; (with_reducible refine (HI.calls _).mono ?_); rintro e w1 ⟨rfl, hb1⟩))
  replace A0 := Lib.hid (A0.out.below hb1 A0.out.lt)
  replace B0 := Lib.hid (B0.out.trans (hb1.mono B0.out.size))
  clear hb1 W
  have c1 := lab1 A0.out
  go_upto_region 4 with (first | (go_at_call 77; (with_reducible refine (HS.out _).mono ?_); rintro e w3 ⟨rfl, hb3⟩) | (refine wpList_store_newrow rfl 101 _ _ rfl (row (dig 8 c)) rfl rfl (info_w _ hl) (row8_one _) (by rw [row_size, hl]; rfl) ?_))
  replace A0 := Lib.hid ((A0.out.below hb3 A0.out.lt).alloc (.cells (row (dig 8 c)) 101))
  replace B0 := Lib.hid ((B0.out.trans (hb3.mono B0.out.size)).alloc (Nat.le_trans B0.out.size hb3.size) (.cells (row (dig 8 c)) 101))
  have A1 := Blk.new w3 (row (dig 8 c)) 101
  clear hb3 HS c1
  generalize w3.heap.size = g at *
  generalize w3.alloc _ = W at *
  have c0 := A0.out.grown 0
  rw [show (labc (n : Int) c)[0]? = some (.int .i64 n) from rfl] at c0
  have hr := HR.out g
  have HP : ∀ (d : Nat) (os : Array Obj), Calls Try.prog 78 #[.string b, .int .i64 (n : Int), .slice (some ⟨g, 0, none⟩) ((e8 n : Nat) : Int).toNat 8] (grow (redrawn W d) os) fun e w'' => e = .returned (.string (b ++ txt (labN n c))) ∧ ∃ p : Regrown, w'' = grow (redrawn W p.d) p.os := by
    intro d os
    refine Calls.regrown_of ?_
    have A2 := A1.below (below_regrown W d os) A1.lt
    have := put_any b n g 0 8 ((dig 8 c).take (e8 n)) (grow (redrawn W d) os) hb (by omega) (by omega) A2.lt (by
      have h := slc_cells A2 0 8 (l := dig 8 c) (by rw [List.drop_zero, List.take_of_length_le (by omega)])
      intro j u hj
      refine h j u ?_
      rw [cellsN, List.getElem?_map, List.getElem?_take] at hj
      rw [cellsN, List.getElem?_map]
      split at hj
      · exact hj
      · cases hj)
    rw [hz, ← HN.out] at this
    exact this
  rw [Int.toNat_natCast] at HP
  clear A0 A1 HN hl hz HR
  simp only [Act.put]
  refine wp_region_quiet_below (by kernel_rfl) (by kernel_rfl) ?_
  repeat (first
    | go_big_quiet_skip
    | (go_big_quiet_want
       go_big_quiet_op
       first | go_big_quiet_on | go_big_quiet_call (first | with_reducible exact HE.grown _ _ | with_reducible exact HP _ _)))
  refine wpQuiet_nil ?_
  intro _ hw'
  obtain ⟨⟨dq, osq⟩, hw''⟩ := hw'
  subst hw''
  replace B0 := B0.out.trans ((below_regrown _ dq osq).mono B0.out.size)
  clear c0 HP hr
  go_wp2
  go_ret2
  exact ⟨rfl, B0⟩
end Go.Proofs.Ytkicndengkcojaa

/- The document's bytes: one, Number, Text, Place, Label. -/
namespace Go.Proofs.Ytkicndengkcojaa
set_option maxRecDepth 100000
open Go.RowKit Go.Sort

theorem one_any (v : Nat) (w : World) (hv : v < 18446744073709551616) : Calls Try.prog 82 #[.int .u64 (v : Int)] w fun e w' => e = .returned (.string (txt [v % 256])) ∧ Below w.heap.size w w' := by
  have hcv := run_text_blk (P := Try.prog) (w.alloc (.cells (row [v % 256]) 5)) 104 5 9 Try.underlying104 Try.underlying5 Try.underlying9 w.heap.size 1 1 _ 5 rfl (Blk.new _ _ _)
  rw [show row [v % 256] = #[.int .u8 ((v : Int) % 256)] from rfl] at hcv
  go_enter Try.func82, Try.ntmps82
  go_wp2
  go_ret
  exact ⟨rfl, (Below.refl _ _).alloc (Nat.le_refl _) _⟩

theorem wrap_u64 (x : Nat) : IntKind.u64.wrap (x : Int) = ((x % 18446744073709551616 : Nat) : Int) := by
  show ((x : Int) % 18446744073709551616) = _
  omega
def natU : Value → Nat
  | .int _ n => n.toNat
  | _ => 0
theorem dig_front (v k : Nat) : txt [v / 256 ^ k % 256] ++ txt (dig k v) = txt (dig (k + 1) v) := by rw [← txt_append]; rfl
set_option maxHeartbeats 1000000 in
theorem refNum_any (v : Nat) (w : World) (hv : v < 18446744073709551616) : Calls Try.prog 38 #[.int .u64 (v : Int)] w fun e w' => e = .returned (.string (txt (numN v))) ∧ Below w.heap.size w w' := by
  have h8 := nb_le8 hv
  have HZ := Lib.hid (fun k => (nb_le (v := v) (k := k)))
  have HV := Lib.hid hv
  clear hv
  go_enter Try.func38, Try.ntmps38
  go_wp2
  go_loopw [0, 3] (fun a o wr => ∃ k : Nat, k ≤ nb v ∧ a = .int .u64 ((v / 256 ^ k : Nat) : Int) ∧ o = .string (txt (dig k v)) ∧ Below w.heap.size w wr) (fun a _ _ => natU a)
  case atStart => exact ⟨0, by omega, by rw [Nat.pow_zero, Nat.div_one], rfl, Below.refl _ _⟩
  case round =>
    obtain ⟨k, hk, rfl, rfl, B0⟩ := hrel
    have hp : 0 < 256 ^ k := Nat.pow_pos (by omega)
    have hle := Nat.div_le_self v (256 ^ k)
    have hz := txt_size (dig k v)
    rw [dig_length] at hz
    by_cases hlt : k < nb v
    · have hpos : v / 256 ^ k ≠ 0 := by
        intro h0
        have : v < 256 ^ k := by
          rcases Nat.lt_or_ge v (256 ^ k) with h | h
          · exact h
          · have := Nat.div_pos h hp; omega
        have := (HZ.out k).2 this
        omega
      have HF := Lib.hid (dig_front v k)
      have hq : Hid (v / 256 ^ k / 256 = v / 256 ^ (k + 1)) := by unfold Hid; rw [Nat.pow_succ, Nat.div_div_eq_div_mul]
      have hlv := Nat.lt_of_le_of_lt hle HV.out
      have HB := Lib.hid B0
      have hz1 := txt_size [v / 256 ^ k % 256]
      clear B0 hle hp
      generalize v / 256 ^ k = y at *
      have HO := Lib.hid (fun w => one_any y w hlv)
      have hb : decide ((0 : Int) < (y : Int)) = true := by simp; omega
      generalize txt (dig k v) = d at *
      go_wp2_with (go_at_call 82; (with_reducible refine (HO.out _).mono ?_); rintro e w1 ⟨rfl, hb1⟩)
      refine ⟨⟨k + 1, by omega, ?_, ?_, HB.out.trans (hb1.mono HB.out.size)⟩, by simp only [natU]; omega⟩
      · rw [← hq.out]; rfl
      · rw [HF.out]
    · obtain rfl : k = nb v := by omega
      have h0 : v / 256 ^ nb v = 0 := Nat.div_eq_of_lt (lt_nb v)
      have HO := Lib.hid (fun w => one_any (nb v) w (by omega))
      have HE : Hid (txt [nb v % 256] ++ txt (dig (nb v) v) = txt (numN v)) := by unfold Hid; rw [← txt_append, Nat.mod_eq_of_lt (by omega)]; rfl
      have HB := Lib.hid B0
      have hz1 := txt_size [nb v % 256]
      rw [h0]
      clear B0 hle hp h0
      generalize txt (dig (nb v) v) = d at *
      go_wp2_with (go_at_call 82; (with_reducible refine (HO.out _).mono ?_); rintro e w1 ⟨rfl, hb1⟩)
      go_ret
      rw [HE.out]
      exact ⟨rfl, HB.out.trans (hb1.mono HB.out.size)⟩
theorem refText_any (s : ByteArray) (w : World) (hs : s.size ≤ 1000000) : Calls Try.prog 40 #[.string s] w fun e w' => e = .returned (.string (txt (txtN (bytesN s)))) ∧ Below w.heap.size w w' := by
  have HP := Lib.hid (fun w => refNum_any s.size w (by omega))
  have hz : (txt (numN s.size)).size ≤ 9 := by
    have := nb_le8 (v := s.size) (by omega)
    rw [txt_size, numN_length]; omega
  have HE : Hid (txt (txtN (bytesN s)) = txt (numN s.size) ++ s) := by
    unfold Hid
    rw [txtN, bytesN_length, txt_append, txt_bytes]
  generalize txt (numN s.size) = x at *
  go_enter Try.func40, Try.ntmps40
  go_wp2_with (go_at_call 38; (with_reducible refine (HP.out _).mono ?_); rintro e w4 ⟨rfl, hb4⟩)
  go_ret
  rw [HE.out]
  exact ⟨rfl, hb4⟩
theorem take_snoc (l : List Nat) (k x : Nat) (h : l[k]? = some x) : txt (l.take k) ++ txt [x] = txt (l.take (k + 1)) := by
  rw [← txt_append, List.take_add_one, h]; rfl
theorem lab_out (n c k : Nat) (h : k < 8) : txt (n :: (dig 8 c).take k) ++ txt [digit c (7 - k)] = txt (n :: (dig 8 c).take (k + 1)) := by
  rw [← txt_append, List.cons_append, List.take_add_one, dig_get 8 c k h]
  rfl
theorem lab_shift (c k : Nat) (h : k < 8) : c * 256 ^ k % 18446744073709551616 / 72057594037927936 = digit c (7 - k) := by
  unfold digit
  have e1 : (18446744073709551616 : Nat) = 256 ^ 8 := by decide
  have e2 : (72057594037927936 : Nat) = 256 ^ 7 := by decide
  rw [e1, e2, show (8 : Nat) = 7 + 1 from rfl, Nat.pow_succ, Nat.mod_mul_right_div_self]
  obtain ⟨j, hj⟩ : ∃ j, 7 = k + j := ⟨7 - k, by omega⟩
  rw [hj, show k + j - k = j by omega, Nat.pow_add, Nat.mul_comm (256 ^ k), Nat.mul_div_mul_right _ _ (Nat.pow_pos (by omega))]
set_option maxHeartbeats 1000000 in
theorem refLabel_any (n c : Nat) (w : World) (hn : n ≤ 64) (hc : c < 18446744073709551616) : Calls Try.prog 42 #[.agg (labc n c)] w fun e w' => e = .returned (.string (txt (labN n c))) ∧ Below w.heap.size w w' := by
  have HO := Lib.hid (fun w => one_any n w (by omega))
  have h8 := e8_le hn
  go_enter Try.func42, Try.ntmps42
  go_upto_region 1 with (fail)
  have A0 := Lib.hid (Blk.new w (labc n c) 25)
  have B0 := Lib.hid ((Below.refl w.heap.size w).alloc (Nat.le_refl _) (.cells (labc n c) 25))
  generalize w.alloc _ = W at *
  have c0 := lab0 A0.out
  go_upto_region 2 with (go_at_call 82; (with_reducible refine (HO.out _).mono ?_); rintro e w1 ⟨rfl, hb1⟩)
  replace A0 := Lib.hid (A0.out.below hb1 A0.out.lt)
  replace B0 := Lib.hid (B0.out.trans (hb1.mono B0.out.size))
  clear hb1 c0 HO
  have c1 := lab1 A0.out
  go_wp2
  clear c1
  go_loopw [3, 4, 5] (fun o v i wr => ∃ k : Nat, k ≤ e8 n ∧ i = .int .i64 ((8 * k : Nat) : Int) ∧ v = .int .u64 ((c * 256 ^ k % 18446744073709551616 : Nat) : Int) ∧ o = .string (txt (n :: (dig 8 c).take k)) ∧ Blk wr w.heap.size (labc n c) 25 ∧ Below w.heap.size w wr) (fun _ _ i _ => 64 - (intOf i).toNat)
  case atStart => exact ⟨0, by omega, rfl, by rw [Nat.pow_zero, Nat.mul_one, Nat.mod_eq_of_lt hc], by rw [Nat.mod_eq_of_lt (by omega)]; rfl, A0.out, B0.out⟩
  case round =>
    clear A0 B0
    obtain ⟨k, hk, rfl, rfl, rfl, A0, B0⟩ := hrel
    have hz : (txt (n :: (dig 8 c).take k)).size ≤ 9 := by rw [txt_size, List.length_cons, List.length_take, dig_length]; omega
    have c0 := lab0 A0
    have HA := Lib.hid A0
    have HB := Lib.hid B0
    clear A0 B0
    by_cases hlt : k < e8 n
    · have hd : decide ((8 : Int) * (k : Int) < (n : Int)) = true := by simp; unfold e8 at hlt; omega
      have HL := Lib.hid (lab_out n c k (by omega))
      have HS := Lib.hid (lab_shift c k (by omega))
      have hv : c * 256 ^ k % 18446744073709551616 < 18446744073709551616 := Nat.mod_lt _ (by omega)
      have HQ : Hid (c * 256 ^ k % 18446744073709551616 * 256 % 18446744073709551616 = c * 256 ^ (k + 1) % 18446744073709551616) := by
        unfold Hid; rw [Nat.pow_succ, ← Nat.mul_assoc, Nat.mod_mul_mod]
      generalize c * 256 ^ k % 18446744073709551616 = v at *
      have HO : Hid (∀ w, Calls Try.prog 82 #[.int .u64 ((v : Int) / 72057594037927936)] w fun e w' => e = .returned (.string (txt [v / 72057594037927936 % 256])) ∧ Below w.heap.size w w') := fun w => one_any (v / 72057594037927936) w (by omega)
      have hz1 := txt_size [v / 72057594037927936 % 256]
      generalize txt (n :: (dig 8 c).take k) = o at *
      go_wp2_with (go_at_call 82; (with_reducible refine (HO.out _).mono ?_); rintro e w1 ⟨rfl, hb1⟩)
      refine ⟨⟨k + 1, by omega, by rw [show (8 : Int) * (k : Int) + 8 = ((8 * (k + 1) : Nat) : Int) by omega], ?_, ?_, HA.out.below hb1 HA.out.lt, HB.out.trans (hb1.mono HB.out.size)⟩, by simp [intOf]; omega⟩
      · rw [show (v : Int) * 256 = ((v * 256 : Nat) : Int) by omega, wrap_u64, HQ.out]
      · rw [← HL.out, HS.out, Nat.mod_eq_of_lt (digit_lt _ _)]
    · obtain rfl : k = e8 n := by omega
      have hd : decide ((8 : Int) * ((e8 n : Nat) : Int) < (n : Int)) = false := by simp; unfold e8; omega
      go_wp2
      go_ret
      exact ⟨rfl, HB.out⟩
end Go.Proofs.Ytkicndengkcojaa

/- The document's reader: GetNumber, and the four calls. -/
namespace Go.Proofs.Ytkicndengkcojaa
set_option maxRecDepth 100000
open Go.RowKit Go.Sort

theorem run_cutN' {P : Program} {T : TypeId} (hT : P.underlying T = some .string) (s : ByteArray) (lo : Int) (a : Nat) (ha : lo = (a : Int)) (has : a ≤ s.size) (w : World) :
    (Instr.slice T (.string s) (some (.int .i64 lo)) none none).run P w = .ok (.string (s.extract a s.size)) w := by
  subst ha
  have h1 : (0 : Int) ≤ (a : Int) ∧ (a : Int) ≤ (s.size : Int) := by omega
  simp [Instr.slice, run_underlying hT, Instr.sliceBounds, Instr.sliceBound, asIntOf, h1, has]
theorem txt_mid (l : List Nat) (a b : Nat) : (txt l).extract a b = txt ((l.take b).drop a) := by
  apply ByteArray.ext
  rw [ByteArray.data_extract]
  apply Array.ext'
  simp [txt, List.extract, List.map_take, List.map_drop, List.drop_take]
theorem txt_from (l : List Nat) (a : Nat) : (txt l).extract a (txt l).size = txt (l.drop a) := by rw [txt_mid, txt_size, List.take_length]
/-- a text is cut behind its first a bytes -/
theorem cut_from (l : List Nat) (a : Nat) (h : a ≤ l.length) (w : World) : (Instr.slice 9 (.string (txt l)) (some (.int .i64 (a : Int))) none none).run Try.prog w = .ok (.string (txt (l.drop a))) w := by
  rw [run_cutN' Try.underlying9 _ (a : Int) a rfl (by rw [txt_size]; exact h), txt_from]
theorem cut_upto (l : List Nat) (a : Nat) (h : a ≤ l.length) (w : World) : (Instr.slice 9 (.string (txt l)) none (some (.int .i64 (a : Int))) none).run Try.prog w = .ok (.string (txt (l.take a))) w := by
  rw [run_cut0 Try.underlying9 _ (a : Int) a rfl (by rw [txt_size]; exact h), txt_mid, List.drop_zero]
theorem cut_mid (l : List Nat) (a b : Nat) (h : a ≤ b) (hb : b ≤ l.length) (w : World) : (Instr.slice 9 (.string (txt l)) (some (.int .i64 (a : Int))) (some (.int .i64 (b : Int))) none).run Try.prog w = .ok (.string (txt ((l.take b).drop a))) w := by
  rw [run_cut Try.underlying9 _ (a : Int) (b : Int) a b rfl rfl h (by rw [txt_size]; exact hb), txt_mid]
/-- a byte of a text -/
theorem run_at (l : List Nat) (hl : ∀ b ∈ l, b < 256) (i : Nat) (h : i < l.length) (w : World) : (Instr.index 9 (.string (txt l)) (.int .i64 (i : Int))).run Try.prog w = .ok (.int .u8 ((l[i] : Nat) : Int)) w := by
  have hi : (0 : Int) ≤ (i : Int) ∧ (i : Int) < ((txt l).size : Int) := by rw [txt_size]; omega
  rw [run_index_string w 9 (txt l) .i64 (i : Int) Try.underlying9, dif_pos hi]
  simp only [Int.toNat_natCast]
  rw [txt_get l i (by rw [txt_size]; exact h) hl]

theorem run_at0 (c : Nat) (t : List Nat) (hl : ∀ b ∈ c :: t, b < 256) (w : World) : (Instr.index 9 (.string (txt (c :: t))) (.int .i64 0)).run Try.prog w = .ok (.int .u8 (c : Int)) w := run_at (c :: t) hl 0 (by simp) w
theorem run_atS (c : Nat) (t : List Nat) (hl : ∀ b ∈ c :: t, b < 256) (k : Nat) (h : k < t.length) (w : World) : (Instr.index 9 (.string (txt (c :: t))) (.int .i64 ((k : Int) + 1))).run Try.prog w = .ok (.int .u8 ((t[k] : Nat) : Int)) w := run_at (c :: t) hl (k + 1) (by simp; omega) w

/-- what GetNumber answers -/
def numv (r : Nat × Nat × Nat) : Value := .tuple #[.int .u64 (r.1 : Int), .int .i64 (r.2.1 : Int), .int .i64 (r.2.2 : Int)]
theorem refGet_nil (w : World) : Calls Try.prog 107 #[.string (txt [])] w fun e w' => e = .returned (numv (rNum [])) ∧ Below w.heap.size w w' := by
  have hz : (txt []).size = 0 := txt_size []
  go_enter Try.func107, Try.ntmps107
  go_wp2
  exact bodyPost_ret (v := numv (0, 0, 4)) (by simp [results, Try.results107, go_sem, numv]) rfl ⟨rfl, Below.refl _ _⟩
theorem refGet_big (c : Nat) (t : List Nat) (w : World) (hl : ∀ b ∈ c :: t, b < 256) (h : 8 < c) (hz : t.length ≤ 1000000) : Calls Try.prog 107 #[.string (txt (c :: t))] w fun e w' => e = .returned (numv (rNum (c :: t))) ∧ Below w.heap.size w w' := by
  have hz2 : (txt (c :: t)).size = t.length + 1 := txt_size _
  have h0 := run_at0 c t hl
  have hc := hl c (List.mem_cons_self ..)
  have HE : Hid (rNum (c :: t) = (0, 0, 3)) := by unfold Hid; rw [rNum, if_pos h]
  generalize hx : txt (c :: t) = x at *
  go_enter Try.func107, Try.ntmps107
  go_wp2
  exact bodyPost_ret (v := numv (0, 0, 3)) (by simp [results, Try.results107, go_sem, numv]) rfl ⟨by rw [HE.out], Below.refl _ _⟩
theorem refGet_few (c : Nat) (t : List Nat) (w : World) (hl : ∀ b ∈ c :: t, b < 256) (h : ¬ 8 < c) (h2 : t.length < c) (hz : t.length ≤ 1000000) : Calls Try.prog 107 #[.string (txt (c :: t))] w fun e w' => e = .returned (numv (rNum (c :: t))) ∧ Below w.heap.size w w' := by
  have hz2 : (txt (c :: t)).size = t.length + 1 := txt_size _
  have h0 := run_at0 c t hl
  have HE : Hid (rNum (c :: t) = (0, 0, 4)) := by unfold Hid; rw [rNum, if_neg h, if_pos h2]
  generalize hx : txt (c :: t) = x at *
  go_enter Try.func107, Try.ntmps107
  go_wp2
  exact bodyPost_ret (v := numv (0, 0, 4)) (by simp [results, Try.results107, go_sem, numv]) rfl ⟨by rw [HE.out], Below.refl _ _⟩
theorem num_same (c : Nat) (t : List Nat) (hl : ∀ b ∈ t, b < 256) (h2 : ¬ t.length < c) : (!((txt (numN (valN (t.take c)))).toList == (txt (c :: t.take c)).toList)) = decide (nb (valN (t.take c)) < c) := by
  have hb : ∀ b ∈ t.take c, b < 256 := fun b hb => hl b (List.mem_of_mem_take hb)
  have hlen : (t.take c).length = c := by rw [List.length_take]; omega
  have hlt := valN_lt hb
  rw [hlen] at hlt
  have hle := nb_le.2 hlt
  rw [toList_beq]
  by_cases e : nb (valN (t.take c)) < c
  · rw [decide_eq_true e, decide_eq_false]; rfl
    intro h3
    have h4 := congrArg ByteArray.size h3
    rw [txt_size, txt_size, numN_length, List.length_cons, hlen] at h4
    omega
  · rw [decide_eq_false e, decide_eq_true]; rfl
    rw [numN, show nb (valN (t.take c)) = c by omega, dig_valN hb hlen]
set_option maxHeartbeats 1000000 in
theorem refGet_some (c : Nat) (t : List Nat) (w : World) (hl : ∀ b ∈ c :: t, b < 256) (h : ¬ 8 < c) (h2 : ¬ t.length < c) (hz : t.length ≤ 1000000) : Calls Try.prog 107 #[.string (txt (c :: t))] w fun e w' => e = .returned (numv (rNum (c :: t))) ∧ Below w.heap.size w w' := by
  have hz2 : (txt (c :: t)).size = t.length + 1 := txt_size _
  have h0 := run_at0 c t hl
  have hb : ∀ b ∈ t, b < 256 := fun b hb => hl b (List.mem_cons_of_mem _ hb)
  have HI := Lib.hid (fun (k : Nat) (hk : k < t.length) w => run_atS c t hl k hk w)
  have HS := Lib.hid (num_same c t hb h2)
  have HC : Hid (∀ w, (Instr.slice 9 (.string (txt (c :: t))) none (some (.int .i64 (1 + (c : Int)))) none).run Try.prog w = .ok (.string (txt (c :: t.take c))) w) := fun w => by
    have := cut_upto (c :: t) (c + 1) (by simp; omega) w
    rwa [List.take_succ_cons, show ((c + 1 : Nat) : Int) = 1 + (c : Int) by omega] at this
  have HV := Lib.hid (fun (k : Nat) (hk : k ≤ 8) => show valN (t.take k) < 18446744073709551616 from Nat.lt_of_lt_of_le (valN_lt (fun b hb' => hb b (List.mem_of_mem_take hb'))) (Nat.le_trans (Nat.pow_le_pow_right (by omega) (show (t.take k).length ≤ 8 by rw [List.length_take]; omega)) (by decide)))
  have HT := Lib.hid (fun (k : Nat) (hk : k < t.length) => show valN (t.take (k + 1)) = 256 * valN (t.take k) + t[k] by rw [List.take_add_one, List.getElem?_eq_getElem hk]; exact valN_snoc _ _)
  have HE : Hid (rNum (c :: t) = if nb (valN (t.take c)) < c then (0, 0, 3) else (valN (t.take c), 1 + c, 0)) := by unfold Hid; rw [rNum, if_neg h, if_neg h2]
  have HB := Lib.hid hb
  clear hb hl
  generalize hx : txt (c :: t) = x at *
  go_enter Try.func107, Try.ntmps107
  go_wp2
  clear h0
  go_loop [6, 7] (fun v i => ∃ k : Nat, k ≤ c ∧ i = .int .i64 (((k + 1 : Nat)) : Int) ∧ v = .int .u64 ((valN (t.take k) : Nat) : Int)) (fun _ i => 9 - (intOf i).toNat)
  case atStart => exact ⟨0, by omega, rfl, rfl⟩
  case round =>
    obtain ⟨k, hk, rfl, rfl⟩ := hrel
    by_cases hlt : k < c
    · have hi := HI.out k (by omega)
      have hT := Lib.hid (HT.out k (by omega))
      have hv := HV.out (k + 1) (by omega)
      rw [hT.out] at hv
      have hy := HB.out (t[k]'(by omega)) (List.getElem_mem _)
      generalize valN (t.take k) = v at *
      generalize t[k] = y at *
      go_wp2
      exact ⟨⟨k + 1, by omega, by go_num, by rw [hT.out]; exact congrArg (Value.int .u64) (by omega)⟩, by simp [intOf]; omega⟩
    · obtain rfl : k = c := by omega
      have hv := HV.out k (by omega)
      have HN : Gives Try.prog 38 #[.int .u64 ((valN (t.take k) : Nat) : Int)] (.string (txt (numN (valN (t.take k))))) := fun w => refNum_any _ w hv
      have hs := HS.out
      have hcut := HC.out
      have g1 : IntKind.i64.wrap (1 + (k : Int)) = 1 + (k : Int) := IntWalk.i64_in _ (by omega)
      clear HI HS HC HV HT HB
      generalize txt (numN (valN (t.take k))) = a at *
      generalize txt (k :: t.take k) = b at *
      generalize valN (t.take k) = v at *
      go_upto_region 13 with (fail)
      refine wp_region_quiet_below (by kernel_rfl) (by kernel_rfl) ?_
      repeat (first
        | go_big_quiet_skip
        | (go_big_quiet_want
           go_big_quiet_op
           first | go_big_quiet_on | go_big_quiet_call (first | with_reducible exact HN.grown _ _)))
      refine wpQuiet_nil ?_
      intro _ hw'
      obtain ⟨⟨dq, osq⟩, hw''⟩ := hw'
      subst hw''
      clear hcut g1
      by_cases hd : nb v < k
      · rw [if_pos hd] at HE
        rw [decide_eq_true hd]
        clear hs
        go_wp2
        exact bodyPost_ret (v := numv (0, 0, 3)) (by simp [results, Try.results107, go_sem, numv]) rfl ⟨by rw [HE.out], below_regrown _ dq osq⟩
      · rw [if_neg hd] at HE
        rw [decide_eq_false hd]
        clear hs
        go_wp2
        exact bodyPost_ret (v := numv (v, 1 + k, 0)) (by simp [results, Try.results107, go_sem, numv]) rfl ⟨by rw [HE.out], below_regrown _ dq osq⟩
theorem refGet_any (l : List Nat) (w : World) (hl : ∀ b ∈ l, b < 256) (hz : l.length ≤ 1000000) : Calls Try.prog 107 #[.string (txt l)] w fun e w' => e = .returned (numv (rNum l)) ∧ Below w.heap.size w w' := by
  cases l with
  | nil => exact refGet_nil w
  | cons c t =>
    have hz' : t.length ≤ 1000000 := by simp at hz; omega
    by_cases h : 8 < c
    · exact refGet_big c t w hl h hz'
    · by_cases h2 : t.length < c
      · exact refGet_few c t w hl h h2 hz'
      · exact refGet_some c t w hl h h2 hz'
end Go.Proofs.Ytkicndengkcojaa

/- The document's reader: the four calls. -/
namespace Go.Proofs.Ytkicndengkcojaa
set_option maxRecDepth 100000
open Go.RowKit Go.Sort

/-- the document's reader lies in block g, and has these bytes left -/
def Sr (w : World) (g : Nat) (l : List Nat) : Prop := Blk w g #[.string (txt l)] 75
theorem Sr.cell {w : World} {g : Nat} {l : List Nat} (k : Sr w g l) : w.cell? ⟨g, 0, none⟩ = some (.string (txt l)) := Blk.cell k 0
theorem Sr.free {w : World} {g : Nat} {l : List Nat} (k : Sr w g l) : w.frozen? ⟨g, 0, none⟩ = false := Blk.free k 0
theorem Sr.put {w : World} {g : Nat} {l : List Nat} (k : Sr w g l) (m : List Nat) : Sr (w.setCell ⟨g, 0, none⟩ (.string (txt m))) g m := Blk.put k 0 (.string (txt m))
theorem Sr.below {w w' : World} {g : Nat} {l : List Nat} (k : Sr w g l) (hb : Below w.heap.size w w') : Sr w' g l := Blk.below k hb (Blk.lt k)
theorem Sr.lt {w : World} {g : Nat} {l : List Nat} (k : Sr w g l) : g < w.heap.size := Blk.lt k
/-- a call of the document's reader: it answers, and has these bytes left -/
def Gets (f : FuncId) (g : Nat) (l : List Nat) (v : Value) (m : List Nat) : Prop :=
  ∀ w : World, Sr w g l → Calls Try.prog f #[.pointer (some ⟨g, 0, none⟩)] w fun e w' => e = .returned v ∧ Sr w' g m ∧ Keep w w' g g

theorem refNumM_any (g : Nat) (l : List Nat) (hl : ∀ b ∈ l, b < 256) (hz : l.length ≤ 1000000) :
    Gets 88 g l (.tuple #[.int .u64 ((rNum l).1 : Int), .int .i64 ((rNum l).2.2 : Int)]) (l.drop (rNum l).2.1) := by
  intro w hS
  have HG := Lib.hid (fun w => refGet_any l w hl hz)
  have hle := (rNum_lt hl).2
  have HC := Lib.hid (fun w => cut_from l (rNum l).2.1 hle w)
  have hcd := rNum_code l
  generalize rNum l = r at *
  obtain ⟨v, n, e⟩ := r
  simp only [numv] at *
  have c0 := hS.cell
  have HS := Lib.hid hS
  clear hS
  go_enter Try.func88, Try.ntmps88
  go_upto_region 2 with (go_at_call 107; (with_reducible refine (HG.out _).mono ?_); rintro e1 w1 ⟨rfl, hb1⟩)
  have HK := Lib.hid (Keep.of hb1 g g)
  replace HS := Lib.hid (HS.out.below hb1)
  clear hb1 c0 HG
  rcases hcd with rfl | ⟨rfl, rfl, rfl⟩ | ⟨rfl, rfl, rfl⟩
  · have c0 := HS.out.cell
    have f0 := HS.out.free
    have hc := HC.out
    clear HC
    go_wp2
    go_ret2
    exact ⟨rfl, HS.out.put _, HK.out.setCell 0 _⟩
  · go_wp2
    go_ret2
    exact ⟨rfl, HS.out, HK.out⟩
  · go_wp2
    go_ret2
    exact ⟨rfl, HS.out, HK.out⟩

theorem refTxtM_any (g : Nat) (l : List Nat) (hl : ∀ b ∈ l, b < 256) (hz : l.length ≤ 1000000) :
    Gets 108 g l (.tuple #[.string (txt (rTxt l).1), .int .i64 ((rTxt l).2.2 : Int)]) (l.drop (rTxt l).2.1) := by
  intro w hS
  have HG := Lib.hid (fun w => refGet_any l w hl hz)
  obtain ⟨hv, hle⟩ := rNum_lt hl
  have hcd := rNum_code l
  have HR : Hid (rTxt l = if (rNum l).2.2 ≠ 0 then ([], 0, (rNum l).2.2) else if 4096 < (rNum l).1 then ([], 0, 3) else if l.length < (rNum l).2.1 + (rNum l).1 then ([], 0, 4)
    else ((l.drop (rNum l).2.1).take (rNum l).1, (rNum l).2.1 + (rNum l).1, 0)) := rfl
  generalize rTxt l = R at *
  generalize rNum l = r at *
  obtain ⟨v, n, e⟩ := r
  simp only [numv] at *
  have c0 := hS.cell
  have HS := Lib.hid hS
  have hsz := txt_size l
  clear hS
  go_enter Try.func108, Try.ntmps108
  go_upto_region 2 with (go_at_call 107; (with_reducible refine (HG.out _).mono ?_); rintro e1 w1 ⟨rfl, hb1⟩)
  have HK := Lib.hid (Keep.of hb1 g g)
  replace HS := Lib.hid (HS.out.below hb1)
  clear hb1 c0 HG
  rcases hcd with rfl | ⟨rfl, rfl, rfl⟩ | ⟨rfl, rfl, rfl⟩
  · have HR1 : Hid (R = if 4096 < v then ([], 0, 3) else if l.length < n + v then ([], 0, 4) else ((l.drop n).take v, n + v, 0)) := by
      have := HR.out
      unfold Hid
      rwa [if_neg (by simp)] at this
    clear HR
    have c0 := HS.out.cell
    have f0 := HS.out.free
    by_cases h4 : 4096 < v
    · have hd : decide ((4096 : Int) < (v : Int)) = true := by simp; omega
      have HE : Hid (R = ([], 0, 3)) := by
        have := HR1.out
        unfold Hid
        rwa [if_pos h4] at this
      go_wp2
      go_ret2
      rw [HE.out]
      exact ⟨rfl, HS.out, HK.out⟩
    · have hd : decide ((4096 : Int) < (v : Int)) = false := by simp; omega
      by_cases h5 : l.length < n + v
      · have HE : Hid (R = ([], 0, 4)) := by
          have := HR1.out
          unfold Hid
          rwa [if_neg h4, if_pos h5] at this
        have hd2 : decide ((l.length : Int) - (n : Int) < (v : Int)) = true := by simp; omega
        go_wp2
        go_ret2
        rw [HE.out]
        exact ⟨rfl, HS.out, HK.out⟩
      · have HE : Hid (R = ((l.drop n).take v, n + v, 0)) := by
          have := HR1.out
          unfold Hid
          rwa [if_neg h4, if_neg h5] at this
        have hd2 : decide ((l.length : Int) - (n : Int) < (v : Int)) = false := by simp; omega
        have hc1 := cut_mid l n (n + v) (by omega) (by omega)
        rw [show (l.take (n + v)).drop n = (l.drop n).take v by rw [List.drop_take, show n + v - n = v by omega], show ((n + v : Nat) : Int) = (n : Int) + (v : Int) by omega] at hc1
        have hc2 := cut_from l (n + v) (by omega)
        rw [show ((n + v : Nat) : Int) = (n : Int) + (v : Int) by omega] at hc2
        clear HR1
        go_wp2
        go_ret2
        rw [HE.out]
        exact ⟨rfl, HS.out.put _, HK.out.setCell 0 _⟩
  · have HE : Hid (R = ([], 0, 3)) := by
      have := HR.out
      unfold Hid
      rwa [if_pos (by simp)] at this
    clear HR
    go_wp2
    go_ret2
    rw [HE.out]
    exact ⟨rfl, HS.out, HK.out⟩
  · have HE : Hid (R = ([], 0, 4)) := by
      have := HR.out
      unfold Hid
      rwa [if_pos (by simp)] at this
    clear HR
    go_wp2
    go_ret2
    rw [HE.out]
    exact ⟨rfl, HS.out, HK.out⟩
end Go.Proofs.Ytkicndengkcojaa

/- The document's reader: places and labels. -/
namespace Go.Proofs.Ytkicndengkcojaa
set_option maxRecDepth 100000
open Go.RowKit Go.Sort

theorem results_arr2 {P : Program} {fn : Func} {p t : Tmp} {ty : TypeId} (h : fn.results = #[.cell p ty, .tmp t]) (tmps : Array Value) (w : World) (g : Nat) (cs : Array Value) (ty' : TypeId) (d : TypeDesc)
    (hp : tmps.getD p undef = .pointer (some ⟨g, 0, none⟩)) (hg : Blk w g cs ty') (hu : P.underlying ty = some d) (hd : (match d with | .struct _ | .array _ _ => true | _ => false) = true) (hi : (P.info? ty).map (·.size) = some cs.size) :
    (results fn tmps).run P w = .ok (.tuple #[.agg cs, tmps.getD t undef]) w := by
  have hp' : tmps[p]?.getD undef = .pointer (some ⟨g, 0, none⟩) := by simpa using hp
  simp [results, h, hp', asAddr, run_loadVar_row w g ty' ty cs (0, 0) d hg hu hd hi]
theorem size_id (l : List Nat) (h : l.length = 20) (m : List Nat) (h' : m.length = 20) : (row l).size = (row m).size := by rw [row_size, row_size, h, h']

/-- two blocks of the call's own: what is answered, and what is filled -/
structure MemO (w wr : World) (Z O : Array Value) (T : TypeId) : Prop where
  below : Below w.heap.size w wr
  z : Blk wr w.heap.size Z T
  o : Blk wr (w.heap.size + 1) O T
theorem MemO.made (w : World) (Z O : Array Value) (T : TypeId) : MemO w ((w.alloc (.cells Z T)).alloc (.cells O T)) Z O T :=
  ⟨((Below.refl _ _).alloc (Nat.le_refl _) _).alloc (by simp) _, (Blk.new w _ _).alloc _, by have h := Blk.new (w.alloc (.cells Z T)) O T; rwa [World.size_alloc] at h⟩
theorem MemO.put {w wr : World} {Z O : Array Value} {T : TypeId} (k : MemO w wr Z O T) (i : Nat) (v : Value) : MemO w (wr.setCell ⟨w.heap.size + 1, i, none⟩ v) Z (O.setIfInBounds i v) T :=
  ⟨k.below.setCell (p := ⟨w.heap.size + 1, i, none⟩) (by simp) _, k.z.other _ _ _ (by omega), k.o.put _ _⟩
theorem MemO.drew {w wr : World} {Z O : Array Value} {T : TypeId} (k : MemO w wr Z O T) : MemO w wr.drew Z O T := ⟨k.below.drew, k.z.drew, k.o.drew⟩
theorem MemO.grown {w wr w' : World} {Z O : Array Value} {T : TypeId} (k : MemO w wr Z O T) (hb : Below wr.heap.size wr w') : MemO w w' Z O T :=
  ⟨k.below.trans (hb.mono k.below.size), k.z.below hb k.z.lt, k.o.below hb k.o.lt⟩
theorem Sr.own {w wr : World} {g : Nat} {l : List Nat} (k : Sr w g l) (hb : Below w.heap.size w wr) : Sr wr g l := k.below hb

def gf (l : List Nat) (k j : Nat) : Nat := if j < k then l.getD j 0 else 0
theorem gf_zero (l : List Nat) (n : Nat) : tab n (gf l 0) = List.replicate n 0 := by
  rw [show List.replicate n 0 = tab n (fun _ => 0) by rw [tab, List.map_const', List.length_range]]
  exact tab_congr fun j _ => by unfold gf; rw [if_neg (by omega)]
theorem gf_full (l : List Nat) (n : Nat) (h : n ≤ l.length) : tab n (gf l n) = l.take n := by
  symm
  refine tab_ext (by rw [List.length_take]; omega) fun i hi => ?_
  unfold gf
  rw [if_pos hi, List.getElem?_take, if_pos hi, List.getD_eq_getElem?_getD, List.getElem?_eq_getElem (by omega)]
  rfl
theorem gf_step (l : List Nat) (n k : Nat) : (tab n (gf l k)).set k (l.getD k 0) = tab n (gf l (k + 1)) := by
  rw [tab_set]
  refine tab_congr fun i _ => ?_
  unfold gf
  by_cases e : i = k
  · rw [if_pos e, if_pos (by omega), e]
  · rw [if_neg e]
    by_cases e2 : i < k
    · rw [if_pos e2, if_pos (by omega)]
    · rw [if_neg e2, if_neg (by omega)]
theorem getD_at (l : List Nat) (k : Nat) (h : k < l.length) : l.getD k 0 = l[k] := by rw [List.getD_eq_getElem?_getD, List.getElem?_eq_getElem h]; rfl
theorem zrow20 : row (List.replicate 20 0) = row (dig 20 0) := rfl

/-! labels -/
theorem results_labv2 {fn : Func} {p t : Tmp} (h : fn.results = #[.cell p 25, .tmp t]) (tmps : Array Value) (w : World) (g : Nat) (n : Int) (b : Nat) (v : Value)
    (hp : tmps.getD p undef = .pointer (some ⟨g, 0, none⟩)) (hv : tmps.getD t undef = v) (hg : Blk w g (labc n b) 25) :
    (results fn tmps).run Try.prog w = .ok (.tuple #[.agg (labc n b), v]) w := by
  rw [results_arr2 h tmps w g _ 25 _ hp hg Try.underlying25 rfl infoLab, hv]
theorem or_high (a x k : Nat) (ha : a % 2 ^ k = 0) (hx : x < 2 ^ k) : a ||| x = a + x := by
  obtain ⟨q, rfl⟩ := Nat.dvd_of_mod_eq_zero ha
  exact (Nat.two_pow_add_eq_or_of_lt hx q).symm
theorem labV_take (t : List Nat) (ht : ∀ b ∈ t, b < 256) (i : Nat) (hi : i < t.length) (h8 : i < 8) :
    labV (t.take (i + 1)) = labV (t.take i) + t[i] * 2 ^ (56 - 8 * i) ∧ labV (t.take i) % 2 ^ (64 - 8 * i) = 0 ∧ t[i] * 2 ^ (56 - 8 * i) < 2 ^ (64 - 8 * i) := by
  have hx := ht t[i] (List.getElem_mem _)
  have l1 : (t.take (i + 1)).length = i + 1 := by rw [List.length_take]; omega
  have l2 : (t.take i).length = i := by rw [List.length_take]; omega
  have e1 : 256 ^ (8 - (i + 1)) = 2 ^ (56 - 8 * i) := by rw [pow8]; congr 1; omega
  have e2 : 256 ^ (8 - i) = 2 ^ (64 - 8 * i) := by rw [pow8]; congr 1; omega
  have e3 : 2 ^ (64 - 8 * i) = 256 * 2 ^ (56 - 8 * i) := by rw [show (256 : Nat) = 2 ^ 8 from rfl, ← Nat.pow_add]; congr 1; omega
  have e4 : valN (t.take (i + 1)) = 256 * valN (t.take i) + t[i] := by rw [List.take_add_one, List.getElem?_eq_getElem hi]; exact valN_snoc _ _
  unfold labV
  rw [l1, l2, e1, e2, e4]
  refine ⟨?_, Nat.mul_mod_left _ _, ?_⟩
  · rw [e3, Nat.add_mul, Nat.mul_comm 256 (valN _), Nat.mul_assoc]
  · rw [e3]; exact Nat.mul_lt_mul_of_pos_right hx (Nat.pow_pos (by omega))
theorem labV_or (t : List Nat) (ht : ∀ b ∈ t, b < 256) (i : Nat) (hi : i < t.length) (h8 : i < 8) :
    bits .or .u64 ((labV (t.take i) : Nat) : Int) (IntKind.u64.wrap ((t[i] : Int) * 2 ^ (56 - 8 * i))) = ((labV (t.take (i + 1)) : Nat) : Int) := by
  obtain ⟨h1, h2, h3⟩ := labV_take t ht i hi h8
  have hb : labV (t.take (i + 1)) < 18446744073709551616 := labV_lt (fun b hb => ht b (List.mem_of_mem_take hb)) (by rw [List.length_take]; omega)
  rw [show (t[i] : Int) * 2 ^ (56 - 8 * i) = ((t[i] * 2 ^ (56 - 8 * i) : Nat) : Int) by rw [Int.natCast_mul, Int.natCast_pow]; rfl, wrap_u64, Nat.mod_eq_of_lt (by omega), u64_or_nat _ _ (by omega) (by omega), or_high _ _ _ h2 h3, ← h1]
end Go.Proofs.Ytkicndengkcojaa

/- The document's reader: labels. -/
namespace Go.Proofs.Ytkicndengkcojaa
set_option maxRecDepth 100000
open Go.RowKit Go.Sort

theorem labV_nil : labV [] = 0 := by simp [labV, valN]
theorem run_atP (c : Nat) (t : List Nat) (hl : ∀ b ∈ c :: t, b < 256) (k : Nat) (h : k < t.length) (w : World) : (Instr.index 9 (.string (txt (c :: t))) (.int .i64 (1 + (k : Int)))).run Try.prog w = .ok (.int .u8 ((t[k] : Nat) : Int)) w := by
  have := run_at (c :: t) hl (k + 1) (by simp; omega) w
  rwa [show ((k + 1 : Nat) : Int) = 1 + (k : Int) by omega] at this
theorem refLabM_nil (g : Nat) : Gets 109 g [] (.tuple #[.agg (labc 0 0), .int .i64 4]) [] := by
  intro w hS
  have HS := Lib.hid hS
  have hg := hS.lt
  have hsz := txt_size []
  clear hS
  go_enter Try.func109, Try.ntmps109
  go_upto_region 1 with (fail)
  rw [lab00]
  have A0 := Lib.hid (Blk.new w (labc 0 0) 25)
  have B0 := Lib.hid ((Below.refl w.heap.size w).alloc (Nat.le_refl _) (.cells (labc 0 0) 25))
  generalize w.alloc _ = W at *
  have c0 := (HS.out.own B0.out).cell
  go_wp2_with (refine p_storeL rfl _ _ rfl w.heap.size rfl 0 0 rfl 0 0 A0.out ?_)
  refine bodyPost_ret (results_labv2 Try.results109 _ _ w.heap.size 0 0 (.int .i64 4) rfl rfl (A0.out.setRow _)) rfl ?_
  exact ⟨rfl, HS.out.own (bel_setRow B0.out (Nat.le_refl _) _), Keep.of (bel_setRow B0.out (Nat.le_refl _) _) _ _⟩
theorem refLabM_big (g c : Nat) (t : List Nat) (hl : ∀ b ∈ c :: t, b < 256) (hz : t.length ≤ 1000000) (h : 64 < c) : Gets 109 g (c :: t) (.tuple #[.agg (labc 0 0), .int .i64 3]) (c :: t) := by
  intro w hS
  have HS := Lib.hid hS
  have hg := hS.lt
  have hsz : (txt (c :: t)).size = t.length + 1 := txt_size _
  have hc := hl c (List.mem_cons_self ..)
  have h0 := run_at0 c t hl
  clear hS
  go_enter Try.func109, Try.ntmps109
  go_upto_region 1 with (fail)
  rw [lab00]
  have A0 := Lib.hid (Blk.new w (labc 0 0) 25)
  have B0 := Lib.hid ((Below.refl w.heap.size w).alloc (Nat.le_refl _) (.cells (labc 0 0) 25))
  generalize w.alloc _ = W at *
  have c0 := (HS.out.own B0.out).cell
  go_upto_region 4 with (refine wpList_store_newrow rfl 25 _ _ rfl (labc c 0) rfl rfl infoLab (lab_all _ _) rfl ?_)
  replace A0 := Lib.hid (A0.out.alloc (.cells (labc c 0) 25))
  have A1 := Lib.hid (Blk.new W (labc c 0) 25)
  replace B0 := Lib.hid (B0.out.alloc B0.out.size (.cells (labc c 0) 25))
  clear c0 h0
  generalize W.heap.size = q at *
  generalize W.alloc _ = W1 at *
  have c0 := lab0 A1.out
  go_wp2_with (refine p_storeL rfl _ _ rfl w.heap.size rfl 0 0 rfl 0 0 A0.out ?_)
  refine bodyPost_ret (results_labv2 Try.results109 _ _ w.heap.size 0 0 (.int .i64 3) rfl rfl (A0.out.setRow _)) rfl ?_
  exact ⟨rfl, HS.out.own (bel_setRow B0.out (Nat.le_refl _) _), Keep.of (bel_setRow B0.out (Nat.le_refl _) _) _ _⟩
theorem refLabM_few (g c : Nat) (t : List Nat) (hl : ∀ b ∈ c :: t, b < 256) (hz : t.length ≤ 1000000) (h : ¬ 64 < c) (h2 : t.length < e8 c) : Gets 109 g (c :: t) (.tuple #[.agg (labc 0 0), .int .i64 4]) (c :: t) := by
  intro w hS
  have HS := Lib.hid hS
  have hg := hS.lt
  have hsz : (txt (c :: t)).size = t.length + 1 := txt_size _
  have h0 := run_at0 c t hl
  clear hS
  go_enter Try.func109, Try.ntmps109
  go_upto_region 1 with (fail)
  rw [lab00]
  have A0 := Lib.hid (Blk.new w (labc 0 0) 25)
  have B0 := Lib.hid ((Below.refl w.heap.size w).alloc (Nat.le_refl _) (.cells (labc 0 0) 25))
  generalize w.alloc _ = W at *
  have c0 := (HS.out.own B0.out).cell
  go_upto_region 4 with (refine wpList_store_newrow rfl 25 _ _ rfl (labc c 0) rfl rfl infoLab (lab_all _ _) rfl ?_)
  replace A0 := Lib.hid (A0.out.alloc (.cells (labc c 0) 25))
  have A1 := Lib.hid (Blk.new W (labc c 0) 25)
  replace B0 := Lib.hid (B0.out.alloc B0.out.size (.cells (labc c 0) 25))
  clear c0 h0
  generalize W.heap.size = q at *
  generalize W.alloc _ = W1 at *
  have c0 := lab0 A1.out
  have c1 := (HS.out.own B0.out).cell
  have hd : decide ((t.length : Int) + 1 < 1 + ((c : Int) + 7) / 8) = true := by simp; unfold e8 at h2; omega
  go_wp2_with (refine p_storeL rfl _ _ rfl w.heap.size rfl 0 0 rfl 0 0 A0.out ?_)
  refine bodyPost_ret (results_labv2 Try.results109 _ _ w.heap.size 0 0 (.int .i64 4) rfl rfl (A0.out.setRow _)) rfl ?_
  exact ⟨rfl, HS.out.own (bel_setRow B0.out (Nat.le_refl _) _), Keep.of (bel_setRow B0.out (Nat.le_refl _) _) _ _⟩
set_option maxRecDepth 100000 in
set_option maxHeartbeats 2000000 in
theorem refLabM_some (g c : Nat) (t : List Nat) (hl : ∀ b ∈ c :: t, b < 256) (hz : t.length ≤ 1000000) (h : ¬ 64 < c) (n : Nat) (hn : e8 c = n) (h2 : ¬ t.length < n) (r : Bool) (hr : lowB c (labV (t.take n)) = r) :
    Gets 109 g (c :: t) (if r then .tuple #[.agg (labc c (labV (t.take (n)))), .int .i64 0] else .tuple #[.agg (labc 0 0), .int .i64 3]) (if r then (c :: t).drop (1 + n) else c :: t) := by
  intro w hS
  have HS := Lib.hid hS
  have hg := hS.lt
  have hsz : (txt (c :: t)).size = t.length + 1 := txt_size _
  have h0 := run_at0 c t hl
  have h8 := e8_le (n := c) (by omega)
  rw [hn] at h8
  have HN := Lib.hid hn
  clear hn
  have ht : ∀ b ∈ t, b < 256 := fun b hb => hl b (List.mem_cons_of_mem _ hb)
  have HI := Lib.hid (fun (k : Nat) (hk : k < t.length) w => run_atP c t hl k hk w)
  have HO := Lib.hid (fun (k : Nat) (hk : k < t.length) (h8 : k < 8) => labV_or t ht k hk h8)
  have hV : labV (t.take (n)) < 18446744073709551616 := labV_lt (fun b hb => ht b (List.mem_of_mem_take hb)) (by rw [List.length_take]; omega)
  have HL : Gives Try.prog 52 #[.agg (labc c (labV (t.take (n))))] (.bool r) := fun w => hr ▸ refIs_yes c _ w (by omega) hV
  have HC := Lib.hid (fun w => cut_from (c :: t) (1 + n) (by simp; omega) w)
  rw [show ((1 + n : Nat) : Int) = 1 + ((n : Nat) : Int) by omega] at HC
  have HT := Lib.hid ht
  clear hS ht hl hr hV
  go_enter Try.func109, Try.ntmps109
  go_upto_region 1 with (fail)
  rw [lab00]
  have A0 := Lib.hid (Blk.new w (labc 0 0) 25)
  have B0 := Lib.hid ((Below.refl w.heap.size w).alloc (Nat.le_refl _) (.cells (labc 0 0) 25))
  generalize hW : w.alloc _ = W at *
  have c0 := (HS.out.own B0.out).cell
  go_upto_region 4 with (refine wpList_store_newrow rfl 25 _ _ rfl (labc c 0) rfl rfl infoLab (lab_all _ _) rfl ?_)
  subst hW
  have K := Lib.hid (MemO.made w (labc 0 0) (labc c 0) 25)
  rw [World.size_alloc]
  clear c0 h0 A0 B0
  generalize (w.alloc _).alloc _ = W1 at *
  have c0 := lab0 K.out.o
  have c1 := (HS.out.own K.out.below).cell
  have hd : decide ((t.length : Int) + 1 < 1 + ((c : Int) + 7) / 8) = false := by simp; have := HN.out; unfold e8 at this; omega
  go_upto_region 9 with (fail)
  rw [show ((c : Int) + 7) / 8 = ((n : Nat) : Int) by rw [← HN.out]; unfold e8; omega]
  clear c0 c1 hd
  have h2' : n ≤ t.length := by omega
  clear h2
  go_wp2
  go_loopw [6] (fun i wr => ∃ k : Nat, k ≤ n ∧ i = .int .i64 (k : Int) ∧ MemO w wr (labc 0 0) (labc c (labV (t.take k))) 25) (fun i _ => n - (intOf i).toNat)
  case atStart => exact ⟨0, by omega, rfl, by rw [List.take_zero, labV_nil]; exact K.out⟩
  case round =>
    clear K
    obtain ⟨k, hk, rfl, K⟩ := hrel
    by_cases hlt : k < n
    · have hi := HI.out k (by omega)
      have ho := HO.out k (by omega) (by omega)
      have hx := HT.out (t[k]'(by omega)) (List.getElem_mem _)
      have c0 := (HS.out.own K.below).cell
      have c1 := lab1 K.o
      have f1 := K.o.free 1
      have HK := Lib.hid K
      clear K HI HO HT HC HL
      generalize hX : t[k]'(by omega) = x at *
      generalize hv' : labV (t.take (k + 1)) = v' at *
      have HV := Lib.hid hv'
      clear hv'
      generalize labV (t.take k) = v at *
      clear hX
      go_upto_region 12 with (fail)
      have g1 : IntKind.i64.wrap (1 + (k : Int)) = 1 + (k : Int) := IntWalk.i64_in _ (by omega)
      have g2 : IntKind.i64.wrap (8 * (k : Int)) = 8 * (k : Int) := IntWalk.i64_in _ (by omega)
      have g3 : IntKind.i64.wrap (56 - 8 * (k : Int)) = 56 - 8 * (k : Int) := IntWalk.i64_in _ (by omega)
      have t1 : (56 - 8 * (k : Int)).toNat = 56 - 8 * k := by omega
      have b1 : (0 : Int) ≤ 56 - 8 * (k : Int) := by omega
      refine wp_region_tail0 16 (by kernel_rfl) (by kernel_rfl) (fun _ _ _ _ _ h => h) ?_
      simp only [List.take_succ_cons, List.take_zero, List.drop_succ_cons, List.drop_zero]
      repeat still_step
      refine wpStill_nil ?_
      clear g1 g2 g3 t1 b1 hi
      go_wp2
      refine ⟨⟨k + 1, by omega, by go_num, ?_⟩, by simp [intOf]; omega⟩
      rw [HV.out]
      exact (HK.out.put 1 (.int .u64 (v' : Int))).drew
    · obtain rfl : k = n := by omega
      have HK := Lib.hid K
      clear K HI HO HT
      have hc := HC.out
      clear HC
      cases r
      · go_wp2_with (first | (refine p_loadL rfl _ rfl _ rfl _ _ (by first | with_reducible exact HK.out.o) ?_) | (refine p_storeL rfl _ _ rfl w.heap.size rfl 0 0 rfl 0 0 HK2.out.z ?_) | (go_at_call 52; (with_reducible refine (HL.calls _).mono ?_); rintro e w2 ⟨rfl, hb2⟩; have HK2 := Lib.hid (HK.out.grown hb2)))
        refine bodyPost_ret (results_labv2 Try.results109 _ _ w.heap.size 0 0 (.int .i64 3) rfl rfl (HK2.out.z.setRow _)) rfl ?_
        exact ⟨rfl, HS.out.own (bel_setRow HK2.out.below (Nat.le_refl _) _), Keep.of (bel_setRow HK2.out.below (Nat.le_refl _) _) _ _⟩
      · go_upto_region 15 with (first | (refine p_loadL rfl _ rfl _ rfl _ _ (by first | with_reducible exact HK.out.o) ?_) | (go_at_call 52; (with_reducible refine (HL.calls _).mono ?_); rintro e w2 ⟨rfl, hb2⟩; have HK2 := Lib.hid (HK.out.grown hb2)))
        have c0 := (HS.out.own HK2.out.below).cell
        have f0 := (HS.out.own HK2.out.below).free
        have HZ : Hid (Blk (w2.setCell ⟨g, 0, none⟩ (.string (txt ((c :: t).drop (1 + k))))) w.heap.size (labc 0 0) 25) := HK2.out.z.other _ _ _ (by omega)
        have HO : Hid (Blk (w2.setCell ⟨g, 0, none⟩ (.string (txt ((c :: t).drop (1 + k))))) (w.heap.size + 1) (labc c (labV (t.take k))) 25) := HK2.out.o.other _ _ _ (by omega)
        go_wp2_with (first | (refine p_loadL rfl _ rfl _ rfl _ _ (by first | with_reducible exact HO.out) ?_) | (refine p_storeL rfl _ _ rfl w.heap.size rfl _ _ rfl 0 0 HZ.out ?_))
        refine bodyPost_ret (results_labv2 Try.results109 _ _ w.heap.size c (labV (t.take k)) (.int .i64 0) rfl rfl (HZ.out.setRow _)) rfl ?_
        have KK : Keep w (w2.setCell ⟨g, 0, none⟩ (.string (txt ((c :: t).drop (1 + k))))) g g := (Keep.of HK2.out.below g g).setCell 0 _
        refine ⟨rfl, Blk.setRow_other ((HS.out.own HK2.out.below).put _) _ _ (by omega), ?_⟩
        exact ⟨KK.os, KK.tape, KK.output, by simpa [World.setRow] using KK.size, fun j hj h1 h2 => (Go.setRow_other _ _ j _ (by omega)).trans (KK.block j hj h1 h2)⟩
theorem refLabM_any (g : Nat) (l : List Nat) (hl : ∀ b ∈ l, b < 256) (hz : l.length ≤ 1000000) :
    Gets 109 g l (.tuple #[.agg (labc ((rLab l).1 : Nat) (rLab l).2.1), .int .i64 ((rLab l).2.2.2 : Int)]) (l.drop (rLab l).2.2.1) := by
  cases l with
  | nil => exact refLabM_nil g
  | cons c t =>
    have hz' : t.length ≤ 1000000 := by simp at hz; omega
    by_cases h : 64 < c
    · rw [show rLab (c :: t) = (0, 0, 0, 3) by rw [rLab, if_pos h]]
      exact refLabM_big g c t hl hz' h
    · by_cases h2 : t.length < e8 c
      · rw [show rLab (c :: t) = (0, 0, 0, 4) by rw [rLab, if_neg h, if_pos h2]]
        exact refLabM_few g c t hl hz' h h2
      · cases hr : lowB c (labV (t.take (e8 c)))
        · rw [show rLab (c :: t) = (0, 0, 0, 3) by rw [rLab, if_neg h, if_neg h2, if_pos hr]]
          exact refLabM_some g c t hl hz' h (e8 c) rfl h2 false hr
        · rw [show rLab (c :: t) = (c, labV (t.take (e8 c)), 1 + e8 c, 0) by rw [rLab, if_neg h, if_neg h2, if_neg (by rw [hr]; decide)]]
          exact refLabM_some g c t hl hz' h (e8 c) rfl h2 true hr
end Go.Proofs.Ytkicndengkcojaa

/- The program's reader: New, Left, fill. -/
namespace Go.Proofs.Ytkicndengkcojaa
set_option maxRecDepth 100000
open Go.RowKit Go.Sort

theorem src_new (w : World) (s : ByteArray) (cap : Nat) : Src (w.drew.alloc (.cells (bytesRow s cap) 5 ((bytesRow s cap).size, (bytesRow s cap).size + 1))) w.heap.size s := by
  refine ⟨_, _, _, heap_alloc_new w.drew _, fun j hj => ?_⟩
  unfold bytesRow byteAt
  rw [Array.getElem?_append_left (by simpa using hj), Array.getElem?_map]
  have hj' : j < s.data.size := hj
  rw [Array.getElem?_eq_getElem hj']
  simp [Array.getD, show j < s.size from hj]
theorem new_any (s : ByteArray) (w : World) : Calls Try.prog 45 #[.string s] w fun e w' => ∃ c, e = .returned (.pointer (some ⟨w.heap.size + 1, 0, none⟩)) ∧ Rd w' (w.heap.size + 1) w.heap.size c s 0 ∧ Below w.heap.size w w' := by
  have hcv := run_bytes_of_string (P := Try.prog) w 9 104 5 s Try.underlying9 Try.underlying104 Try.underlying5
  have hge := grownCap_ge w s.size 0 5
  have HS := Lib.hid (src_new w s (grownCap w s.size 0 5))
  have HB : Hid (Below w.heap.size w (w.drew.alloc (.cells (bytesRow s (grownCap w s.size 0 5)) 5 ((bytesRow s (grownCap w s.size 0 5)).size, (bytesRow s (grownCap w s.size 0 5)).size + 1)))) := (Below.refl _ _).drew.alloc (Nat.le_refl _) _
  have hz : (w.drew.alloc (.cells (bytesRow s (grownCap w s.size 0 5)) 5 ((bytesRow s (grownCap w s.size 0 5)).size, (bytesRow s (grownCap w s.size 0 5)).size + 1))).heap.size = w.heap.size + 1 := by simp
  generalize grownCap w s.size 0 5 = c at *
  generalize w.drew.alloc _ = W at *
  go_enter Try.func45, Try.ntmps45
  go_wp2
  go_ret
  refine ⟨c, rfl, ?_, HB.out.alloc HB.out.size _⟩
  have hb := Blk.new W (rdc w.heap.size s.size c 0) 110
  rw [hz] at hb
  obtain ⟨C, e, fr, h3, h4⟩ := HS.out
  exact ⟨hb, ⟨C, e, fr, (Below.heap_alloc W _ _ (by omega)).trans h3, h4⟩, by omega, hge, by omega⟩

theorem left_nil (w : World) : Calls Try.prog 47 #[.pointer none] w fun e w' => e = .returned (.int .i64 0) ∧ Below w.heap.size w w' := by
  go_enter Try.func47, Try.ntmps47
  go_wp2
  go_ret
  exact ⟨rfl, Below.refl _ _⟩
theorem left_any {w : World} {g h c : Nat} {s : ByteArray} {p : Nat} (k : Rd w g h c s p) (hs : s.size ≤ 1000000) : Calls Try.prog 47 #[.pointer (some ⟨g, 0, none⟩)] w fun e w' => e = .returned (.int .i64 ((s.size - p : Nat) : Int)) ∧ Below w.heap.size w w' := by
  have hle := k.le
  have c0 := k.cell0
  have c1 := k.cell1
  clear k
  have g1 : IntKind.i64.wrap ((s.size : Int) - (p : Int)) = (s.size : Int) - (p : Int) := IntWalk.i64_in _ (by omega)
  go_enter Try.func47, Try.ntmps47
  go_upto_region 3 with (fail)
  go_quiet (fail)
  clear g1
  go_wp2
  go_ret
  refine ⟨congrArg Ending.returned (congrArg (Value.int IntKind.i64) (by omega)), ?_⟩
  exact bel_drewN (Below.refl _ _) _

/-! bytes are filled in -/
theorem under_s : Try.prog.underlying 104 = some (.slice (Try.prog.elem 104)) := by kernel_rfl
theorem elem_s : Try.prog.elem 104 = 5 := by kernel_rfl
theorem run_src (h n c p m : Nat) (hm : p + m ≤ c) (w : World) : (Instr.slice 104 (.slice (some ⟨h, 0, none⟩) n c) (some (.int .i64 (p : Int))) (some (.int .i64 ((p : Int) + (m : Int)))) (some (.int .i64 ((p : Int) + (m : Int))))).run Try.prog w = .ok (.slice (some ⟨h, offO p (p + m), none⟩) m m) w := by
  rw [run_slice_lhm w 104 (some ⟨h, 0, none⟩) n c under_s .i64 .i64 .i64 (p : Int) ((p : Int) + (m : Int)) ((p : Int) + (m : Int)) (by omega) (by omega) (by omega) (by omega), elem_s, size_u8]
  simp only [Result.andThen, sliced]
  rw [show ((p : Int) + (m : Int)).toNat = p + m by omega, Int.toNat_natCast, show p + m - p = m by omega]
  unfold offO
  by_cases h0 : m = 0
  · subst h0; simp
  · rw [if_neg (by omega)]
    simp [addr_add, h0]
theorem src_cells {w : World} {h : Nat} {s : ByteArray} (k : Src w h s) (p m : Nat) (hm : p + m ≤ s.size) : ∀ j v, (cellsN ((rest s p).take m))[j]? = some v → w.cell? ⟨h, offO p (p + m) + j, none⟩ = some v := by
  intro j v hj
  have hlt : j < m := by
    rcases Nat.lt_or_ge j m with h | h
    · exact h
    · rw [List.getElem?_eq_none (by rw [cellsN_length, List.length_take]; omega)] at hj; cases hj
  rw [offO_lt (by omega), k.cell _ (by omega)]
  rw [cellsN, List.getElem?_map, List.getElem?_take, if_pos hlt, rest_get s p j (by omega)] at hj
  exact hj
theorem fill_more {w : World} {g h c : Nat} {s : ByteArray} {p : Nat} (k : Rd w g h c s p) (hs : s.size ≤ 1000000) (b off m cap : Nat) (hlt : s.size < p + m) :
    Calls Try.prog 114 #[.pointer (some ⟨g, 0, none⟩), .slice (some ⟨b, off, none⟩) m cap] w fun e w' => e = .returned (.int .i64 4) ∧ Below w.heap.size w w' := by
  have hle := k.le
  have HL := Lib.hid (left_any k hs)
  have hd : decide (((s.size - p : Nat) : Int) < (m : Int)) = true := by simp; omega
  go_enter Try.func114, Try.ntmps114
  go_wp2_with (go_at_call 47; (with_reducible refine HL.out.mono ?_); rintro e w1 ⟨rfl, hb1⟩)
  go_ret
  exact ⟨rfl, hb1⟩
set_option maxRecDepth 100000 in
set_option maxHeartbeats 1000000 in
theorem fill_yes {w : World} {g h c : Nat} {s : ByteArray} {p : Nat} (k : Rd w g h c s p) (hs : s.size ≤ 1000000) (b off m cap : Nat) (hle : p + m ≤ s.size) (L : List Nat) (t : TypeId) (hB : Blk w b (row L) t) (hfit : off + m ≤ L.length) (hbg : b ≠ g) (hbh : b ≠ h) :
    Calls Try.prog 114 #[.pointer (some ⟨g, 0, none⟩), .slice (some ⟨b, off, none⟩) m cap] w fun e w' => e = .returned (.int .i64 0) ∧ Rd w' g h c s (p + m) ∧ Blk w' b (row (L.take off ++ (rest s p).take m ++ L.drop (off + m))) t ∧ Keep w w' g b := by
  have HL := Lib.hid (left_any k hs)
  have hd : decide (((s.size - p : Nat) : Int) < (m : Int)) = false := by simp; omega
  have HR := Lib.hid k
  have HB := Lib.hid hB
  have hcap := k.cap
  clear k hB
  go_enter Try.func114, Try.ntmps114
  go_upto_region 3 with (go_at_call 47; (with_reducible refine HL.out.mono ?_); rintro e w1 ⟨rfl, hb1⟩)
  have HK := Lib.hid (Keep.of hb1 g b)
  replace HR := Lib.hid (HR.out.below hb1)
  replace HB := Lib.hid (HB.out.below hb1 HB.out.lt)
  clear hb1 HL hd
  have c1 := HR.out.cell1
  go_upto_region 4 with (fail)
  have c0 := HR.out.cell0
  have hsl := run_src h s.size c p m (by omega)
  refine wp_region_tailP 12 0 _ _ rfl rfl rfl (by kernel_rfl) (by kernel_rfl) (fun _ _ _ _ _ h => h) ?_
  simp only [List.take_succ_cons, List.take_zero, List.drop_succ_cons, List.drop_zero, List.eraseIdx_cons_zero]
  repeat still_step
  refine wpStill_nil ?_
  clear c0 c1 hsl
  have hl : ((rest s p).take m).length = m := by rw [List.length_take, rest_length]; omega
  have HR2 := Lib.hid (HR.out.drew.row b (row (L.take off ++ (rest s p).take m ++ L.drop (off + m))) hbg.symm hbh.symm)
  have HB2 := Lib.hid (HB.out.drew.setRow (row (L.take off ++ (rest s p).take m ++ L.drop (off + m))))
  have HK2 : Hid (Keep w w1.drew g b) := HK.out.trans (Keep.of (Below.refl _ _).drew g b)
  go_upto_region 5 with (refine wpList_copy_slc rfl _ _ 104 104 rfl 5 Try.underlying104 info5 b off m cap h (offO p (p + m)) m rfl rfl (row L) t HB.out.drew (cellsN ((rest s p).take m)) (by rw [cellsN_length, hl]) (src_cells HR.out.drew.src p m hle) (by rw [row_size]; exact hfit) (cellsN_one _) _ (row_splice _ _ _ _) ?_)
  have HK3 := Lib.hid (HK2.out.setRow (row (L.take off ++ (rest s p).take m ++ L.drop (off + m))))
  clear HK2 HK HB HR
  generalize w1.drew.setRow _ _ = W at *
  have c1 := HR2.out.cell1
  have f1 := HR2.out.free1
  go_wp2
  go_ret
  refine ⟨rfl, HR2.out.at _ hle, HB2.out.other _ _ _ hbg, HK3.out.setCell 1 _⟩
end Go.Proofs.Ytkicndengkcojaa

/- The program's reader: first, join, number. -/
namespace Go.Proofs.Ytkicndengkcojaa
set_option maxRecDepth 100000
open Go.RowKit Go.Sort

theorem zeros1 : (#[Value.int IntKind.u8 0] : Array Value) = row [0] := rfl
theorem first_more {w : World} {g h c : Nat} {s : ByteArray} {p : Nat} (k : Rd w g h c s p) (hs : s.size ≤ 1000000) (most : Nat) (hlt : s.size ≤ p) :
    Calls Try.prog 113 #[.pointer (some ⟨g, 0, none⟩), .int .u8 (most : Int)] w fun e w' => e = .returned (.tuple #[.int .i64 0, .int .i64 4]) ∧ Below w.heap.size w w' := by
  go_enter Try.func113, Try.ntmps113
  go_upto_region 2 with (fail)
  have B0 := (Below.refl w.heap.size w).alloc (Nat.le_refl _) (.cells (row [0]) 139)
  rw [zeros1]
  have HF := Lib.hid (fill_more (k.below B0) hs w.heap.size 0 1 1 (by omega))
  generalize w.alloc _ = W at *
  go_wp2_with (go_at_call 114; (with_reducible refine HF.out.mono ?_); rintro e w1 ⟨rfl, hb1⟩)
  go_ret2
  exact ⟨rfl, B0.trans (hb1.mono B0.size)⟩
theorem first_some {w : World} {g h c : Nat} {s : ByteArray} {p : Nat} (k : Rd w g h c s p) (hs : s.size ≤ 1000000) (most : Nat) (hlt : p < s.size) (x : Nat) (hx : byteAt s p = x) :
    Calls Try.prog 113 #[.pointer (some ⟨g, 0, none⟩), .int .u8 (most : Int)] w fun e w' => e = .returned (if most < x then .tuple #[.int .i64 0, .int .i64 3] else .tuple #[.int .i64 (x : Int), .int .i64 0]) ∧ Rd w' g h c s (p + 1) ∧ Keep w w' g g := by
  have hb := byteAt_lt s p
  rw [hx] at hb
  have hg := k.lt
  have hne := k.ne
  by_cases hm : most < x
  · rw [if_pos hm]
    have hd : decide (most < x) = true := decide_eq_true hm
    clear hm
    go_enter Try.func113, Try.ntmps113
    go_upto_region 2 with (fail)
    have B0 := (Below.refl w.heap.size w).alloc (Nat.le_refl _) (.cells (row [0]) 139)
    have A0 := Blk.new w (row [0]) 139
    rw [zeros1]
    have HF := fill_yes (k.below B0) hs w.heap.size 0 1 1 (by omega) [0] 139 A0 (by simp) (by omega) (by omega)
    rw [show ([0] : List Nat).take 0 ++ (rest s p).take 1 ++ ([0] : List Nat).drop (0 + 1) = [x] by rw [rest_cons s p hlt, hx]; rfl] at HF
    replace HF := Lib.hid HF
    clear A0
    generalize w.alloc _ = W at *
    go_upto_region 3 with (go_at_call 114; (with_reducible refine HF.out.mono ?_); rintro e w1 ⟨rfl, hr1, hb1, hk1⟩)
    have HR := Lib.hid hr1
    have HK : Hid (Keep w w1 g g) := (Keep.of B0 g g).new hk1 (Nat.le_refl _)
    have c0 : w1.cell? ⟨w.heap.size, 0, none⟩ = some (.int .u8 (x : Int)) := hb1.cell 0
    clear hr1 hk1 hb1 HF B0 k
    go_wp2
    go_ret2
    exact ⟨rfl, HR.out, HK.out⟩
  · rw [if_neg hm]
    have hd : decide (most < x) = false := decide_eq_false hm
    clear hm
    go_enter Try.func113, Try.ntmps113
    go_upto_region 2 with (fail)
    have B0 := (Below.refl w.heap.size w).alloc (Nat.le_refl _) (.cells (row [0]) 139)
    have A0 := Blk.new w (row [0]) 139
    rw [zeros1]
    have HF := fill_yes (k.below B0) hs w.heap.size 0 1 1 (by omega) [0] 139 A0 (by simp) (by omega) (by omega)
    rw [show ([0] : List Nat).take 0 ++ (rest s p).take 1 ++ ([0] : List Nat).drop (0 + 1) = [x] by rw [rest_cons s p hlt, hx]; rfl] at HF
    replace HF := Lib.hid HF
    clear A0
    generalize w.alloc _ = W at *
    go_upto_region 3 with (go_at_call 114; (with_reducible refine HF.out.mono ?_); rintro e w1 ⟨rfl, hr1, hb1, hk1⟩)
    have HR := Lib.hid hr1
    have HK : Hid (Keep w w1 g g) := (Keep.of B0 g g).new hk1 (Nat.le_refl _)
    have c0 : w1.cell? ⟨w.heap.size, 0, none⟩ = some (.int .u8 (x : Int)) := hb1.cell 0
    clear hr1 hk1 hb1 HF B0 k
    go_wp2
    go_ret2
    exact ⟨rfl, HR.out, HK.out⟩

theorem run_part_w (l : List Nat) (i : Nat) (h : i < l.length) (hl : l.length = 8) (w : World) : (Instr.index 101 (.agg (row l)) (.int .i64 (i : Int))).run Try.prog w = .ok (.int .u8 ((l[i] : Nat) : Int)) w := by
  have e := run_part5 l i h w
  have hi : (0 : Int) ≤ i ∧ (i : Int) < 8 := by omega
  simp [Instr.index, asIntOf, run_underlying Try.underlying101, e]
  omega
theorem or_byte (v x : Nat) (hv : 256 * v + x < 18446744073709551616) (hx : x < 256) : bits .or .u64 (IntKind.u64.wrap ((v : Int) * 256)) (x : Int) = ((256 * v + x : Nat) : Int) := by
  rw [show (v : Int) * 256 = ((256 * v : Nat) : Int) by omega, wrap_u64, Nat.mod_eq_of_lt (by omega), u64_or_nat _ _ (by omega) (by omega), or_high (256 * v) x 8 (by omega) (by omega)]
theorem or_byte' (v x : Nat) (hv : 256 * v + x < 18446744073709551616) (hx : x < 256) : bits .or .u64 ((v : Int) * 256) (x : Int) = ((256 * v + x : Nat) : Int) := by
  rw [show (v : Int) * 256 = ((256 * v : Nat) : Int) by omega, u64_or_nat _ _ (by omega) (by omega), or_high (256 * v) x 8 (by omega) (by omega)]
set_option maxHeartbeats 1000000 in
theorem join_any (l : List Nat) (hb : ∀ b ∈ l, b < 256) (hl : l.length = 8) (w : World) : Calls Try.prog 115 #[.agg (row l)] w fun e w' => e = .returned (.int .u64 ((valN l : Nat) : Int)) ∧ Below w.heap.size w w' := by
  have HI := Lib.hid (fun (k : Nat) (hk : k < l.length) w => run_part_w l k hk hl w)
  have HV := Lib.hid (fun (k : Nat) (hk : k ≤ 8) => show valN (l.take k) < 18446744073709551616 from Nat.lt_of_lt_of_le (valN_lt (fun b hb' => hb b (List.mem_of_mem_take hb'))) (Nat.le_trans (Nat.pow_le_pow_right (by omega) (show (l.take k).length ≤ 8 by rw [List.length_take]; omega)) (by decide)))
  have HT := Lib.hid (fun (k : Nat) (hk : k < l.length) => show valN (l.take (k + 1)) = 256 * valN (l.take k) + l[k] by rw [List.take_add_one, List.getElem?_eq_getElem hk]; exact valN_snoc _ _)
  have HF : Hid (valN (l.take 8) = valN l) := by unfold Hid; rw [List.take_of_length_le (by omega)]
  have HB := Lib.hid hb
  clear hb
  go_enter Try.func115, Try.ntmps115
  go_upto_region 1 with (fail)
  have A0 := Blk.new w (row l) 101
  have B0 := (Below.refl w.heap.size w).alloc (Nat.le_refl _) (.cells (row l) 101)
  generalize w.alloc _ = W at *
  go_wp2_with (refine wpList_load_row rfl 101 _ rfl w.heap.size rfl 101 _ (0, 0) _ A0 Try.underlying101 rfl (info_w _ hl) ?_)
  have HB0 := Lib.hid B0
  clear A0 B0
  go_loop [3, 7] (fun v i => ∃ k : Nat, k ≤ 8 ∧ i = .int .i64 (k : Int) ∧ v = .int .u64 ((valN (l.take k) : Nat) : Int)) (fun _ i => 8 - (intOf i).toNat)
  case atStart => exact ⟨0, by omega, rfl, rfl⟩
  case round =>
    obtain ⟨k, hk, rfl, rfl⟩ := hrel
    by_cases hlt : k < 8
    · have hi := HI.out k (by omega)
      have hT := Lib.hid (HT.out k (by omega))
      have hv := HV.out (k + 1) (by omega)
      rw [hT.out] at hv
      have hy := HB.out (l[k]'(by omega)) (List.getElem_mem _)
      clear HI HT HV HB
      generalize valN (l.take k) = v at *
      generalize l[k]'(by omega) = y at *
      have ho := or_byte v y hv hy
      have ho' := or_byte' v y hv hy
      go_wp2
      exact ⟨⟨k + 1, by omega, by go_num, by rw [hT.out]; exact congrArg (Value.int .u64) (by omega)⟩, by simp [intOf]; omega⟩
    · obtain rfl : k = 8 := by omega
      rw [HF.out]
      go_wp2
      go_ret
      exact ⟨rfl, HB0.out⟩

/-! a number is read -/
theorem rest_succ_len (s : ByteArray) (p : Nat) : (rest s (p + 1)).length = s.size - (p + 1) := rest_length s (p + 1)
/-- what a call of the reader's answers, where it stands then, and what it leaves -/
def Reads (f : FuncId) (w : World) (g h c : Nat) (s : ByteArray) (p : Nat) (v : Value) (n e : Nat) : Prop :=
  Calls Try.prog f #[.pointer (some ⟨g, 0, none⟩)] w fun r w' => r = .returned (.tuple #[v, .int .i64 (e : Int)]) ∧ (∃ q, Rd w' g h c s q ∧ (e = 0 → q = p + n)) ∧ Keep w w' g g
theorem number_end {w : World} {g h c : Nat} {s : ByteArray} {p : Nat} (k : Rd w g h c s p) (hs : s.size ≤ 1000000) (hp : s.size ≤ p) : Reads 104 w g h c s p (.int .u64 0) 0 4 := by
  have HF := first_more k hs 8 hp
  rw [show ((8 : Nat) : Int) = 8 from rfl] at HF
  replace HF := Lib.hid HF
  have HR := Lib.hid k
  unfold Reads
  clear k
  go_enter Try.func104, Try.ntmps104
  go_wp2_with (go_at_call 113; (with_reducible refine HF.out.mono ?_); rintro e w1 ⟨rfl, hb1⟩)
  go_ret2
  exact ⟨rfl, ⟨p, HR.out.below hb1, fun h => by cases h⟩, Keep.of hb1 g g⟩
theorem number_big {w : World} {g h c : Nat} {s : ByteArray} {p : Nat} (k : Rd w g h c s p) (hs : s.size ≤ 1000000) (hp : p < s.size) (hx : 8 < byteAt s p) : Reads 104 w g h c s p (.int .u64 0) 0 3 := by
  have HF := first_some k hs 8 hp (byteAt s p) rfl
  rw [if_pos hx, show ((8 : Nat) : Int) = 8 from rfl] at HF
  replace HF := Lib.hid HF
  unfold Reads
  clear k
  go_enter Try.func104, Try.ntmps104
  go_wp2_with (go_at_call 113; (with_reducible refine HF.out.mono ?_); rintro e w1 ⟨rfl, hr1, hk1⟩)
  go_ret2
  exact ⟨rfl, ⟨p + 1, hr1, fun h => by cases h⟩, hk1⟩
/-- a word's last bytes are filled -/
theorem word_filled (m : List Nat) (n : Nat) (hm : m.length = n) (hn : n ≤ 8) : (List.replicate 8 0).take (offO (8 - n) 8) ++ m ++ (List.replicate 8 0).drop (offO (8 - n) 8 + n) = List.replicate (8 - n) 0 ++ m := by
  unfold offO
  by_cases h : n = 0
  · subst h
    obtain rfl : m = [] := List.eq_nil_of_length_eq_zero hm
    simp
  · rw [if_neg (by omega), show 8 - n + n = 8 by omega, List.take_replicate, List.drop_replicate, show min (8 - n) 8 = 8 - n by omega]
    simp
set_option maxHeartbeats 1000000 in
theorem number_few {w : World} {g h c : Nat} {s : ByteArray} {p : Nat} (k : Rd w g h c s p) (hs : s.size ≤ 1000000) (hp : p < s.size) (n : Nat) (hn : byteAt s p = n) (hx : ¬ 8 < n) (hf : s.size < p + 1 + n) : Reads 104 w g h c s p (.int .u64 0) 0 4 := by
  have HF := first_some k hs 8 hp n hn
  rw [if_neg hx, show ((8 : Nat) : Int) = 8 from rfl] at HF
  replace HF := Lib.hid HF
  have hg := k.lt
  have hr := run_from8
  unfold Reads
  clear k hn
  go_enter Try.func104, Try.ntmps104
  go_upto_region 2 with (go_at_call 113; (with_reducible refine HF.out.mono ?_); rintro e w1 ⟨rfl, hr1, hk1⟩)
  go_upto_region 5 with (fail)
  rw [zeros8]
  have B1 := (Below.refl w1.heap.size w1).alloc (Nat.le_refl _) (.cells (row (List.replicate 8 0)) 101)
  have HK : Hid (Keep w _ g g) := hk1.trans (Keep.of B1 g g)
  have HR := Lib.hid (hr1.below B1)
  have HM := Lib.hid (fill_more HR.out hs w1.heap.size (offO (8 - n) 8) n n hf)
  have hsl := hr w1.heap.size n (by omega)
  clear hr HF hr1 hk1 B1
  generalize w1.alloc _ = W at *
  go_wp2_with (go_at_call 114; (with_reducible refine HM.out.mono ?_); rintro e w2 ⟨rfl, hb2⟩)
  go_ret2
  exact ⟨rfl, ⟨p + 1, HR.out.below hb2, fun h => by cases h⟩, HK.out.trans (Keep.of hb2 g g)⟩
set_option maxHeartbeats 1000000 in
theorem number_some {w : World} {g h c : Nat} {s : ByteArray} {p : Nat} (k : Rd w g h c s p) (hs : s.size ≤ 1000000) (hp : p < s.size) (n : Nat) (hn : byteAt s p = n) (hx : ¬ 8 < n) (hf : p + 1 + n ≤ s.size) (V : Nat) (hV : V = valN ((rest s (p + 1)).take n)) :
    Reads 104 w g h c s p (if nb V < n then .int .u64 0 else .int .u64 (V : Int)) (1 + n) (if nb V < n then 3 else 0) := by
  have HF := first_some k hs 8 hp n hn
  rw [if_neg hx, show ((8 : Nat) : Int) = 8 from rfl] at HF
  replace HF := Lib.hid HF
  have hr := run_from8
  have hml : ((rest s (p + 1)).take n).length = n := by rw [List.length_take, rest_length]; omega
  have hmb : ∀ b ∈ (rest s (p + 1)).take n, b < 256 := fun b hb => rest_lt s (p + 1) b (List.mem_of_mem_take hb)
  have hvl : V < 18446744073709551616 := by
    rw [hV]
    have := valN_lt hmb
    rw [hml] at this
    exact Nat.lt_of_lt_of_le this (Nat.le_trans (Nat.pow_le_pow_right (by omega) (show n ≤ 8 by omega)) (by decide))
  have h8 := nb_le8 hvl
  have hbl : bitLen V ≤ 64 := by unfold nb at h8; omega
  have HL := Lib.hid (fun w => len64_any V w hvl)
  have HE := Lib.hid (fun w => eights_any (bitLen V) w hbl)
  rw [show (bitLen V + 7) / 8 = nb V from rfl] at HE
  have hwl : (List.replicate (8 - n) 0 ++ (rest s (p + 1)).take n).length = 8 := by rw [List.length_append, List.length_replicate, hml]; omega
  have HJ : Hid (∀ w, Calls Try.prog 115 #[.agg (row (List.replicate (8 - n) 0 ++ (rest s (p + 1)).take n))] w fun e w' => e = .returned (.int .u64 (V : Int)) ∧ Below w.heap.size w w') := fun w => by
    have := join_any _ (fun b hb => by
      rcases List.mem_append.1 hb with h | h
      · rw [(List.mem_replicate.1 h).2]; omega
      · exact hmb b h) hwl w
    rwa [valN_front, ← hV] at this
  have hg := k.lt
  unfold Reads
  clear k hn hmb hV hbl
  by_cases hm : nb V < n
  · rw [if_pos hm, if_pos hm]
    have hd : decide (nb V < n) = true := decide_eq_true hm
    clear hm
    go_enter Try.func104, Try.ntmps104
    go_upto_region 2 with (go_at_call 113; (with_reducible refine HF.out.mono ?_); rintro e w1 ⟨rfl, hr1, hk1⟩)
    go_upto_region 5 with (fail)
    rw [zeros8]
    have B1 := (Below.refl w1.heap.size w1).alloc (Nat.le_refl _) (.cells (row (List.replicate 8 0)) 101)
    have A1 := Blk.new w1 (row (List.replicate 8 0)) 101
    have HK : Hid (Keep w _ g g) := hk1.trans (Keep.of B1 g g)
    have hg1 := hr1.lt
    have hne := hr1.ne
    have hw1 := hk1.size
    have HM := fill_yes (hr1.below B1) hs w1.heap.size (offO (8 - n) 8) n n hf (List.replicate 8 0) 101 A1 (by have := offO_le (8 - n) 8 (by omega); simp; omega) (by omega) (by omega)
    rw [word_filled _ n hml (by omega)] at HM
    replace HM := Lib.hid HM
    have hsl := hr w1.heap.size n (by omega)
    clear hr HF hr1 hk1 B1 A1
    generalize w1.heap.size = b at *
    generalize w1.alloc _ = W at *
    go_upto_region 6 with (go_at_call 114; (with_reducible refine HM.out.mono ?_); rintro e w2 ⟨rfl, hr2, hb2, hk2⟩)
    have HK2 : Hid (Keep w w2 g g) := HK.out.new hk2 (by omega)
    have HR2 := Lib.hid hr2
    have HB2 := Lib.hid hb2
    clear HK hk2 hr2 hb2 hsl HM
    go_upto_region 9 with (first | (refine wpList_load_row rfl 101 _ rfl b rfl 101 _ (0, 0) _ HB2.out Try.underlying101 rfl (info_w _ hwl) ?_) | (go_at_call 115; (with_reducible refine (HJ.out _).mono ?_); rintro e w3 ⟨rfl, hb3⟩))
    have HK3 : Hid (Keep w w3 g g) := HK2.out.trans (Keep.of hb3 g g)
    have HR3 := Lib.hid (HR2.out.below hb3)
    clear HK2 HR2 HB2 hb3 HJ
    go_wp2_with (first | (go_at_call 76; (with_reducible refine (HL.out _).mono ?_); rintro e w4 ⟨rfl, rfl⟩) | (go_at_call 75; (with_reducible refine (HE.out _).mono ?_); rintro e w5 ⟨rfl, rfl⟩))
    go_ret2
    refine ⟨rfl, ⟨p + 1 + n, HR3.out, fun _ => by omega⟩, HK3.out⟩
  · rw [if_neg hm, if_neg hm]
    have hd : decide (nb V < n) = false := decide_eq_false hm
    clear hm
    go_enter Try.func104, Try.ntmps104
    go_upto_region 2 with (go_at_call 113; (with_reducible refine HF.out.mono ?_); rintro e w1 ⟨rfl, hr1, hk1⟩)
    go_upto_region 5 with (fail)
    rw [zeros8]
    have B1 := (Below.refl w1.heap.size w1).alloc (Nat.le_refl _) (.cells (row (List.replicate 8 0)) 101)
    have A1 := Blk.new w1 (row (List.replicate 8 0)) 101
    have HK : Hid (Keep w _ g g) := hk1.trans (Keep.of B1 g g)
    have hg1 := hr1.lt
    have hne := hr1.ne
    have hw1 := hk1.size
    have HM := fill_yes (hr1.below B1) hs w1.heap.size (offO (8 - n) 8) n n hf (List.replicate 8 0) 101 A1 (by have := offO_le (8 - n) 8 (by omega); simp; omega) (by omega) (by omega)
    rw [word_filled _ n hml (by omega)] at HM
    replace HM := Lib.hid HM
    have hsl := hr w1.heap.size n (by omega)
    clear hr HF hr1 hk1 B1 A1
    generalize w1.heap.size = b at *
    generalize w1.alloc _ = W at *
    go_upto_region 6 with (go_at_call 114; (with_reducible refine HM.out.mono ?_); rintro e w2 ⟨rfl, hr2, hb2, hk2⟩)
    have HK2 : Hid (Keep w w2 g g) := HK.out.new hk2 (by omega)
    have HR2 := Lib.hid hr2
    have HB2 := Lib.hid hb2
    clear HK hk2 hr2 hb2 hsl HM
    go_upto_region 9 with (first | (refine wpList_load_row rfl 101 _ rfl b rfl 101 _ (0, 0) _ HB2.out Try.underlying101 rfl (info_w _ hwl) ?_) | (go_at_call 115; (with_reducible refine (HJ.out _).mono ?_); rintro e w3 ⟨rfl, hb3⟩))
    have HK3 : Hid (Keep w w3 g g) := HK2.out.trans (Keep.of hb3 g g)
    have HR3 := Lib.hid (HR2.out.below hb3)
    clear HK2 HR2 HB2 hb3 HJ
    go_wp2_with (first | (go_at_call 76; (with_reducible refine (HL.out _).mono ?_); rintro e w4 ⟨rfl, rfl⟩) | (go_at_call 75; (with_reducible refine (HE.out _).mono ?_); rintro e w5 ⟨rfl, rfl⟩))
    go_ret2
    refine ⟨rfl, ⟨p + 1 + n, HR3.out, fun _ => by omega⟩, HK3.out⟩
theorem number_any {w : World} {g h c : Nat} {s : ByteArray} {p : Nat} (k : Rd w g h c s p) (hs : s.size ≤ 1000000) :
    Reads 104 w g h c s p (.int .u64 ((rNum (rest s p)).1 : Int)) (rNum (rest s p)).2.1 (rNum (rest s p)).2.2 := by
  rcases Nat.lt_or_ge p s.size with hp | hp
  · rw [rest_cons s p hp]
    by_cases hx : 8 < byteAt s p
    · rw [show rNum (byteAt s p :: rest s (p + 1)) = (0, 0, 3) by rw [rNum, if_pos hx]]
      exact number_big k hs hp hx
    · by_cases hf : (rest s (p + 1)).length < byteAt s p
      · rw [show rNum (byteAt s p :: rest s (p + 1)) = (0, 0, 4) by rw [rNum, if_neg hx, if_pos hf]]
        exact number_few k hs hp _ rfl hx (by rw [rest_length] at hf; omega)
      · have hN := number_some k hs hp _ rfl hx (by rw [rest_length] at hf; omega) _ rfl
        rw [rNum, if_neg hx, if_neg hf]
        by_cases hm : nb (valN ((rest s (p + 1)).take (byteAt s p))) < byteAt s p
        · rw [if_pos hm, if_pos hm] at hN
          rw [if_pos hm]
          unfold Reads at hN ⊢
          refine hN.mono ?_
          rintro e w' ⟨h1, ⟨q, h2, _⟩, h3⟩
          exact ⟨h1, ⟨q, h2, fun h => by cases h⟩, h3⟩
        · rw [if_neg hm, if_neg hm] at hN
          rw [if_neg hm]
          exact hN
  · rw [rest_nil s p hp]
    exact number_end k hs hp
end Go.Proofs.Ytkicndengkcojaa

/- The program's reader: text, place, label. -/
namespace Go.Proofs.Ytkicndengkcojaa
set_option maxRecDepth 100000
open Go.RowKit Go.Sort

/-- a slice is made of as many bytes as an unsigned number says: a new block -/
theorem wpList_make_blkU {P : Program} {w : World} {ops : Array Oper} {rest : List Oper} {o : Oper} {a : Act} {Q : Exit → Act → World → Prop}
    (hg : o.guard = none) (l c : Operand) (t : TypeId) (hop : o.op = Op.makeSlice t l c)
    (e : TypeId) (z : Value) (size bytes : Nat) (h1 : P.underlying t = some (.slice e)) (hi : (P.info? e).map (fun i => (i.zero, i.size, i.bytes)) = some (some z, size, bytes))
    (n : Nat) (hl : a.eval l = .int .u64 (n : Int)) (hc : a.eval c = .int .u64 (n : Int)) (b2 : bytes * n ≤ 281474976710656) (b3 : n ≤ 9223372036854775807) (Z : Array Value) (hZ : madeCells z.cells (n * size) = Z)
    (hK : wpList P ops Q rest (a.put o.dst (.slice (some ⟨w.heap.size, 0, none⟩) n n)) (w.alloc (.cells Z e))) :
    wpList P ops Q (o :: rest) a w := by
  refine wpList_plain hg fun K hK' => ?_
  obtain ⟨i, hi', hq⟩ := Option.map_eq_some_iff.1 hi
  simp only [Prod.mk.injEq] at hq
  obtain ⟨q1, q2, q3⟩ := hq
  have hb' : (i.bytes : Int) * (n : Int) ≤ 281474976710656 := by
    have h : ((i.bytes * n : Nat) : Int) ≤ 281474976710656 := by rw [q3]; omega
    rwa [Int.natCast_mul] at h
  have hr := run_make (P := P) w t e i z h1 hi' q1 .u64 .u64 n n (by omega) (Int.le_refl _) hb' (by omega)
  simp only [Int.toNat_natCast] at hr
  rw [q2, hZ] at hr
  unfold Oper.wp
  simp [execOp, hop, hl, hc, hr, Result.andThen]
  exact hK' _ _ hK
theorem tab_zeros (n : Nat) : (tab n fun _ => 0) = List.replicate n 0 := by rw [tab, List.map_const', List.length_range]

/-! a text -/
theorem text_code {w : World} {g h c : Nat} {s : ByteArray} {p : Nat} (k : Rd w g h c s p) (hs : s.size ≤ 1000000) (he : (rNum (rest s p)).2.2 ≠ 0) :
    Reads 117 w g h c s p (.string ⟨#[]⟩) 0 (rNum (rest s p)).2.2 := by
  have HN := number_any k hs
  generalize rNum (rest s p) = r at *
  obtain ⟨v, n, e⟩ := r
  simp only at *
  have hd : ((e : Int) != 0) = true := by rw [bne_iff_ne]; omega
  unfold Reads at HN ⊢
  have HN := Lib.hid HN
  clear k
  go_enter Try.func117, Try.ntmps117
  go_wp2_with (go_at_call 104; (with_reducible refine HN.out.mono ?_); rintro e1 w1 ⟨rfl, ⟨q, hr1, _⟩, hk1⟩)
  go_ret2
  exact ⟨rfl, ⟨q, hr1, fun h => absurd h he⟩, hk1⟩
theorem text_form {w : World} {g h c : Nat} {s : ByteArray} {p : Nat} (k : Rd w g h c s p) (hs : s.size ≤ 1000000) (v n : Nat) (he : rNum (rest s p) = (v, n, 0)) (hv : 4096 < v) :
    Reads 117 w g h c s p (.string ⟨#[]⟩) 0 3 := by
  have HN := number_any k hs
  rw [he] at HN
  have hd : decide (4096 < (v : Int)) = true := by simp; omega
  unfold Reads at HN ⊢
  have HN := Lib.hid HN
  clear k
  go_enter Try.func117, Try.ntmps117
  go_wp2_with (go_at_call 104; (with_reducible refine HN.out.mono ?_); rintro e1 w1 ⟨rfl, ⟨q, hr1, _⟩, hk1⟩)
  go_ret2
  exact ⟨rfl, ⟨q, hr1, fun h => by cases h⟩, hk1⟩
set_option maxHeartbeats 1000000 in
theorem text_few {w : World} {g h c : Nat} {s : ByteArray} {p : Nat} (k : Rd w g h c s p) (hs : s.size ≤ 1000000) (v n : Nat) (he : rNum (rest s p) = (v, n, 0)) (hv : ¬ 4096 < v) (hf : s.size < p + n + v) :
    ∃ x, Reads 117 w g h c s p (.string x) 0 4 := by
  have HN := number_any k hs
  rw [he] at HN
  have hd : decide (4096 < (v : Int)) = false := by simp; omega
  refine ⟨txt (List.replicate v 0), ?_⟩
  unfold Reads at HN ⊢
  have HN := Lib.hid HN
  clear k
  go_enter Try.func117, Try.ntmps117
  go_upto_region 6 with (go_at_call 104; (with_reducible refine HN.out.mono ?_); rintro e1 w1 ⟨rfl, ⟨q, hr1, hq⟩, hk1⟩)
  obtain rfl := hq trivial
  go_upto_region 7 with (refine wpList_make_blkU rfl _ _ 104 rfl 5 (.int .u8 0) 1 1 Try.underlying104 info8 v rfl rfl (by omega) (by omega) _ (made8 _) ?_)
  rw [tab_zeros]
  have B1 := (Below.refl w1.heap.size w1).alloc (Nat.le_refl _) (.cells (row (List.replicate v 0)) 5)
  have A1 := Blk.new w1 (row (List.replicate v 0)) 5
  have HK := Lib.hid (hk1.trans (Keep.of B1 g g))
  have HR := Lib.hid (hr1.below B1)
  have HM := Lib.hid (fill_more HR.out hs w1.heap.size 0 v v hf)
  clear hr1 hk1 hq B1
  generalize w1.heap.size = b at *
  generalize w1.alloc _ = W at *
  go_upto_region 8 with (go_at_call 114; (with_reducible refine HM.out.mono ?_); rintro e w2 ⟨rfl, hb2⟩)
  have hcv := run_text_blk (P := Try.prog) w2 104 5 9 Try.underlying104 Try.underlying5 Try.underlying9 b v v _ 5 (List.length_replicate) (A1.below hb2 A1.lt)
  have HR2 := Lib.hid (HR.out.below hb2)
  have HK2 := Lib.hid (HK.out.trans (Keep.of hb2 g g))
  clear A1 hb2 HM
  go_wp2
  go_ret2
  exact ⟨rfl, ⟨_, HR2.out, fun h => by cases h⟩, HK2.out⟩
set_option maxHeartbeats 1000000 in
theorem text_some {w : World} {g h c : Nat} {s : ByteArray} {p : Nat} (k : Rd w g h c s p) (hs : s.size ≤ 1000000) (v n : Nat) (he : rNum (rest s p) = (v, n, 0)) (hv : ¬ 4096 < v) (hf : p + n + v ≤ s.size) :
    Reads 117 w g h c s p (.string (txt ((rest s (p + n)).take v))) (n + v) 0 := by
  have HN := number_any k hs
  rw [he] at HN
  have hd : decide (4096 < (v : Int)) = false := by simp; omega
  have hml : ((rest s (p + n)).take v).length = v := by rw [List.length_take, rest_length]; omega
  unfold Reads at HN ⊢
  have HN := Lib.hid HN
  have hg := k.lt
  clear k
  go_enter Try.func117, Try.ntmps117
  go_upto_region 6 with (go_at_call 104; (with_reducible refine HN.out.mono ?_); rintro e1 w1 ⟨rfl, ⟨q, hr1, hq⟩, hk1⟩)
  obtain rfl := hq trivial
  go_upto_region 7 with (refine wpList_make_blkU rfl _ _ 104 rfl 5 (.int .u8 0) 1 1 Try.underlying104 info8 v rfl rfl (by omega) (by omega) _ (made8 _) ?_)
  rw [tab_zeros]
  have B1 := (Below.refl w1.heap.size w1).alloc (Nat.le_refl _) (.cells (row (List.replicate v 0)) 5)
  have A1 := Blk.new w1 (row (List.replicate v 0)) 5
  have HK := Lib.hid (hk1.trans (Keep.of B1 g g))
  have hg1 := hr1.lt
  have hne := hr1.ne
  have hw1 := hk1.size
  have HM := fill_yes (hr1.below B1) hs w1.heap.size 0 v v (by omega) (List.replicate v 0) 5 A1 (by simp) (by omega) (by omega)
  rw [show (List.replicate v 0).take 0 ++ (rest s (p + n)).take v ++ (List.replicate v 0).drop (0 + v) = (rest s (p + n)).take v by simp] at HM
  replace HM := Lib.hid HM
  clear hr1 hk1 hq B1 A1
  generalize w1.heap.size = b at *
  generalize w1.alloc _ = W at *
  go_upto_region 8 with (go_at_call 114; (with_reducible refine HM.out.mono ?_); rintro e w2 ⟨rfl, hr2, hb2, hk2⟩)
  have hcv := run_text_blk (P := Try.prog) w2 104 5 9 Try.underlying104 Try.underlying5 Try.underlying9 b v v _ 5 hml hb2
  have HR2 := Lib.hid hr2
  have HK2 : Hid (Keep w w2 g g) := HK.out.new hk2 (by omega)
  clear hb2 hr2 hk2 HM
  go_wp2
  go_ret2
  exact ⟨rfl, ⟨_, HR2.out, fun _ => by omega⟩, HK2.out⟩

/-! a place -/
theorem Keep.setNew {w w' : World} {g : Nat} (k : Keep w w' g g) {b : Nat} (hb : w.heap.size ≤ b) (cs : Array Value) : Keep w (w'.setRow b cs) g g :=
  ⟨k.os, k.tape, k.output, by simpa [World.setRow] using k.size, fun j hj h1 h2 => (Go.setRow_other w' b j cs (by omega)).trans (k.block j hj h1 h2)⟩
/-! a label -/
theorem label_end {w : World} {g h c : Nat} {s : ByteArray} {p : Nat} (k : Rd w g h c s p) (hs : s.size ≤ 1000000) (hp : s.size ≤ p) : Reads 119 w g h c s p (.agg (labc 0 0)) 0 4 := by
  have hg := k.lt
  have hne := k.ne
  unfold Reads
  go_enter Try.func119, Try.ntmps119
  go_upto_region 1 with (fail)
  rw [lab00]
  have A0 := Lib.hid (Blk.new w (labc 0 0) 25)
  have B0 := Lib.hid ((Below.refl w.heap.size w).alloc (Nat.le_refl _) (.cells (labc 0 0) 25))
  have HR := Lib.hid (k.below B0.out)
  have HF := first_more HR.out hs 64 hp
  rw [show ((64 : Nat) : Int) = 64 from rfl] at HF
  replace HF := Lib.hid HF
  clear k
  generalize w.alloc _ = W at *
  go_upto_region 3 with (go_at_call 113; (with_reducible refine HF.out.mono ?_); rintro e w1 ⟨rfl, hb1⟩)
  replace HR := Lib.hid (HR.out.below hb1)
  replace A0 := Lib.hid (A0.out.below hb1 A0.out.lt)
  replace B0 := Lib.hid (B0.out.trans (hb1.mono B0.out.size))
  clear HF hb1
  go_wp2_with (refine p_storeL rfl _ _ rfl w.heap.size rfl 0 0 rfl 0 0 A0.out ?_)
  refine bodyPost_ret (results_labv2 Try.results119 _ _ w.heap.size 0 0 (.int .i64 4) rfl rfl (A0.out.setRow _)) rfl ?_
  exact ⟨rfl, ⟨p, HR.out.row _ _ (by omega) (by omega), fun h => by cases h⟩, Keep.of (bel_setRow B0.out (Nat.le_refl _) _) g g⟩
theorem label_big {w : World} {g h c : Nat} {s : ByteArray} {p : Nat} (k : Rd w g h c s p) (hs : s.size ≤ 1000000) (hp : p < s.size) (hx : 64 < byteAt s p) : Reads 119 w g h c s p (.agg (labc 0 0)) 0 3 := by
  have hg := k.lt
  have hne := k.ne
  unfold Reads
  go_enter Try.func119, Try.ntmps119
  go_upto_region 1 with (fail)
  rw [lab00]
  have A0 := Lib.hid (Blk.new w (labc 0 0) 25)
  have B0 := Lib.hid ((Below.refl w.heap.size w).alloc (Nat.le_refl _) (.cells (labc 0 0) 25))
  have HF := first_some (k.below B0.out) hs 64 hp _ rfl
  rw [if_pos hx, show ((64 : Nat) : Int) = 64 from rfl] at HF
  replace HF := Lib.hid HF
  clear k
  generalize w.alloc _ = W at *
  go_upto_region 3 with (go_at_call 113; (with_reducible refine HF.out.mono ?_); rintro e w1 ⟨rfl, hr1, hk1⟩)
  have HR := Lib.hid hr1
  have HK : Hid (Keep w w1 g g) := (Keep.of B0.out g g).trans hk1
  replace A0 := Lib.hid (A0.out.keep hk1 (by omega) (by omega))
  clear HF hr1 hk1 B0
  go_wp2_with (refine p_storeL rfl _ _ rfl w.heap.size rfl 0 0 rfl 0 0 A0.out ?_)
  refine bodyPost_ret (results_labv2 Try.results119 _ _ w.heap.size 0 0 (.int .i64 3) rfl rfl (A0.out.setRow _)) rfl ?_
  exact ⟨rfl, ⟨p + 1, HR.out.row _ _ (by omega) (by omega), fun h => by cases h⟩, HK.out.setNew (Nat.le_refl _) _⟩
set_option maxHeartbeats 1000000 in
theorem label_few {w : World} {g h c : Nat} {s : ByteArray} {p : Nat} (k : Rd w g h c s p) (hs : s.size ≤ 1000000) (hp : p < s.size) (x : Nat) (hxe : byteAt s p = x) (hx : ¬ 64 < x) (hf : s.size < p + 1 + e8 x) : Reads 119 w g h c s p (.agg (labc 0 0)) 0 4 := by
  have hg := k.lt
  have hne := k.ne
  have h8 := e8_le (n := x) (by omega)
  have HE : Hid (∀ w, Calls Try.prog 75 #[.int .i64 (x : Int)] w fun e w' => e = .returned (.int .i64 ((e8 x : Nat) : Int)) ∧ w = w') := fun w => eights_any x w (by omega)
  have hr := run_upto8
  unfold Reads
  go_enter Try.func119, Try.ntmps119
  go_upto_region 1 with (fail)
  rw [lab00]
  have A0 := Lib.hid (Blk.new w (labc 0 0) 25)
  have B0 := Lib.hid ((Below.refl w.heap.size w).alloc (Nat.le_refl _) (.cells (labc 0 0) 25))
  have HF := first_some (k.below B0.out) hs 64 hp x hxe
  rw [if_neg hx, show ((64 : Nat) : Int) = 64 from rfl] at HF
  replace HF := Lib.hid HF
  clear k hxe
  generalize w.alloc _ = W at *
  go_upto_region 2 with (go_at_call 113; (with_reducible refine HF.out.mono ?_); rintro e w1 ⟨rfl, hr1, hk1⟩)
  go_upto_region 5 with (fail)
  rw [zeros8]
  have B1 := (Below.refl w1.heap.size w1).alloc (Nat.le_refl _) (.cells (row (List.replicate 8 0)) 101)
  have HK : Hid (Keep w _ g g) := ((Keep.of B0.out g g).trans hk1).trans (Keep.of B1 g g)
  have HR := Lib.hid (hr1.below B1)
  replace A0 := Lib.hid ((A0.out.keep hk1 (by omega) (by omega)).alloc (.cells (row (List.replicate 8 0)) 101))
  have HM := Lib.hid (fill_more HR.out hs w1.heap.size 0 (e8 x) 8 hf)
  have hsl := hr w1.heap.size (e8 x) h8
  clear hr HF hr1 hk1 B1 B0
  generalize w1.heap.size = b at *
  generalize w1.alloc _ = W1 at *
  go_upto_region 7 with (first | (go_at_call 75; (with_reducible refine (HE.out _).mono ?_); rintro e w5 ⟨rfl, rfl⟩) | (go_at_call 114; (with_reducible refine HM.out.mono ?_); rintro e w2 ⟨rfl, hb2⟩))
  replace HR := Lib.hid (HR.out.below hb2)
  replace A0 := Lib.hid (A0.out.below hb2 A0.out.lt)
  replace HK := Lib.hid (HK.out.trans (Keep.of hb2 g g))
  clear HM hb2 hsl
  go_wp2_with (refine p_storeL rfl _ _ rfl w.heap.size rfl 0 0 rfl 0 0 A0.out ?_)
  refine bodyPost_ret (results_labv2 Try.results119 _ _ w.heap.size 0 0 (.int .i64 4) rfl rfl (A0.out.setRow _)) rfl ?_
  exact ⟨rfl, ⟨_, HR.out.row _ _ (by omega) (by omega), fun h => by cases h⟩, HK.out.setNew (Nat.le_refl _) _⟩
end Go.Proofs.Ytkicndengkcojaa

/- The program's reader: labels, and what reads a value whole or not at all. -/
namespace Go.Proofs.Ytkicndengkcojaa
set_option maxRecDepth 100000
open Go.RowKit Go.Sort

theorem lab_filled (m : List Nat) (n : Nat) : (List.replicate 8 0).take 0 ++ m ++ (List.replicate 8 0).drop (0 + n) = m ++ List.replicate (8 - n) 0 := by
  rw [List.drop_replicate]; simp
set_option maxHeartbeats 2000000 in
theorem label_some {w : World} {g h c : Nat} {s : ByteArray} {p : Nat} (k : Rd w g h c s p) (hs : s.size ≤ 1000000) (hp : p < s.size) (x : Nat) (hxe : byteAt s p = x) (hx : ¬ 64 < x) (hf : p + 1 + e8 x ≤ s.size) (B : Nat) (hB : B = labV ((rest s (p + 1)).take (e8 x))) (r : Bool) (hr' : lowB x B = r) (v : Value) (e : Nat) (hve : (r = true → v = .agg (labc x B) ∧ e = 0) ∧ (r = false → v = .agg (labc 0 0) ∧ e = 3)) :
    Reads 119 w g h c s p v (1 + e8 x) e := by
  have HVE := Lib.hid hve
  clear hve
  have hg := k.lt
  have hne := k.ne
  have h8 := e8_le (n := x) (by omega)
  have HE : Hid (∀ w, Calls Try.prog 75 #[.int .i64 (x : Int)] w fun e w' => e = .returned (.int .i64 ((e8 x : Nat) : Int)) ∧ w = w') := fun w => eights_any x w (by omega)
  have hr := run_upto8
  generalize e8 x = n at *
  have hml : ((rest s (p + 1)).take n).length = n := by rw [List.length_take, rest_length]; omega
  have hmb : ∀ b ∈ (rest s (p + 1)).take n, b < 256 := fun b hb => rest_lt s (p + 1) b (List.mem_of_mem_take hb)
  have hBl : B < 18446744073709551616 := by rw [hB]; exact labV_lt hmb (by omega)
  have HI : Gives Try.prog 51 #[.agg (labc x B)] (.bool r) := fun w => hr' ▸ isL_yes x B w (by omega) hBl
  have hwl : ((rest s (p + 1)).take n ++ List.replicate (8 - n) 0).length = 8 := by rw [List.length_append, List.length_replicate, hml]; omega
  have HJ : Hid (∀ w, Calls Try.prog 115 #[.agg (row ((rest s (p + 1)).take n ++ List.replicate (8 - n) 0))] w fun e w' => e = .returned (.int .u64 (B : Int)) ∧ Below w.heap.size w w') := fun w => by
    have := join_any _ (fun b hb => by
      rcases List.mem_append.1 hb with h | h
      · exact hmb b h
      · rw [(List.mem_replicate.1 h).2]; omega) hwl w
    rw [valN_behind] at this
    unfold labV at hB
    rw [hml] at hB
    rwa [← hB] at this
  unfold Reads
  clear hB hr' hBl hmb
  go_enter Try.func119, Try.ntmps119
  go_upto_region 1 with (fail)
  rw [lab00]
  have A0 := Lib.hid (Blk.new w (labc 0 0) 25)
  have B0 := Lib.hid ((Below.refl w.heap.size w).alloc (Nat.le_refl _) (.cells (labc 0 0) 25))
  have HF := first_some (k.below B0.out) hs 64 hp x hxe
  rw [if_neg hx, show ((64 : Nat) : Int) = 64 from rfl] at HF
  replace HF := Lib.hid HF
  clear k hxe
  have hzs : (w.alloc (.cells (labc 0 0) 25)).heap.size = w.heap.size + 1 := World.size_alloc _ _
  generalize w.alloc _ = W at *
  go_upto_region 2 with (go_at_call 113; (with_reducible refine HF.out.mono ?_); rintro e w1 ⟨rfl, hr1, hk1⟩)
  go_upto_region 5 with (fail)
  rw [zeros8]
  have B1 := (Below.refl w1.heap.size w1).alloc (Nat.le_refl _) (.cells (row (List.replicate 8 0)) 101)
  have A1 := Blk.new w1 (row (List.replicate 8 0)) 101
  have HK : Hid (Keep w _ g g) := ((Keep.of B0.out g g).trans hk1).trans (Keep.of B1 g g)
  have hg1 := hr1.lt
  have hw1 := hk1.size
  replace A0 := Lib.hid ((A0.out.keep hk1 (by omega) (by omega)).alloc (.cells (row (List.replicate 8 0)) 101))
  have HM := fill_yes (hr1.below B1) hs w1.heap.size 0 n 8 hf (List.replicate 8 0) 101 A1 (by simp; omega) (by omega) (by omega)
  rw [lab_filled _ n] at HM
  replace HM := Lib.hid HM
  have hsl := hr w1.heap.size n h8
  clear hr HF hr1 hk1 B1 B0 A1
  generalize w1.heap.size = b at *
  generalize w1.alloc _ = W1 at *
  go_upto_region 6 with (first | (go_at_call 75; (with_reducible refine (HE.out _).mono ?_); rintro e w5 ⟨rfl, rfl⟩) | (go_at_call 114; (with_reducible refine HM.out.mono ?_); rintro e w2 ⟨rfl, hr2, hb2, hk2⟩))
  replace A0 := Lib.hid (A0.out.keep hk2 (by omega) (by omega))
  have HK2 : Hid (Keep w w2 g g) := HK.out.new hk2 (by omega)
  have HR2 := Lib.hid hr2
  have HB2 := Lib.hid hb2
  clear HM hr2 hb2 hk2 hsl HK
  go_upto_region 9 with (first | (refine wpList_load_row rfl 101 _ rfl b rfl 101 _ (0, 0) _ HB2.out Try.underlying101 rfl (info_w _ hwl) ?_) | (go_at_call 115; (with_reducible refine (HJ.out _).mono ?_); rintro e w3 ⟨rfl, hb3⟩) | (refine wpList_store_newrow rfl 25 _ _ rfl (labc x B) rfl rfl infoLab (lab_all _ _) rfl ?_))
  have HR3 := Lib.hid ((HR2.out.below hb3).below ((Below.refl _ _).alloc (Nat.le_refl _) (.cells (labc x B) 25)))
  have HK3 : Hid (Keep w (w3.alloc (.cells (labc x B) 25)) g g) := (HK2.out.trans (Keep.of hb3 g g)).trans (Keep.of ((Below.refl _ _).alloc (Nat.le_refl _) _) g g)
  have A3 := Lib.hid ((A0.out.below hb3 A0.out.lt).alloc (.cells (labc x B) 25))
  have O3 := Lib.hid (Blk.new w3 (labc x B) 25)
  clear HR2 HK2 A0 HB2 hb3 HJ
  generalize w3.heap.size = q at *
  generalize w3.alloc _ = W3 at *
  have HP : Hid (∀ w4, Below W3.heap.size W3 w4 → Blk w4 w.heap.size (labc 0 0) 25 ∧ Blk w4 q (labc x B) 25 ∧ Rd w4 g h c s (p + 1 + n) ∧ Keep w w4 g g) := fun w4 hb4 => ⟨A3.out.below hb4 A3.out.lt, O3.out.below hb4 O3.out.lt, HR3.out.below hb4, HK3.out.trans (Keep.of hb4 g g)⟩
  clear HR3 HK3 A3
  cases r
  · go_wp2_with (first | (refine p_loadL rfl _ rfl _ rfl _ _ (by first | with_reducible exact O3.out) ?_) | (go_at_call 51; (with_reducible refine (HI.calls _).mono ?_); rintro e w4 ⟨rfl, hb4⟩; have HQ := Lib.hid (HP.out _ hb4)) | (refine p_storeL rfl _ _ rfl w.heap.size rfl 0 0 rfl 0 0 HQ.out.1 ?_))
    refine bodyPost_ret (results_labv2 Try.results119 _ _ w.heap.size 0 0 (.int .i64 3) rfl rfl (HQ.out.1.setRow _)) rfl ?_
    obtain ⟨rfl, rfl⟩ := HVE.out.2 trivial
    exact ⟨rfl, ⟨p + 1 + n, HQ.out.2.2.1.row _ _ (by omega) (by omega), fun h => by cases h⟩, HQ.out.2.2.2.setNew (Nat.le_refl _) _⟩
  · go_wp2_with (first | (refine p_loadL rfl _ rfl _ rfl _ _ (by first | with_reducible exact O3.out | with_reducible exact HQ.out.2.1) ?_) | (go_at_call 51; (with_reducible refine (HI.calls _).mono ?_); rintro e w4 ⟨rfl, hb4⟩; have HQ := Lib.hid (HP.out _ hb4)) | (refine p_storeL rfl _ _ rfl w.heap.size rfl _ _ rfl 0 0 HQ.out.1 ?_))
    refine bodyPost_ret (results_labv2 Try.results119 _ _ w.heap.size x B (.int .i64 0) rfl rfl (HQ.out.1.setRow _)) rfl ?_
    obtain ⟨rfl, rfl⟩ := HVE.out.1 trivial
    exact ⟨rfl, ⟨p + 1 + n, HQ.out.2.2.1.row _ _ (by omega) (by omega), fun _ => by omega⟩, HQ.out.2.2.2.setNew (Nat.le_refl _) _⟩

/-! what is read, told by the bytes that are left -/
theorem text_any {w : World} {g h c : Nat} {s : ByteArray} {p : Nat} (k : Rd w g h c s p) (hs : s.size ≤ 1000000) :
    ∃ v, Reads 117 w g h c s p (.string v) (rTxt (rest s p)).2.1 (rTxt (rest s p)).2.2 ∧ ((rTxt (rest s p)).2.2 = 0 → v = txt (rTxt (rest s p)).1) := by
  by_cases he : (rNum (rest s p)).2.2 ≠ 0
  · have e : rTxt (rest s p) = ([], 0, (rNum (rest s p)).2.2) := by unfold rTxt; rw [if_pos he]
    rw [e]
    exact ⟨_, text_code k hs he, fun h => absurd h he⟩
  · have he0 : (rNum (rest s p)).2.2 = 0 := by omega
    have hp := rNum_only (rest_lt s p) he0
    obtain ⟨v, n, e, hr⟩ : ∃ v n e, rNum (rest s p) = (v, n, e) := ⟨_, _, _, rfl⟩
    rw [hr] at he0 hp
    obtain rfl : e = 0 := he0
    have hn : n ≤ s.size - p := by rw [← rest_length]; exact hp.1
    have hle := k.le
    by_cases hv : 4096 < v
    · have e : rTxt (rest s p) = ([], 0, 3) := by unfold rTxt; rw [hr, if_neg (by simp), if_pos hv]
      rw [e]
      exact ⟨_, text_form k hs v n hr hv, fun h => by cases h⟩
    · by_cases hf : (rest s p).length < n + v
      · have e : rTxt (rest s p) = ([], 0, 4) := by unfold rTxt; rw [hr, if_neg (by simp), if_neg hv, if_pos hf]
        rw [e]
        obtain ⟨x, hx⟩ := text_few k hs v n hr hv (by rw [rest_length] at hf; omega)
        exact ⟨_, hx, fun h => by cases h⟩
      · have e : rTxt (rest s p) = (((rest s p).drop n).take v, n + v, 0) := by unfold rTxt; rw [hr, if_neg (by simp), if_neg hv, if_neg hf]
        rw [e, rest_rest]
        exact ⟨_, text_some k hs v n hr hv (by rw [rest_length] at hf; omega), fun _ => rfl⟩
theorem label_any {w : World} {g h c : Nat} {s : ByteArray} {p : Nat} (k : Rd w g h c s p) (hs : s.size ≤ 1000000) :
    Reads 119 w g h c s p (.agg (labc ((rLab (rest s p)).1 : Nat) (rLab (rest s p)).2.1)) (rLab (rest s p)).2.2.1 (rLab (rest s p)).2.2.2 := by
  rcases Nat.lt_or_ge p s.size with hp | hp
  · rw [rest_cons s p hp]
    by_cases hx : 64 < byteAt s p
    · rw [show rLab (byteAt s p :: rest s (p + 1)) = (0, 0, 0, 3) by rw [rLab, if_pos hx]]
      exact label_big k hs hp hx
    · by_cases hf : (rest s (p + 1)).length < e8 (byteAt s p)
      · rw [show rLab (byteAt s p :: rest s (p + 1)) = (0, 0, 0, 4) by rw [rLab, if_neg hx, if_pos hf]]
        exact label_few k hs hp _ rfl hx (by rw [rest_length] at hf; omega)
      · have hf' : p + 1 + e8 (byteAt s p) ≤ s.size := by rw [rest_length] at hf; omega
        cases hr : lowB (byteAt s p) (labV ((rest s (p + 1)).take (e8 (byteAt s p))))
        · rw [show rLab (byteAt s p :: rest s (p + 1)) = (0, 0, 0, 3) by rw [rLab, if_neg hx, if_neg hf, if_pos hr]]
          have hN := label_some k hs hp _ rfl hx hf' _ rfl false hr _ 3 ⟨fun h => by (cases h), fun _ => ⟨rfl, rfl⟩⟩
          unfold Reads at hN ⊢
          refine hN.mono ?_
          rintro e w' ⟨h1, ⟨q, h2, _⟩, h3⟩
          exact ⟨h1, ⟨q, h2, fun h => by cases h⟩, h3⟩
        · rw [show rLab (byteAt s p :: rest s (p + 1)) = (byteAt s p, labV ((rest s (p + 1)).take (e8 (byteAt s p))), 1 + e8 (byteAt s p), 0) by rw [rLab, if_neg hx, if_neg hf, if_neg (by rw [hr]; decide)]]
          exact label_some k hs hp _ rfl hx hf' _ rfl true hr _ 0 ⟨fun _ => ⟨rfl, rfl⟩, fun h => by cases h⟩
  · rw [rest_nil s p hp]
    exact label_end k hs hp
end Go.Proofs.Ytkicndengkcojaa

/- The program's reader: a value whole, or not at all; Number, Text, Place, Label. -/
namespace Go.Proofs.Ytkicndengkcojaa
set_option maxRecDepth 100000
open Go.RowKit Go.Sort

/-- what a call of the reader's tells, and where it stands then -/
def Does (f : FuncId) (w : World) (g h c : Nat) (s : ByteArray) (p : Nat) (v : Value) (n e : Nat) : Prop :=
  Calls Try.prog f #[.pointer (some ⟨g, 0, none⟩)] w fun r w' => r = .returned (.tuple #[v, .int .i64 (e : Int)]) ∧ Rd w' g h c s (p + n) ∧ Keep w w' g g

theorem wholeN_nil (w : World) : Calls Try.prog 103 #[.pointer none, .func (.func 104) #[.pointer none] #[]] w fun r w' => r = .returned (.tuple #[.int .u64 0, .int .i64 6]) ∧ Below w.heap.size w w' := by
  go_enter Try.func103, Try.ntmps103
  go_wp2
  go_ret2
  exact ⟨rfl, Below.refl _ _⟩
theorem wholeN_ok {w : World} {g h c : Nat} {s : ByteArray} {p : Nat} (k : Rd w g h c s p) (v : Value) (n : Nat) (hR : Reads 104 w g h c s p v n 0) :
    Calls Try.prog 103 #[.pointer (some ⟨g, 0, none⟩), .func (.func 104) #[.pointer (some ⟨g, 0, none⟩)] #[]] w fun r w' => r = .returned (.tuple #[v, .int .i64 0]) ∧ Rd w' g h c s (p + n) ∧ Keep w w' g g := by
  have c1 := k.cell1
  unfold Reads at hR
  have HR := Lib.hid hR
  clear k hR
  go_enter Try.func103, Try.ntmps103
  go_upto_region 6 with (go_at_call 104; (with_reducible refine HR.out.mono ?_); rintro e1 w1 ⟨rfl, ⟨q, hr1, hq⟩, hk1⟩)
  obtain rfl := hq (by first | trivial | rfl)
  clear c1
  go_wp2
  go_ret2
  exact ⟨rfl, hr1, hk1⟩
theorem wholeN_no {w : World} {g h c : Nat} {s : ByteArray} {p : Nat} (k : Rd w g h c s p) (v : Value) (n e : Nat) (he : e ≠ 0) (hR : Reads 104 w g h c s p v n e) :
    Calls Try.prog 103 #[.pointer (some ⟨g, 0, none⟩), .func (.func 104) #[.pointer (some ⟨g, 0, none⟩)] #[]] w fun r w' => r = .returned (.tuple #[.int .u64 0, .int .i64 (e : Int)]) ∧ Rd w' g h c s p ∧ Keep w w' g g := by
  have c1 := k.cell1
  have hle := k.le
  have hd : ((e : Int) != 0) = true := by rw [bne_iff_ne]; omega
  unfold Reads at hR
  have HR := Lib.hid hR
  clear k hR
  go_enter Try.func103, Try.ntmps103
  go_upto_region 6 with (go_at_call 104; (with_reducible refine HR.out.mono ?_); rintro e1 w1 ⟨rfl, ⟨q, hr1, hq⟩, hk1⟩)
  clear c1 hq
  have c1 := hr1.cell1
  have f1 := hr1.free1
  have HR1 := Lib.hid hr1
  have HK1 := Lib.hid hk1
  clear hr1 hk1
  go_wp2
  go_ret2
  exact ⟨rfl, HR1.out.at p hle, HK1.out.setCell 1 _⟩
theorem mN_nil (w : World) : Calls Try.prog 85 #[.pointer none] w fun r w' => r = .returned (.tuple #[.int .u64 0, .int .i64 6]) ∧ Below w.heap.size w w' := by
  have hmf : ∀ (fn : Fn) (first cap : Array Value) (w : World), (Instr.makeFunc fn first cap).run Try.prog w = .ok (.func fn first cap) w := fun _ _ _ _ => rfl
  have HW := Lib.hid (wholeN_nil w)
  go_enter Try.func85, Try.ntmps85
  go_wp2_with (go_at_call 103; (with_reducible refine HW.out.mono ?_); rintro e1 w1 ⟨rfl, hb1⟩)
  go_ret2
  exact ⟨rfl, hb1⟩
theorem mN_of {w : World} {g h c : Nat} {s : ByteArray} {p : Nat} (v : Value) (n e : Nat) (HW : Hid (Calls Try.prog 103 #[.pointer (some ⟨g, 0, none⟩), .func (.func 104) #[.pointer (some ⟨g, 0, none⟩)] #[]] w fun r w' => r = .returned (.tuple #[v, .int .i64 (e : Int)]) ∧ Rd w' g h c s (p + n) ∧ Keep w w' g g)) : Does 85 w g h c s p v n e := by
  have hmf : ∀ (fn : Fn) (first cap : Array Value) (w : World), (Instr.makeFunc fn first cap).run Try.prog w = .ok (.func fn first cap) w := fun _ _ _ _ => rfl
  unfold Does
  go_enter Try.func85, Try.ntmps85
  go_wp2_with (go_at_call 103; (with_reducible refine HW.out.mono ?_); rintro e1 w1 ⟨rfl, hr1, hk1⟩)
  go_ret2
  exact ⟨rfl, hr1, hk1⟩

theorem wholeT_nil (w : World) : Calls Try.prog 116 #[.pointer none, .func (.func 117) #[.pointer none] #[]] w fun r w' => r = .returned (.tuple #[.string ⟨#[]⟩, .int .i64 6]) ∧ Below w.heap.size w w' := by
  go_enter Try.func116, Try.ntmps116
  go_wp2
  go_ret2
  exact ⟨rfl, Below.refl _ _⟩
theorem wholeT_ok {w : World} {g h c : Nat} {s : ByteArray} {p : Nat} (k : Rd w g h c s p) (v : Value) (n : Nat) (hR : Reads 117 w g h c s p v n 0) :
    Calls Try.prog 116 #[.pointer (some ⟨g, 0, none⟩), .func (.func 117) #[.pointer (some ⟨g, 0, none⟩)] #[]] w fun r w' => r = .returned (.tuple #[v, .int .i64 0]) ∧ Rd w' g h c s (p + n) ∧ Keep w w' g g := by
  have c1 := k.cell1
  unfold Reads at hR
  have HR := Lib.hid hR
  clear k hR
  go_enter Try.func116, Try.ntmps116
  go_upto_region 6 with (go_at_call 117; (with_reducible refine HR.out.mono ?_); rintro e1 w1 ⟨rfl, ⟨q, hr1, hq⟩, hk1⟩)
  obtain rfl := hq (by first | trivial | rfl)
  clear c1
  go_wp2
  go_ret2
  exact ⟨rfl, hr1, hk1⟩
theorem wholeT_no {w : World} {g h c : Nat} {s : ByteArray} {p : Nat} (k : Rd w g h c s p) (v : Value) (n e : Nat) (he : e ≠ 0) (hR : Reads 117 w g h c s p v n e) :
    Calls Try.prog 116 #[.pointer (some ⟨g, 0, none⟩), .func (.func 117) #[.pointer (some ⟨g, 0, none⟩)] #[]] w fun r w' => r = .returned (.tuple #[.string ⟨#[]⟩, .int .i64 (e : Int)]) ∧ Rd w' g h c s p ∧ Keep w w' g g := by
  have c1 := k.cell1
  have hle := k.le
  have hd : ((e : Int) != 0) = true := by rw [bne_iff_ne]; omega
  unfold Reads at hR
  have HR := Lib.hid hR
  clear k hR
  go_enter Try.func116, Try.ntmps116
  go_upto_region 6 with (go_at_call 117; (with_reducible refine HR.out.mono ?_); rintro e1 w1 ⟨rfl, ⟨q, hr1, hq⟩, hk1⟩)
  clear c1 hq
  have c1 := hr1.cell1
  have f1 := hr1.free1
  have HR1 := Lib.hid hr1
  have HK1 := Lib.hid hk1
  clear hr1 hk1
  go_wp2
  go_ret2
  exact ⟨rfl, HR1.out.at p hle, HK1.out.setCell 1 _⟩
theorem mT_nil (w : World) : Calls Try.prog 105 #[.pointer none] w fun r w' => r = .returned (.tuple #[.string ⟨#[]⟩, .int .i64 6]) ∧ Below w.heap.size w w' := by
  have hmf : ∀ (fn : Fn) (first cap : Array Value) (w : World), (Instr.makeFunc fn first cap).run Try.prog w = .ok (.func fn first cap) w := fun _ _ _ _ => rfl
  have HW := Lib.hid (wholeT_nil w)
  go_enter Try.func105, Try.ntmps105
  go_wp2_with (go_at_call 116; (with_reducible refine HW.out.mono ?_); rintro e1 w1 ⟨rfl, hb1⟩)
  go_ret2
  exact ⟨rfl, hb1⟩
theorem mT_of {w : World} {g h c : Nat} {s : ByteArray} {p : Nat} (v : Value) (n e : Nat) (HW : Hid (Calls Try.prog 116 #[.pointer (some ⟨g, 0, none⟩), .func (.func 117) #[.pointer (some ⟨g, 0, none⟩)] #[]] w fun r w' => r = .returned (.tuple #[v, .int .i64 (e : Int)]) ∧ Rd w' g h c s (p + n) ∧ Keep w w' g g)) : Does 105 w g h c s p v n e := by
  have hmf : ∀ (fn : Fn) (first cap : Array Value) (w : World), (Instr.makeFunc fn first cap).run Try.prog w = .ok (.func fn first cap) w := fun _ _ _ _ => rfl
  unfold Does
  go_enter Try.func105, Try.ntmps105
  go_wp2_with (go_at_call 116; (with_reducible refine HW.out.mono ?_); rintro e1 w1 ⟨rfl, hr1, hk1⟩)
  go_ret2
  exact ⟨rfl, hr1, hk1⟩

theorem wholeL_nil (w : World) : Calls Try.prog 118 #[.pointer none, .func (.func 119) #[.pointer none] #[]] w fun r w' => r = .returned (.tuple #[.agg (labc 0 0), .int .i64 6]) ∧ Below w.heap.size w w' := by
  go_enter Try.func118, Try.ntmps118
  go_upto_region 2 with (fail)
  rw [lab00]
  have K := Lib.hid (MemO.made w (labc 0 0) (labc 0 0) 25)
  generalize (w.alloc _).alloc _ = W at *
  go_wp2_with (first | (refine p_loadL rfl _ rfl (w.heap.size + 1) rfl _ _ K.out.o ?_) | (refine p_storeL rfl _ _ rfl (w.heap.size) rfl _ _ rfl _ _ K.out.z ?_))
  exact bodyPost_ret (results_labv2 Try.results118 _ _ (w.heap.size) _ _ (.int .i64 6) rfl rfl (K.out.z.setRow _)) rfl ⟨rfl, bel_setRow K.out.below (Nat.le_refl _) _⟩
theorem wholeL_ok {w : World} {g h c : Nat} {s : ByteArray} {p : Nat} (k : Rd w g h c s p) (a : Int) (b : Nat) (n : Nat) (hR : ∀ W, Rd W g h c s p → Reads 119 W g h c s p (.agg (labc a b)) n 0) :
    Calls Try.prog 118 #[.pointer (some ⟨g, 0, none⟩), .func (.func 119) #[.pointer (some ⟨g, 0, none⟩)] #[]] w fun r w' => r = .returned (.tuple #[.agg (labc a b), .int .i64 0]) ∧ Rd w' g h c s (p + n) ∧ Keep w w' g g := by
  have hg := k.lt
  have hne := k.ne
  go_enter Try.func118, Try.ntmps118
  go_upto_region 2 with (fail)
  rw [lab00]
  have K := Lib.hid (MemO.made w (labc 0 0) (labc 0 0) 25)
  have k2 := k.below K.out.below
  have hR2 := hR _ k2
  unfold Reads at hR2
  have HR := Lib.hid hR2
  have c1 := k2.cell1
  have hzs := K.out.o.lt
  clear k k2 hR hR2
  generalize (w.alloc _).alloc _ = W at *
  go_upto_region 6 with (first | (go_at_call 119; (with_reducible refine HR.out.mono ?_); rintro e1 w1 ⟨rfl, ⟨q, hr1, hq⟩, hk1⟩) | (refine wpList_store_newrow rfl 25 _ _ rfl (labc a b) rfl rfl infoLab (lab_all _ _) rfl ?_))
  obtain rfl := hq (by first | trivial | rfl)
  clear c1
  have B1 := (Below.refl w1.heap.size w1).alloc (Nat.le_refl _) (.cells (labc a b) 25)
  have HR1 := Lib.hid (hr1.below B1)
  have HZ := Lib.hid ((K.out.z.keep hk1 (by omega) (by omega)).alloc (.cells (labc a b) 25))
  have HO := Lib.hid (Blk.new w1 (labc a b) 25)
  have HK : Hid (Keep w _ g g) := ((Keep.of K.out.below g g).trans hk1).trans (Keep.of B1 g g)
  clear hr1 hk1 B1 K HR hq
  generalize w1.heap.size = b1 at *
  generalize w1.alloc _ = W1 at *
  go_wp2_with (first | (refine p_loadL rfl _ rfl (b1) rfl _ _ HO.out ?_) | (refine p_storeL rfl _ _ rfl (w.heap.size) rfl _ _ rfl _ _ HZ.out ?_))
  exact bodyPost_ret (results_labv2 Try.results118 _ _ (w.heap.size) _ _ (.int .i64 0) rfl rfl (HZ.out.setRow _)) rfl ⟨rfl, HR1.out.row _ _ (by omega) (by omega), HK.out.setNew (Nat.le_refl _) _⟩
theorem wholeL_no {w : World} {g h c : Nat} {s : ByteArray} {p : Nat} (k : Rd w g h c s p) (a : Int) (b : Nat) (n e : Nat) (he : e ≠ 0) (hR : ∀ W, Rd W g h c s p → Reads 119 W g h c s p (.agg (labc a b)) n e) :
    Calls Try.prog 118 #[.pointer (some ⟨g, 0, none⟩), .func (.func 119) #[.pointer (some ⟨g, 0, none⟩)] #[]] w fun r w' => r = .returned (.tuple #[.agg (labc 0 0), .int .i64 (e : Int)]) ∧ Rd w' g h c s p ∧ Keep w w' g g := by
  have hg := k.lt
  have hne := k.ne
  have hle := k.le
  have hd : ((e : Int) != 0) = true := by rw [bne_iff_ne]; omega
  go_enter Try.func118, Try.ntmps118
  go_upto_region 2 with (fail)
  rw [lab00]
  have K := Lib.hid (MemO.made w (labc 0 0) (labc 0 0) 25)
  have k2 := k.below K.out.below
  have hR2 := hR _ k2
  unfold Reads at hR2
  have HR := Lib.hid hR2
  have c1 := k2.cell1
  have hzs := K.out.o.lt
  clear k k2 hR hR2
  generalize (w.alloc _).alloc _ = W at *
  go_upto_region 6 with (first | (go_at_call 119; (with_reducible refine HR.out.mono ?_); rintro e1 w1 ⟨rfl, ⟨q, hr1, hq⟩, hk1⟩) | (refine wpList_store_newrow rfl 25 _ _ rfl (labc a b) rfl rfl infoLab (lab_all _ _) rfl ?_))
  clear c1 hq
  have B1 := (Below.refl w1.heap.size w1).alloc (Nat.le_refl _) (.cells (labc a b) 25)
  have HR1 := Lib.hid (hr1.below B1)
  have HZ := Lib.hid ((K.out.z.keep hk1 (by omega) (by omega)).alloc (.cells (labc a b) 25))
  have HO := Lib.hid ((K.out.o.keep hk1 (by omega) (by omega)).alloc (.cells (labc a b) 25))
  have HK : Hid (Keep w _ g g) := ((Keep.of K.out.below g g).trans hk1).trans (Keep.of B1 g g)
  clear hr1 hk1 B1 K HR
  generalize w1.heap.size = b1 at *
  generalize w1.alloc _ = W1 at *
  have c1 := HR1.out.cell1
  have f1 := HR1.out.free1
  have HZ2 : Hid (Blk (W1.setCell ⟨g, 1, none⟩ (.int .i64 (p : Int))) w.heap.size (labc 0 0) 25) := HZ.out.other _ _ _ (by omega)
  have HO2 : Hid (Blk (W1.setCell ⟨g, 1, none⟩ (.int .i64 (p : Int))) (w.heap.size + 1) (labc 0 0) 25) := HO.out.other _ _ _ (by omega)
  go_wp2_with (first | (refine p_loadL rfl _ rfl (w.heap.size + 1) rfl _ _ HO2.out ?_) | (refine p_storeL rfl _ _ rfl (w.heap.size) rfl _ _ rfl _ _ HZ2.out ?_))
  exact bodyPost_ret (results_labv2 Try.results118 _ _ (w.heap.size) _ _ (.int .i64 (e : Int)) rfl rfl (HZ2.out.setRow _)) rfl ⟨rfl, (HR1.out.at p hle).row _ _ (by omega) (by omega), (HK.out.setCell 1 _).setNew (Nat.le_refl _) _⟩
theorem mL_nil (w : World) : Calls Try.prog 106 #[.pointer none] w fun r w' => r = .returned (.tuple #[.agg (labc 0 0), .int .i64 6]) ∧ Below w.heap.size w w' := by
  have hmf : ∀ (fn : Fn) (first cap : Array Value) (w : World), (Instr.makeFunc fn first cap).run Try.prog w = .ok (.func fn first cap) w := fun _ _ _ _ => rfl
  have HW := Lib.hid (fun w => wholeL_nil w)
  go_enter Try.func106, Try.ntmps106
  go_upto_region 1 with (fail)
  rw [lab00]
  have A0 := Lib.hid (Blk.new w (labc 0 0) 25)
  have B0 := Lib.hid ((Below.refl w.heap.size w).alloc (Nat.le_refl _) (.cells (labc 0 0) 25))
  generalize w.alloc _ = W at *
  go_wp2_with (first | (go_at_call 118; (with_reducible refine (HW.out _).mono ?_); rintro e1 w1 ⟨rfl, hb1⟩; have HA := Lib.hid (A0.out.below hb1 A0.out.lt)) | (refine p_storeL rfl _ _ rfl (w.heap.size) rfl _ _ rfl _ _ HA.out ?_))
  exact bodyPost_ret (results_labv2 Try.results106 _ _ (w.heap.size) _ _ (.int .i64 6) rfl rfl (HA.out.setRow _)) rfl ⟨rfl, bel_setRow (B0.out.trans (hb1.mono B0.out.size)) (Nat.le_refl _) _⟩
theorem mL_of {w : World} {g h c : Nat} {s : ByteArray} {p : Nat} (k : Rd w g h c s p) (a : Int) (b : Nat) (n e : Nat) (HW : Hid (∀ W, Rd W g h c s p → Calls Try.prog 118 #[.pointer (some ⟨g, 0, none⟩), .func (.func 119) #[.pointer (some ⟨g, 0, none⟩)] #[]] W fun r w' => r = .returned (.tuple #[.agg (labc a b), .int .i64 (e : Int)]) ∧ Rd w' g h c s (p + n) ∧ Keep W w' g g)) : Does 106 w g h c s p (.agg (labc a b)) n e := by
  have hmf : ∀ (fn : Fn) (first cap : Array Value) (w : World), (Instr.makeFunc fn first cap).run Try.prog w = .ok (.func fn first cap) w := fun _ _ _ _ => rfl
  have hg := k.lt
  have hne := k.ne
  unfold Does
  go_enter Try.func106, Try.ntmps106
  go_upto_region 1 with (fail)
  rw [lab00]
  have A0 := Lib.hid (Blk.new w (labc 0 0) 25)
  have B0 := Lib.hid ((Below.refl w.heap.size w).alloc (Nat.le_refl _) (.cells (labc 0 0) 25))
  have HW2 := Lib.hid (HW.out _ (k.below B0.out))
  clear k HW
  generalize w.alloc _ = W at *
  go_wp2_with (first | (go_at_call 118; (with_reducible refine HW2.out.mono ?_); rintro e1 w1 ⟨rfl, hr1, hk1⟩; have HA := Lib.hid (A0.out.keep hk1 (by omega) (by omega))) | (refine p_storeL rfl _ _ rfl (w.heap.size) rfl _ _ rfl _ _ HA.out ?_))
  exact bodyPost_ret (results_labv2 Try.results106 _ _ (w.heap.size) _ _ (.int .i64 (e : Int)) rfl rfl (HA.out.setRow _)) rfl ⟨rfl, hr1.row _ _ (by omega) (by omega), ((Keep.of B0.out g g).trans hk1).setNew (Nat.le_refl _) _⟩


/-! the four calls -/
theorem mN_any {w : World} {g h c : Nat} {s : ByteArray} {p : Nat} (k : Rd w g h c s p) (hs : s.size ≤ 1000000) :
    Does 85 w g h c s p (.int .u64 ((rNum (rest s p)).1 : Int)) (rNum (rest s p)).2.1 (rNum (rest s p)).2.2 := by
  have hR := number_any k hs
  rcases rNum_code (rest s p) with h | ⟨h, h1, h2⟩ | ⟨h, h1, h2⟩
  · rw [h] at hR ⊢
    exact mN_of _ _ _ (wholeN_ok k _ _ hR)
  · rw [h, h1, h2] at hR ⊢
    exact mN_of _ _ _ (wholeN_no k _ _ 3 (by omega) hR)
  · rw [h, h1, h2] at hR ⊢
    exact mN_of _ _ _ (wholeN_no k _ _ 4 (by omega) hR)
theorem mT_any {w : World} {g h c : Nat} {s : ByteArray} {p : Nat} (k : Rd w g h c s p) (hs : s.size ≤ 1000000) :
    Does 105 w g h c s p (.string (txt (rTxt (rest s p)).1)) (rTxt (rest s p)).2.1 (rTxt (rest s p)).2.2 := by
  obtain ⟨v, hR, hv⟩ := text_any k hs
  rcases rTxt_code (rest s p) with h | ⟨h, h1, h2⟩ | ⟨h, h1, h2⟩
  · rw [h] at hR ⊢
    obtain rfl := hv h
    exact mT_of _ _ _ (wholeT_ok k _ _ hR)
  · rw [h, h2] at hR
    rw [h, h1, h2]
    exact mT_of _ _ _ (wholeT_no k _ _ 3 (by omega) hR)
  · rw [h, h2] at hR
    rw [h, h1, h2]
    exact mT_of _ _ _ (wholeT_no k _ _ 4 (by omega) hR)
theorem mL_any {w : World} {g h c : Nat} {s : ByteArray} {p : Nat} (k : Rd w g h c s p) (hs : s.size ≤ 1000000) :
    Does 106 w g h c s p (.agg (labc ((rLab (rest s p)).1 : Nat) (rLab (rest s p)).2.1)) (rLab (rest s p)).2.2.1 (rLab (rest s p)).2.2.2 := by
  have hR := fun W (k : Rd W g h c s p) => label_any k hs
  rcases rLab_code (rest s p) with h' | ⟨h', h1, h2, h3⟩ | ⟨h', h1, h2, h3⟩
  · rw [h'] at hR ⊢
    exact mL_of k _ _ _ 0 (fun W k => wholeL_ok k _ _ _ hR)
  · rw [h', h1, h2, h3] at hR ⊢
    exact mL_of k _ _ 0 3 (fun W k => wholeL_no k _ _ 0 3 (by omega) hR)
  · rw [h', h1, h2, h3] at hR ⊢
    exact mL_of k _ _ 0 4 (fun W k => wholeL_no k _ _ 0 4 (by omega) hR)
end Go.Proofs.Ytkicndengkcojaa
