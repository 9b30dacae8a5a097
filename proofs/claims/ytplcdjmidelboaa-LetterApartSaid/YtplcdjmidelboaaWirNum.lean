/- Bytes of numbers, texts, places and labels, as lists of numbers, and what reads them again. Nothing of the program is named here. -/
import Derived.Test.YtplcdjmidelboaaLabOps
import Derived.Test.YtplcdjmidelboaaShaNum
import Derived.Laws.MathBits
namespace Go.Proofs.Ytplcdjmidelboaa
open Go.RowKit

/-! values of bytes, the highest one first -/
def valN : List Nat → Nat
  | [] => 0
  | b :: r => valN r + 256 ^ r.length * b
theorem valN_spec (l : List Nat) (h : ∀ b ∈ l, b < 256) : valN l < 256 ^ l.length ∧ dig l.length (valN l) = l := by
  induction l with
  | nil => exact ⟨by simp [valN], rfl⟩
  | cons b r ih =>
    obtain ⟨hn, hd⟩ := ih (fun x hx => h x (List.mem_cons_of_mem _ hx))
    have hb : b < 256 := h b (List.mem_cons_self ..)
    have hp : 0 < 256 ^ r.length := Nat.pow_pos (by omega)
    refine ⟨?_, ?_⟩
    · have : 256 ^ r.length * (b + 1) ≤ 256 ^ r.length * 256 := Nat.mul_le_mul_left _ (by omega)
      simp only [List.length_cons, Nat.pow_succ, valN]
      rw [Nat.mul_add] at this
      omega
    · rw [List.length_cons, dig, valN]
      congr 1
      · rw [Nat.add_mul_div_left _ _ hp, Nat.div_eq_of_lt hn, Nat.zero_add, Nat.mod_eq_of_lt hb]
      · conv => rhs; rw [← hd]
        exact dig_eq_of (Nat.add_mul_mod_self_left _ _ _)
theorem valN_lt {l : List Nat} (h : ∀ b ∈ l, b < 256) : valN l < 256 ^ l.length := (valN_spec l h).1
theorem dig_valN {l : List Nat} (h : ∀ b ∈ l, b < 256) {k : Nat} (hk : l.length = k) : dig k (valN l) = l := hk ▸ (valN_spec l h).2
theorem dig_lt (k n : Nat) : ∀ b ∈ dig k n, b < 256 := by
  induction k with
  | zero => intro b hb; cases hb
  | succ k ih =>
    intro b hb
    rcases List.mem_cons.1 hb with rfl | hb
    · exact Nat.mod_lt _ (by omega)
    · exact ih b hb
theorem valN_dig (k n : Nat) : valN (dig k n) = n % 256 ^ k := by
  have h := valN_spec (dig k n) (dig_lt k n)
  rw [dig_length] at h
  have := dig_inj h.2
  rwa [Nat.mod_eq_of_lt h.1] at this
theorem valN_append (a b : List Nat) : valN (a ++ b) = valN a * 256 ^ b.length + valN b := by
  induction a with
  | nil => simp [valN]
  | cons c r ih =>
    rw [List.cons_append, valN, valN, ih, List.length_append, Nat.pow_add, Nat.add_mul, Nat.mul_right_comm (256 ^ r.length) c]
    omega
theorem valN_snoc (a : List Nat) (x : Nat) : valN (a ++ [x]) = 256 * valN a + x := by
  rw [valN_append]
  simp [valN]
  omega
theorem valN_zeros (k : Nat) : valN (List.replicate k 0) = 0 := by
  induction k with
  | zero => rfl
  | succ k ih => rw [List.replicate_succ, valN, ih]; omega
theorem valN_front (k : Nat) (l : List Nat) : valN (List.replicate k 0 ++ l) = valN l := by rw [valN_append, valN_zeros]; omega
theorem valN_behind (k : Nat) (l : List Nat) : valN (l ++ List.replicate k 0) = valN l * 256 ^ k := by rw [valN_append, valN_zeros, List.length_replicate]; rfl
theorem dig_take (n k : Nat) : ∀ j, (dig (k + j) n).take k = dig k (n / 256 ^ j) := by
  intro j
  apply List.ext_getElem?
  intro i
  rcases Nat.lt_or_ge i k with h | h
  · rw [List.getElem?_take, if_pos h, dig_get _ _ _ (by omega), dig_get _ _ _ h, Nat.div_div_eq_div_mul, ← Nat.pow_add]
    congr 4
    omega
  · rw [List.getElem?_eq_none (by simp [dig_length]; omega), List.getElem?_eq_none (by simp [dig_length]; omega)]
theorem dig_drop (n k : Nat) : ∀ j, (dig (j + k) n).drop j = dig k n := by
  intro j
  apply List.ext_getElem?
  intro i
  rcases Nat.lt_or_ge i k with h | h
  · rw [List.getElem?_drop, dig_get _ _ _ (by omega), dig_get _ _ _ h]
    congr 4
    omega
  · rw [List.getElem?_eq_none (by simp [dig_length]; omega), List.getElem?_eq_none (by simp [dig_length]; omega)]

/-! a number's bytes -/
/-- how many bytes tell a number -/
def nb (v : Nat) : Nat := (bitLen v + 7) / 8
theorem pow8 (k : Nat) : 256 ^ k = 2 ^ (8 * k) := by rw [Nat.pow_mul]
theorem nb_le {v k : Nat} : nb v ≤ k ↔ v < 256 ^ k := by
  rw [pow8]
  obtain ⟨h1, h2⟩ := bitLen_spec v
  have e : nb v ≤ k ↔ bitLen v ≤ 8 * k := by unfold nb; omega
  rw [e]
  constructor
  · intro h
    exact Nat.lt_of_lt_of_le h1 (Nat.pow_le_pow_right (by omega) h)
  · intro h
    rcases Nat.lt_or_ge (8 * k) (bitLen v) with hc | hc
    · have hz : v ≠ 0 := by rintro rfl; simp [bitLen] at hc
      have h3 := h2 hz
      have h4 : 2 ^ (8 * k) ≤ 2 ^ (bitLen v - 1) := Nat.pow_le_pow_right (by omega) (by omega)
      omega
    · exact hc
theorem nb_le8 {v : Nat} (h : v < 18446744073709551616) : nb v ≤ 8 := nb_le.2 (by simpa using h)
theorem lt_nb (v : Nat) : v < 256 ^ nb v := nb_le.1 (Nat.le_refl _)
theorem nb_zero : nb 0 = 0 := by decide
def numN (v : Nat) : List Nat := nb v :: dig (nb v) v
theorem numN_length (v : Nat) : (numN v).length = 1 + nb v := by rw [numN, List.length_cons, dig_length]; omega
theorem numN_lt {v : Nat} (hv : v < 18446744073709551616) : ∀ b ∈ numN v, b < 256 := by
  intro b hb
  rcases List.mem_cons.1 hb with rfl | hb
  · have := nb_le8 hv; omega
  · exact dig_lt _ _ b hb

/-- what a number is read as: the number, how many bytes, and the code -/
def rNum : List Nat → Nat × Nat × Nat
  | [] => (0, 0, 4)
  | c :: t => if 8 < c then (0, 0, 3) else if t.length < c then (0, 0, 4) else if nb (valN (t.take c)) < c then (0, 0, 3) else (valN (t.take c), 1 + c, 0)
theorem rNum_put {v : Nat} (hv : v < 18446744073709551616) (r : List Nat) : rNum (numN v ++ r) = (v, 1 + nb v, 0) := by
  have h8 := nb_le8 hv
  have e : (dig (nb v) v ++ r).take (nb v) = dig (nb v) v := by rw [List.take_append_of_le_length (by rw [dig_length]; omega), List.take_of_length_le (by rw [dig_length]; omega)]
  have ev : valN (dig (nb v) v) = v := by rw [valN_dig, Nat.mod_eq_of_lt (lt_nb v)]
  rw [numN, List.cons_append, rNum, if_neg (by omega), if_neg (by simp [dig_length]), e, ev, if_neg (by omega)]
theorem rNum_cut {v : Nat} (hv : v < 18446744073709551616) (j : Nat) (hj : j < 1 + nb v) : rNum ((numN v).take j) = (0, 0, 4) := by
  have h8 := nb_le8 hv
  cases j with
  | zero => rfl
  | succ j => rw [numN, List.take_succ_cons, rNum, if_neg (by omega), if_pos (by simp [dig_length]; omega)]
theorem rNum_code (l : List Nat) : (rNum l).2.2 = 0 ∨ ((rNum l).2.2 = 3 ∧ (rNum l).1 = 0 ∧ (rNum l).2.1 = 0) ∨ ((rNum l).2.2 = 4 ∧ (rNum l).1 = 0 ∧ (rNum l).2.1 = 0) := by
  cases l with
  | nil => simp [rNum]
  | cons c t =>
    simp only [rNum]
    split
    · simp
    split
    · simp
    split <;> simp
theorem rNum_only {l : List Nat} (hl : ∀ b ∈ l, b < 256) (h : (rNum l).2.2 = 0) : (rNum l).2.1 ≤ l.length ∧ numN (rNum l).1 = l.take (rNum l).2.1 ∧ (rNum l).1 < 18446744073709551616 := by
  cases l with
  | nil => simp [rNum] at h
  | cons c t =>
    have hb : ∀ b ∈ t.take c, b < 256 := fun b hb => hl b (List.mem_cons_of_mem _ (List.mem_of_mem_take hb))
    simp only [rNum] at h ⊢
    split at h
    · simp at h
    split at h
    · simp at h
    split at h
    · simp at h
    rename_i h1 h2 h3
    rw [if_neg h1, if_neg h2, if_neg h3]
    have hlen : (t.take c).length = c := by rw [List.length_take]; omega
    have hlt := valN_lt hb
    rw [hlen] at hlt
    have hnb : nb (valN (t.take c)) = c := by have := nb_le.2 hlt; omega
    refine ⟨by simp; omega, ?_, ?_⟩
    · rw [numN, hnb, dig_valN hb hlen, Nat.add_comm 1 c, List.take_succ_cons]
    · exact Nat.lt_of_lt_of_le hlt (Nat.le_trans (Nat.pow_le_pow_right (by omega) (show c ≤ 8 by omega)) (by decide))
theorem rNum_lt {l : List Nat} (hl : ∀ b ∈ l, b < 256) : (rNum l).1 < 18446744073709551616 ∧ (rNum l).2.1 ≤ l.length := by
  rcases rNum_code l with h | ⟨_, h1, h2⟩ | ⟨_, h1, h2⟩
  · have := rNum_only hl h; exact ⟨this.2.2, this.1⟩
  · rw [h1, h2]; omega
  · rw [h1, h2]; omega

/-! a text's bytes -/
def txtN (s : List Nat) : List Nat := numN s.length ++ s
theorem txtN_length (s : List Nat) : (txtN s).length = 1 + nb s.length + s.length := by rw [txtN, List.length_append, numN_length]
def rTxt (l : List Nat) : List Nat × Nat × Nat :=
  if (rNum l).2.2 ≠ 0 then ([], 0, (rNum l).2.2) else if 4096 < (rNum l).1 then ([], 0, 3) else if l.length < (rNum l).2.1 + (rNum l).1 then ([], 0, 4)
  else ((l.drop (rNum l).2.1).take (rNum l).1, (rNum l).2.1 + (rNum l).1, 0)
theorem rTxt_put {s : List Nat} (hs : s.length ≤ 4096) (r : List Nat) : rTxt (txtN s ++ r) = (s, (txtN s).length, 0) := by
  have e := rNum_put (v := s.length) (by omega) (s ++ r)
  rw [← List.append_assoc] at e
  unfold rTxt
  rw [show txtN s ++ r = numN s.length ++ s ++ r from rfl, e]
  rw [if_neg (by simp), if_neg (by simp; omega), if_neg (by simp [numN_length])]
  simp only [txtN_length]
  rw [← numN_length, List.append_assoc, List.drop_left]
  simp
theorem rTxt_cut {s : List Nat} (hs : s.length ≤ 4096) (j : Nat) (hj : j < (txtN s).length) : rTxt ((txtN s).take j) = ([], 0, 4) := by
  rw [txtN_length] at hj
  unfold rTxt
  rcases Nat.lt_or_ge j (1 + nb s.length) with h | h
  · have e : (txtN s).take j = (numN s.length).take j := by rw [txtN, List.take_append_of_le_length (by rw [numN_length]; omega)]
    rw [e, rNum_cut (by omega) j h]
    rfl
  · have e : (txtN s).take j = numN s.length ++ s.take (j - (1 + nb s.length)) := by
      rw [txtN, List.take_append, List.take_of_length_le (by rw [numN_length]; omega), numN_length]
    rw [e, rNum_put (by omega)]
    rw [if_neg (by simp), if_neg (by simp; omega), if_pos (by simp [numN_length]; omega)]
theorem rTxt_code (l : List Nat) : (rTxt l).2.2 = 0 ∨ ((rTxt l).2.2 = 3 ∧ (rTxt l).1 = [] ∧ (rTxt l).2.1 = 0) ∨ ((rTxt l).2.2 = 4 ∧ (rTxt l).1 = [] ∧ (rTxt l).2.1 = 0) := by
  unfold rTxt
  split
  · rcases rNum_code l with h | ⟨h, _⟩ | ⟨h, _⟩ <;> simp_all
  split
  · simp
  split <;> simp
theorem rTxt_only {l : List Nat} (hl : ∀ b ∈ l, b < 256) (h : (rTxt l).2.2 = 0) : (rTxt l).2.1 ≤ l.length ∧ txtN (rTxt l).1 = l.take (rTxt l).2.1 ∧ (rTxt l).1.length ≤ 4096 := by
  unfold rTxt at h ⊢
  split at h
  · simp_all
  split at h
  · simp at h
  split at h
  · simp at h
  rename_i h1 h2 h3
  rw [if_neg h1, if_neg h2, if_neg h3]
  obtain ⟨k1, k2, k3⟩ := rNum_only hl (by omega)
  have hlen : ((l.drop (rNum l).2.1).take (rNum l).1).length = (rNum l).1 := by rw [List.length_take, List.length_drop]; omega
  refine ⟨by simp; omega, ?_, by simp only [hlen]; omega⟩
  simp only [txtN, hlen, k2]
  rw [List.take_add]
theorem rTxt_le {l : List Nat} (hl : ∀ b ∈ l, b < 256) : (rTxt l).2.1 ≤ l.length := by
  rcases rTxt_code l with h | ⟨_, h1, h2⟩ | ⟨_, h1, h2⟩
  · exact (rTxt_only hl h).1
  · rw [h2]; omega
  · rw [h2]; omega

/-! a place's bytes -/
def rPl (l : List Nat) : Nat × Nat × Nat := if l.length < 20 then (0, 0, 4) else (valN (l.take 20), 20, 0)
theorem rPl_put {x : Nat} (hx : x < M) (r : List Nat) : rPl (dig 20 x ++ r) = (x, 20, 0) := by
  unfold rPl
  rw [if_neg (by simp [dig_length]), List.take_append_of_le_length (by rw [dig_length]; omega), List.take_of_length_le (by rw [dig_length]; omega), valN_dig, show x % 256 ^ 20 = x from Nat.mod_eq_of_lt hx]
theorem rPl_le (l : List Nat) : (rPl l).2.1 ≤ l.length := by
  unfold rPl
  split <;> simp
  omega
theorem rPl_only {l : List Nat} (hl : ∀ b ∈ l, b < 256) (h : ¬ l.length < 20) : dig 20 (valN (l.take 20)) = l.take 20 ∧ valN (l.take 20) < M := by
  have hb : ∀ b ∈ l.take 20, b < 256 := fun b hb => hl b (List.mem_of_mem_take hb)
  have hlen : (l.take 20).length = 20 := by rw [List.length_take]; omega
  refine ⟨dig_valN hb hlen, ?_⟩
  have := valN_lt hb
  rwa [hlen] at this

/-! a label's bytes -/
def e8 (n : Nat) : Nat := (n + 7) / 8
theorem e8_le {n : Nat} (h : n ≤ 64) : e8 n ≤ 8 := by unfold e8; omega
def labN (n b : Nat) : List Nat := n :: (dig 8 b).take (e8 n)
theorem labN_length {n b : Nat} (h : n ≤ 64) : (labN n b).length = 1 + e8 n := by
  have := e8_le h
  rw [labN, List.length_cons, List.length_take, dig_length]; omega
/-- the bits that some bytes tell -/
def labV (l : List Nat) : Nat := valN l * 256 ^ (8 - l.length)
def rLab : List Nat → Nat × Nat × Nat × Nat
  | [] => (0, 0, 0, 4)
  | c :: t => if 64 < c then (0, 0, 0, 3) else if t.length < e8 c then (0, 0, 0, 4) else if lowB c (labV (t.take (e8 c))) = false then (0, 0, 0, 3) else (c, labV (t.take (e8 c)), 1 + e8 c, 0)
theorem take8 (n b : Nat) (hn : n ≤ 64) (hb : b < 18446744073709551616) (hi : lowB n b = true) : labV ((dig 8 b).take (e8 n)) = b := by
  have h8 := e8_le hn
  obtain ⟨j, hj⟩ : ∃ j, 8 = e8 n + j := ⟨8 - e8 n, by omega⟩
  have e : (dig 8 b).take (e8 n) = dig (e8 n) (b / 256 ^ j) := by
    have := dig_take b (e8 n) j
    rwa [← hj] at this
  unfold labV
  rw [e, dig_length, valN_dig, show 8 - e8 n = j by omega]
  have hp : 0 < 256 ^ j := Nat.pow_pos (by omega)
  have h1 : b / 256 ^ j < 256 ^ e8 n := by
    rw [Nat.div_lt_iff_lt_mul hp, ← Nat.pow_add, ← hj]
    exact hb
  have h2 : b % 256 ^ j = 0 := by
    have h3 : b % gap n = 0 := by unfold lowB at hi; simpa using hi
    have h4 : 256 ^ j ∣ gap n := by
      rw [pow8]; unfold gap
      exact Nat.pow_dvd_pow 2 (by unfold e8 at hj; omega)
    exact Nat.mod_eq_zero_of_dvd (Nat.dvd_trans h4 (Nat.dvd_of_mod_eq_zero h3))
  rw [Nat.mod_eq_of_lt h1, Nat.mul_comm]
  have := Nat.div_add_mod b (256 ^ j)
  omega
theorem rLab_put {n b : Nat} (hn : n ≤ 64) (hb : b < 18446744073709551616) (hi : lowB n b = true) (r : List Nat) : rLab (labN n b ++ r) = (n, b, 1 + e8 n, 0) := by
  have h8 := e8_le hn
  have hl : ((dig 8 b).take (e8 n)).length = e8 n := by rw [List.length_take, dig_length]; omega
  have e : ((dig 8 b).take (e8 n) ++ r).take (e8 n) = (dig 8 b).take (e8 n) := by rw [List.take_append_of_le_length (by omega), List.take_of_length_le (by omega)]
  rw [labN, List.cons_append, rLab, if_neg (by omega), if_neg (by simp [hl]), e, take8 n b hn hb hi, if_neg (by simp [hi])]
theorem rLab_cut {n b : Nat} (hn : n ≤ 64) (j : Nat) (hj : j < 1 + e8 n) : rLab ((labN n b).take j) = (0, 0, 0, 4) := by
  cases j with
  | zero => rfl
  | succ j => rw [labN, List.take_succ_cons, rLab, if_neg (by omega), if_pos (by rw [List.length_take, List.length_take, dig_length]; omega)]
theorem rLab_code (l : List Nat) : (rLab l).2.2.2 = 0 ∨ ((rLab l).2.2.2 = 3 ∧ (rLab l).1 = 0 ∧ (rLab l).2.1 = 0 ∧ (rLab l).2.2.1 = 0) ∨ ((rLab l).2.2.2 = 4 ∧ (rLab l).1 = 0 ∧ (rLab l).2.1 = 0 ∧ (rLab l).2.2.1 = 0) := by
  cases l with
  | nil => simp [rLab]
  | cons c t =>
    simp only [rLab]
    split
    · simp
    split
    · simp
    split <;> simp
theorem labV_lt {l : List Nat} (h : ∀ b ∈ l, b < 256) (h8 : l.length ≤ 8) : labV l < 18446744073709551616 := by
  unfold labV
  have h1 := valN_lt h
  have hp : 0 < 256 ^ (8 - l.length) := Nat.pow_pos (by omega)
  have h2 := Nat.mul_lt_mul_of_pos_right h1 hp
  rw [← Nat.pow_add, show l.length + (8 - l.length) = 8 by omega] at h2
  exact h2
theorem rLab_only {l : List Nat} (hl : ∀ b ∈ l, b < 256) (h : (rLab l).2.2.2 = 0) : (rLab l).2.2.1 ≤ l.length ∧ labN (rLab l).1 (rLab l).2.1 = l.take (rLab l).2.2.1 ∧ (rLab l).1 ≤ 64 ∧ (rLab l).2.1 < 18446744073709551616 ∧ lowB (rLab l).1 (rLab l).2.1 = true := by
  cases l with
  | nil => simp [rLab] at h
  | cons c t =>
    have hb : ∀ b ∈ t.take (e8 c), b < 256 := fun b hb => hl b (List.mem_cons_of_mem _ (List.mem_of_mem_take hb))
    simp only [rLab] at h ⊢
    split at h
    · simp at h
    split at h
    · simp at h
    split at h
    · simp at h
    rename_i h1 h2 h3
    rw [if_neg h1, if_neg h2, if_neg h3]
    have h8 := e8_le (n := c) (by omega)
    have hlen : (t.take (e8 c)).length = e8 c := by rw [List.length_take]; omega
    refine ⟨by simp; omega, ?_, by simp; omega, labV_lt hb (by omega), by simpa using h3⟩
    have e : (dig 8 (labV (t.take (e8 c)))).take (e8 c) = t.take (e8 c) := by
      obtain ⟨j, hj⟩ : ∃ j, 8 = e8 c + j := ⟨8 - e8 c, by omega⟩
      have := dig_take (labV (t.take (e8 c))) (e8 c) j
      rw [← hj] at this
      rw [this]
      unfold labV
      rw [hlen, show 8 - e8 c = j by omega, Nat.mul_div_cancel _ (Nat.pow_pos (by omega))]
      exact dig_valN hb hlen
    simp only [labN]
    rw [e, Nat.add_comm 1, List.take_succ_cons]
theorem rLab_le {l : List Nat} (hl : ∀ b ∈ l, b < 256) : (rLab l).2.2.1 ≤ l.length := by
  rcases rLab_code l with h | ⟨_, _, _, h2⟩ | ⟨_, _, _, h2⟩
  · exact (rLab_only hl h).1
  · rw [h2]; omega
  · rw [h2]; omega
end Go.Proofs.Ytplcdjmidelboaa
