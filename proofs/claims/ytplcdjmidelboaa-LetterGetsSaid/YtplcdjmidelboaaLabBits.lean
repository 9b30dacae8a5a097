/- Plain numbers: texts of bits. Nothing of the program is named here. -/
import Derived.Test.YtplcdjmidelboaaLabNum
import Derived.Test.YtplcdjmidelboaaBlk
namespace Go.Proofs.Ytplcdjmidelboaa
open Go.RowKit

/-- one bit of a label, counted from the highest one -/
def bitAt (b i : Nat) : Nat := b / 2 ^ (63 - i) % 2
theorem bitAt_lt (b i : Nat) : bitAt b i < 2 := Nat.mod_lt _ (by omega)
/-- a label's bits, as numbers of a text -/
def bitsN (n b : Nat) : List Nat := tab n fun i => 48 + bitAt b i
theorem bitsN_length (n b : Nat) : (bitsN n b).length = n := tab_length _ _
theorem bitsN_snoc (k b : Nat) : bitsN k b ++ [48 + bitAt b k] = bitsN (k + 1) b := tab_snoc k _
/-- a bit is put behind -/
def chB (n c bit : Nat) : Nat := if bit = 0 then c else c + gap (n + 1)

def Bin (l : List Nat) : Prop := ∀ x ∈ l, x = 48 ∨ x = 49
theorem Bin.append {l m : List Nat} (hl : Bin l) (hm : Bin m) : Bin (l ++ m) := by
  intro x hx
  rcases List.mem_append.1 hx with h | h
  · exact hl x h
  · exact hm x h
theorem Bin.rep (k : Nat) {c : Nat} (hc : c = 48 ∨ c = 49) : Bin (List.replicate k c) := by
  intro x hx
  rw [(List.mem_replicate.1 hx).2]; exact hc
theorem Bin.bits (n b : Nat) : Bin (bitsN n b) := by
  intro x hx
  obtain ⟨i, _, rfl⟩ := List.mem_map.1 hx
  have := bitAt_lt b i
  omega
theorem Bin.lt {l : List Nat} (h : Bin l) : ∀ x ∈ l, x < 256 := fun x hx => by have := h x hx; omega
theorem Bin.take {l : List Nat} (h : Bin l) (k : Nat) : Bin (l.take k) := fun x hx => h x (List.mem_of_mem_take hx)
/-- the number of a text of bits -/
def num (l : List Nat) : Nat := l.foldl (fun v x => 2 * v + (x - 48)) 0
theorem num_snoc (l : List Nat) (x : Nat) : num (l ++ [x]) = 2 * num l + (x - 48) := by unfold num; rw [List.foldl_append]; rfl
theorem num_lt {l : List Nat} (h : Bin l) : num l < 2 ^ l.length := by
  have : ∀ (k : Nat) (l : List Nat), l.length = k → Bin l → num l < 2 ^ k := by
    intro k
    induction k with
    | zero => intro l hl _; rw [List.length_eq_zero_iff.1 hl]; decide
    | succ k ih =>
      intro l hl hb
      rcases List.eq_nil_or_concat l with rfl | ⟨m, x, rfl⟩
      · simp at hl
      · rw [List.concat_eq_append] at *
        have h1 := ih m (by simp at hl; omega) (fun y hy => hb y (by simp [hy]))
        have h2 := hb x (by simp)
        rw [num_snoc, Nat.pow_succ]
        omega
  exact this _ l rfl h
theorem num_take_succ {l : List Nat} {k : Nat} (h : k < l.length) : num (l.take (k + 1)) = 2 * num (l.take k) + (l[k] - 48) := by
  rw [List.take_succ_eq_append_getElem h, num_snoc]
theorem num_rep0 (l : List Nat) (k : Nat) : num (l ++ List.replicate k 48) = num l * 2 ^ k := by
  induction k with
  | zero => simp
  | succ k ih =>
    have e : num l * (2 ^ k * 2) = num l * 2 ^ k * 2 := (Nat.mul_assoc _ _ _).symm
    rw [List.replicate_succ', ← List.append_assoc, num_snoc, ih, Nat.pow_succ, e]; omega
theorem num_rep1 (l : List Nat) (k : Nat) : num (l ++ List.replicate k 49) = num l * 2 ^ k + (2 ^ k - 1) := by
  induction k with
  | zero => simp
  | succ k ih =>
    have hp : 0 < 2 ^ k := Nat.pow_pos (by omega)
    have e : num l * (2 ^ k * 2) = num l * 2 ^ k * 2 := (Nat.mul_assoc _ _ _).symm
    rw [List.replicate_succ', ← List.append_assoc, num_snoc, ih, Nat.pow_succ, e]
    generalize num l * 2 ^ k = y
    omega
theorem num_bits (n b : Nat) (hn : n ≤ 64) (hb : b < 18446744073709551616) : num (bitsN n b) = b / gap n := by
  induction n with
  | zero => rw [gap_zero, Nat.div_eq_of_lt hb]; rfl
  | succ k ih =>
    have e0 : b / gap k = b / gap (k + 1) / 2 := by rw [gap_succ k (by omega), Nat.mul_comm 2, Nat.div_div_eq_div_mul]
    rw [← bitsN_snoc, num_snoc, ih (by omega), e0]
    have e : bitAt b k = b / gap (k + 1) % 2 := by unfold bitAt gap; rw [show 64 - (k + 1) = 63 - k by omega]
    rw [e]
    generalize b / gap (k + 1) = y
    omega
/-- the text of a number's lowest bits -/
def lowN (i v : Nat) : List Nat := tab i fun j => 48 + v / 2 ^ (i - 1 - j) % 2
theorem lowN_succ (i v : Nat) : [48 + v / 2 ^ i % 2] ++ lowN i v = lowN (i + 1) v := by
  unfold lowN
  rw [show [48 + v / 2 ^ i % 2] = tab 1 (fun _ => 48 + v / 2 ^ i % 2) from rfl, tab_append, Nat.add_comm 1 i]
  refine tab_congr fun j hj => ?_
  by_cases h : j < 1
  · rw [if_pos h, show i + 1 - 1 - j = i by omega]
  · rw [if_neg h, show i + 1 - 1 - j = i - 1 - (j - 1) by omega]
theorem lowN_full (v : Nat) : lowN 64 v = bitsN 64 v := rfl
theorem bitsN_take (n b : Nat) (hn : n ≤ 64) : (bitsN 64 b).take n = bitsN n b := by
  unfold bitsN
  refine tab_ext (by rw [List.length_take, tab_length]; omega) fun i hi => ?_
  rw [List.getElem?_take, if_pos hi, tab_get _ _ _ (by omega)]
/-- the bits of a text of bits, up to 64 -/
def full (l : List Nat) : Nat := num l * gap l.length
theorem full_bits (n b : Nat) (hn : n ≤ 64) (hb : b < 18446744073709551616) : full (bitsN n b) = cutN n b := by
  unfold full; rw [bitsN_length, num_bits n b hn hb, cutN_mul]
theorem full_snoc (l : List Nat) (x : Nat) (hl : l.length < 64) (hx : x = 48 ∨ x = 49) : full (l ++ [x]) = chB l.length (full l) (x - 48) := by
  unfold full chB
  rw [List.length_append, num_snoc, gap_succ l.length hl, List.length_singleton]
  have e : num l * (2 * gap (l.length + 1)) = 2 * num l * gap (l.length + 1) := by rw [← Nat.mul_assoc, Nat.mul_comm (num l) 2]
  rcases hx with rfl | rfl
  · rw [if_pos rfl, e]; rfl
  · rw [if_neg (by omega), e, Nat.add_mul]; simp
theorem full_lt {l : List Nat} (hl : l.length ≤ 64) (h : Bin l) : full l < 18446744073709551616 := by
  unfold full
  have h1 := num_lt h
  have h2 := gap_mul l.length hl
  have h3 := gap_pos l.length
  rw [← h2]
  exact Nat.mul_lt_mul_of_pos_right h1 h3
theorem txt_cut (l : List Nat) (n : Nat) : (txt l).extract 0 n = txt (l.take n) := by
  unfold txt
  apply ByteArray.ext
  simp [ByteArray.extract, ByteArray.copySlice, List.map_take]
theorem txt_inj {l m : List Nat} (hl : ∀ x ∈ l, x < 256) (hm : ∀ x ∈ m, x < 256) (h : txt l = txt m) : l = m := by
  rw [← bytesN_txt l hl, ← bytesN_txt m hm, h]
end Go.Proofs.Ytplcdjmidelboaa
