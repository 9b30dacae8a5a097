/- A text is padded: the program's and the document's answer, as one text. -/
import Derived.Test.YtdhcilnkimmblaaShaNum
import Derived.Test.YtdhcilnkimmblaaBlk
import Derived.Test.YtdhcilnkimmblaaRows
import Derived.Deep.Cut
namespace Go.Proofs.Ytdhcilnkimmblaa
open Go.RowKit

theorem info8 : (Try.prog.info? 5).map (fun i => (i.zero, i.size, i.bytes)) = some (some (.int .u8 0), 1, 1) := by kernel_rfl
theorem info8s : (Try.prog.info? 5).map (·.size) = some 1 := by kernel_rfl

/-- how long a padded text is -/
def padLen (n : Nat) : Nat := 64 * ((n + 8) / 64 + 1)
theorem padLen_ge (n : Nat) : n + 9 ≤ padLen n := by unfold padLen; omega
theorem padLen_le (n : Nat) : padLen n ≤ n + 72 := by unfold padLen; omega
theorem padLen_mod (n : Nat) : padLen n % 64 = 0 := by unfold padLen; omega
/-- place i of a padded text whose last k bytes are told -/
def pf (s : ByteArray) (k i : Nat) : Nat := if i < s.size then byteAt s i else if i = s.size then 128 else if padLen s.size ≤ i + k then digit (8 * s.size) (padLen s.size - 1 - i) else 0
def padN (s : ByteArray) : List Nat := tab (padLen s.size) (pf s 8)
def padB (s : ByteArray) : ByteArray := txt (padN s)
theorem padN_length (s : ByteArray) : (padN s).length = padLen s.size := tab_length _ _
theorem padB_size (s : ByteArray) : (padB s).size = padLen s.size := by rw [padB, txt_size, padN_length]
theorem pf_lt (s : ByteArray) (k i : Nat) : pf s k i < 256 := by
  unfold pf
  split
  · exact byteAt_lt s i
  split
  · omega
  split
  · exact digit_lt _ _
  · omega
theorem pf_step (s : ByteArray) (k : Nat) (hk : k < 8) : (tab (padLen s.size) (pf s k)).set (padLen s.size - 1 - k) (digit (8 * s.size) k) = tab (padLen s.size) (pf s (k + 1)) := by
  rw [tab_set]
  refine tab_congr fun i hi => ?_
  have h1 := padLen_ge s.size
  unfold pf
  by_cases e : i = padLen s.size - 1 - k
  · rw [if_pos e, if_neg (by omega), if_neg (by omega), if_pos (by omega), e]
    congr 1
    omega
  · rw [if_neg e]
    by_cases e1 : i < s.size
    · rw [if_pos e1, if_pos e1]
    · rw [if_neg e1, if_neg e1]
      by_cases e2 : i = s.size
      · rw [if_pos e2, if_pos e2]
      · rw [if_neg e2, if_neg e2]
        by_cases e3 : padLen s.size ≤ i + k
        · rw [if_pos e3, if_pos (by omega)]
        · rw [if_neg e3, if_neg (by omega)]
theorem bytesN_tab (s : ByteArray) : bytesN s = tab s.size (byteAt s) := by
  refine tab_ext (bytesN_length s) fun i hi => ?_
  have hi' : i < s.data.toList.length := by simpa using hi
  unfold bytesN byteAt
  rw [List.getElem?_map, List.getElem?_eq_getElem hi']
  simp [Array.getD, hi]
theorem pf_copied (s : ByteArray) : (Lib.byteCells s.data.toList ++ (row (tab (padLen s.size) fun _ => 0)).toList.drop s.size).toArray = row (tab (padLen s.size) fun i => if i < s.size then byteAt s i else 0) := by
  rw [byteCells_eq, bytesN_tab]
  have h1 := padLen_ge s.size
  apply Array.ext_getElem?
  intro i
  rcases Nat.lt_or_ge i (padLen s.size) with h | h
  · rw [row_tab _ _ _ h, List.getElem?_toArray]
    rcases Nat.lt_or_ge i s.size with h2 | h2
    · rw [List.getElem?_append_left (by simp [tab_length]; exact h2), List.getElem?_map, tab_get _ _ _ h2, if_pos h2]; rfl
    · rw [List.getElem?_append_right (by simp [tab_length]; exact h2), List.getElem?_drop, if_neg (by omega)]
      simp only [List.length_map, tab_length]
      rw [show s.size + (i - s.size) = i by omega, Array.getElem?_toList, row_tab _ _ _ h]
  · rw [Array.getElem?_eq_none (by simp [tab_length, row_size]; omega), Array.getElem?_eq_none (by rw [row_size, tab_length]; exact h)]
theorem pf_marked (s : ByteArray) : (tab (padLen s.size) fun i => if i < s.size then byteAt s i else 0).set s.size 128 = tab (padLen s.size) (pf s 0) := by
  rw [tab_set]
  refine tab_congr fun i hi => ?_
  unfold pf
  by_cases e : i = s.size
  · rw [if_pos e, if_neg (by omega), if_pos e]
  · rw [if_neg e, if_neg e]
    split
    · rfl
    · rw [if_neg (by omega)]

theorem shr_digit (n k : Nat) : (n : Int) * 8 / 2 ^ (8 * k) % 256 = ((digit (8 * n) k : Nat) : Int) := by
  unfold digit
  rw [show (256 : Nat) = 2 ^ 8 from rfl, ← Nat.pow_mul]
  have e : (n : Int) * 8 / 2 ^ (8 * k) = ((8 * n / 2 ^ (8 * k) : Nat) : Int) := by
    rw [Int.natCast_ediv, Int.natCast_pow, Int.mul_comm]; rfl
  rw [e]
  generalize 8 * n / 2 ^ (8 * k) = x
  omega

/-- the text, the mark, and j noughts -/
def outB (s : ByteArray) (j : Nat) : ByteArray := txt (tab (s.size + 1 + j) fun i => if i < s.size then byteAt s i else if i = s.size then 128 else 0)
theorem outB_size (s : ByteArray) (j : Nat) : (outB s j).size = s.size + 1 + j := by rw [outB, txt_size, tab_length]
theorem outB_zero (s : ByteArray) : s ++ ⟨#[128]⟩ = outB s 0 := by
  unfold outB
  rw [show (⟨#[128]⟩ : ByteArray) = txt (tab 1 fun _ => 128) from rfl]
  conv => lhs; rw [← txt_bytes s, bytesN_tab]
  rw [← txt_append, tab_append]
  refine congrArg txt (tab_congr fun i hi => ?_)
  by_cases h : i < s.size
  · rw [if_pos h, if_pos h]
  · rw [if_neg h, if_neg h, if_pos (by omega)]
theorem outB_succ (s : ByteArray) (j : Nat) : outB s j ++ ⟨#[0]⟩ = outB s (j + 1) := by
  unfold outB
  rw [show (⟨#[0]⟩ : ByteArray) = txt (tab 1 fun _ => 0) from rfl]
  rw [← txt_append, tab_append]
  refine congrArg txt (tab_congr fun i hi => ?_)
  by_cases h : i < s.size + 1 + j
  · rw [if_pos h]
  · rw [if_neg h, if_neg (by omega), if_neg (by omega)]
/-- the last k bytes of the count -/
def tailB (n k : Nat) : ByteArray := txt (tab k fun i => digit (8 * n) (k - 1 - i))
theorem tailB_succ (n k : Nat) : txt [digit (8 * n) k] ++ tailB n k = tailB n (k + 1) := by
  unfold tailB
  rw [show [digit (8 * n) k] = tab 1 (fun _ => digit (8 * n) k) from rfl, ← txt_append, tab_append, Nat.add_comm 1 k]
  refine congrArg txt (tab_congr fun i hi => ?_)
  by_cases h : i < 1
  · rw [if_pos h]; congr 1; omega
  · rw [if_neg h]; congr 1; omega
theorem tailB_size (n k : Nat) : (tailB n k).size = k := by rw [tailB, txt_size, tab_length]
theorem out_tail (s : ByteArray) : outB s (padLen s.size - s.size - 9) ++ tailB s.size 8 = padB s := by
  unfold outB tailB padB padN
  have h1 := padLen_ge s.size
  rw [← txt_append, tab_append, show s.size + 1 + (padLen s.size - s.size - 9) + 8 = padLen s.size by omega]
  refine congrArg txt (tab_congr fun i hi => ?_)
  unfold pf
  by_cases h : i < s.size + 1 + (padLen s.size - s.size - 9)
  · rw [if_pos h]
    split
    · rfl
    split
    · rfl
    · rw [if_neg (by omega)]
  · rw [if_neg h, if_neg (by omega), if_neg (by omega), if_pos (by omega)]; congr 1; omega
def sizeV : Value → Nat
  | .string x => x.size
  | _ => 0

end Go.Proofs.Ytdhcilnkimmblaa
