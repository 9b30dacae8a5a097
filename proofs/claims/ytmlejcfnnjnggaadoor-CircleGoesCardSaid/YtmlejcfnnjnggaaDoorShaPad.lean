/- A text is padded: the program's and the document's answer, as one text. -/
import Derived.Test.YtmlejcfnnjnggaaDoorShaBits
import Derived.Test.YtmlejcfnnjnggaaDoorBlk
import Derived.Deep.Cut
namespace Go.Proofs.YtmlejcfnnjnggaaDoor
set_option maxRecDepth 100000
open Go.RowKit

theorem info8 : (Tryd.prog.info? 5).map (fun i => (i.zero, i.size, i.bytes)) = some (some (.int .u8 0), 1, 1) := by kernel_rfl
theorem info8s : (Tryd.prog.info? 5).map (·.size) = some 1 := by kernel_rfl

/-- how long a padded text is -/
def padLen (n : Nat) : Nat := 64 * ((n + 8) / 64 + 1)
theorem padLen_ge (n : Nat) : n + 9 ≤ padLen n := by unfold padLen; omega
theorem padLen_le (n : Nat) : padLen n ≤ n + 72 := by unfold padLen; omega
theorem padLen_mod (n : Nat) : padLen n % 64 = 0 := by unfold padLen; omega
/-- place i of a padded text whose last k bytes are told -/
def pf (s : ByteArray) (k i : Nat) : Nat := if i < s.size then byteAt s i else if i = s.size then 128 else if padLen s.size ≤ i + k then digit (8 * s.size) (padLen s.size - 1 - i) else 0
def padN (s : ByteArray) : List Nat := tab (padLen s.size) (pf s 8)
def padB (s : ByteArray) : ByteArray := txt (padN s)
theorem padN_length (s : ByteArray) : (padN s).length = padLen s.size := tab_length _ _
theorem padB_size (s : ByteArray) : (padB s).size = padLen s.size := by rw [padB, txt_size, padN_length]
theorem pf_lt (s : ByteArray) (k i : Nat) : pf s k i < 256 := by
  unfold pf
  split
  · exact byteAt_lt s i
  split
  · omega
  split
  · exact digit_lt _ _
  · omega
theorem pf_step (s : ByteArray) (k : Nat) (hk : k < 8) : (tab (padLen s.size) (pf s k)).set (padLen s.size - 1 - k) (digit (8 * s.size) k) = tab (padLen s.size) (pf s (k + 1)) := by
  rw [tab_set]
  refine tab_congr fun i hi => ?_
  have h1 := padLen_ge s.size
  unfold pf
  by_cases e : i = padLen s.size - 1 - k
  · rw [if_pos e, if_neg (by omega), if_neg (by omega), if_pos (by omega), e]
    congr 1
    omega
  · rw [if_neg e]
    by_cases e1 : i < s.size
    · rw [if_pos e1, if_pos e1]
    · rw [if_neg e1, if_neg e1]
      by_cases e2 : i = s.size
      · rw [if_pos e2, if_pos e2]
      · rw [if_neg e2, if_neg e2]
        by_cases e3 : padLen s.size ≤ i + k
        · rw [if_pos e3, if_pos (by omega)]
        · rw [if_neg e3, if_neg (by omega)]
theorem bytesN_tab (s : ByteArray) : bytesN s = tab s.size (byteAt s) := by
  refine tab_ext (bytesN_length s) fun i hi => ?_
  have hi' : i < s.data.toList.length := by simpa using hi
  unfold bytesN byteAt
  rw [List.getElem?_map, List.getElem?_eq_getElem hi']
  simp [Array.getD, hi]
theorem pf_copied (s : ByteArray) : (Lib.byteCells s.data.toList ++ (row (tab (padLen s.size) fun _ => 0)).toList.drop s.size).toArray = row (tab (padLen s.size) fun i => if i < s.size then byteAt s i else 0) := by
  rw [byteCells_eq, bytesN_tab]
  have h1 := padLen_ge s.size
  apply Array.ext_getElem?
  intro i
  rcases Nat.lt_or_ge i (padLen s.size) with h | h
  · rw [row_tab _ _ _ h, List.getElem?_toArray]
    rcases Nat.lt_or_ge i s.size with h2 | h2
    · rw [List.getElem?_append_left (by simp [tab_length]; exact h2), List.getElem?_map, tab_get _ _ _ h2, if_pos h2]; rfl
    · rw [List.getElem?_append_right (by simp [tab_length]; exact h2), List.getElem?_drop, if_neg (by omega)]
      simp only [List.length_map, tab_length]
      rw [show s.size + (i - s.size) = i by omega, Array.getElem?_toList, row_tab _ _ _ h]
  · rw [Array.getElem?_eq_none (by simp [tab_length, row_size]; omega), Array.getElem?_eq_none (by rw [row_size, tab_length]; exact h)]
theorem pf_marked (s : ByteArray) : (tab (padLen s.size) fun i => if i < s.size then byteAt s i else 0).set s.size 128 = tab (padLen s.size) (pf s 0) := by
  rw [tab_set]
  refine tab_congr fun i hi => ?_
  unfold pf
  by_cases e : i = s.size
  · rw [if_pos e, if_neg (by omega), if_pos e]
  · rw [if_neg e, if_neg e]
    split
    · rfl
    · rw [if_neg (by omega)]

theorem pad_long (s : ByteArray) (w : World) (h : 4096 < s.size) (hs : s.size ≤ 9223372036854775807) :
    Calls Tryd.prog 55 #[.string s] w fun e w' => e = .returned (.tuple #[.string ⟨#[]⟩, .int .i64 2]) ∧ w = w' := by
  go_enter Tryd.func55, Tryd.ntmps55
  go_wp2
  go_ret2
  exact ⟨rfl, rfl⟩

theorem shr_digit (n k : Nat) : (n : Int) * 8 / 2 ^ (8 * k) % 256 = ((digit (8 * n) k : Nat) : Int) := by
  unfold digit
  rw [show (256 : Nat) = 2 ^ 8 from rfl, ← Nat.pow_mul]
  have e : (n : Int) * 8 / 2 ^ (8 * k) = ((8 * n / 2 ^ (8 * k) : Nat) : Int) := by
    rw [Int.natCast_ediv, Int.natCast_pow, Int.mul_comm]; rfl
  rw [e]
  generalize 8 * n / 2 ^ (8 * k) = x
  omega

set_option maxHeartbeats 1000000 in
theorem pad_short (s : ByteArray) (w : World) (h : s.size ≤ 4096) :
    Calls Tryd.prog 55 #[.string s] w fun e w' => e = .returned (.tuple #[.string (padB s), .int .i64 0]) ∧ Below w.heap.size w w' := by
  go_enter Tryd.func55, Tryd.ntmps55
  go_upto_region 5 with (refine wpList_make_blk rfl _ _ 77 rfl 5 (.int .u8 0) 1 1 Tryd.underlying77 info8 _ (padLen s.size) rfl rfl (by unfold padLen; omega) (by have := padLen_le s.size; omega) (by have := padLen_le s.size; omega) _ (made8 _) ?_)
  have hB := Blk.new w (row (tab (padLen s.size) fun _ => 0)) 5
  have B0 := (Below.refl w.heap.size w).alloc (Nat.le_refl _) (.cells (row (tab (padLen s.size) fun _ => 0)) 5)
  have hge := padLen_ge s.size
  have hle := padLen_le s.size
  generalize w.alloc _ = W at *
  go_upto_region 6 with (refine wpList_copy_str rfl _ _ 77 9 rfl 5 Tryd.underlying77 info8s w.heap.size _ _ s rfl rfl _ 5 hB (by omega) (by rw [row_size, tab_length]; omega) _ (pf_copied s) ?_)
  replace hB := hB.setRow (row (tab (padLen s.size) fun i => if i < s.size then byteAt s i else 0))
  replace B0 := bel_setRow B0 (Nat.le_refl _) (row (tab (padLen s.size) fun i => if i < s.size then byteAt s i else 0))
  generalize W.setRow _ _ = W1 at *
  clear W
  have c1 : W1.cell? ⟨w.heap.size, s.size, none⟩ = some (.int .u8 0) := by rw [hB.cell, row_tab _ _ _ (by omega), if_neg (by omega)]; rfl
  have f1 := hB.free s.size
  have HB := Lib.hid hB
  clear hB
  go_upto_region 8 with (fail)
  have hB := HB.out.put s.size (.int .u8 (128 : Nat))
  rw [row8_set, pf_marked] at hB
  replace B0 := B0.setCell (p := ⟨w.heap.size, s.size, none⟩) (Nat.le_refl _) (.int .u8 128)
  clear c1 f1 HB
  generalize W1.setCell _ _ = W at *
  clear W1
  have HB := Lib.hid hB
  have HB0 := Lib.hid B0
  clear hB B0
  go_wp2
  go_loopw [30] (fun i wr => ∃ k : Nat, k ≤ 8 ∧ i = .int .i64 k ∧ Blk wr w.heap.size (row (tab (padLen s.size) (pf s k))) 5 ∧ Below w.heap.size w wr) (fun i _ => 8 - (intOf i).toNat)
  case atStart => exact ⟨0, by omega, rfl, HB.out, HB0.out⟩
  case round =>
    clear HB HB0
    obtain ⟨k, hk, rfl, hB, B0⟩ := hrel
    by_cases hlt : k < 8
    · have c1 : wr.cell? ⟨w.heap.size, padLen s.size - 1 - k, none⟩ = some (.int .u8 (pf s k (padLen s.size - 1 - k) : Nat)) := by rw [hB.cell, row_tab _ _ _ (by omega)]
      have f1 := hB.free (padLen s.size - 1 - k)
      have HB := Lib.hid hB
      have HB0 := Lib.hid B0
      have HS := Lib.hid (pf_step s k hlt)
      have HD := Lib.hid (shr_digit s.size k)
      clear hB B0
      go_wp2
      go_roundw
      case rel =>
        refine ⟨k + 1, by omega, by go_num, ?_, ?_⟩
        · rw [← HS.out, ← row8_set, ← HD.out]
          exact HB.out.put _ _
        · exact HB0.out.setCell (Nat.le_refl _) _
      case measure => simp [intOf]; omega
    · obtain rfl : k = 8 := by omega
      have hcv := run_text_blk (P := Tryd.prog) wr 77 5 9 Tryd.underlying77 Tryd.underlying5 Tryd.underlying9 w.heap.size (padLen s.size) (padLen s.size) _ 5 (tab_length _ _) hB
      have HB0 := Lib.hid B0
      clear hB B0
      go_wp2
      go_ret2
      exact ⟨rfl, HB0.out⟩

theorem refPad_long (s : ByteArray) (w : World) (h : 4096 < s.size) (hs : s.size ≤ 9223372036854775807) :
    Calls Tryd.prog 61 #[.string s] w fun e w' => e = .returned (.tuple #[.string ⟨#[]⟩, .int .i64 2]) ∧ w = w' := by
  go_enter Tryd.func61, Tryd.ntmps61
  go_wp2
  go_ret2
  exact ⟨rfl, rfl⟩

/-- the text, the mark, and j noughts -/
def outB (s : ByteArray) (j : Nat) : ByteArray := txt (tab (s.size + 1 + j) fun i => if i < s.size then byteAt s i else if i = s.size then 128 else 0)
theorem outB_size (s : ByteArray) (j : Nat) : (outB s j).size = s.size + 1 + j := by rw [outB, txt_size, tab_length]
theorem outB_zero (s : ByteArray) : s ++ ⟨#[128]⟩ = outB s 0 := by
  unfold outB
  rw [show (⟨#[128]⟩ : ByteArray) = txt (tab 1 fun _ => 128) from rfl]
  conv => lhs; rw [← txt_bytes s, bytesN_tab]
  rw [← txt_append, tab_append]
  refine congrArg txt (tab_congr fun i hi => ?_)
  by_cases h : i < s.size
  · rw [if_pos h, if_pos h]
  · rw [if_neg h, if_neg h, if_pos (by omega)]
theorem outB_succ (s : ByteArray) (j : Nat) : outB s j ++ ⟨#[0]⟩ = outB s (j + 1) := by
  unfold outB
  rw [show (⟨#[0]⟩ : ByteArray) = txt (tab 1 fun _ => 0) from rfl]
  rw [← txt_append, tab_append]
  refine congrArg txt (tab_congr fun i hi => ?_)
  by_cases h : i < s.size + 1 + j
  · rw [if_pos h]
  · rw [if_neg h, if_neg (by omega), if_neg (by omega)]
/-- the last k bytes of the count -/
def tailB (n k : Nat) : ByteArray := txt (tab k fun i => digit (8 * n) (k - 1 - i))
theorem tailB_succ (n k : Nat) : txt [digit (8 * n) k] ++ tailB n k = tailB n (k + 1) := by
  unfold tailB
  rw [show [digit (8 * n) k] = tab 1 (fun _ => digit (8 * n) k) from rfl, ← txt_append, tab_append, Nat.add_comm 1 k]
  refine congrArg txt (tab_congr fun i hi => ?_)
  by_cases h : i < 1
  · rw [if_pos h]; congr 1; omega
  · rw [if_neg h]; congr 1; omega
theorem tailB_size (n k : Nat) : (tailB n k).size = k := by rw [tailB, txt_size, tab_length]
theorem out_tail (s : ByteArray) : outB s (padLen s.size - s.size - 9) ++ tailB s.size 8 = padB s := by
  unfold outB tailB padB padN
  have h1 := padLen_ge s.size
  rw [← txt_append, tab_append, show s.size + 1 + (padLen s.size - s.size - 9) + 8 = padLen s.size by omega]
  refine congrArg txt (tab_congr fun i hi => ?_)
  unfold pf
  by_cases h : i < s.size + 1 + (padLen s.size - s.size - 9)
  · rw [if_pos h]
    split
    · rfl
    split
    · rfl
    · rw [if_neg (by omega)]
  · rw [if_neg h, if_neg (by omega), if_neg (by omega), if_pos (by omega)]; congr 1; omega
def sizeV : Value → Nat
  | .string x => x.size
  | _ => 0

set_option maxHeartbeats 1000000 in
theorem refPad_short (s : ByteArray) (w : World) (h : s.size ≤ 4096) :
    Calls Tryd.prog 61 #[.string s] w fun e w' => e = .returned (.tuple #[.string (padB s), .int .i64 0]) ∧ Below w.heap.size w w' := by
  have hge := padLen_ge s.size
  have hle := padLen_le s.size
  have hmd := padLen_mod s.size
  go_enter Tryd.func61, Tryd.ntmps61
  go_wp2
  rw [outB_zero]
  go_loop [4] (fun o => ∃ j : Nat, s.size + 1 + j + 8 ≤ padLen s.size ∧ o = .string (outB s j)) (fun o => padLen s.size - sizeV o)
  case atStart => exact ⟨0, by omega, rfl⟩
  case round =>
    obtain ⟨j, hj, rfl⟩ := hrel
    have hz := outB_size s j
    have hs := Lib.hid (outB_succ s j)
    by_cases hlt : (s.size + 1 + j) % 64 = 56
    · obtain rfl : j = padLen s.size - s.size - 9 := by unfold padLen at *; omega
      have hb : ((((s.size + 1 + (padLen s.size - s.size - 9) : Nat) : Int) % 64) != 56) = false := by rw [bne_eq_false_iff_eq]; omega
      have HO := Lib.hid (out_tail s)
      clear hs hj hlt
      generalize outB s (padLen s.size - s.size - 9) = x at *
      go_wp2
      have HZ := Lib.hid hz
      clear hb hz
      go_loopw [5, 6, 7] (fun b t i wr => ∃ k : Nat, k ≤ 8 ∧ i = .int .i64 k ∧ b = .int .i64 ((8 * s.size / 256 ^ k : Nat) : Int) ∧ t = .string (tailB s.size k) ∧ Below w.heap.size w wr) (fun _ _ i _ => 8 - (intOf i).toNat)
      case atStart => exact ⟨0, by omega, rfl, by rw [Nat.pow_zero, Nat.div_one]; rfl, rfl, Below.refl _ _⟩
      case round =>
        obtain ⟨k, hk, rfl, rfl, rfl, B0⟩ := hrel
        by_cases hlt : k < 8
        · have ht := Lib.hid (tailB_succ s.size k)
          have hd : Hid (8 * s.size / 256 ^ k % 256 = digit (8 * s.size) k) := rfl
          have hq : Hid (8 * s.size / 256 ^ k / 256 = 8 * s.size / 256 ^ (k + 1)) := by unfold Hid; rw [Nat.pow_succ, Nat.div_div_eq_div_mul]
          have hb1 : 8 * s.size / 256 ^ k ≤ 8 * s.size := Nat.div_le_self _ _
          have HB0 := Lib.hid B0
          have hcv := run_text_blk (P := Tryd.prog) (wr.alloc (.cells (row [8 * s.size / 256 ^ k % 256]) 5)) 77 5 9 Tryd.underlying77 Tryd.underlying5 Tryd.underlying9 wr.heap.size 1 1 _ 5 rfl (Blk.new _ _ _)
          rw [show row [8 * s.size / 256 ^ k % 256] = #[.int .u8 (((8 * s.size / 256 ^ k : Nat) : Int) % 256)] from rfl] at hcv
          clear B0
          have hx1 := txt_size [8 * s.size / 256 ^ k % 256]
          have hx2 := tailB_size s.size k
          generalize 8 * s.size / 256 ^ k = y at *
          go_wp2
          refine ⟨⟨k + 1, by omega, by go_num, ?_, ?_, HB0.out.alloc HB0.out.size _⟩, by simp [intOf]; omega⟩
          · rw [← hq.out]; rfl
          · rw [hd.out, ht.out]
        · obtain rfl : k = 8 := by omega
          have HB0 := Lib.hid B0
          have hz := HZ.out
          have hx2 := tailB_size s.size 8
          clear B0
          go_wp2
          go_ret2
          rw [HO.out]
          exact ⟨rfl, HB0.out⟩
    · have hb : ((((s.size + 1 + j : Nat) : Int) % 64) != 56) = true := by rw [bne_iff_ne]; omega
      go_wp2
      rw [hs.out]
      refine ⟨⟨j + 1, ?_, rfl⟩, ?_⟩
      · unfold padLen at *; omega
      · simp only [sizeV, outB_size]; omega
end Go.Proofs.YtmlejcfnnjnggaaDoor
