/- The document's calls on labels: Is, Bits, Of, Covers, Within. -/
import Derived.Test.YtplcdjmidelboaaLabRef
import Derived.Test.YtplcdjmidelboaaLabEq
import Derived.Test.YtplcdjmidelboaaLabKin
namespace Go.Proofs.Ytplcdjmidelboaa
open Go.RowKit Go.Sort

theorem toList_beq (a b : ByteArray) : (a.toList == b.toList) = decide (a = b) := by
  rw [Bool.eq_iff_iff, beq_iff_eq, decide_eq_true_iff]
  constructor
  · intro h
    rw [ByteArray.toList_eq, ByteArray.toList_eq] at h
    exact ByteArray.ext (Array.toList_inj.1 h)
  · rintro rfl; rfl
theorem bitsN_ext {n b c : Nat} (hn : n ≤ 64) (h : b / gap n = c / gap n) : bitsN n b = bitsN n c := by
  unfold bitsN
  refine tab_congr fun i hi => ?_
  have e : ∀ x, bitAt x i = x / gap n / 2 ^ (n - 1 - i) % 2 := fun x => by
    unfold bitAt gap
    rw [Nat.div_div_eq_div_mul, ← Nat.pow_add, show 64 - n + (n - 1 - i) = 63 - i by omega]
  rw [e b, e c, h]
theorem bits_same {n b c : Nat} (hn : n ≤ 64) (hb : b < 18446744073709551616) (hc : c < 18446744073709551616) (hi : lowB n b = true) : ((txt (bitsN n b)).toList == (txt (bitsN n c)).toList) = decide (cutN n c = b) := by
  rw [toList_beq, Bool.eq_iff_iff, decide_eq_true_iff, decide_eq_true_iff]
  have h1 := lowB_iff.1 hi
  have hg := gap_pos n
  constructor
  · intro h
    have h2 := txt_inj (Bin.bits n b).lt (Bin.bits n c).lt h
    have h3 := congrArg num h2
    rw [num_bits n b hn hb, num_bits n c hn hc] at h3
    rw [cutN_mul, ← h3, ← cutN_mul, cutN_self n b h1]
  · intro h
    rw [bitsN_ext hn (b := b) (c := c)]
    rw [← h, cutN_mul, Nat.mul_div_cancel _ hg]
theorem bits_same' {n b c : Nat} (hn : n ≤ 64) (hb : b < 18446744073709551616) (hc : c < 18446744073709551616) (hi : lowB n b = true) : ((txt (bitsN n c)).toList == (txt (bitsN n b)).toList) = decide (cutN n c = b) := by
  rw [← bits_same hn hb hc hi, Bool.eq_iff_iff, beq_iff_eq, beq_iff_eq]
  exact eq_comm
theorem bits_cut (n b m : Nat) (hn : n ≤ 64) (hm : m ≤ n) (w : World) : (Instr.slice 9 (.string (txt (bitsN n b))) none (some (.int .i64 (m : Int))) none).run Try.prog w = .ok (.string (txt (bitsN m b))) w := by
  rw [run_cut0 Try.underlying9 _ (m : Int) m rfl (by rw [txt_size, bitsN_length]; exact hm), txt_cut]
  have e : (bitsN n b).take m = bitsN m b := by rw [← bitsN_take n b hn, List.take_take, Nat.min_eq_left hm, bitsN_take m b (by omega)]
  rw [e]

end Go.Proofs.Ytplcdjmidelboaa
