/- The document's calls on labels: Is, Bits, Of, Covers, Within. -/
import Derived.Test.YtgfcdkihahfnkaaLabRef
import Derived.Test.YtgfcdkihahfnkaaLabEq
import Derived.Test.YtgfcdkihahfnkaaLabKin
namespace Go.Proofs.Ytgfcdkihahfnkaa
open Go.RowKit Go.Sort

theorem toList_beq (a b : ByteArray) : (a.toList == b.toList) = decide (a = b) := by
  rw [Bool.eq_iff_iff, beq_iff_eq, decide_eq_true_iff]
  constructor
  · intro h
    rw [ByteArray.toList_eq, ByteArray.toList_eq] at h
    exact ByteArray.ext (Array.toList_inj.1 h)
  · rintro rfl; rfl
theorem bitsN_ext {n b c : Nat} (hn : n ≤ 64) (h : b / gap n = c / gap n) : bitsN n b = bitsN n c := by
  unfold bitsN
  refine tab_congr fun i hi => ?_
  have e : ∀ x, bitAt x i = x / gap n / 2 ^ (n - 1 - i) % 2 := fun x => by
    unfold bitAt gap
    rw [Nat.div_div_eq_div_mul, ← Nat.pow_add, show 64 - n + (n - 1 - i) = 63 - i by omega]
  rw [e b, e c, h]
theorem bits_same {n b c : Nat} (hn : n ≤ 64) (hb : b < 18446744073709551616) (hc : c < 18446744073709551616) (hi : lowB n b = true) : ((txt (bitsN n b)).toList == (txt (bitsN n c)).toList) = decide (cutN n c = b) := by
  rw [toList_beq, Bool.eq_iff_iff, decide_eq_true_iff, decide_eq_true_iff]
  have h1 := lowB_iff.1 hi
  have hg := gap_pos n
  constructor
  · intro h
    have h2 := txt_inj (Bin.bits n b).lt (Bin.bits n c).lt h
    have h3 := congrArg num h2
    rw [num_bits n b hn hb, num_bits n c hn hc] at h3
    rw [cutN_mul, ← h3, ← cutN_mul, cutN_self n b h1]
  · intro h
    rw [bitsN_ext hn (b := b) (c := c)]
    rw [← h, cutN_mul, Nat.mul_div_cancel _ hg]
theorem bits_same' {n b c : Nat} (hn : n ≤ 64) (hb : b < 18446744073709551616) (hc : c < 18446744073709551616) (hi : lowB n b = true) : ((txt (bitsN n c)).toList == (txt (bitsN n b)).toList) = decide (cutN n c = b) := by
  rw [← bits_same hn hb hc hi, Bool.eq_iff_iff, beq_iff_eq, beq_iff_eq]
  exact eq_comm
theorem bits_cut (n b m : Nat) (hn : n ≤ 64) (hm : m ≤ n) (w : World) : (Instr.slice 9 (.string (txt (bitsN n b))) none (some (.int .i64 (m : Int))) none).run Try.prog w = .ok (.string (txt (bitsN m b))) w := by
  rw [run_cut0 Try.underlying9 _ (m : Int) m rfl (by rw [txt_size, bitsN_length]; exact hm), txt_cut]
  have e : (bitsN n b).take m = bitsN m b := by rw [← bitsN_take n b hn, List.take_take, Nat.min_eq_left hm, bitsN_take m b (by omega)]
  rw [e]

theorem refIs_no (n : Int) (b : Nat) (w : World) (hl : ¬ (0 ≤ n ∧ n ≤ 64)) : Calls Try.prog 11 #[labv n b] w fun e w' => e = .returned (.bool false) ∧ Below w.heap.size w w' := by
  rw [labv_eq]
  rcases (by omega : n < 0 ∨ (¬ n < 0 ∧ 64 < n)) with h | ⟨h, h'⟩
  all_goals
    clear hl
    go_enter Try.func11, Try.ntmps11
    go_upto_region 1 with (fail)
    have c0 := lab0 (Blk.new w (labc n b) 26)
    have B1 : Hid (Below w.heap.size w (w.alloc (.cells (labc n b) 26))) := (Below.refl _ _).alloc (Nat.le_refl _) _
    generalize w.alloc (.cells (labc n b) 26) = W at *
    go_wp2
    go_ret
    exact ⟨rfl, B1.out⟩
theorem refIs_yes (n b : Nat) (w : World) (hn : n ≤ 64) (hb : b < 18446744073709551616) : Calls Try.prog 11 #[labv n b] w fun e w' => e = .returned (.bool (lowB n b)) ∧ Below w.heap.size w w' := by
  have HB : Gives Try.prog 34 #[.int .u64 (b : Int)] (.string (txt (bitsN 64 b))) := fun w => calls_below (refBits_any b w hb)
  have HO : Gives Try.prog 33 #[.string (txt (bitsN n b))] (.agg (labc n (cutN n b))) := fun w => refOf_bits n b w hn hb
  have hcut := bits_cut 64 b n (by omega) hn
  have HE : Hid (eqL n (cutN n b) n b = lowB n b) := by
    unfold Hid eqL lowB
    rw [Bool.eq_iff_iff, decide_eq_true_iff, decide_eq_true_iff]
    constructor
    · rintro ⟨_, h⟩
      rw [← h]; exact cutN_mod n b
    · intro h; exact ⟨rfl, cutN_self n b h⟩
  clear hb
  generalize txt (bitsN 64 b) = X at *
  generalize txt (bitsN n b) = Y at *
  generalize cutN n b = c at *
  generalize lowB n b = r at *
  rw [labv_eq]
  go_enter Try.func11, Try.ntmps11
  go_upto_region 1 with (fail)
  have A1 := Lib.hid (Blk.new w (labc n b) 26)
  have B1 : Hid (Below w.heap.size w (w.alloc (.cells (labc n b) 26))) := (Below.refl _ _).alloc (Nat.le_refl _) _
  generalize w.alloc (.cells (labc n b) 26) = W at *
  have c0 := lab0 A1.out
  go_upto_region 3 with (fail)
  clear c0
  have c0 := A1.out.grown 0
  have c1 := A1.out.grown 1
  rw [show (labc (n : Int) b)[0]? = some (.int .i64 n) from rfl] at c0
  rw [show (labc (n : Int) b)[1]? = some (.int .u64 b) from rfl] at c1
  refine wp_region_quiet_below (by kernel_rfl) (by kernel_rfl) ?_
  repeat (first
    | go_big_quiet_skip
    | (go_big_quiet_want
       first
       | (first | refine q_loadL _ rfl _ rfl n b A1.out ?_ | refine q_eqlL _ _ rfl n c n b rfl rfl HE.out ?_
          simp only [Act.put, List.setIfInBounds_toArray, List.set_cons_succ, List.set_cons_zero]
          go_big_quiet_on)
       | (go_big_quiet_op
          first | go_big_quiet_on | go_big_quiet_call (first | with_reducible exact HB.grown _ _ | with_reducible exact HO.grown _ _))))
  refine wpQuiet_nil ?_
  intro _ hw'
  obtain ⟨⟨dq, osq⟩, hw''⟩ := hw'
  subst hw''
  clear c0 c1 hcut
  go_wp2
  go_ret
  exact ⟨rfl, B1.out.trans ((below_regrown _ dq osq).mono B1.out.size)⟩
theorem refIs_any (n : Int) (b : Nat) (w : World) (hb : b < 18446744073709551616) : Calls Try.prog 11 #[labv n b] w fun e w' => e = .returned (.bool (isB n b)) ∧ Below w.heap.size w w' := by
  cases hl : lenB n
  · rw [show isB n b = false by unfold isB; rw [hl]; rfl]
    exact refIs_no n b w (fun h => by rw [lenB_yes h] at hl; cases hl)
  · have hn := lenB_iff.1 hl
    obtain ⟨m, rfl⟩ := Int.eq_ofNat_of_zero_le hn.1
    rw [show isB (m : Int) b = lowB m b by unfold isB; rw [hl]; rfl]
    exact refIs_yes m b w (by omega) hb
end Go.Proofs.Ytgfcdkihahfnkaa
