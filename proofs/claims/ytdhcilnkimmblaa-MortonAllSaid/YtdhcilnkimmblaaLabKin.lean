/- The program's calls on labels: Child, Parent, Sibling, Span, Next. -/
import Derived.Test.YtdhcilnkimmblaaLabMem
namespace Go.Proofs.Ytdhcilnkimmblaa
open Go.RowKit Go.Sort

theorem child_no (n : Int) (b : Nat) (bit : Int) (w : World) (h1 : -9223372036854775808 ≤ n) (h2 : n ≤ 9223372036854775807) (hb : b < 18446744073709551616) (hi : isB n b = false) :
    Calls Try.prog 28 #[labv n b, .int .i64 bit] w fun e w' => e = .returned (labr 0 0 1) ∧ Below w.heap.size w w' := by
  have HI : Gives Try.prog 26 #[.agg (labc n b)] (.bool false) := fun w => hi ▸ isL_any n b w h1 h2 hb
  clear hi hb
  rw [labv_eq]
  go_enter Try.func28, Try.ntmps28
  go_upto_region 1 with (fail)
  have K := Lib.hid (Mem2.made w n b 0 0)
  rw [lab00]
  generalize (w.alloc _).alloc _ = W at *
  go_wp2_with (first | (refine p_loadL rfl _ rfl _ rfl n b K.out.a ?_) | (go_at_call 26; (with_reducible refine (HI.calls _).mono ?_); rintro e w' ⟨rfl, hb⟩; have K1 := Lib.hid (K.out.grown hb)) | (refine p_storeL rfl _ _ rfl _ rfl 0 0 rfl 0 0 K1.out.z ?_))
  exact bodyPost_ret (results_lab Try.results28 _ _ _ 0 0 1 rfl rfl (K1.out.put 0 0).z) rfl ⟨rfl, (K1.out.put 0 0).below⟩

theorem child_bit (n : Nat) (b : Nat) (bit : Int) (w : World) (hn : n ≤ 64) (hb : b < 18446744073709551616) (hi : lowB n b = true) (h0 : (bit != 0) = true) (hb1 : (bit != 1) = true) :
    Calls Try.prog 28 #[labv n b, .int .i64 bit] w fun e w' => e = .returned (labr 0 0 1) ∧ Below w.heap.size w w' := by
  have HI : Gives Try.prog 26 #[.agg (labc n b)] (.bool true) := fun w => hi ▸ isL_yes n b w hn hb
  clear hi hb
  rw [labv_eq]
  go_enter Try.func28, Try.ntmps28
  go_upto_region 1 with (fail)
  have K := Lib.hid (Mem2.made w n b 0 0)
  rw [lab00]
  generalize (w.alloc _).alloc _ = W at *
  go_wp2_with (first | (refine p_loadL rfl _ rfl _ rfl n b K.out.a ?_) | (go_at_call 26; (with_reducible refine (HI.calls _).mono ?_); rintro e w' ⟨rfl, hb⟩; have K1 := Lib.hid (K.out.grown hb)) | (refine p_storeL rfl _ _ rfl _ rfl 0 0 rfl 0 0 K1.out.z ?_))
  exact bodyPost_ret (results_lab Try.results28 _ _ _ 0 0 1 rfl rfl (K1.out.put 0 0).z) rfl ⟨rfl, (K1.out.put 0 0).below⟩

theorem child_full (b : Nat) (bit : Nat) (w : World) (hb : b < 18446744073709551616) (hi : lowB 64 b = true) (hbit : bit < 2) :
    Calls Try.prog 28 #[labv 64 b, .int .i64 (bit : Int)] w fun e w' => e = .returned (labr 0 0 5) ∧ Below w.heap.size w w' := by
  have HI : Gives Try.prog 26 #[.agg (labc 64 b)] (.bool true) := fun w => hi ▸ isL_yes 64 b w (by omega) hb
  clear hi hb
  rw [labv_eq]
  rcases (by omega : bit = 0 ∨ bit = 1) with rfl | rfl
  all_goals
    go_enter Try.func28, Try.ntmps28
    go_upto_region 1 with (fail)
    have K := Lib.hid (Mem2.made w 64 b 0 0)
    rw [lab00]
    generalize (w.alloc _).alloc _ = W at *
    go_upto_region 3 with (first | (refine p_loadL rfl _ rfl _ rfl 64 b K.out.a ?_) | (go_at_call 26; (with_reducible refine (HI.calls _).mono ?_); rintro e w' ⟨rfl, hb⟩))
    replace K := Lib.hid (K.out.grown hb)
    clear hb
    have c0 := lab0 K.out.a
    go_wp2_with (first | (refine p_storeL rfl _ _ rfl _ rfl 0 0 rfl 0 0 K.out.z ?_))
    exact bodyPost_ret (results_lab Try.results28 _ _ _ 0 0 5 rfl rfl (K.out.put 0 0).z) rfl ⟨rfl, (K.out.put 0 0).below⟩

theorem lowB_iff {n b : Nat} : lowB n b = true ↔ b % gap n = 0 := by unfold lowB; simp
theorem lab_room {n b : Nat} (hb : b < 18446744073709551616) (hi : lowB n b = true) : b + gap n ≤ 18446744073709551616 := by
  have h := lowB_iff.1 hi
  have h1 := Nat.div_add_mod b (gap n)
  rcases Nat.lt_or_ge 64 n with h64 | h64
  · have : gap n = 1 := by unfold gap; rw [show 64 - n = 0 by omega]
    omega
  · have h2 := gap_mul n h64
    have hg := gap_pos n
    generalize gap n = g at *
    generalize 2 ^ n = p at *
    have h3 : g * (b / g) < g * p := by rw [Nat.mul_comm g p]; omega
    have h4 := Nat.lt_of_mul_lt_mul_left h3
    have h5 := Nat.mul_le_mul_left g h4
    rw [Nat.mul_succ, Nat.mul_comm g p] at h5
    omega
theorem or_child0 (b : Nat) (hb : b < 18446744073709551616) : bits .or .u64 (b : Int) 0 = (b : Int) := by
  have := u64_or_nat b 0 hb (by omega)
  rw [show ((0 : Nat) : Int) = 0 from rfl] at this
  rw [this, Nat.or_zero]
theorem or_child1 (n b : Nat) (hn : n < 64) (hb : b < 18446744073709551616) (hi : lowB n b = true) : bits .or .u64 (b : Int) (IntKind.u64.wrap (2 ^ (63 - n))) = ((b + gap (n + 1) : Nat) : Int) := by
  have hg := gap_le (n + 1)
  have hs := gap_succ n hn
  have hl := gap_le n
  have hp := gap_pos (n + 1)
  have e : (2 : Int) ^ (63 - n) = ((gap (n + 1) : Nat) : Int) := by
    unfold gap; rw [show 64 - (n + 1) = 63 - n by omega, Int.natCast_pow]; rfl
  rw [e, IntKind.wrap_u64, show ((gap (n + 1) : Nat) : Int) % 18446744073709551616 = ((gap (n + 1) : Nat) : Int) by omega, u64_or_nat b (gap (n + 1)) hb (by omega)]
  rw [nat_join (64 - n) b (gap (n + 1)) (lowB_iff.1 hi) (by show gap (n + 1) < gap n; omega)]

theorem child_zero (n b : Nat) (w : World) (hn : n < 64) (hb : b < 18446744073709551616) (hi : lowB n b = true) :
    Calls Try.prog 28 #[labv n b, .int .i64 0] w fun e w' => e = .returned (labr ((n : Int) + 1) b 0) ∧ Below w.heap.size w w' := by
  have HI : Gives Try.prog 26 #[.agg (labc n b)] (.bool true) := fun w => hi ▸ isL_yes n b w (by omega) hb
  have hne : ((n : Int) == 64) = false := by simp; omega
  have hor0 := Lib.hid (or_child0 b hb)
  clear hi hb
  rw [labv_eq]
  go_enter Try.func28, Try.ntmps28
  go_upto_region 1 with (fail)
  have K := Lib.hid (Mem2.made w n b 0 0)
  rw [lab00]
  generalize (w.alloc _).alloc _ = W at *
  go_upto_region 3 with (first | (refine p_loadL rfl _ rfl _ rfl n b K.out.a ?_) | (go_at_call 26; (with_reducible refine (HI.calls _).mono ?_); rintro e w' ⟨rfl, hb⟩))
  replace K := Lib.hid (K.out.grown hb)
  clear hb
  have c0 := lab0 K.out.a
  have c1 := lab1 K.out.a
  go_wp2_with (first | (refine p_storeL rfl _ _ rfl _ rfl ((n : Int) + 1) b (show Value.agg #[.int .i64 ((n : Int) + 1), .int .u64 (bits .or .u64 (b : Int) 0)] = .agg (labc ((n : Int) + 1) b) by rw [hor0.out]; rfl) 0 0 K.out.z ?_))
  exact bodyPost_ret (results_lab Try.results28 _ _ _ _ _ 0 rfl rfl (K.out.put _ _).z) rfl ⟨rfl, (K.out.put _ _).below⟩

theorem child_one (n b : Nat) (w : World) (hn : n < 64) (hb : b < 18446744073709551616) (hi : lowB n b = true) :
    Calls Try.prog 28 #[labv n b, .int .i64 1] w fun e w' => e = .returned (labr ((n : Int) + 1) (b + gap (n + 1)) 0) ∧ Below w.heap.size w w' := by
  have HI : Gives Try.prog 26 #[.agg (labc n b)] (.bool true) := fun w => hi ▸ isL_yes n b w (by omega) hb
  have hne : ((n : Int) == 64) = false := by simp; omega
  have hor1 := Lib.hid (or_child1 n b hn hb hi)
  clear hi hb
  rw [labv_eq]
  go_enter Try.func28, Try.ntmps28
  go_upto_region 1 with (fail)
  have K := Lib.hid (Mem2.made w n b 0 0)
  rw [lab00]
  generalize (w.alloc _).alloc _ = W at *
  go_upto_region 3 with (first | (refine p_loadL rfl _ rfl _ rfl n b K.out.a ?_) | (go_at_call 26; (with_reducible refine (HI.calls _).mono ?_); rintro e w' ⟨rfl, hb⟩))
  replace K := Lib.hid (K.out.grown hb)
  clear hb
  have c0 := lab0 K.out.a
  have c1 := lab1 K.out.a
  go_wp2_with (first | (refine p_storeL rfl _ _ rfl _ rfl ((n : Int) + 1) (b + gap (n + 1)) (show Value.agg #[.int .i64 ((n : Int) + 1), .int .u64 (bits .or .u64 (b : Int) (IntKind.u64.wrap (2 ^ (63 - n))))] = .agg (labc ((n : Int) + 1) (b + gap (n + 1))) by rw [hor1.out]; rfl) 0 0 K.out.z ?_))
  exact bodyPost_ret (results_lab Try.results28 _ _ _ _ _ 0 rfl rfl (K.out.put _ _).z) rfl ⟨rfl, (K.out.put _ _).below⟩

end Go.Proofs.Ytdhcilnkimmblaa
