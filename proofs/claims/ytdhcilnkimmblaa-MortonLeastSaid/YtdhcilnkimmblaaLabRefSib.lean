/- The document's calls on labels: Child, Parent where there is none, Sibling. -/
import Derived.Test.YtdhcilnkimmblaaLabRefKin
namespace Go.Proofs.Ytdhcilnkimmblaa
open Go.RowKit Go.Sort

theorem refChild_no (n : Int) (b : Nat) (bit : Int) (w : World) (hb : b < 18446744073709551616) (hi : isB n b = false) :
    Calls Try.prog 40 #[labv n b, .int .i64 bit] w fun e w' => e = .returned (labr 0 0 1) ∧ Below w.heap.size w w' := by
  have HI : Gives Try.prog 41 #[.agg (labc n b)] (.bool false) := fun w => hi ▸ refIs_any n b w hb
  clear hi hb
  rw [labv_eq]
  go_enter Try.func40, Try.ntmps40
  go_upto_region 1 with (fail)
  have K := Lib.hid (Mem2.made w n b 0 0)
  rw [lab00]
  generalize (w.alloc _).alloc _ = W at *
  go_wp2_with (first | (refine p_loadL rfl _ rfl _ rfl n b K.out.a ?_) | (go_at_call 41; (with_reducible refine (HI.calls _).mono ?_); rintro e w' ⟨rfl, hb⟩; have K1 := Lib.hid (K.out.grown hb)) | (refine p_storeL rfl _ _ rfl _ rfl 0 0 rfl 0 0 K1.out.z ?_))
  exact bodyPost_ret (results_lab Try.results40 _ _ _ 0 0 1 rfl rfl (K1.out.put 0 0).z) rfl ⟨rfl, (K1.out.put 0 0).below⟩
theorem refChild_bit (n : Nat) (b : Nat) (bit : Int) (w : World) (hn : n ≤ 64) (hb : b < 18446744073709551616) (hi : lowB n b = true) (h0 : bit < 0 ∨ (¬ bit < 0 ∧ 1 < bit)) :
    Calls Try.prog 40 #[labv n b, .int .i64 bit] w fun e w' => e = .returned (labr 0 0 1) ∧ Below w.heap.size w w' := by
  have HI : Gives Try.prog 41 #[.agg (labc n b)] (.bool true) := fun w => hi ▸ refIs_yes n b w hn hb
  clear hi hb
  rw [labv_eq]
  rcases h0 with h | ⟨h, h'⟩
  all_goals
    go_enter Try.func40, Try.ntmps40
    go_upto_region 1 with (fail)
    have K := Lib.hid (Mem2.made w n b 0 0)
    rw [lab00]
    generalize (w.alloc _).alloc _ = W at *
    go_wp2_with (first | (refine p_loadL rfl _ rfl _ rfl n b K.out.a ?_) | (go_at_call 41; (with_reducible refine (HI.calls _).mono ?_); rintro e w' ⟨rfl, hb⟩; have K1 := Lib.hid (K.out.grown hb)) | (refine p_storeL rfl _ _ rfl _ rfl 0 0 rfl 0 0 K1.out.z ?_))
    exact bodyPost_ret (results_lab Try.results40 _ _ _ 0 0 1 rfl rfl (K1.out.put 0 0).z) rfl ⟨rfl, (K1.out.put 0 0).below⟩
theorem refChild_full (b : Nat) (bit : Nat) (w : World) (hb : b < 18446744073709551616) (hi : lowB 64 b = true) (hbit : bit < 2) :
    Calls Try.prog 40 #[labv 64 b, .int .i64 (bit : Int)] w fun e w' => e = .returned (labr 0 0 5) ∧ Below w.heap.size w w' := by
  have HI : Gives Try.prog 41 #[.agg (labc 64 b)] (.bool true) := fun w => hi ▸ refIs_yes 64 b w (by omega) hb
  clear hi hb
  rw [labv_eq]
  go_enter Try.func40, Try.ntmps40
  go_upto_region 1 with (fail)
  have K := Lib.hid (Mem2.made w 64 b 0 0)
  rw [lab00]
  generalize (w.alloc _).alloc _ = W at *
  go_upto_region 3 with (first | (refine p_loadL rfl _ rfl _ rfl 64 b K.out.a ?_) | (go_at_call 41; (with_reducible refine (HI.calls _).mono ?_); rintro e w' ⟨rfl, hb⟩))
  replace K := Lib.hid (K.out.grown hb)
  clear hb
  have c0 := lab0 K.out.a
  go_wp2_with (first | (refine p_storeL rfl _ _ rfl _ rfl 0 0 rfl 0 0 K.out.z ?_))
  exact bodyPost_ret (results_lab Try.results40 _ _ _ 0 0 5 rfl rfl (K.out.put 0 0).z) rfl ⟨rfl, (K.out.put 0 0).below⟩
theorem refOf_child (n b bit : Nat) (hn : n < 64) (hb : b < 18446744073709551616) (hi : lowB n b = true) (hbit : bit < 2) (x : ByteArray) (hx : x = txt [48 + bit]) : Gives Try.prog 45 #[.string (txt (bitsN n b) ++ x)] (.agg (labc ((n : Int) + 1) (chB n b bit))) := by
  intro w
  have h := refOf_any (bitsN n b ++ [48 + bit]) w (by simp [bitsN_length]; omega) ((Bin.bits n b).append (by intro y hy; simp at hy; omega))
  rw [full_snoc _ _ (by rw [bitsN_length]; exact hn) (by omega), full_bits n b (by omega) hb, List.length_append, bitsN_length, List.length_singleton, cutN_self n b (lowB_iff.1 hi), show 48 + bit - 48 = bit by omega, txt_append, ← hx] at h
  exact h
theorem refChild_bits (n b bit : Nat) (hn : n < 64) (hb : b < 18446744073709551616) (hi : lowB n b = true) (hbit : bit < 2) : Gives Try.prog 40 #[labv n b, .int .i64 (bit : Int)] (labr ((n : Int) + 1) (chB n b bit) 0) := by
  intro w
  have HI : Gives Try.prog 41 #[.agg (labc n b)] (.bool true) := fun w => hi ▸ refIs_yes n b w (by omega) hb
  have HL : Gives Try.prog 44 #[.agg (labc n b)] (.string (txt (bitsN n b))) := fun w => refBitsL_any n b w (by omega) hb
  have hne : ((n : Int) == 64) = false := by simp; omega
  have hz : (txt (bitsN n b)).size ≤ 64 := by rw [txt_size, bitsN_length]; omega
  rw [labv_eq]
  rcases (by omega : bit = 0 ∨ bit = 1) with rfl | rfl
  · have HO := refOf_child n b 0 hn hb hi hbit ⟨#[48]⟩ rfl
    clear hi hb
    generalize chB n b 0 = c at *
    generalize txt (bitsN n b) = X at *
    go_enter Try.func40, Try.ntmps40
    go_upto_region 1 with (fail)
    have K := Lib.hid (Mem2.made w n b 0 0)
    rw [lab00]
    generalize (w.alloc _).alloc _ = W at *
    go_upto_region 3 with (first | (refine p_loadL rfl _ rfl _ rfl n b K.out.a ?_) | (go_at_call 41; (with_reducible refine (HI.calls _).mono ?_); rintro e w' ⟨rfl, hb⟩))
    replace K := Lib.hid (K.out.grown hb)
    clear hb
    have c0 := lab0 K.out.a
    go_wp2_with (first | (refine p_loadL rfl _ rfl _ rfl n b K.out.a ?_) | (go_at_call 44; (with_reducible refine (HL.calls _).mono ?_); rintro e w2 ⟨rfl, hb2⟩; have K2 := Lib.hid (K.out.grown hb2)) | (go_at_call 45; (with_reducible refine (HO.calls _).mono ?_); rintro e w3 ⟨rfl, hb3⟩; have K3 := Lib.hid (K2.out.grown hb3)) | (refine p_storeL rfl _ _ rfl _ rfl ((n : Int) + 1) c rfl 0 0 K3.out.z ?_))
    exact bodyPost_ret (results_lab Try.results40 _ _ _ _ _ 0 rfl rfl (K3.out.put _ _).z) rfl ⟨rfl, (K3.out.put _ _).below⟩
  · have HO := refOf_child n b 1 hn hb hi hbit ⟨#[49]⟩ rfl
    clear hi hb
    generalize chB n b 1 = c at *
    generalize txt (bitsN n b) = X at *
    go_enter Try.func40, Try.ntmps40
    go_upto_region 1 with (fail)
    have K := Lib.hid (Mem2.made w n b 0 0)
    rw [lab00]
    generalize (w.alloc _).alloc _ = W at *
    go_upto_region 3 with (first | (refine p_loadL rfl _ rfl _ rfl n b K.out.a ?_) | (go_at_call 41; (with_reducible refine (HI.calls _).mono ?_); rintro e w' ⟨rfl, hb⟩))
    replace K := Lib.hid (K.out.grown hb)
    clear hb
    have c0 := lab0 K.out.a
    go_wp2_with (first | (refine p_loadL rfl _ rfl _ rfl n b K.out.a ?_) | (go_at_call 44; (with_reducible refine (HL.calls _).mono ?_); rintro e w2 ⟨rfl, hb2⟩; have K2 := Lib.hid (K.out.grown hb2)) | (go_at_call 45; (with_reducible refine (HO.calls _).mono ?_); rintro e w3 ⟨rfl, hb3⟩; have K3 := Lib.hid (K2.out.grown hb3)) | (refine p_storeL rfl _ _ rfl _ rfl ((n : Int) + 1) c rfl 0 0 K3.out.z ?_))
    exact bodyPost_ret (results_lab Try.results40 _ _ _ _ _ 0 rfl rfl (K3.out.put _ _).z) rfl ⟨rfl, (K3.out.put _ _).below⟩

theorem own_bit (n b : Nat) (hn : n < 64) (hb : b < 18446744073709551616) (hi : lowB (n + 1) b = true) : b = chB n (cutN n b) (bitAt b n) := by
  have h1 := full_bits (n + 1) b (by omega) hb
  rw [cutN_self (n + 1) b (lowB_iff.1 hi), ← bitsN_snoc, full_snoc _ _ (by rw [bitsN_length]; exact hn) (by have := bitAt_lt b n; omega), full_bits n b (by omega) hb, bitsN_length, show 48 + bitAt b n - 48 = bitAt b n by omega] at h1
  exact h1.symm
end Go.Proofs.Ytdhcilnkimmblaa
