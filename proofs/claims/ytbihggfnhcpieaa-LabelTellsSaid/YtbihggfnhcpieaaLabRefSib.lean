/- The document's calls on labels: Child, Parent where there is none, Sibling. -/
import Derived.Test.YtbihggfnhcpieaaLabRefKin
namespace Go.Proofs.Ytbihggfnhcpieaa
open Go.RowKit Go.Sort

theorem refChild_no (n : Int) (b : Nat) (bit : Int) (w : World) (hb : b < 18446744073709551616) (hi : isB n b = false) :
    Calls Try.prog 10 #[labv n b, .int .i64 bit] w fun e w' => e = .returned (labr 0 0 1) ∧ Below w.heap.size w w' := by
  have HI : Gives Try.prog 25 #[.agg (labc n b)] (.bool false) := fun w => hi ▸ refIs_any n b w hb
  clear hi hb
  rw [labv_eq]
  go_enter Try.func10, Try.ntmps10
  go_upto_region 1 with (fail)
  have K := Lib.hid (Mem2.made w n b 0 0)
  rw [lab00]
  generalize (w.alloc _).alloc _ = W at *
  go_wp2_with (first | (refine p_loadL rfl _ rfl _ rfl n b K.out.a ?_) | (go_at_call 25; (with_reducible refine (HI.calls _).mono ?_); rintro e w' ⟨rfl, hb⟩; have K1 := Lib.hid (K.out.grown hb)) | (refine p_storeL rfl _ _ rfl _ rfl 0 0 rfl 0 0 K1.out.z ?_))
  exact bodyPost_ret (results_lab Try.results10 _ _ _ 0 0 1 rfl rfl (K1.out.put 0 0).z) rfl ⟨rfl, (K1.out.put 0 0).below⟩
theorem refChild_bit (n : Nat) (b : Nat) (bit : Int) (w : World) (hn : n ≤ 64) (hb : b < 18446744073709551616) (hi : lowB n b = true) (h0 : bit < 0 ∨ (¬ bit < 0 ∧ 1 < bit)) :
    Calls Try.prog 10 #[labv n b, .int .i64 bit] w fun e w' => e = .returned (labr 0 0 1) ∧ Below w.heap.size w w' := by
  have HI : Gives Try.prog 25 #[.agg (labc n b)] (.bool true) := fun w => hi ▸ refIs_yes n b w hn hb
  clear hi hb
  rw [labv_eq]
  rcases h0 with h | ⟨h, h'⟩
  all_goals
    go_enter Try.func10, Try.ntmps10
    go_upto_region 1 with (fail)
    have K := Lib.hid (Mem2.made w n b 0 0)
    rw [lab00]
    generalize (w.alloc _).alloc _ = W at *
    go_wp2_with (first | (refine p_loadL rfl _ rfl _ rfl n b K.out.a ?_) | (go_at_call 25; (with_reducible refine (HI.calls _).mono ?_); rintro e w' ⟨rfl, hb⟩; have K1 := Lib.hid (K.out.grown hb)) | (refine p_storeL rfl _ _ rfl _ rfl 0 0 rfl 0 0 K1.out.z ?_))
    exact bodyPost_ret (results_lab Try.results10 _ _ _ 0 0 1 rfl rfl (K1.out.put 0 0).z) rfl ⟨rfl, (K1.out.put 0 0).below⟩
theorem refChild_full (b : Nat) (bit : Nat) (w : World) (hb : b < 18446744073709551616) (hi : lowB 64 b = true) (hbit : bit < 2) :
    Calls Try.prog 10 #[labv 64 b, .int .i64 (bit : Int)] w fun e w' => e = .returned (labr 0 0 5) ∧ Below w.heap.size w w' := by
  have HI : Gives Try.prog 25 #[.agg (labc 64 b)] (.bool true) := fun w => hi ▸ refIs_yes 64 b w (by omega) hb
  clear hi hb
  rw [labv_eq]
  go_enter Try.func10, Try.ntmps10
  go_upto_region 1 with (fail)
  have K := Lib.hid (Mem2.made w 64 b 0 0)
  rw [lab00]
  generalize (w.alloc _).alloc _ = W at *
  go_upto_region 3 with (first | (refine p_loadL rfl _ rfl _ rfl 64 b K.out.a ?_) | (go_at_call 25; (with_reducible refine (HI.calls _).mono ?_); rintro e w' ⟨rfl, hb⟩))
  replace K := Lib.hid (K.out.grown hb)
  clear hb
  have c0 := lab0 K.out.a
  go_wp2_with (first | (refine p_storeL rfl _ _ rfl _ rfl 0 0 rfl 0 0 K.out.z ?_))
  exact bodyPost_ret (results_lab Try.results10 _ _ _ 0 0 5 rfl rfl (K.out.put 0 0).z) rfl ⟨rfl, (K.out.put 0 0).below⟩
theorem refOf_child (n b bit : Nat) (hn : n < 64) (hb : b < 18446744073709551616) (hi : lowB n b = true) (hbit : bit < 2) (x : ByteArray) (hx : x = txt [48 + bit]) : Gives Try.prog 35 #[.string (txt (bitsN n b) ++ x)] (.agg (labc ((n : Int) + 1) (chB n b bit))) := by
  intro w
  have h := refOf_any (bitsN n b ++ [48 + bit]) w (by simp [bitsN_length]; omega) ((Bin.bits n b).append (by intro y hy; simp at hy; omega))
  rw [full_snoc _ _ (by rw [bitsN_length]; exact hn) (by omega), full_bits n b (by omega) hb, List.length_append, bitsN_length, List.length_singleton, cutN_self n b (lowB_iff.1 hi), show 48 + bit - 48 = bit by omega, txt_append, ← hx] at h
  exact h
theorem refChild_bits (n b bit : Nat) (hn : n < 64) (hb : b < 18446744073709551616) (hi : lowB n b = true) (hbit : bit < 2) : Gives Try.prog 10 #[labv n b, .int .i64 (bit : Int)] (labr ((n : Int) + 1) (chB n b bit) 0) := by
  intro w
  have HI : Gives Try.prog 25 #[.agg (labc n b)] (.bool true) := fun w => hi ▸ refIs_yes n b w (by omega) hb
  have HL : Gives Try.prog 36 #[.agg (labc n b)] (.string (txt (bitsN n b))) := fun w => refBitsL_any n b w (by omega) hb
  have hne : ((n : Int) == 64) = false := by simp; omega
  have hz : (txt (bitsN n b)).size ≤ 64 := by rw [txt_size, bitsN_length]; omega
  rw [labv_eq]
  rcases (by omega : bit = 0 ∨ bit = 1) with rfl | rfl
  · have HO := refOf_child n b 0 hn hb hi hbit ⟨#[48]⟩ rfl
    clear hi hb
    generalize chB n b 0 = c at *
    generalize txt (bitsN n b) = X at *
    go_enter Try.func10, Try.ntmps10
    go_upto_region 1 with (fail)
    have K := Lib.hid (Mem2.made w n b 0 0)
    rw [lab00]
    generalize (w.alloc _).alloc _ = W at *
    go_upto_region 3 with (first | (refine p_loadL rfl _ rfl _ rfl n b K.out.a ?_) | (go_at_call 25; (with_reducible refine (HI.calls _).mono ?_); rintro e w' ⟨rfl, hb⟩))
    replace K := Lib.hid (K.out.grown hb)
    clear hb
    have c0 := lab0 K.out.a
    go_wp2_with (first | (refine p_loadL rfl _ rfl _ rfl n b K.out.a ?_) | (go_at_call 36; (with_reducible refine (HL.calls _).mono ?_); rintro e w2 ⟨rfl, hb2⟩; have K2 := Lib.hid (K.out.grown hb2)) | (go_at_call 35; (with_reducible refine (HO.calls _).mono ?_); rintro e w3 ⟨rfl, hb3⟩; have K3 := Lib.hid (K2.out.grown hb3)) | (refine p_storeL rfl _ _ rfl _ rfl ((n : Int) + 1) c rfl 0 0 K3.out.z ?_))
    exact bodyPost_ret (results_lab Try.results10 _ _ _ _ _ 0 rfl rfl (K3.out.put _ _).z) rfl ⟨rfl, (K3.out.put _ _).below⟩
  · have HO := refOf_child n b 1 hn hb hi hbit ⟨#[49]⟩ rfl
    clear hi hb
    generalize chB n b 1 = c at *
    generalize txt (bitsN n b) = X at *
    go_enter Try.func10, Try.ntmps10
    go_upto_region 1 with (fail)
    have K := Lib.hid (Mem2.made w n b 0 0)
    rw [lab00]
    generalize (w.alloc _).alloc _ = W at *
    go_upto_region 3 with (first | (refine p_loadL rfl _ rfl _ rfl n b K.out.a ?_) | (go_at_call 25; (with_reducible refine (HI.calls _).mono ?_); rintro e w' ⟨rfl, hb⟩))
    replace K := Lib.hid (K.out.grown hb)
    clear hb
    have c0 := lab0 K.out.a
    go_wp2_with (first | (refine p_loadL rfl _ rfl _ rfl n b K.out.a ?_) | (go_at_call 36; (with_reducible refine (HL.calls _).mono ?_); rintro e w2 ⟨rfl, hb2⟩; have K2 := Lib.hid (K.out.grown hb2)) | (go_at_call 35; (with_reducible refine (HO.calls _).mono ?_); rintro e w3 ⟨rfl, hb3⟩; have K3 := Lib.hid (K2.out.grown hb3)) | (refine p_storeL rfl _ _ rfl _ rfl ((n : Int) + 1) c rfl 0 0 K3.out.z ?_))
    exact bodyPost_ret (results_lab Try.results10 _ _ _ _ _ 0 rfl rfl (K3.out.put _ _).z) rfl ⟨rfl, (K3.out.put _ _).below⟩

theorem refParent_no (n : Int) (b : Nat) (w : World) (hb : b < 18446744073709551616) (hi : isB n b = false) :
    Calls Try.prog 12 #[labv n b] w fun e w' => e = .returned (labr 0 0 1) ∧ Below w.heap.size w w' := by
  have HI : Gives Try.prog 25 #[.agg (labc n b)] (.bool false) := fun w => hi ▸ refIs_any n b w hb
  clear hi hb
  rw [labv_eq]
  go_enter Try.func12, Try.ntmps12
  go_upto_region 1 with (fail)
  have K := Lib.hid (Mem2.made w n b 0 0)
  rw [lab00]
  generalize (w.alloc _).alloc _ = W at *
  go_wp2_with (first | (refine p_loadL rfl _ rfl _ rfl n b K.out.a ?_) | (go_at_call 25; (with_reducible refine (HI.calls _).mono ?_); rintro e w' ⟨rfl, hb⟩; have K1 := Lib.hid (K.out.grown hb)) | (refine p_storeL rfl _ _ rfl _ rfl 0 0 rfl 0 0 K1.out.z ?_))
  exact bodyPost_ret (results_lab Try.results12 _ _ _ 0 0 1 rfl rfl (K1.out.put 0 0).z) rfl ⟨rfl, (K1.out.put 0 0).below⟩
theorem refParent_root (b : Nat) (w : World) (hb : b < 18446744073709551616) (hi : lowB 0 b = true) :
    Calls Try.prog 12 #[labv 0 b] w fun e w' => e = .returned (labr 0 0 7) ∧ Below w.heap.size w w' := by
  have HI : Gives Try.prog 25 #[.agg (labc 0 b)] (.bool true) := fun w => hi ▸ refIs_yes 0 b w (by omega) hb
  clear hi hb
  rw [labv_eq]
  go_enter Try.func12, Try.ntmps12
  go_upto_region 1 with (fail)
  have K := Lib.hid (Mem2.made w 0 b 0 0)
  rw [lab00]
  generalize (w.alloc _).alloc _ = W at *
  go_upto_region 3 with (first | (refine p_loadL rfl _ rfl _ rfl 0 b K.out.a ?_) | (go_at_call 25; (with_reducible refine (HI.calls _).mono ?_); rintro e w' ⟨rfl, hb⟩))
  replace K := Lib.hid (K.out.grown hb)
  clear hb
  have c0 := lab0 K.out.a
  go_wp2_with (first | (refine p_storeL rfl _ _ rfl _ rfl 0 0 rfl 0 0 K.out.z ?_))
  exact bodyPost_ret (results_lab Try.results12 _ _ _ 0 0 7 rfl rfl (K.out.put 0 0).z) rfl ⟨rfl, (K.out.put 0 0).below⟩

theorem refSibling_err (n : Int) (b : Nat) (c : Int) (w : World) (hp : Gives Try.prog 12 #[.agg (labc n b)] (labr 0 0 c)) (hc : (c != 0) = true) :
    Calls Try.prog 14 #[labv n b] w fun e w' => e = .returned (labr 0 0 c) ∧ Below w.heap.size w w' := by
  rw [labr_eq] at hp
  rw [labv_eq]
  go_enter Try.func14, Try.ntmps14
  go_upto_region 1 with (fail)
  have K := Lib.hid (Mem2.made w n b 0 0)
  rw [lab00]
  generalize (w.alloc _).alloc _ = W at *
  go_upto_region 2 with (first | (refine p_loadL rfl _ rfl _ rfl n b K.out.a ?_) | (go_at_call 12; (with_reducible refine (hp.calls _).mono ?_); rintro e w' ⟨rfl, hb⟩) | (refine wpList_store_newrow rfl 24 _ _ rfl (labc 0 0) rfl rfl infoLab (lab_all _ _) rfl ?_))
  replace K := Lib.hid ((K.out.grown hb).alloc (.cells (labc 0 0) 24))
  clear hb
  generalize w'.alloc _ = W1 at *
  go_wp2_with (first | (refine p_storeL rfl _ _ rfl _ rfl 0 0 rfl 0 0 K.out.z ?_))
  exact bodyPost_ret (results_lab Try.results14 _ _ _ 0 0 c rfl rfl (K.out.put 0 0).z) rfl ⟨rfl, (K.out.put 0 0).below⟩

theorem own_bit (n b : Nat) (hn : n < 64) (hb : b < 18446744073709551616) (hi : lowB (n + 1) b = true) : b = chB n (cutN n b) (bitAt b n) := by
  have h1 := full_bits (n + 1) b (by omega) hb
  rw [cutN_self (n + 1) b (lowB_iff.1 hi), ← bitsN_snoc, full_snoc _ _ (by rw [bitsN_length]; exact hn) (by have := bitAt_lt b n; omega), full_bits n b (by omega) hb, bitsN_length, show 48 + bitAt b n - 48 = bitAt b n by omega] at h1
  exact h1.symm
set_option maxHeartbeats 1000000 in
theorem refSibling_yes (n b : Nat) (w : World) (hn : n < 64) (hb : b < 18446744073709551616) (hi : lowB (n + 1) b = true) :
    Calls Try.prog 14 #[labv ((n : Int) + 1) b] w fun e w' => e = .returned (labr ((n : Int) + 1) (chB n (cutN n b) (1 - bitAt b n)) 0) ∧ Below w.heap.size w w' := by
  have hp : Gives Try.prog 12 #[.agg (labc ((n : Int) + 1) b)] (.tuple #[.agg (labc n (cutN n b)), .int .i64 0]) := fun w => refParent_yes n b w hn hb hi
  have hlow : lowB n (cutN n b) = true := lowB_iff.2 (cutN_mod n b)
  have hcl : cutN n b < 18446744073709551616 := Nat.lt_of_le_of_lt (cutN_le n b) hb
  have H0 : Gives Try.prog 10 #[.agg (labc n (cutN n b)), .int .i64 0] (.tuple #[.agg (labc ((n : Int) + 1) (chB n (cutN n b) 0)), .int .i64 0]) := refChild_bits n (cutN n b) 0 hn hcl hlow (by omega)
  have H1 : Gives Try.prog 10 #[.agg (labc n (cutN n b)), .int .i64 1] (.tuple #[.agg (labc ((n : Int) + 1) (chB n (cutN n b) 1)), .int .i64 0]) := refChild_bits n (cutN n b) 1 hn hcl hlow (by omega)
  have hx := bitAt_lt b n
  have hown := own_bit n b hn hb hi
  have hg := gap_pos (n + 1)
  have hc1 : chB n (cutN n b) 1 = chB n (cutN n b) 0 + gap (n + 1) := rfl
  generalize cutN n b = c at *
  have HE : Hid (eqL ((n : Int) + 1) b ((n : Int) + 1) (chB n c 0) = decide (bitAt b n = 0)) := by
    unfold Hid eqL
    rw [Bool.eq_iff_iff, decide_eq_true_iff, decide_eq_true_iff]
    rcases (by omega : bitAt b n = 0 ∨ bitAt b n = 1) with h | h <;> rw [h] at hown ⊢
    · simp [← hown]
    · constructor
      · rintro ⟨_, h2⟩; omega
      · intro h2; omega
  have H1' : Hid (∀ x : Nat, (decide (x = 0)) = true → chB n c (1 - x) = chB n c 1) := fun x h => by rw [decide_eq_true_iff] at h; rw [h]
  have H2' : Hid (∀ x : Nat, x < 2 → (decide (x = 0)) = false → chB n c (1 - x) = chB n c 0) := fun x h2 h => by rw [decide_eq_false_iff_not] at h; rw [show 1 - x = 0 by omega]
  have HX := Lib.hid hx
  clear hx hown hcl hlow hc1 hg hb hi
  generalize bitAt b n = x at *
  have h1s := H1'.out x
  have h2s := H2'.out x HX.out
  have HS1 := Lib.hid h1s
  have HS2 := Lib.hid h2s
  clear h1s h2s H1' H2'
  generalize decide (x = 0) = r at *
  generalize chB n c (1 - x) = s at *
  generalize chB n c 0 = y at *
  generalize chB n c 1 = z at *
  rw [labv_eq]
  go_enter Try.func14, Try.ntmps14
  go_upto_region 1 with (fail)
  have K := Lib.hid (Mem2.made w ((n : Int) + 1) b 0 0)
  rw [lab00]
  generalize (w.alloc _).alloc _ = W at *
  go_upto_region 2 with (first | (refine p_loadL rfl _ rfl _ rfl ((n : Int) + 1) b K.out.a ?_) | (go_at_call 12; (with_reducible refine (hp.calls _).mono ?_); rintro e w1 ⟨rfl, hb⟩) | (refine wpList_store_newrow rfl 24 _ _ rfl (labc n c) rfl rfl infoLab (lab_all _ _) rfl ?_))
  replace K := Lib.hid ((K.out.grown hb).alloc (.cells (labc n c) 24))
  have A := Lib.hid (Blk.new w1 (labc n c) 24)
  clear hb hp
  generalize w1.heap.size = g4 at *
  generalize w1.alloc _ = W1 at *
  clear w1 W
  go_upto_region 5 with (first | (refine p_loadL rfl _ rfl _ rfl n c A.out ?_) | (go_at_call 10; (with_reducible refine (H0.calls _).mono ?_); rintro e w2 ⟨rfl, hb⟩) | (refine wpList_store_newrow rfl 24 _ _ rfl (labc ((n : Int) + 1) y) rfl rfl infoLab (lab_all _ _) rfl ?_))
  replace K := Lib.hid ((K.out.grown hb).alloc (.cells (labc ((n : Int) + 1) y) 24))
  replace A := Lib.hid ((A.out.below hb A.out.lt).alloc (.cells (labc ((n : Int) + 1) y) 24))
  have D := Lib.hid (Blk.new w2 (labc ((n : Int) + 1) y) 24)
  clear hb
  generalize w2.heap.size = g6 at *
  generalize w2.alloc _ = W2 at *
  clear w2 W1
  go_upto_region 6 with (first | (refine p_loadL rfl _ rfl _ rfl n c A.out ?_) | (go_at_call 10; (with_reducible refine (H1.calls _).mono ?_); rintro e w3 ⟨rfl, hb⟩) | (refine wpList_store_newrow rfl 24 _ _ rfl (labc ((n : Int) + 1) z) rfl rfl infoLab (lab_all _ _) rfl ?_))
  replace K := Lib.hid ((K.out.grown hb).alloc (.cells (labc ((n : Int) + 1) z) 24))
  replace D := Lib.hid ((D.out.below hb D.out.lt).alloc (.cells (labc ((n : Int) + 1) z) 24))
  have E := Lib.hid (Blk.new w3 (labc ((n : Int) + 1) z) 24)
  clear hb A
  generalize w3.heap.size = g8 at *
  generalize w3.alloc _ = W3 at *
  clear w3 W2
  cases r
  · have hs := HS2.out rfl
    have HS := Lib.hid hs
    clear hs HS1 HS2
    go_wp2_with (first | (refine p_loadL rfl _ rfl _ rfl _ _ (by first | with_reducible exact K.out.a | with_reducible exact D.out) ?_) | (refine p_eqlL rfl _ _ rfl ((n : Int) + 1) b ((n : Int) + 1) y rfl rfl HE.out ?_) | (refine p_storeL rfl _ _ rfl _ rfl ((n : Int) + 1) y rfl 0 0 K.out.z ?_))
    rw [HS.out]
    exact bodyPost_ret (results_lab Try.results14 _ _ _ _ _ 0 rfl rfl (K.out.put _ _).z) rfl ⟨rfl, (K.out.put _ _).below⟩
  · have hs := HS1.out rfl
    have HS := Lib.hid hs
    clear hs HS1 HS2
    go_wp2_with (first | (refine p_loadL rfl _ rfl _ rfl _ _ (by first | with_reducible exact K.out.a | with_reducible exact D.out | with_reducible exact E.out) ?_) | (refine p_eqlL rfl _ _ rfl ((n : Int) + 1) b ((n : Int) + 1) y rfl rfl HE.out ?_) | (refine p_storeL rfl _ _ rfl _ rfl ((n : Int) + 1) z rfl 0 0 K.out.z ?_))
    rw [HS.out]
    exact bodyPost_ret (results_lab Try.results14 _ _ _ _ _ 0 rfl rfl (K.out.put _ _).z) rfl ⟨rfl, (K.out.put _ _).below⟩
end Go.Proofs.Ytbihggfnhcpieaa
