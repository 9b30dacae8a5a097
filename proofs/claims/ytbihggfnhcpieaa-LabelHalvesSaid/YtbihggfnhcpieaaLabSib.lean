/- The program's call Sibling. -/
import Derived.Test.YtbihggfnhcpieaaLabSpan
import Derived.Test.YtbihggfnhcpieaaTail
import Derived.StillTailTactics
namespace Go.Proofs.Ytbihggfnhcpieaa
open Go.RowKit Go.Sort

theorem Mem2.alloc {w wr : World} {n : Int} {b : Nat} {m : Int} {c : Nat} (k : Mem2 w wr n b m c) (o : Obj) : Mem2 w (wr.alloc o) n b m c :=
  ⟨k.below.alloc k.below.size _, k.a.alloc _, k.z.alloc _⟩
theorem Mem2.drew {w wr : World} {n : Int} {b : Nat} {m : Int} {c : Nat} (k : Mem2 w wr n b m c) : Mem2 w wr.drew n b m c := ⟨k.below.drew, k.a, k.z⟩

theorem sibling_err (n : Int) (b : Nat) (c : Int) (w : World) (hp : Gives Try.prog 11 #[.agg (labc n b)] (labr 0 0 c)) (hc : (c != 0) = true) :
    Calls Try.prog 13 #[labv n b] w fun e w' => e = .returned (labr 0 0 c) ∧ Below w.heap.size w w' := by
  rw [labr_eq] at hp
  rw [labv_eq]
  go_enter Try.func13, Try.ntmps13
  go_upto_region 1 with (fail)
  have K := Lib.hid (Mem2.made w n b 0 0)
  rw [lab00]
  generalize (w.alloc _).alloc _ = W at *
  go_upto_region 2 with (first | (refine p_loadL rfl _ rfl _ rfl n b K.out.a ?_) | (go_at_call 11; (with_reducible refine (hp.calls _).mono ?_); rintro e w' ⟨rfl, hb⟩) | (refine wpList_store_newrow rfl 24 _ _ rfl (labc 0 0) rfl rfl infoLab (lab_all _ _) rfl ?_))
  replace K := Lib.hid ((K.out.grown hb).alloc (.cells (labc 0 0) 24))
  clear hb
  generalize w'.alloc _ = W1 at *
  go_wp2_with (first | (refine p_storeL rfl _ _ rfl _ rfl 0 0 rfl 0 0 K.out.z ?_))
  exact bodyPost_ret (results_lab Try.results13 _ _ _ 0 0 c rfl rfl (K.out.put 0 0).z) rfl ⟨rfl, (K.out.put 0 0).below⟩

theorem child_bits (n c bit : Nat) (hn : n < 64) (hc : c < 18446744073709551616) (hi : lowB n c = true) (hbit : bit < 2) : Gives Try.prog 9 #[labv n c, .int .i64 (bit : Int)] (labr ((n : Int) + 1) (chB n c bit) 0) := by
  intro w
  rcases (by omega : bit = 0 ∨ bit = 1) with rfl | rfl
  · exact child_zero n c w hn hc hi
  · exact child_one n c w hn hc hi
theorem sibling_yes (n b : Nat) (w : World) (hn : n < 64) (hb : b < 18446744073709551616) (hi : lowB (n + 1) b = true) :
    Calls Try.prog 13 #[labv ((n : Int) + 1) b] w fun e w' => e = .returned (labr ((n : Int) + 1) (chB n (cutN n b) (1 - bitAt b n)) 0) ∧ Below w.heap.size w w' := by
  have hp : Gives Try.prog 11 #[.agg (labc ((n : Int) + 1) b)] (.tuple #[.agg (labc n (cutN n b)), .int .i64 0]) := fun w => parent_yes n b w hn hb hi
  have hlow : lowB n (cutN n b) = true := lowB_iff.2 (cutN_mod n b)
  have hcl : cutN n b < 18446744073709551616 := Nat.lt_of_le_of_lt (cutN_le n b) hb
  have hx := bitAt_lt b n
  have HC : Gives Try.prog 9 #[.agg #[.int .i64 n, .int .u64 ((cutN n b : Nat) : Int)], .int .i64 (1 - (bitAt b n : Int))] (.tuple #[.agg (labc ((n : Int) + 1) (chB n (cutN n b) (1 - bitAt b n))), .int .i64 0]) := by
    have h := child_bits n (cutN n b) (1 - bitAt b n) hn hcl hlow (by omega)
    rwa [show ((1 - bitAt b n : Nat) : Int) = 1 - (bitAt b n : Int) by omega] at h
  have HB := Lib.hid (fun g w => bitOf_any ((n : Int) + 1) b n g w hb hn)
  generalize chB n (cutN n b) (1 - bitAt b n) = r at *
  generalize cutN n b = c at *
  clear hcl hlow hb hi
  rw [labv_eq]
  go_enter Try.func13, Try.ntmps13
  go_upto_region 1 with (fail)
  have K := Lib.hid (Mem2.made w ((n : Int) + 1) b 0 0)
  rw [lab00]
  generalize (w.alloc _).alloc _ = W at *
  go_upto_region 2 with (first | (refine p_loadL rfl _ rfl _ rfl ((n : Int) + 1) b K.out.a ?_) | (go_at_call 11; (with_reducible refine (hp.calls _).mono ?_); rintro e w1 ⟨rfl, hb⟩) | (refine wpList_store_newrow rfl 24 _ _ rfl (labc n c) rfl rfl infoLab (lab_all _ _) rfl ?_))
  replace K := Lib.hid ((K.out.grown hb).alloc (.cells (labc n c) 24))
  have A := Lib.hid (Blk.new w1 (labc n c) 24)
  clear hb hp
  generalize w1.heap.size = g at *
  generalize w1.alloc _ = W1 at *
  clear w1 W
  go_upto_region 5 with (first | (refine p_loadL rfl _ rfl _ rfl ((n : Int) + 1) b K.out.a ?_) | (go_at_call 37; (with_reducible refine (bitsOf_any _ _ _).mono ?_); rintro e w1 ⟨rfl, rfl⟩))
  replace K := Lib.hid (K.out.alloc (.cells (labc ((n : Int) + 1) b) 24))
  replace A := Lib.hid (A.out.alloc (.cells (labc ((n : Int) + 1) b) 24))
  have D := Lib.hid (Blk.new W1 (labc ((n : Int) + 1) b) 24)
  generalize W1.heap.size = q at *
  generalize W1.alloc _ = W2 at *
  clear W1
  have c0 := lab0 A.out
  have c1 := lab1 A.out
  have HB2 : Hid (Calls Try.prog 48 #[.int .i64 (n : Int), .pointer (some ⟨q, 0, none⟩)] W2.drew fun e w' => e = .returned (.int .i64 ((bitAt b n : Nat) : Int)) ∧ w' = W2.drew) :=
    (HB.out q W2.drew D.out).mono fun _ _ ⟨a, b⟩ => ⟨a, b.symm⟩
  generalize bitAt b n = x at *
  have g1 : IntKind.i64.wrap (1 - (x : Int)) = 1 - (x : Int) := IntWalk.i64_in _ (by omega)
  refine wp_region_tail0 6 (by kernel_rfl) (by kernel_rfl) (fun _ _ _ _ _ h => h) ?_
  simp only [List.take_succ_cons, List.take_zero, List.drop_succ_cons, List.drop_zero]
  repeat still_step
  still_call HB2.out
  repeat still_step
  refine wpStill_nil ?_
  replace K := Lib.hid K.out.drew
  clear c0 c1 g1 A D HB HB2
  generalize W2.drew = W3 at *
  go_wp2_with (first | (go_at_call 9; (with_reducible refine (HC.calls _).mono ?_); rintro e w3 ⟨rfl, hb3⟩; have K3 := Lib.hid (K.out.grown hb3); clear hb3) | (refine p_storeL rfl _ _ rfl _ rfl ((n : Int) + 1) r rfl 0 0 K3.out.z ?_))
  exact bodyPost_ret (results_lab Try.results13 _ _ _ _ _ 0 rfl rfl (K3.out.put _ _).z) rfl ⟨rfl, (K3.out.put _ _).below⟩
end Go.Proofs.Ytbihggfnhcpieaa
