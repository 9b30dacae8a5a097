/- LabelHalves: for every label and key the call returns true: a label's span is that of its children, side by side, and each key that it covers is covered by one of them alone. No condition. -/
import Derived.Test.YtbihggfnhcpieaaLabNamed
import Derived.Test.YtbihggfnhcpieaaLabOpen
import Derived.Test.YtbihggfnhcpieaaOwn
namespace Go.Proofs.Ytbihggfnhcpieaa.LabHalvesLaw
open Go.ChangeShapes Go.WideShapes Go.ChangeAt Go.RowKit Go.Sort
open Go.ChangeMaps (open_string shut_string)
set_option linter.unusedVariables false

set_option maxRecDepth 100000 in
set_option maxHeartbeats 4000000 in
theorem childless (n : Int) (b key : Nat) (c : Int) (x y : Nat) (e : Int) (r : Bool) (w : World) (hc : (c != 0) = true) (ho : r = false ∨ (r = true ∧ ((x : Int) == (y : Int)) = true ∧ (e == 0) = true))
    (h1 : Gives Try.prog 9 #[.agg (labc n b), .int .i64 0] (.tuple #[.agg (labc 0 0), .int .i64 c]))
    (h2 : Gives Try.prog 9 #[.agg (labc n b), .int .i64 1] (.tuple #[.agg (labc 0 0), .int .i64 c]))
    (h3 : Gives Try.prog 15 #[.agg (labc n b)] (.tuple #[.int .u64 (x : Int), .int .u64 (y : Int), .int .i64 e]))
    (h4 : Gives Try.prog 23 #[] (.bool true))
    (h5 : Gives Try.prog 24 #[.agg (labc n b)] (.bool r)) : Calls Try.prog 5 #[labv n b, .int .u64 (key : Int)] w fun e w' => e = .returned (.bool true) ∧ Below w.heap.size w w' := by
  rcases ho with rfl | ⟨rfl, hxy, he⟩
  · rw [labv_eq]
    go_enter Try.func5, Try.ntmps5
    go_upto_region 1 with (fail)
    have L0 := Blk.new w (labc n b) 24
    have B0 := ((Below.refl w.heap.size w).alloc (Nat.le_refl _) (.cells (labc n b) 24))
    generalize World.alloc _ _ = W0 at *
    go_upto_region 2 with (first | (refine p_loadL rfl _ rfl _ rfl _ _ (by first | with_reducible exact L0) ?_) | (go_at_call 9; (with_reducible refine (h1.calls _).mono ?_); rintro e w1 ⟨rfl, hb⟩) | (refine wpList_store_newrow rfl 24 _ _ rfl (labc 0 0) rfl rfl infoLab (lab_all _ _) rfl ?_))
    replace L0 := (L0.below hb L0.lt).alloc (.cells (labc 0 0) 24)
    replace B0 := (B0.trans (hb.mono B0.size)).alloc (Nat.le_trans B0.size hb.size) (.cells (labc 0 0) 24)
    have A1 := Blk.new w1 (labc 0 0) 24
    clear hb
    generalize w1.heap.size = g1 at *
    generalize w1.alloc _ = W1 at *
    go_upto_region 3 with (first | (refine p_loadL rfl _ rfl _ rfl _ _ (by first | with_reducible exact L0 | with_reducible exact A1) ?_) | (go_at_call 9; (with_reducible refine (h2.calls _).mono ?_); rintro e w2 ⟨rfl, hb⟩) | (refine wpList_store_newrow rfl 24 _ _ rfl (labc 0 0) rfl rfl infoLab (lab_all _ _) rfl ?_))
    replace L0 := (L0.below hb L0.lt).alloc (.cells (labc 0 0) 24)
    replace A1 := (A1.below hb A1.lt).alloc (.cells (labc 0 0) 24)
    replace B0 := (B0.trans (hb.mono B0.size)).alloc (Nat.le_trans B0.size hb.size) (.cells (labc 0 0) 24)
    have A2 := Blk.new w2 (labc 0 0) 24
    clear hb
    generalize w2.heap.size = g2 at *
    generalize w2.alloc _ = W2 at *
    go_upto_region 4 with (first | (refine p_loadL rfl _ rfl _ rfl _ _ (by first | with_reducible exact L0 | with_reducible exact A1 | with_reducible exact A2) ?_) | (go_at_call 15; (with_reducible refine (h3.calls _).mono ?_); rintro e w3 ⟨rfl, hb⟩))
    replace L0 := L0.below hb L0.lt
    replace A1 := A1.below hb A1.lt
    replace A2 := A2.below hb A2.lt
    replace B0 := B0.trans (hb.mono B0.size)
    clear hb
    go_wp2_with (first | (go_at_call 23; (with_reducible refine (h4.calls _).mono ?_); rintro e w4 ⟨rfl, hb⟩; replace L0 := L0.below hb L0.lt; replace A1 := A1.below hb A1.lt; replace A2 := A2.below hb A2.lt; replace B0 := B0.trans (hb.mono B0.size); clear hb) | (go_at_call 24; (with_reducible refine (h5.calls _).mono ?_); rintro e w5 ⟨rfl, hb⟩; replace L0 := L0.below hb L0.lt; replace A1 := A1.below hb A1.lt; replace A2 := A2.below hb A2.lt; replace B0 := B0.trans (hb.mono B0.size); clear hb) | (refine p_loadL rfl _ rfl _ rfl _ _ (by first | with_reducible exact L0 | with_reducible exact A1 | with_reducible exact A2) ?_) | (go_guarded; refine o_loadL _ rfl _ rfl _ _ (by first | with_reducible exact L0 | with_reducible exact A1 | with_reducible exact A2) ?_; simp only [Act.put, List.setIfInBounds_toArray, List.set_cons_succ, List.set_cons_zero]))
    go_ret
    exact ⟨rfl, B0⟩
  · rw [labv_eq]
    go_enter Try.func5, Try.ntmps5
    go_upto_region 1 with (fail)
    have L0 := Blk.new w (labc n b) 24
    have B0 := ((Below.refl w.heap.size w).alloc (Nat.le_refl _) (.cells (labc n b) 24))
    generalize World.alloc _ _ = W0 at *
    go_upto_region 2 with (first | (refine p_loadL rfl _ rfl _ rfl _ _ (by first | with_reducible exact L0) ?_) | (go_at_call 9; (with_reducible refine (h1.calls _).mono ?_); rintro e w1 ⟨rfl, hb⟩) | (refine wpList_store_newrow rfl 24 _ _ rfl (labc 0 0) rfl rfl infoLab (lab_all _ _) rfl ?_))
    replace L0 := (L0.below hb L0.lt).alloc (.cells (labc 0 0) 24)
    replace B0 := (B0.trans (hb.mono B0.size)).alloc (Nat.le_trans B0.size hb.size) (.cells (labc 0 0) 24)
    have A1 := Blk.new w1 (labc 0 0) 24
    clear hb
    generalize w1.heap.size = g1 at *
    generalize w1.alloc _ = W1 at *
    go_upto_region 3 with (first | (refine p_loadL rfl _ rfl _ rfl _ _ (by first | with_reducible exact L0 | with_reducible exact A1) ?_) | (go_at_call 9; (with_reducible refine (h2.calls _).mono ?_); rintro e w2 ⟨rfl, hb⟩) | (refine wpList_store_newrow rfl 24 _ _ rfl (labc 0 0) rfl rfl infoLab (lab_all _ _) rfl ?_))
    replace L0 := (L0.below hb L0.lt).alloc (.cells (labc 0 0) 24)
    replace A1 := (A1.below hb A1.lt).alloc (.cells (labc 0 0) 24)
    replace B0 := (B0.trans (hb.mono B0.size)).alloc (Nat.le_trans B0.size hb.size) (.cells (labc 0 0) 24)
    have A2 := Blk.new w2 (labc 0 0) 24
    clear hb
    generalize w2.heap.size = g2 at *
    generalize w2.alloc _ = W2 at *
    go_upto_region 4 with (first | (refine p_loadL rfl _ rfl _ rfl _ _ (by first | with_reducible exact L0 | with_reducible exact A1 | with_reducible exact A2) ?_) | (go_at_call 15; (with_reducible refine (h3.calls _).mono ?_); rintro e w3 ⟨rfl, hb⟩))
    replace L0 := L0.below hb L0.lt
    replace A1 := A1.below hb A1.lt
    replace A2 := A2.below hb A2.lt
    replace B0 := B0.trans (hb.mono B0.size)
    clear hb
    go_wp2_with (first | (go_at_call 23; (with_reducible refine (h4.calls _).mono ?_); rintro e w4 ⟨rfl, hb⟩; replace L0 := L0.below hb L0.lt; replace A1 := A1.below hb A1.lt; replace A2 := A2.below hb A2.lt; replace B0 := B0.trans (hb.mono B0.size); clear hb) | (go_at_call 24; (with_reducible refine (h5.calls _).mono ?_); rintro e w5 ⟨rfl, hb⟩; replace L0 := L0.below hb L0.lt; replace A1 := A1.below hb A1.lt; replace A2 := A2.below hb A2.lt; replace B0 := B0.trans (hb.mono B0.size); clear hb) | (refine p_loadL rfl _ rfl _ rfl _ _ (by first | with_reducible exact L0 | with_reducible exact A1 | with_reducible exact A2) ?_) | (go_guarded; refine o_loadL _ rfl _ rfl _ _ (by first | with_reducible exact L0 | with_reducible exact A1 | with_reducible exact A2) ?_; simp only [Act.put, List.setIfInBounds_toArray, List.set_cons_succ, List.set_cons_zero]))
    go_ret
    exact ⟨rfl, B0⟩

set_option maxRecDepth 100000 in
set_option maxHeartbeats 4000000 in
theorem core (n : Int) (b : Nat) (m : Int) (a v hi y key : Nat) (rl ra rb : Bool) (w : World) (hab : (a : Int) = (b : Int)) (hyv : (y : Int) < (v : Int)) (hr : rl = (ra || rb)) (hx : (ra && rb) = false)
    (h1 : Gives Try.prog 9 #[.agg (labc n b), .int .i64 0] (.tuple #[.agg (labc m a), .int .i64 0]))
    (h2 : Gives Try.prog 9 #[.agg (labc n b), .int .i64 1] (.tuple #[.agg (labc m v), .int .i64 0]))
    (h3 : Gives Try.prog 15 #[.agg (labc n b)] (.tuple #[.int .u64 (b : Int), .int .u64 (hi : Int), .int .i64 0]))
    (h4 : Gives Try.prog 15 #[.agg (labc m a)] (.tuple #[.int .u64 (a : Int), .int .u64 (y : Int), .int .i64 0]))
    (h5 : Gives Try.prog 15 #[.agg (labc m v)] (.tuple #[.int .u64 (v : Int), .int .u64 (hi : Int), .int .i64 0]))
    (h6 : Gives Try.prog 11 #[.agg (labc m v)] (.tuple #[.agg (labc n b), .int .i64 0]))
    (h7 : Gives Try.prog 11 #[.agg (labc m a)] (.tuple #[.agg (labc n b), .int .i64 0]))
    (h8 : Gives Try.prog 13 #[.agg (labc m a)] (.tuple #[.agg (labc m v), .int .i64 0]))
    (h9 : Gives Try.prog 13 #[.agg (labc m v)] (.tuple #[.agg (labc m a), .int .i64 0]))
    (h10 : Gives Try.prog 17 #[.agg (labc m a)] (.tuple #[.int .u64 (v : Int), .bool true]))
    (h11 : Gives Try.prog 30 #[.agg (labc n b), .int .u64 (key : Int)] (.bool rl))
    (h12 : Gives Try.prog 30 #[.agg (labc m a), .int .u64 (key : Int)] (.bool ra))
    (h13 : Gives Try.prog 30 #[.agg (labc m v), .int .u64 (key : Int)] (.bool rb))
    (h14 : Gives Try.prog 23 #[] (.bool true)) : Calls Try.prog 5 #[labv n b, .int .u64 (key : Int)] w fun e w' => e = .returned (.bool true) ∧ Below w.heap.size w w' := by
  have hyv' : decide ((y : Int) < (v : Int)) = true := decide_eq_true hyv
  have HR := Lib.hid hr
  have HX := Lib.hid hx
  obtain rfl : a = b := by omega
  clear hr hx hab
  rw [labv_eq]
  go_enter Try.func5, Try.ntmps5
  go_upto_region 1 with (fail)
  have L0 := Blk.new w (labc n a) 24
  have B0 := ((Below.refl w.heap.size w).alloc (Nat.le_refl _) (.cells (labc n a) 24))
  generalize World.alloc _ _ = W0 at *
  go_upto_region 2 with (first | (refine p_loadL rfl _ rfl _ rfl _ _ (by first | with_reducible exact L0) ?_) | (go_at_call 9; (with_reducible refine (h1.calls _).mono ?_); rintro e w1 ⟨rfl, hb⟩) | (refine wpList_store_newrow rfl 24 _ _ rfl (labc m a) rfl rfl infoLab (lab_all _ _) rfl ?_))
  replace L0 := (L0.below hb L0.lt).alloc (.cells (labc m a) 24)
  replace B0 := (B0.trans (hb.mono B0.size)).alloc (Nat.le_trans B0.size hb.size) (.cells (labc m a) 24)
  have A1 := Blk.new w1 (labc m a) 24
  clear hb
  generalize w1.heap.size = g1 at *
  generalize w1.alloc _ = W1 at *
  go_upto_region 3 with (first | (refine p_loadL rfl _ rfl _ rfl _ _ (by first | with_reducible exact L0 | with_reducible exact A1) ?_) | (go_at_call 9; (with_reducible refine (h2.calls _).mono ?_); rintro e w2 ⟨rfl, hb⟩) | (refine wpList_store_newrow rfl 24 _ _ rfl (labc m v) rfl rfl infoLab (lab_all _ _) rfl ?_))
  replace L0 := (L0.below hb L0.lt).alloc (.cells (labc m v) 24)
  replace A1 := (A1.below hb A1.lt).alloc (.cells (labc m v) 24)
  replace B0 := (B0.trans (hb.mono B0.size)).alloc (Nat.le_trans B0.size hb.size) (.cells (labc m v) 24)
  have A2 := Blk.new w2 (labc m v) 24
  clear hb
  generalize w2.heap.size = g2 at *
  generalize w2.alloc _ = W2 at *
  go_upto_region 4 with (first | (refine p_loadL rfl _ rfl _ rfl _ _ (by first | with_reducible exact L0 | with_reducible exact A1 | with_reducible exact A2) ?_) | (go_at_call 15; (with_reducible refine (h3.calls _).mono ?_); rintro e w3 ⟨rfl, hb⟩))
  replace L0 := L0.below hb L0.lt
  replace A1 := A1.below hb A1.lt
  replace A2 := A2.below hb A2.lt
  replace B0 := B0.trans (hb.mono B0.size)
  clear hb
  go_upto_region 6 with (first | (refine p_loadL rfl _ rfl _ rfl _ _ (by first | with_reducible exact L0 | with_reducible exact A1 | with_reducible exact A2) ?_) | (go_guarded; refine o_loadL _ rfl _ rfl _ _ (by first | with_reducible exact L0 | with_reducible exact A1 | with_reducible exact A2) ?_; simp only [Act.put, List.setIfInBounds_toArray, List.set_cons_succ, List.set_cons_zero]))
  go_upto_region 7 with (first | (refine p_loadL rfl _ rfl _ rfl _ _ (by first | with_reducible exact L0 | with_reducible exact A1 | with_reducible exact A2) ?_) | (go_at_call 15; (with_reducible refine (h4.calls _).mono ?_); rintro e w4 ⟨rfl, hb⟩))
  replace L0 := L0.below hb L0.lt
  replace A1 := A1.below hb A1.lt
  replace A2 := A2.below hb A2.lt
  replace B0 := B0.trans (hb.mono B0.size)
  clear hb
  go_upto_region 8 with (first | (refine p_loadL rfl _ rfl _ rfl _ _ (by first | with_reducible exact L0 | with_reducible exact A1 | with_reducible exact A2) ?_) | (go_at_call 15; (with_reducible refine (h5.calls _).mono ?_); rintro e w5 ⟨rfl, hb⟩))
  replace L0 := L0.below hb L0.lt
  replace A1 := A1.below hb A1.lt
  replace A2 := A2.below hb A2.lt
  replace B0 := B0.trans (hb.mono B0.size)
  clear hb
  go_upto_region 9 with (first | (refine p_loadL rfl _ rfl _ rfl _ _ (by first | with_reducible exact L0 | with_reducible exact A1 | with_reducible exact A2) ?_) | (go_at_call 11; (with_reducible refine (h6.calls _).mono ?_); rintro e w6 ⟨rfl, hb⟩) | (refine wpList_store_newrow rfl 24 _ _ rfl (labc n a) rfl rfl infoLab (lab_all _ _) rfl ?_))
  replace L0 := (L0.below hb L0.lt).alloc (.cells (labc n a) 24)
  replace A1 := (A1.below hb A1.lt).alloc (.cells (labc n a) 24)
  replace A2 := (A2.below hb A2.lt).alloc (.cells (labc n a) 24)
  replace B0 := (B0.trans (hb.mono B0.size)).alloc (Nat.le_trans B0.size hb.size) (.cells (labc n a) 24)
  have A3 := Blk.new w6 (labc n a) 24
  clear hb
  generalize w6.heap.size = g6 at *
  generalize w6.alloc _ = W6 at *
  go_upto_region 10 with (first | (refine p_loadL rfl _ rfl _ rfl _ _ (by first | with_reducible exact L0 | with_reducible exact A1 | with_reducible exact A2 | with_reducible exact A3) ?_) | (go_at_call 11; (with_reducible refine (h7.calls _).mono ?_); rintro e w7 ⟨rfl, hb⟩) | (refine wpList_store_newrow rfl 24 _ _ rfl (labc n a) rfl rfl infoLab (lab_all _ _) rfl ?_))
  replace L0 := (L0.below hb L0.lt).alloc (.cells (labc n a) 24)
  replace A1 := (A1.below hb A1.lt).alloc (.cells (labc n a) 24)
  replace A2 := (A2.below hb A2.lt).alloc (.cells (labc n a) 24)
  replace A3 := (A3.below hb A3.lt).alloc (.cells (labc n a) 24)
  replace B0 := (B0.trans (hb.mono B0.size)).alloc (Nat.le_trans B0.size hb.size) (.cells (labc n a) 24)
  have A4 := Blk.new w7 (labc n a) 24
  clear hb
  generalize w7.heap.size = g7 at *
  generalize w7.alloc _ = W7 at *
  go_upto_region 11 with (first | (refine p_loadL rfl _ rfl _ rfl _ _ (by first | with_reducible exact L0 | with_reducible exact A1 | with_reducible exact A2 | with_reducible exact A3 | with_reducible exact A4) ?_) | (go_at_call 13; (with_reducible refine (h8.calls _).mono ?_); rintro e w8 ⟨rfl, hb⟩) | (refine wpList_store_newrow rfl 24 _ _ rfl (labc m v) rfl rfl infoLab (lab_all _ _) rfl ?_))
  replace L0 := (L0.below hb L0.lt).alloc (.cells (labc m v) 24)
  replace A1 := (A1.below hb A1.lt).alloc (.cells (labc m v) 24)
  replace A2 := (A2.below hb A2.lt).alloc (.cells (labc m v) 24)
  replace A3 := (A3.below hb A3.lt).alloc (.cells (labc m v) 24)
  replace A4 := (A4.below hb A4.lt).alloc (.cells (labc m v) 24)
  replace B0 := (B0.trans (hb.mono B0.size)).alloc (Nat.le_trans B0.size hb.size) (.cells (labc m v) 24)
  have A5 := Blk.new w8 (labc m v) 24
  clear hb
  generalize w8.heap.size = g8 at *
  generalize w8.alloc _ = W8 at *
  go_upto_region 12 with (first | (refine p_loadL rfl _ rfl _ rfl _ _ (by first | with_reducible exact L0 | with_reducible exact A1 | with_reducible exact A2 | with_reducible exact A3 | with_reducible exact A4 | with_reducible exact A5) ?_) | (go_at_call 13; (with_reducible refine (h9.calls _).mono ?_); rintro e w9 ⟨rfl, hb⟩) | (refine wpList_store_newrow rfl 24 _ _ rfl (labc m a) rfl rfl infoLab (lab_all _ _) rfl ?_))
  replace L0 := (L0.below hb L0.lt).alloc (.cells (labc m a) 24)
  replace A1 := (A1.below hb A1.lt).alloc (.cells (labc m a) 24)
  replace A2 := (A2.below hb A2.lt).alloc (.cells (labc m a) 24)
  replace A3 := (A3.below hb A3.lt).alloc (.cells (labc m a) 24)
  replace A4 := (A4.below hb A4.lt).alloc (.cells (labc m a) 24)
  replace A5 := (A5.below hb A5.lt).alloc (.cells (labc m a) 24)
  replace B0 := (B0.trans (hb.mono B0.size)).alloc (Nat.le_trans B0.size hb.size) (.cells (labc m a) 24)
  have A6 := Blk.new w9 (labc m a) 24
  clear hb
  generalize w9.heap.size = g9 at *
  generalize w9.alloc _ = W9 at *
  go_upto_region 14 with (first | (refine p_loadL rfl _ rfl _ rfl _ _ (by first | with_reducible exact L0 | with_reducible exact A1 | with_reducible exact A2 | with_reducible exact A3 | with_reducible exact A4 | with_reducible exact A5 | with_reducible exact A6) ?_) | (go_guarded; refine o_loadL _ rfl _ rfl _ _ (by first | with_reducible exact L0 | with_reducible exact A1 | with_reducible exact A2 | with_reducible exact A3 | with_reducible exact A4 | with_reducible exact A5 | with_reducible exact A6) ?_; simp only [Act.put, List.setIfInBounds_toArray, List.set_cons_succ, List.set_cons_zero]))
  go_upto_region 15 with (first | (refine p_loadL rfl _ rfl _ rfl _ _ (by first | with_reducible exact L0 | with_reducible exact A1 | with_reducible exact A2 | with_reducible exact A3 | with_reducible exact A4 | with_reducible exact A5 | with_reducible exact A6) ?_) | (go_at_call 17; (with_reducible refine (h10.calls _).mono ?_); rintro e w10 ⟨rfl, hb⟩))
  replace L0 := L0.below hb L0.lt
  replace A1 := A1.below hb A1.lt
  replace A2 := A2.below hb A2.lt
  replace A3 := A3.below hb A3.lt
  replace A4 := A4.below hb A4.lt
  replace A5 := A5.below hb A5.lt
  replace A6 := A6.below hb A6.lt
  replace B0 := B0.trans (hb.mono B0.size)
  clear hb
  cases ra <;> cases rb
  · obtain rfl : rl = false := HR.out
    simp only [List.append_eq, List.cons_append, List.nil_append]
    refine wp_region_quiet_below (by kernel_rfl) (by kernel_rfl) ?_
    repeat (first
      | go_big_quiet_skip
      | (go_big_quiet_want
         first
         | (first | refine q_loadL _ rfl _ rfl _ _ (by first | with_reducible exact L0 | with_reducible exact A1 | with_reducible exact A2 | with_reducible exact A3 | with_reducible exact A4 | with_reducible exact A5 | with_reducible exact A6) ?_ | refine q_eqlL _ _ rfl _ _ _ _ rfl rfl (eqL_self _ _) ?_
            simp only [Act.put, List.setIfInBounds_toArray, List.set_cons_succ, List.set_cons_zero]
            go_big_quiet_on)
         | (go_big_quiet_op
            first | go_big_quiet_on | go_big_quiet_call (first | with_reducible exact h11.grown _ _ | with_reducible exact h12.grown _ _ | with_reducible exact h13.grown _ _ | with_reducible exact h14.grown _ _))))
    refine wpQuiet_nil ?_
    intro _ hw'
    obtain ⟨⟨dq, osq⟩, hw''⟩ := hw'
    subst hw''
    replace B0 := B0.trans ((below_regrown _ dq osq).mono B0.size)
    clear L0
    clear A1
    clear A2
    clear A3
    clear A4
    clear A5
    clear A6
    go_wp2
    go_ret
    exact ⟨rfl, B0⟩
  · obtain rfl : rl = true := HR.out
    simp only [List.append_eq, List.cons_append, List.nil_append]
    refine wp_region_quiet_below (by kernel_rfl) (by kernel_rfl) ?_
    repeat (first
      | go_big_quiet_skip
      | (go_big_quiet_want
         first
         | (first | refine q_loadL _ rfl _ rfl _ _ (by first | with_reducible exact L0 | with_reducible exact A1 | with_reducible exact A2 | with_reducible exact A3 | with_reducible exact A4 | with_reducible exact A5 | with_reducible exact A6) ?_ | refine q_eqlL _ _ rfl _ _ _ _ rfl rfl (eqL_self _ _) ?_
            simp only [Act.put, List.setIfInBounds_toArray, List.set_cons_succ, List.set_cons_zero]
            go_big_quiet_on)
         | (go_big_quiet_op
            first | go_big_quiet_on | go_big_quiet_call (first | with_reducible exact h11.grown _ _ | with_reducible exact h12.grown _ _ | with_reducible exact h13.grown _ _ | with_reducible exact h14.grown _ _))))
    refine wpQuiet_nil ?_
    intro _ hw'
    obtain ⟨⟨dq, osq⟩, hw''⟩ := hw'
    subst hw''
    replace B0 := B0.trans ((below_regrown _ dq osq).mono B0.size)
    clear L0
    clear A1
    clear A2
    clear A3
    clear A4
    clear A5
    clear A6
    go_wp2
    go_ret
    exact ⟨rfl, B0⟩
  · obtain rfl : rl = true := HR.out
    simp only [List.append_eq, List.cons_append, List.nil_append]
    refine wp_region_quiet_below (by kernel_rfl) (by kernel_rfl) ?_
    repeat (first
      | go_big_quiet_skip
      | (go_big_quiet_want
         first
         | (first | refine q_loadL _ rfl _ rfl _ _ (by first | with_reducible exact L0 | with_reducible exact A1 | with_reducible exact A2 | with_reducible exact A3 | with_reducible exact A4 | with_reducible exact A5 | with_reducible exact A6) ?_ | refine q_eqlL _ _ rfl _ _ _ _ rfl rfl (eqL_self _ _) ?_
            simp only [Act.put, List.setIfInBounds_toArray, List.set_cons_succ, List.set_cons_zero]
            go_big_quiet_on)
         | (go_big_quiet_op
            first | go_big_quiet_on | go_big_quiet_call (first | with_reducible exact h11.grown _ _ | with_reducible exact h12.grown _ _ | with_reducible exact h13.grown _ _ | with_reducible exact h14.grown _ _))))
    refine wpQuiet_nil ?_
    intro _ hw'
    obtain ⟨⟨dq, osq⟩, hw''⟩ := hw'
    subst hw''
    replace B0 := B0.trans ((below_regrown _ dq osq).mono B0.size)
    clear L0
    clear A1
    clear A2
    clear A3
    clear A4
    clear A5
    clear A6
    go_wp2
    go_ret
    exact ⟨rfl, B0⟩
  · exact absurd HX.out (by decide)

theorem chB_zero (n b : Nat) : chB n b 0 = b := rfl
theorem chB_one (n b : Nat) : chB n b 1 = b + gap (n + 1) := rfl
theorem bit_zero (n b : Nat) (hn : n < 64) (hb : b < 18446744073709551616) (hi : lowB n b = true) : bitAt b n = 0 := by
  have h1 := own_bit n b hn hb (by have := chB_low (bit := 0) hn hi; exact this)
  rw [cutN_self n b (lowB_iff.1 hi)] at h1
  have hg := gap_pos (n + 1)
  unfold chB at h1
  split at h1 <;> omega
theorem cut_child (n b : Nat) (hn : n < 64) (hb : b < 18446744073709551616) (hi : lowB n b = true) : cutN n (b + gap (n + 1)) = b := by
  have h := lowB_iff.1 hi
  have hs := gap_succ n hn
  have hg := gap_pos (n + 1)
  have e : (b + gap (n + 1)) % gap n = gap (n + 1) := by
    rw [Nat.add_mod, h, Nat.zero_add, Nat.mod_mod, Nat.mod_eq_of_lt (by omega)]
  unfold cutN; omega
theorem bit_one (n b : Nat) (hn : n < 64) (hb : b < 18446744073709551616) (hi : lowB n b = true) : bitAt (b + gap (n + 1)) n = 1 := by
  have hlow : lowB (n + 1) (b + gap (n + 1)) = true := chB_low (bit := 1) hn hi
  have hlt : b + gap (n + 1) < 18446744073709551616 := chB_lt (bit := 1) hn hb hi
  have h1 := own_bit n _ hn hlt hlow
  rw [cut_child n b hn hb hi] at h1
  have hx := bitAt_lt (b + gap (n + 1)) n
  have hg := gap_pos (n + 1)
  unfold chB at h1
  split at h1 <;> omega
theorem cut_split (n b key : Nat) (hn : n < 64) (hi : lowB n b = true) : decide (cutN n key = b) = (decide (cutN (n + 1) key = b) || decide (cutN (n + 1) key = b + gap (n + 1))) ∧ (decide (cutN (n + 1) key = b) && decide (cutN (n + 1) key = b + gap (n + 1))) = false := by
  have h := lowB_iff.1 hi
  have hs := gap_succ n hn
  have hg := gap_pos (n + 1)
  have hkm := Nat.div_add_mod b (gap n)
  rw [cutN_mul, cutN_mul]
  have e : key / gap n = key / gap (n + 1) / 2 := by rw [hs, Nat.mul_comm 2, Nat.div_div_eq_div_mul]
  have hq : b = b / gap n * 2 * gap (n + 1) := by
    have : b / gap n * 2 * gap (n + 1) = gap n * (b / gap n) := by rw [hs, Nat.mul_assoc, Nat.mul_comm (b / (2 * gap (n + 1)))]
    omega
  rw [e, hs]
  generalize b / gap n = q at *
  generalize key / gap (n + 1) = x at *
  generalize gap (n + 1) = g at *
  have m1 : x * g = b ↔ x = q * 2 := by rw [hq]; exact Nat.mul_left_inj (by omega)
  have m2 : x * g = b + g ↔ x = q * 2 + 1 := by
    have : b + g = (q * 2 + 1) * g := by rw [Nat.add_mul, Nat.one_mul, ← hq]
    rw [this]; exact Nat.mul_left_inj (by omega)
  have m3 : x / 2 * (2 * g) = b ↔ x / 2 = q := by
    have : b = q * (2 * g) := by rw [← Nat.mul_assoc]; exact hq
    rw [this]; exact Nat.mul_left_inj (by omega)
  constructor
  · rw [Bool.eq_iff_iff]
    simp only [Bool.or_eq_true, decide_eq_true_iff, m1, m2, m3]
    omega
  · rw [Bool.eq_iff_iff]
    simp only [Bool.and_eq_true, decide_eq_true_iff, m1, m2]
    constructor
    · intro h; omega
    · intro h; cases h

theorem walk (n : Int) (b : Nat) (o : (-9223372036854775808 ≤ n ∧ n ≤ 9223372036854775807) ∧ b < 18446744073709551616) (key : Nat) (hk : key < 18446744073709551616) (w : World) : Calls Try.prog 5 #[labv n b, .int .u64 (key : Int)] w fun e w' => e = .returned (.bool true) ∧ Below w.heap.size w w' := by
  obtain ⟨⟨h1, h2⟩, hb⟩ := o
  rcases lab_cases n b with hi | ⟨m, rfl, hm, hi⟩
  · exact childless n b key 1 0 0 1 false w (by decide) (.inl rfl) (fun w => child_no n b 0 w h1 h2 hb hi) (fun w => child_no n b 1 w h1 h2 hb hi) (fun w => span_no n b w h1 h2 hb hi) named_all (fun w => hi ▸ isL_any n b w h1 h2 hb)
  · by_cases h64 : m = 64
    · subst h64
      exact childless 64 b key 5 b (b + (gap 64 - 1)) 0 true w (by decide) (.inr ⟨rfl, by rw [gap_full]; simp, by decide⟩) (fun w => child_full b 0 w hb hi (by omega)) (fun w => child_full b 1 w hb hi (by omega)) (fun w => span_yes 64 b w (by omega) hb hi) named_all (fun w => hi ▸ isL_yes 64 b w (by omega) hb)
    · have hlt : m < 64 := by omega
      have hlow0 : lowB (m + 1) b = true := chB_low (bit := 0) hlt hi
      have hlow1 : lowB (m + 1) (b + gap (m + 1)) = true := chB_low (bit := 1) hlt hi
      have hlt1 : b + gap (m + 1) < 18446744073709551616 := chB_lt (bit := 1) hlt hb hi
      have hs := gap_succ m hlt
      have hg := gap_pos (m + 1)
      have hsp := cut_split m b key hlt hi
      have p4 : Gives Try.prog 15 #[.agg (labc ((m : Int) + 1) b)] (.tuple #[.int .u64 (b : Int), .int .u64 ((b + (gap (m + 1) - 1) : Nat) : Int), .int .i64 0]) := fun w => span_yes (m + 1) b w (by omega) hb hlow0
      have p5 : Gives Try.prog 15 #[.agg (labc ((m : Int) + 1) (b + gap (m + 1)))] (.tuple #[.int .u64 ((b + gap (m + 1) : Nat) : Int), .int .u64 ((b + (gap m - 1) : Nat) : Int), .int .i64 0]) := fun w => by
        have h := span_yes (m + 1) (b + gap (m + 1)) w (by omega) hlt1 hlow1
        rw [show b + gap (m + 1) + (gap (m + 1) - 1) = b + (gap m - 1) by omega] at h
        exact h
      have p6 : Gives Try.prog 11 #[.agg (labc ((m : Int) + 1) (b + gap (m + 1)))] (.tuple #[.agg (labc m b), .int .i64 0]) := fun w => by
        have h := parent_yes m (b + gap (m + 1)) w hlt hlt1 hlow1
        rw [cut_child m b hlt hb hi] at h
        exact h
      have p7 : Gives Try.prog 11 #[.agg (labc ((m : Int) + 1) b)] (.tuple #[.agg (labc m b), .int .i64 0]) := fun w => by
        have h := parent_yes m b w hlt hb hlow0
        rw [cutN_self m b (lowB_iff.1 hi)] at h
        exact h
      have p8 : Gives Try.prog 13 #[.agg (labc ((m : Int) + 1) b)] (.tuple #[.agg (labc ((m : Int) + 1) (b + gap (m + 1))), .int .i64 0]) := fun w => by
        have h := sibling_yes m b w hlt hb hlow0
        rw [cutN_self m b (lowB_iff.1 hi), bit_zero m b hlt hb hi] at h
        exact h
      have p9 : Gives Try.prog 13 #[.agg (labc ((m : Int) + 1) (b + gap (m + 1)))] (.tuple #[.agg (labc ((m : Int) + 1) b), .int .i64 0]) := fun w => by
        have h := sibling_yes m (b + gap (m + 1)) w hlt hlt1 hlow1
        rw [cut_child m b hlt hb hi, bit_one m b hlt hb hi] at h
        exact h
      have p10 : Gives Try.prog 17 #[.agg (labc ((m : Int) + 1) b)] (.tuple #[.int .u64 ((b + gap (m + 1) : Nat) : Int), .bool true]) := fun w => by
        have h := next_yes (m + 1) b (b + (gap (m + 1) - 1)) w (by omega) hb hlow0 rfl (by rw [beq_eq_false_iff_ne]; omega) (by omega)
        rw [show (((b + (gap (m + 1) - 1) : Nat) : Int) + 1) = ((b + gap (m + 1) : Nat) : Int) by omega] at h
        exact h
      exact core m b ((m : Int) + 1) b (b + gap (m + 1)) (b + (gap m - 1)) (b + (gap (m + 1) - 1)) key (decide (cutN m key = b)) (decide (cutN (m + 1) key = b)) (decide (cutN (m + 1) key = b + gap (m + 1))) w rfl (by omega) hsp.1 hsp.2
        (fun w => child_zero m b w hlt hb hi) (fun w => child_one m b w hlt hb hi) (fun w => span_yes m b w hm hb hi) p4 p5 p6 p7 p8 p9 p10 (fun w => covers_yes m b key w hm hb hk hi) (fun w => covers_yes (m + 1) b key w (by omega) hb hk hlow0) (fun w => covers_yes (m + 1) (b + gap (m + 1)) key w (by omega) hlt1 hk hlow1) named_all

set_option maxRecDepth 100000 in
theorem lifted (os : Os) (started : os.Started) (H : Type) (enc : TypeId × Value → H) :
    ReturnsInHanded {} Try.checked os 5 .any (Rows.labelHalvesSpec.pre6 enc Try.prog Try.f5 Rows.labelHalvesRow.domain false) (Rows.labelHalvesSpec.post enc Try.prog Try.f5 false true false false) := by
  refine returnsInHanded_of_change (C := Try.checked) own started (by kernel_rfl) Try.func5
    (ChangeSpec.witness6 (enc := enc) (C := Try.checked) false ⟨#[], #[.agg #[.int .i64 0, .int .u64 0], .int .u64 0], []⟩ 8 (by kernel_rfl) (by kernel_rfl) (by kernel_rfl) (by kernel_rfl)) ?_
  intro W base args ds gs before hval0 hW hcnd _
  have hval : ∀ (j : Nat) t v, Try.f5.params[j]? = some t → args[j]? = some v → Value.okWide Try.prog W .any base t v := hval0
  have hW' := hW
  obtain ⟨p, q, hA0, hV, rfl, hfz, hnd⟩ := hW
  have hA : DataW.TrodAll enc Try.prog W 0 (fun _ => true) true Try.f5.params.toList args.toList ds p := hA0
  rw [Try.params5] at hA hval
  obtain ⟨v0, vs0, d0, ds0, p0, q0, hargs, rfl, rfl, h0, r0⟩ := trodAll_cons hA
  obtain ⟨v1, vs1, d1, ds1, p1, q1, rfl, rfl, rfl, h1, r1⟩ := trodAll_cons r0
  obtain ⟨rfl, rfl, rfl⟩ := trodAll_nil r1
  obtain rfl : args = #[v0, v1] := by cases args; simp_all
  obtain ⟨rfl, rfl⟩ := trodVars_none hV
  have k0 := h0
  have lt0 : ∀ x ∈ p0, x.block < W.heap.size := by obtain ⟨m, hm⟩ := k0; exact DataW.trod_lt m _ _ _ hm
  obtain ⟨n0, b0, ok0, rfl⟩ := open_label (hval 0 24 v0 rfl rfl) h0
  have k1 := h1
  have lt1 : ∀ x ∈ p1, x.block < W.heap.size := by obtain ⟨m, hm⟩ := k1; exact DataW.trod_lt m _ _ _ hm
  obtain ⟨n1, ok1, rfl⟩ := open_u64 (hval 1 22 v1 rfl rfl) h1
  clear hA0 hval0
  refine (walk n0 b0 ok0 n1 ok1 W ).mono fun e W' ⟨he, bel⟩ => ?_
  subst he
  exact ⟨_, rfl, _, _, _, [], _, [], hW', trodAll_mk1 (shut_bool Try.underlying4 _), (trodAll_cons_mk (Below.trod laidOut (by kernel_rfl) (of_decide_eq_true (by kernel_rfl)) k0 bel lt0) (trodAll_cons_mk (Below.trod laidOut (by kernel_rfl) (of_decide_eq_true (by kernel_rfl)) k1 bel lt1) trodAll_mk0)), rfl, bel.frame _, fun h => by cases h⟩

theorem proved : Rows.LabelHalvesSaid :=
  OpenClaim.holds_of_wide 5 Try.f5 rfl rfl rfl rfl rfl rfl rfl ⟨rfl, rfl, rfl, rfl, rfl⟩ rfl rfl rfl rfl rfl (by kernel_rfl) Try.func5 (by kernel_rfl)
    (of_decide_eq_true (by kernel_rfl)) (by unfold Func.isWrapper; first | (rw [if_pos (by decide +kernel)]; kernel_rfl) | (rw [if_neg (by decide +kernel)]; exact ⟨rfl, rfl⟩))
    (fun os started H enc _ => lifted os started H enc)
end Go.Proofs.Ytbihggfnhcpieaa.LabHalvesLaw
