/- LabelDoes: for every label and number the call returns true: the program and the document tell the same child, parent, sibling, span, next key, text and place, and whether it is a label. No condition. -/
import Derived.Test.YtbihggfnhcpieaaLabNamed
import Derived.Test.YtbihggfnhcpieaaLabOpen
import Derived.Test.YtbihggfnhcpieaaOwn
namespace Go.Proofs.Ytbihggfnhcpieaa.LabDoesLaw
open Go.ChangeShapes Go.WideShapes Go.ChangeAt Go.RowKit Go.Sort
open Go.ChangeMaps (open_string shut_string)
set_option linter.unusedVariables false

set_option maxRecDepth 100000 in
set_option maxHeartbeats 4000000 in
theorem core (n : Int) (b : Nat) (bit : Int) (m1 m2 m3 : Int) (c1 c2 c3 : Nat) (e1 e2 e3 : Int) (x4 y4 : Nat) (e4 : Int) (x5 : Int) (r5 : Bool) (X6 : ByteArray) (e6 : Int) (N7 : Nat) (e7 : Int) (r8 : Bool) (w : World)
    (h1 : Gives Try.prog 9 #[.agg (labc n b), .int .i64 bit] (.tuple #[.agg (labc m1 c1), .int .i64 e1]))
    (h2 : Gives Try.prog 10 #[.agg (labc n b), .int .i64 bit] (.tuple #[.agg (labc m1 c1), .int .i64 e1]))
    (h3 : Gives Try.prog 11 #[.agg (labc n b)] (.tuple #[.agg (labc m2 c2), .int .i64 e2]))
    (h4 : Gives Try.prog 12 #[.agg (labc n b)] (.tuple #[.agg (labc m2 c2), .int .i64 e2]))
    (h5 : Gives Try.prog 13 #[.agg (labc n b)] (.tuple #[.agg (labc m3 c3), .int .i64 e3]))
    (h6 : Gives Try.prog 14 #[.agg (labc n b)] (.tuple #[.agg (labc m3 c3), .int .i64 e3]))
    (h7 : Gives Try.prog 15 #[.agg (labc n b)] (.tuple #[.int .u64 (x4 : Int), .int .u64 (y4 : Int), .int .i64 e4]))
    (h8 : Gives Try.prog 16 #[.agg (labc n b)] (.tuple #[.int .u64 (x4 : Int), .int .u64 (y4 : Int), .int .i64 e4]))
    (h9 : Gives Try.prog 17 #[.agg (labc n b)] (.tuple #[.int .u64 x5, .bool r5]))
    (h10 : Gives Try.prog 18 #[.agg (labc n b)] (.tuple #[.int .u64 x5, .bool r5]))
    (h11 : Gives Try.prog 19 #[.agg (labc n b)] (.tuple #[.string X6, .int .i64 e6]))
    (h12 : Gives Try.prog 20 #[.agg (labc n b)] (.tuple #[.string X6, .int .i64 e6]))
    (h13 : Gives Try.prog 21 #[.agg (labc n b)] (.tuple #[.agg (row (dig 20 N7)), .int .i64 e7]))
    (h14 : Gives Try.prog 22 #[.agg (labc n b)] (.tuple #[.agg (row (dig 20 N7)), .int .i64 e7]))
    (h15 : Gives Try.prog 24 #[.agg (labc n b)] (.bool r8))
    (h16 : Gives Try.prog 25 #[.agg (labc n b)] (.bool r8))
    (h17 : Gives Try.prog 23 #[] (.bool true)) :
    Calls Try.prog 3 #[labv n b, .int .i64 bit] w fun e w' => e = .returned (.bool true) ∧ Below w.heap.size w w' := by
  rw [labv_eq]
  go_enter Try.func3, Try.ntmps3
  go_upto_region 1 with (fail)
  have L0 := Blk.new w (labc n b) 24
  have B0 := ((Below.refl w.heap.size w).alloc (Nat.le_refl _) (.cells (labc n b) 24))
  generalize World.alloc _ _ = W0 at *
  go_upto_region 2 with (first | (refine p_loadL rfl _ rfl _ rfl _ _ (by first | with_reducible exact L0) ?_) | (go_at_call 9; (with_reducible refine (h1.calls _).mono ?_); rintro e w1 ⟨rfl, hb⟩) | (refine wpList_store_newrow rfl 24 _ _ rfl (labc m1 c1) rfl rfl infoLab (lab_all _ _) rfl ?_))
  replace L0 := (L0.below hb L0.lt).alloc (.cells (labc m1 c1) 24)
  replace B0 := (B0.trans (hb.mono B0.size)).alloc (Nat.le_trans B0.size hb.size) (.cells (labc m1 c1) 24)
  have A1 := Blk.new w1 (labc m1 c1) 24
  clear hb
  generalize w1.heap.size = g1 at *
  generalize w1.alloc _ = W1 at *
  go_upto_region 3 with (first | (refine p_loadL rfl _ rfl _ rfl _ _ (by first | with_reducible exact L0 | with_reducible exact A1) ?_) | (go_at_call 10; (with_reducible refine (h2.calls _).mono ?_); rintro e w2 ⟨rfl, hb⟩) | (refine wpList_store_newrow rfl 24 _ _ rfl (labc m1 c1) rfl rfl infoLab (lab_all _ _) rfl ?_))
  replace L0 := (L0.below hb L0.lt).alloc (.cells (labc m1 c1) 24)
  replace A1 := (A1.below hb A1.lt).alloc (.cells (labc m1 c1) 24)
  replace B0 := (B0.trans (hb.mono B0.size)).alloc (Nat.le_trans B0.size hb.size) (.cells (labc m1 c1) 24)
  have A2 := Blk.new w2 (labc m1 c1) 24
  clear hb
  generalize w2.heap.size = g2 at *
  generalize w2.alloc _ = W2 at *
  go_upto_region 4 with (first | (refine p_loadL rfl _ rfl _ rfl _ _ (by first | with_reducible exact L0 | with_reducible exact A1 | with_reducible exact A2) ?_) | (go_at_call 11; (with_reducible refine (h3.calls _).mono ?_); rintro e w3 ⟨rfl, hb⟩) | (refine wpList_store_newrow rfl 24 _ _ rfl (labc m2 c2) rfl rfl infoLab (lab_all _ _) rfl ?_))
  replace L0 := (L0.below hb L0.lt).alloc (.cells (labc m2 c2) 24)
  replace A1 := (A1.below hb A1.lt).alloc (.cells (labc m2 c2) 24)
  replace A2 := (A2.below hb A2.lt).alloc (.cells (labc m2 c2) 24)
  replace B0 := (B0.trans (hb.mono B0.size)).alloc (Nat.le_trans B0.size hb.size) (.cells (labc m2 c2) 24)
  have A3 := Blk.new w3 (labc m2 c2) 24
  clear hb
  generalize w3.heap.size = g3 at *
  generalize w3.alloc _ = W3 at *
  go_upto_region 5 with (first | (refine p_loadL rfl _ rfl _ rfl _ _ (by first | with_reducible exact L0 | with_reducible exact A1 | with_reducible exact A2 | with_reducible exact A3) ?_) | (go_at_call 12; (with_reducible refine (h4.calls _).mono ?_); rintro e w4 ⟨rfl, hb⟩) | (refine wpList_store_newrow rfl 24 _ _ rfl (labc m2 c2) rfl rfl infoLab (lab_all _ _) rfl ?_))
  replace L0 := (L0.below hb L0.lt).alloc (.cells (labc m2 c2) 24)
  replace A1 := (A1.below hb A1.lt).alloc (.cells (labc m2 c2) 24)
  replace A2 := (A2.below hb A2.lt).alloc (.cells (labc m2 c2) 24)
  replace A3 := (A3.below hb A3.lt).alloc (.cells (labc m2 c2) 24)
  replace B0 := (B0.trans (hb.mono B0.size)).alloc (Nat.le_trans B0.size hb.size) (.cells (labc m2 c2) 24)
  have A4 := Blk.new w4 (labc m2 c2) 24
  clear hb
  generalize w4.heap.size = g4 at *
  generalize w4.alloc _ = W4 at *
  go_upto_region 6 with (first | (refine p_loadL rfl _ rfl _ rfl _ _ (by first | with_reducible exact L0 | with_reducible exact A1 | with_reducible exact A2 | with_reducible exact A3 | with_reducible exact A4) ?_) | (go_at_call 13; (with_reducible refine (h5.calls _).mono ?_); rintro e w5 ⟨rfl, hb⟩) | (refine wpList_store_newrow rfl 24 _ _ rfl (labc m3 c3) rfl rfl infoLab (lab_all _ _) rfl ?_))
  replace L0 := (L0.below hb L0.lt).alloc (.cells (labc m3 c3) 24)
  replace A1 := (A1.below hb A1.lt).alloc (.cells (labc m3 c3) 24)
  replace A2 := (A2.below hb A2.lt).alloc (.cells (labc m3 c3) 24)
  replace A3 := (A3.below hb A3.lt).alloc (.cells (labc m3 c3) 24)
  replace A4 := (A4.below hb A4.lt).alloc (.cells (labc m3 c3) 24)
  replace B0 := (B0.trans (hb.mono B0.size)).alloc (Nat.le_trans B0.size hb.size) (.cells (labc m3 c3) 24)
  have A5 := Blk.new w5 (labc m3 c3) 24
  clear hb
  generalize w5.heap.size = g5 at *
  generalize w5.alloc _ = W5 at *
  go_upto_region 7 with (first | (refine p_loadL rfl _ rfl _ rfl _ _ (by first | with_reducible exact L0 | with_reducible exact A1 | with_reducible exact A2 | with_reducible exact A3 | with_reducible exact A4 | with_reducible exact A5) ?_) | (go_at_call 14; (with_reducible refine (h6.calls _).mono ?_); rintro e w6 ⟨rfl, hb⟩) | (refine wpList_store_newrow rfl 24 _ _ rfl (labc m3 c3) rfl rfl infoLab (lab_all _ _) rfl ?_))
  replace L0 := (L0.below hb L0.lt).alloc (.cells (labc m3 c3) 24)
  replace A1 := (A1.below hb A1.lt).alloc (.cells (labc m3 c3) 24)
  replace A2 := (A2.below hb A2.lt).alloc (.cells (labc m3 c3) 24)
  replace A3 := (A3.below hb A3.lt).alloc (.cells (labc m3 c3) 24)
  replace A4 := (A4.below hb A4.lt).alloc (.cells (labc m3 c3) 24)
  replace A5 := (A5.below hb A5.lt).alloc (.cells (labc m3 c3) 24)
  replace B0 := (B0.trans (hb.mono B0.size)).alloc (Nat.le_trans B0.size hb.size) (.cells (labc m3 c3) 24)
  have A6 := Blk.new w6 (labc m3 c3) 24
  clear hb
  generalize w6.heap.size = g6 at *
  generalize w6.alloc _ = W6 at *
  go_upto_region 8 with (first | (refine p_loadL rfl _ rfl _ rfl _ _ (by first | with_reducible exact L0 | with_reducible exact A1 | with_reducible exact A2 | with_reducible exact A3 | with_reducible exact A4 | with_reducible exact A5 | with_reducible exact A6) ?_) | (go_at_call 15; (with_reducible refine (h7.calls _).mono ?_); rintro e w7 ⟨rfl, hb⟩))
  replace L0 := L0.below hb L0.lt
  replace A1 := A1.below hb A1.lt
  replace A2 := A2.below hb A2.lt
  replace A3 := A3.below hb A3.lt
  replace A4 := A4.below hb A4.lt
  replace A5 := A5.below hb A5.lt
  replace A6 := A6.below hb A6.lt
  replace B0 := B0.trans (hb.mono B0.size)
  clear hb
  go_upto_region 9 with (first | (refine p_loadL rfl _ rfl _ rfl _ _ (by first | with_reducible exact L0 | with_reducible exact A1 | with_reducible exact A2 | with_reducible exact A3 | with_reducible exact A4 | with_reducible exact A5 | with_reducible exact A6) ?_) | (go_at_call 16; (with_reducible refine (h8.calls _).mono ?_); rintro e w8 ⟨rfl, hb⟩))
  replace L0 := L0.below hb L0.lt
  replace A1 := A1.below hb A1.lt
  replace A2 := A2.below hb A2.lt
  replace A3 := A3.below hb A3.lt
  replace A4 := A4.below hb A4.lt
  replace A5 := A5.below hb A5.lt
  replace A6 := A6.below hb A6.lt
  replace B0 := B0.trans (hb.mono B0.size)
  clear hb
  go_upto_region 10 with (first | (refine p_loadL rfl _ rfl _ rfl _ _ (by first | with_reducible exact L0 | with_reducible exact A1 | with_reducible exact A2 | with_reducible exact A3 | with_reducible exact A4 | with_reducible exact A5 | with_reducible exact A6) ?_) | (go_at_call 17; (with_reducible refine (h9.calls _).mono ?_); rintro e w9 ⟨rfl, hb⟩))
  replace L0 := L0.below hb L0.lt
  replace A1 := A1.below hb A1.lt
  replace A2 := A2.below hb A2.lt
  replace A3 := A3.below hb A3.lt
  replace A4 := A4.below hb A4.lt
  replace A5 := A5.below hb A5.lt
  replace A6 := A6.below hb A6.lt
  replace B0 := B0.trans (hb.mono B0.size)
  clear hb
  go_upto_region 11 with (first | (refine p_loadL rfl _ rfl _ rfl _ _ (by first | with_reducible exact L0 | with_reducible exact A1 | with_reducible exact A2 | with_reducible exact A3 | with_reducible exact A4 | with_reducible exact A5 | with_reducible exact A6) ?_) | (go_at_call 18; (with_reducible refine (h10.calls _).mono ?_); rintro e w10 ⟨rfl, hb⟩))
  replace L0 := L0.below hb L0.lt
  replace A1 := A1.below hb A1.lt
  replace A2 := A2.below hb A2.lt
  replace A3 := A3.below hb A3.lt
  replace A4 := A4.below hb A4.lt
  replace A5 := A5.below hb A5.lt
  replace A6 := A6.below hb A6.lt
  replace B0 := B0.trans (hb.mono B0.size)
  clear hb
  go_upto_region 12 with (first | (refine p_loadL rfl _ rfl _ rfl _ _ (by first | with_reducible exact L0 | with_reducible exact A1 | with_reducible exact A2 | with_reducible exact A3 | with_reducible exact A4 | with_reducible exact A5 | with_reducible exact A6) ?_) | (go_at_call 19; (with_reducible refine (h11.calls _).mono ?_); rintro e w11 ⟨rfl, hb⟩))
  replace L0 := L0.below hb L0.lt
  replace A1 := A1.below hb A1.lt
  replace A2 := A2.below hb A2.lt
  replace A3 := A3.below hb A3.lt
  replace A4 := A4.below hb A4.lt
  replace A5 := A5.below hb A5.lt
  replace A6 := A6.below hb A6.lt
  replace B0 := B0.trans (hb.mono B0.size)
  clear hb
  go_upto_region 13 with (first | (refine p_loadL rfl _ rfl _ rfl _ _ (by first | with_reducible exact L0 | with_reducible exact A1 | with_reducible exact A2 | with_reducible exact A3 | with_reducible exact A4 | with_reducible exact A5 | with_reducible exact A6) ?_) | (go_at_call 20; (with_reducible refine (h12.calls _).mono ?_); rintro e w12 ⟨rfl, hb⟩))
  replace L0 := L0.below hb L0.lt
  replace A1 := A1.below hb A1.lt
  replace A2 := A2.below hb A2.lt
  replace A3 := A3.below hb A3.lt
  replace A4 := A4.below hb A4.lt
  replace A5 := A5.below hb A5.lt
  replace A6 := A6.below hb A6.lt
  replace B0 := B0.trans (hb.mono B0.size)
  clear hb
  go_upto_region 14 with (first | (refine p_loadL rfl _ rfl _ rfl _ _ (by first | with_reducible exact L0 | with_reducible exact A1 | with_reducible exact A2 | with_reducible exact A3 | with_reducible exact A4 | with_reducible exact A5 | with_reducible exact A6) ?_) | (go_at_call 21; (with_reducible refine (h13.calls _).mono ?_); rintro e w13 ⟨rfl, hb⟩) | (refine wpList_store_newrow rfl 36 _ _ rfl (row (dig 20 N7)) rfl rfl (infoDig _) (row8_one _) (by rw [row_size, dig_length]; rfl) ?_))
  replace L0 := (L0.below hb L0.lt).alloc (.cells (row (dig 20 N7)) 36)
  replace A1 := (A1.below hb A1.lt).alloc (.cells (row (dig 20 N7)) 36)
  replace A2 := (A2.below hb A2.lt).alloc (.cells (row (dig 20 N7)) 36)
  replace A3 := (A3.below hb A3.lt).alloc (.cells (row (dig 20 N7)) 36)
  replace A4 := (A4.below hb A4.lt).alloc (.cells (row (dig 20 N7)) 36)
  replace A5 := (A5.below hb A5.lt).alloc (.cells (row (dig 20 N7)) 36)
  replace A6 := (A6.below hb A6.lt).alloc (.cells (row (dig 20 N7)) 36)
  replace B0 := (B0.trans (hb.mono B0.size)).alloc (Nat.le_trans B0.size hb.size) (.cells (row (dig 20 N7)) 36)
  have A13 := Blk.new w13 (row (dig 20 N7)) 36
  clear hb
  generalize w13.heap.size = g13 at *
  generalize w13.alloc _ = W13 at *
  go_upto_region 15 with (first | (refine p_loadL rfl _ rfl _ rfl _ _ (by first | with_reducible exact L0 | with_reducible exact A1 | with_reducible exact A2 | with_reducible exact A3 | with_reducible exact A4 | with_reducible exact A5 | with_reducible exact A6) ?_) | (refine p_loadI rfl _ rfl _ rfl _ (by first | with_reducible exact A13) ?_) | (go_at_call 22; (with_reducible refine (h14.calls _).mono ?_); rintro e w14 ⟨rfl, hb⟩) | (refine wpList_store_newrow rfl 36 _ _ rfl (row (dig 20 N7)) rfl rfl (infoDig _) (row8_one _) (by rw [row_size, dig_length]; rfl) ?_))
  replace L0 := (L0.below hb L0.lt).alloc (.cells (row (dig 20 N7)) 36)
  replace A1 := (A1.below hb A1.lt).alloc (.cells (row (dig 20 N7)) 36)
  replace A2 := (A2.below hb A2.lt).alloc (.cells (row (dig 20 N7)) 36)
  replace A3 := (A3.below hb A3.lt).alloc (.cells (row (dig 20 N7)) 36)
  replace A4 := (A4.below hb A4.lt).alloc (.cells (row (dig 20 N7)) 36)
  replace A5 := (A5.below hb A5.lt).alloc (.cells (row (dig 20 N7)) 36)
  replace A6 := (A6.below hb A6.lt).alloc (.cells (row (dig 20 N7)) 36)
  replace A13 := (A13.below hb A13.lt).alloc (.cells (row (dig 20 N7)) 36)
  replace B0 := (B0.trans (hb.mono B0.size)).alloc (Nat.le_trans B0.size hb.size) (.cells (row (dig 20 N7)) 36)
  have A14 := Blk.new w14 (row (dig 20 N7)) 36
  clear hb
  generalize w14.heap.size = g14 at *
  generalize w14.alloc _ = W14 at *
  go_upto_region 16 with (first | (refine p_loadL rfl _ rfl _ rfl _ _ (by first | with_reducible exact L0 | with_reducible exact A1 | with_reducible exact A2 | with_reducible exact A3 | with_reducible exact A4 | with_reducible exact A5 | with_reducible exact A6) ?_) | (go_guarded; refine o_loadL _ rfl _ rfl _ _ (by first | with_reducible exact L0 | with_reducible exact A1 | with_reducible exact A2 | with_reducible exact A3 | with_reducible exact A4 | with_reducible exact A5 | with_reducible exact A6) ?_; simp only [Act.put, List.setIfInBounds_toArray, List.set_cons_succ, List.set_cons_zero]) | (refine p_loadI rfl _ rfl _ rfl _ (by first | with_reducible exact A13 | with_reducible exact A14) ?_) | (go_guarded; refine o_loadI _ rfl _ rfl _ (by first | with_reducible exact A13 | with_reducible exact A14) ?_; simp only [Act.put, List.setIfInBounds_toArray, List.set_cons_succ, List.set_cons_zero]) | (refine p_eqlL rfl _ _ rfl _ _ _ _ rfl rfl (eqL_self _ _) ?_) | (go_guarded; refine o_eqlL _ _ rfl _ _ _ _ rfl rfl (eqL_self _ _) ?_; simp only [Act.put, List.setIfInBounds_toArray, List.set_cons_succ, List.set_cons_zero]))
  refine wp_region_quiet_below (by kernel_rfl) (by kernel_rfl) ?_
  repeat (first
    | go_big_quiet_skip
    | (go_big_quiet_want
       first
       | (first | refine q_loadL _ rfl _ rfl _ _ (by first | with_reducible exact L0 | with_reducible exact A1 | with_reducible exact A2 | with_reducible exact A3 | with_reducible exact A4 | with_reducible exact A5 | with_reducible exact A6) ?_ | refine q_loadI _ rfl _ rfl _ (by first | with_reducible exact A13 | with_reducible exact A14) ?_ | refine q_eql _ _ rfl _ _ rfl rfl (eqB_self _) ?_
          simp only [Act.put, List.setIfInBounds_toArray, List.set_cons_succ, List.set_cons_zero]
          go_big_quiet_on)
       | (go_big_quiet_op
          first | go_big_quiet_on | go_big_quiet_call (first | with_reducible exact h15.grown _ _ | with_reducible exact h16.grown _ _ | with_reducible exact h17.grown _ _))))
  refine wpQuiet_nil ?_
  intro _ hw'
  obtain ⟨⟨dq, osq⟩, hw''⟩ := hw'
  subst hw''
  replace B0 := B0.trans ((below_regrown _ dq osq).mono B0.size)
  clear L0
  clear A1
  clear A2
  clear A3
  clear A4
  clear A5
  clear A6
  clear A13
  clear A14
  go_wp2
  go_ret
  exact ⟨rfl, B0⟩

theorem walk (n : Int) (b : Nat) (o : (-9223372036854775808 ≤ n ∧ n ≤ 9223372036854775807) ∧ b < 18446744073709551616) (bit : Int) (w : World) : Calls Try.prog 3 #[labv n b, .int .i64 bit] w fun e w' => e = .returned (.bool true) ∧ Below w.heap.size w w' := by
  obtain ⟨⟨h1, h2⟩, hb⟩ := o
  obtain ⟨m1, c1, e1, p1, q1⟩ := both_child n b h1 h2 hb bit
  obtain ⟨m2, c2, e2, p2, q2⟩ := both_parent n b h1 h2 hb
  obtain ⟨m3, c3, e3, p3, q3⟩ := both_sibling n b h1 h2 hb
  obtain ⟨x4, y4, e4, p4, q4⟩ := both_span n b h1 h2 hb
  obtain ⟨x5, r5, p5, q5⟩ := both_next n b h1 h2 hb
  obtain ⟨X6, e6, _, _, p6, q6⟩ := both_text n b h1 h2 hb
  obtain ⟨N7, e7, p7, q7⟩ := both_place n b h1 h2 hb
  exact core n b bit m1 m2 m3 c1 c2 c3 e1 e2 e3 x4 y4 e4 x5 r5 X6 e6 N7 e7 (isB n b) w p1 q1 p2 q2 p3 q3 p4 q4 p5 q5 p6 q6 p7 q7 (fun w => isL_any n b w h1 h2 hb) (fun w => refIs_any n b w hb) named_all

set_option maxRecDepth 100000 in
theorem lifted (os : Os) (started : os.Started) (H : Type) (enc : TypeId × Value → H) :
    ReturnsInHanded {} Try.checked os 3 .any (Rows.labelDoesSpec.pre6 enc Try.prog Try.f3 Rows.labelDoesRow.domain false) (Rows.labelDoesSpec.post enc Try.prog Try.f3 false true false false) := by
  refine returnsInHanded_of_change (C := Try.checked) own started (by kernel_rfl) Try.func3
    (ChangeSpec.witness6 (enc := enc) (C := Try.checked) false ⟨#[], #[.agg #[.int .i64 0, .int .u64 0], .int .i64 0], []⟩ 8 (by kernel_rfl) (by kernel_rfl) (by kernel_rfl) (by kernel_rfl)) ?_
  intro W base args ds gs before hval0 hW hcnd _
  have hval : ∀ (j : Nat) t v, Try.f3.params[j]? = some t → args[j]? = some v → Value.okWide Try.prog W .any base t v := hval0
  have hW' := hW
  obtain ⟨p, q, hA0, hV, rfl, hfz, hnd⟩ := hW
  have hA : DataW.TrodAll enc Try.prog W 0 (fun _ => true) true Try.f3.params.toList args.toList ds p := hA0
  rw [Try.params3] at hA hval
  obtain ⟨v0, vs0, d0, ds0, p0, q0, hargs, rfl, rfl, h0, r0⟩ := trodAll_cons hA
  obtain ⟨v1, vs1, d1, ds1, p1, q1, rfl, rfl, rfl, h1, r1⟩ := trodAll_cons r0
  obtain ⟨rfl, rfl, rfl⟩ := trodAll_nil r1
  obtain rfl : args = #[v0, v1] := by cases args; simp_all
  obtain ⟨rfl, rfl⟩ := trodVars_none hV
  have k0 := h0
  have lt0 : ∀ x ∈ p0, x.block < W.heap.size := by obtain ⟨m, hm⟩ := k0; exact DataW.trod_lt m _ _ _ hm
  obtain ⟨n0, b0, ok0, rfl⟩ := open_label (hval 0 24 v0 rfl rfl) h0
  have k1 := h1
  have lt1 : ∀ x ∈ p1, x.block < W.heap.size := by obtain ⟨m, hm⟩ := k1; exact DataW.trod_lt m _ _ _ hm
  obtain ⟨n1, rfl, _, _, wf1⟩ := open_int Try.underlying3 (hval 1 3 v1 rfl rfl) h1
  clear hA0 hval0
  refine (walk n0 b0 ok0 n1 W ).mono fun e W' ⟨he, bel⟩ => ?_
  subst he
  exact ⟨_, rfl, _, _, _, [], _, [], hW', trodAll_mk1 (shut_bool Try.underlying4 _), (trodAll_cons_mk (Below.trod laidOut (by kernel_rfl) (of_decide_eq_true (by kernel_rfl)) k0 bel lt0) (trodAll_cons_mk (Below.trod laidOut (by kernel_rfl) (of_decide_eq_true (by kernel_rfl)) k1 bel lt1) trodAll_mk0)), rfl, bel.frame _, fun h => by cases h⟩

theorem proved : Rows.LabelDoesSaid :=
  OpenClaim.holds_of_wide 3 Try.f3 rfl rfl rfl rfl rfl rfl rfl ⟨rfl, rfl, rfl, rfl, rfl⟩ rfl rfl rfl rfl rfl (by kernel_rfl) Try.func3 (by kernel_rfl)
    (of_decide_eq_true (by kernel_rfl)) (by unfold Func.isWrapper; first | (rw [if_pos (by decide +kernel)]; kernel_rfl) | (rw [if_neg (by decide +kernel)]; exact ⟨rfl, rfl⟩))
    (fun os started H enc _ => lifted os started H enc)
end Go.Proofs.Ytbihggfnhcpieaa.LabDoesLaw
